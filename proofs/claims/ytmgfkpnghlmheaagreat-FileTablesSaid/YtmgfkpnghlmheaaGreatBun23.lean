/- Merged. -/
import Derived.Test.YtmgfkpnghlmheaaGreatBun17
import Derived.Test.YtmgfkpnghlmheaaGreatBun18
import Derived.Test.YtmgfkpnghlmheaaGreatBun22
set_option maxHeartbeats 4000000
namespace Go.Hm
open Go Go.RowKit
def z9m(c:zab):Nat:=if c.1 then 0 else 1
def zcb(l:List zab):List Nat:=l.map z9m
def zbz(l:List zab):List zab:=l.filter fun c=> !c.1
def nullC:zab:=(true,0,[],0,0)
theorem zek(l:List zab):(zcb l).length=l.length:=by simp[zcb]
theorem zzr(l:List zab):∀x∈zcb l,x<2^1:=by intro x hx;obtain⟨c,_,rfl⟩:=List.mem_map.1 hx;unfold z9m;split<;> decide
theorem z19(l:List zab)(k:Nat)(h:k<l.length):zcb (l.take (k+1))=zcb (l.take k)++[z9m (l.getD k (false,0,[],0,0))]:=by rw[zae l k (false,0,[],0,0) h,zcb,List.map_append];rfl
theorem z6k(l:List zab)(k:Nat)(h:k<l.length):zbz (l.take (k+1))=zbz (l.take k)++(if(l.getD k (false,0,[],0,0)).1 then [] else [l.getD k (false,0,[],0,0)]):=by
 rw[zae l k (false,0,[],0,0) h,zbz,List.filter_append];congr 1
 generalize l.getD k (false,0,[],0,0)=c;cases hh:c.1<;> simp[hh]
theorem znj(l:List zab):(zbz l).length<=l.length:=List.length_filter_le _ _
def zp8(o:Option (List Nat)):Int:=match o with|none=> -1|some m=>(m.sum:Nat)
def zf1:List Nat->List zab->Option (List zab)
 | [],_=>some []
 |x::m,r=>if x=0 then(zf1 m r).map (nullC:: ·) else match r with
  | []=>none
  |c::r=>if c.1 then none else(zf1 m r).map (c:: ·)
theorem zlx(x:Nat)(m:List Nat)(r:List zab):zf1 (x::m) r=if x=0 then(zf1 m r).map (nullC:: ·) else match r with
 | []=>none
 |c::r=>if c.1 then none else(zf1 m r).map (c:: ·):=by
 cases r<;> rfl
def zow(o:Option (List Nat))(r:List zab):Option (List zab):=match o with|none=>none|some m=>if m.sum=r.length then zf1 m r else none
theorem zq9{m:List Nat}{r:List zab}{k q:Nat}(hk:k<m.length):zf1 (m.drop k) (r.drop q)=
 if m.getD k 0=0 then(zf1 (m.drop (k+1)) (r.drop q)).map (nullC:: ·) else match r.drop q with
 | []=>none
 |c::r'=>if c.1 then none else(zf1 (m.drop (k+1)) r').map (c:: ·):=by
 rw[zd0 m k 0 hk];cases r.drop q<;> rfl
theorem z6l{m:List Nat}{r:List zab}{k q:Nat}(hk:k<m.length)(h0: ¬m.getD k 0=0)(hq:q<r.length):zf1 (m.drop k) (r.drop q)=
 if(r.getD q (false,0,[],0,0)).1 then none else(zf1 (m.drop (k+1)) (r.drop (q+1))).map (r.getD q (false,0,[],0,0):: ·):=by
 rw[zq9 hk,if_neg h0,zd0 r q (false,0,[],0,0) hq]
theorem z6m{m:List Nat}{r:List zab}{q:Nat}:zf1 (m.drop m.length) (r.drop q)=some []:=by rw[List.drop_length];rfl
theorem zzs{m:List Nat}{k:Nat}(hk:k<m.length):(m.take (k+1)).sum=(m.take k).sum+m.getD k 0:=by rw[zae m k 0 hk];simp
theorem zmk{m:List Nat}(k:Nat):(m.take k).sum<=m.sum:=by have:=congrArg List.sum (List.take_append_drop k m);rw[List.sum_append] at this;omega
theorem zzt(l:List zab):(zcb l).sum=(zbz l).length:=by
 induction l with
 |nil=>rfl
 |cons c l ih=>
  cases h:c.1<;> simp[zcb,zbz,z9m,h] at ih⊢ <;> omega
def zu0(c:zab):zab:=if c.1 then nullC else c
theorem zra(l:List zab):zf1 (zcb l) (zbz l)=some (l.map zu0):=by
 induction l with
 |nil=>rfl
 |cons c l ih=>
  cases h:c.1
  ·have e1:zcb (c::l)=1::zcb l:=by simp[zcb,z9m,h]
   have e2:zbz (c::l)=c::zbz l:=by simp[zbz,h]
   rw[e1,e2,zlx,if_neg (by omega)];simp only[h,Bool.false_eq_true,if_false];rw[ih];simp[zu0,h]
  ·have e1:zcb (c::l)=0::zcb l:=by simp[zcb,z9m,h]
   have e2:zbz (c::l)=zbz l:=by simp[zbz,h]
   rw[e1,e2,zlx,if_pos rfl,ih];simp[zu0,h]
theorem zly:∀(m:List Nat) (r x:List zab),(∀y∈m,y<2^1)->m.sum=r.length->zf1 m r=some x->zcb x=m/\zbz x=r/\x.length=m.length
 | [],r,x,_,hs,h=>by
   simp[zf1] at h;subst h;have:r=[]:=List.length_eq_zero_iff.1 (by simpa using hs.symm);subst this;exact⟨rfl,rfl,rfl⟩
 |y::m,r,x,hm,hs,h=>by
  rw[zlx] at h;have hy:=hm y (by simp);have hm':∀z∈m,z<2^1:=fun z hz=>hm z (by simp[hz])
  split at h
  ·rename_i h0
   subst h0;cases hj:zf1 m r with
   |none=>rw[hj] at h;cases h
   |some x'=>
    rw[hj] at h;simp at h;subst h;obtain⟨a,b,c⟩:=zly m r x' hm' (by simpa using hs) hj;exact⟨by simp[zcb,nullC,z9m] at a⊢;exact a,by simp[zbz,nullC] at b⊢;exact b,by simp[c]⟩
  ·rename_i h0
   have hy1:y=1:=by omega
   subst hy1;cases r with
   |nil=>simp at h
   |cons c r=>
    simp only at h;split at h
    ·cases h
    ·rename_i hc
     cases hj:zf1 m r with
     |none=>rw[hj] at h;cases h
     |some x'=>
      rw[hj] at h;simp at h;subst h;have hc':c.1=false:=by simpa using hc
      obtain⟨a,b,d⟩:=zly m r x' hm' (by simp at hs;omega) hj;exact⟨by simp[zcb,z9m,hc'] at a⊢;exact a,by simp[zbz,hc'] at b⊢;exact b,by simp[d]⟩
end Go.Hm
namespace Go.Proofs.Y
open Go.RowKit Go.Hm
theorem zk0(l:List zab):wid (zcb l)<=1/\ ∀x∈zcb l,x<=18446744073709551615:=by
 have hb:∀x∈zcb l,x<=18446744073709551615:=fun x hx=>by have:=zzr l x hx;omega
 exact⟨(zgq _ 1 (by omega) hb).2 (zzr l),hb⟩
def zb3(l:List zab):List Nat:=low (pk 1 (zcb l)) ((1*(zcb l).length+7)/8)
theorem zrb{l:List zab}(hl:l.length<=65536):zn3 (zcb l) 1=some (zb3 l):=zfi (zcb l) 1 (by omega) (by rw[zek];exact hl) (zk0 l).1
theorem zu1{l:List zab}(hl:l.length<=65536):zbf (zb3 l) 1 (l.length:Int)=some (zcb l):=by have:=zhn (zcb l) 1 (by omega) (by rw[zek];exact hl) (zk0 l).1 (zk0 l).2;rw[zek] at this;unfold zb3;rw[zek];exact this
theorem zsy{b m:List Nat}{n:Int}(h8:∀x∈b,x<256)(h:zbf b 1 n=some m):zn3 m 1=some b/\(m.length:Int)=n/\(∀y∈m,y<2^1)/\m.length<=65536:=by obtain⟨h1,h2,h3,h4,h5⟩:=zho h8 h;exact⟨h1,h2,(zgq m 1 (by omega) h4).1 (by omega),h5⟩
end Go.Proofs.Y
namespace Go.Hm
open Go Go.RowKit
abbrev zbp:zay:=(0,0,0,false,(false,0,[],0,0),(false,0,[],0,0))
theorem Reads.page14{w:World}{B n i:Nat}{A:Option Addr}{l:List zay}(h:Reads w B 14 A n (recs zg9 l))(hi:i<n):
 ∃ad,A=some ad/\ad.block<B/\w.cell? (ad.add (i*14))=some (.int .i64 (l.getD i zbp).1)/\w.cell? ⟨(ad.add (i*14)).block,(ad.add (i*14)).off+1,none⟩=some (.int .i64 (l.getD i zbp).2.1)/\w.cell? ⟨(ad.add (i*14)).block,(ad.add (i*14)).off+2,none⟩=some (.int .i64 (l.getD i zbp).2.2.1)/\w.cell? ⟨(ad.add (i*14)).block,(ad.add (i*14)).off+3,none⟩=some (.bool (l.getD i zbp).2.2.2.1)/\w.cell? ⟨(ad.add (i*14)).block,(ad.add (i*14)).off+4,none⟩=some (.bool (l.getD i zbp).2.2.2.2.1.1)/\w.cell? ⟨(ad.add (i*14)).block,(ad.add (i*14)).off+5,none⟩=some (.int .i64 (l.getD i zbp).2.2.2.2.1.2.1)/\w.cell? ⟨(ad.add (i*14)).block,(ad.add (i*14)).off+6,none⟩=some (.string (zad (l.getD i zbp).2.2.2.2.1.2.2.1))/\w.cell? ⟨(ad.add (i*14)).block,(ad.add (i*14)).off+7,none⟩=some (.int .i64 (l.getD i zbp).2.2.2.2.1.2.2.2.1)/\w.cell? ⟨(ad.add (i*14)).block,(ad.add (i*14)).off+8,none⟩=some (.int .i64 (l.getD i zbp).2.2.2.2.1.2.2.2.2)/\w.cell? ⟨(ad.add (i*14)).block,(ad.add (i*14)).off+9,none⟩=some (.bool (l.getD i zbp).2.2.2.2.2.1)/\w.cell? ⟨(ad.add (i*14)).block,(ad.add (i*14)).off+10,none⟩=some (.int .i64 (l.getD i zbp).2.2.2.2.2.2.1)/\w.cell? ⟨(ad.add (i*14)).block,(ad.add (i*14)).off+11,none⟩=some (.string (zad (l.getD i zbp).2.2.2.2.2.2.2.1))/\w.cell? ⟨(ad.add (i*14)).block,(ad.add (i*14)).off+12,none⟩=some (.int .i64 (l.getD i zbp).2.2.2.2.2.2.2.2.1)/\w.cell? ⟨(ad.add (i*14)).block,(ad.add (i*14)).off+13,none⟩=some (.int .i64 (l.getD i zbp).2.2.2.2.2.2.2.2.2):=by
 obtain⟨ad,h1,h2,_,h3⟩:=h.rec_ (f:=zg9) (sz:=14) (fun _=>rfl) zbp hi (by omega);refine⟨ad,h1,h2,h3 0 _ rfl,?_,?_,?_,?_,?_,?_,?_,?_,?_,?_,?_,?_,?_⟩
 ·have:=h3 1 _ rfl
  rw[<-za8] at this;exact this
 ·have:=h3 2 _ rfl
  rw[<-za8] at this;exact this
 ·have:=h3 3 _ rfl
  rw[<-za8] at this;exact this
 ·have:=h3 4 _ rfl
  rw[<-za8] at this;exact this
 ·have:=h3 5 _ rfl
  rw[<-za8] at this;exact this
 ·have:=h3 6 _ rfl
  rw[<-za8] at this;exact this
 ·have:=h3 7 _ rfl
  rw[<-za8] at this;exact this
 ·have:=h3 8 _ rfl
  rw[<-za8] at this;exact this
 ·have:=h3 9 _ rfl
  rw[<-za8] at this;exact this
 ·have:=h3 10 _ rfl
  rw[<-za8] at this;exact this
 ·have:=h3 11 _ rfl
  rw[<-za8] at this;exact this
 ·have:=h3 12 _ rfl
  rw[<-za8] at this;exact this
 ·have:=h3 13 _ rfl
  rw[<-za8] at this;exact this
theorem Reads.lenPage{w:World}{B n:Nat}{A:Option Addr}{l:List zay}(h:Reads w B 14 A n (recs zg9 l)):n=l.length:=h.lenR (f:=zg9) (sz:=14) (fun _=>rfl) (by omega)
theorem z6s{α:Type}(l:List α)(k:Nat)(d:α)(h:k<l.length):l.drop k=l.getD k d::l.drop (k+1):=by rw[List.drop_eq_getElem_cons h,List.getD_eq_getElem?_getD,List.getElem?_eq_getElem h];rfl
theorem zan{α:Type}{l:List α}{k:Nat}(d:α)(h:k<l.length):l.getD k d∈l:=by rw[List.getD_eq_getElem?_getD,List.getElem?_eq_getElem h];exact List.getElem_mem h
end Go.Hm
namespace Go.Proofs.Y
open Go.RowKit Go.Hm
def zs4(r:Int × Bool)(w:World)(e:Ending)(w':World):Prop:=e= .returned (.tuple #[.int .i64 r.1,.bool r.2])/\New w w'
set_option maxRecDepth 100000 in
theorem zs5{w:World}{c:za2}{A:Option Addr}{n cap:Nat}{l:List zay}{rows:Int}(h:Reads w w.heap.size 14 A n (recs zg9 l))(hl:∀p∈l,zdk p.2.2)(hn:n<=4611686018427387903)(hr:0<=rows/\rows<=65536):
 Calls Tryz.prog 92 #[qiz c,.slice A n cap,.int .i64 rows] w (zs4 (zeo c.2.1 c.2.2 l rows 0) w):=by
 obtain rfl:=h.lenPage;obtain⟨nm,t,nu⟩:=c;have HR:=Hz h;have HL:=Hz hl;have HC:=Hz (show zeo t nu l rows 0=zeo t nu (l.drop 0) rows 0 from rfl);clear h hl;show Calls Tryz.prog 92 #[.agg #[.string (zad nm),.int .i64 t,.bool nu],.slice A l.length cap,.int .i64 rows] w (zs4 (zeo t nu l rows 0) w);generalize hX:zeo t nu l rows 0=X at*;clear hX;have B0:=Blk.new w 70 #[.string (zad nm),.int .i64 t,.bool nu];have b0:New w (w.alloc (.cells #[.string (zad nm),.int .i64 t,.bool nu] 70)):=(Below.refl _ _).alloc (Nat.le_refl _) _;go_enter Tryz.func92,Tryz.ntmps92
 go_wp2_with fail
 go_loopw [2,8,13] (fun r s i wr=>∃(k:Nat) (rr ss:Int),k<=l.length/\i= .int .i64 (k:Int)/\r= .int .i64 rr/\s= .int .i64 ss/\Hid (X=zeo t nu (l.drop k) rr ss)/\(0<=rr/\rr+k<=rows)/\(0<=ss/\ss<=k*268435456)
  /\Blk wr w.heap.size 70 #[.string (zad nm),.int .i64 t,.bool nu]/\New w wr) (fun _ _ i _=>l.length-(intOf i).toNat)
 case atStart=>exact⟨0,rows,0,Nat.zero_le _,rfl,rfl,rfl,HC,by omega,by omega,B0,b0⟩
 case round=>
  obtain⟨k,rr,ss,hk,rfl,rfl,rfl,H,hrr,hss,B,b⟩:=hrel;clear HC B0 b0;by_cases hlt:k<l.length
  ·obtain⟨ad,rfl,hb,d0,d1,d2,d3,d4,d5,d6,d7,d8,d9,d10,d11,d12,d13⟩:=(Reads.later HR.out b).page14 hlt
   have hd:=z6s l k zbp hlt;have RP:=fun(W:World)=>zs0 (w:=W) (c:=(nm,t,nu)) (p:=l.getD k zbp) (most:=rr) (HL.out _ (zan zbp hlt))
   have hst:zeo t nu (l.drop k) rr ss=if zh0 t nu (l.getD k zbp) rr then zeo t nu (l.drop (k+1)) (rr-(l.getD k zbp).2.1) (ss+(l.getD k zbp).1) else(0,false):=by rw[hd];rfl
   rw[<-H.out] at hst;have hok:=fun(e:zh0 t nu (l.getD k zbp) rr=true)=>(pageB_most.1 e).1
   clear hd H hb;dsimp only at RP;generalize zh0 t nu (l.getD k zbp) rr=R at*;generalize l.getD k zbp=p at*;obtain⟨sz,rw,nn,bb,⟨p1,p2,p3,p4,p5⟩,⟨q1,q2,q3,q4,q5⟩⟩:=p;dsimp only at hst hok d0 d1 d2 d3 d4 d5 d6 d7 d8 d9 d10 d11 d12 d13;have RP:Hid (∀W,Calls Tryz.prog 117 #[.agg #[.string (zad nm),.int .i64 t,.bool nu],.agg #[.int .i64 sz,.int .i64 rw,.int .i64 nn,.bool bb,.bool p1,.int .i64 p2,.string (zad p3),.int .i64 p4,.int .i64 p5,.bool q1,.int .i64 q2,.string (zad q3),.int .i64 q4,.int .i64 q5],.int .i64 rr] W (zap (.bool R) W)):=Hz RP;have ha:New wr (wr.alloc (.cells #[.int .i64 sz,.int .i64 rw,.int .i64 nn,.bool bb,.bool p1,.int .i64 p2,.string (zad p3),.int .i64 p4,.int .i64 p5,.bool q1,.int .i64 q2,.string (zad q3),.int .i64 q4,.int .i64 q5] 65)):=(Below.refl _ _).alloc (Nat.le_refl _) _;have BP:=Blk.new wr 65 #[.int .i64 sz,.int .i64 rw,.int .i64 nn,.bool bb,.bool p1,.int .i64 p2,.string (zad p3),.int .i64 p4,.int .i64 p5,.bool q1,.int .i64 q2,.string (zad q3),.int .i64 q4,.int .i64 q5];have B1:=B.below ha B.lt;have b1:=New.trans b ha;obtain⟨y0,y1,y2⟩:=zaf B1;obtain⟨e0,e1,e2,e3,e4,e5,e6,e7,e8,e9,e10,e11,e12,e13⟩:=zci BP;have HST:=Hz hst;clear hst B ha;go_wp2_with fail
   refine(RP.out _).mono ?_;rintro e w2 ⟨rfl,b2⟩;have B2:=B1.below b2 B1.lt;have BP2:=BP.below b2 BP.lt;have b02:=New.trans b1 b2;clear RP B1 BP b2 b1 y0 y1 y2 d0 d1 d2 d3 d4 d5 d6 d7 d8 d9 d10 d11 d12 d13 e0 e1 e2 e3 e4 e5 e6 e7 e8 e9 e10 e11 e12 e13;obtain⟨e0,e1,e2,e3,e4,e5,e6,e7,e8,e9,e10,e11,e12,e13⟩:=zci BP2;cases R with
   |false=>
    go_wp2_with fail
    go_ret2
    have hX:=HST.out;rw[if_neg (by simp)] at hX;rw[hX];exact⟨rfl,b02⟩
   |true=>
    have hX:=HST.out;rw[if_pos rfl] at hX;have HX:=Hz hX;have hok:=hok rfl;clear hX HST;go_wp2_with fail
    go_roundw
    case rel=>exact⟨k+1,rr-rw,ss+sz,by omega,by go_num,rfl,rfl,HX,by omega,by omega,B2,b02⟩
    case measure=>simp[intOf];omega
  ·obtain rfl:k=l.length:=by omega
   have hX:=H.out;rw[List.drop_length] at hX;have HX:=Hz hX;clear hX H;go_wp2_with fail
   go_ret2
   rw[HX.out];exact⟨rfl,b⟩
end Go.Proofs.Y
set_option maxRecDepth 100000
namespace Go.Hm
open Go Go.RowKit
structure FootIn(w:World)(Ac:Option Addr)(cc:Nat)(L:List za2)(Ag:Option Addr)(G:List GrD):Prop where
 cols:Reads w w.heap.size 3 Ac L.length (recs zh8 L)
 fine:∀x∈L,(∀z∈x.1,z<256)/\x.1.length<=140737488351232
 cap:L.length<=cc
 few:L.length<=4611686018427387903
 groups:Reads w w.heap.size 2 Ag G.length (recs grV G)
 few2:G.length<=4611686018427387903
 chunks:∀g∈G,Reads w w.heap.size 1 g.2.1 g.2.2.2.length (recs chV g.2.2.2)/\g.2.2.2.length<=4611686018427387903
 pages:∀g∈G,∀x∈g.2.2.2,Reads w w.heap.size 14 x.1 x.2.2.length (recs zg9 x.2.2)/\x.2.2.length<=4611686018427387903
theorem FootIn.later{w w':World}{Ac:Option Addr}{cc:Nat}{L:List za2}{Ag:Option Addr}{G:List GrD}(h:FootIn w Ac cc L Ag G)(hb:New w w'):FootIn w' Ac cc L Ag G:=
 ⟨Reads.later h.cols hb,h.fine,h.cap,h.few,Reads.later h.groups hb,h.few2,fun g hg=>⟨Reads.later (h.chunks g hg).1 hb,(h.chunks g hg).2⟩,fun g hg x hx=>⟨Reads.later (h.pages g hg x hx).1 hb,(h.pages g hg x hx).2⟩⟩
def zh9(Ac:Option Addr)(cc:Nat)(L:List za2)(rows:Int)(Ag:Option Addr)(cg:Nat)(G:List GrD):Value:= .agg #[.slice Ac L.length cc,.int .i64 rows,.slice Ag G.length cg]
def za5(L:List za2)(rows:Int)(G:List GrD):FootS:=⟨L,rows,G.map grP⟩
end Go.Hm
namespace Go.Proofs.Y
open Go.RowKit Go.Hm Go.WideShapes Go.ChangeShapes
section
variable{H:Type}{enc:TypeId × Value->H}{W:World}{base:Nat}{v:Value}{d:DataW H}{ps:List MemPlace}
end
open Go.RowKit Go.Hm
def qf1(c:za2)(g:Nat)(S:St)(w:World)(e:Ending)(w':World):Prop:=e= .returned (.agg #[.string (zad c.1),.int .i64 c.2.1,.bool c.2.2])/\CurS w' g S/\w.grownBy w' (some g)
set_option maxRecDepth 100000 in
theorem z2n{w:World}{g:Nat}{S:St}(h:CurS w g S):Calls Tryz.prog 109 #[.pointer (some ⟨g,0,none⟩)] w (qf1 (zs8 S).1 g (zs8 S).2 w):=by
 have hok:=h.ok;have hg:=h.lt;obtain⟨W0,hW0⟩:∃W,W=w.alloc (.cells #[.string ⟨#[]⟩,.int .i64 0,.bool false] 70):=⟨_,rfl⟩;have b0:New w W0:=by rw[hW0];exact(Below.refl _ _).alloc (Nat.le_refl _) _
 have G0:w.grownBy W0 (some g):=by rw[hW0];exact World.grownBy_alloc _ _ _
 have B0:Blk W0 w.heap.size 70 #[.string ⟨#[]⟩,.int .i64 0,.bool false]:=by rw[hW0];exact Blk.new _ _ _
 have h0:=h.below b0;have hne:w.heap.size≠g:=by omega
 have P1:=Hz (zb9 (m:=100) h0 (by omega) (by omega));have hl:=zb1 (m:=100) S (by omega) hok;have ok1:=za6 (m:=100) hok;rw[hW0] at P1;have HW:=Hz hW0;clear h h0 hok hW0 b0;generalize hS:zs8 S=R;unfold zs8 at hS;generalize lenS 100 S=R1 at*;obtain⟨n1,S1⟩:=R1;simp only at hl ok1 hS P1;have HS:=Hz hS;clear hS;go_enter Tryz.func109,Tryz.ntmps109
 go_wp2_with fail
 refine P1.out.mono ?_;rintro e w1 ⟨rfl,C1,G1⟩;rw[<-HW.out] at G1;have B1:=B0.grown G1 (by simpa using hne);have G01:=G0.trans G1;have P2:=Hz (zc8 (n:=(n1:Int)) C1 (by omega) (by omega));obtain⟨ok2,l2⟩:=zcq (n:=(n1:Int)) ok1;replace HS:=HS.out;generalize zbt (n1:Int) S1=R2 at*;obtain⟨s2,S2⟩:=R2;simp only at ok2 l2 HS P2;replace HS:=Hz HS;clear P1 B0 G0 G1 C1;go_wp2_with fail
 refine P2.out.mono ?_;rintro e w2 ⟨A2,n2,c2,rfl,e2,k2,C2,G2⟩;have B2:=B1.grown G2 (by simpa using hne);have G02:=G01.trans G2;have X2:=zeu (c:=c2) k2.reads;have P3:=Hz (ze2 C2);have ok3:=zna ok2;have lt3:=zhp ok2;replace HS:=HS.out;generalize zbc S2=R3 at*;obtain⟨t3,S3⟩:=R3;simp only at ok3 lt3 HS P3;replace HS:=Hz HS;clear P2 B1 G01 G2 C2 k2 e2;go_wp2_with fail
 refine P3.out.mono ?_;rintro e w3 ⟨rfl,C3,G3⟩;have B3:=B2.grown G3 (by simpa using hne);have G03:=G02.trans G3;have P4:=Hz (ze2 C3);have lt4:=zhp ok3;replace HS:=HS.out;generalize zbc S3=R4 at*;obtain⟨u4,S4⟩:=R4;simp only at lt4 HS P4;replace HS:=Hz HS;clear P3 B2 G02 G3 C3 X2;go_wp2_with fail
 refine P4.out.mono ?_;rintro e w4 ⟨rfl,C4,G4⟩;have B4:=B3.grown G4 (by simpa using hne);have G04:=G03.trans G4;clear P4 B3 G03 G4;by_cases hu:1<u4
 ·have P5:=Hz (zj2 C4)
  go_wp2_with fail
  refine P5.out.mono ?_;rintro e w5 ⟨rfl,C5,G5⟩;have B5:=B4.grown G5 (by simpa using hne);have G05:=G04.trans G5;clear P5 B4 G04 G5 C4;obtain⟨p0,p1,p2⟩:=zaf B5;have f0:=B5.frozen 0;have f1:=B5.frozen 1;have f2:=B5.frozen 2;have HB:=Hz B5;clear B5;go_wp2
  obtain⟨W3,hW3,R10,G10,K10⟩:=z4n HB.out (a:= .string (zad s2)) (b:= .int .i64 (t3:Int)) (c:= .bool ((u4:Int)==1)) G05 (Nat.le_refl _);rw[<-hW3];have s0:=R10.cell 0;have s1:=R10.cell 1;have s2':=R10.cell 2;simp at s0 s1 s2';have CW:CurS W3 g none:=by rw[hW3];exact((C5.keep zb6 HB.out (by omega) (by decide)).keep zb6 (HB.out.set_ 0 _) (by omega) (by decide)).keep zb6 ((HB.out.set_ 0 _).set_ 1 _) (by omega) (by decide)
  refine bodyPost_ret (v:= .agg #[.string (zad s2),.int .i64 (t3:Int),.bool ((u4:Int)==1)]) (by simp[results,Tryz.results109,go_sem,s0,s1,s2']) rfl ⟨?_,?_,G10⟩
  ·rw[<-HS.out,show((u4:Int)==1)=decide (u4=1) by rw[Bool.eq_iff_iff];simp;omega]
  ·rw[<-HS.out,if_pos hu]
   exact CW
 ·
  obtain⟨p0,p1,p2⟩:=zaf B4;have f0:=B4.frozen 0;have f1:=B4.frozen 1;have f2:=B4.frozen 2;have HB:=Hz B4;clear B4;go_wp2
  obtain⟨W3,hW3,R10,G10,K10⟩:=z4n HB.out (a:= .string (zad s2)) (b:= .int .i64 (t3:Int)) (c:= .bool ((u4:Int)==1)) G04 (Nat.le_refl _);rw[<-hW3];have s0:=R10.cell 0;have s1:=R10.cell 1;have s2':=R10.cell 2;simp at s0 s1 s2';have CW:CurS W3 g S4:=by rw[hW3];exact((C4.keep zb6 HB.out (by omega) (by decide)).keep zb6 (HB.out.set_ 0 _) (by omega) (by decide)).keep zb6 ((HB.out.set_ 0 _).set_ 1 _) (by omega) (by decide)
  refine bodyPost_ret (v:= .agg #[.string (zad s2),.int .i64 (t3:Int),.bool ((u4:Int)==1)]) (by simp[results,Tryz.results109,go_sem,s0,s1,s2']) rfl ⟨?_,?_,G10⟩
  ·rw[<-HS.out,show((u4:Int)==1)=decide (u4=1) by rw[Bool.eq_iff_iff];simp;omega]
  ·rw[<-HS.out,if_neg hu]
   exact CW
theorem ziw{w w1 w2:World}{row:Option Nat}(h:w.grownBy w1 row)(h2:w1.grownBy w2 row):w.grownBy w2 row:=h.trans h2
def qb2(l:List za2)(g:Nat)(S:St)(w:World)(e:Ending)(w':World):Prop:=∃A n c,e= .returned (.slice A n c)/\n<=c/\c<=maxLen/\w'.ownsRow w.heap.size 70 3 (.slice A n c) n (recs zh8 l)/\CurS w' g S/\w.grownBy w' (some g)
theorem elC:ElT Tryz.prog 22 70 (.agg #[.string ⟨#[]⟩,.int .i64 0,.bool false]) 3 32:=⟨by kernel_rfl,by kernel_rfl,rfl,by omega⟩
set_option maxRecDepth 100000 in
theorem qb3{w:World}{g:Nat}{S:St}(h:CurS w g S):Calls Tryz.prog 78 #[.pointer (some ⟨g,0,none⟩)] w (qb2 (getC S).1 g (getC S).2 w):=by
 have hok:=h.ok;have hg:=h.lt;have P1:=Hz (zb9 (m:=64) h (by omega) (by omega));have hl:=zb1 (m:=64) S (by omega) hok;have ok1:=za6 (m:=64) hok;have G1:=Hz (show getC S=_ from rfl);generalize hR:getC S=R at*;unfold getC at hR;generalize lenS 64 S=R1 at*;obtain⟨n,S1⟩:=R1;simp only at hl ok1 hR P1;have HR:=Hz hR;clear hR G1 h hok;go_enter Tryz.func78,Tryz.ntmps78
 go_wp2_with fail
 refine P1.out.mono ?_;rintro e w1 ⟨rfl,C1,G1⟩;have z1:=G1.size;clear P1;have g1:g<w1.heap.size:=C1.lt
 go_wp2_with (refine z07 elC rfl (.tmp 8) (.tmp 8) rfl (W:=w1) (B:=w1.heap.size) n rfl rfl rfl rfl (Below.refl _ w1) (Nat.le_refl _) (by omega) (by simp only[maxLen];omega) ?_
              intro w2 o2 g2 b2 s2)
 have C2:=C1.below b2;have G2:w.grownBy w2 (some g):=zhl G1 b2;obtain⟨gm,hgm⟩:∃gm,gm=w1.heap.size:=⟨_,rfl⟩;rw[<-hgm] at o2⊢;have hgm1:w.heap.size<=gm/\g≠gm:=by omega
 have o2:=zbd o2 hgm1.1;clear hgm C1 G1 z1 g2 b2 s2 g1;go_loopw [12] (fun i wr=>∃k:Nat,i= .int .i64 (k:Int)/\k<=n/\CurS wr g (zef k S1).2/\wr.ownsRow w.heap.size 70 3 (.slice (some ⟨gm,0,none⟩) n n) n (recs zh8 ((zef k S1).1++List.replicate (n-k) ([],0,false)))/\w.grownBy wr (some g)) (fun i _=>n-(intOf i).toNat)
 case atStart=>exact⟨0,rfl,by omega,C2,by simpa[recs,zef,List.flatMap_replicate,zh8,zad] using o2,G2⟩
 case round=>
  obtain⟨k,rfl,hk,C3,o3,G3⟩:=hrel;by_cases hlt:k<n
  ·have P4:=Hz (z2n C3)
   obtain⟨q1,q2⟩:=zri k S1;have okk:=zz0 k ok1;have hlen:=zk6 k S1;have fin:=zvh okk;have HQ1:=Hz q1;have HQ2:=Hz q2;clear q1 q2;generalize(zef k S1).1=pre at*;generalize(zef k S1).2=Sk at*;generalize zs8 Sk=R4 at*;obtain⟨⟨nm4,t4,u4⟩,S4⟩:=R4;simp only at P4;have hrep:List.replicate (n-k) (([],0,false):za2)=([],0,false)::List.replicate (n-(k+1)) ([],0,false):=by rw[show n-k=(n-(k+1))+1 by omega];rfl
   rw[hrep,zaw,zif] at o3;have hpl:(recs zh8 pre).length=k*3:=by rw[zar (sz:=3) (fun _=>rfl),hlen]
   have hiz:(k:Int)<(n:Int):=by omega
   have HO3:=Hz o3;clear o3 C3 hrep;go_wp2_with fail
   refine P4.out.mono ?_;rintro e w4 ⟨rfl,C4,G4⟩;have o4:=World.ownsRow.kept HO3.out G4 (.inr (by simp[Value.ownBlock];exact fun e=>hgm1.2 e.symm));have G04:=ziw G3 G4;obtain⟨cs,B4⟩:=zih o4;have c0:=o4.cellAt (k*3) (by omega);have c1:=o4.cellAt (k*3+1) (by omega);have c2:=o4.cellAt (k*3+2) (by omega);rw[List.getElem?_append_right (by omega),hpl] at c0 c1 c2;simp[zh8] at c0 c1 c2;have f0:=o4.frozenAt (k*3);have f1:=o4.frozenAt (k*3+1);have f2:=o4.frozenAt (k*3+2);have HO4:=Hz o4;clear o4 P4 HO3;go_wp2
   obtain⟨W5,hW5,o5,g5⟩:=qai (a:= .string (zad nm4)) (b:= .int .i64 t4) (d:= .bool u4) HO4.out hpl;rw[<-hW5];clear hW5;go_roundw
   case rel=>exact⟨k+1,by go_num,by omega,by rw[HQ2.out];exact C4.keep g5 B4 hgm1.2 (by decide),by rw[HQ1.out,List.append_assoc,zaw];exact o5,z4m G04 g5 hgm1.1⟩
   case measure=>simp[intOf];omega
  ·obtain rfl:k=n:=by omega
   rw[Nat.sub_self,List.replicate_zero,List.append_nil] at o3;have hfin:=zrj k ok1;have HR:=HR.out;have hlen:=zk6 k S1;generalize zef k S1=R5 at*;obtain⟨L,S5⟩:=R5;simp only at o3 hfin HR hlen C3;subst hlen;have r3:=Reads.of_own o3;have P6:=Hz (znk (c:=L.length) r3 (fun x hx=>⟨(hfin x hx).1,by have:=(hfin x hx).2;omega⟩) (Nat.le_refl _) (by omega));have P5:=Hz (zy5 C3);rcases S5 with _|l5
   ·rw[if_pos (.inl rfl)] at HR
    subst HR;go_wp2_with fail
    refine P5.out.mono ?_;rintro e w5 ⟨rfl,rfl⟩;have P7:=Hz (zj2 C3);go_wp2_with fail
    refine P7.out.mono ?_;rintro e w7 ⟨rfl,C7,G7⟩;go_wp2
    go_ret
    exact⟨none,0,0,rfl,by omega,by simp[maxLen],zcn,C7,ziw G3 G7⟩
   ·by_cases hck:zcu L=0
    ·rw[if_neg (by simp[hck])] at HR
     subst HR;rw[hck] at P6;go_wp2_with fail
     refine P5.out.mono ?_;rintro e w5 ⟨rfl,rfl⟩;go_wp2_with fail
     refine P6.out.mono ?_;rintro e w6 ⟨rfl,b6⟩;go_wp2
     go_ret
     exact⟨_,_,_,rfl,Nat.le_refl _,by simp only[maxLen];omega,zau o3 b6,C3.below b6,zhl G3 b6⟩
    ·rw[if_pos (.inr hck)] at HR
     subst HR;generalize zcu L=ck at*;have e1:(ck != 0)=true:=by simpa using hck
     clear hck;go_wp2_with fail
     refine P5.out.mono ?_;rintro e w5 ⟨rfl,rfl⟩;go_wp2_with fail
     refine P6.out.mono ?_;rintro e w6 ⟨rfl,b6⟩;have P7:=Hz (zj2 (C3.below b6));go_wp2_with fail
     refine P7.out.mono ?_;rintro e w7 ⟨rfl,C7,G7⟩;go_wp2
     go_ret
     exact⟨none,0,0,rfl,by omega,by simp[maxLen],zcn,C7,ziw (zhl G3 b6) G7⟩
open Go.RowKit Go.Hm
theorem z7w:ElT Tryz.prog 71 61 (.agg #[.bool false,.int .i64 0,.string ⟨#[]⟩,.int .i64 0,.int .i64 0]) 5 48:=⟨by kernel_rfl,by kernel_rfl,rfl,by omega⟩
def z7x(l:List zab)(w:World)(e:Ending)(w':World):Prop:=∃A n c A2 n2 c2,e= .returned (.tuple #[.slice A n c,.slice A2 n2 c2])/\
 Own w' w.heap.size 5 (.slice A n c) (za3 .u8 (zb3 l))/\w'.ownsRow w.heap.size 61 5 (.slice A2 n2 c2) n2 (recs zam (zbz l))/\New w w'
theorem qf9(a:List Nat)(x y:Nat)(b:List Nat){k:Nat}(h:a.length=k):(a++x::b).set k y=(a++[y])++b:=by subst h;rw[List.set_append_right _ _ (Nat.le_refl _)];simp
set_option maxRecDepth 100000 in
theorem zqm{w:World}{A:Option Addr}{n c:Nat}{l:List zab}(h:Reads w w.heap.size 5 A n (recs zam l))(hn:n<=65536):
 Calls Tryz.prog 134 #[.slice A n c] w (z7x l w):=by
 obtain rfl:=h.lenCell;have SP:=Hz (zrb hn);have MW:=Hz (zk0 l);go_enter Tryz.func134,Tryz.ntmps134
 go_wp2_with (refine zb7 elW rfl (.tmp 11) (.tmp 11) rfl (W:=w) (B:=w.heap.size) l.length l.length rfl rfl rfl rfl (Nat.le_refl _) (Below.refl _ _) (Nat.le_refl _) rfl (by omega) (by simp only[maxLen];omega) ?_
              intro w1 o1 _ b1 s1)
 go_loopw [5,15] (fun a i wr=>∃(k:Nat) (A2:Option Addr) (n2 c2:Nat),i= .int .i64 (k:Int)/\k<=l.length/\a= .slice A2 n2 c2/\n2<=k/\Own wr w.heap.size 87 (.slice (some ⟨w.heap.size,0,none⟩) l.length l.length) (za3 .u64 (zcb (l.take k)++List.replicate (l.length-k) 0))/\
  wr.ownsRow w.heap.size 61 5 (.slice A2 n2 c2) n2 (recs zam (zbz (l.take k)))/\Below w.heap.size w wr) (fun _ i _=>l.length-(intOf i).toNat)
 case atStart=>exact⟨0,none,0,0,rfl,by omega,rfl,by omega,by simpa[zcb,zbx] using o1,by simpa[zbz,recs] using(zcn (w:=w1) (sz:=5)),b1⟩
 case round=>
  clear o1 b1 s1;obtain⟨k,A2,n2,c2,rfl,hk,rfl,hnk,o,u,b⟩:=hrel;by_cases hlt:k<l.length
  ·obtain⟨ad,rfl,_,d0,d1,d2,d3,d4⟩:=(Reads.later h b).cell5 hlt
   have MS:=Hz (z19 l k hlt);have VS:=Hz (z6k l k hlt);generalize l.getD k (false,0,[],0,0)=x at*;obtain⟨xb,xn,xs,xx,xy⟩:=x;simp only at d0 d1 d2 d3 d4;have hrep:List.replicate (l.length-k) (0:Nat)=0::List.replicate (l.length-(k+1)) 0:=by rw[show l.length-k=(l.length-(k+1))+1 by omega];rfl
   rw[hrep] at o;have hml:(zcb (l.take k)).length=k:=by rw[zek,List.length_take];omega
   have i1:(k:Int)<(l.length:Int):=by omega
   obtain⟨W2,hW2⟩:∃W,W=wr.alloc (.cells #[.bool xb,.int .i64 xn,.string (zad xs),.int .i64 xx,.int .i64 xy] 61):=⟨_,rfl⟩;have b2:New wr W2:=by rw[hW2];exact(Below.refl _ _).alloc (Nat.le_refl _) _
   have B2:Blk W2 wr.heap.size 61 #[.bool xb,.int .i64 xn,.string (zad xs),.int .i64 xx,.int .i64 xy]:=by rw[hW2];exact Blk.new _ _ _
   have o2:=o.later b2;have u2:=zau u b2;have b02:=zgt b b2 (Nat.le_refl _);obtain⟨p0,p1,p2,p3,p4⟩:=zcl B2;have HW2:=Hz hW2;cases xb with
   |true=>
    have MS:=MS.out;have VS:=VS.out;simp only[z9m,if_true,List.append_nil] at MS VS;have MS:=Hz MS;have VS:=Hz VS;rw[hW2] at p0 p1 p2 p3 p4;clear hW2 o u b;go_wp2_with fail
    rw[<-HW2.out];go_roundw
    case rel=>exact⟨k+1,_,_,_,by go_num,by omega,rfl,by omega,by rw[MS.out,List.append_assoc];exact o2,by rw[VS.out];exact u2,b02⟩
    case measure=>simp[intOf];omega
   |false=>
    have MS:=MS.out;have VS:=VS.out;simp only[z9m,Bool.false_eq_true,if_false] at MS VS;have MS:=Hz MS;have VS:=Hz VS;obtain⟨hg0,hgl,hc,hf,hset⟩:=o2.num0 (i:=k) hlt;have o3:=hset 1;rw[qf9 _ _ _ _ hml] at o3;have hc0:(zcb (l.take k)++0::List.replicate (l.length-(k+1)) 0).getD k 0=0:=by rw[List.getD_eq_getElem?_getD,List.getElem?_append_right (by omega),hml,Nat.sub_self];rfl
    rw[hc0] at hc;rw[hW2] at p0 p1 p2 p3 p4 hc hf;obtain⟨W3,hW3⟩:∃W,W=W2.setCell ⟨w.heap.size,k,none⟩ (.int .u64 1):=⟨_,rfl⟩;have g3:W2.grownBy W3 (some w.heap.size):=by rw[hW3];exact⟨rfl,rfl,rfl,by simp[World.setCell],fun k _ hk=>Below.heap_setCell _ _ _ _ (by simpa using hk)⟩
    obtain⟨cs3,M3⟩:=o2.row w.heap.size rfl;have u3:=World.ownsRow.kept u2 g3 (.inr (zal u2 M3 (by decide)));have B3:=B2.grown g3 (by have:=Blk.ne_ B2 M3 (by decide);simpa using this);have b03:Below w.heap.size w W3:=b02.grown g3 b02.size (fun k hk=>by injection hk with hk;omega);have o3:Own W3 w.heap.size 87 (.slice (some ⟨w.heap.size,0,none⟩) l.length l.length) (za3 .u64 (zcb (l.take k)++[1]++List.replicate (l.length-(k+1)) 0)):=by rw[hW3];exact o3
    have HW3:=Hz (show W3=(wr.alloc (.cells #[.bool false,.int .i64 xn,.string (zad xs),.int .i64 xx,.int .i64 xy] 61)).setCell ⟨w.heap.size,k,none⟩ (.int .u64 1) by rw[hW3,hW2]);obtain⟨q0,q1,q2,q3,q4⟩:=zcl B3;rw[HW3.out] at q0 q1 q2 q3 q4;obtain⟨cs4,M4⟩:=o3.row w.heap.size rfl;have z3:=b03.size;have HZ3:=Hz (show wr.heap.size+1=W3.heap.size by rw[hW3,hW2];simp[World.setCell]);clear hW2 hW3 hset hc0 o u b o2 u2 B2 b02 M3 g3;go_wp2_with (first
     |(rw[<-HW3.out]
       refine zdb z7w rfl (.tmp 26) (.tmp 28) rfl (W:=w) (B:=w.heap.size) (base:=w.heap.size) (n:=n2) u3 rfl (by rw[<-HZ3.out];rfl) b03 (Nat.le_refl _) z3 rfl (by simp[Value.oneCell']) (by omega) (by simp only[maxLen];omega) ?_;intro A5 c5 w5 _ _ u5 g5 b5 _ _))
    go_roundw
    case rel=>exact⟨k+1,_,_,_,by go_num,by omega,rfl,by omega,by rw[MS.out];exact o3.kept g5 (.inr (fun e=>zal u3 M4 (by decide) e.symm)),by rw[VS.out,zaw];exact u5,b5⟩
    case measure=>simp[intOf];omega
  ·obtain rfl:k=l.length:=by omega
   rw[Nat.sub_self,List.replicate_zero,List.append_nil,List.take_length] at o;rw[List.take_length] at u;have P:=zm9 (c:=l.length) 1 o.reads MW.out.2 (by omega) (by omega) (by omega);rw[SP.out] at P;have P:=Hz P;clear hlt o;go_wp2_with fail
   refine P.out.mono ?_;rintro e w5 ⟨A5,n5,c5,rfl,o5,b5⟩;go_wp2
   go_ret2
   have z:=b.size;exact⟨_,_,_,_,_,_,rfl,o5.base_le z,zau u b5,zgt b b5 (Nat.le_refl _)⟩
end Go.Proofs.Y
namespace Go.Hm
open Go Go.RowKit
theorem IsStat.near{t:Int}{l:List zab}{s:zc9}(h:IsStat t l s)(hl:∀c∈l,near c):near s.2.2.1/\near s.2.2.2:=by
 cases hh:s.2.1 with
 |false=>
  obtain⟨e1,e2⟩:=h.none hh;rw[e1,e2];exact⟨qhh,qhh⟩
 |true=>exact⟨hl _ (h.least hh).1.1,hl _ (h.most hh).1.1⟩
end Go.Hm
namespace Go.Proofs.Y
open Go.RowKit Go.Hm
def qcr(t:Int)(L:List zab)(w:World)(e:Ending)(w':World):Prop:=∃s,e= .returned (zb4 s)/\IsStat t L s/\New w w'
set_option maxRecDepth 100000 in
theorem qd7{w:World}{t:Int}{A:Option Addr}{n c:Nat}{L:List zab}(h:Reads w w.heap.size 5 A n (recs zam L))(hL:∀y∈L,near y)(hn:n<=100000):
 Calls Tryz.prog 98 #[.int .i64 t,.slice A n c] w (qcr t L w):=by
 obtain rfl:=h.lenCell;have HR:=Hz h;have HN:=Hz hL;clear h hL;have B0:Blk ((w.alloc (.cells (zb8 zbw).toArray 63)).alloc (.cells (zb8 zbw).toArray 63)) w.heap.size 63 (zb8 zbw).toArray:=(Blk.new _ _ _).alloc _;have B1:Blk ((w.alloc (.cells (zb8 zbw).toArray 63)).alloc (.cells (zb8 zbw).toArray 63)) (w.heap.size+1) 63 (zb8 zbw).toArray:=by have:=Blk.new (w.alloc (.cells (zb8 zbw).toArray 63)) 63 (zb8 zbw).toArray;simpa using this
 have hb0:=zw1 w (.cells (zb8 zbw).toArray 63) (.cells (zb8 zbw).toArray 63);have HB0:=Hz B0;have HB1:=Hz B1;have Hb0:=Hz hb0;clear B0 B1 hb0;go_enter Tryz.func98,Tryz.ntmps98
 go_wp2_with fail
 go_loopw [10] (fun i wr=>∃(k:Nat) (s:zc9),k<=L.length/\i= .int .i64 (k:Int)/\Blk wr (w.heap.size+1) 63 (zb8 s).toArray/\Blk wr w.heap.size 63 (zb8 zbw).toArray/\New w wr/\Hid (IsStat t (L.take k) s)) (fun i _=>L.length-(intOf i).toNat)
 case atStart=>exact⟨0,zbw,Nat.zero_le _,rfl,HB1.out,HB0.out,Hb0.out,Hz (zq2 t)⟩
 case round=>
  obtain⟨k,s,hk,rfl,B1,B0,hW,hs⟩:=hrel;clear HB0 HB1 Hb0;by_cases hlt:k<L.length
  ·obtain⟨ad,rfl,hb,d0,d1,d2,d3,d4⟩:=(Reads.later HR.out hW).cell5 hlt
   have hst:=hs.out;have htk:=zae L k (false,0,[],0,0) hlt;have hnr:=hst.near (fun c hc=>HN.out c (List.mem_of_mem_take hc));have hnl:=hst.nulls;have hnl2:=zil (L.take k);rw[List.length_take] at hnl2;have hy:near (L.getD k (false,0,[],0,0)):=HN.out _ (by rw[List.getD_eq_getElem?_getD,List.getElem?_eq_getElem hlt];exact List.getElem_mem hlt);have hone:=zq3 t (L.getD k (false,0,[],0,0));have hnx:=hst.merge hone;rw[<-htk] at hnx;have hnr2:=hone.near (fun c hc=>by rw[List.mem_singleton.1 hc];exact hy);have hno:=hone.nulls;have hno2:=zil [L.getD k (false,0,[],0,0)];rw[List.length_singleton] at hno2;have M:=fun(W:World)=>z52 (w:=W) (t:=t) hnr.1 hnr.2 hnr2.1 hnr2.2 (by omega) (by omega)
   clear htk hy hone hnl hnl2 hno hno2 hnr hnr2 hst hs;generalize L.getD k (false,0,[],0,0)=y at*;obtain⟨y0,y1,y2,y3,y4⟩:=y;dsimp only at d0 d1 d2 d3 d4;obtain⟨V1,hV⟩:∃V,V=zb4 (zj4 (y0,y1,y2,y3,y4)):=⟨_,rfl⟩;have S1:Hid (∀W,Calls Tryz.prog 129 #[.agg #[.bool y0,.int .i64 y1,.string (zad y2),.int .i64 y3,.int .i64 y4]] W (zap V1 W)):=Hz fun W=>by rw[hV];exact z1x (y0,y1,y2,y3,y4)
   rw[<-hV] at M;generalize zmj t s (zj4 (y0,y1,y2,y3,y4))=s2 at*;obtain⟨n,b,⟨p1,p2,p3,p4,p5⟩,⟨q1,q2,q3,q4,q5⟩⟩:=s;obtain⟨n',b',⟨p1',p2',p3',p4',p5'⟩,⟨q1',q2',q3',q4',q5'⟩⟩:=s2;have M1:Hid (∀W,Calls Tryz.prog 128 #[.int .i64 t,.agg #[.int .i64 n,.bool b,.bool p1,.int .i64 p2,.string (zad p3),.int .i64 p4,.int .i64 p5,.bool q1,.int .i64 q2,.string (zad q3),.int .i64 q4,.int .i64 q5],V1] W
    (zap (.agg #[.int .i64 n',.bool b',.bool p1',.int .i64 p2',.string (zad p3'),.int .i64 p4',.int .i64 p5',.bool q1',.int .i64 q2',.string (zad q3'),.int .i64 q4',.int .i64 q5']) W)):=Hz M
   clear M hV;have HNX:=Hz hnx;clear hnx;have hsz:=hW.size;have F:Hid (∀W,New (wr.alloc (.cells #[.bool y0,.int .i64 y1,.string (zad y2),.int .i64 y3,.int .i64 y4] 61)) W->Blk W (w.heap.size+1) 63 #[.int .i64 n,.bool b,.bool p1,.int .i64 p2,.string (zad p3),.int .i64 p4,.int .i64 p5,.bool q1,.int .i64 q2,.string (zad q3),.int .i64 q4,.int .i64 q5]
    /\Blk W w.heap.size 63 (zb8 zbw).toArray/\New w W/\Blk W wr.heap.size 61 #[.bool y0,.int .i64 y1,.string (zad y2),.int .i64 y3,.int .i64 y4]):=Hz fun W hN=>
    ⟨(B1.alloc _).below hN (by have:=B1.lt;simp;omega),(B0.alloc _).below hN (by have:=B0.lt;simp;omega),New.trans hW (New.trans ((Below.refl _ _).alloc (Nat.le_refl _) _) hN),(Blk.new _ _ _).below hN (by simp)⟩
   clear B0 B1;go_wp2_with fail
   refine zds New 5 [(1,0),(0,1),(0,2),(2,3),(2,4),(2,5)] New.refl New.trans (by kernel_rfl) (by kernel_rfl) (by kernel_rfl) (by kernel_rfl) ?_;have hU:=New.drew (wr.alloc (.cells #[.bool y0,.int .i64 y1,.string (zad y2),.int .i64 y3,.int .i64 y4] 61));repeat(first
    |(refine zbl rfl rfl (fun K hK=>?_);go_simp
      (with_reducible refine(S1.out _).mono ?_);rintro e w6 ⟨rfl,b6⟩
      refine hK _ _ (.inr (.inr b6)) ?_;clear hK;replace hU:=New.trans hU b6)
    |(refine zbl rfl rfl (fun K hK=>?_);go_simp
      (with_reducible refine(M1.out _).mono ?_);rintro e w7 ⟨rfl,b7⟩
      refine hK _ _ (.inr (.inr b7)) ?_;clear hK;replace hU:=New.trans hU b7)
    |(refine zbl rfl rfl (fun K hK=>?_)
      obtain⟨B1,B0,hl,-⟩:=F.out _ hU;refine z4s 63 (.tmp 5) (.tmp 18) rfl (w.heap.size+1) _ rfl rfl B1 (by kernel_rfl) (by simp) (by simp[Value.oneCell']) ?_;intro W5 B1 hlow hfar;replace B0:=hfar _ _ _ (by omega) B0;replace hl:=hlow _ _ hl (by omega);refine hK _ _ (.inr (.inl rfl)) ?_;clear hK hlow hfar)
    |(refine zcs rfl rfl (v:=?_) (fun W=>?_) ?_;rotate_left;(go_simp<;> with_reducible rfl);simp only[Act.put,List.setIfInBounds_toArray,List.set_cons_zero,List.set_cons_succ])
    |(refine zd4 rfl rfl (v:=?_) (fun W hQ=>?_) ?_;rotate_left;(obtain⟨B1,-,-,BY⟩:=F.out W (New.trans hU hQ);obtain⟨x0,x1,x2,x3,x4,x5,x6,x7,x8,x9,x10,x11⟩:=za7 B1;obtain⟨z0,z1,z2,z3,z4⟩:=zcl BY;clear B1 BY;go_simp<;> with_reducible rfl);simp only[Act.put,List.setIfInBounds_toArray,List.set_cons_zero,List.set_cons_succ]))
   refine zhw ?_;go_wp2_with fail
   go_roundw
   case rel=>exact⟨k+1,(n',b',(p1',p2',p3',p4',p5'),(q1',q2',q3',q4',q5')),by omega,by go_num,B1,B0,hl,HNX⟩
   case measure=>simp[intOf];omega
  ·obtain rfl:k=L.length:=by omega
   have hs2:=hs.out;rw[List.take_length] at hs2;have HS:=Hz hs2;clear hs hs2;obtain⟨n,b,⟨p1,p2,p3,p4,p5⟩,⟨q1,q2,q3,q4,q5⟩⟩:=s;obtain⟨x0,x1,x2,x3,x4,x5,x6,x7,x8,x9,x10,x11⟩:=za7 B1
   go_wp2_with (refine zht rfl 63 (.tmp 4) (.tmp 20) rfl w.heap.size _ rfl rfl B0 (by kernel_rfl) (by simp[zb8,zbw,zam]) (by simp[Value.oneCell']) ?_
                intro W5 BR hlow hfar;have hl:=hlow _ _ hW (Nat.le_refl _);clear hfar hlow;obtain⟨s0,s1,s2,s3,s4,s5,s6,s7,s8,s9,s10,s11⟩:=za7 BR)
   exact bodyPost_ret (v:=zb4 (n,b,(p1,p2,p3,p4,p5),(q1,q2,q3,q4,q5))) (by simp[results,Tryz.results98,go_sem,s0,s1,s2,s3,s4,s5,s6,s7,s8,s9,s10,s11,zb4,zb8,zam]) rfl ⟨_,rfl,HS.out,hl⟩
open Go.RowKit Go.Hm
set_option maxRecDepth 100000 in
theorem zf4{w:World}{A:Option Addr}{n c:Nat}{D:List zjm}(h:Reads w w.heap.size 1 A n (recs zjf D))(hD:∀d∈D,BytIn w d)(hn:n<=140737488351232)(hl:(zda D).length<=140737488351232):
 Calls Tryz.prog 31 #[.slice A n c] w (zc6 (zda D) w):=by
 have hlen:n=D.length:=by have:=h.1;rw[zar (sz:=1) (fun _=>rfl)] at this;omega
 subst hlen;have HR:=Hz h;have HD:=Hz hD;clear h hD;go_enter Tryz.func31,Tryz.ntmps31
 go_wp2_with fail
 go_loopw [3,11] (fun s i wr=>∃k:Nat,k<=D.length/\i= .int .i64 (k:Int)/\s= .int .i64 ((zda (D.take k)).length:Int)/\wr=w) (fun _ i _=>D.length-(intOf i).toNat)
 case atStart=>exact⟨0,Nat.zero_le _,rfl,rfl,rfl⟩
 case round=>
  obtain⟨k,hk,rfl,rfl,rfl⟩:=hrel;by_cases hlt:k<D.length
  ·obtain⟨ad,rfl,_,hc⟩:=z8e HR.out hlt
   have e1:=zrz hlt;have e2:=zlb D (k+1);have E1:=Hz e1;have e3:(zda (D.take (k+1))).length=(zda (D.take k)).length+(D.getD k (none,0,[])).2.2.length:=by rw[e1,List.length_append]
   clear e1;generalize D.getD k (none,0,[])=d at*;obtain⟨da,dc,dl⟩:=d;have i1:(k:Int)<(D.length:Int):=by omega
   have i2:wrap64 (((zda (D.take k)).length:Int)+(dl.length:Int))=((zda (D.take (k+1))).length:Int):=by rw[e3];dsimp only;unfold wrap64;dsimp only at e3;omega
   have i3: ¬(((zda (D.take (k+1))).length:Int)<0):=by omega
   have E3:=Hz e3;clear e3;generalize(zda (D.take k)).length=s0 at*;generalize hs1:(zda (D.take (k+1))).length=s1 at*;have HS:=Hz hs1;clear hs1;go_wp2_with fail
   go_roundw
   case rel=>exact⟨k+1,by omega,by go_num,by rw[HS.out,i2],by trivial⟩
   case measure=>simp[intOf];omega
  ·obtain rfl:k=D.length:=by omega
   rw[List.take_length];generalize wr=w0 at*;have G:=Hz (z8f (w:=w0) (n:=(zda D).length) hl);generalize hs1:(zda D).length=s1 at*;have HS:=Hz hs1;clear hs1;go_wp2_with fail
   refine G.out.mono ?_;rintro e W1 ⟨A1,c1,rfl,o1,b1⟩;clear G;go_wp2_with fail
   go_loopw [6,27] (fun s i wr=>∃(k:Nat) (A2:Option Addr) (c2:Nat),k<=D.length/\i= .int .i64 (k:Int)/\s= .slice A2 (zda (D.take k)).length c2/\Go.Hm.Own wr w0.heap.size 5 (.slice A2 (zda (D.take k)).length c2) (za3 .u8 (zda (D.take k)))/\New w0 wr) (fun _ i _=>D.length-(intOf i).toNat)
   case atStart=>exact⟨0,A1,c1,Nat.zero_le _,rfl,rfl,o1,b1⟩
   case round=>
    clear o1 b1;obtain⟨k,A2,c2,hk,rfl,rfl,o,b⟩:=hrel;by_cases hlt:k<D.length
    ·obtain⟨ad,rfl,_,hc⟩:=z8e (Reads.later HR.out b) hlt
     have hrd:=BytIn.later (HD.out _ (zc7 (none,0,[]) hlt)) b;have e1:=zrz hlt;have e2:=zlb D (k+1);rw[HS.out] at e2;have E1:=Hz e1;have e3:(zda (D.take (k+1))).length=(zda (D.take k)).length+(D.getD k (none,0,[])).2.2.length:=by rw[e1,List.length_append]
     have e4:(zda (D.take (k+1))).length<=140737488351232:=by omega
     clear e1;generalize D.getD k (none,0,[])=d at*;obtain⟨da,dc,dl⟩:=d;have i1:(k:Int)<(D.length:Int):=by omega
     have hrd:Reads _ _ 1 da dl.length (za3 .u8 dl):=hrd;have hsz:=b.size;generalize zda (D.take k)=F at*;generalize hF1:zda (D.take (k+1))=F1 at*;have HF:=Hz hF1;have e5:F.length+dl.length<=140737488351232:=by have e6:F1.length=F.length+dl.length:=e3;omega
     clear e3;clear hF1
     go_wp2_with (refine zas elB rfl (.tmp 31) (.tmp 32) rfl (W:=w0) (B:=w0.heap.size) (k:= .u8) (l:=F) (l2:=dl) (c2:=dc) o hrd rfl rfl b (Nat.le_refl _) hsz (by omega) (by simp only[maxLen];omega) ?_
                  intro A3 c3 w3 hq1 hq2 o3 g3 b3 hq3)
     go_roundw
     case rel=>exact⟨k+1,A3,c3,by omega,by go_num,by rw[HF.out,E1.out,List.length_append],by rw[HF.out,E1.out,List.length_append];exact o3,b3⟩
     case measure=>simp[intOf];omega
    ·obtain rfl:k=D.length:=by omega
     rw[List.take_length] at o⊢;go_wp2_with fail
     go_ret
     exact⟨A2,_,c2,rfl,o,b⟩
end Go.Proofs.Y
namespace Go.Hm
open Go Go.RowKit
abbrev zff:=Option Addr × Nat × List zjm
def zpv(d:zff):List Value:=[.slice d.1 d.2.2.length d.2.1]
def RowBIn(w:World)(d:zff):Prop:=Reads w w.heap.size 1 d.1 d.2.2.length (recs zjf d.2.2)
theorem RowBIn.later{w w':World}{d:zff}(h:RowBIn w d)(hb:New w w'):RowBIn w' d:=Reads.later h hb
def zc1(D:List zff):List zjm:=D.flatMap fun d=>d.2.2
theorem z29(D:List zff)(d:zff):zc1 (D++[d])=zc1 D++d.2.2:=by simp[zc1]
theorem zr0{D:List zff}{k:Nat}(hk:k<D.length):zc1 (D.take (k+1))=zc1 (D.take k)++(D.getD k (none,0,[])).2.2:=by rw[zae _ k (none,0,[]) hk,z29]
theorem zlc(D:List zff)(k:Nat):(zc1 (D.take k)).length<=(zc1 D).length:=by
 have e:zc1 D=zc1 (D.take k)++zc1 (D.drop k):=by unfold zc1;rw[<-List.flatMap_append,List.take_append_drop]
 rw[e,List.length_append];omega
theorem z8g{w:World}{B:Nat}{A:Option Addr}{n:Nat}{D:List zff}(h:Reads w B 1 A n (recs zpv D)){k:Nat}(hk:k<D.length):
 ∃ad,A=some ad/\ad.block<B/\w.cell? (ad.add k)=some (.slice (D.getD k (none,0,[])).1 (D.getD k (none,0,[])).2.2.length (D.getD k (none,0,[])).2.1):=by
 have hn:n=D.length:=by have:=h.1;rw[zar (sz:=1) (fun _=>rfl)] at this;omega
 obtain⟨ad,u,e,hb,hu,hc⟩:=h.at_ (k:=k) (by omega);have:=zoc (f:=zpv) (sz:=1) (fun _=>rfl) D (none,0,[]) k 0 hk (by omega);rw[Nat.mul_one,Nat.add_zero] at this;rw[this] at hu;obtain rfl:=Option.some.inj hu;exact⟨ad,e,hb,hc⟩
theorem zhf(D:List zjm):(recs zjf D).length=D.length:=by rw[zar (sz:=1) (fun _=>rfl)];omega
theorem zpw(D:List zjm):∀u∈recs zjf D,u.oneCell'=true:=by intro u hu;unfold recs at hu;obtain⟨d,_,hd⟩:=List.mem_flatMap.1 hu;obtain rfl:=List.mem_singleton.1 hd;rfl
end Go.Hm
namespace Go.Proofs.Y
open Go.RowKit Go.Hm
theorem qim:ElT Tryz.prog 52 31 (.slice none 0 0) 1 24:=⟨by kernel_rfl,by kernel_rfl,rfl,by omega⟩
def qcx(l:List zjm)(w:World)(e:Ending)(w':World):Prop:=
 ∃A c,e= .returned (.slice A l.length c)/\w'.ownsRow w.heap.size 31 1 (.slice A l.length c) l.length (recs zjf l)/\New w w'
theorem z8h{w:World}{n:Nat}(hn:n<=5000000000000):
 Calls Tryz.prog 89 #[.slice none 0 0,.int .i64 (n:Int)] w (fun e w'=>∃A c,e= .returned (.slice A 0 c)/\w'.ownsRow w.heap.size 31 1 (.slice A 0 c) 0 []/\New w w'):=by
 by_cases h0:n=0
 ·subst h0
  go_enter Tryz.func89,Tryz.ntmps89
  go_wp2_with fail
  go_ret
  exact⟨none,0,rfl,World.ownsRow_nil _ _ _ _,New.refl _⟩
 ·have h1: ¬((n:Int)<0):=by omega
  have h2:(0:Int)<(n:Int):=by omega
  have h3:wrap64 ((n:Int)-0)=(n:Int):=by unfold wrap64;omega
  have h4:wrap64 (n:Int)=(n:Int):=by unfold wrap64;omega
  go_enter Tryz.func89,Tryz.ntmps89
  go_wp2_with (refine zmx qim rfl (.tmp 20) (.tmp 21) rfl qi1 rfl rfl n rfl (by omega) (by omega) (by simp only[maxLen];omega) ?_
               intro w1 cap hc1 hc2 o1 b1)
  go_ret
  exact⟨_,cap,rfl,o1,b1⟩
set_option maxRecDepth 100000 in
theorem zyb{w:World}{A:Option Addr}{n c:Nat}{D:List zff}(h:Reads w w.heap.size 1 A n (recs zpv D))(hD:∀d∈D,RowBIn w d)(hn:n<=5000000000000)(hl:(zc1 D).length<=5000000000000):
 Calls Tryz.prog 47 #[.slice A n c] w (qcx (zc1 D) w):=by
 have hlen:n=D.length:=by have:=h.1;rw[zar (sz:=1) (fun _=>rfl)] at this;omega
 subst hlen;have HR:=Hz h;have HD:=Hz hD;clear h hD;go_enter Tryz.func47,Tryz.ntmps47
 go_wp2_with fail
 go_loopw [3,11] (fun s i wr=>∃k:Nat,k<=D.length/\i= .int .i64 (k:Int)/\s= .int .i64 ((zc1 (D.take k)).length:Int)/\wr=w) (fun _ i _=>D.length-(intOf i).toNat)
 case atStart=>exact⟨0,Nat.zero_le _,rfl,rfl,rfl⟩
 case round=>
  obtain⟨k,hk,rfl,rfl,rfl⟩:=hrel;by_cases hlt:k<D.length
  ·obtain⟨ad,rfl,_,hc⟩:=z8g HR.out hlt
   have e1:=zr0 hlt;have e2:=zlc D (k+1);have E1:=Hz e1;have e3:(zc1 (D.take (k+1))).length=(zc1 (D.take k)).length+(D.getD k (none,0,[])).2.2.length:=by rw[e1,List.length_append]
   clear e1;generalize D.getD k (none,0,[])=d at*;obtain⟨da,dc,dl⟩:=d;have i1:(k:Int)<(D.length:Int):=by omega
   have i2:wrap64 (((zc1 (D.take k)).length:Int)+(dl.length:Int))=((zc1 (D.take (k+1))).length:Int):=by rw[e3];dsimp only;unfold wrap64;dsimp only at e3;omega
   have i3: ¬(((zc1 (D.take (k+1))).length:Int)<0):=by omega
   have E3:=Hz e3;clear e3;generalize(zc1 (D.take k)).length=s0 at*;generalize hs1:(zc1 (D.take (k+1))).length=s1 at*;have HS:=Hz hs1;clear hs1;go_wp2_with fail
   go_roundw
   case rel=>exact⟨k+1,by omega,by go_num,by rw[HS.out,i2],by trivial⟩
   case measure=>simp[intOf];omega
  ·obtain rfl:k=D.length:=by omega
   rw[List.take_length];generalize wr=w0 at*;have G:=Hz (z8h (w:=w0) (n:=(zc1 D).length) hl);generalize hs1:(zc1 D).length=s1 at*;have HS:=Hz hs1;clear hs1;go_wp2_with fail
   refine G.out.mono ?_;rintro e W1 ⟨A1,c1,rfl,o1,b1⟩;clear G;go_wp2_with fail
   go_loopw [6,27] (fun s i wr=>∃(k:Nat) (A2:Option Addr) (c2:Nat),k<=D.length/\i= .int .i64 (k:Int)/\s= .slice A2 (zc1 (D.take k)).length c2/\Go.Hm.Own wr w0.heap.size 31 (.slice A2 (zc1 (D.take k)).length c2) (recs zjf (zc1 (D.take k)))/\New w0 wr) (fun _ i _=>D.length-(intOf i).toNat)
   case atStart=>exact⟨0,A1,c1,Nat.zero_le _,rfl,rfl,o1,b1⟩
   case round=>
    clear o1 b1;obtain⟨k,A2,c2,hk,rfl,rfl,o,b⟩:=hrel;by_cases hlt:k<D.length
    ·obtain⟨ad,rfl,_,hc⟩:=z8g (Reads.later HR.out b) hlt
     have hrd:=RowBIn.later (HD.out _ (zc7 (none,0,[]) hlt)) b;have e1:=zr0 hlt;have e2:=zlc D (k+1);rw[HS.out] at e2;have E1:=Hz e1;have e3:(zc1 (D.take (k+1))).length=(zc1 (D.take k)).length+(D.getD k (none,0,[])).2.2.length:=by rw[e1,List.length_append]
     have e4:(zc1 (D.take (k+1))).length<=5000000000000:=by omega
     clear e1;generalize D.getD k (none,0,[])=d at*;obtain⟨da,dc,dl⟩:=d;have i1:(k:Int)<(D.length:Int):=by omega
     have hrd:Reads _ _ 1 da dl.length (recs zjf dl):=hrd;have hsz:=b.size;generalize zc1 (D.take k)=F at*;generalize hF1:zc1 (D.take (k+1))=F1 at*;have HF:=Hz hF1;have e5:F.length+dl.length<=5000000000000:=by have e6:F1.length=F.length+dl.length:=e3;omega
     clear e3;clear hF1;have hFl:=zhf F
     go_wp2_with (refine zeg qim rfl (.tmp 31) (.tmp 32) rfl (W:=w0) (B:=w0.heap.size) (news:=recs zjf dl) o hrd rfl rfl b (Nat.le_refl _) hsz (zpw dl) (by rw[hFl];omega) (by rw[hFl];simp only[maxLen];omega) ?_
                  intro A3 c3 w3 hq1 hq2 o3 g3 b3 hq3;rw[hFl] at o3)
     rw[<-zaw] at o3;go_roundw
     case rel=>exact⟨k+1,A3,c3,by omega,by go_num,by rw[HF.out,E1.out,List.length_append],by rw[HF.out,E1.out,List.length_append];exact o3,b3⟩
     case measure=>simp[intOf];omega
    ·obtain rfl:k=D.length:=by omega
     rw[List.take_length] at o⊢;go_wp2_with fail
     go_ret
     exact⟨A2,c2,rfl,by have:=o;unfold Go.Hm.Own at this;rw[zhf] at this;exact this,b⟩
end Go.Proofs.Y
namespace Go.Hm
def Seen(l:List (Int × Int))(f t:Int)(k:Nat)(first:Int)(last:Nat):Prop:=
 (first= -1/\last=0/\ ∀i,i<k-> ¬z9l (l.getD i (0,0)) f t)\/
 (∃a:Nat,first=(a:Int)/\a<last/\last<=k/\z9l (l.getD a (0,0)) f t/\z9l (l.getD (last-1) (0,0)) f t/\(∀i,i<a-> ¬z9l (l.getD i (0,0)) f t)/\ ∀i,last<=i->i<k-> ¬z9l (l.getD i (0,0)) f t)
theorem Seen.zero(l:List (Int × Int))(f t:Int):Seen l f t 0 (-1) 0:= .inl ⟨rfl,rfl,fun i h=>by omega⟩
theorem Seen.no{l:List (Int × Int)}{f t:Int}{k:Nat}{first:Int}{last:Nat}(h:Seen l f t k first last)(hn: ¬z9l (l.getD k (0,0)) f t):Seen l f t (k+1) first last:=by
 rcases h with⟨h1,h2,h3⟩|⟨a,h1,h2,h3,h4,h5,h6,h7⟩
 ·refine .inl ⟨h1,h2,fun i hi=>?_⟩
  by_cases e:i=k
  ·subst e;exact hn
  ·exact h3 i (by omega)
 ·refine .inr ⟨a,h1,h2,by omega,h4,h5,h6,fun i hi hi2=>?_⟩
  by_cases e:i=k
  ·subst e;exact hn
  ·exact h7 i hi (by omega)
theorem Seen.first{l:List (Int × Int)}{f t:Int}{k:Nat}{first:Int}{last:Nat}(h:Seen l f t k first last)(hf:first<0)(hy:z9l (l.getD k (0,0)) f t):Seen l f t (k+1) (k:Int) (k+1):=by
 rcases h with⟨h1,h2,h3⟩|⟨a,h1,_⟩
 ·exact .inr ⟨k,rfl,by omega,by omega,hy,by simpa using hy,h3,fun i hi hi2=>by omega⟩
 ·omega
theorem Seen.more{l:List (Int × Int)}{f t:Int}{k:Nat}{first:Int}{last:Nat}(h:Seen l f t k first last)(hf: ¬first<0)(hy:z9l (l.getD k (0,0)) f t):Seen l f t (k+1) first (k+1):=by
 rcases h with⟨h1,h2,h3⟩|⟨a,h1,h2,h3,h4,h5,h6,h7⟩
 ·omega
 ·exact .inr ⟨a,h1,by omega,by omega,h4,by simpa using hy,h6,fun i hi hi2=>by omega⟩
end Go.Hm
namespace Go.Proofs.Y
open Go.RowKit Go.Hm
end Go.Proofs.Y
