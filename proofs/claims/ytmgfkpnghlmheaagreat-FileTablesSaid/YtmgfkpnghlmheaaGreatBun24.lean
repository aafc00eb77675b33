/- Merged. -/
import Derived.Test.YtmgfkpnghlmheaaGreatBun18
import Derived.Test.YtmgfkpnghlmheaaGreatBun19
set_option maxHeartbeats 2000000
namespace Go.Proofs.Y
open Go.RowKit Go.Hm
theorem elP:ElT Tryz.prog 75 78 (.agg #[.int .i64 0,.int .i64 0]) 2 16:=⟨by kernel_rfl,by kernel_rfl,rfl,by omega⟩
def z6t(l:List (Int × Int))(w:World)(e:Ending)(w':World):Prop:=∃A n c,e= .returned (.slice A n c)/\w'.ownsRow w.heap.size 78 2 (.slice A n c) n (zcy l)/\New w w'
theorem z2e(l:List (Int × Int))(p:Int × Int):zcy (l++[p])=zcy l++[.int .i64 p.1,.int .i64 p.2]:=by simp[zcy]
set_option maxRecDepth 100000 in
theorem zzy(f t s:Int)(h1: -9223372036854775808<=f)(h2:t<=9223372036854775807)(h3:s<=9223372036854775807)(w:World):
 Calls Tryz.prog 28 #[.int .i64 f,.int .i64 t,.int .i64 s] w (z6t (zbr f t s) w):=by
 by_cases hg:f<0\/t<=f\/65536<t\/s<1
 ·rw[zuw hg]
  by_cases g1:f<0;all_goals try(have d1:decide (f<0)=false:=by simpa using g1)
  all_goals try(by_cases g2:t<=f)
  all_goals try(have d2:decide (t<=f)=false:=by simpa using g2)
  all_goals try(by_cases g3:65536<t)
  all_goals try(have d3:decide (65536<t)=false:=by simpa using g3)
  all_goals try(have g4:s<1:=by omega)
  all_goals
   clear hg;go_enter Tryz.func28,Tryz.ntmps28
   go_wp2
   go_ret
   exact⟨_,_,_,rfl,zcn,New.refl _⟩
 ·obtain⟨f,rfl⟩:=Int.eq_ofNat_of_zero_le (show 0<=f by omega)
  obtain⟨t,rfl⟩:=Int.eq_ofNat_of_zero_le (show 0<=t by omega);obtain⟨s,rfl⟩:=Int.eq_ofNat_of_zero_le (show 0<=s by omega);have k1:f<t:=by omega
  have k2:t<=65536:=by omega
  have k3:0<s:=by omega
  have k4:s<=9223372036854775807:=by omega
  rw[zzp k1 k2 k3];have d1:decide ((f:Int)<0)=false:=by simp
  have d2:decide (t<=f)=false:=by simp;omega
  have d3:decide ((65536:Int)<(t:Int))=false:=by simp;omega
  have d4:decide ((s:Int)<1)=false:=by simp;omega
  have hN:=zzn (f:=f) (t:=t) k3;clear hg h1 h2 h3;go_enter Tryz.func28,Tryz.ntmps28
  go_wp2
  go_loopw [7,8] (fun v i wr=>∃(k:Nat) (A:Option Addr) (c:Nat),k<=zhz f t s/\i= .int .i64 ((atN f t s k:Nat):Int)/\v= .slice A k c/\wr.ownsRow w.heap.size 78 2 (.slice A k c) k (zcy ((zgi f t s).take k))/\New w wr) (fun _ i _=>t-(intOf i).toNat)
  case atStart=>exact⟨0,none,0,by omega,by congr 1;unfold atN;simp;omega,rfl,zcn,New.refl _⟩
  case round=>
   obtain⟨k,A,c,hk,rfl,rfl,o,b⟩:=hrel;have L:=zgj (f:=f) (t:=t) k3 k;by_cases hlt:k<zhz f t s
   ·obtain⟨e1,e2,e3⟩:=zzo (L.1 hlt)
    have T:=Hz (zos hlt);have E3:=Hz e3;have hp:atN f t s k<t:=by have:=L.1 hlt;omega
    clear L e1 e3;have HE2:=Hz e2;clear e2;generalize atN f t s k=p at*;generalize hq:atN f t s (k+1)=q at*;have HQ:=Hz hq;have e2:=HE2.out;have z0:=b.size;have hk6:k<=65536:=by omega
    by_cases hm:t-p<s;all_goals
     first
     |(have m2:(p:Int)+((t-p:Nat):Int)=(q:Int):=by have:=HE2.out;omega)
     |(have m2:(p:Int)+(s:Int)=(q:Int):=by have:=HE2.out;omega)
     have mq:p<q/\q<=t:=by have:=HE2.out;omega
     have M2:=Hz m2;clear m2
     go_wp2_with (refine zdb elP rfl (.tmp 36) (.tmp 40) rfl (W:=w) (B:=w.heap.size) (base:=w.heap.size) (n:=k) o rfl rfl b (Nat.le_refl _) z0 rfl (by simp[Value.oneCell']) (by omega) (by simp only[maxLen];omega) ?_
                  intro A' c' w' _ _ o' g' b' _ _)
     go_roundw
     case rel=>
      have e2:=HE2.out;refine⟨k+1,A',c',by omega,by rw[HQ.out];congr 1<;> omega,rfl,?_,b'⟩;rw[T.out,z2e,E3.out];first
       |(rw[show(p:Int)+((t:Int)-(p:Int))=(q:Int) by omega] at o';exact o')
       |(rw[show(p:Int)+min (s:Int) ((t:Int)-(p:Int))=(q:Int) by omega] at o';exact o')
       |(rw[show(p:Int)+(s:Int)=(q:Int) by omega] at o';exact o')
     case measure=>simp[intOf];omega
   ·have hk2:k=zhz f t s:=by omega
    have hp:atN f t s k=t:=by
     have: ¬f+k*s<t:=fun hh=>hlt (L.2 hh)
     unfold atN;omega
    rw[hp] at*;have HK:=Hz hk2;have HO:=Hz o;clear hk2 L hp o;go_wp2
    go_ret
    exact⟨_,_,_,rfl,by have o:=HO.out;rw[HK.out,List.take_of_length_le (by rw[zfk];omega)] at o;rw[HK.out];exact o,b⟩
end Go.Proofs.Y
namespace Go.Hm
open Go
theorem z6z(b:Bool):decide (boolN b=1)=b:=by cases b<;> decide
def z60(s:List Nat)(p q:Nat × St):za2 × St:=((s,(p.1:Int),decide (q.1=1)),if 1<q.1 then none else q.2)
theorem zz1(S:St):zs8 S=z60 (zbt ((lenS 100 S).1:Int) (lenS 100 S).2).1 (zbc (zbt ((lenS 100 S).1:Int) (lenS 100 S).2).2) (zbc (zbc (zbt ((lenS 100 S).1:Int) (lenS 100 S).2).2).2):=rfl
theorem qby(c:za2)(r:List Nat)(h1:c.1.length<=100)(h2:0<=c.2.1):zs8 (some (z2d c++r))=(c,some r):=by
 obtain⟨nm,t,u⟩:=c;simp only at h1 h2;obtain⟨t,rfl⟩:=Int.eq_ofNat_of_zero_le h2;have e0:z2d (nm,(t:Int),u)++r=vp nm.length++(nm++(t::boolN u::r)):=by simp[z2d]
 have e1:=zb2 nm.length (nm++(t::boolN u::r)) (m:=100) (by omega) (by omega);rw[zz1,e0,e1];simp only;rw[zdf];have e2:zbc (some (t::boolN u::r))=(t,some (boolN u::r)):=rfl;have e3:zbc (some (boolN u::r))=(boolN u,some r):=rfl;simp only[e2,e3];unfold z60;simp only;rw[if_neg (by cases u<;> decide),z6z]
theorem zvi:∀(l:List za2) (r:List Nat),(∀c∈l,c.1.length<=100/\0<=c.2.1)->zef l.length (some (zkd l++r))=(l,some r)
 | [],r,_=>rfl
 |c::l,r,h=>by
  have hc:=h c (by simp);have e:zkd (c::l)++r=z2d c++(zkd l++r):=by simp[zkd]
  rw[e,List.length_cons,zef,qby c _ hc.1 hc.2,zvi l r (fun x hx=>h x (by simp[hx]))]
theorem qbz(l:List za2)(r:List Nat)(h:zcu l=0):getC (some (vp l.length++zkd l++r))=(l,some r):=by obtain⟨h1,h2,_⟩:=(zdt l).1 h;unfold getC;rw[List.append_assoc,zb2 l.length (zkd l++r) (m:=64) (by omega) (by omega)];simp only;rw[zvi l r (fun c hc=>⟨(h2 c hc).2.1,(h2 c hc).2.2.1⟩)];rw[if_neg (by simp[h])]
theorem zrk{S:St}{b:Nat}{r:List Nat}(h:zbc S=(b,some r)):S=some (b::r):=by
 unfold zbc at h;split at h
 ·simp only[Prod.mk.injEq,Option.some.injEq] at h
  rw[h.1,h.2]
 ·simp at h
theorem z61{S:St}{c:za2}{r:List Nat}(hS:S.ok)(h:zs8 S=(c,some r)):S=some (z2d c++r):=by
 rw[zz1] at h;rcases zbq 100 S hS with h0|⟨N,r1,h0,hN,_,h1⟩
 ·rw[h0] at h
  simp[zdr,zi3,z60] at h
 ·rw[h1] at h
  simp only at h;rcases zca (N:Int) (some r1) with h2|⟨l,hl,_,h3,h2⟩
  ·rw[h2] at h
   simp[zi3,z60] at h
  ·rw[h2] at h
   injection hl with hl;subst hl;simp only[Int.toNat_natCast] at h;generalize hb1:zbc (some (r1.drop N))=B1 at*;obtain⟨t,S3⟩:=B1;simp only at h;generalize hb2:zbc S3=B2 at*;obtain⟨u,S4⟩:=B2;unfold z60 at h;simp only[Prod.mk.injEq] at h;obtain⟨hc,hr⟩:=h;split at hr
   ·cases hr
   ·rename_i hu
    subst hr;have e2:=zrk hb2;subst e2;have e1:=zrk hb1;injection e1 with e1;rw[h0];subst hc;have hlen:(r1.take N).length=N:=by rw[List.length_take];omega
    have hbu:boolN (decide (u=1))=u:=by
     have:u=0\/u=1:=by omega
     rcases this with rfl|rfl<;> rfl
    unfold z2d;simp only[hlen,Int.toNat_natCast,hbu];rw[List.append_assoc,List.append_assoc];congr 2
    rw[show [t,u]++r=r1.drop N by rw[e1];rfl,List.take_append_drop]
theorem zrl:∀(n:Nat) {S:St} {l:List za2} {r:List Nat},S.ok->zef n S=(l,some r)->S=some (zkd l++r)
 |0,S,l,r,_,h=>by
  simp only[zef,Prod.mk.injEq] at h;obtain⟨rfl,rfl⟩:=h;rfl
 |n+1,S,l,r,hS,h=>by
  rw[zef] at h;have hok:=zxo hS;generalize hc:zs8 S=R at*;obtain⟨c,S1⟩:=R;simp only at h hok;generalize hd:zef n S1=R2 at*;obtain⟨l2,S2⟩:=R2;simp only[Prod.mk.injEq] at h;obtain⟨rfl,rfl⟩:=h;have e:=zrl n hok hd;subst e;rw[z61 hS hc];simp[zkd]
theorem zha{S:St}{l:List za2}{r:List Nat}(hS:S.ok)(h:getC S=(l,some r)):zcu l=0/\S=some (vp l.length++zkd l++r):=by
 unfold getC at h;rcases zbq 64 S hS with h0|⟨N,r1,h0,hN,_,h1⟩
 ·rw[h0] at h
  simp[zef] at h
 ·rw[h1] at h
  simp only at h;split at h
  ·simp at h
  ·rename_i hn
   have hok:St.ok (some r1):=St.ok_some fun x hx=>hS _ h0 x (by simp[hx])
   have e:=zrl N hok h;injection e with e;have hl:l.length=N:=by rw[<-zk6 N (some r1),h]
   rw[h] at hn;refine⟨?_,?_⟩
   ·by_cases hk:zcu l=0
    ·exact hk
    ·exact absurd (.inr hk) hn
   ·rw[h0,hl,e,List.append_assoc]
theorem z62{S:St}{l:List za2}(h:getC S=(l,none)):l=[]:=by
 unfold getC at h;split at h
 ·simp at h;exact h
 ·rename_i hn
  rw[h] at hn;simp at hn
theorem z63(n:Nat):∀x∈vp n,x<256:=by
 induction n using Nat.strongRecOn with
 |_ n ih=>
  intro x hx;by_cases hn:n<128
  ·rw[zez hn] at hx
   simp at hx;omega
  ·rw[zfr hn,List.mem_cons] at hx
   rcases hx with rfl|hx
   ·omega
   ·exact ih (n/128) (by omega) x hx
theorem z64(l:List za2)(h:∀x∈l,(∀z∈x.1,z<256)/\0<=x.2.1/\x.2.1<=3):∀x∈vp l.length++zkd l,x<256:=by
 intro x hx;rcases List.mem_append.1 hx with hx|hx
 ·exact z63 _ x hx
 ·unfold zkd at hx
  obtain⟨y,hy,hx⟩:=List.mem_flatMap.1 hx;obtain⟨h1,h2,h3⟩:=h y hy;unfold z2d at hx;simp only[List.mem_append,List.mem_cons,List.not_mem_nil,or_false] at hx;rcases hx with(hx|hx)|hx|hx
  ·exact z63 _ x hx
  ·exact h1 x hx
  ·omega
  ·subst hx;cases y.2.2<;> decide
end Go.Hm
namespace Go.Proofs.Y
open Go.RowKit Go.Hm
def Rd(w:World)(gr gc:Nat)(a:List Nat)(room:Int):Prop:=Blk w gr 236 #[.pointer (some ⟨gc,0,none⟩),.string (zad a),.int .i64 room]
theorem Rd.cells{w:World}{gr gc:Nat}{a:List Nat}{room:Int}(h:Rd w gr gc a room):w.cell? ⟨gr,0,none⟩=some (.pointer (some ⟨gc,0,none⟩))/\w.cell? ⟨gr,1,none⟩=some (.string (zad a))/\w.cell? ⟨gr,2,none⟩=some (.int .i64 room):=
 ⟨by rw[Blk.cell h 0];rfl,by rw[Blk.cell h 1];rfl,by rw[Blk.cell h 2];rfl⟩
theorem Rd.far{w w':World}{gr gc:Nat}{a:List Nat}{room:Int}(h:Rd w gr gc a room)(hW:Far gc w w')(hne:gr≠gc):Rd w' gr gc a room:=Blk.grown h hW (by simpa using hne)
theorem Rd.below{w w':World}{gr gc:Nat}{a:List Nat}{room:Int}(h:Rd w gr gc a room)(hW:New w w'):Rd w' gr gc a room:=Blk.below h hW (Blk.lt h)
def qch(gr gc:Nat)(x:List Nat × List Nat × Int × St)(w:World)(e:Ending)(w':World):Prop:=
 e= .returned (.string (zad x.1))/\Rd w' gr gc x.2.1 x.2.2.1/\CurS w' gc x.2.2.2/\Turns [gr,gc] w w'
set_option maxRecDepth 100000 in
theorem qci{w:World}{gr gc:Nat}{a:List Nat}{room:Int}{S:St}(h:Rd w gr gc a room)(hc:CurS w gc S)(hne:gr≠gc)(ha8:∀x∈a,x<256)(hal:a.length<=65536)(hr0:0<=room)(hr1:room<=16777216):
 Calls Tryz.prog 235 #[.pointer (some ⟨gr,0,none⟩)] w (qch gr gc (zed a room S) w):=by
 have hS:=hc.ok;have hk0:=zb1 (m:=a.length) S (by omega) hS;have hS1:=za6 (m:=a.length) hS;rcases hE1:lenS (a.length:Int) S with⟨k,S1⟩;rw[hE1] at hk0 hS1;simp only at hk0 hS1;have hm0:=zb1 (m:=65536-(k:Int)) S1 (by omega) hS1;have hS2:=za6 (m:=65536-(k:Int)) hS1;rcases hE2:lenS (65536-(k:Int)) S1 with⟨m,S2⟩;rw[hE2] at hm0 hS2;simp only at hm0 hS2;have hr8:=(zcq (n:=(m:Int)) hS2).2;have hrl:=zeh (n:=(m:Int)) (S:=S2) (by omega);rcases hE3:zbt (m:Int) S2 with⟨r,S3⟩;rw[hE3] at hr8 hrl;simp only at hr8 hrl;have F:zed a room S=if shr a (a.take k++r)=k/\((a.take k++r).length:Int)<=room then(a.take k++r,a.take k++r,room-((a.take k++r).length:Int),S3) else([],a,room,none):=by unfold zed;simp only[hE1,hE2,hE3]
 have ht8:∀x∈a.take k++r,x<256:=by
  intro x hx;rcases List.mem_append.1 hx with hx|hx
  ·exact ha8 x (List.mem_of_mem_take hx)
  ·exact hr8 x hx
 have htl:(a.take k++r).length<=65536:=by rw[List.length_append,List.length_take];omega
 have i1:=qgw qdp a k (by omega);have sa:=z9v Tryz.prog (a.take k) r (by have:=htl;rw[List.length_append] at this;omega);have z1:=zbh a;have L1:=Hz (fun W (hW:CurS W gc S)=>(zb9 (m:=(a.length:Int)) hW (by omega) (by omega)));rw[hE1] at L1;have L2:=Hz (fun W (hW:CurS W gc S1)=>(zb9 (m:=65536-(k:Int)) hW (by omega) (by omega)));rw[hE2] at L2;have L3:=Hz (fun W (hW:CurS W gc S2)=>(zc8 (n:=(m:Int)) hW (by omega) (by omega)));rw[hE3] at L3;have HB:=Hz (fun W (hW:Far gc w W)=>(h.far hW hne).cells);have HR:=Hz h;have HC:=Hz hc;have Hne:=Hz hne;have HF:=Hz F;clear hE1 hE2 hE3 hS hS1 hS2 h hc hne F;generalize ht:a.take k++r=t at*;have Ht:=Hz ht;clear ht;have z2:=zbh t;go_enter Tryz.func235,Tryz.ntmps235
 go_wp2
 refine zat (Far gc) [(true,0),(true,1),(true,2),(true,3),(true,4),(true,5),(true,6),(true,7),(true,8),(false,9),(true,10)]
  (Far.refl gc) Far.trans (by kernel_rfl) (by kernel_rfl) (by kernel_rfl) (by kernel_rfl) ?_
 have hU:Far gc w w.drew:=Far.drew gc w;have D0:=HC.out.below (New.drew w);repeat(first
  |(refine zbb rfl rfl (fun K hK=>?_);go_simp
    (with_reducible refine(L1.out _ D0).mono ?_);rintro e w1 ⟨rfl,D1,b1⟩
    refine hK _ _ b1 ?_;clear hK;have hU:=Far.trans hU b1)
  |(refine za1 rfl rfl (v:=?_) (fun W hW=>?_) ?_;rotate_left;(obtain⟨c0,c1,c2⟩:=HB.out W (Far.trans hU hW);go_simp<;> with_reducible rfl);simp only[Act.put,List.setIfInBounds_toArray,List.set_cons_zero,List.set_cons_succ]))
 refine zc3 ?_;go_wp2
 refine zat (Far gc) [(true,0),(true,1),(true,2),(true,3),(true,4),(true,5),(true,6),(true,7),(true,8),(true,9),(false,10),(false,11),(true,12)]
  (Far.refl gc) Far.trans (by kernel_rfl) (by kernel_rfl) (by kernel_rfl) (by kernel_rfl) ?_
 have hU:Far gc w w1.drew:=Far.trans hU (Far.drew gc w1);have D0:=D1.below (New.drew w1);have dk:IntKind.i64.wrap (65536-(k:Int))=65536-(k:Int):=IntWalk.i64_in _ (by omega);repeat(first
  |(refine zbb rfl rfl (fun K hK=>?_);go_simp
    (with_reducible refine(L2.out _ D0).mono ?_);rintro e w2 ⟨rfl,D2,b2⟩
    refine hK _ _ b2 ?_;clear hK;have hU:=Far.trans hU b2)
  |(refine zbb rfl rfl (fun K hK=>?_);go_simp
    (with_reducible refine(L3.out _ D2).mono ?_);rintro e w3 ⟨A3,n3,c3,rfl,rfl,k3,D3,b3⟩
    refine hK _ _ b3 ?_;clear hK;have hU:=Far.trans hU b3)
  |(refine za1 rfl rfl (v:=?_) (fun W hW=>?_) ?_;rotate_left;(obtain⟨c0,c1,c2⟩:=HB.out W (Far.trans hU hW);go_simp<;> with_reducible rfl);simp only[Act.put,List.setIfInBounds_toArray,List.set_cons_zero,List.set_cons_succ]))
 refine zc3 ?_;go_wp2
 refine zat New [(true,0),(true,1),(true,2),(true,3),(true,4),(true,5),(true,6),(true,7),(true,8),(true,9)]
  New.refl New.trans (by kernel_rfl) (by kernel_rfl) (by kernel_rfl) (by kernel_rfl) ?_
 have hV:=New.drew w3;have hU:Far gc w w3.drew:=Far.trans hU (Far.drew gc w3);have D4:=D3.below hV;have r3:=k3.reads;repeat(first
  |(refine qgu elB.ht (by kernel_rfl) (by kernel_rfl) rfl rfl rfl r3 hV ?_;simp only[Act.put,List.setIfInBounds_toArray,List.set_cons_zero,List.set_cons_succ])
  |(refine za1 rfl rfl (v:=?_) (fun W hW=>?_) ?_;rotate_left;(obtain⟨c0,c1,c2⟩:=HB.out W (Far.trans hU (Far.of_new hW));go_simp<;> with_reducible rfl);simp only[Act.put,List.setIfInBounds_toArray,List.set_cons_zero,List.set_cons_succ]))
 refine zc3 ?_;obtain⟨c0,c1,c2⟩:=HB.out _ hU;have R4:=Hz (HR.out.far hU Hne.out);generalize w3.drew=w4 at*;have SH:=Hz (zrt a t ha8 ht8 (by omega) (by omega) w4);by_cases e1:shr a t=k
 ·have d1:((shr a t:Int) != (k:Int))=false:=by rw[e1];simp
  by_cases e2:(t.length:Int)<=room
  ·have d2:decide (room<(t.length:Int))=false:=by simp;omega
   have F:=HF.out;rw[if_pos ⟨e1,e2⟩] at F;have HG:=Hz F;clear F e1 HF;generalize shr a t=j at*;go_wp2_with (first
    |(go_at_call 234;refine SH.out.mono ?_;intro e w5 hh;obtain⟨rfl,b5⟩:=hh.new;clear hh
      have R5:=R4.out.below b5;have D5:=D4.below b5;obtain⟨c0,c1,c2⟩:=R5.cells;have f1:=Blk.frozen R5 1;have f2:=Blk.frozen R5 2;have R5:=Hz R5))
   go_ret
   rw[HG.out];have g5:w5.grownBy ((w5.setCell ⟨gr,1,none⟩ (.string (zad t))).setCell ⟨gr,2,none⟩ (.int .i64 (room-t.length))) (some gr):=zjn;refine⟨rfl,?_,D5.keep g5 R5.out Hne.out.symm (by decide),((Turns.of_far hU (by simp)).trans (Turns.of_new b5)).trans (Turns.of_far g5 (by simp))⟩;show Blk _ gr _ _;simpa using(Blk.set_ R5.out 1 (.string (zad t))).set_ 2 (.int .i64 (room-t.length))
  ·have d2:decide (room<(t.length:Int))=true:=by simp;omega
   have F:=HF.out;rw[if_neg (fun hh=>e2 hh.2)] at F;have HG:=Hz F;clear F e1 HF;generalize shr a t=j at*;go_wp2_with (first
    |(go_at_call 234;refine SH.out.mono ?_;intro e w5 hh;obtain⟨rfl,b5⟩:=hh.new;clear hh
      have R5:=R4.out.below b5;have D5:=D4.below b5;obtain⟨c0,c1,c2⟩:=R5.cells;have FL:=Hz (zj2 D5);have R5:=Hz R5)
    |(go_at_call 110;refine FL.out.mono ?_;rintro e w6 ⟨rfl,D6,b6⟩))
   go_ret
   rw[HG.out];exact⟨rfl,R5.out.far b6 Hne.out,D6,((Turns.of_far hU (by simp)).trans (Turns.of_new b5)).trans (Turns.of_far b6 (by simp))⟩
 ·have d1:((shr a t:Int) != (k:Int))=true:=by rw[bne_iff_ne];omega
  have F:=HF.out;rw[if_neg (fun hh=>e1 hh.1)] at F;have HG:=Hz F;clear F e1 HF;generalize shr a t=j at*;go_wp2_with (first
   |(go_at_call 234;refine SH.out.mono ?_;intro e w5 hh;obtain⟨rfl,b5⟩:=hh.new;clear hh
     have R5:=R4.out.below b5;have D5:=D4.below b5;obtain⟨c0,c1,c2⟩:=R5.cells;have FL:=Hz (zj2 D5);have R5:=Hz R5)
   |(go_at_call 110;refine FL.out.mono ?_;rintro e w6 ⟨rfl,D6,b6⟩))
  go_ret
  rw[HG.out];exact⟨rfl,R5.out.far b6 Hne.out,D6,((Turns.of_far hU (by simp)).trans (Turns.of_new b5)).trans (Turns.of_far b6 (by simp))⟩
set_option maxRecDepth 100000 in
theorem qcj{w:World}{A:Option Addr}{n c:Nat}{b:List Nat}{m:Int}(h:Reads w w.heap.size 1 A n (za3 .u8 b))(h8:∀x∈b,x<256)(hn:n<=140737488355328)(hm: -9223372036854775808<=m)(hm1:m<=9223372036854775807):
 Calls Tryz.prog 217 #[.slice A n c,.int .i64 m] w (OptT (ztu b m) w):=by
 obtain rfl:=h.len;by_cases hg:0<=m/\m<=65536
 ·obtain⟨m,rfl⟩:=Int.eq_ofNat_of_zero_le hg.1
  have hD:ztu b m=if zqa (zlm m [] 16777216 (some b)).2 then some (zlm m [] 16777216 (some b)).1 else none:=by unfold ztu;rw[if_pos hg,Int.toNat_natCast]
  have HD:=Hz hD;have d1:decide ((m:Int)<0)=false:=by simp
  have d2:decide (65536<(m:Int))=false:=by simp;omega
  have hg1:=hg.2;clear hD hg hm hm1;go_enter Tryz.func217,Tryz.ntmps217
  go_wp2_with (first
   |(go_at_call 76;refine(zfa h hn h8).mono ?_;rintro e w1 ⟨gc,rfl,hgc,C1,b1⟩))
  have hgw:w.heap.size<=gc:=hgc;have hz1:=b1.size;have hcl:=C1.lt;have N1:=Hz (show w1.heap.size≠gc by omega);have b1':Below w.heap.size w (w1.alloc (.cells #[.pointer (some ⟨gc,0,none⟩),.string ⟨#[]⟩,.int .i64 16777216] 236)):=b1.alloc hz1 _;go_loopw [8,9] (fun v i wr=>∃(k q:Nat) (A:Option Addr) (m5 c5:Nat) (a:List Nat) (room:Int) (S:St) (pre:List (List Nat)),i= .int .i64 (k:Int)/\v= .slice A m5 c5/\k+q=m/\Own wr w.heap.size 9 (.slice A m5 c5) (zm1 pre)/\pre.length=k/\Rd wr w1.heap.size gc a room/\CurS wr gc S/\Below w.heap.size w wr/\
   (∀x∈a,x<256)/\a.length<=65536/\0<=room/\room<=16777216/\Hid (zlm m [] 16777216 (some b)=(pre++(zlm q a room S).1,(zlm q a room S).2))) (fun _ i _=>m-(intOf i).toNat)
  case atStart=>exact⟨0,m,_,_,_,[],16777216,some b,[],rfl,rfl,by omega,Own.nil_,rfl,Blk.new _ _ _,CurS.below (S:=some b) C1 ((Below.refl _ _).alloc (Nat.le_refl _) _),b1',by simp,by simp,by omega,by omega,Hz (by simp)⟩
  case round=>
   obtain⟨k,q,A5,m5,c5,a,room,S,pre,rfl,rfl,hkq,o5,hpre,R5,D5,b5,a8,al,r0,r1,H⟩:=hrel;have z5:=b5.size;have BD:=Hz (zy5 D5);have ED:=Hz (zgf D5);have Hpre:=Hz hpre;have l5:=o5.len;rw[zeq,hpre] at l5;subst l5;clear hpre;by_cases hq:q=0
   ·obtain rfl:m5=m:=by omega
    have H2:=H.out;rw[zum q a room (.inl hq),List.append_nil] at H2;have E:=HD.out;rw[H2] at E;simp only at E;have HE:=Hz E;clear hq hkq E H2;generalize ztu b m5=o at*;cases hE:zqa S;all_goals
     rw[hE] at ED HE;clear hE;go_wp2_with (first
      |(go_at_call 82;(with_reducible refine ED.out.mono ?_);rintro e w6 ⟨rfl,rfl⟩))
     go_ret2
     rw[HE.out];first
      |exact⟨rfl,b5⟩
      |exact⟨_,_,_,rfl,o5,b5⟩
   ·obtain⟨q,rfl⟩:∃p,q=p+1:=⟨q-1,by omega⟩
    cases hS:S with
    |none=>
     rw[hS] at BD ED;have H2:=H.out;rw[zum (q+1) a room (.inr hS),List.append_nil,hS] at H2;have E:=HD.out;rw[H2] at E;have HE:=Hz E;clear hq E H2 hS;generalize ztu b m=o at*;have E:o=none:=by rw[HE.out];simp[zqa]
     subst E;go_wp2_with (first
      |(go_at_call 80;(with_reducible refine BD.out.mono ?_);rintro e w6 ⟨rfl,rfl⟩)
      |(go_at_call 82;(with_reducible refine ED.out.mono ?_);rintro e w6 ⟨rfl,rfl⟩))
     go_ret2
     exact⟨rfl,b5⟩
    |some l=>
     rw[hS] at BD;have H2:=H.out;rw[z5t q a room S (by rw[hS];simp)] at H2;have inv:=z5q a room S D5.ok al a8 r0 r1;have T:=Hz (qci R5 D5 N1.out a8 al r0 r1);clear hS hq;generalize zed a room S=x at*;obtain⟨t,a',room',S'⟩:=x;obtain⟨i1,i2,i3,i4,i5,i6⟩:=inv;simp only at i1 i2 i3 i4 i5 i6 H2;have H3:=Hz H2;have HA:=Hz (And.intro i1 (And.intro i2 (And.intro i3 i4)));clear H2 i1 i2 i3 i4 i6;have TO:=Hz (fun(w6:World) (hT:Turns [w1.heap.size,gc] wr w6)=>o5.touch hT (fun g hg=>by
      rcases List.mem_cons.1 hg with rfl|hg
      ·exact o5.blk_ne R5 (by decide)
      ·rw[List.mem_singleton] at hg
       subst hg;obtain⟨cs,hC⟩:=D5.blk;exact o5.blk_ne hC (by decide)))
     go_wp2_with (first
      |(go_at_call 80;(with_reducible refine BD.out.mono ?_);rintro e w6 ⟨rfl,rfl⟩)
      |(go_at_call 235;(with_reducible refine T.out.mono ?_);rintro e w6 ⟨rfl,R6,D6,t6⟩
        have o6:=TO.out w6 t6;have b6:=Turns.below b5 t6 (by intro x hx;simp at hx;rcases hx with rfl|rfl<;> omega) (Nat.le_refl _);have z6:=b6.size)
      |(refine zhi elS rfl (.tmp 32) (.tmp 35) rfl (W:=w) (B:=w.heap.size) o6 rfl rfl b6 (Nat.le_refl _) z6 rfl (by rw[zeq,Hpre.out];omega) (by rw[zeq,Hpre.out];simp only[maxLen];omega) ?_
        intro A7 c7 w7 _ _ o7 g7 b7 _ _))
     go_roundw
     case rel=>exact⟨m5+1,q,_,_,_,a',room',S',pre++[t],by go_num,rfl,by omega,by rw[zwp];exact o7,by rw[List.length_append,Hpre.out];rfl,Blk.push R6 o6 g7 (by decide),CurS.push D6 o6 g7 (by decide) (by decide),b7,HA.out.2.1,HA.out.1,HA.out.2.2.1,HA.out.2.2.2,Hz (by rw[H3.out,List.append_assoc];rfl)⟩
     case measure=>simp[intOf];omega
 ·have hD:ztu b m=none:=by unfold ztu;rw[if_neg hg]
  rw[hD];by_cases h0:m<0;all_goals
   have d3:65536<m\/m<0:=by omega
   clear hg hD;go_enter Tryz.func217,Tryz.ntmps217
   go_wp2
   all_goals first|(exfalso;omega)|(go_ret2;exact⟨rfl,Below.refl _ _⟩)
end Go.Proofs.Y
