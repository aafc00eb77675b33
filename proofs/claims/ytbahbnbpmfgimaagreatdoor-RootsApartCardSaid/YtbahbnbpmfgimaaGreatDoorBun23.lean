/- Merged. -/
import Derived.Test.YtbahbnbpmfgimaaGreatDoorBun13
import Derived.Test.YtbahbnbpmfgimaaGreatDoorBun16
set_option maxHeartbeats 4000000
namespace Go.Hm
open Go Go.RowKit
def zzx:St->Nat × St
 |some l=>if 8<=l.length then(num (l.take 8),some (l.drop 8)) else(0,none)
 |none=>(0,none)
def qb2(n:Nat):Int:=if n<9223372036854775808 then(n:Int) else(n:Int)-18446744073709551616
def rdC(t:Int)(S:St):zab × St:=
 if t=0 then((false,qb2 (zzx S).1,[],0,0),(zzx S).2)
 else if t=3 then((false,0,[],zag (zqe S).1,zag (zqe (zqe S).2).1),(zqe (zqe S).2).2)
 else((false,0,(zer ((lenS 65536 S).1:Int) (lenS 65536 S).2).1,0,0),(zer ((lenS 65536 S).1:Int) (lenS 65536 S).2).2)
def rdL(t:Int):Nat->St->List zab × St
 |0,S=>([],S)
 |_+1,none=>([],none)
 |k+1,some l=>((rdC t (some l)).1::(rdL t k (rdC t (some l)).2).1,(rdL t k (rdC t (some l)).2).2)
theorem z6q{n:Int}(h: -9223372036854775808<=n/\n<=9223372036854775807):qb2 (u64N n)=n:=by unfold qb2 u64N;split<;> omega
theorem z6r{n:Nat}(h:n<18446744073709551616):u64N (qb2 n)=n:=by unfold qb2 u64N;split<;> omega
theorem qia{t:Int}{c:zab}(hr:zae c t false=true)(ht:t≠1)(hi: -9223372036854775808<=c.2.1/\c.2.1<=9223372036854775807)(r:List Nat):rdC t (some (plE t c++r))=(c,some r):=by
 have h0:=zky hr;obtain⟨y0,y1,y2,y3,y4⟩:=c;dsimp only at h0 hi;subst h0;rcases zsx hr with rfl|rfl|rfl|rfl
 ·have e:y2=[]/\y3=0/\y4=0:=by simpa[zae] using hr
  obtain⟨rfl,rfl,rfl⟩:=e;have hl:=za6 (u64N y1) 8;have e1:plE 0 (false,y1,[],0,0)=low (u64N y1) 8:=by unfold plE;rw[if_pos rfl]
  have e2:zzx (some (low (u64N y1) 8++r))=(u64N y1,some r):=by unfold zzx;dsimp only;rw[if_pos (by rw[List.length_append];omega),List.take_left' hl,List.drop_left' hl,zhk (by have:=zxq y1;omega)]
  unfold rdC;rw[if_pos rfl,e1,e2];dsimp only;rw[z6q hi]
 ·exact absurd rfl ht
 ·have e:(y1=0/\y3=0/\y4=0)/\y2.length<=65536:=by simpa[zae] using hr
  obtain⟨⟨rfl,rfl,rfl⟩,hl⟩:=e;have e1:plE 2 (false,0,y2,0,0)=vp y2.length++y2:=by unfold plE;rw[if_neg (by decide),if_pos rfl]
  unfold rdC;rw[if_neg (by decide),if_neg (by decide),e1,List.append_assoc,zdv _ _ (by omega) (by omega)];dsimp only;rw[zos]
 ·have h3:=zoy hr
  have e:y1=0/\y2=[]:=by have:=zxt hr;have h:=hr;unfold zae at h;simp at h;exact⟨h.1.1,this⟩
  obtain⟨rfl,rfl⟩:=e;dsimp only at h3;have e1:plE 3 (false,0,[],y3,y4)=vp (zig y3)++vp (zig y4):=by unfold plE;rw[if_neg (by decide),if_neg (by decide),if_pos rfl]
  unfold rdC;rw[if_neg (by decide),if_pos rfl,e1,List.append_assoc,zsp _ _ (by unfold zig;split<;> omega)];dsimp only;rw[zsp _ _ (by unfold zig;split<;> omega)];dsimp only;rw[z6d,z6d]
theorem z6s{t:Int}(ht:t≠1):∀(l:List zab) (r:List Nat),(∀c∈l,zae c t false=true)->(∀c∈l,-9223372036854775808<=c.2.1/\c.2.1<=9223372036854775807)->rdL t l.length (some (l.flatMap (plE t)++r))=(l,some r)
 | [],r,_,_=>rfl
 |c::l,r,h,k=>by
  have ih:=z6s ht l r (fun d hd=>h d (by simp[hd])) (fun d hd=>k d (by simp[hd]));rw[List.flatMap_cons,List.append_assoc,List.length_cons,rdL,qia (h c (by simp)) ht (k c (by simp))];dsimp only;rw[ih]
theorem qgd{t:Int}{S:St}{c:zab}{r:List Nat}(hS:S.ok)(ht:t=0\/t=2\/t=3)(h:rdC t S=(c,some r)):S=some (plE t c++r):=by
 rcases ht with rfl|rfl|rfl
 ·unfold rdC at h
  rw[if_pos rfl] at h;injection h with h1 h2;cases S with
  |none=>simp[zzx] at h2
  |some l=>
   unfold zzx at h1 h2;dsimp only at h1 h2;by_cases h8:8<=l.length
   ·rw[if_pos h8] at h1 h2
    injection h2 with h2;have hb:=hS l rfl;have ht8:(l.take 8).length=8:=by rw[List.length_take];omega
    have hb8:∀x∈l.take 8,x<256:=fun x hx=>hb x (List.mem_of_mem_take hx)
    have hn:=zqw (l.take 8) hb8;rw[ht8] at hn;have hl:=zse (l.take 8) hb8;rw[ht8] at hl;rw[<-h1,<-h2];unfold plE;rw[if_pos rfl];dsimp only;rw[z6r (by omega),hl,List.take_append_drop]
   ·rw[if_neg h8] at h2
    cases h2
 ·unfold rdC at h
  rw[if_neg (by decide),if_neg (by decide)] at h;injection h with h1 h2;rcases zdf 65536 S hS with e|⟨N,q,rfl,hN,-,e⟩
  ·rw[e] at h2
   simp[zer] at h2
  ·rw[e] at h1 h2
   dsimp only at h1 h2;rcases ze4 (N:Int) (some q) with e2|⟨l,e3,-,hl,e2⟩
   ·rw[e2] at h2
    cases h2
   ·injection e3 with e3
    subst e3;rw[e2] at h1 h2;injection h2 with h2;rw[<-h1,<-h2];unfold plE;rw[if_neg (by decide),if_pos rfl];dsimp only;rw[Int.toNat_natCast,List.length_take,Nat.min_eq_left (by omega),List.append_assoc,List.take_append_drop]
 ·unfold rdC at h
  rw[if_neg (by decide),if_pos rfl] at h;injection h with h1 h2;rcases zi7 S hS with e|⟨N,q,rfl,hN,e⟩
  ·rw[e] at h2
   simp[zqe] at h2
  ·rw[e] at h1 h2
   dsimp only at h1 h2;have hq:St.ok (some q):=by have:=zsq hS;rwa[e] at this
   rcases zi7 (some q) hq with e2|⟨N2,q2,e3,hN2,e2⟩
   ·rw[e2] at h2
    cases h2
   ·injection e3 with e3
    subst e3;rw[e2] at h1 h2;injection h2 with h2;rw[<-h1,<-h2];unfold plE;rw[if_neg (by decide),if_neg (by decide),if_pos rfl];dsimp only;rw[z6e,z6e,List.append_assoc]
theorem qib{t:Int}{S:St}(hS:S.ok):(rdC t S).2.ok:=by
 unfold rdC;split
 ·cases S with
  |none=>exact St.ok_none
  |some l=>
   unfold zzx;dsimp only;split
   ·exact St.ok_some fun x hx=>hS l rfl x (List.mem_of_mem_drop hx)
   ·exact St.ok_none
 ·split
  ·exact zsq (zsq hS)
  ·exact(zi8 (zbz hS)).1
theorem zzy{t:Int}(ht:t=0\/t=2\/t=3):∀(n:Nat) (S:St) (l:List zab) (r:List Nat),S.ok->rdL t n S=(l,some r)->S=some (l.flatMap (plE t)++r)/\l.length=n
 |0,S,l,r,_,h=>by
  unfold rdL at h;injection h with h1 h2;subst h1;exact⟨by simpa using h2,rfl⟩
 |n+1,none,l,r,_,h=>by
  unfold rdL at h;injection h with _ h2;cases h2
 |n+1,some s,l,r,hS,h=>by
  unfold rdL at h;injection h with h1 h2;have ho:=qib (t:=t) hS
  match hq:rdC t (some s) with
  |(c,none)=>
   rw[hq] at h2;cases n with
   |zero=>unfold rdL at h2;cases h2
   |succ n=>unfold rdL at h2;cases h2
  |(c,some q)=>
   rw[hq] at h1 h2 ho;obtain⟨e1,e2⟩:=zzy ht n (some q) (rdL t n (some q)).1 r ho (by rw[<-h2]);have e3:=qgd hS ht hq;subst h1;refine⟨?_,by rw[List.length_cons,e2]⟩;injection e1 with e1;rw[e3,List.flatMap_cons,List.append_assoc,<-e1]
end Go.Hm
namespace Go.Proofs.Y
open Go.RowKit Go.Hm
theorem qb3{w:World}{g:Nat}{S:St}(h:CurS w g S):Calls Tryz.prog 189 #[.pointer (some ⟨g,0,none⟩)] w (z6w (.returned (.int .u64 ((zzx S).1:Int))) g (zzx S).2 w):=by
 cases S with
 |none=>exact z57 h (.inl rfl)
 |some l=>
  unfold zzx;dsimp only;split
  ·exact qbi h ‹_›
  ·exact z57 h (.inr (by simp;omega))
theorem z6x{n:Nat}(h:n<18446744073709551616):IntKind.i64.wrap (n:Int)=qb2 n:=by
 unfold qb2;by_cases hn:n<9223372036854775808
 ·rw[if_pos hn]
  exact IntWalk.i64_in _ (by omega)
 ·rw[if_neg hn]
  rw[IntKind.wrap_i64];omega
theorem z6y{S:St}(hS:S.ok):(zzx S).1<18446744073709551616:=by
 cases S with
 |none=>simp[zzx]
 |some l=>
  unfold zzx;dsimp only;split
  ·have:=zqw (l.take 8) (fun x hx=>hS l rfl x (List.mem_of_mem_take hx))
   have h2:(l.take 8).length=8:=by rw[List.length_take];omega
   rw[h2] at this;omega
  ·simp
def qid(c:zab)(g:Nat)(S:St)(w:World)(e:Ending)(w':World):Prop:=e= .returned (zc2 c)/\CurS w' g S/\w.grownBy w' (some g)
set_option maxRecDepth 100000 in
theorem qb4{w:World}{g:Nat}{S:St}{t:Int}(h:CurS w g S)(ht:t=0\/t=2\/t=3):
 Calls Tryz.prog 170 #[.pointer (some ⟨g,0,none⟩),.int .i64 t] w (qid (rdC t S).1 g (rdC t S).2 w):=by
 have hlt:=h.lt;have ha:New w (w.alloc (.cells (zay za8).toArray 75)):=(Below.refl _ _).alloc (Nat.le_refl _) _;have h0:=h.below ha;have BZ:Blk (w.alloc (.cells (zay za8).toArray 75)) w.heap.size 75 (zay za8).toArray:=Blk.new _ _ _;have G0:w.grownBy (w.alloc (.cells (zay za8).toArray 75)) (some g):=Far.of_new ha;obtain⟨X,hX⟩:∃X,X=rdC t S:=⟨_,rfl⟩;rw[<-hX];unfold rdC at hX;rcases ht with rfl|rfl|rfl
 ·rw[if_pos rfl] at hX
  have C1:=Hz (qb3 h0);have hw:=z6x (z6y h.ok);generalize zzx S=Q at*;obtain⟨a,S1⟩:=Q;dsimp only at*;generalize qb2 a=z at*;have HX:=Hz hX;clear hX h h0 ha;go_enter Tryz.func170,Tryz.ntmps170
  go_wp2_with fail
  refine C1.out.mono ?_;rintro e w1 ⟨rfl,s1,g1⟩;have hz1:=g1.size;simp only[World.size_alloc] at hz1;have BZ1:=BZ.grown g1 (by intro e;injection e with e;omega);have G1:=G0.trans g1
  go_wp2_with (refine zaf rfl 75 (.tmp 4) (.tmp 13) rfl w.heap.size _ rfl rfl BZ1 (by kernel_rfl) (by simp[zay]) (by simp[Value.oneCell']) ?_
               intro W5 BR G5;obtain⟨s0,s1',s2,s3,s4⟩:=zcq BR)
  have hX:=HX.out;subst hX;exact bodyPost_ret (v:=zc2 (false,z,[],0,0)) (by simp[results,Tryz.results170,go_sem,s0,s1',s2,s3,s4,zc2,zay,show zad []=⟨#[]⟩ from rfl]) rfl ⟨rfl,s1.keep G5 BZ1 (by omega) (by decide),zbd G1 G5 (Nat.le_refl _)⟩
 ·rw[if_neg (by decide),if_neg (by decide)] at hX
  have C1:=Hz (zdw (m:=65536) h0 (by omega) (by omega));have hle:=zdg (m:=65536) S (by omega) h.ok;generalize lenS 65536 S=Q at*;obtain⟨a,S1⟩:=Q;dsimp only at*;obtain⟨Q2,hQ2⟩:∃Q,Q=zer (a:Int) S1:=⟨_,rfl⟩;rw[<-hQ2] at hX;have HQ2:=Hz hQ2;have HX:=Hz hX;clear hX h h0 ha hQ2;go_enter Tryz.func170,Tryz.ntmps170
  go_wp2_with fail
  refine C1.out.mono ?_;rintro e w1 ⟨rfl,s1,g1⟩;have hz1:=g1.size;simp only[World.size_alloc] at hz1;have BZ1:=BZ.grown g1 (by intro e;injection e with e;omega);have G1:=G0.trans g1;have C2:=zo3 (n:=(a:Int)) s1 (by omega) (by omega);rw[<-HQ2.out] at C2;have C2:=Hz C2;clear C1 BZ G0 g1 s1;go_wp2_with fail
  refine C2.out.mono ?_;rintro e w2 ⟨A2,n2,c2,rfl,e2,k2,s2,g2⟩;have hz2:=g2.size;have BZ2:=BZ1.grown g2 (by intro e;injection e with e;omega);have G2:=G1.trans g2;have q2:=zi1 (c:=c2) k2.reads;obtain⟨x2,S2⟩:=Q2;dsimp only at e2 k2 s2 q2;subst e2;clear C2 BZ1 G1 g2 HQ2
  go_wp2_with (refine zaf rfl 75 (.tmp 4) (.tmp 31) rfl w.heap.size _ rfl rfl BZ2 (by kernel_rfl) (by simp[zay]) (by simp[Value.oneCell']) ?_
               intro W5 BR G5;obtain⟨s0,s1',s2',s3,s4⟩:=zcq BR)
  have hX:=HX.out;subst hX;exact bodyPost_ret (v:=zc2 (false,0,x2,0,0)) (by simp[results,Tryz.results170,go_sem,s0,s1',s2',s3,s4,zc2,zay]) rfl ⟨rfl,s2.keep G5 BZ2 (by omega) (by decide),zbd G2 G5 (Nat.le_refl _)⟩
 ·rw[if_neg (by decide),if_pos rfl] at hX
  have C1:=Hz (zz0 h0);have hlt1:=z6b h.ok;have hok1:=zsq h.ok;generalize zqe S=Q at*;obtain⟨a,S1⟩:=Q;dsimp only at*;have hlt2:=z6b hok1;obtain⟨Q2,hQ2⟩:∃Q,Q=zqe S1:=⟨_,rfl⟩;rw[<-hQ2] at hX hlt2;have HQ2:=Hz hQ2;have Z1:=Hz (fun(W:World)=>z6g a W hlt1);have Z2:=Hz (fun(W:World)=>z6g Q2.1 W hlt2);have HX:=Hz hX;clear hX h h0 ha hQ2;go_enter Tryz.func170,Tryz.ntmps170
  go_wp2_with fail
  refine C1.out.mono ?_;rintro e w1 ⟨rfl,s1,g1⟩;have hz1:=g1.size;simp only[World.size_alloc] at hz1;have BZ1:=BZ.grown g1 (by intro e;injection e with e;omega);have G1:=G0.trans g1;have C2:=zz0 s1;rw[<-HQ2.out] at C2;have C2:=Hz C2;clear C1 BZ G0 g1 s1;go_wp2_with fail
  refine(Z1.out _).mono ?_;rintro e w2 ⟨rfl,rfl⟩;go_wp2_with fail
  refine C2.out.mono ?_;rintro e w2 ⟨rfl,s2,g2⟩;have hz2:=g2.size;have BZ2:=BZ1.grown g2 (by intro e;injection e with e;omega);have G2:=G1.trans g2;clear C2 BZ1 G1 g2 HQ2;go_wp2_with fail
  refine(Z2.out _).mono ?_;rintro e w3 ⟨rfl,rfl⟩
  go_wp2_with (refine zaf rfl 75 (.tmp 4) (.tmp 25) rfl w.heap.size _ rfl rfl BZ2 (by kernel_rfl) (by simp[zay]) (by simp[Value.oneCell']) ?_
               intro W5 BR G5;obtain⟨s0,s1',s2',s3,s4⟩:=zcq BR)
  have hX:=HX.out;subst hX;exact bodyPost_ret (v:=zc2 (false,0,[],zag a,zag Q2.1)) (by simp[results,Tryz.results170,go_sem,s0,s1',s2',s3,s4,zc2,zay,show zad []=⟨#[]⟩ from rfl]) rfl ⟨rfl,s2.keep G5 BZ2 (by omega) (by decide),zbd G2 G5 (Nat.le_refl _)⟩
end Go.Proofs.Y
namespace Go.Hm
open Go Go.RowKit
structure IsPl(Q:zab->Prop)(t:Int)(b:List Nat)(n:Int)(o:Option (List zab)):Prop where
 sound:∀l,o=some l->(l.length:Int)=n/\plO t l=some b/\ ∀c∈l,Q c
 compl:∀l,(∀c∈l,Q c)->(l.length:Int)=n->plO t l=some b->o=some l
theorem qgj{w:World}{base sz n:Nat}{e:TypeId}{v:Value}{xs:List Value}{g:Nat}(h:w.ownsRow base e sz v n xs)(hv:v.ownBlock=some g):∃cs,Blk w g e cs:=by
 rcases h.2 with⟨rfl,_⟩|⟨g',cap,cur,rfl,_,hh,_⟩
 ·simp[Value.ownBlock] at hv
 ·have:g'=g:=by simpa[Value.ownBlock] using hv
  subst this;exact⟨_,hh⟩
theorem plO_iff{t:Int}{l:List zab}{b:List Nat}:plO t l=some b↔zkx t l=true/\plB t l=b:=by
 unfold plO;by_cases h:zkx t l=true
 ·rw[if_pos h]
  simp[h]
 ·rw[if_neg h]
  simp[h]
theorem zz1{t:Int}(ht:t=0\/t=2\/t=3)(l:List zab):plB t l=l.flatMap (plE t):=by unfold plB;rw[if_neg (by omega)]
end Go.Hm
namespace Go.Proofs.Y
open Go.RowKit Go.Hm
theorem CurS.pushRow{w w':World}{g base sz n:Nat}{S:St}{e:TypeId}{v:Value}{xs:List Value}(h:CurS w g S)(o:w.ownsRow base e sz v n xs)(hg:w.grownBy w' v.ownBlock)(he1:e≠180)(he2:5≠e):CurS w' g S:=by
 cases hv:v.ownBlock with
 |none=>
  rw[hv] at hg;exact h.below ((Turns.of_none (T:=[]) hg).new (by simp))
 |some g'=>
  obtain⟨cs,hB⟩:=qgj o hv;rw[hv] at hg;obtain⟨cs2,hC⟩:=h.blk;exact h.keep hg hB (fun e'=>by subst e';exact Blk.ne_ hB hC he1 rfl) he2
theorem qkb:ElT Tryz.prog 76 75 (.agg #[.bool false,.int .i64 0,.string ⟨#[]⟩,.int .i64 0,.int .i64 0]) 5 48:=⟨by kernel_rfl,by kernel_rfl,rfl,by omega⟩
def OptC(o:Option (List zab))(w:World)(e:Ending)(w':World):Prop:=
 match o with
 |none=>e= .returned (.tuple #[.slice none 0 0,.bool false])/\New w w'
 |some l=>∃A n c,e= .returned (.tuple #[.slice A n c,.bool true])/\w'.ownsRow w.heap.size 75 5 (.slice A n c) n (recs zay l)/\New w w'
def qkc(t:Int)(b:List Nat)(n:Int)(w:World)(e:Ending)(w':World):Prop:=∃o,IsPl zaq t b n o/\OptC o w e w'
theorem z6z{t:Int}{s:List Nat}(hs:St.ok (some s)):zaq (rdC t (some s)).1:=by
 unfold rdC zaq;split
 ·have h:=z6y hs
  dsimp only;refine⟨⟨by simp,by simp⟩,?_⟩;unfold qb2;split<;> omega
 ·split
  ·dsimp only
   exact⟨⟨by simp,by simp⟩,by omega⟩
  ·dsimp only
   have h1:=zdg (m:=65536) (some s) (by omega) hs;have h2:=zot (n:=((lenS 65536 (some s)).1:Int)) (S:=(lenS 65536 (some s)).2) (by omega);exact⟨⟨by omega,(zi8 (zbz hs)).2⟩,by omega⟩
theorem qb5(t:Int)(j:Nat):rdL t j none=([],none):=by cases j<;> rfl
theorem zz2{t:Int}{b:List Nat}{n:Nat}{out:List zab}{S:St}(ht:t=0\/t=2\/t=3)(hn:n<=65536)(h8:St.ok (some b))(hfin:rdL t n (some b)=(out,S))(hda:∀c∈out,zaq c):
 IsPl zaq t b (n:Int) (if S=some []/\(out.all fun c=>zae c t false)=true then some out else none):=by
 constructor
 ·intro l hl
  split at hl
  ·rename_i hc
   injection hl with hl;subst hl;obtain⟨rfl,hR⟩:=hc;obtain⟨e,hlen⟩:=zzy ht n (some b) out [] h8 hfin;injection e with e;rw[List.append_nil] at e;refine⟨by omega,plO_iff.2 ⟨plOk_iff.2 ⟨by omega,List.all_eq_true.1 hR⟩,?_⟩,hda⟩;rw[zz1 ht,e]
  ·cases hl
 ·intro l hd hlen hp
  obtain⟨hok,hb⟩:=plO_iff.1 hp;rw[zz1 ht] at hb;have hr:=(plOk_iff.1 hok).2;have:=z6s (t:=t) (by omega) l [] hr (fun c hc=>(hd c hc).2);rw[List.append_nil,hb,show l.length=n by omega,hfin] at this;injection this with e1 e2;subst e1 e2;rw[if_pos ⟨rfl,List.all_eq_true.2 hr⟩]
set_option maxRecDepth 100000 in
theorem zxw{w:World}{A:Option Addr}{c m:Nat}{b:List Nat}{t:Int}{n:Nat}(h:Reads w w.heap.size 1 A m (zao .u8 b))(h8:∀x∈b,x<256)(hm:m<=140737488351232)(ht:t=0\/t=2\/t=3)(hn:n<=65536):
 Calls Tryz.prog 154 #[.int .i64 t,.slice A m c,.int .i64 (n:Int)] w (qkc t b (n:Int) w):=by
 obtain rfl:m=b.length:=h.len;have KN:=zkz (w:=w) (t:=t) (n:=(n:Int));rw[decide_eq_true (show 0<=t/\t<=3/\0<=(n:Int)/\(n:Int)<=65536 by omega)] at KN;have KN:=Hz KN;have OV:=Hz (zsn (c:=c) h (by omega) h8);have t1:(t==1)=false:=beq_eq_false_iff_ne.2 (by omega);have H8:=Hz h8;have HT:=Hz ht;clear h h8;go_enter Tryz.func154,Tryz.ntmps154
 go_wp2_with fail
 refine KN.out.mono ?_;rintro e w1 ⟨rfl,rfl⟩;go_wp2_with fail
 refine OV.out.mono ?_;rintro e w1 ⟨g,rfl,hg,hc,b1⟩;have s1:=CurS.of hc;clear hc KN OV t1;go_wp2_with fail
 go_loopw [9,10] (fun v i wr=>∃(k:Nat) (out:List zab) (S:St) (AA:Option Addr) (cc:Nat),k<=n/\out.length=k/\i= .int .i64 (k:Int)/\v= .slice AA k cc/\wr.ownsRow w.heap.size 75 5 (.slice AA k cc) k (recs zay out)/\CurS wr g S/\Below w.heap.size w wr/\Hid (rdL t n (some b)=(out++(rdL t (n-k) S).1,(rdL t (n-k) S).2))/\Hid (∀c∈out,zaq c)) (fun _ i _=>n-(intOf i).toNat)
 case atStart=>exact⟨0,[],some b,none,0,Nat.zero_le _,rfl,rfl,rfl,by simpa[recs] using zdo,s1,b1,Hz (by simp),Hz (by simp)⟩
 case round=>
  obtain⟨k,out,S,AA,cc,hk,hol,rfl,rfl,o,hs,hbl,hrd,hda⟩:=hrel;have hz:=hbl.size;have hb8:St.ok (some b):=St.ok_some H8.out;by_cases hgo:k<n/\S≠none
  ·obtain⟨hlt,hSn⟩:=hgo
   obtain⟨s,rfl⟩:=Option.ne_none_iff_exists'.1 hSn;have hok:=hs.ok;have BD:=Hz (qei hs);rw[Option.isNone_some] at BD;have RD:=Hz (qb4 hs HT.out);have hdat:=z6z (t:=t) hok;have hst:=hrd.out;rw[show n-k=(n-(k+1))+1 by omega,rdL] at hst;dsimp only at hst;obtain⟨cs,hT⟩:=hs.blk;have o':=o;generalize rdC t (some s)=R at*;obtain⟨⟨y0,y1,y2,y3,y4⟩,S2⟩:=R;dsimp only at*;have HST:=Hz hst;have HDT:=Hz hdat;have HOL:=Hz hol;have hlt':(k:Int)<(n:Int):=by omega
   clear hst hdat hrd hSn hs hok hol;go_wp2_with fail
   refine BD.out.mono ?_;rintro e w2 ⟨rfl,rfl⟩;go_wp2_with fail
   refine RD.out.mono ?_;rintro e w3 ⟨rfl,s3,g3⟩;rw[show zc2 (y0,y1,y2,y3,y4)= .agg #[.bool y0,.int .i64 y1,.string (zad y2),.int .i64 y3,.int .i64 y4] from rfl];have o3:=World.ownsRow.kept o' g3 (.inr (zas o' hT (by decide)));have b3:Below w.heap.size w w3:=hbl.grown g3 hz (fun k e=>by injection e with e;omega);have hz3:=b3.size;have S3:=Hz s3;clear BD RD o o' g3 hbl s3 hT
   go_wp2_with (refine zdp qkb rfl (.tmp 34) (.tmp 38) rfl (W:=w) (B:=w.heap.size) (base:=w.heap.size) (n:=k) o3 rfl rfl b3 (Nat.le_refl _) hz3 rfl (by simp[Value.oneCell']) (by omega) (by simp only[maxLen];omega) ?_
                intro A5 c5 w5 _ _ o5 g5 b5 _ _)
   have s5:=S3.out.pushRow o3 g5 (by decide) (by decide);go_roundw
   case rel=>exact⟨k+1,out++[(y0,y1,y2,y3,y4)],S2,A5,c5,by omega,by rw[List.length_append,HOL.out];rfl,by go_num,rfl,by rw[zbb];simpa[recs,zay] using o5,s5,b5,Hz (by rw[HST.out,List.append_assoc];rfl),Hz (fun c hc=>by
    rcases List.mem_append.1 hc with hc|hc
    ·exact hda.out c hc
    ·rw[List.mem_singleton.1 hc];exact HDT.out)⟩
   case measure=>simp[intOf];omega
  ·have hfin:rdL t n (some b)=(out,S):=by
    rw[hrd.out];by_cases hkn:k<n
    ·have:S=none:=Classical.byContradiction fun e=>hgo ⟨hkn,e⟩
     subst this;rw[qb5,List.append_nil]
    ·rw[show n-k=0 by omega]
     simp[rdL]
   have hI:=zz2 HT.out hn hb8 hfin hda.out;have EN:=Hz (zk3 hs);have AR:=Hz (zmy (t:=t) (c:=cc) (Reads.of_own o) (fun y hy=>(hda.out y hy).1.1) (by omega));have BD:=Hz (qei hs);have HI:=Hz hI;clear hI hfin hrd hs;by_cases hS:S=some []
   ·subst hS
    have hkn: ¬k<n:=fun e=>hgo ⟨e,by simp⟩
    obtain rfl:k=n:=by omega
    rw[show qbo (some [])=true from rfl] at EN;clear BD hgo;go_wp2_with fail
    refine EN.out.mono ?_;rintro e w2 ⟨rfl,rfl⟩;go_wp2_with fail
    refine AR.out.mono ?_;rintro e w3 ⟨rfl,b3⟩;have hI:=HI.out;have o3:=za5 o b3;have hl:=New.trans hbl b3;cases hall:(out.all fun c=>zae c t false) with
    |true=>
     rw[if_pos ⟨by trivial,hall⟩] at hI;have HI:=Hz hI;clear hI EN AR;go_wp2_with fail
     go_ret2
     exact⟨some out,HI.out,_,_,_,rfl,o3,hl⟩
    |false=>
     rw[if_neg (by rw[hall];simp)] at hI;have HI:=Hz hI;clear hI EN AR;go_wp2_with fail
     go_ret2
     exact⟨none,HI.out,rfl,hl⟩
   ·have hI:=HI.out
    rw[if_neg (fun e=>hS e.1)] at hI;have HI:=Hz hI;rw[show qbo S=false from decide_eq_false hS] at EN;clear hI AR hS;by_cases hkn:k<n
    ·have:S=none:=Classical.byContradiction fun e=>hgo ⟨hkn,e⟩
     subst this;rw[show(Option.isNone (none:St))=true from rfl] at BD;have hkn':(k:Int)<(n:Int):=by omega
     clear hgo;go_wp2_with fail
     refine BD.out.mono ?_;rintro e w2 ⟨rfl,rfl⟩;go_wp2_with fail
     refine EN.out.mono ?_;rintro e w2 ⟨rfl,rfl⟩;go_wp2_with fail
     go_ret2
     exact⟨none,HI.out,rfl,hbl⟩
    ·obtain rfl:k=n:=by omega
     clear hgo BD;go_wp2_with fail
     refine EN.out.mono ?_;rintro e w2 ⟨rfl,rfl⟩;go_wp2_with fail
     go_ret2
     exact⟨none,HI.out,rfl,hbl⟩
end Go.Proofs.Y
namespace Go.Hm
open Go Go.RowKit
def zvb(x:Nat):zab:=(false,(x:Int),[],0,0)
theorem z7o{l:List Nat}(h:∀x∈l,x<2):zd4 (l.map zvb)=l:=by
 unfold zd4;rw[List.map_map];conv=>rhs;rw[<-List.map_id l]
 refine List.map_congr_left fun x hx=>?_
 have:=h x hx;show u64N (x:Int)=x;unfold u64N;omega
theorem z7p{l:List zab}(h:∀c∈l,zae c 1 false=true):(zd4 l).map zvb=l:=by
 unfold zd4;rw[List.map_map];conv=>rhs;rw[<-List.map_id l]
 refine List.map_congr_left fun c hc=>?_
 have hr:=h c hc;have h0:=zky hr;have h1:=qeg hr;obtain⟨y0,y1,y2,y3,y4⟩:=c;dsimp only at h0 h1;subst h0;have e:(y2=[]/\y3=0/\y4=0)/\(y1=0\/y1=1):=by simpa[zae] using hr
 obtain⟨⟨rfl,rfl,rfl⟩,-⟩:=e;show zvb (u64N y1)=(false,y1,[],0,0);unfold zvb u64N;rcases h1 with rfl|rfl<;> rfl
theorem z2w{x:Nat}(h:x<2):zae (zvb x) 1 false=true:=by
 have:x=0\/x=1:=by omega
 rcases this with rfl|rfl<;> simp[zae,zvb]
end Go.Hm
namespace Go.Proofs.Y
open Go.RowKit Go.Hm
theorem zvc{b:List Nat}{n:Int}(h8:∀x∈b,x<256):IsPl zaq 1 b n ((zfh b 1 n).map fun l=>l.map zvb):=by
 constructor
 ·intro l hl
  cases hu:zfh b 1 n with
  |none=>rw[hu] at hl;cases hl
  |some k=>
   rw[hu] at hl;injection hl with hl;subst hl;obtain⟨hp,hlen,hw,hk,hf⟩:=zor h8 hu;have h2:∀x∈k,x<2:=by have:=(zhu k 1 (by omega) hk).1 (by omega);simpa using this
   have hR:∀c∈k.map zvb,zae c 1 false=true:=fun c hc=>by obtain⟨x,hx,rfl⟩:=List.mem_map.1 hc;exact z2w (h2 x hx)
   have hpb:=qby hR (by rw[List.length_map];exact hf);rw[z7o h2,hp] at hpb;injection hpb with hpb;refine⟨by rw[List.length_map];exact hlen,plO_iff.2 ⟨plOk_iff.2 ⟨⟨by omega,by omega,by rw[List.length_map];exact hf⟩,hR⟩,hpb.symm⟩,fun c hc=>?_⟩;obtain⟨x,hx,rfl⟩:=List.mem_map.1 hc;have:=h2 x hx;unfold zaq zvb;exact⟨⟨by simp,by simp⟩,by dsimp only;omega⟩
 ·intro l _ hlen hp
  obtain⟨hok,hb⟩:=plO_iff.1 hp;obtain⟨⟨_,_,hf⟩,hR⟩:=plOk_iff.1 hok;have hbl:(zd4 l).length=l.length:=by unfold zd4;rw[List.length_map]
  have hu:=zxk (zd4 l) 1 (by omega) (by omega) (zoz hR) (fun x hx=>by unfold zd4 at hx;obtain⟨y,_,rfl⟩:=List.mem_map.1 hx;have:=zxq y.2.1;omega);have e:low (pk 1 (zd4 l)) ((1*(zd4 l).length+7)/8)=b:=by rw[<-hb];unfold plB;rw[if_pos rfl,hbl]
  rw[e,hbl,hlen] at hu;have hu:zfh b 1 n=some (zd4 l):=hu;rw[hu];show some ((zd4 l).map zvb)=some l;rw[z7p hR]
end Go.Proofs.Y
namespace Go.Hm
open Go.RowKit
def fitsV(typ enc:Int):Bool:=decide ((enc=0\/enc=1)/\0<=typ/\typ<=3\/enc=2/\(typ=0\/typ=1)\/enc=3/\(typ=0\/typ=3)\/enc=4/\typ=2)
def zve(t e:Int):Prop:=e= -1\/fitsV t e=true
instance(t e:Int):Decidable (zve t e):=by unfold zve;exact inferInstance
def zej(g p:Int)(encs:List Int)(cols:List zbc):Int:=
 if¬(1<=g/\g<=65536/\1<=p/\p<=65536/\encs.length=cols.length) then 1 else if∀i,i<encs.length->zve (cols.getD i ([],0,false)).2.1 (encs.getD i 0) then 0 else 3
end Go.Hm
namespace Go.Proofs.Y
open Go.RowKit Go.Hm
theorem zk8(t e:Int)(w:World):Calls Tryz.prog 85 #[.int .i64 t,.int .i64 e] w (zdl (.bool (fitsV t e)) w):=by
 generalize hO:fitsV t e=O;have HO:=Hz hO;clear hO;go_enter Tryz.func85,Tryz.ntmps85
 go_wp2
 all_goals go_ret
 all_goals
  simp only[beq_iff_eq,beq_eq_false_iff_ne,ne_eq] at*;rw[<-HO.out];refine⟨congrArg (fun b=>Ending.returned (.bool b)) ?_,rfl⟩;rw[Bool.eq_iff_iff];simp only[fitsV,decide_eq_true_eq,Bool.or_eq_true,beq_iff_eq,Bool.false_eq_true,false_iff,true_iff];omega
theorem zvf(n:Int)(w:World):Calls Tryz.prog 84 #[.int .i64 n] w (zdl (.bool (decide (1<=n/\n<=65536))) w):=by
 generalize hO:decide (1<=n/\n<=65536)=O;have HO:=Hz hO;clear hO;go_enter Tryz.func84,Tryz.ntmps84
 go_wp2
 all_goals go_ret
 all_goals
  rw[<-HO.out];refine⟨congrArg (fun b=>Ending.returned (.bool b)) ?_,rfl⟩;rw[Bool.eq_iff_iff];simp only[decide_eq_true_eq,Bool.false_eq_true,false_iff];omega
abbrev Cv(g p:Int)(A:Option Addr)(n c:Nat):Value:= .agg #[.int .i64 g,.int .i64 p,.slice A n c]
theorem z7y{g p:Int}{E:List Int}{L:List zbc}(hg:1<=g/\g<=65536/\1<=p/\p<=65536/\E.length=L.length)(h:∀i,i<E.length->zve (L.getD i ([],0,false)).2.1 (E.getD i 0)):zej g p E L=0:=by unfold zej;rw[if_neg (by simpa using hg),if_pos h]
theorem z20{g p:Int}{E:List Int}{L:List zbc}(hg:1<=g/\g<=65536/\1<=p/\p<=65536/\E.length=L.length){i:Nat}(hi:i<E.length)(h: ¬zve (L.getD i ([],0,false)).2.1 (E.getD i 0)):zej g p E L=3:=by unfold zej;rw[if_neg (by simpa using hg),if_neg (fun hh=>h (hh i hi))]
theorem z7z{g p:Int}{E:List Int}{L:List zbc}(hg: ¬(1<=g/\g<=65536/\1<=p/\p<=65536/\E.length=L.length)):zej g p E L=1:=by unfold zej;rw[if_pos hg]
set_option maxRecDepth 100000 in
theorem z21{w:World}{A A2:Option Addr}{n c n2 c2:Nat}{g p:Int}{E:List Int}{L:List zbc}(h:Reads w w.heap.size 1 A n (za0 .i64 E))(h2:Reads w w.heap.size 3 A2 n2 (recs zls L))(hn:n<=4611686018427387903):
 Calls Tryz.prog 49 #[Cv g p A n c,.slice A2 n2 c2] w (zal (.int .i64 (zej g p E L)) w):=by
 have l1:=h.lenI;have l2:=h2.lenC;have b0:New w (w.alloc (.cells #[.int .i64 g,.int .i64 p,.slice A n c] 59)):=(Below.refl _ _).alloc (Nat.le_refl _) _;have B0:=Blk.new w 59 #[.int .i64 g,.int .i64 p,.slice A n c];obtain⟨x0,x1,x2⟩:=zan B0;have R1:=Hz (fun W=>zvf g W);have R2:=Hz (fun W=>zvf p W);by_cases hg:1<=g/\g<=65536/\1<=p/\p<=65536/\E.length=L.length
 ·rw[decide_eq_true (show 1<=g/\g<=65536 by omega)] at R1
  rw[decide_eq_true (show 1<=p/\p<=65536 by omega)] at R2;have K1:=Hz (fun hh=>z7y hg hh);have K2:=Hz (fun(i:Nat) (hi:i<n) hh=>z20 hg (i:=i) (by omega) hh);have hll:n2=n:=by omega
  have HL:=Hz l1;subst hll;generalize zej g p E L=O at*;have r1:=Reads.later h b0;have r2:=Reads.later h2 b0;clear hg B0 h h2 l1 l2;go_enter Tryz.func49,Tryz.ntmps49
  go_wp2_with (first
   |(go_at_call 84;(with_reducible refine(R1.out _).mono ?_);rintro e w1 ⟨rfl,rfl⟩)
   |(go_at_call 84;(with_reducible refine(R2.out _).mono ?_);rintro e w1 ⟨rfl,rfl⟩))
  clear x0 x1 x2 R1 R2;obtain⟨W0,hW0⟩:∃W,W=w.alloc (.cells #[.int .i64 g,.int .i64 p,.slice A n2 c] 59):=⟨_,rfl⟩;rw[<-hW0] at b0 r1 r2⊢;clear hW0;go_loopw [28] (fun i wr=>∃k:Nat,i= .int .i64 (k:Int)/\k<=n2/\W0=wr/\Hid (∀j,j<k->zve (L.getD j ([],0,false)).2.1 (E.getD j 0))) (fun i _=>n2-(intOf i).toNat)
  case atStart=>exact⟨0,rfl,by omega,rfl,Hz (fun j hj=>by omega)⟩
  case round=>
   obtain⟨k,rfl,hk,rfl,H⟩:=hrel;by_cases hlt:k<n2
   ·obtain⟨ad,rfl,hb,hc⟩:=r1.int hlt
    obtain⟨ad2,rfl,hb2,hc0,hc1,hc2⟩:=r2.colT hlt;have K2:=Hz (K2.out k hlt);have N:=Hz (show zve (L.getD k ([],0,false)).2.1 (E.getD k 0)-> ∀j,j<k+1->zve (L.getD j ([],0,false)).2.1 (E.getD j 0) from fun hh j hj=>by
     by_cases e:j=k
     ·subst e;exact hh
     ·exact H.out j (by omega))
    generalize(L.getD k ([],0,false)).2.1=t at*;generalize E.getD k 0=e at*;generalize(L.getD k ([],0,false)).2.2=x3 at*;generalize(L.getD k ([],0,false)).1=x4 at*;have hiz:(k:Int)<(n2:Int):=by omega
    have F:=Hz (fun W=>zk8 t e W);by_cases he:e= -1
    ·have N2:=Hz (N.out (.inl he))
     subst he;go_wp2
     go_roundw
     case rel=>exact⟨k+1,by go_num,by omega,trivial,N2⟩
     case measure=>simp[intOf];omega
    ·have e1:(e != -1)=true:=by simpa using he
     cases hf:fitsV t e
     ·have K3:=Hz (K2.out (fun hh=>by rcases hh with hh|hh;exact he hh;rw[hf] at hh;cases hh))
      rw[hf] at F;clear hf he;go_wp2_with (go_at_call 85;(with_reducible refine(F.out _).mono ?_);rintro e w1 ⟨rfl,rfl⟩)
      go_ret
      exact⟨by rw[K3.out];rfl,b0⟩
     ·have N2:=Hz (N.out (.inr hf))
      rw[hf] at F;clear hf he;go_wp2_with (go_at_call 85;(with_reducible refine(F.out _).mono ?_);rintro e w1 ⟨rfl,rfl⟩)
      go_roundw
      case rel=>exact⟨k+1,by go_num,by omega,trivial,N2⟩
      case measure=>simp[intOf];omega
   ·have K3:=Hz (K1.out (fun i hi=>H.out i (by have:=HL.out;omega)))
    go_wp2
    go_ret
    exact⟨by rw[K3.out];rfl,b0⟩
 ·have K:=Hz (z7z hg)
  generalize zej g p E L=O at*;by_cases h1:1<=g/\g<=65536;all_goals try(rw[decide_eq_true h1] at R1)
  all_goals try(rw[decide_eq_false h1] at R1)
  all_goals try(by_cases h2:1<=p/\p<=65536)
  all_goals try(rw[decide_eq_true h2] at R2)
  all_goals try(rw[decide_eq_false h2] at R2)
  all_goals try(have d2:((n:Int) != (n2:Int))=true:=by simp;omega)
  all_goals
   clear hg B0 l1 l2 h1;go_enter Tryz.func49,Tryz.ntmps49
   go_wp2_with (first
    |(go_at_call 84;(with_reducible refine(R1.out _).mono ?_);rintro e w1 ⟨rfl,rfl⟩)
    |(go_at_call 84;(with_reducible refine(R2.out _).mono ?_);rintro e w1 ⟨rfl,rfl⟩))
   go_ret
   exact⟨by rw[K.out];rfl,b0⟩
end Go.Proofs.Y
namespace Go.Hm
open Go Go.RowKit
section
variable{α:Type}{t:TypeId}{sz:Nat}{f:α->List Value}
abbrev z4p(α:Type):=Option Addr × Nat × List α
def zmn(d:z4p α):Value:= .slice d.1 d.2.2.length d.2.1
theorem znx{D:List (z4p α)}{j:Nat}{d x:z4p α}(h:j<D.length):(D.set j x).getD j d=x:=by rw[List.getD_eq_getElem?_getD,List.getElem?_set_self h];rfl
theorem zwl{D:List (z4p α)}{i j:Nat}{d x:z4p α}(h:i≠j):(D.set j x).getD i d=D.getD i d:=by rw[List.getD_eq_getElem?_getD,List.getElem?_set_ne (by omega),List.getD_eq_getElem?_getD]
structure RowsAp(t:TypeId)(sz:Nat)(f:α->List Value)(w:World)(B:Nat)(D:List (z4p α)):Prop where
 rows:∀d∈D,w.ownsRow B t sz (zmn d) d.2.2.length (recs f d.2.2)
 apart:∀i j,i<D.length->j<D.length->i≠j->(zmn (D.getD i (none,0,[]))).ownBlock=none\/(zmn (D.getD i (none,0,[]))).ownBlock≠(zmn (D.getD j (none,0,[]))).ownBlock
theorem RowsAp.later{w w':World}{B:Nat}{D:List (z4p α)}(h:RowsAp t sz f w B D)(hb:New w w'):RowsAp t sz f w' B D:=⟨fun d hd=>za5 (h.rows d hd) hb,h.apart⟩
theorem RowsAp.keepT{w w':World}{B g:Nat}{t':TypeId}{cs:Array Value}{D:List (z4p α)}(h:RowsAp t sz f w B D)(hT:Blk w g t' cs)(hne:t≠t')(hg:w.grownBy w' (some g)):RowsAp t sz f w' B D:=
 ⟨fun d hd=>World.ownsRow.kept (h.rows d hd) hg (.inr (zas (h.rows d hd) hT hne)),h.apart⟩
theorem RowsAp.nil{w:World}{B n:Nat}:RowsAp t sz f w B (List.replicate n (none,0,[])):=by
 refine⟨fun d hd=>?_,fun i j hi hj hne=>?_⟩
 ·rw[List.eq_of_mem_replicate hd]
  exact zdo
 ·rw[List.length_replicate] at hi
  left;rw[List.getD_eq_getElem?_getD,List.getElem?_replicate,if_pos hi];rfl
theorem z9n{D:List (z4p α)}{j:Nat}(h:j<D.length):D.getD j (none,0,[])∈D:=by rw[List.getD_eq_getElem?_getD,List.getElem?_eq_getElem h];exact List.getElem_mem h
theorem RowsAp.at_{w:World}{B j:Nat}{D:List (z4p α)}(h:RowsAp t sz f w B D)(hj:j<D.length):w.ownsRow B t sz (zmn (D.getD j (none,0,[]))) (D.getD j (none,0,[])).2.2.length (recs f (D.getD j (none,0,[])).2.2):=h.rows _ (z9n hj)
theorem RowsAp.put{w w':World}{B j:Nat}{D:List (z4p α)}{d:z4p α}(h:RowsAp t sz f w B D)(hj:j<D.length)(hd:w'.ownsRow B t sz (zmn d) d.2.2.length (recs f d.2.2))(hg:w.grownBy w' (zmn (D.getD j (none,0,[]))).ownBlock)
 (hat:(zmn d).ownBlock=(zmn (D.getD j (none,0,[]))).ownBlock\/ ∃g,(zmn d).ownBlock=some g/\w.heap.size<=g):RowsAp t sz f w' B (D.set j d):=by
 have hap:∀i,i<D.length->i≠j->(zmn (D.getD i (none,0,[]))).ownBlock=none\/(zmn (D.getD i (none,0,[]))).ownBlock≠(zmn d).ownBlock:=by
  intro i hi hne;rcases hat with hat|⟨g,hat,hgg⟩
  ·rw[hat]
   exact h.apart i j hi hj hne
  ·rcases hu:(zmn (D.getD i (none,0,[]))).ownBlock with _|k
   ·exact .inl rfl
   ·right
    rw[hat];intro e;injection e with e;have:=(World.ownsRow.lt (h.at_ hi) _ hu).2;omega
 refine⟨fun x hx=>?_,fun i k hi hk hne=>?_⟩
 ·obtain⟨i,hi,rfl⟩:=List.getElem_of_mem hx
  have e:(D.set j d)[i]'hi=(D.set j d).getD i (none,0,[]):=by rw[List.getD_eq_getElem?_getD,List.getElem?_eq_getElem hi];rfl
  have hi:i<D.length:=by simpa using hi
  rw[e];by_cases hij:i=j
  ·subst hij
   rw[znx hj];exact hd
  ·rw[zwl hij]
   exact World.ownsRow.kept (h.at_ hi) hg (h.apart i j hi hj hij)
 ·rw[List.length_set] at hi hk
  by_cases hij:i=j
  ·subst hij
   rw[znx hi,zwl (fun e=>hne e.symm)];exact zf9 (hap k hk (fun e=>hne e.symm))
  ·rw[zwl hij]
   by_cases hkj:k=j
   ·subst hkj
    rw[znx hk];exact hap i hi hij
   ·rw[zwl hkj]
    exact h.apart i k hi hk hne
end
end Go.Hm
