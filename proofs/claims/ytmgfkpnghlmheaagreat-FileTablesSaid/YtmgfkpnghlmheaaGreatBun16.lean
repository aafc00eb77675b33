/- Merged. -/
import Derived.Test.YtmgfkpnghlmheaaGreatBun15
set_option maxHeartbeats 4000000
namespace Go.Hm
open Go Go.RowKit
def zy2:St->Nat × St
 |some l=>if 8<=l.length then(num (l.take 8),some (l.drop 8)) else(0,none)
 |none=>(0,none)
def qas(n:Nat):Int:=if n<9223372036854775808 then(n:Int) else(n:Int)-18446744073709551616
def rdC(t:Int)(S:St):zab × St:=
 if t=0 then((false,qas (zy2 S).1,[],0,0),(zy2 S).2)
 else if t=3 then((false,0,[],zag (zh4 S).1,zag (zh4 (zh4 S).2).1),(zh4 (zh4 S).2).2)
 else((false,0,(zbt ((lenS 65536 S).1:Int) (lenS 65536 S).2).1,0,0),(zbt ((lenS 65536 S).1:Int) (lenS 65536 S).2).2)
def rdL(t:Int):Nat->St->List zab × St
 |0,S=>([],S)
 |_+1,none=>([],none)
 |k+1,some l=>((rdC t (some l)).1::(rdL t k (rdC t (some l)).2).1,(rdL t k (rdC t (some l)).2).2)
theorem z4w{n:Int}(h: -9223372036854775808<=n/\n<=9223372036854775807):qas (u64N n)=n:=by unfold qas u64N;split<;> omega
theorem z4x{n:Nat}(h:n<18446744073709551616):u64N (qas n)=n:=by unfold qas u64N;split<;> omega
theorem qg6{t:Int}{c:zab}(hr:zac c t false=true)(ht:t≠1)(hi: -9223372036854775808<=c.2.1/\c.2.1<=9223372036854775807)(r:List Nat):rdC t (some (plE t c++r))=(c,some r):=by
 have h0:=zge hr;obtain⟨y0,y1,y2,y3,y4⟩:=c;dsimp only at h0 hi;subst h0;rcases znb hr with rfl|rfl|rfl|rfl
 ·have e:y2=[]/\y3=0/\y4=0:=by simpa[zac] using hr
  obtain⟨rfl,rfl,rfl⟩:=e;have hl:=zbg (u64N y1) 8;have e1:plE 0 (false,y1,[],0,0)=low (u64N y1) 8:=by unfold plE;rw[if_pos rfl]
  have e2:zy2 (some (low (u64N y1) 8++r))=(u64N y1,some r):=by unfold zy2;dsimp only;rw[if_pos (by rw[List.length_append];omega),List.take_left' hl,List.drop_left' hl,zkf (by have:=zw0 y1;omega)]
  unfold rdC;rw[if_pos rfl,e1,e2];dsimp only;rw[z4w hi]
 ·exact absurd rfl ht
 ·have e:(y1=0/\y3=0/\y4=0)/\y2.length<=65536:=by simpa[zac] using hr
  obtain⟨⟨rfl,rfl,rfl⟩,hl⟩:=e;have e1:plE 2 (false,0,y2,0,0)=vp y2.length++y2:=by unfold plE;rw[if_neg (by decide),if_pos rfl]
  unfold rdC;rw[if_neg (by decide),if_neg (by decide),e1,List.append_assoc,zb2 _ _ (by omega) (by omega)];dsimp only;rw[zdf]
 ·have h3:=zmf hr
  have e:y1=0/\y2=[]:=by have:=zw2 hr;have h:=hr;unfold zac at h;simp at h;exact⟨h.1.1,this⟩
  obtain⟨rfl,rfl⟩:=e;dsimp only at h3;have e1:plE 3 (false,0,[],y3,y4)=vp (zig y3)++vp (zig y4):=by unfold plE;rw[if_neg (by decide),if_neg (by decide),if_pos rfl]
  unfold rdC;rw[if_neg (by decide),if_pos rfl,e1,List.append_assoc,zi2 _ _ (by unfold zig;split<;> omega)];dsimp only;rw[zi2 _ _ (by unfold zig;split<;> omega)];dsimp only;rw[zn5,zn5]
theorem z4y{t:Int}(ht:t≠1):∀(l:List zab) (r:List Nat),(∀c∈l,zac c t false=true)->(∀c∈l,-9223372036854775808<=c.2.1/\c.2.1<=9223372036854775807)->rdL t l.length (some (l.flatMap (plE t)++r))=(l,some r)
 | [],r,_,_=>rfl
 |c::l,r,h,k=>by
  have ih:=z4y ht l r (fun d hd=>h d (by simp[hd])) (fun d hd=>k d (by simp[hd]));rw[List.flatMap_cons,List.append_assoc,List.length_cons,rdL,qg6 (h c (by simp)) ht (k c (by simp))];dsimp only;rw[ih]
theorem qfb{t:Int}{S:St}{c:zab}{r:List Nat}(hS:S.ok)(ht:t=0\/t=2\/t=3)(h:rdC t S=(c,some r)):S=some (plE t c++r):=by
 rcases ht with rfl|rfl|rfl
 ·unfold rdC at h
  rw[if_pos rfl] at h;injection h with h1 h2;cases S with
  |none=>simp[zy2] at h2
  |some l=>
   unfold zy2 at h1 h2;dsimp only at h1 h2;by_cases h8:8<=l.length
   ·rw[if_pos h8] at h1 h2
    injection h2 with h2;have hb:=hS l rfl;have ht8:(l.take 8).length=8:=by rw[List.length_take];omega
    have hb8:∀x∈l.take 8,x<256:=fun x hx=>hb x (List.mem_of_mem_take hx)
    have hn:=zqn (l.take 8) hb8;rw[ht8] at hn;have hl:=zsd (l.take 8) hb8;rw[ht8] at hl;rw[<-h1,<-h2];unfold plE;rw[if_pos rfl];dsimp only;rw[z4x (by omega),hl,List.take_append_drop]
   ·rw[if_neg h8] at h2
    cases h2
 ·unfold rdC at h
  rw[if_neg (by decide),if_neg (by decide)] at h;injection h with h1 h2;rcases zbq 65536 S hS with e|⟨N,q,rfl,hN,-,e⟩
  ·rw[e] at h2
   simp[zbt] at h2
  ·rw[e] at h1 h2
   dsimp only at h1 h2;rcases zca (N:Int) (some q) with e2|⟨l,e3,-,hl,e2⟩
   ·rw[e2] at h2
    cases h2
   ·injection e3 with e3
    subst e3;rw[e2] at h1 h2;injection h2 with h2;rw[<-h1,<-h2];unfold plE;rw[if_neg (by decide),if_pos rfl];dsimp only;rw[Int.toNat_natCast,List.length_take,Nat.min_eq_left (by omega),List.append_assoc,List.take_append_drop]
 ·unfold rdC at h
  rw[if_neg (by decide),if_pos rfl] at h;injection h with h1 h2;rcases zgx S hS with e|⟨N,q,rfl,hN,e⟩
  ·rw[e] at h2
   simp[zh4] at h2
  ·rw[e] at h1 h2
   dsimp only at h1 h2;have hq:St.ok (some q):=by have:=zsf hS;rwa[e] at this
   rcases zgx (some q) hq with e2|⟨N2,q2,e3,hN2,e2⟩
   ·rw[e2] at h2
    cases h2
   ·injection e3 with e3
    subst e3;rw[e2] at h1 h2;injection h2 with h2;rw[<-h1,<-h2];unfold plE;rw[if_neg (by decide),if_neg (by decide),if_pos rfl];dsimp only;rw[zws,zws,List.append_assoc]
theorem qg7{t:Int}{S:St}(hS:S.ok):(rdC t S).2.ok:=by
 unfold rdC;split
 ·cases S with
  |none=>exact St.ok_none
  |some l=>
   unfold zy2;dsimp only;split
   ·exact St.ok_some fun x hx=>hS l rfl x (List.mem_of_mem_drop hx)
   ·exact St.ok_none
 ·split
  ·exact zsf (zsf hS)
  ·exact(zcq (za6 hS)).1
theorem zy3{t:Int}(ht:t=0\/t=2\/t=3):∀(n:Nat) (S:St) (l:List zab) (r:List Nat),S.ok->rdL t n S=(l,some r)->S=some (l.flatMap (plE t)++r)/\l.length=n
 |0,S,l,r,_,h=>by
  unfold rdL at h;injection h with h1 h2;subst h1;exact⟨by simpa using h2,rfl⟩
 |n+1,none,l,r,_,h=>by
  unfold rdL at h;injection h with _ h2;cases h2
 |n+1,some s,l,r,hS,h=>by
  unfold rdL at h;injection h with h1 h2;have ho:=qg7 (t:=t) hS
  match hq:rdC t (some s) with
  |(c,none)=>
   rw[hq] at h2;cases n with
   |zero=>unfold rdL at h2;cases h2
   |succ n=>unfold rdL at h2;cases h2
  |(c,some q)=>
   rw[hq] at h1 h2 ho;obtain⟨e1,e2⟩:=zy3 ht n (some q) (rdL t n (some q)).1 r ho (by rw[<-h2]);have e3:=qfb hS ht hq;subst h1;refine⟨?_,by rw[List.length_cons,e2]⟩;injection e1 with e1;rw[e3,List.flatMap_cons,List.append_assoc,<-e1]
end Go.Hm
namespace Go.Proofs.Y
open Go.RowKit Go.Hm
theorem qat{w:World}{g:Nat}{S:St}(h:CurS w g S):Calls Tryz.prog 221 #[.pointer (some ⟨g,0,none⟩)] w (z42 (.returned (.int .u64 ((zy2 S).1:Int))) g (zy2 S).2 w):=by
 cases S with
 |none=>exact z32 h (.inl rfl)
 |some l=>
  unfold zy2;dsimp only;split
  ·exact z9x h ‹_›
  ·exact z32 h (.inr (by simp;omega))
theorem z43{n:Nat}(h:n<18446744073709551616):IntKind.i64.wrap (n:Int)=qas n:=by
 unfold qas;by_cases hn:n<9223372036854775808
 ·rw[if_pos hn]
  exact IntWalk.i64_in _ (by omega)
 ·rw[if_neg hn]
  rw[IntKind.wrap_i64];omega
theorem z44{S:St}(hS:S.ok):(zy2 S).1<18446744073709551616:=by
 cases S with
 |none=>simp[zy2]
 |some l=>
  unfold zy2;dsimp only;split
  ·have:=zqn (l.take 8) (fun x hx=>hS l rfl x (List.mem_of_mem_take hx))
   have h2:(l.take 8).length=8:=by rw[List.length_take];omega
   rw[h2] at this;omega
  ·simp
def qg9(c:zab)(g:Nat)(S:St)(w:World)(e:Ending)(w':World):Prop:=e= .returned (zcz c)/\CurS w' g S/\w.grownBy w' (some g)
set_option maxRecDepth 100000 in
theorem qau{w:World}{g:Nat}{S:St}{t:Int}(h:CurS w g S)(ht:t=0\/t=2\/t=3):
 Calls Tryz.prog 204 #[.pointer (some ⟨g,0,none⟩),.int .i64 t] w (qg9 (rdC t S).1 g (rdC t S).2 w):=by
 have hlt:=h.lt;have ha:New w (w.alloc (.cells (zam zaz).toArray 61)):=(Below.refl _ _).alloc (Nat.le_refl _) _;have h0:=h.below ha;have BZ:Blk (w.alloc (.cells (zam zaz).toArray 61)) w.heap.size 61 (zam zaz).toArray:=Blk.new _ _ _;have G0:w.grownBy (w.alloc (.cells (zam zaz).toArray 61)) (some g):=Far.of_new ha;obtain⟨X,hX⟩:∃X,X=rdC t S:=⟨_,rfl⟩;rw[<-hX];unfold rdC at hX;rcases ht with rfl|rfl|rfl
 ·rw[if_pos rfl] at hX
  have C1:=Hz (qat h0);have hw:=z43 (z44 h.ok);generalize zy2 S=Q at*;obtain⟨a,S1⟩:=Q;dsimp only at*;generalize qas a=z at*;have HX:=Hz hX;clear hX h h0 ha;go_enter Tryz.func204,Tryz.ntmps204
  go_wp2_with fail
  refine C1.out.mono ?_;rintro e w1 ⟨rfl,s1,g1⟩;have hz1:=g1.size;simp only[World.size_alloc] at hz1;have BZ1:=BZ.grown g1 (by intro e;injection e with e;omega);have G1:=G0.trans g1
  go_wp2_with (refine zah rfl 61 (.tmp 4) (.tmp 13) rfl w.heap.size _ rfl rfl BZ1 (by kernel_rfl) (by simp[zam]) (by simp[Value.oneCell']) ?_
               intro W5 BR G5;obtain⟨s0,s1',s2,s3,s4⟩:=zcl BR)
  have hX:=HX.out;subst hX;exact bodyPost_ret (v:=zcz (false,z,[],0,0)) (by simp[results,Tryz.results204,go_sem,s0,s1',s2,s3,s4,zcz,zam,show zad []=⟨#[]⟩ from rfl]) rfl ⟨rfl,s1.keep G5 BZ1 (by omega) (by decide),za9 G1 G5 (Nat.le_refl _)⟩
 ·rw[if_neg (by decide),if_neg (by decide)] at hX
  have C1:=Hz (zb9 (m:=65536) h0 (by omega) (by omega));have hle:=zb1 (m:=65536) S (by omega) h.ok;generalize lenS 65536 S=Q at*;obtain⟨a,S1⟩:=Q;dsimp only at*;obtain⟨Q2,hQ2⟩:∃Q,Q=zbt (a:Int) S1:=⟨_,rfl⟩;rw[<-hQ2] at hX;have HQ2:=Hz hQ2;have HX:=Hz hX;clear hX h h0 ha hQ2;go_enter Tryz.func204,Tryz.ntmps204
  go_wp2_with fail
  refine C1.out.mono ?_;rintro e w1 ⟨rfl,s1,g1⟩;have hz1:=g1.size;simp only[World.size_alloc] at hz1;have BZ1:=BZ.grown g1 (by intro e;injection e with e;omega);have G1:=G0.trans g1;have C2:=zc8 (n:=(a:Int)) s1 (by omega) (by omega);rw[<-HQ2.out] at C2;have C2:=Hz C2;clear C1 BZ G0 g1 s1;go_wp2_with fail
  refine C2.out.mono ?_;rintro e w2 ⟨A2,n2,c2,rfl,e2,k2,s2,g2⟩;have hz2:=g2.size;have BZ2:=BZ1.grown g2 (by intro e;injection e with e;omega);have G2:=G1.trans g2;have q2:=zeu (c:=c2) k2.reads;obtain⟨x2,S2⟩:=Q2;dsimp only at e2 k2 s2 q2;subst e2;clear C2 BZ1 G1 g2 HQ2
  go_wp2_with (refine zah rfl 61 (.tmp 4) (.tmp 31) rfl w.heap.size _ rfl rfl BZ2 (by kernel_rfl) (by simp[zam]) (by simp[Value.oneCell']) ?_
               intro W5 BR G5;obtain⟨s0,s1',s2',s3,s4⟩:=zcl BR)
  have hX:=HX.out;subst hX;exact bodyPost_ret (v:=zcz (false,0,x2,0,0)) (by simp[results,Tryz.results204,go_sem,s0,s1',s2',s3,s4,zcz,zam]) rfl ⟨rfl,s2.keep G5 BZ2 (by omega) (by decide),za9 G2 G5 (Nat.le_refl _)⟩
 ·rw[if_neg (by decide),if_pos rfl] at hX
  have C1:=Hz (zkr h0);have hlt1:=zjx h.ok;have hok1:=zsf h.ok;generalize zh4 S=Q at*;obtain⟨a,S1⟩:=Q;dsimp only at*;have hlt2:=zjx hok1;obtain⟨Q2,hQ2⟩:∃Q,Q=zh4 S1:=⟨_,rfl⟩;rw[<-hQ2] at hX hlt2;have HQ2:=Hz hQ2;have Z1:=Hz (fun(W:World)=>zn7 a W hlt1);have Z2:=Hz (fun(W:World)=>zn7 Q2.1 W hlt2);have HX:=Hz hX;clear hX h h0 ha hQ2;go_enter Tryz.func204,Tryz.ntmps204
  go_wp2_with fail
  refine C1.out.mono ?_;rintro e w1 ⟨rfl,s1,g1⟩;have hz1:=g1.size;simp only[World.size_alloc] at hz1;have BZ1:=BZ.grown g1 (by intro e;injection e with e;omega);have G1:=G0.trans g1;have C2:=zkr s1;rw[<-HQ2.out] at C2;have C2:=Hz C2;clear C1 BZ G0 g1 s1;go_wp2_with fail
  refine(Z1.out _).mono ?_;rintro e w2 ⟨rfl,rfl⟩;go_wp2_with fail
  refine C2.out.mono ?_;rintro e w2 ⟨rfl,s2,g2⟩;have hz2:=g2.size;have BZ2:=BZ1.grown g2 (by intro e;injection e with e;omega);have G2:=G1.trans g2;clear C2 BZ1 G1 g2 HQ2;go_wp2_with fail
  refine(Z2.out _).mono ?_;rintro e w3 ⟨rfl,rfl⟩
  go_wp2_with (refine zah rfl 61 (.tmp 4) (.tmp 25) rfl w.heap.size _ rfl rfl BZ2 (by kernel_rfl) (by simp[zam]) (by simp[Value.oneCell']) ?_
               intro W5 BR G5;obtain⟨s0,s1',s2',s3,s4⟩:=zcl BR)
  have hX:=HX.out;subst hX;exact bodyPost_ret (v:=zcz (false,0,[],zag a,zag Q2.1)) (by simp[results,Tryz.results204,go_sem,s0,s1',s2',s3,s4,zcz,zam,show zad []=⟨#[]⟩ from rfl]) rfl ⟨rfl,s2.keep G5 BZ2 (by omega) (by decide),za9 G2 G5 (Nat.le_refl _)⟩
end Go.Proofs.Y
namespace Go.Hm
open Go Go.RowKit
structure IsPl(Q:zab->Prop)(t:Int)(b:List Nat)(n:Int)(o:Option (List zab)):Prop where
 sound:∀l,o=some l->(l.length:Int)=n/\plO t l=some b/\ ∀c∈l,Q c
 compl:∀l,(∀c∈l,Q c)->(l.length:Int)=n->plO t l=some b->o=some l
theorem qfh{w:World}{base sz n:Nat}{e:TypeId}{v:Value}{xs:List Value}{g:Nat}(h:w.ownsRow base e sz v n xs)(hv:v.ownBlock=some g):∃cs,Blk w g e cs:=by
 rcases h.2 with⟨rfl,_⟩|⟨g',cap,cur,rfl,_,hh,_⟩
 ·simp[Value.ownBlock] at hv
 ·have:g'=g:=by simpa[Value.ownBlock] using hv
  subst this;exact⟨_,hh⟩
theorem plO_iff{t:Int}{l:List zab}{b:List Nat}:plO t l=some b↔zhs t l=true/\plB t l=b:=by
 unfold plO;by_cases h:zhs t l=true
 ·rw[if_pos h]
  simp[h]
 ·rw[if_neg h]
  simp[h]
theorem zy6{t:Int}(ht:t=0\/t=2\/t=3)(l:List zab):plB t l=l.flatMap (plE t):=by unfold plB;rw[if_neg (by omega)]
end Go.Hm
namespace Go.Proofs.Y
open Go.RowKit Go.Hm
theorem CurS.pushRow{w w':World}{g base sz n:Nat}{S:St}{e:TypeId}{v:Value}{xs:List Value}(h:CurS w g S)(o:w.ownsRow base e sz v n xs)(hg:w.grownBy w' v.ownBlock)(he1:e≠154)(he2:5≠e):CurS w' g S:=by
 cases hv:v.ownBlock with
 |none=>
  rw[hv] at hg;exact h.below ((Turns.of_none (T:=[]) hg).new (by simp))
 |some g'=>
  obtain⟨cs,hB⟩:=qfh o hv;rw[hv] at hg;obtain⟨cs2,hC⟩:=h.blk;exact h.keep hg hB (fun e'=>by subst e';exact Blk.ne_ hB hC he1 rfl) he2
theorem qfi:ElT Tryz.prog 71 61 (.agg #[.bool false,.int .i64 0,.string ⟨#[]⟩,.int .i64 0,.int .i64 0]) 5 48:=⟨by kernel_rfl,by kernel_rfl,rfl,by omega⟩
def OptC(o:Option (List zab))(w:World)(e:Ending)(w':World):Prop:=
 match o with
 |none=>e= .returned (.tuple #[.slice none 0 0,.bool false])/\New w w'
 |some l=>∃A n c,e= .returned (.tuple #[.slice A n c,.bool true])/\w'.ownsRow w.heap.size 61 5 (.slice A n c) n (recs zam l)/\New w w'
def qiy(t:Int)(b:List Nat)(n:Int)(w:World)(e:Ending)(w':World):Prop:=∃o,IsPl zai t b n o/\OptC o w e w'
theorem z45{t:Int}{s:List Nat}(hs:St.ok (some s)):zai (rdC t (some s)).1:=by
 unfold rdC zai;split
 ·have h:=z44 hs
  dsimp only;refine⟨⟨by simp,by simp⟩,?_⟩;unfold qas;split<;> omega
 ·split
  ·dsimp only
   exact⟨⟨by simp,by simp⟩,by omega⟩
  ·dsimp only
   have h1:=zb1 (m:=65536) (some s) (by omega) hs;have h2:=zeh (n:=((lenS 65536 (some s)).1:Int)) (S:=(lenS 65536 (some s)).2) (by omega);exact⟨⟨by omega,(zcq (za6 hs)).2⟩,by omega⟩
theorem qav(t:Int)(j:Nat):rdL t j none=([],none):=by cases j<;> rfl
theorem zy7{t:Int}{b:List Nat}{n:Nat}{out:List zab}{S:St}(ht:t=0\/t=2\/t=3)(hn:n<=65536)(h8:St.ok (some b))(hfin:rdL t n (some b)=(out,S))(hda:∀c∈out,zai c):
 IsPl zai t b (n:Int) (if S=some []/\(out.all fun c=>zac c t false)=true then some out else none):=by
 constructor
 ·intro l hl
  split at hl
  ·rename_i hc
   injection hl with hl;subst hl;obtain⟨rfl,hR⟩:=hc;obtain⟨e,hlen⟩:=zy3 ht n (some b) out [] h8 hfin;injection e with e;rw[List.append_nil] at e;refine⟨by omega,plO_iff.2 ⟨plOk_iff.2 ⟨by omega,List.all_eq_true.1 hR⟩,?_⟩,hda⟩;rw[zy6 ht,e]
  ·cases hl
 ·intro l hd hlen hp
  obtain⟨hok,hb⟩:=plO_iff.1 hp;rw[zy6 ht] at hb;have hr:=(plOk_iff.1 hok).2;have:=z4y (t:=t) (by omega) l [] hr (fun c hc=>(hd c hc).2);rw[List.append_nil,hb,show l.length=n by omega,hfin] at this;injection this with e1 e2;subst e1 e2;rw[if_pos ⟨rfl,List.all_eq_true.2 hr⟩]
set_option maxRecDepth 100000 in
theorem zw5{w:World}{A:Option Addr}{c m:Nat}{b:List Nat}{t:Int}{n:Nat}(h:Reads w w.heap.size 1 A m (za3 .u8 b))(h8:∀x∈b,x<256)(hm:m<=140737488351232)(ht:t=0\/t=2\/t=3)(hn:n<=65536):
 Calls Tryz.prog 181 #[.int .i64 t,.slice A m c,.int .i64 (n:Int)] w (qiy t b (n:Int) w):=by
 obtain rfl:m=b.length:=h.len;have KN:=zko (w:=w) (t:=t) (n:=(n:Int));rw[decide_eq_true (show 0<=t/\t<=3/\0<=(n:Int)/\(n:Int)<=65536 by omega)] at KN;have KN:=Hz KN;have OV:=Hz (zfa (c:=c) h (by omega) h8);have t1:(t==1)=false:=beq_eq_false_iff_ne.2 (by omega);have H8:=Hz h8;have HT:=Hz ht;clear h h8;go_enter Tryz.func181,Tryz.ntmps181
 go_wp2_with fail
 refine KN.out.mono ?_;rintro e w1 ⟨rfl,rfl⟩;go_wp2_with fail
 refine OV.out.mono ?_;rintro e w1 ⟨g,rfl,hg,hc,b1⟩;have s1:=CurS.of hc;clear hc KN OV t1;go_wp2_with fail
 go_loopw [9,10] (fun v i wr=>∃(k:Nat) (out:List zab) (S:St) (AA:Option Addr) (cc:Nat),k<=n/\out.length=k/\i= .int .i64 (k:Int)/\v= .slice AA k cc/\wr.ownsRow w.heap.size 61 5 (.slice AA k cc) k (recs zam out)/\CurS wr g S/\Below w.heap.size w wr/\Hid (rdL t n (some b)=(out++(rdL t (n-k) S).1,(rdL t (n-k) S).2))/\Hid (∀c∈out,zai c)) (fun _ i _=>n-(intOf i).toNat)
 case atStart=>exact⟨0,[],some b,none,0,Nat.zero_le _,rfl,rfl,rfl,by simpa[recs] using zcn,s1,b1,Hz (by simp),Hz (by simp)⟩
 case round=>
  obtain⟨k,out,S,AA,cc,hk,hol,rfl,rfl,o,hs,hbl,hrd,hda⟩:=hrel;have hz:=hbl.size;have hb8:St.ok (some b):=St.ok_some H8.out;by_cases hgo:k<n/\S≠none
  ·obtain⟨hlt,hSn⟩:=hgo
   obtain⟨s,rfl⟩:=Option.ne_none_iff_exists'.1 hSn;have hok:=hs.ok;have BD:=Hz (zy5 hs);rw[Option.isNone_some] at BD;have RD:=Hz (qau hs HT.out);have hdat:=z45 (t:=t) hok;have hst:=hrd.out;rw[show n-k=(n-(k+1))+1 by omega,rdL] at hst;dsimp only at hst;obtain⟨cs,hT⟩:=hs.blk;have o':=o;generalize rdC t (some s)=R at*;obtain⟨⟨y0,y1,y2,y3,y4⟩,S2⟩:=R;dsimp only at*;have HST:=Hz hst;have HDT:=Hz hdat;have HOL:=Hz hol;have hlt':(k:Int)<(n:Int):=by omega
   clear hst hdat hrd hSn hs hok hol;go_wp2_with fail
   refine BD.out.mono ?_;rintro e w2 ⟨rfl,rfl⟩;go_wp2_with fail
   refine RD.out.mono ?_;rintro e w3 ⟨rfl,s3,g3⟩;rw[show zcz (y0,y1,y2,y3,y4)= .agg #[.bool y0,.int .i64 y1,.string (zad y2),.int .i64 y3,.int .i64 y4] from rfl];have o3:=World.ownsRow.kept o' g3 (.inr (zal o' hT (by decide)));have b3:Below w.heap.size w w3:=hbl.grown g3 hz (fun k e=>by injection e with e;omega);have hz3:=b3.size;have S3:=Hz s3;clear BD RD o o' g3 hbl s3 hT
   go_wp2_with (refine zdb qfi rfl (.tmp 34) (.tmp 38) rfl (W:=w) (B:=w.heap.size) (base:=w.heap.size) (n:=k) o3 rfl rfl b3 (Nat.le_refl _) hz3 rfl (by simp[Value.oneCell']) (by omega) (by simp only[maxLen];omega) ?_
                intro A5 c5 w5 _ _ o5 g5 b5 _ _)
   have s5:=S3.out.pushRow o3 g5 (by decide) (by decide);go_roundw
   case rel=>exact⟨k+1,out++[(y0,y1,y2,y3,y4)],S2,A5,c5,by omega,by rw[List.length_append,HOL.out];rfl,by go_num,rfl,by rw[zaw];simpa[recs,zam] using o5,s5,b5,Hz (by rw[HST.out,List.append_assoc];rfl),Hz (fun c hc=>by
    rcases List.mem_append.1 hc with hc|hc
    ·exact hda.out c hc
    ·rw[List.mem_singleton.1 hc];exact HDT.out)⟩
   case measure=>simp[intOf];omega
  ·have hfin:rdL t n (some b)=(out,S):=by
    rw[hrd.out];by_cases hkn:k<n
    ·have:S=none:=Classical.byContradiction fun e=>hgo ⟨hkn,e⟩
     subst this;rw[qav,List.append_nil]
    ·rw[show n-k=0 by omega]
     simp[rdL]
   have hI:=zy7 HT.out hn hb8 hfin hda.out;have EN:=Hz (zgf hs);have AR:=Hz (zmg (t:=t) (c:=cc) (Reads.of_own o) (fun y hy=>(hda.out y hy).1.1) (by omega));have BD:=Hz (zy5 hs);have HI:=Hz hI;clear hI hfin hrd hs;by_cases hS:S=some []
   ·subst hS
    have hkn: ¬k<n:=fun e=>hgo ⟨e,by simp⟩
    obtain rfl:k=n:=by omega
    rw[show zqa (some [])=true from rfl] at EN;clear BD hgo;go_wp2_with fail
    refine EN.out.mono ?_;rintro e w2 ⟨rfl,rfl⟩;go_wp2_with fail
    refine AR.out.mono ?_;rintro e w3 ⟨rfl,b3⟩;have hI:=HI.out;have o3:=zau o b3;have hl:=New.trans hbl b3;cases hall:(out.all fun c=>zac c t false) with
    |true=>
     rw[if_pos ⟨by trivial,hall⟩] at hI;have HI:=Hz hI;clear hI EN AR;go_wp2_with fail
     go_ret2
     exact⟨some out,HI.out,_,_,_,rfl,o3,hl⟩
    |false=>
     rw[if_neg (by rw[hall];simp)] at hI;have HI:=Hz hI;clear hI EN AR;go_wp2_with fail
     go_ret2
     exact⟨none,HI.out,rfl,hl⟩
   ·have hI:=HI.out
    rw[if_neg (fun e=>hS e.1)] at hI;have HI:=Hz hI;rw[show zqa S=false from decide_eq_false hS] at EN;clear hI AR hS;by_cases hkn:k<n
    ·have:S=none:=Classical.byContradiction fun e=>hgo ⟨hkn,e⟩
     subst this;rw[show(Option.isNone (none:St))=true from rfl] at BD;have hkn':(k:Int)<(n:Int):=by omega
     clear hgo;go_wp2_with fail
     refine BD.out.mono ?_;rintro e w2 ⟨rfl,rfl⟩;go_wp2_with fail
     refine EN.out.mono ?_;rintro e w2 ⟨rfl,rfl⟩;go_wp2_with fail
     go_ret2
     exact⟨none,HI.out,rfl,hbl⟩
    ·obtain rfl:k=n:=by omega
     clear hgo BD;go_wp2_with fail
     refine EN.out.mono ?_;rintro e w2 ⟨rfl,rfl⟩;go_wp2_with fail
     go_ret2
     exact⟨none,HI.out,rfl,hbl⟩
end Go.Proofs.Y
namespace Go.Hm
open Go Go.RowKit
def zjj(t:Int)(s:zc9):List Nat:=plB t [s.2.2.1,s.2.2.2]
def putS(l:List Nat)(t:Int)(s:zc9):List Nat:=
 if zb5 t s then(if s.2.1 then l++vp s.1.toNat++[1]++vp (zjj t s).length++zjj t s else l++vp s.1.toNat++[0]) else l
theorem zi8{t:Int}{s:zc9}(h:zb5 t s=true):(0<=t/\t<=3)/\0<=s.1/\s.1<=65536:=by
 unfold zb5 at h;split at h
 ·simp at h
 ·omega
theorem zi9{t:Int}{s:zc9}(h:zb5 t s=true)(hh:s.2.1=true):zac s.2.2.1 t false=true/\zac s.2.2.2 t false=true/\zji t s.2.2.1 s.2.2.2<=0:=by
 unfold zb5 at h;split at h
 ·simp at h
 ·simpa[hh] using h
theorem z54{t:Int}{s:zc9}(h:zb5 t s=true)(hh:s.2.1=true):zhs t [s.2.2.1,s.2.2.2]=true:=by
 obtain⟨h1,h2,-⟩:=zi9 h hh;have h3:=(zi8 h).1;rw[plOk_iff];refine⟨⟨h3.1,h3.2,by simp⟩,fun c hc=>?_⟩;simp at hc;rcases hc with rfl|rfl
 ·exact h1
 ·exact h2
end Go.Hm
namespace Go.Proofs.Y
open Go.RowKit Go.Hm
theorem zng{t:Int}{s:zc9}(h:zb5 t s=true)(hh:s.2.1=true):(zjj t s).length<=131112:=by
 obtain⟨h1,h2,-⟩:=zi9 h hh;have a:=zln h1;have b:=zln h2;have ta:s.2.2.1.2.2.1.length<=65536:=zg1 h1;have tb:s.2.2.2.2.2.1.length<=65536:=zg1 h2;unfold zjj plB;split
 ·rw[zbg];simp
 ·simp only[List.flatMap_cons,List.flatMap_nil,List.append_nil,List.length_append]
  omega
def statData(s:zc9):Prop:=zai s.2.2.1/\zai s.2.2.2
theorem statData.fine{s:zc9}(h:statData s):zdk s:=⟨h.1.1,h.2.1⟩
set_option maxRecDepth 100000 in
theorem z55{w:World}{A:Option Addr}{n c:Nat}{l:List Nat}{t:Int}{s:zc9}(h:Reads w w.heap.size 1 A n (za3 .u8 l))(hn:n<=100000000)(hs:statData s):
 Calls Tryz.prog 95 #[.slice A n c,.int .i64 t,zb4 s] w (zc6 (putS l t s) w):=by
 obtain rfl:n=l.length:=h.len;have HR:=Hz h;have SR:=fun(W:World)=>zg5 (w:=W) (t:=t) hs.fine
 have hrn:=fun(e:zb5 t s=true)=>zi8 e
 have PE:=fun(e:zb5 t s=true) (eh:s.2.1=true) (W:World)=>zkq (t:=t) (c:=2) (Reads.litR W 61 (zam s.2.2.1++zam s.2.2.2).toArray 2 5 (recs zam [s.2.2.1,s.2.2.2]) (by simp[recs]) (by simp[recs,zam])) (fun y hy=>by simp at hy;rcases hy with rfl|rfl;exact hs.1;exact hs.2) (by omega)
 have pe2:=fun(e:zb5 t s=true) (eh:s.2.1=true)=>(show plO t [s.2.2.1,s.2.2.2]=some (zjj t s) by unfold plO zjj;rw[if_pos (z54 e eh)])
 have hel:=fun(e:zb5 t s=true) (eh:s.2.1=true)=>zng e eh
 obtain⟨M,hM⟩:∃M,M=putS l t s:=⟨_,rfl⟩;rw[<-hM];unfold putS at hM;clear hs h;generalize zb5 t s=R at*;generalize zjj t s=E at*;obtain⟨nn,b,⟨p1,p2,p3,p4,p5⟩,⟨q1,q2,q3,q4,q5⟩⟩:=s;dsimp only at hrn PE pe2 hel hM;have SR:Hid (∀W,Calls Tryz.prog 119 #[.int .i64 t,.agg #[.int .i64 nn,.bool b,.bool p1,.int .i64 p2,.string (zad p3),.int .i64 p4,.int .i64 p5,.bool q1,.int .i64 q2,.string (zad q3),.int .i64 q4,.int .i64 q5]] W (zap (.bool R) W)):=Hz SR;show Calls Tryz.prog 95 #[.slice A l.length c,.int .i64 t,.agg #[.int .i64 nn,.bool b,.bool p1,.int .i64 p2,.string (zad p3),.int .i64 p4,.int .i64 p5,.bool q1,.int .i64 q2,.string (zad q3),.int .i64 q4,.int .i64 q5]] w (zc6 M w);have B0:=Blk.new w 63 #[.int .i64 nn,.bool b,.bool p1,.int .i64 p2,.string (zad p3),.int .i64 p4,.int .i64 p5,.bool q1,.int .i64 q2,.string (zad q3),.int .i64 q4,.int .i64 q5];have hb:New w (w.alloc (.cells #[.int .i64 nn,.bool b,.bool p1,.int .i64 p2,.string (zad p3),.int .i64 p4,.int .i64 p5,.bool q1,.int .i64 q2,.string (zad q3),.int .i64 q4,.int .i64 q5] 63)):=(Below.refl _ _).alloc (Nat.le_refl _) _;obtain⟨x0,x1,x2,x3,x4,x5,x6,x7,x8,x9,x10,x11⟩:=za7 B0;have HPE:=Hz PE;have Hpe2:=Hz pe2;have Hhel:=Hz hel;clear PE pe2 hel;cases R with
 |false=>
  rw[if_neg (by simp)] at hM;have HM:=Hz hM;clear hM hrn HPE Hpe2 Hhel;go_enter Tryz.func95,Tryz.ntmps95
  go_wp2_with fail
  refine(SR.out _).mono ?_;rintro e w1 ⟨rfl,b1⟩;have b01:=New.trans hb b1;have CL:=Hz (zgu (c:=c) (Reads.later HR.out b01) (by omega));clear b1 hb B0 x0 x1 x2 x3 x4 x5 x6 x7 x8 x9 x10 x11;go_wp2_with fail
  refine CL.out.mono ?_;rintro e w2 ⟨A2,n2,c2,rfl,k2,b2⟩;go_wp2_with fail
  go_ret
  rw[HM.out];exact⟨_,_,_,rfl,k2.base_le b01.size,New.trans b01 b2⟩
 |true=>
  rw[if_pos rfl] at hM;obtain⟨-,⟨n0,n1⟩⟩:=hrn rfl;clear hrn;obtain⟨N,rfl⟩:=Int.eq_ofNat_of_zero_le n0;rw[Int.toNat_natCast] at hM;have hw:IntKind.u64.wrap (N:Int)=(N:Int):=by rw[IntKind.wrap_u64];omega
  have V:=zaj (n:=N) (by omega);cases b with
  |false=>
   rw[if_neg (by simp)] at hM;have HM:=Hz hM;clear hM HPE Hpe2 Hhel;go_enter Tryz.func95,Tryz.ntmps95
   go_wp2_with fail
   refine(SR.out _).mono ?_;rintro e w1 ⟨rfl,b1⟩;have b01:=New.trans hb b1;have B1:=B0.below b1 B0.lt;clear b1 hb B0 x0 x1 x2 x3 x4 x5 x6 x7 x8 x9 x10 x11;obtain⟨x0,x1,x2,x3,x4,x5,x6,x7,x8,x9,x10,x11⟩:=za7 B1;have P:=Hz (zcx A l.length c l N w1 (Reads.later HR.out b01) (by omega) (by omega));go_wp2_with fail
   refine P.out.mono ?_;rintro e w2 ⟨A2,n2,c2,rfl,k2,b2⟩;have hq2:n2<=100000010:=by have:=k2.len;rw[zaa,List.length_append] at this;omega
   have b02:=New.trans b01 b2;have hz2:=b2.size;have B2:=B1.below b2 B1.lt;clear P b2 B1 x0 x1 x2 x3 x4 x5 x6 x7 x8 x9 x10 x11;obtain⟨x0,x1,x2,x3,x4,x5,x6,x7,x8,x9,x10,x11⟩:=za7 B2;have hz1:=b01.size
   go_wp2_with (refine zdp elB rfl (.tmp 24) (.tmp 25) rfl (W:=w) (B:=w.heap.size) (k2.base_le hz1) rfl rfl 0 rfl b02 (Nat.le_refl _) (by omega) (by omega) (by simp only[maxLen];omega) ?_
                intro A5 c5 w5 _ _ o5 _ b5 _ _)
   go_ret
   rw[HM.out];exact⟨_,_,_,rfl,o5,b5⟩
  |true=>
   rw[if_pos rfl] at hM;have PE:=HPE.out rfl rfl;rw[Hpe2.out rfl rfl] at PE;have hel:=Hhel.out rfl rfl;have PE:Hid (∀W:World,Calls Tryz.prog 120 #[.int .i64 t,.slice (some ⟨W.heap.size,0,none⟩) 2 2] (W.alloc (.cells #[.bool p1,.int .i64 p2,.string (zad p3),.int .i64 p4,.int .i64 p5,.bool q1,.int .i64 q2,.string (zad q3),.int .i64 q4,.int .i64 q5] 61)) (OptB (some E) (W.alloc (.cells #[.bool p1,.int .i64 p2,.string (zad p3),.int .i64 p4,.int .i64 p5,.bool q1,.int .i64 q2,.string (zad q3),.int .i64 q4,.int .i64 q5] 61)))):=Hz PE;have HM:=Hz hM;clear hM HPE Hpe2 Hhel;have V2:=zaj (n:=E.length) (by omega);have P2:=Hz (fun(W:World)=>zcx none 0 0 [] E.length W Reads.none_ (by omega) (by omega));have hw2:IntKind.u64.wrap (E.length:Int)=(E.length:Int):=by rw[IntKind.wrap_u64];omega
   go_enter Tryz.func95,Tryz.ntmps95
   go_wp2_with fail
   refine(SR.out _).mono ?_;rintro e w1 ⟨rfl,b1⟩;have b01:=New.trans hb b1;have B1:=B0.below b1 B0.lt;clear b1 hb B0 x0 x1 x2 x3 x4 x5 x6 x7 x8 x9 x10 x11;obtain⟨x0,x1,x2,x3,x4,x5,x6,x7,x8,x9,x10,x11⟩:=za7 B1;have P:=Hz (zcx A l.length c l N w1 (Reads.later HR.out b01) (by omega) (by omega));go_wp2_with fail
   refine P.out.mono ?_;rintro e w2 ⟨A2,n2,c2,rfl,k2,b2⟩;have hq2:n2<=100000010:=by have:=k2.len;rw[zaa,List.length_append] at this;omega
   have b02:=New.trans b01 b2;have hz2:=b2.size;have hz1:=b01.size;have B2:=B1.below b2 B1.lt;have o2:=k2.base_le hz1;clear P b2 B1 x0 x1 x2 x3 x4 x5 x6 x7 x8 x9 x10 x11 k2;obtain⟨x0,x1,x2,x3,x4,x5,x6,x7,x8,x9,x10,x11⟩:=za7 B2;go_wp2_with fail
   refine(PE.out _).mono ?_;rintro e w3 ⟨A3,n3,c3,rfl,k3,b3⟩;have ha:New w2 (w2.alloc (.cells #[.bool p1,.int .i64 p2,.string (zad p3),.int .i64 p4,.int .i64 p5,.bool q1,.int .i64 q2,.string (zad q3),.int .i64 q4,.int .i64 q5] 61)):=(Below.refl _ _).alloc (Nat.le_refl _) _;have b23:=New.trans ha b3;have hap:=zgg k3 (o2.later ha);have o3:=o2.later b23;have b03:=New.trans b02 b23;have hz3:=b23.size;have hn3:n3<=131112:=by have l3:=k3.len;rw[zaa] at l3;omega
   have HNE:Hid (n3=E.length):=Hz (by have l3:=k3.len;rwa[zaa] at l3);have P2:Hid (∀W,Calls Tryz.prog 93 #[.slice none 0 0,.int .u64 (n3:Int)] W (zc6 ([]++vp E.length) W)):=Hz (by rw[HNE.out];exact P2.out);have hw2:IntKind.u64.wrap (n3:Int)=(n3:Int):=by rw[IntKind.wrap_u64];omega
   clear ha b3 b23 o2 b02 B2 x0 x1 x2 x3 x4 x5 x6 x7 x8 x9 x10 x11
   go_wp2_with (refine zdp elB rfl (.tmp 37) (.tmp 38) rfl (W:=w) (B:=w.heap.size) o3 rfl rfl 1 rfl b03 (Nat.le_refl _) (by omega) (by omega) (by simp only[maxLen];omega) ?_
                intro A5 c5 w5 _ _ o5 g5 b5 _ d5)
   have hap5:=zik hap d5 k3;have k5:=k3.kept g5 hap;have hz5:=b5.size;refine(P2.out _).mono ?_;rintro e w6 ⟨A6,n6,c6,rfl,k6,b6⟩;rw[List.nil_append] at k6;have hq6:n6<=10:=by have:=k6.len;rw[zaa] at this;omega
   have o6:=o5.later b6;have k56:=k5.later b6;have b06:=New.trans b5 b6;have hz6:=b06.size;clear k3 k5 o3 b03 o5 b5 b6 hap g5 d5;go_wp2_with (first
    |(refine zas elB rfl (.tmp 40) (.tmp 44) rfl (W:=w) (B:=w.heap.size) o6 k6.reads rfl rfl b06 (Nat.le_refl _) (by omega) (by omega) (by simp only[maxLen];omega) ?_
      intro A7 c7 w7 _ _ o7 g7 b7 _;have k7:=k56.kept g7 hap5;have hz7:=b7.size)
    |(refine zas elB rfl (.tmp 46) (.tmp 47) rfl (W:=w) (B:=w.heap.size) o7 k7.reads rfl rfl b7 (Nat.le_refl _) (by omega) (by omega) (by simp only[maxLen];omega) ?_
      intro A8 c8 w8 _ _ o8 _ b8 _))
   go_ret
   rw[HM.out];exact⟨_,_,_,rfl,o8,b8⟩
end Go.Proofs.Y
namespace Go.Hm
open Go Go.RowKit
abbrev zay:=Int × Int × zc9
def zg9(p:zay):List Value:= .int .i64 p.1:: .int .i64 p.2.1::zb8 p.2.2
abbrev za4:=Int × List (List zay)
structure FootS where
 cols:List za2
 rows:Int
 groups:List za4
def zh0(t:Int)(nu:Bool)(p:zay)(most:Int):Bool:=
 if p.2.1<1\/most<p.2.1\/p.1<1\/268435456<p.1 then false
 else zb5 t p.2.2&&(decide (p.2.2.1<=p.2.1)&&((p.2.2.2.1==decide (p.2.2.1<p.2.1))&&(nu||decide (p.2.2.1=0))))
def zeo(t:Int)(nu:Bool):List zay->Int->Int->Int × Bool
 | [],rows,size=>(size,decide (rows=0))
 |p::l,rows,size=>if zh0 t nu p rows then zeo t nu l (rows-p.2.1) (size+p.1) else(0,false)
def zch(l:List zay):Int:=(l.map (·.1)).sum
def zk3(l:List zay):Int:=(l.map (·.2.1)).sum
def zd8(t:Int)(nu:Bool)(l:List zay)(rows:Int):Prop:=(∀p∈l,zh0 t nu p 65536=true)/\zk3 l=rows
theorem zj7(p:zay)(l:List zay):zch (p::l)=p.1+zch l:=by simp[zch]
theorem zfm(p:zay)(l:List zay):zk3 (p::l)=p.2.1+zk3 l:=by simp[zk3]
theorem pageB_most{t:Int}{nu:Bool}{p:zay}{m:Int}:zh0 t nu p m=true↔(1<=p.2.1/\p.2.1<=m/\1<=p.1/\p.1<=268435456)/\(zb5 t p.2.2&&(decide (p.2.2.1<=p.2.1)&&((p.2.2.2.1==decide (p.2.2.1<p.2.1))&&(nu||decide (p.2.2.1=0)))))=true:=by
 unfold zh0;split
 ·rename_i h
  constructor
  ·intro e;cases e
  ·rintro⟨e,_⟩;omega
 ·rename_i h
  constructor
  ·intro e;exact⟨by omega,e⟩
  ·exact fun e=>e.2
theorem zrf{t:Int}{nu:Bool}{p:zay}{m k:Int}(h:zh0 t nu p m=true)(hk:p.2.1<=k):zh0 t nu p k=true:=by obtain⟨h1,h2⟩:=pageB_most.1 h;exact pageB_most.2 ⟨by omega,h2⟩
theorem ze5{t:Int}{nu:Bool}:∀{l:List zay},(∀p∈l,zh0 t nu p 65536=true)->0<=zk3 l/\(l.length:Int)<=zk3 l/\0<=zch l/\zch l<=l.length*268435456
 | [],_=>by simp[zk3,zch]
 |p::l,h=>by
  have h1:=(pageB_most.1 (h p (by simp))).1;have:=ze5 (l:=l) fun q hq=>h q (by simp[hq])
  rw[zfm,zj7,List.length_cons];omega
theorem zrg{t:Int}{nu:Bool}:∀(l:List zay) (rows size:Int),rows<=65536->((zeo t nu l rows size).2=true↔zd8 t nu l rows)/\(zd8 t nu l rows->(zeo t nu l rows size).1=size+zch l)
 | [],rows,size,_=>by
   simp[zeo,zd8,zk3,zch];omega
 |p::l,rows,size,hr=>by
  unfold zeo;by_cases hp:zh0 t nu p rows=true
  ·rw[if_pos hp]
   have h1:=(pageB_most.1 hp).1;have ih:=zrg (t:=t) (nu:=nu) l (rows-p.2.1) (size+p.1) (by omega);have hiff:zd8 t nu (p::l) rows↔zd8 t nu l (rows-p.2.1):=by
    unfold zd8;rw[zfm];constructor
    ·rintro⟨a,b⟩
     exact⟨fun q hq=>a q (by simp[hq]),by omega⟩
    ·rintro⟨a,b⟩
     refine⟨fun q hq=>?_,by omega⟩;rcases List.mem_cons.1 hq with rfl|hq
     ·exact zrf hp (by omega)
     ·exact a q hq
   refine⟨ih.1.trans hiff.symm,fun hc=>?_⟩;rw[ih.2 (hiff.1 hc),zj7];omega
  ·rw[if_neg hp]
   have hno: ¬zd8 t nu (p::l) rows:=by
    rintro⟨a,b⟩;have h1:=a p (by simp);have h2:=ze5 (l:=l) fun q hq=>a q (by simp[hq])
    rw[zfm] at b;exact hp (zrf h1 (by omega))
   exact⟨⟨fun h=>by simp at h,fun h=>absurd h hno⟩,fun h=>absurd h hno⟩
def zcc(g:za4):Int:=(g.2.map zch).sum
def GroupOk(cols:List za2)(g:za4):Prop:=
 1<=g.1/\g.2.length=cols.length/\ ∀i,i<cols.length->zd8 (cols.getD i ([],0,false)).2.1 (cols.getD i ([],0,false)).2.2 (g.2.getD i []) g.1
def zbj(F:FootS):Prop:=
 zoz F.cols/\(∀g∈F.groups,GroupOk F.cols g)/\(F.groups.map (·.1)).sum=F.rows/\F.rows<=65536/\(F.groups.map zcc).sum<=1073741824
def zen(t:Int)(p:zay):List Nat:=vp p.1.toNat++vp p.2.1.toNat++Go.Hm.putS [] t p.2.2
def zgm(t:Int)(l:List zay):List Nat:=vp l.length++l.flatMap (zen t)
def zbs:List za2->List (List zay)->List Nat
 |c::cs,l::ls=>zgm c.2.1 l++zbs cs ls
 |_,_=>[]
def zcm(cols:List za2)(g:za4):List Nat:=vp g.1.toNat++zbs cols g.2
def zdz(F:FootS):List Nat:=putC [] F.cols++vp F.rows.toNat++vp F.groups.length++F.groups.flatMap (zcm F.cols)
end Go.Hm
