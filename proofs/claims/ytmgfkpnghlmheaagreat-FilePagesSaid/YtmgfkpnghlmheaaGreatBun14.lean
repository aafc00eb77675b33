/- Merged. -/
import Derived.Test.YtmgfkpnghlmheaaGreatBun13
set_option maxHeartbeats 4000000
namespace Go.Hm
open Go Go.RowKit
def zzf:St->Nat × St
 |some l=>if 8<=l.length then(num (l.take 8),some (l.drop 8)) else(0,none)
 |none=>(0,none)
def qax(n:Nat):Int:=if n<9223372036854775808 then(n:Int) else(n:Int)-18446744073709551616
def rdC(t:Int)(S:St):zab × St:=
 if t=0 then((false,qax (zzf S).1,[],0,0),(zzf S).2)
 else if t=3 then((false,0,[],zag (zh0 S).1,zag (zh0 (zh0 S).2).1),(zh0 (zh0 S).2).2)
 else((false,0,(zbr ((lenS 65536 S).1:Int) (lenS 65536 S).2).1,0,0),(zbr ((lenS 65536 S).1:Int) (lenS 65536 S).2).2)
def rdL(t:Int):Nat->St->List zab × St
 |0,S=>([],S)
 |_+1,none=>([],none)
 |k+1,some l=>((rdC t (some l)).1::(rdL t k (rdC t (some l)).2).1,(rdL t k (rdC t (some l)).2).2)
theorem z5a{n:Int}(h: -9223372036854775808<=n/\n<=9223372036854775807):qax (u64N n)=n:=by unfold qax u64N;split<;> omega
theorem z5b{n:Nat}(h:n<18446744073709551616):u64N (qax n)=n:=by unfold qax u64N;split<;> omega
theorem qg6{t:Int}{c:zab}(hr:zaf c t false=true)(ht:t≠1)(hi: -9223372036854775808<=c.2.1/\c.2.1<=9223372036854775807)(r:List Nat):rdC t (some (plE t c++r))=(c,some r):=by
 have h0:=zgh hr;obtain⟨y0,y1,y2,y3,y4⟩:=c;dsimp only at h0 hi;subst h0;rcases zmy hr with rfl|rfl|rfl|rfl
 ·have e:y2=[]/\y3=0/\y4=0:=by simpa[zaf] using hr
  obtain⟨rfl,rfl,rfl⟩:=e;have hl:=zbk (u64N y1) 8;have e1:plE 0 (false,y1,[],0,0)=low (u64N y1) 8:=by unfold plE;rw[if_pos rfl]
  have e2:zzf (some (low (u64N y1) 8++r))=(u64N y1,some r):=by unfold zzf;dsimp only;rw[if_pos (by rw[List.length_append];omega),List.take_left' hl,List.drop_left' hl,zj2 (by have:=zw5 y1;omega)]
  unfold rdC;rw[if_pos rfl,e1,e2];dsimp only;rw[z5a hi]
 ·exact absurd rfl ht
 ·have e:(y1=0/\y3=0/\y4=0)/\y2.length<=65536:=by simpa[zaf] using hr
  obtain⟨⟨rfl,rfl,rfl⟩,hl⟩:=e;have e1:plE 2 (false,0,y2,0,0)=vp y2.length++y2:=by unfold plE;rw[if_neg (by decide),if_pos rfl]
  unfold rdC;rw[if_neg (by decide),if_neg (by decide),e1,List.append_assoc,zby _ _ (by omega) (by omega)];dsimp only;rw[zdh]
 ·have h3:=zl1 hr
  have e:y1=0/\y2=[]:=by have:=zw7 hr;have h:=hr;unfold zaf at h;simp at h;exact⟨h.1.1,this⟩
  obtain⟨rfl,rfl⟩:=e;dsimp only at h3;have e1:plE 3 (false,0,[],y3,y4)=vp (zig y3)++vp (zig y4):=by unfold plE;rw[if_neg (by decide),if_neg (by decide),if_pos rfl]
  unfold rdC;rw[if_neg (by decide),if_pos rfl,e1,List.append_assoc,zix _ _ (by unfold zig;split<;> omega)];dsimp only;rw[zix _ _ (by unfold zig;split<;> omega)];dsimp only;rw[znt,znt]
theorem z5c{t:Int}(ht:t≠1):∀(l:List zab) (r:List Nat),(∀c∈l,zaf c t false=true)->(∀c∈l,-9223372036854775808<=c.2.1/\c.2.1<=9223372036854775807)->rdL t l.length (some (l.flatMap (plE t)++r))=(l,some r)
 | [],r,_,_=>rfl
 |c::l,r,h,k=>by
  have ih:=z5c ht l r (fun d hd=>h d (by simp[hd])) (fun d hd=>k d (by simp[hd]));rw[List.flatMap_cons,List.append_assoc,List.length_cons,rdL,qg6 (h c (by simp)) ht (k c (by simp))];dsimp only;rw[ih]
theorem qfb{t:Int}{S:St}{c:zab}{r:List Nat}(hS:S.ok)(ht:t=0\/t=2\/t=3)(h:rdC t S=(c,some r)):S=some (plE t c++r):=by
 rcases ht with rfl|rfl|rfl
 ·unfold rdC at h
  rw[if_pos rfl] at h;injection h with h1 h2;cases S with
  |none=>simp[zzf] at h2
  |some l=>
   unfold zzf at h1 h2;dsimp only at h1 h2;by_cases h8:8<=l.length
   ·rw[if_pos h8] at h1 h2
    injection h2 with h2;have hb:=hS l rfl;have ht8:(l.take 8).length=8:=by rw[List.length_take];omega
    have hb8:∀x∈l.take 8,x<256:=fun x hx=>hb x (List.mem_of_mem_take hx)
    have hn:=zqh (l.take 8) hb8;rw[ht8] at hn;have hl:=zsa (l.take 8) hb8;rw[ht8] at hl;rw[<-h1,<-h2];unfold plE;rw[if_pos rfl];dsimp only;rw[z5b (by omega),hl,List.take_append_drop]
   ·rw[if_neg h8] at h2
    cases h2
 ·unfold rdC at h
  rw[if_neg (by decide),if_neg (by decide)] at h;injection h with h1 h2;rcases zbp 65536 S hS with e|⟨N,q,rfl,hN,-,e⟩
  ·rw[e] at h2
   simp[zbr] at h2
  ·rw[e] at h1 h2
   dsimp only at h1 h2;rcases zcd (N:Int) (some q) with e2|⟨l,e3,-,hl,e2⟩
   ·rw[e2] at h2
    cases h2
   ·injection e3 with e3
    subst e3;rw[e2] at h1 h2;injection h2 with h2;rw[<-h1,<-h2];unfold plE;rw[if_neg (by decide),if_pos rfl];dsimp only;rw[Int.toNat_natCast,List.length_take,Nat.min_eq_left (by omega),List.append_assoc,List.take_append_drop]
 ·unfold rdC at h
  rw[if_neg (by decide),if_pos rfl] at h;injection h with h1 h2;rcases zgz S hS with e|⟨N,q,rfl,hN,e⟩
  ·rw[e] at h2
   simp[zh0] at h2
  ·rw[e] at h1 h2
   dsimp only at h1 h2;have hq:St.ok (some q):=by have:=zsc hS;rwa[e] at this
   rcases zgz (some q) hq with e2|⟨N2,q2,e3,hN2,e2⟩
   ·rw[e2] at h2
    cases h2
   ·injection e3 with e3
    subst e3;rw[e2] at h1 h2;injection h2 with h2;rw[<-h1,<-h2];unfold plE;rw[if_neg (by decide),if_neg (by decide),if_pos rfl];dsimp only;rw[zwx,zwx,List.append_assoc]
theorem qg7{t:Int}{S:St}(hS:S.ok):(rdC t S).2.ok:=by
 unfold rdC;split
 ·cases S with
  |none=>exact St.ok_none
  |some l=>
   unfold zzf;dsimp only;split
   ·exact St.ok_some fun x hx=>hS l rfl x (List.mem_of_mem_drop hx)
   ·exact St.ok_none
 ·split
  ·exact zsc (zsc hS)
  ·exact(zct (zba hS)).1
theorem zzg{t:Int}(ht:t=0\/t=2\/t=3):∀(n:Nat) (S:St) (l:List zab) (r:List Nat),S.ok->rdL t n S=(l,some r)->S=some (l.flatMap (plE t)++r)/\l.length=n
 |0,S,l,r,_,h=>by
  unfold rdL at h;injection h with h1 h2;subst h1;exact⟨by simpa using h2,rfl⟩
 |n+1,none,l,r,_,h=>by
  unfold rdL at h;injection h with _ h2;cases h2
 |n+1,some s,l,r,hS,h=>by
  unfold rdL at h;injection h with h1 h2;have ho:=qg7 (t:=t) hS
  match hq:rdC t (some s) with
  |(c,none)=>
   rw[hq] at h2;cases n with
   |zero=>unfold rdL at h2;cases h2
   |succ n=>unfold rdL at h2;cases h2
  |(c,some q)=>
   rw[hq] at h1 h2 ho;obtain⟨e1,e2⟩:=zzg ht n (some q) (rdL t n (some q)).1 r ho (by rw[<-h2]);have e3:=qfb hS ht hq;subst h1;refine⟨?_,by rw[List.length_cons,e2]⟩;injection e1 with e1;rw[e3,List.flatMap_cons,List.append_assoc,<-e1]
end Go.Hm
namespace Go.Proofs.Y
open Go.RowKit Go.Hm
theorem qay{w:World}{g:Nat}{S:St}(h:CurS w g S):Calls Tryz.prog 221 #[.pointer (some ⟨g,0,none⟩)] w (z5g (.returned (.int .u64 ((zzf S).1:Int))) g (zzf S).2 w):=by
 cases S with
 |none=>exact z4f h (.inl rfl)
 |some l=>
  unfold zzf;dsimp only;split
  ·exact z93 h ‹_›
  ·exact z4f h (.inr (by simp;omega))
theorem z5h{n:Nat}(h:n<18446744073709551616):IntKind.i64.wrap (n:Int)=qax n:=by
 unfold qax;by_cases hn:n<9223372036854775808
 ·rw[if_pos hn]
  exact IntWalk.i64_in _ (by omega)
 ·rw[if_neg hn]
  rw[IntKind.wrap_i64];omega
theorem z5i{S:St}(hS:S.ok):(zzf S).1<18446744073709551616:=by
 cases S with
 |none=>simp[zzf]
 |some l=>
  unfold zzf;dsimp only;split
  ·have:=zqh (l.take 8) (fun x hx=>hS l rfl x (List.mem_of_mem_take hx))
   have h2:(l.take 8).length=8:=by rw[List.length_take];omega
   rw[h2] at this;omega
  ·simp
def qg9(c:zab)(g:Nat)(S:St)(w:World)(e:Ending)(w':World):Prop:=e= .returned (zca c)/\CurS w' g S/\w.grownBy w' (some g)
set_option maxRecDepth 100000 in
theorem qaz{w:World}{g:Nat}{S:St}{t:Int}(h:CurS w g S)(ht:t=0\/t=2\/t=3):
 Calls Tryz.prog 204 #[.pointer (some ⟨g,0,none⟩),.int .i64 t] w (qg9 (rdC t S).1 g (rdC t S).2 w):=by
 have hlt:=h.lt;have ha:New w (w.alloc (.cells (zan zaz).toArray 61)):=(Below.refl _ _).alloc (Nat.le_refl _) _;have h0:=h.below ha;have BZ:Blk (w.alloc (.cells (zan zaz).toArray 61)) w.heap.size 61 (zan zaz).toArray:=Blk.new _ _ _;have G0:w.grownBy (w.alloc (.cells (zan zaz).toArray 61)) (some g):=Far.of_new ha;obtain⟨X,hX⟩:∃X,X=rdC t S:=⟨_,rfl⟩;rw[<-hX];unfold rdC at hX;rcases ht with rfl|rfl|rfl
 ·rw[if_pos rfl] at hX
  have C1:=Hz (qay h0);have hw:=z5h (z5i h.ok);generalize zzf S=Q at*;obtain⟨a,S1⟩:=Q;dsimp only at*;generalize qax a=z at*;have HX:=Hz hX;clear hX h h0 ha;go_enter Tryz.func204,Tryz.ntmps204
  go_wp2_with fail
  refine C1.out.mono ?_;rintro e w1 ⟨rfl,s1,g1⟩;have hz1:=g1.size;simp only[World.size_alloc] at hz1;have BZ1:=BZ.grown g1 (by intro e;injection e with e;omega);have G1:=G0.trans g1
  go_wp2_with (refine zah rfl 61 (.tmp 4) (.tmp 13) rfl w.heap.size _ rfl rfl BZ1 (by kernel_rfl) (by simp[zan]) (by simp[Value.oneCell']) ?_
               intro W5 BR G5;obtain⟨s0,s1',s2,s3,s4⟩:=zcb BR)
  have hX:=HX.out;subst hX;exact bodyPost_ret (v:=zca (false,z,[],0,0)) (by simp[results,Tryz.results204,go_sem,s0,s1',s2,s3,s4,zca,zan,show zac []=⟨#[]⟩ from rfl]) rfl ⟨rfl,s1.keep G5 BZ1 (by omega) (by decide),zbd G1 G5 (Nat.le_refl _)⟩
 ·rw[if_neg (by decide),if_neg (by decide)] at hX
  have C1:=Hz (zcc (m:=65536) h0 (by omega) (by omega));have hle:=zbx (m:=65536) S (by omega) h.ok;generalize lenS 65536 S=Q at*;obtain⟨a,S1⟩:=Q;dsimp only at*;obtain⟨Q2,hQ2⟩:∃Q,Q=zbr (a:Int) S1:=⟨_,rfl⟩;rw[<-hQ2] at hX;have HQ2:=Hz hQ2;have HX:=Hz hX;clear hX h h0 ha hQ2;go_enter Tryz.func204,Tryz.ntmps204
  go_wp2_with fail
  refine C1.out.mono ?_;rintro e w1 ⟨rfl,s1,g1⟩;have hz1:=g1.size;simp only[World.size_alloc] at hz1;have BZ1:=BZ.grown g1 (by intro e;injection e with e;omega);have G1:=G0.trans g1;have C2:=zc6 (n:=(a:Int)) s1 (by omega) (by omega);rw[<-HQ2.out] at C2;have C2:=Hz C2;clear C1 BZ G0 g1 s1;go_wp2_with fail
  refine C2.out.mono ?_;rintro e w2 ⟨A2,n2,c2,rfl,e2,k2,s2,g2⟩;have hz2:=g2.size;have BZ2:=BZ1.grown g2 (by intro e;injection e with e;omega);have G2:=G1.trans g2;have q2:=zd9 (c:=c2) k2.reads;obtain⟨x2,S2⟩:=Q2;dsimp only at e2 k2 s2 q2;subst e2;clear C2 BZ1 G1 g2 HQ2
  go_wp2_with (refine zah rfl 61 (.tmp 4) (.tmp 31) rfl w.heap.size _ rfl rfl BZ2 (by kernel_rfl) (by simp[zan]) (by simp[Value.oneCell']) ?_
               intro W5 BR G5;obtain⟨s0,s1',s2',s3,s4⟩:=zcb BR)
  have hX:=HX.out;subst hX;exact bodyPost_ret (v:=zca (false,0,x2,0,0)) (by simp[results,Tryz.results204,go_sem,s0,s1',s2',s3,s4,zca,zan]) rfl ⟨rfl,s2.keep G5 BZ2 (by omega) (by decide),zbd G2 G5 (Nat.le_refl _)⟩
 ·rw[if_neg (by decide),if_pos rfl] at hX
  have C1:=Hz (zkg h0);have hlt1:=zjm h.ok;have hok1:=zsc h.ok;generalize zh0 S=Q at*;obtain⟨a,S1⟩:=Q;dsimp only at*;have hlt2:=zjm hok1;obtain⟨Q2,hQ2⟩:∃Q,Q=zh0 S1:=⟨_,rfl⟩;rw[<-hQ2] at hX hlt2;have HQ2:=Hz hQ2;have Z1:=Hz (fun(W:World)=>znv a W hlt1);have Z2:=Hz (fun(W:World)=>znv Q2.1 W hlt2);have HX:=Hz hX;clear hX h h0 ha hQ2;go_enter Tryz.func204,Tryz.ntmps204
  go_wp2_with fail
  refine C1.out.mono ?_;rintro e w1 ⟨rfl,s1,g1⟩;have hz1:=g1.size;simp only[World.size_alloc] at hz1;have BZ1:=BZ.grown g1 (by intro e;injection e with e;omega);have G1:=G0.trans g1;have C2:=zkg s1;rw[<-HQ2.out] at C2;have C2:=Hz C2;clear C1 BZ G0 g1 s1;go_wp2_with fail
  refine(Z1.out _).mono ?_;rintro e w2 ⟨rfl,rfl⟩;go_wp2_with fail
  refine C2.out.mono ?_;rintro e w2 ⟨rfl,s2,g2⟩;have hz2:=g2.size;have BZ2:=BZ1.grown g2 (by intro e;injection e with e;omega);have G2:=G1.trans g2;clear C2 BZ1 G1 g2 HQ2;go_wp2_with fail
  refine(Z2.out _).mono ?_;rintro e w3 ⟨rfl,rfl⟩
  go_wp2_with (refine zah rfl 61 (.tmp 4) (.tmp 25) rfl w.heap.size _ rfl rfl BZ2 (by kernel_rfl) (by simp[zan]) (by simp[Value.oneCell']) ?_
               intro W5 BR G5;obtain⟨s0,s1',s2',s3,s4⟩:=zcb BR)
  have hX:=HX.out;subst hX;exact bodyPost_ret (v:=zca (false,0,[],zag a,zag Q2.1)) (by simp[results,Tryz.results204,go_sem,s0,s1',s2',s3,s4,zca,zan,show zac []=⟨#[]⟩ from rfl]) rfl ⟨rfl,s2.keep G5 BZ2 (by omega) (by decide),zbd G2 G5 (Nat.le_refl _)⟩
end Go.Proofs.Y
namespace Go.Hm
open Go Go.RowKit
structure IsPl(Q:zab->Prop)(t:Int)(b:List Nat)(n:Int)(o:Option (List zab)):Prop where
 sound:∀l,o=some l->(l.length:Int)=n/\plO t l=some b/\ ∀c∈l,Q c
 compl:∀l,(∀c∈l,Q c)->(l.length:Int)=n->plO t l=some b->o=some l
theorem qfh{w:World}{base sz n:Nat}{e:TypeId}{v:Value}{xs:List Value}{g:Nat}(h:w.ownsRow base e sz v n xs)(hv:v.ownBlock=some g):∃cs,Blk w g e cs:=by
 rcases h.2 with⟨rfl,_⟩|⟨g',cap,cur,rfl,_,hh,_⟩
 ·simp[Value.ownBlock] at hv
 ·have:g'=g:=by simpa[Value.ownBlock] using hv
  subst this;exact⟨_,hh⟩
theorem plO_iff{t:Int}{l:List zab}{b:List Nat}:plO t l=some b↔zh5 t l=true/\plB t l=b:=by
 unfold plO;by_cases h:zh5 t l=true
 ·rw[if_pos h]
  simp[h]
 ·rw[if_neg h]
  simp[h]
theorem zzj{t:Int}(ht:t=0\/t=2\/t=3)(l:List zab):plB t l=l.flatMap (plE t):=by unfold plB;rw[if_neg (by omega)]
end Go.Hm
namespace Go.Proofs.Y
open Go.RowKit Go.Hm
theorem CurS.pushRow{w w':World}{g base sz n:Nat}{S:St}{e:TypeId}{v:Value}{xs:List Value}(h:CurS w g S)(o:w.ownsRow base e sz v n xs)(hg:w.grownBy w' v.ownBlock)(he1:e≠154)(he2:5≠e):CurS w' g S:=by
 cases hv:v.ownBlock with
 |none=>
  rw[hv] at hg;exact h.below ((Turns.of_none (T:=[]) hg).new (by simp))
 |some g'=>
  obtain⟨cs,hB⟩:=qfh o hv;rw[hv] at hg;obtain⟨cs2,hC⟩:=h.blk;exact h.keep hg hB (fun e'=>by subst e';exact Blk.ne_ hB hC he1 rfl) he2
theorem qfi:ElT Tryz.prog 71 61 (.agg #[.bool false,.int .i64 0,.string ⟨#[]⟩,.int .i64 0,.int .i64 0]) 5 48:=⟨by kernel_rfl,by kernel_rfl,rfl,by omega⟩
def OptC(o:Option (List zab))(w:World)(e:Ending)(w':World):Prop:=
 match o with
 |none=>e= .returned (.tuple #[.slice none 0 0,.bool false])/\New w w'
 |some l=>∃A n c,e= .returned (.tuple #[.slice A n c,.bool true])/\w'.ownsRow w.heap.size 61 5 (.slice A n c) n (recs zan l)/\New w w'
def qiz(t:Int)(b:List Nat)(n:Int)(w:World)(e:Ending)(w':World):Prop:=∃o,IsPl zai t b n o/\OptC o w e w'
theorem z5j{t:Int}{s:List Nat}(hs:St.ok (some s)):zai (rdC t (some s)).1:=by
 unfold rdC zai;split
 ·have h:=z5i hs
  dsimp only;refine⟨⟨by simp,by simp⟩,?_⟩;unfold qax;split<;> omega
 ·split
  ·dsimp only
   exact⟨⟨by simp,by simp⟩,by omega⟩
  ·dsimp only
   have h1:=zbx (m:=65536) (some s) (by omega) hs;have h2:=zem (n:=((lenS 65536 (some s)).1:Int)) (S:=(lenS 65536 (some s)).2) (by omega);exact⟨⟨by omega,(zct (zba hs)).2⟩,by omega⟩
theorem qa0(t:Int)(j:Nat):rdL t j none=([],none):=by cases j<;> rfl
theorem zzk{t:Int}{b:List Nat}{n:Nat}{out:List zab}{S:St}(ht:t=0\/t=2\/t=3)(hn:n<=65536)(h8:St.ok (some b))(hfin:rdL t n (some b)=(out,S))(hda:∀c∈out,zai c):
 IsPl zai t b (n:Int) (if S=some []/\(out.all fun c=>zaf c t false)=true then some out else none):=by
 constructor
 ·intro l hl
  split at hl
  ·rename_i hc
   injection hl with hl;subst hl;obtain⟨rfl,hR⟩:=hc;obtain⟨e,hlen⟩:=zzg ht n (some b) out [] h8 hfin;injection e with e;rw[List.append_nil] at e;refine⟨by omega,plO_iff.2 ⟨plOk_iff.2 ⟨by omega,List.all_eq_true.1 hR⟩,?_⟩,hda⟩;rw[zzj ht,e]
  ·cases hl
 ·intro l hd hlen hp
  obtain⟨hok,hb⟩:=plO_iff.1 hp;rw[zzj ht] at hb;have hr:=(plOk_iff.1 hok).2;have:=z5c (t:=t) (by omega) l [] hr (fun c hc=>(hd c hc).2);rw[List.append_nil,hb,show l.length=n by omega,hfin] at this;injection this with e1 e2;subst e1 e2;rw[if_pos ⟨rfl,List.all_eq_true.2 hr⟩]
set_option maxRecDepth 100000 in
theorem zxa{w:World}{A:Option Addr}{c m:Nat}{b:List Nat}{t:Int}{n:Nat}(h:Reads w w.heap.size 1 A m (za2 .u8 b))(h8:∀x∈b,x<256)(hm:m<=140737488351232)(ht:t=0\/t=2\/t=3)(hn:n<=65536):
 Calls Tryz.prog 181 #[.int .i64 t,.slice A m c,.int .i64 (n:Int)] w (qiz t b (n:Int) w):=by
 obtain rfl:m=b.length:=h.len;have KN:=zkd (w:=w) (t:=t) (n:=(n:Int));rw[decide_eq_true (show 0<=t/\t<=3/\0<=(n:Int)/\(n:Int)<=65536 by omega)] at KN;have KN:=Hz KN;have OV:=Hz (zfh (c:=c) h (by omega) h8);have t1:(t==1)=false:=beq_eq_false_iff_ne.2 (by omega);have H8:=Hz h8;have HT:=Hz ht;clear h h8;go_enter Tryz.func181,Tryz.ntmps181
 go_wp2_with fail
 refine KN.out.mono ?_;rintro e w1 ⟨rfl,rfl⟩;go_wp2_with fail
 refine OV.out.mono ?_;rintro e w1 ⟨g,rfl,hg,hc,b1⟩;have s1:=CurS.of hc;clear hc KN OV t1;go_wp2_with fail
 go_loopw [9,10] (fun v i wr=>∃(k:Nat) (out:List zab) (S:St) (AA:Option Addr) (cc:Nat),k<=n/\out.length=k/\i= .int .i64 (k:Int)/\v= .slice AA k cc/\wr.ownsRow w.heap.size 61 5 (.slice AA k cc) k (recs zan out)/\CurS wr g S/\Below w.heap.size w wr/\Hid (rdL t n (some b)=(out++(rdL t (n-k) S).1,(rdL t (n-k) S).2))/\Hid (∀c∈out,zai c)) (fun _ i _=>n-(intOf i).toNat)
 case atStart=>exact⟨0,[],some b,none,0,Nat.zero_le _,rfl,rfl,rfl,by simpa[recs] using zcp,s1,b1,Hz (by simp),Hz (by simp)⟩
 case round=>
  obtain⟨k,out,S,AA,cc,hk,hol,rfl,rfl,o,hs,hbl,hrd,hda⟩:=hrel;have hz:=hbl.size;have hb8:St.ok (some b):=St.ok_some H8.out;by_cases hgo:k<n/\S≠none
  ·obtain⟨hlt,hSn⟩:=hgo
   obtain⟨s,rfl⟩:=Option.ne_none_iff_exists'.1 hSn;have hok:=hs.ok;have BD:=Hz (zzi hs);rw[Option.isNone_some] at BD;have RD:=Hz (qaz hs HT.out);have hdat:=z5j (t:=t) hok;have hst:=hrd.out;rw[show n-k=(n-(k+1))+1 by omega,rdL] at hst;dsimp only at hst;obtain⟨cs,hT⟩:=hs.blk;have o':=o;generalize rdC t (some s)=R at*;obtain⟨⟨y0,y1,y2,y3,y4⟩,S2⟩:=R;dsimp only at*;have HST:=Hz hst;have HDT:=Hz hdat;have HOL:=Hz hol;have hlt':(k:Int)<(n:Int):=by omega
   clear hst hdat hrd hSn hs hok hol;go_wp2_with fail
   refine BD.out.mono ?_;rintro e w2 ⟨rfl,rfl⟩;go_wp2_with fail
   refine RD.out.mono ?_;rintro e w3 ⟨rfl,s3,g3⟩;rw[show zca (y0,y1,y2,y3,y4)= .agg #[.bool y0,.int .i64 y1,.string (zac y2),.int .i64 y3,.int .i64 y4] from rfl];have o3:=World.ownsRow.kept o' g3 (.inr (zao o' hT (by decide)));have b3:Below w.heap.size w w3:=hbl.grown g3 hz (fun k e=>by injection e with e;omega);have hz3:=b3.size;have S3:=Hz s3;clear BD RD o o' g3 hbl s3 hT
   go_wp2_with (refine zdc qfi rfl (.tmp 34) (.tmp 38) rfl (W:=w) (B:=w.heap.size) (base:=w.heap.size) (n:=k) o3 rfl rfl b3 (Nat.le_refl _) hz3 rfl (by simp[Value.oneCell']) (by omega) (by simp only[maxLen];omega) ?_
                intro A5 c5 w5 _ _ o5 g5 b5 _ _)
   have s5:=S3.out.pushRow o3 g5 (by decide) (by decide);go_roundw
   case rel=>exact⟨k+1,out++[(y0,y1,y2,y3,y4)],S2,A5,c5,by omega,by rw[List.length_append,HOL.out];rfl,by go_num,rfl,by rw[zas];simpa[recs,zan] using o5,s5,b5,Hz (by rw[HST.out,List.append_assoc];rfl),Hz (fun c hc=>by
    rcases List.mem_append.1 hc with hc|hc
    ·exact hda.out c hc
    ·rw[List.mem_singleton.1 hc];exact HDT.out)⟩
   case measure=>simp[intOf];omega
  ·have hfin:rdL t n (some b)=(out,S):=by
    rw[hrd.out];by_cases hkn:k<n
    ·have:S=none:=Classical.byContradiction fun e=>hgo ⟨hkn,e⟩
     subst this;rw[qa0,List.append_nil]
    ·rw[show n-k=0 by omega]
     simp[rdL]
   have hI:=zzk HT.out hn hb8 hfin hda.out;have EN:=Hz (zgi hs);have AR:=Hz (zl2 (t:=t) (c:=cc) (Reads.of_own o) (fun y hy=>(hda.out y hy).1.1) (by omega));have BD:=Hz (zzi hs);have HI:=Hz hI;clear hI hfin hrd hs;by_cases hS:S=some []
   ·subst hS
    have hkn: ¬k<n:=fun e=>hgo ⟨e,by simp⟩
    obtain rfl:k=n:=by omega
    rw[show zp2 (some [])=true from rfl] at EN;clear BD hgo;go_wp2_with fail
    refine EN.out.mono ?_;rintro e w2 ⟨rfl,rfl⟩;go_wp2_with fail
    refine AR.out.mono ?_;rintro e w3 ⟨rfl,b3⟩;have hI:=HI.out;have o3:=zav o b3;have hl:=New.trans hbl b3;cases hall:(out.all fun c=>zaf c t false) with
    |true=>
     rw[if_pos ⟨by trivial,hall⟩] at hI;have HI:=Hz hI;clear hI EN AR;go_wp2_with fail
     go_ret2
     exact⟨some out,HI.out,_,_,_,rfl,o3,hl⟩
    |false=>
     rw[if_neg (by rw[hall];simp)] at hI;have HI:=Hz hI;clear hI EN AR;go_wp2_with fail
     go_ret2
     exact⟨none,HI.out,rfl,hl⟩
   ·have hI:=HI.out
    rw[if_neg (fun e=>hS e.1)] at hI;have HI:=Hz hI;rw[show zp2 S=false from decide_eq_false hS] at EN;clear hI AR hS;by_cases hkn:k<n
    ·have:S=none:=Classical.byContradiction fun e=>hgo ⟨hkn,e⟩
     subst this;rw[show(Option.isNone (none:St))=true from rfl] at BD;have hkn':(k:Int)<(n:Int):=by omega
     clear hgo;go_wp2_with fail
     refine BD.out.mono ?_;rintro e w2 ⟨rfl,rfl⟩;go_wp2_with fail
     refine EN.out.mono ?_;rintro e w2 ⟨rfl,rfl⟩;go_wp2_with fail
     go_ret2
     exact⟨none,HI.out,rfl,hbl⟩
    ·obtain rfl:k=n:=by omega
     clear hgo BD;go_wp2_with fail
     refine EN.out.mono ?_;rintro e w2 ⟨rfl,rfl⟩;go_wp2_with fail
     go_ret2
     exact⟨none,HI.out,rfl,hbl⟩
end Go.Proofs.Y
