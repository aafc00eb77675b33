/- Texts merged and made short: FooB, FooN, FooP. -/
import Derived.Test.YtmgfkpnghlmheaaGreatBun1
import Derived.Test.YtmgfkpnghlmheaaGreatBun16
import Derived.Test.YtmgfkpnghlmheaaGreatBun20
import Derived.Test.YtmgfkpnghlmheaaGreatBun21
import Derived.Test.YtmgfkpnghlmheaaGreatBun22
set_option maxHeartbeats 2000000
namespace Go.Hm
open Go Go.RowKit
abbrev zbs:zax:=(0,0,0,false,(false,0,[],0,0),(false,0,[],0,0))
theorem Reads.page14{w:World}{B n i:Nat}{A:Option Addr}{l:List zax}(h:Reads w B 14 A n (recs zg5 l))(hi:i<n):
 ∃ad,A=some ad∧ad.block<B∧w.cell? (ad.add (i*14))=some (.int .i64 (l.getD i zbs).1)∧w.cell? ⟨(ad.add (i*14)).block,(ad.add (i*14)).off+1,none⟩=some (.int .i64 (l.getD i zbs).2.1)∧w.cell? ⟨(ad.add (i*14)).block,(ad.add (i*14)).off+2,none⟩=some (.int .i64 (l.getD i zbs).2.2.1)∧w.cell? ⟨(ad.add (i*14)).block,(ad.add (i*14)).off+3,none⟩=some (.bool (l.getD i zbs).2.2.2.1)∧w.cell? ⟨(ad.add (i*14)).block,(ad.add (i*14)).off+4,none⟩=some (.bool (l.getD i zbs).2.2.2.2.1.1)∧w.cell? ⟨(ad.add (i*14)).block,(ad.add (i*14)).off+5,none⟩=some (.int .i64 (l.getD i zbs).2.2.2.2.1.2.1)∧w.cell? ⟨(ad.add (i*14)).block,(ad.add (i*14)).off+6,none⟩=some (.string (zae (l.getD i zbs).2.2.2.2.1.2.2.1))∧w.cell? ⟨(ad.add (i*14)).block,(ad.add (i*14)).off+7,none⟩=some (.int .i64 (l.getD i zbs).2.2.2.2.1.2.2.2.1)∧w.cell? ⟨(ad.add (i*14)).block,(ad.add (i*14)).off+8,none⟩=some (.int .i64 (l.getD i zbs).2.2.2.2.1.2.2.2.2)∧w.cell? ⟨(ad.add (i*14)).block,(ad.add (i*14)).off+9,none⟩=some (.bool (l.getD i zbs).2.2.2.2.2.1)∧w.cell? ⟨(ad.add (i*14)).block,(ad.add (i*14)).off+10,none⟩=some (.int .i64 (l.getD i zbs).2.2.2.2.2.2.1)∧w.cell? ⟨(ad.add (i*14)).block,(ad.add (i*14)).off+11,none⟩=some (.string (zae (l.getD i zbs).2.2.2.2.2.2.2.1))∧w.cell? ⟨(ad.add (i*14)).block,(ad.add (i*14)).off+12,none⟩=some (.int .i64 (l.getD i zbs).2.2.2.2.2.2.2.2.1)∧w.cell? ⟨(ad.add (i*14)).block,(ad.add (i*14)).off+13,none⟩=some (.int .i64 (l.getD i zbs).2.2.2.2.2.2.2.2.2):=by
 obtain⟨ad,h1,h2,_,h3⟩:=h.rec_ (f:=zg5) (sz:=14) (fun _=>rfl) zbs hi (by omega);refine⟨ad,h1,h2,h3 0 _ rfl,?_,?_,?_,?_,?_,?_,?_,?_,?_,?_,?_,?_,?_⟩
 ·have:=h3 1 _ rfl
  rw[←za7] at this;exact this
 ·have:=h3 2 _ rfl
  rw[←za7] at this;exact this
 ·have:=h3 3 _ rfl
  rw[←za7] at this;exact this
 ·have:=h3 4 _ rfl
  rw[←za7] at this;exact this
 ·have:=h3 5 _ rfl
  rw[←za7] at this;exact this
 ·have:=h3 6 _ rfl
  rw[←za7] at this;exact this
 ·have:=h3 7 _ rfl
  rw[←za7] at this;exact this
 ·have:=h3 8 _ rfl
  rw[←za7] at this;exact this
 ·have:=h3 9 _ rfl
  rw[←za7] at this;exact this
 ·have:=h3 10 _ rfl
  rw[←za7] at this;exact this
 ·have:=h3 11 _ rfl
  rw[←za7] at this;exact this
 ·have:=h3 12 _ rfl
  rw[←za7] at this;exact this
 ·have:=h3 13 _ rfl
  rw[←za7] at this;exact this
theorem Reads.lenPage{w:World}{B n:Nat}{A:Option Addr}{l:List zax}(h:Reads w B 14 A n (recs zg5 l)):n=l.length:=h.lenR (f:=zg5) (sz:=14) (fun _=>rfl) (by omega)
theorem z6o{α:Type}(l:List α)(k:Nat)(d:α)(h:k<l.length):l.drop k=l.getD k d::l.drop (k+1):=by
 rw[List.drop_eq_getElem_cons h,List.getD_eq_getElem?_getD,List.getElem?_eq_getElem h];rfl
theorem zan{α:Type}{l:List α}{k:Nat}(d:α)(h:k<l.length):l.getD k d∈l:=by
 rw[List.getD_eq_getElem?_getD,List.getElem?_eq_getElem h];exact List.getElem_mem h
end Go.Hm
namespace Go.Proofs.YtmgfkpnghlmheaaGreat
open Go.RowKit Go.Hm
def zsr(r:Int × Bool)(w:World)(e:Ending)(w':World):Prop:=e= .returned (.tuple #[.int .i64 r.1,.bool r.2])∧New w w'
set_option maxRecDepth 100000 in
theorem zss{w:World}{c:za0}{A:Option Addr}{n cap:Nat}{l:List zax}{rows:Int}(h:Reads w w.heap.size 14 A n (recs zg5 l))(hl:∀p∈l,zdk p.2.2)(hn:n≤4611686018427387903)(hr:0≤rows∧rows≤65536):
 Calls Tryz.prog 92 #[qiz c,.slice A n cap,.int .i64 rows] w (zsr (zeq c.2.1 c.2.2 l rows 0) w):=by
 obtain rfl:=h.lenPage;obtain⟨nm,t,nu⟩:=c;have HR:=Hz h;have HL:=Hz hl;have HC:=Hz (show zeq t nu l rows 0=zeq t nu (l.drop 0) rows 0 from rfl);clear h hl;show Calls Tryz.prog 92 #[.agg #[.string (zae nm),.int .i64 t,.bool nu],.slice A l.length cap,.int .i64 rows] w (zsr (zeq t nu l rows 0) w);generalize hX:zeq t nu l rows 0=X at*;clear hX;have B0:=Blk.new w 70 #[.string (zae nm),.int .i64 t,.bool nu];have b0:New w (w.alloc (.cells #[.string (zae nm),.int .i64 t,.bool nu] 70)):=(Below.refl _ _).alloc (Nat.le_refl _) _
 go_enter Tryz.func92,Tryz.ntmps92
 go_wp2_with fail
 go_loopw [2,8,13] (fun r s i wr=>∃(k:Nat) (rr ss:Int),k≤l.length∧i= .int .i64 (k:Int)∧r= .int .i64 rr∧s= .int .i64 ss∧Hid (X=zeq t nu (l.drop k) rr ss)∧(0≤rr∧rr+k≤rows)∧(0≤ss∧ss≤k*268435456)
  ∧Blk wr w.heap.size 70 #[.string (zae nm),.int .i64 t,.bool nu]∧New w wr) (fun _ _ i _=>l.length-(intOf i).toNat)
 case atStart=>exact⟨0,rows,0,Nat.zero_le _,rfl,rfl,rfl,HC,by omega,by omega,B0,b0⟩
 case round=>
  obtain⟨k,rr,ss,hk,rfl,rfl,rfl,H,hrr,hss,B,b⟩:=hrel;clear HC B0 b0;by_cases hlt:k<l.length
  ·obtain⟨ad,rfl,hb,d0,d1,d2,d3,d4,d5,d6,d7,d8,d9,d10,d11,d12,d13⟩:=(Reads.later HR.out b).page14 hlt
   have hd:=z6o l k zbs hlt
   have RP:=fun(W:World)=>zsq (w:=W) (c:=(nm,t,nu)) (p:=l.getD k zbs) (most:=rr) (HL.out _ (zan zbs hlt))
   have hst:zeq t nu (l.drop k) rr ss=if zh8 t nu (l.getD k zbs) rr then zeq t nu (l.drop (k+1)) (rr-(l.getD k zbs).2.1) (ss+(l.getD k zbs).1) else(0,false):=by rw[hd];rfl
   rw[←H.out] at hst
   have hok:=fun(e:zh8 t nu (l.getD k zbs) rr=true)=>(pageB_most.1 e).1
   clear hd H hb;dsimp only at RP;generalize zh8 t nu (l.getD k zbs) rr=R at*;generalize l.getD k zbs=p at*;obtain⟨sz,rw,nn,bb,⟨p1,p2,p3,p4,p5⟩,⟨q1,q2,q3,q4,q5⟩⟩:=p;dsimp only at hst hok d0 d1 d2 d3 d4 d5 d6 d7 d8 d9 d10 d11 d12 d13;have RP:Hid (∀W,Calls Tryz.prog 117 #[.agg #[.string (zae nm),.int .i64 t,.bool nu],.agg #[.int .i64 sz,.int .i64 rw,.int .i64 nn,.bool bb,.bool p1,.int .i64 p2,.string (zae p3),.int .i64 p4,.int .i64 p5,.bool q1,.int .i64 q2,.string (zae q3),.int .i64 q4,.int .i64 q5],.int .i64 rr] W (zap (.bool R) W)):=Hz RP;have ha:New wr (wr.alloc (.cells #[.int .i64 sz,.int .i64 rw,.int .i64 nn,.bool bb,.bool p1,.int .i64 p2,.string (zae p3),.int .i64 p4,.int .i64 p5,.bool q1,.int .i64 q2,.string (zae q3),.int .i64 q4,.int .i64 q5] 65)):=(Below.refl _ _).alloc (Nat.le_refl _) _;have BP:=Blk.new wr 65 #[.int .i64 sz,.int .i64 rw,.int .i64 nn,.bool bb,.bool p1,.int .i64 p2,.string (zae p3),.int .i64 p4,.int .i64 p5,.bool q1,.int .i64 q2,.string (zae q3),.int .i64 q4,.int .i64 q5];have B1:=B.below ha B.lt;have b1:=New.trans b ha;obtain⟨y0,y1,y2⟩:=zaf B1;obtain⟨e0,e1,e2,e3,e4,e5,e6,e7,e8,e9,e10,e11,e12,e13⟩:=zcj BP;have HST:=Hz hst;clear hst B ha
   go_wp2_with fail
   refine(RP.out _).mono ?_;rintro e w2 ⟨rfl,b2⟩;have B2:=B1.below b2 B1.lt;have BP2:=BP.below b2 BP.lt;have b02:=New.trans b1 b2;clear RP B1 BP b2 b1 y0 y1 y2 d0 d1 d2 d3 d4 d5 d6 d7 d8 d9 d10 d11 d12 d13 e0 e1 e2 e3 e4 e5 e6 e7 e8 e9 e10 e11 e12 e13;obtain⟨e0,e1,e2,e3,e4,e5,e6,e7,e8,e9,e10,e11,e12,e13⟩:=zcj BP2
   cases R with
   |false=>
    go_wp2_with fail
    go_ret2
    have hX:=HST.out;rw[if_neg (by simp)] at hX;rw[hX];exact⟨rfl,b02⟩
   |true=>
    have hX:=HST.out;rw[if_pos rfl] at hX;have HX:=Hz hX;have hok:=hok rfl;clear hX HST
    go_wp2_with fail
    go_roundw
    case rel=>exact⟨k+1,rr-rw,ss+sz,by omega,by go_num,rfl,rfl,HX,by omega,by omega,B2,b02⟩
    case measure=>simp[intOf];omega
  ·obtain rfl:k=l.length:=by omega
   have hX:=H.out;rw[List.drop_length] at hX;have HX:=Hz hX;clear hX H
   go_wp2_with fail
   go_ret2
   rw[HX.out];exact⟨rfl,b⟩
open Go.RowKit Go.Hm
theorem zg9{m:Int}{S:St}{N:Nat}{r:List Nat}(hS:S.ok)(h:lenS m S=(N,some r)):S=some (vp N++r)∧(N:Int)≤m:=by
 rcases zbo m S hS with k|⟨M,r',e,k1,_,k⟩
 ·rw[k] at h
  injection h with _ h;cases h
 ·rw[k] at h
  injection h with h1 h2;injection h2 with h2;subst h1 h2;exact⟨e,k1⟩
theorem zor{t:Int}{S:St}{s:zc9}{r:List Nat}(hS:S.ok)(h:getA t S=(s,some r)):S=some (putS [] t s++r)∧zb7 t s=true:=by
 cases S with
 |none=>
  exfalso;rw[zsl (N:=0) (y:=0) (S1:=none) (S2:=none) rfl rfl,zsk (N:=0) (y:=0) (S1:=none) (S2:=none) rfl rfl] at h;simp at h
 |some b=>
  obtain⟨h1,h2⟩:=z6a (hS b rfl) h;exact⟨by rw[h2],h1⟩
theorem qfx{t:Int}{S:St}(hS:S.ok):(getA t S).2.ok:=by
 cases h:(getA t S).2 with
 |none=>exact St.ok_none
 |some r=>
  have:=(zor hS (show getA t S=((getA t S).1,some r) by rw[←h])).1
  exact St.ok_some fun x hx=>hS _ this x (by simp[hx])
noncomputable def zgp(t m:Int)(S:St):zax × St:=
 ((((lenS 268435456 S).1:Int),((lenS m (lenS 268435456 S).2).1:Int),(getA t (lenS m (lenS 268435456 S).2).2).1),(getA t (lenS m (lenS 268435456 S).2).2).2)
theorem z61{t m k:Int}{nu:Bool}{p:zax}{r:List Nat}(h:zh8 t nu p k=true)(hk:p.2.1≤m)(hm:m≤9223372036854775807)(hd:statData p.2.2)(hr:r.length≤140737488351232):zgp t m (some (zeu t p++r))=(p,some r):=by
 obtain⟨⟨h1,h2,h3,h4⟩,h5⟩:=pageB_most.1 h;obtain⟨a,b,s⟩:=p;dsimp only at h1 h2 h3 h4 h5 hk hd;obtain⟨a,rfl⟩:=Int.eq_ofNat_of_zero_le (show 0≤a by omega);obtain⟨b,rfl⟩:=Int.eq_ofNat_of_zero_le (show 0≤b by omega)
 have hs:zb7 t s=true:=by
  rw[Bool.and_eq_true] at h5;exact h5.1
 have e1:lenS 268435456 (some (zeu t ((a:Int),(b:Int),s)++r))=(a,some (vp b++(putS [] t s++r))):=by
  have:zeu t ((a:Int),(b:Int),s)++r=vp a++(vp b++(putS [] t s++r)):=by simp[zeu]
  rw[this];exact zb2 _ _ (by omega) (by omega)
 have e2:lenS m (some (vp b++(putS [] t s++r)))=(b,some (putS [] t s++r)):=zb2 _ _ hk hm;unfold zgp;rw[e1];dsimp only;rw[e2];dsimp only;rw[qbm hs hd r hr]
theorem z2g{t m:Int}{S:St}{p:zax}{r:List Nat}(hS:S.ok)(h:zgp t m S=(p,some r)):S=some (zeu t p++r):=by
 unfold zgp at h;injection h with h1 h2;subst h1;obtain⟨N,S1,k1⟩:∃N S1,lenS 268435456 S=(N,S1):=⟨_,_,rfl⟩
 have hS1:S1.ok:=by have:=za5 (m:=268435456) hS;rwa[k1] at this
 rw[k1] at h2⊢;dsimp only at h2⊢;obtain⟨M,S2,k2⟩:∃N S2,lenS m S1=(N,S2):=⟨_,_,rfl⟩
 have hS2:S2.ok:=by have:=za5 (m:=m) hS1;rwa[k2] at this
 rw[k2] at h2⊢;dsimp only at h2⊢;have g:=(zor hS2 (show getA t S2=((getA t S2).1,some r) by rw[←h2])).1;generalize hgs:(getA t S2).1=s at*;subst g;clear hgs h2;have e2:=(zg9 hS1 k2).1;subst e2;have e1:=(zg9 hS k1).1;rw[e1];simp[zeu]
theorem zni{t m:Int}{S:St}(hS:S.ok):(zgp t m S).2.ok:=qfx (za5 (za5 hS))
theorem z2h{t m:Int}{S:St}:statData (zgp t m S).1.2.2:=z59
noncomputable def zcl(t m:Int):Nat→St→List zax × St
 |0,S=>([],S)
 |_+1,none=>([],none)
 |k+1,some l=>((zgp t m (some l)).1::(zcl t m k (zgp t m (some l)).2).1,(zcl t m k (zgp t m (some l)).2).2)
theorem zxl(t m:Int)(k:Nat):zcl t m k none=([],none):=by cases k<;> rfl
theorem zvf{t m:Int}:∀(k:Nat) {S:St},S.ok→(zcl t m k S).2.ok
 |0,_,h=>h
 |_+1,none,_=>St.ok_none
 |k+1,some _,h=>zvf k (zni h)
theorem zos{t m:Int}:∀(k:Nat) (S:St),∀p∈(zcl t m k S).1,statData p.2.2
 |0,_,p,hp=>by simp[zcl] at hp
 |_+1,none,p,hp=>by simp[zcl] at hp
 |k+1,some l,p,hp=>by
  simp only[zcl,List.mem_cons] at hp;rcases hp with rfl|hp
  ·exact z2h
  ·exact zos k _ p hp
theorem zrb{t m k:Int}{nu:Bool}(hm:m≤9223372036854775807):∀(l:List zax) (r:List Nat),(∀p∈l,zh8 t nu p k=true∧p.2.1≤m∧statData p.2.2)→(l.flatMap (zeu t)).length+r.length≤140737488351232→zcl t m l.length (some (l.flatMap (zeu t)++r))=(l,some r)
 | [],r,_,_=>rfl
 |p::l,r,h,hr=>by
  obtain⟨a,b,c⟩:=h p (by simp);rw[List.flatMap_cons,List.length_append] at hr;rw[List.flatMap_cons,List.append_assoc,List.length_cons];simp only[zcl];rw[z61 a b hm c (by rw[List.length_append];omega)];dsimp only;rw[zrb hm l r (fun q hq=>h q (by simp[hq])) (by omega)]
theorem zot{t m:Int}:∀(k:Nat) {S:St} {l:List zax} {r:List Nat},S.ok→zcl t m k S=(l,some r)→S=some (l.flatMap (zeu t)++r)∧l.length=k
 |0,S,l,r,_,h=>by
  simp only[zcl,Prod.mk.injEq] at h;obtain⟨rfl,rfl⟩:=h;exact⟨rfl,rfl⟩
 |k+1,none,l,r,_,h=>by
  simp only[zcl,Prod.mk.injEq] at h;cases h.2
 |k+1,some b,l,r,hS,h=>by
  simp only[zcl,Prod.mk.injEq] at h;obtain⟨rfl,h2⟩:=h;have ih:=zot k (S:=(zgp t m (some b)).2) (zni hS) (show zcl t m k (zgp t m (some b)).2=((zcl t m k (zgp t m (some b)).2).1,some r) by rw[←h2]);obtain⟨e1,e2⟩:=ih;have e3:=z2g hS (show zgp t m (some b)=((zgp t m (some b)).1,some _) by rw[←e1]);refine⟨?_,by rw[List.length_cons,e2]⟩;rw[List.flatMap_cons,List.append_assoc];exact e3
noncomputable def zdb(t m:Int)(S:St):List zax × St:=zcl t m (lenS m S).1 (lenS m S).2
theorem zkw{t m:Int}{S:St}(h:S.ok):(zdb t m S).2.ok:=zvf _ (za5 h)
theorem z2i{t m:Int}{nu:Bool}{l:List zax}{r:List Nat}{rows:Int}(h:zd8 t nu l rows)(hrm:rows≤m)(hm:m≤9223372036854775807)(hd:∀p∈l,statData p.2.2)(hr:(zgk t l).length+r.length≤140737488351232):
 zdb t m (some (zgk t l++r))=(l,some r):=by
 have hp:=ze6 h.1;have h2:=h.2
 have hle:∀p∈l,p.2.1≤zop l:=by
  have key:∀l:List zax,(∀p∈l,zh8 t nu p 65536=true)→∀p∈l,p.2.1≤zop l:=by
   intro l
   induction l with
   |nil=>intro _ p hp;simp at hp
   |cons q l ih=>
    intro h p hp
    have h1:=ze6 (l:=l) fun z hz=>h z (by simp[hz])
    have h3:=(pageB_most.1 (h q (by simp))).1;rw[zg6];rcases List.mem_cons.1 hp with rfl|hp
    ·omega
    ·have:=ih (fun z hz=>h z (by simp[hz])) p hp
     omega
  exact key l h.1
 unfold zdb zgk at*;rw[List.length_append] at hr;rw[List.append_assoc,zb2 l.length _ (by omega) hm];dsimp only;exact zrb (k:=65536) (nu:=nu) hm l r (fun p hpm=>⟨h.1 p hpm,by have:=hle p hpm;omega,hd p hpm⟩) (by omega)
theorem zxm{t m:Int}{S:St}{l:List zax}{r:List Nat}(hS:S.ok)(h:zdb t m S=(l,some r)):S=some (zgk t l++r):=by
 unfold zdb at h;obtain⟨N,S1,k⟩:∃N S1,lenS m S=(N,S1):=⟨_,_,rfl⟩
 have hS1:S1.ok:=by have:=za5 (m:=m) hS;rwa[k] at this
 rw[k] at h;obtain⟨e1,e2⟩:=zot N hS1 h;subst e1;rw[(zg9 hS k).1];simp[zgk,e2]
noncomputable def zbi(m:Int):List za0→St→List (List zax) × St
 | [],S=>([],S)
 |c::cs,S=>((zdb c.2.1 m S).1::(zbi m cs (zdb c.2.1 m S).2).1,(zbi m cs (zdb c.2.1 m S).2).2)
theorem zrc{m:Int}:∀(cs:List za0) {S:St},S.ok→(zbi m cs S).2.ok
 | [],_,h=>h
 |_::cs,_,h=>zrc cs (zkw h)
theorem zxn{t m:Int}{S:St}:∀p∈(zdb t m S).1,statData p.2.2:=zos _ _
theorem zmi{m:Int}:∀(cs:List za0) (S:St),∀l∈(zbi m cs S).1,∀p∈l,statData p.2.2
 | [],_,l,hl=>by simp[zbi] at hl
 |c::cs,S,l,hl=>by
  simp only[zbi,List.mem_cons] at hl;rcases hl with rfl|hl
  ·exact zxn
  ·exact zmi cs _ l hl
theorem zou{m:Int}:∀(cs:List za0) (S:St),(zbi m cs S).1.length=cs.length
 | [],_=>rfl
 |c::cs,S=>by simp only[zbi,List.length_cons,zou cs]
theorem zmj{m:Int}:∀(cs:List za0) {S:St} {ls:List (List zax)} {r:List Nat},S.ok→zbi m cs S=(ls,some r)→S=some (zbr cs ls++r)
 | [],S,ls,r,_,h=>by
   simp only[zbi,Prod.mk.injEq] at h;obtain⟨rfl,rfl⟩:=h;rfl
 |c::cs,S,ls,r,hS,h=>by
  simp only[zbi,Prod.mk.injEq] at h;obtain⟨rfl,h2⟩:=h;have ih:=zmj cs (S:=(zdb c.2.1 m S).2) (zkw hS) (show zbi m cs (zdb c.2.1 m S).2=((zbi m cs (zdb c.2.1 m S).2).1,some r) by rw[←h2]);have e3:=zxm hS (show zdb c.2.1 m S=((zdb c.2.1 m S).1,some _) by rw[←ih]);simp only[zbr,List.append_assoc];exact e3
open Go.RowKit Go.Hm
theorem zov{m:Int}{rows:Int}(hrm:rows≤m)(hm:m≤9223372036854775807):∀(cs:List za0) (ls:List (List zax)) (r:List Nat),ls.length=cs.length→
 (∀i,i<cs.length→zd8 (cs.getD i ([],0,false)).2.1 (cs.getD i ([],0,false)).2.2 (ls.getD i []) rows)→(∀l∈ls,∀p∈l,statData p.2.2)→(zbr cs ls).length+r.length≤140737488351232→
 zbi m cs (some (zbr cs ls++r))=(ls,some r)
 | [],[],r,_,_,_,_=>rfl
 | [],l::ls,_,h,_,_,_=>by simp at h
 |c::cs,[],_,h,_,_,_=>by simp at h
 |c::cs,l::ls,r,hlen,hok,hd,hr=>by
  simp only[zbr,List.length_append] at hr;have h0:=hok 0 (by simp);simp only[List.getD_cons_zero] at h0;simp only[zbr,List.append_assoc,zbi];rw[z2i h0 hrm hm (hd l (by simp)) (by rw[List.length_append];omega)];dsimp only
  rw[zov hrm hm cs ls r (by simpa using hlen) (fun i hi=>by
   have:=hok (i+1) (by simp;omega)
   simpa using this) (fun l' hl'=>hd l' (by simp[hl'])) (by omega)]
noncomputable def zdm(k:Int→Int)(cols:List za0)(m:Int)(S:St):za4 × St:=
 ((((lenS m S).1:Int),(zbi (k ((lenS m S).1:Int)) cols (lenS m S).2).1),(zbi (k ((lenS m S).1:Int)) cols (lenS m S).2).2)
noncomputable def zbl(k:Int→Int)(cols:List za0)(m:Int):Nat→St→List za4 × St
 |0,S=>([],S)
 |_+1,none=>([],none)
 |n+1,some l=>((zdm k cols m (some l)).1::(zbl k cols m n (zdm k cols m (some l)).2).1,(zbl k cols m n (zdm k cols m (some l)).2).2)
theorem zvg{k:Int→Int}{cols:List za0}{m:Int}{S:St}(h:S.ok):(zdm k cols m S).2.ok:=zrc _ (za5 h)
theorem zxo{k:Int→Int}{cols:List za0}{m:Int}{S:St}:∀l∈(zdm k cols m S).1.2,∀p∈l,statData p.2.2:=zmi _ _
theorem zmk(k:Int→Int)(cols:List za0)(m:Int)(n:Nat):zbl k cols m n none=([],none):=by cases n<;> rfl
theorem zir{k:Int→Int}{cols:List za0}{m:Int}:∀(n:Nat) (S:St),∀g∈(zbl k cols m n S).1,∀l∈g.2,∀p∈l,statData p.2.2
 |0,_,g,hg=>by simp[zbl] at hg
 |_+1,none,g,hg=>by simp[zbl] at hg
 |n+1,some b,g,hg=>by
  simp only[zbl,List.mem_cons] at hg;rcases hg with rfl|hg
  ·exact zxo
  ·exact zir n _ g hg
theorem zxp{k:Int→Int}{cols:List za0}{m:Int}{S:St}{g:za4}{r:List Nat}(hS:S.ok)(h:zdm k cols m S=(g,some r)):S=some (zco cols g++r):=by
 unfold zdm at h;obtain⟨N,S1,e⟩:∃N S1,lenS m S=(N,S1):=⟨_,_,rfl⟩
 have hS1:S1.ok:=by have:=za5 (m:=m) hS;rwa[e] at this
 rw[e] at h;dsimp only at h;simp only[Prod.mk.injEq] at h;obtain⟨rfl,h2⟩:=h;have e1:=zmj cols hS1 (show zbi (k (N:Int)) cols S1=((zbi (k (N:Int)) cols S1).1,some r) by rw[←h2]);rw[(zg9 hS (show lenS m S=(N,some _) by rw[e,←e1])).1];simp[zco]
theorem zml{k:Int→Int}{cols:List za0}{m:Int}:∀(n:Nat) {S:St} {gs:List za4} {r:List Nat},S.ok→zbl k cols m n S=(gs,some r)→S=some (gs.flatMap (zco cols)++r)∧gs.length=n
 |0,S,gs,r,_,h=>by
  simp only[zbl,Prod.mk.injEq] at h;obtain⟨rfl,rfl⟩:=h;exact⟨rfl,rfl⟩
 |n+1,none,gs,r,_,h=>by
  simp only[zbl,Prod.mk.injEq] at h;cases h.2
 |n+1,some b,gs,r,hS,h=>by
  simp only[zbl,Prod.mk.injEq] at h;obtain⟨rfl,h2⟩:=h;obtain⟨e1,e2⟩:=zml n (S:=(zdm k cols m (some b)).2) (zvg hS) (show zbl k cols m n (zdm k cols m (some b)).2=((zbl k cols m n (zdm k cols m (some b)).2).1,some r) by rw[←h2]);have e3:=zxp hS (show zdm k cols m (some b)=((zdm k cols m (some b)).1,some _) by rw[←e1]);refine⟨?_,by rw[List.length_cons,e2]⟩;rw[List.flatMap_cons,List.append_assoc];exact e3
theorem z2j{k:Int→Int}(hk:∀r,0≤r→r≤65536→r≤k r∧k r≤65536){cols:List za0}{m:Int}{g:za4}{r:List Nat}(h:GroupOk cols g)(hgm:g.1≤m)(hm:m≤65536)(hd:∀l∈g.2,∀p∈l,statData p.2.2)
 (hr:(zco cols g).length+r.length≤140737488351232):zdm k cols m (some (zco cols g++r))=(g,some r):=by
 obtain⟨h1,h2,h3⟩:=h;obtain⟨rows,ls⟩:=g;dsimp only at h1 h2 h3 hgm hd;obtain⟨n,rfl⟩:=Int.eq_ofNat_of_zero_le (show 0≤rows by omega);have hkn:=hk (n:Int) (by omega) (by omega);unfold zco at hr⊢;simp only[Int.toNat_natCast,List.length_append] at hr⊢;unfold zdm;rw[List.append_assoc,zb2 n _ hgm (by omega)];dsimp only;rw[zov hkn.1 (by omega) cols ls r h2 h3 hd (by omega)]
theorem zow{k:Int→Int}(hk:∀r,0≤r→r≤65536→r≤k r∧k r≤65536){cols:List za0}{m:Int}(hm:m≤65536):∀(gs:List za4) (r:List Nat),(∀g∈gs,GroupOk cols g∧g.1≤m∧∀l∈g.2,∀p∈l,statData p.2.2)→
 (gs.flatMap (zco cols)).length+r.length≤140737488351232→zbl k cols m gs.length (some (gs.flatMap (zco cols)++r))=(gs,some r)
 | [],r,_,_=>rfl
 |g::gs,r,h,hr=>by
  obtain⟨a,b,c⟩:=h g (by simp);rw[List.flatMap_cons,List.length_append] at hr;rw[List.flatMap_cons,List.append_assoc,List.length_cons];simp only[zbl];rw[z2j hk a b hm c (by rw[List.length_append];omega)];dsimp only;rw[zow hk hm gs r (fun q hq=>h q (by simp[hq])) (by omega)]
structure IsFoot(b:List Nat)(o:Option FootS):Prop where
 sound:∀F,o=some F→zbp F∧zgl F∧zd9 F=b
 compl:∀F,zbp F→zgl F→zd9 F=b→o=some F
theorem IsFoot.uniq{b:List Nat}{o p:Option FootS}(h:IsFoot b o)(k:IsFoot b p):o=p:=by
 cases o with
 |some F=>obtain⟨a,b,c⟩:=h.sound F rfl;exact(k.compl F a b c).symm
 |none=>
  cases p with
  |none=>rfl
  |some F=>obtain⟨a,b,c⟩:=k.sound F rfl;exact h.compl F a b c
noncomputable def zox(b:List Nat):List za0 × St:=getC (some b)
noncomputable def zlv(b:List Nat):Nat × St:=lenS 65536 (zox b).2
noncomputable def zs0(k:Int→Int)(b:List Nat):List za4 × St:=
 zbl k (zox b).1 (k ((zlv b).1:Int)) (lenS (k ((zlv b).1:Int)) (zlv b).2).1 (lenS (k ((zlv b).1:Int)) (zlv b).2).2
open Classical in
noncomputable def zoy(k:Int→Int)(b:List Nat):Option FootS:=
 if(zs0 k b).2=some []∧zbp ⟨(zox b).1,((zlv b).1:Int),(zs0 k b).1⟩ then some ⟨(zox b).1,((zlv b).1:Int),(zs0 k b).1⟩ else none
theorem znj{cols:List za0}:∀{gs:List za4},(∀g∈gs,GroupOk cols g)→(gs.length:Int)≤(gs.map (·.1)).sum∧∀g∈gs,g.1≤(gs.map (·.1)).sum
 | [],_=>by simp
 |g::gs,h=>by
  have ih:=znj (gs:=gs) fun q hq=>h q (by simp[hq])
  have h1:=(h g (by simp)).1;rw[List.map_cons,List.sum_cons,List.length_cons];refine⟨by omega,fun q hq=>?_⟩;rcases List.mem_cons.1 hq with rfl|hq
  ·omega
  ·have:=ih.2 q hq
   omega
theorem qbv{k:Int→Int}(hk:∀r,0≤r→r≤65536→r≤k r∧k r≤65536){b:List Nat}(h8:∀x∈b,x<256)(hb:b.length≤140737488351232):IsFoot b (zoy k b):=by
 constructor
 ·intro F hF
  unfold zoy at hF;split at hF
  ·rename_i hc
   obtain⟨hc1,hc2⟩:=hc;injection hF with hF;subst hF;have hS0:St.ok (some b):=St.ok_some h8;refine⟨hc2,⟨?_,fun g hg=>zir _ _ g hg⟩,?_⟩
   ·intro c hcc z hz
    have hC2:∃r,(zox b).2=some r:=by
     cases h2:(zox b).2 with
     |some r=>exact⟨r,rfl⟩
     |none=>
      exfalso;unfold zs0 zlv at hc1;rw[h2,zgu] at hc1;dsimp only at hc1;rw[zgu] at hc1;dsimp only at hc1;rw[zmk] at hc1;cases hc1
    obtain⟨r,hr⟩:=hC2;obtain⟨_,e⟩:=zg8 hS0 (show getC (some b)=((zox b).1,some r) by rw[←hr];rfl);injection e with e;refine h8 z ?_;rw[e,List.append_assoc];refine List.mem_append_right _ (List.mem_append_left _ ?_);refine List.mem_flatMap.2 ⟨c,hcc,?_⟩;simp only[z2b,List.mem_append];exact .inl (.inr hz)
   ·obtain⟨C,SC,eC⟩:∃C SC,zox b=(C,SC):=⟨_,_,rfl⟩
    obtain⟨N,SN,eN⟩:∃N SN,zlv b=(N,SN):=⟨_,_,rfl⟩;obtain⟨n,Sn,en⟩:∃n Sn,lenS (k (N:Int)) SN=(n,Sn):=⟨_,_,rfl⟩;obtain⟨gs,SG,eG⟩:∃gs SG,zs0 k b=(gs,SG):=⟨_,_,rfl⟩;rw[eG] at hc1;dsimp only at hc1;subst hc1;rw[eC,eN,eG];unfold zs0 at eG;rw[eC,eN] at eG;dsimp only at eG;rw[en] at eG;dsimp only at eG;unfold zlv at eN;rw[eC] at eN;dsimp only at eN
    have ok1:SC.ok:=by
     cases SC with
     |none=>exact St.ok_none
     |some r=>
      obtain⟨_,e⟩:=zg8 hS0 (show getC (some b)=(C,some r) from eC);injection e with e
      exact St.ok_some fun x hx=>h8 x (by rw[e];simp[hx])
    have ok2:SN.ok:=by have:=za5 (m:=65536) ok1;rwa[eN] at this
    have ok3:Sn.ok:=by have:=za5 (m:=k (N:Int)) ok2;rwa[en] at this
    obtain⟨e3,hl⟩:=zml n ok3 eG;subst e3;have e4:=(zg9 ok2 en).1;subst e4;have e5:=(zg9 ok1 eN).1;subst e5;obtain⟨hck,e⟩:=zg8 hS0 (show getC (some b)=(C,some _) from eC);injection e with e;unfold zd9 putC;dsimp only;rw[if_pos hck,e,hl];simp
  ·cases hF
 ·intro F h1 h2 h3
  obtain⟨cols,rows,gs⟩:=F;obtain⟨a1,a2,a3,a4,a5⟩:=h1;obtain⟨d1,d2⟩:=h2;dsimp only at a1 a2 a3 a4 a5 d1 d2;obtain⟨r1,r2⟩:=znj a2;have hck:=(zdg cols).2 a1;obtain⟨N,rfl⟩:=Int.eq_ofNat_of_zero_le (show 0≤rows by omega);have hkN:=hk (N:Int) (by omega) a4
  have hb2:b=vp cols.length++zj5 cols++(vp N++(vp gs.length++(gs.flatMap (zco cols)++[]))):=by
   rw[←h3];unfold zd9 putC;dsimp only;rw[if_pos hck];simp
  have hbl:=congrArg List.length hb2;simp only[List.length_append] at hbl
  have eC:zox b=(cols,some (vp N++(vp gs.length++(gs.flatMap (zco cols)++[])))):=by
   unfold zox;rw[hb2];exact qbu cols _ hck
  have eN:zlv b=(N,some (vp gs.length++(gs.flatMap (zco cols)++[]))):=by
   unfold zlv;rw[eC];exact zb2 N _ (by omega) (by omega)
  have en:lenS (k (N:Int)) (some (vp gs.length++(gs.flatMap (zco cols)++[])))=(gs.length,some (gs.flatMap (zco cols)++[])):=zb2 _ _ (by omega) (by omega)
  have eG:zs0 k b=(gs,some []):=by
   unfold zs0;rw[eC,eN];dsimp only;rw[en];dsimp only;exact zow hk (by omega) gs [] (fun g hg=>⟨a2 g hg,by have:=r2 g hg;omega,d2 g hg⟩) (by omega)
  unfold zoy;rw[eC,eN,eG];rw[if_pos ⟨rfl,a1,a2,a3,a4,a5⟩]
end Go.Proofs.YtmgfkpnghlmheaaGreat
