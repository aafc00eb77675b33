/- Merged. -/
import Derived.Test.YtmgfkpnghlmheaaGreatBun25
set_option maxHeartbeats 2000000
namespace Go.Proofs.Y
open Go.RowKit Go.Hm
theorem zo5{m:Int}{rows:Int}(hrm:rows<=m)(hm:m<=9223372036854775807):∀(cs:List za2) (ls:List (List zay)) (r:List Nat),ls.length=cs.length->
 (∀i,i<cs.length->zd8 (cs.getD i ([],0,false)).2.1 (cs.getD i ([],0,false)).2.2 (ls.getD i []) rows)->(∀l∈ls,∀p∈l,statData p.2.2)->(zbs cs ls).length+r.length<=140737488351232->
 zbk m cs (some (zbs cs ls++r))=(ls,some r)
 | [],[],r,_,_,_,_=>rfl
 | [],l::ls,_,h,_,_,_=>by simp at h
 |c::cs,[],_,h,_,_,_=>by simp at h
 |c::cs,l::ls,r,hlen,hok,hd,hr=>by
  simp only[zbs,List.length_append] at hr;have h0:=hok 0 (by simp);simp only[List.getD_cons_zero] at h0;simp only[zbs,List.append_assoc,zbk];rw[z2k h0 hrm hm (hd l (by simp)) (by rw[List.length_append];omega)];dsimp only;rw[zo5 hrm hm cs ls r (by simpa using hlen) (fun i hi=>by have:=hok (i+1) (by simp;omega);simpa using this) (fun l' hl'=>hd l' (by simp[hl'])) (by omega)]
noncomputable def zdm(k:Int->Int)(cols:List za2)(m:Int)(S:St):za4 × St:=
 ((((lenS m S).1:Int),(zbk (k ((lenS m S).1:Int)) cols (lenS m S).2).1),(zbk (k ((lenS m S).1:Int)) cols (lenS m S).2).2)
noncomputable def zbm(k:Int->Int)(cols:List za2)(m:Int):Nat->St->List za4 × St
 |0,S=>([],S)
 |_+1,none=>([],none)
 |n+1,some l=>((zdm k cols m (some l)).1::(zbm k cols m n (zdm k cols m (some l)).2).1,(zbm k cols m n (zdm k cols m (some l)).2).2)
theorem zvk{k:Int->Int}{cols:List za2}{m:Int}{S:St}(h:S.ok):(zdm k cols m S).2.ok:=zrn _ (za6 h)
theorem zxs{k:Int->Int}{cols:List za2}{m:Int}{S:St}:∀l∈(zdm k cols m S).1.2,∀p∈l,statData p.2.2:=zmo _ _
theorem zmq(k:Int->Int)(cols:List za2)(m:Int)(n:Nat):zbm k cols m n none=([],none):=by cases n<;> rfl
theorem zit{k:Int->Int}{cols:List za2}{m:Int}:∀(n:Nat) (S:St),∀g∈(zbm k cols m n S).1,∀l∈g.2,∀p∈l,statData p.2.2
 |0,_,g,hg=>by simp[zbm] at hg
 |_+1,none,g,hg=>by simp[zbm] at hg
 |n+1,some b,g,hg=>by
  simp only[zbm,List.mem_cons] at hg;rcases hg with rfl|hg
  ·exact zxs
  ·exact zit n _ g hg
theorem zxt{k:Int->Int}{cols:List za2}{m:Int}{S:St}{g:za4}{r:List Nat}(hS:S.ok)(h:zdm k cols m S=(g,some r)):S=some (zcm cols g++r):=by
 unfold zdm at h;obtain⟨N,S1,e⟩:∃N S1,lenS m S=(N,S1):=⟨_,_,rfl⟩;have hS1:S1.ok:=by have:=za6 (m:=m) hS;rwa[e] at this
 rw[e] at h;dsimp only at h;simp only[Prod.mk.injEq] at h;obtain⟨rfl,h2⟩:=h;have e1:=zmp cols hS1 (show zbk (k (N:Int)) cols S1=((zbk (k (N:Int)) cols S1).1,some r) by rw[<-h2]);rw[(zhb hS (show lenS m S=(N,some _) by rw[e,<-e1])).1];simp[zcm]
theorem zmr{k:Int->Int}{cols:List za2}{m:Int}:∀(n:Nat) {S:St} {gs:List za4} {r:List Nat},S.ok->zbm k cols m n S=(gs,some r)->S=some (gs.flatMap (zcm cols)++r)/\gs.length=n
 |0,S,gs,r,_,h=>by
  simp only[zbm,Prod.mk.injEq] at h;obtain⟨rfl,rfl⟩:=h;exact⟨rfl,rfl⟩
 |n+1,none,gs,r,_,h=>by
  simp only[zbm,Prod.mk.injEq] at h;cases h.2
 |n+1,some b,gs,r,hS,h=>by
  simp only[zbm,Prod.mk.injEq] at h;obtain⟨rfl,h2⟩:=h;obtain⟨e1,e2⟩:=zmr n (S:=(zdm k cols m (some b)).2) (zvk hS) (show zbm k cols m n (zdm k cols m (some b)).2=((zbm k cols m n (zdm k cols m (some b)).2).1,some r) by rw[<-h2]);have e3:=zxt hS (show zdm k cols m (some b)=((zdm k cols m (some b)).1,some _) by rw[<-e1]);refine⟨?_,by rw[List.length_cons,e2]⟩;rw[List.flatMap_cons,List.append_assoc];exact e3
theorem z2l{k:Int->Int}(hk:∀r,0<=r->r<=65536->r<=k r/\k r<=65536){cols:List za2}{m:Int}{g:za4}{r:List Nat}(h:GroupOk cols g)(hgm:g.1<=m)(hm:m<=65536)(hd:∀l∈g.2,∀p∈l,statData p.2.2)
 (hr:(zcm cols g).length+r.length<=140737488351232):zdm k cols m (some (zcm cols g++r))=(g,some r):=by
 obtain⟨h1,h2,h3⟩:=h;obtain⟨rows,ls⟩:=g;dsimp only at h1 h2 h3 hgm hd;obtain⟨n,rfl⟩:=Int.eq_ofNat_of_zero_le (show 0<=rows by omega);have hkn:=hk (n:Int) (by omega) (by omega);unfold zcm at hr⊢;simp only[Int.toNat_natCast,List.length_append] at hr⊢;unfold zdm;rw[List.append_assoc,zb2 n _ hgm (by omega)];dsimp only;rw[zo5 hkn.1 (by omega) cols ls r h2 h3 hd (by omega)]
theorem zo6{k:Int->Int}(hk:∀r,0<=r->r<=65536->r<=k r/\k r<=65536){cols:List za2}{m:Int}(hm:m<=65536):∀(gs:List za4) (r:List Nat),(∀g∈gs,GroupOk cols g/\g.1<=m/\ ∀l∈g.2,∀p∈l,statData p.2.2)->
 (gs.flatMap (zcm cols)).length+r.length<=140737488351232->zbm k cols m gs.length (some (gs.flatMap (zcm cols)++r))=(gs,some r)
 | [],r,_,_=>rfl
 |g::gs,r,h,hr=>by
  obtain⟨a,b,c⟩:=h g (by simp);rw[List.flatMap_cons,List.length_append] at hr;rw[List.flatMap_cons,List.append_assoc,List.length_cons];simp only[zbm];rw[z2l hk a b hm c (by rw[List.length_append];omega)];dsimp only;rw[zo6 hk hm gs r (fun q hq=>h q (by simp[hq])) (by omega)]
structure IsFoot(b:List Nat)(o:Option FootS):Prop where
 sound:∀F,o=some F->zbj F/\zel F/\zdz F=b
 compl:∀F,zbj F->zel F->zdz F=b->o=some F
theorem IsFoot.uniq{b:List Nat}{o p:Option FootS}(h:IsFoot b o)(k:IsFoot b p):o=p:=by
 cases o with
 |some F=>obtain⟨a,b,c⟩:=h.sound F rfl;exact(k.compl F a b c).symm
 |none=>
  cases p with
  |none=>rfl
  |some F=>obtain⟨a,b,c⟩:=k.sound F rfl;exact h.compl F a b c
noncomputable def zo7(b:List Nat):List za2 × St:=getC (some b)
noncomputable def zl3(b:List Nat):Nat × St:=lenS 65536 (zo7 b).2
noncomputable def zs9(k:Int->Int)(b:List Nat):List za4 × St:=
 zbm k (zo7 b).1 (k ((zl3 b).1:Int)) (lenS (k ((zl3 b).1:Int)) (zl3 b).2).1 (lenS (k ((zl3 b).1:Int)) (zl3 b).2).2
open Classical in
noncomputable def zo8(k:Int->Int)(b:List Nat):Option FootS:=
 if(zs9 k b).2=some []/\zbj ⟨(zo7 b).1,((zl3 b).1:Int),(zs9 k b).1⟩ then some ⟨(zo7 b).1,((zl3 b).1:Int),(zs9 k b).1⟩ else none
theorem zns{cols:List za2}:∀{gs:List za4},(∀g∈gs,GroupOk cols g)->(gs.length:Int)<=(gs.map (·.1)).sum/\ ∀g∈gs,g.1<=(gs.map (·.1)).sum
 | [],_=>by simp
 |g::gs,h=>by
  have ih:=zns (gs:=gs) fun q hq=>h q (by simp[hq])
  have h1:=(h g (by simp)).1;rw[List.map_cons,List.sum_cons,List.length_cons];refine⟨by omega,fun q hq=>?_⟩;rcases List.mem_cons.1 hq with rfl|hq
  ·omega
  ·have:=ih.2 q hq
   omega
theorem qb0{k:Int->Int}(hk:∀r,0<=r->r<=65536->r<=k r/\k r<=65536){b:List Nat}(h8:∀x∈b,x<256)(hb:b.length<=140737488351232):IsFoot b (zo8 k b):=by
 constructor
 ·intro F hF
  unfold zo8 at hF;split at hF
  ·rename_i hc
   obtain⟨hc1,hc2⟩:=hc;injection hF with hF;subst hF;have hS0:St.ok (some b):=St.ok_some h8;refine⟨hc2,⟨?_,fun g hg=>zit _ _ g hg⟩,?_⟩
   ·intro c hcc z hz
    have hC2:∃r,(zo7 b).2=some r:=by
     cases h2:(zo7 b).2 with
     |some r=>exact⟨r,rfl⟩
     |none=>
      exfalso;unfold zs9 zl3 at hc1;rw[h2,zgw] at hc1;dsimp only at hc1;rw[zgw] at hc1;dsimp only at hc1;rw[zmq] at hc1;cases hc1
    obtain⟨r,hr⟩:=hC2;obtain⟨_,e⟩:=zha hS0 (show getC (some b)=((zo7 b).1,some r) by rw[<-hr];rfl);injection e with e;refine h8 z ?_;rw[e,List.append_assoc];refine List.mem_append_right _ (List.mem_append_left _ ?_);refine List.mem_flatMap.2 ⟨c,hcc,?_⟩;simp only[z2d,List.mem_append];exact .inl (.inr hz)
   ·obtain⟨C,SC,eC⟩:∃C SC,zo7 b=(C,SC):=⟨_,_,rfl⟩
    obtain⟨N,SN,eN⟩:∃N SN,zl3 b=(N,SN):=⟨_,_,rfl⟩;obtain⟨n,Sn,en⟩:∃n Sn,lenS (k (N:Int)) SN=(n,Sn):=⟨_,_,rfl⟩;obtain⟨gs,SG,eG⟩:∃gs SG,zs9 k b=(gs,SG):=⟨_,_,rfl⟩;rw[eG] at hc1;dsimp only at hc1;subst hc1;rw[eC,eN,eG];unfold zs9 at eG;rw[eC,eN] at eG;dsimp only at eG;rw[en] at eG;dsimp only at eG;unfold zl3 at eN;rw[eC] at eN;dsimp only at eN;have ok1:SC.ok:=by
     cases SC with
     |none=>exact St.ok_none
     |some r=>
      obtain⟨_,e⟩:=zha hS0 (show getC (some b)=(C,some r) from eC);injection e with e;exact St.ok_some fun x hx=>h8 x (by rw[e];simp[hx])
    have ok2:SN.ok:=by have:=za6 (m:=65536) ok1;rwa[eN] at this
    have ok3:Sn.ok:=by have:=za6 (m:=k (N:Int)) ok2;rwa[en] at this
    obtain⟨e3,hl⟩:=zmr n ok3 eG;subst e3;have e4:=(zhb ok2 en).1;subst e4;have e5:=(zhb ok1 eN).1;subst e5;obtain⟨hck,e⟩:=zha hS0 (show getC (some b)=(C,some _) from eC);injection e with e;unfold zdz putC;dsimp only;rw[if_pos hck,e,hl];simp
  ·cases hF
 ·intro F h1 h2 h3
  obtain⟨cols,rows,gs⟩:=F;obtain⟨a1,a2,a3,a4,a5⟩:=h1;obtain⟨d1,d2⟩:=h2;dsimp only at a1 a2 a3 a4 a5 d1 d2;obtain⟨r1,r2⟩:=zns a2;have hck:=(zdt cols).2 a1;obtain⟨N,rfl⟩:=Int.eq_ofNat_of_zero_le (show 0<=rows by omega);have hkN:=hk (N:Int) (by omega) a4;have hb2:b=vp cols.length++zkd cols++(vp N++(vp gs.length++(gs.flatMap (zcm cols)++[]))):=by rw[<-h3];unfold zdz putC;dsimp only;rw[if_pos hck];simp
  have hbl:=congrArg List.length hb2;simp only[List.length_append] at hbl;have eC:zo7 b=(cols,some (vp N++(vp gs.length++(gs.flatMap (zcm cols)++[])))):=by unfold zo7;rw[hb2];exact qbz cols _ hck
  have eN:zl3 b=(N,some (vp gs.length++(gs.flatMap (zcm cols)++[]))):=by unfold zl3;rw[eC];exact zb2 N _ (by omega) (by omega)
  have en:lenS (k (N:Int)) (some (vp gs.length++(gs.flatMap (zcm cols)++[])))=(gs.length,some (gs.flatMap (zcm cols)++[])):=zb2 _ _ (by omega) (by omega);have eG:zs9 k b=(gs,some []):=by unfold zs9;rw[eC,eN];dsimp only;rw[en];dsimp only;exact zo6 hk (by omega) gs [] (fun g hg=>⟨a2 g hg,by have:=r2 g hg;omega,d2 g hg⟩) (by omega)
  unfold zo8;rw[eC,eN,eG];rw[if_pos ⟨rfl,a1,a2,a3,a4,a5⟩]
end Go.Proofs.Y
namespace Go.Hm
open Go Go.RowKit
def Grows(w w':World)(v v':Value):Prop:=w.grownBy w' v.ownBlock/\(v'.ownBlock=v.ownBlock\/ ∃g,v'.ownBlock=some g/\w.heap.size<=g)
theorem Grows.trans{a b c:World}{u v x:Value}(h:Grows a b u v)(k:Grows b c v x):Grows a c u x:=by
 obtain⟨h1,h2⟩:=h;obtain⟨k1,k2⟩:=k;refine⟨⟨k1.os.trans h1.os,k1.tape.trans h1.tape,k1.output.trans h1.output,Nat.le_trans h1.size k1.size,fun i hi hne=>?_⟩,?_⟩
 ·refine(k1.block i (Nat.lt_of_lt_of_le hi h1.size) fun e=>?_).trans (h1.block i hi hne)
  rcases h2 with h2|⟨g,h2,hg⟩
  ·rw[h2] at e;exact hne e
  ·rw[h2] at e;injection e with e;omega
 ·rcases k2 with k2|⟨g,k2,hg⟩
  ·rw[k2];exact h2
  ·exact .inr ⟨g,k2,Nat.le_trans h1.size hg⟩
theorem zde{w w':World}{row:Option Nat}(h:New w w'):w.grownBy w' row:=⟨h.os,h.tape,h.output,h.size,fun k hk _=>h.block k hk⟩
theorem Grows.of_new{w w':World}{v:Value}(h:New w w'):Grows w w' v v:=⟨zde h,.inl rfl⟩
theorem Grows.size{w w':World}{v v':Value}(h:Grows w w' v v'):w.heap.size<=w'.heap.size:=h.1.size
theorem Grows.blk{w w':World}{v v':Value}{g:Nat}{t e:TypeId}{cs:Array Value}{base:Nat}{xs:List Value}(h:Grows w w' v v')(o:Own w base e v xs)(B:Blk w g t cs)(hne:e≠t):Blk w' g t cs:=
 B.grown h.1 (fun he=>o.blk_ne B hne he.symm)
theorem Grows.below{w0 w w':World}{v v':Value}{base B:Nat}{e:TypeId}{xs:List Value}(h:Grows w w' v v')(o:Own w base e v xs)(b:Below B w0 w)(hB:B<=base)(hBw:B<=w.heap.size):Below B w0 w':=by refine b.trans ⟨h.1.os,h.1.tape,h.1.output,h.1.size,fun k hk=>h.1.block k (by omega) fun he=>?_⟩;have:=(o.lt k he.symm).1;omega
end Go.Hm
namespace Go.Proofs.Y
open Go.RowKit Go.Hm
def z67(base:Nat)(v:Value)(l:List Nat)(w:World)(e:Ending)(w':World):Prop:=
 ∃A n c,e= .returned (.slice A n c)/\Go.Hm.Own w' base 5 (.slice A n c) (za3 .u8 l)/\Grows w w' v (.slice A n c)
set_option maxRecDepth 100000 in
theorem zdu{w:World}{base n c N:Nat}{A:Option Addr}{l:List Nat}(o:Go.Hm.Own w base 5 (.slice A n c) (za3 .u8 l))(hb:base<=w.heap.size)(hn:n<=100000000000000)(hN:N<=9223372036854775807):
 Calls Tryz.prog 57 #[.slice A n c,.int .i64 (N:Int)] w (z67 base (.slice A n c) (l++vp N) w):=by
 have P:=Hz (zcx none 0 0 [] N w Reads.none_ (by omega) (by omega));have V:=zaj (n:=N) (by omega);have hw:IntKind.u64.wrap (N:Int)=(N:Int):=by rw[IntKind.wrap_u64];omega
 have HO:=Hz o;clear o;go_enter Tryz.func57,Tryz.ntmps57
 go_wp2_with fail
 refine P.out.mono ?_;rintro e w1 ⟨A2,n2,c2,rfl,k2,b2⟩;rw[List.nil_append] at k2;have hq:n2<=10:=by have:=k2.len;rw[zaa] at this;omega
 have o1:=HO.out.later b2;have hz:=b2.size
 go_wp2_with (refine zas elB rfl (.tmp 5) (.tmp 8) rfl (W:=w) (B:=base) o1 k2.reads rfl rfl (Below.mono b2 hb) (Nat.le_refl _) (by omega) (by omega) (by simp only[maxLen];omega) ?_
              intro A5 c5 w5 _ _ o5 g5 _ d5)
 go_ret
 exact⟨_,_,_,rfl,o5,(Grows.of_new b2).trans ⟨g5,d5⟩⟩
theorem zvl{t:Int}{p:zay}(h1:p.1.toNat<18446744073709551616)(h2:p.2.1.toNat<18446744073709551616):(zen t p).length<=140020:=by have a:=zaj (n:=p.1.toNat) h1;have b:=zaj (n:=p.2.1.toNat) h2;have c:=zzl (l:=[]) (t:=t) (s:=p.2.2);unfold zen;simp only[List.length_append,List.length_nil] at c⊢;omega
theorem zl4{t:Int}:∀l:List zay,(∀p∈l,p.1.toNat<18446744073709551616/\p.2.1.toNat<18446744073709551616)->(l.flatMap (zen t)).length<=l.length*140020
 | [],_=>by simp
 |p::l,h=>by
  have a:=zvl (t:=t) (h p (by simp)).1 (h p (by simp)).2;have b:=zl4 (t:=t) l fun q hq=>h q (by simp[hq])
  rw[List.flatMap_cons,List.length_append,List.length_cons];omega
def zxu(p:zay):Prop:=(0<=p.1/\p.1<=9223372036854775807)/\(0<=p.2.1/\p.2.1<=9223372036854775807)/\statData p.2.2
set_option maxRecDepth 100000 in
theorem zvm{w:World}{base n c np cp:Nat}{A Ap:Option Addr}{t:Int}{l:List Nat}{ps:List zay}(o:Go.Hm.Own w base 5 (.slice A n c) (za3 .u8 l))(hb:base<=w.heap.size)(h:Reads w base 14 Ap np (recs zg9 ps))(hp:∀p∈ps,zxu p)
 (hn:n+10+np*140020<=100000000000000):
 Calls Tryz.prog 58 #[.slice A n c,.int .i64 t,.slice Ap np cp] w (z67 base (.slice A n c) (l++zgm t ps) w):=by
 obtain rfl:=h.lenPage;have hln:l.length=n:=by have:=o.len;rw[zaa] at this;exact this.symm
 have V:=zaj (n:=ps.length) (by omega);have PN:=Hz (zdu (N:=ps.length) o hb (by omega) (by omega));have hfl:=fun k=>zl4 (t:=t) (ps.take k) (fun p hpm=>by have:=hp p (List.mem_of_mem_take hpm);have h1:=this.1;have h2:=this.2.1;omega)
 have HF:=Hz (fun k=>by have:=hfl k;rw[List.length_take] at this;exact this);have HR:=Hz h;have HP:=Hz hp;have HO:=Hz o;have HLN:=Hz hln;clear h hp o hln hfl;go_enter Tryz.func58,Tryz.ntmps58
 go_wp2_with fail
 refine PN.out.mono ?_;rintro e w1 ⟨A1,n1,c1,rfl,o1,g1⟩;have hb1:=g1.size;have b1:Below base w w1:=g1.below HO.out (Below.refl _ _) (Nat.le_refl _) hb;clear PN;go_wp2_with fail
 go_loopw [0,15] (fun v i wr=>∃(k:Nat) (B:Option Addr) (m d:Nat),k<=ps.length/\i= .int .i64 (k:Int)/\v= .slice B m d/\Go.Hm.Own wr base 5 (.slice B m d) (za3 .u8 (l++vp ps.length++(ps.take k).flatMap (zen t)))/\Grows w wr (.slice A n c) (.slice B m d)/\Below base w wr) (fun _ i _=>ps.length-(intOf i).toNat)
 case atStart=>exact⟨0,A1,n1,c1,Nat.zero_le _,rfl,rfl,by simpa using o1,g1,b1⟩
 case round=>
  obtain⟨k,B,m,d,hk,rfl,rfl,o,g,b⟩:=hrel;clear o1 g1 b1 hb1;have hml:m<=n+10+k*140020:=by have h1:=o.len;rw[zaa,List.length_append,List.length_append] at h1;have h2:=HF.out k;have h3:=HLN.out;omega
  have hsz:=g.size;by_cases hlt:k<ps.length
  ·obtain⟨ad,rfl,hbd,d0,d1,d2,d3,d4,d5,d6,d7,d8,d9,d10,d11,d12,d13⟩:=(HR.out.below b).page14 hlt
   have htk:=zae ps k zbp hlt;have hpn:=HP.out _ (zan zbp hlt);have hpl:(ps.take (k+1)).flatMap (zen t)=(ps.take k).flatMap (zen t)++zen t (ps.getD k zbp):=by rw[htk,List.flatMap_append];simp
   rw[show zen t (ps.getD k zbp)=vp (ps.getD k zbp).1.toNat++vp (ps.getD k zbp).2.1.toNat++Go.Hm.putS [] t (ps.getD k zbp).2.2 from rfl] at hpl;have HPL:=Hz hpl;clear htk hpl hbd;generalize ps.getD k zbp=p at*;obtain⟨hp1,hp2,hp3⟩:=hpn;have SP:=fun(W:World)=>z55 (w:=W) (c:=0) (t:=t) (l:=[]) (n:=0) (A:=none) Reads.none_ (by omega) hp3
   have hspl:=zzl (l:=[]) (t:=t) (s:=p.2.2);obtain⟨szI,rwI,nn,bb,⟨p1,p2,p3,p4,p5⟩,⟨q1,q2,q3,q4,q5⟩⟩:=p;dsimp only at hp1 hp2 hp3 SP hspl HPL d0 d1 d2 d3 d4 d5 d6 d7 d8 d9 d10 d11 d12 d13;obtain⟨sz,rfl⟩:=Int.eq_ofNat_of_zero_le hp1.1;obtain⟨rw,rfl⟩:=Int.eq_ofNat_of_zero_le hp2.1;simp only[Int.toNat_natCast] at HPL;generalize Go.Hm.putS [] t (nn,bb,(p1,p2,p3,p4,p5),(q1,q2,q3,q4,q5))=SB at*;have SP:Hid (∀W,Calls Tryz.prog 95 #[.slice none 0 0,.int .i64 t,.agg #[.int .i64 nn,.bool bb,.bool p1,.int .i64 p2,.string (zad p3),.int .i64 p4,.int .i64 p5,.bool q1,.int .i64 q2,.string (zad q3),.int .i64 q4,.int .i64 q5]] W (zc6 SB W)):=Hz SP;have V1:=zaj (n:=sz) (by omega);have V2:=zaj (n:=rw) (by omega);simp only[List.length_nil] at hspl;have hspl:SB.length<=140000:=by omega
   have ha:New wr (wr.alloc (.cells #[.int .i64 (sz:Int),.int .i64 (rw:Int),.int .i64 nn,.bool bb,.bool p1,.int .i64 p2,.string (zad p3),.int .i64 p4,.int .i64 p5,.bool q1,.int .i64 q2,.string (zad q3),.int .i64 q4,.int .i64 q5] 65)):=(Below.refl _ _).alloc (Nat.le_refl _) _;have BP:=Blk.new wr 65 #[.int .i64 (sz:Int),.int .i64 (rw:Int),.int .i64 nn,.bool bb,.bool p1,.int .i64 p2,.string (zad p3),.int .i64 p4,.int .i64 p5,.bool q1,.int .i64 q2,.string (zad q3),.int .i64 q4,.int .i64 q5];have o2:=o.later ha;have g2:=g.trans (Grows.of_new ha);have hsz2:=g2.size;have N1:=Hz (zdu (N:=sz) o2 (by omega) (by omega) (by omega));obtain⟨e0,e1,e2,e3,e4,e5,e6,e7,e8,e9,e10,e11,e12,e13⟩:=zci BP;have hmq:m+140020<=100000000000000:=by omega
   clear o g ha hp3;go_wp2_with fail
   refine N1.out.mono ?_;rintro e w3 ⟨A3,n3,c3,rfl,o3,g3⟩;have BP3:=g3.blk o2 BP (by decide);have g03:=g2.trans g3;have hq3:n3<=m+10:=by have h1:=o3.len;have h2:=o2.len;rw[zaa,List.length_append] at h1;rw[zaa] at h2;omega
   have hsz3:=g03.size;have N2:=Hz (zdu (N:=rw) o3 (by omega) (by omega) (by omega));clear N1 o2 g2 g3 BP e0 e1 e2 e3 e4 e5 e6 e7 e8 e9 e10 e11 e12 e13 d0 d1 d2 d3 d4 d5 d6 d7 d8 d9 d10 d11 d12 d13;obtain⟨e0,e1,e2,e3,e4,e5,e6,e7,e8,e9,e10,e11,e12,e13⟩:=zci BP3;go_wp2_with fail
   refine N2.out.mono ?_;rintro e w4 ⟨A4,n4,c4,rfl,o4,g4⟩;have BP4:=g4.blk o3 BP3 (by decide);have g04:=g03.trans g4;have hq4:n4<=m+20:=by have h1:=o4.len;have h2:=o3.len;rw[zaa,List.length_append] at h1;rw[zaa] at h2;omega
   have hsz4:=g04.size;clear N2 o3 g03 g4 BP3 e0 e1 e2 e3 e4 e5 e6 e7 e8 e9 e10 e11 e12 e13;obtain⟨e0,e1,e2,e3,e4,e5,e6,e7,e8,e9,e10,e11,e12,e13⟩:=zci BP4;go_wp2_with fail
   refine(SP.out _).mono ?_;rintro e w5 ⟨A5,n5,c5,rfl,k5,b5⟩;have hq5:n5<=140000:=by have:=k5.len;rw[zaa] at this;omega
   have o5:=o4.later b5;have g05:=g04.trans (Grows.of_new b5);have hsz5:=g05.size;have bb5:Below base w w5:=g05.below HO.out (Below.refl _ _) (Nat.le_refl _) hb;clear SP o4 g04 BP4 e0 e1 e2 e3 e4 e5 e6 e7 e8 e9 e10 e11 e12 e13 b5
   go_wp2_with (refine zas elB rfl (.tmp 27) (.tmp 31) rfl (W:=w) (B:=base) o5 k5.reads rfl rfl bb5 (Nat.le_refl _) (by omega) (by omega) (by simp only[maxLen];omega) ?_
                intro A6 c6 w6 _ _ o6 g6 b6 d6)
   go_roundw
   case rel=>exact⟨k+1,A6,_,c6,by omega,by go_num,rfl,by rw[HPL.out];simpa using o6,g05.trans ⟨g6,d6⟩,b6⟩
   case measure=>simp[intOf];omega
  ·obtain rfl:k=ps.length:=by omega
   rw[List.take_length] at o;have HO2:=Hz o;clear o;go_wp2_with fail
   go_ret
   refine⟨_,_,_,rfl,?_,g⟩;have:=HO2.out;rw[List.append_assoc] at this;exact this
end Go.Proofs.Y
