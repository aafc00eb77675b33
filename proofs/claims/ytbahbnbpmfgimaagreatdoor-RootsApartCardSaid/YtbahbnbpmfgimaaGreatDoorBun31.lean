/- Merged. -/
import Derived.Test.YtbahbnbpmfgimaaGreatDoorBun28
set_option maxHeartbeats 4000000
namespace Go.Proofs.Y
open Go.RowKit Go.Hm
theorem zpo{m:Int}{rows:Int}(hrm:rows<=m)(hm:m<=9223372036854775807):∀(cs:List zbc) (ls:List (List za2)) (r:List Nat),ls.length=cs.length->
 (∀i,i<cs.length->zef (cs.getD i ([],0,false)).2.1 (cs.getD i ([],0,false)).2.2 (ls.getD i []) rows)->(∀l∈ls,∀p∈l,statData p.2.2)->(zca cs ls).length+r.length<=140737488351232->
 zbi m cs (some (zca cs ls++r))=(ls,some r)
 | [],[],r,_,_,_,_=>rfl
 | [],l::ls,_,h,_,_,_=>by simp at h
 |c::cs,[],_,h,_,_,_=>by simp at h
 |c::cs,l::ls,r,hlen,hok,hd,hr=>by
  simp only[zca,List.length_append] at hr;have h0:=hok 0 (by simp);simp only[List.getD_cons_zero] at h0;simp only[zca,List.append_assoc,zbi];rw[z3d h0 hrm hm (hd l (by simp)) (by rw[List.length_append];omega)];dsimp only;rw[zpo hrm hm cs ls r (by simpa using hlen) (fun i hi=>by have:=hok (i+1) (by simp;omega);simpa using this) (fun l' hl'=>hd l' (by simp[hl'])) (by omega)]
noncomputable def zdi(k:Int->Int)(cols:List zbc)(m:Int)(S:St):za1 × St:=
 ((((lenS m S).1:Int),(zbi (k ((lenS m S).1:Int)) cols (lenS m S).2).1),(zbi (k ((lenS m S).1:Int)) cols (lenS m S).2).2)
noncomputable def zbj(k:Int->Int)(cols:List zbc)(m:Int):Nat->St->List za1 × St
 |0,S=>([],S)
 |_+1,none=>([],none)
 |n+1,some l=>((zdi k cols m (some l)).1::(zbj k cols m n (zdi k cols m (some l)).2).1,(zbj k cols m n (zdi k cols m (some l)).2).2)
theorem zvw{k:Int->Int}{cols:List zbc}{m:Int}{S:St}(h:S.ok):(zdi k cols m S).2.ok:=zrp _ (zbz h)
theorem zyl{k:Int->Int}{cols:List zbc}{m:Int}{S:St}:∀l∈(zdi k cols m S).1.2,∀p∈l,statData p.2.2:=zm5 _ _
theorem zm7(k:Int->Int)(cols:List zbc)(m:Int)(n:Nat):zbj k cols m n none=([],none):=by cases n<;> rfl
theorem ziv{k:Int->Int}{cols:List zbc}{m:Int}:∀(n:Nat) (S:St),∀g∈(zbj k cols m n S).1,∀l∈g.2,∀p∈l,statData p.2.2
 |0,_,g,hg=>by simp[zbj] at hg
 |_+1,none,g,hg=>by simp[zbj] at hg
 |n+1,some b,g,hg=>by
  simp only[zbj,List.mem_cons] at hg;rcases hg with rfl|hg
  ·exact zyl
  ·exact ziv n _ g hg
theorem zym{k:Int->Int}{cols:List zbc}{m:Int}{S:St}{g:za1}{r:List Nat}(hS:S.ok)(h:zdi k cols m S=(g,some r)):S=some (zc3 cols g++r):=by
 unfold zdi at h;obtain⟨N,S1,e⟩:∃N S1,lenS m S=(N,S1):=⟨_,_,rfl⟩;have hS1:S1.ok:=by have:=zbz (m:=m) hS;rwa[e] at this
 rw[e] at h;dsimp only at h;simp only[Prod.mk.injEq] at h;obtain⟨rfl,h2⟩:=h;have e1:=zm6 cols hS1 (show zbi (k (N:Int)) cols S1=((zbi (k (N:Int)) cols S1).1,some r) by rw[<-h2]);rw[(zhb hS (show lenS m S=(N,some _) by rw[e,<-e1])).1];simp[zc3]
theorem zm8{k:Int->Int}{cols:List zbc}{m:Int}:∀(n:Nat) {S:St} {gs:List za1} {r:List Nat},S.ok->zbj k cols m n S=(gs,some r)->S=some (gs.flatMap (zc3 cols)++r)/\gs.length=n
 |0,S,gs,r,_,h=>by
  simp only[zbj,Prod.mk.injEq] at h;obtain⟨rfl,rfl⟩:=h;exact⟨rfl,rfl⟩
 |n+1,none,gs,r,_,h=>by
  simp only[zbj,Prod.mk.injEq] at h;cases h.2
 |n+1,some b,gs,r,hS,h=>by
  simp only[zbj,Prod.mk.injEq] at h;obtain⟨rfl,h2⟩:=h;obtain⟨e1,e2⟩:=zm8 n (S:=(zdi k cols m (some b)).2) (zvw hS) (show zbj k cols m n (zdi k cols m (some b)).2=((zbj k cols m n (zdi k cols m (some b)).2).1,some r) by rw[<-h2]);have e3:=zym hS (show zdi k cols m (some b)=((zdi k cols m (some b)).1,some _) by rw[<-e1]);refine⟨?_,by rw[List.length_cons,e2]⟩;rw[List.flatMap_cons,List.append_assoc];exact e3
theorem z3e{k:Int->Int}(hk:∀r,0<=r->r<=65536->r<=k r/\k r<=65536){cols:List zbc}{m:Int}{g:za1}{r:List Nat}(h:GroupOk cols g)(hgm:g.1<=m)(hm:m<=65536)(hd:∀l∈g.2,∀p∈l,statData p.2.2)
 (hr:(zc3 cols g).length+r.length<=140737488351232):zdi k cols m (some (zc3 cols g++r))=(g,some r):=by
 obtain⟨h1,h2,h3⟩:=h;obtain⟨rows,ls⟩:=g;dsimp only at h1 h2 h3 hgm hd;obtain⟨n,rfl⟩:=Int.eq_ofNat_of_zero_le (show 0<=rows by omega);have hkn:=hk (n:Int) (by omega) (by omega);unfold zc3 at hr⊢;simp only[Int.toNat_natCast,List.length_append] at hr⊢;unfold zdi;rw[List.append_assoc,zdv n _ hgm (by omega)];dsimp only;rw[zpo hkn.1 (by omega) cols ls r h2 h3 hd (by omega)]
theorem zpp{k:Int->Int}(hk:∀r,0<=r->r<=65536->r<=k r/\k r<=65536){cols:List zbc}{m:Int}(hm:m<=65536):∀(gs:List za1) (r:List Nat),(∀g∈gs,GroupOk cols g/\g.1<=m/\ ∀l∈g.2,∀p∈l,statData p.2.2)->
 (gs.flatMap (zc3 cols)).length+r.length<=140737488351232->zbj k cols m gs.length (some (gs.flatMap (zc3 cols)++r))=(gs,some r)
 | [],r,_,_=>rfl
 |g::gs,r,h,hr=>by
  obtain⟨a,b,c⟩:=h g (by simp);rw[List.flatMap_cons,List.length_append] at hr;rw[List.flatMap_cons,List.append_assoc,List.length_cons];simp only[zbj];rw[z3e hk a b hm c (by rw[List.length_append];omega)];dsimp only;rw[zpp hk hm gs r (fun q hq=>h q (by simp[hq])) (by omega)]
structure IsFoot(b:List Nat)(o:Option FootS):Prop where
 sound:∀F,o=some F->zbq F/\zfa F/\zev F=b
 compl:∀F,zbq F->zfa F->zev F=b->o=some F
theorem IsFoot.uniq{b:List Nat}{o p:Option FootS}(h:IsFoot b o)(k:IsFoot b p):o=p:=by
 cases o with
 |some F=>obtain⟨a,b,c⟩:=h.sound F rfl;exact(k.compl F a b c).symm
 |none=>
  cases p with
  |none=>rfl
  |some F=>obtain⟨a,b,c⟩:=k.sound F rfl;exact h.compl F a b c
noncomputable def zpq(b:List Nat):List zbc × St:=getC (some b)
noncomputable def zmf(b:List Nat):Nat × St:=lenS 65536 (zpq b).2
noncomputable def zto(k:Int->Int)(b:List Nat):List za1 × St:=
 zbj k (zpq b).1 (k ((zmf b).1:Int)) (lenS (k ((zmf b).1:Int)) (zmf b).2).1 (lenS (k ((zmf b).1:Int)) (zmf b).2).2
open Classical in
noncomputable def znd(k:Int->Int)(b:List Nat):Option FootS:=
 if(zto k b).2=some []/\zbq ⟨(zpq b).1,((zmf b).1:Int),(zto k b).1⟩ then some ⟨(zpq b).1,((zmf b).1:Int),(zto k b).1⟩ else none
theorem zns{cols:List zbc}:∀{gs:List za1},(∀g∈gs,GroupOk cols g)->(gs.length:Int)<=(gs.map (·.1)).sum/\ ∀g∈gs,g.1<=(gs.map (·.1)).sum
 | [],_=>by simp
 |g::gs,h=>by
  have ih:=zns (gs:=gs) fun q hq=>h q (by simp[hq])
  have h1:=(h g (by simp)).1;rw[List.map_cons,List.sum_cons,List.length_cons];refine⟨by omega,fun q hq=>?_⟩;rcases List.mem_cons.1 hq with rfl|hq
  ·omega
  ·have:=ih.2 q hq
   omega
theorem qc4{k:Int->Int}(hk:∀r,0<=r->r<=65536->r<=k r/\k r<=65536){b:List Nat}(h8:∀x∈b,x<256)(hb:b.length<=140737488351232):IsFoot b (znd k b):=by
 constructor
 ·intro F hF
  unfold znd at hF;split at hF
  ·rename_i hc
   obtain⟨hc1,hc2⟩:=hc;injection hF with hF;subst hF;have hS0:St.ok (some b):=St.ok_some h8;refine⟨hc2,⟨?_,fun g hg=>ziv _ _ g hg⟩,?_⟩
   ·intro c hcc z hz
    have hC2:∃r,(zpq b).2=some r:=by
     cases h2:(zpq b).2 with
     |some r=>exact⟨r,rfl⟩
     |none=>
      exfalso;unfold zto zmf at hc1;rw[h2,zuo] at hc1;dsimp only at hc1;rw[zuo] at hc1;dsimp only at hc1;rw[zm7] at hc1;cases hc1
    obtain⟨r,hr⟩:=hC2;obtain⟨_,e⟩:=zha hS0 (show getC (some b)=((zpq b).1,some r) by rw[<-hr];rfl);injection e with e;refine h8 z ?_;rw[e,List.append_assoc];refine List.mem_append_right _ (List.mem_append_left _ ?_);refine List.mem_flatMap.2 ⟨c,hcc,?_⟩;simp only[z26,List.mem_append];exact .inl (.inr hz)
   ·obtain⟨C,SC,eC⟩:∃C SC,zpq b=(C,SC):=⟨_,_,rfl⟩
    obtain⟨N,SN,eN⟩:∃N SN,zmf b=(N,SN):=⟨_,_,rfl⟩;obtain⟨n,Sn,en⟩:∃n Sn,lenS (k (N:Int)) SN=(n,Sn):=⟨_,_,rfl⟩;obtain⟨gs,SG,eG⟩:∃gs SG,zto k b=(gs,SG):=⟨_,_,rfl⟩;rw[eG] at hc1;dsimp only at hc1;subst hc1;rw[eC,eN,eG];unfold zto at eG;rw[eC,eN] at eG;dsimp only at eG;rw[en] at eG;dsimp only at eG;unfold zmf at eN;rw[eC] at eN;dsimp only at eN;have ok1:SC.ok:=by
     cases SC with
     |none=>exact St.ok_none
     |some r=>
      obtain⟨_,e⟩:=zha hS0 (show getC (some b)=(C,some r) from eC);injection e with e;exact St.ok_some fun x hx=>h8 x (by rw[e];simp[hx])
    have ok2:SN.ok:=by have:=zbz (m:=65536) ok1;rwa[eN] at this
    have ok3:Sn.ok:=by have:=zbz (m:=k (N:Int)) ok2;rwa[en] at this
    obtain⟨e3,hl⟩:=zm8 n ok3 eG;subst e3;have e4:=(zhb ok2 en).1;subst e4;have e5:=(zhb ok1 eN).1;subst e5;obtain⟨hck,e⟩:=zha hS0 (show getC (some b)=(C,some _) from eC);injection e with e;unfold zev putC;dsimp only;rw[if_pos hck,e,hl];simp
  ·cases hF
 ·intro F h1 h2 h3
  obtain⟨cols,rows,gs⟩:=F;obtain⟨a1,a2,a3,a4,a5⟩:=h1;obtain⟨d1,d2⟩:=h2;dsimp only at a1 a2 a3 a4 a5 d1 d2;obtain⟨r1,r2⟩:=zns a2;have hck:=(zek cols).2 a1;obtain⟨N,rfl⟩:=Int.eq_ofNat_of_zero_le (show 0<=rows by omega);have hkN:=hk (N:Int) (by omega) a4;have hb2:b=vp cols.length++zkd cols++(vp N++(vp gs.length++(gs.flatMap (zc3 cols)++[]))):=by rw[<-h3];unfold zev putC;dsimp only;rw[if_pos hck];simp
  have hbl:=congrArg List.length hb2;simp only[List.length_append] at hbl;have eC:zpq b=(cols,some (vp N++(vp gs.length++(gs.flatMap (zc3 cols)++[])))):=by unfold zpq;rw[hb2];exact qc3 cols _ hck
  have eN:zmf b=(N,some (vp gs.length++(gs.flatMap (zc3 cols)++[]))):=by unfold zmf;rw[eC];exact zdv N _ (by omega) (by omega)
  have en:lenS (k (N:Int)) (some (vp gs.length++(gs.flatMap (zc3 cols)++[])))=(gs.length,some (gs.flatMap (zc3 cols)++[])):=zdv _ _ (by omega) (by omega);have eG:zto k b=(gs,some []):=by unfold zto;rw[eC,eN];dsimp only;rw[en];dsimp only;exact zpp hk (by omega) gs [] (fun g hg=>⟨a2 g hg,by have:=r2 g hg;omega,d2 g hg⟩) (by omega)
  unfold znd;rw[eC,eN,eG];rw[if_pos ⟨rfl,a1,a2,a3,a4,a5⟩]
end Go.Proofs.Y
namespace Go.Hm
open Go Go.RowKit
def Grows(w w':World)(v v':Value):Prop:=w.grownBy w' v.ownBlock/\(v'.ownBlock=v.ownBlock\/ ∃g,v'.ownBlock=some g/\w.heap.size<=g)
theorem Grows.trans{a b c:World}{u v x:Value}(h:Grows a b u v)(k:Grows b c v x):Grows a c u x:=by
 obtain⟨h1,h2⟩:=h;obtain⟨k1,k2⟩:=k;refine⟨⟨k1.os.trans h1.os,k1.tape.trans h1.tape,k1.output.trans h1.output,Nat.le_trans h1.size k1.size,fun i hi hne=>?_⟩,?_⟩
 ·refine(k1.block i (Nat.lt_of_lt_of_le hi h1.size) fun e=>?_).trans (h1.block i hi hne)
  rcases h2 with h2|⟨g,h2,hg⟩
  ·rw[h2] at e;exact hne e
  ·rw[h2] at e;injection e with e;omega
 ·rcases k2 with k2|⟨g,k2,hg⟩
  ·rw[k2];exact h2
  ·exact .inr ⟨g,k2,Nat.le_trans h1.size hg⟩
theorem zdc{w w':World}{row:Option Nat}(h:New w w'):w.grownBy w' row:=⟨h.os,h.tape,h.output,h.size,fun k hk _=>h.block k hk⟩
theorem Grows.of_new{w w':World}{v:Value}(h:New w w'):Grows w w' v v:=⟨zdc h,.inl rfl⟩
theorem Grows.size{w w':World}{v v':Value}(h:Grows w w' v v'):w.heap.size<=w'.heap.size:=h.1.size
theorem Grows.blk{w w':World}{v v':Value}{g:Nat}{t e:TypeId}{cs:Array Value}{base:Nat}{xs:List Value}(h:Grows w w' v v')(o:Own w base e v xs)(B:Blk w g t cs)(hne:e≠t):Blk w' g t cs:=
 B.grown h.1 (fun he=>o.blk_ne B hne he.symm)
theorem Grows.below{w0 w w':World}{v v':Value}{base B:Nat}{e:TypeId}{xs:List Value}(h:Grows w w' v v')(o:Own w base e v xs)(b:Below B w0 w)(hB:B<=base)(hBw:B<=w.heap.size):Below B w0 w':=by refine b.trans ⟨h.1.os,h.1.tape,h.1.output,h.1.size,fun k hk=>h.1.block k (by omega) fun he=>?_⟩;have:=(o.lt k he.symm).1;omega
end Go.Hm
namespace Go.Proofs.Y
open Go.RowKit Go.Hm
def z85(base:Nat)(v:Value)(l:List Nat)(w:World)(e:Ending)(w':World):Prop:=
 ∃A n c,e= .returned (.slice A n c)/\Go.Hm.Own w' base 5 (.slice A n c) (zao .u8 l)/\Grows w w' v (.slice A n c)
set_option maxRecDepth 100000 in
theorem zdz{w:World}{base n c N:Nat}{A:Option Addr}{l:List Nat}(o:Go.Hm.Own w base 5 (.slice A n c) (zao .u8 l))(hb:base<=w.heap.size)(hn:n<=100000000000000)(hN:N<=9223372036854775807):
 Calls Tryz.prog 89 #[.slice A n c,.int .i64 (N:Int)] w (z85 base (.slice A n c) (l++vp N) w):=by
 have P:=Hz (zc0 none 0 0 [] N w Reads.none_ (by omega) (by omega));have V:=zap (n:=N) (by omega);have hw:IntKind.u64.wrap (N:Int)=(N:Int):=by rw[IntKind.wrap_u64];omega
 have HO:=Hz o;clear o;go_enter Tryz.func89,Tryz.ntmps89
 go_wp2_with fail
 refine P.out.mono ?_;rintro e w1 ⟨A2,n2,c2,rfl,k2,b2⟩;rw[List.nil_append] at k2;have hq:n2<=10:=by have:=k2.len;rw[zaa] at this;omega
 have o1:=HO.out.later b2;have hz:=b2.size
 go_wp2_with (refine zam elB rfl (.tmp 5) (.tmp 8) rfl (W:=w) (B:=base) o1 k2.reads rfl rfl (Below.mono b2 hb) (Nat.le_refl _) (by omega) (by omega) (by simp only[maxLen];omega) ?_
              intro A5 c5 w5 _ _ o5 g5 _ d5)
 go_ret
 exact⟨_,_,_,rfl,o5,(Grows.of_new b2).trans ⟨g5,d5⟩⟩
theorem zv9{t:Int}{p:za2}(h1:p.1.toNat<18446744073709551616)(h2:p.2.1.toNat<18446744073709551616):(zfq t p).length<=140020:=by have a:=zap (n:=p.1.toNat) h1;have b:=zap (n:=p.2.1.toNat) h2;have c:=z0e (l:=[]) (t:=t) (s:=p.2.2);unfold zfq;simp only[List.length_append,List.length_nil] at c⊢;omega
theorem zmk{t:Int}:∀l:List za2,(∀p∈l,p.1.toNat<18446744073709551616/\p.2.1.toNat<18446744073709551616)->(l.flatMap (zfq t)).length<=l.length*140020
 | [],_=>by simp
 |p::l,h=>by
  have a:=zv9 (t:=t) (h p (by simp)).1 (h p (by simp)).2;have b:=zmk (t:=t) l fun q hq=>h q (by simp[hq])
  rw[List.flatMap_cons,List.length_append,List.length_cons];omega
def zyx(p:za2):Prop:=(0<=p.1/\p.1<=9223372036854775807)/\(0<=p.2.1/\p.2.1<=9223372036854775807)/\statData p.2.2
set_option maxRecDepth 100000 in
theorem zwa{w:World}{base n c np cp:Nat}{A Ap:Option Addr}{t:Int}{l:List Nat}{ps:List za2}(o:Go.Hm.Own w base 5 (.slice A n c) (zao .u8 l))(hb:base<=w.heap.size)(h:Reads w base 14 Ap np (recs zg7 ps))(hp:∀p∈ps,zyx p)
 (hn:n+10+np*140020<=100000000000000):
 Calls Tryz.prog 90 #[.slice A n c,.int .i64 t,.slice Ap np cp] w (z85 base (.slice A n c) (l++zgq t ps) w):=by
 obtain rfl:=h.lenPage;have hln:l.length=n:=by have:=o.len;rw[zaa] at this;exact this.symm
 have V:=zap (n:=ps.length) (by omega);have PN:=Hz (zdz (N:=ps.length) o hb (by omega) (by omega));have hfl:=fun k=>zmk (t:=t) (ps.take k) (fun p hpm=>by have:=hp p (List.mem_of_mem_take hpm);have h1:=this.1;have h2:=this.2.1;omega)
 have HF:=Hz (fun k=>by have:=hfl k;rw[List.length_take] at this;exact this);have HR:=Hz h;have HP:=Hz hp;have HO:=Hz o;have HLN:=Hz hln;clear h hp o hln hfl;go_enter Tryz.func90,Tryz.ntmps90
 go_wp2_with fail
 refine PN.out.mono ?_;rintro e w1 ⟨A1,n1,c1,rfl,o1,g1⟩;have hb1:=g1.size;have b1:Below base w w1:=g1.below HO.out (Below.refl _ _) (Nat.le_refl _) hb;clear PN;go_wp2_with fail
 go_loopw [0,15] (fun v i wr=>∃(k:Nat) (B:Option Addr) (m d:Nat),k<=ps.length/\i= .int .i64 (k:Int)/\v= .slice B m d/\Go.Hm.Own wr base 5 (.slice B m d) (zao .u8 (l++vp ps.length++(ps.take k).flatMap (zfq t)))/\Grows w wr (.slice A n c) (.slice B m d)/\Below base w wr) (fun _ i _=>ps.length-(intOf i).toNat)
 case atStart=>exact⟨0,A1,n1,c1,Nat.zero_le _,rfl,rfl,by simpa using o1,g1,b1⟩
 case round=>
  obtain⟨k,B,m,d,hk,rfl,rfl,o,g,b⟩:=hrel;clear o1 g1 b1 hb1;have hml:m<=n+10+k*140020:=by have h1:=o.len;rw[zaa,List.length_append,List.length_append] at h1;have h2:=HF.out k;have h3:=HLN.out;omega
  have hsz:=g.size;by_cases hlt:k<ps.length
  ·obtain⟨ad,rfl,hbd,d0,d1,d2,d3,d4,d5,d6,d7,d8,d9,d10,d11,d12,d13⟩:=(HR.out.below b).page14 hlt
   have htk:=zac ps k zbr hlt;have hpn:=HP.out _ (zai zbr hlt);have hpl:(ps.take (k+1)).flatMap (zfq t)=(ps.take k).flatMap (zfq t)++zfq t (ps.getD k zbr):=by rw[htk,List.flatMap_append];simp
   rw[show zfq t (ps.getD k zbr)=vp (ps.getD k zbr).1.toNat++vp (ps.getD k zbr).2.1.toNat++Go.Hm.putS [] t (ps.getD k zbr).2.2 from rfl] at hpl;have HPL:=Hz hpl;clear htk hpl hbd;generalize ps.getD k zbr=p at*;obtain⟨hp1,hp2,hp3⟩:=hpn;have SP:=fun(W:World)=>z7n (w:=W) (c:=0) (t:=t) (l:=[]) (n:=0) (A:=none) Reads.none_ (by omega) hp3
   have hspl:=z0e (l:=[]) (t:=t) (s:=p.2.2);obtain⟨szI,rwI,nn,bb,⟨p1,p2,p3,p4,p5⟩,⟨q1,q2,q3,q4,q5⟩⟩:=p;dsimp only at hp1 hp2 hp3 SP hspl HPL d0 d1 d2 d3 d4 d5 d6 d7 d8 d9 d10 d11 d12 d13;obtain⟨sz,rfl⟩:=Int.eq_ofNat_of_zero_le hp1.1;obtain⟨rw,rfl⟩:=Int.eq_ofNat_of_zero_le hp2.1;simp only[Int.toNat_natCast] at HPL;generalize Go.Hm.putS [] t (nn,bb,(p1,p2,p3,p4,p5),(q1,q2,q3,q4,q5))=SB at*;have SP:Hid (∀W,Calls Tryz.prog 113 #[.slice none 0 0,.int .i64 t,.agg #[.int .i64 nn,.bool bb,.bool p1,.int .i64 p2,.string (zad p3),.int .i64 p4,.int .i64 p5,.bool q1,.int .i64 q2,.string (zad q3),.int .i64 q4,.int .i64 q5]] W (zck SB W)):=Hz SP;have V1:=zap (n:=sz) (by omega);have V2:=zap (n:=rw) (by omega);simp only[List.length_nil] at hspl;have hspl:SB.length<=140000:=by omega
   have ha:New wr (wr.alloc (.cells #[.int .i64 (sz:Int),.int .i64 (rw:Int),.int .i64 nn,.bool bb,.bool p1,.int .i64 p2,.string (zad p3),.int .i64 p4,.int .i64 p5,.bool q1,.int .i64 q2,.string (zad q3),.int .i64 q4,.int .i64 q5] 135)):=(Below.refl _ _).alloc (Nat.le_refl _) _;have BP:=Blk.new wr 135 #[.int .i64 (sz:Int),.int .i64 (rw:Int),.int .i64 nn,.bool bb,.bool p1,.int .i64 p2,.string (zad p3),.int .i64 p4,.int .i64 p5,.bool q1,.int .i64 q2,.string (zad q3),.int .i64 q4,.int .i64 q5];have o2:=o.later ha;have g2:=g.trans (Grows.of_new ha);have hsz2:=g2.size;have N1:=Hz (zdz (N:=sz) o2 (by omega) (by omega) (by omega));obtain⟨e0,e1,e2,e3,e4,e5,e6,e7,e8,e9,e10,e11,e12,e13⟩:=zdr BP;have hmq:m+140020<=100000000000000:=by omega
   clear o g ha hp3;go_wp2_with fail
   refine N1.out.mono ?_;rintro e w3 ⟨A3,n3,c3,rfl,o3,g3⟩;have BP3:=g3.blk o2 BP (by decide);have g03:=g2.trans g3;have hq3:n3<=m+10:=by have h1:=o3.len;have h2:=o2.len;rw[zaa,List.length_append] at h1;rw[zaa] at h2;omega
   have hsz3:=g03.size;have N2:=Hz (zdz (N:=rw) o3 (by omega) (by omega) (by omega));clear N1 o2 g2 g3 BP e0 e1 e2 e3 e4 e5 e6 e7 e8 e9 e10 e11 e12 e13 d0 d1 d2 d3 d4 d5 d6 d7 d8 d9 d10 d11 d12 d13;obtain⟨e0,e1,e2,e3,e4,e5,e6,e7,e8,e9,e10,e11,e12,e13⟩:=zdr BP3;go_wp2_with fail
   refine N2.out.mono ?_;rintro e w4 ⟨A4,n4,c4,rfl,o4,g4⟩;have BP4:=g4.blk o3 BP3 (by decide);have g04:=g03.trans g4;have hq4:n4<=m+20:=by have h1:=o4.len;have h2:=o3.len;rw[zaa,List.length_append] at h1;rw[zaa] at h2;omega
   have hsz4:=g04.size;clear N2 o3 g03 g4 BP3 e0 e1 e2 e3 e4 e5 e6 e7 e8 e9 e10 e11 e12 e13;obtain⟨e0,e1,e2,e3,e4,e5,e6,e7,e8,e9,e10,e11,e12,e13⟩:=zdr BP4;go_wp2_with fail
   refine(SP.out _).mono ?_;rintro e w5 ⟨A5,n5,c5,rfl,k5,b5⟩;have hq5:n5<=140000:=by have:=k5.len;rw[zaa] at this;omega
   have o5:=o4.later b5;have g05:=g04.trans (Grows.of_new b5);have hsz5:=g05.size;have bb5:Below base w w5:=g05.below HO.out (Below.refl _ _) (Nat.le_refl _) hb;clear SP o4 g04 BP4 e0 e1 e2 e3 e4 e5 e6 e7 e8 e9 e10 e11 e12 e13 b5
   go_wp2_with (refine zam elB rfl (.tmp 27) (.tmp 31) rfl (W:=w) (B:=base) o5 k5.reads rfl rfl bb5 (Nat.le_refl _) (by omega) (by omega) (by simp only[maxLen];omega) ?_
                intro A6 c6 w6 _ _ o6 g6 b6 d6)
   go_roundw
   case rel=>exact⟨k+1,A6,_,c6,by omega,by go_num,rfl,by rw[HPL.out];simpa using o6,g05.trans ⟨g6,d6⟩,b6⟩
   case measure=>simp[intOf];omega
  ·obtain rfl:k=ps.length:=by omega
   rw[List.take_length] at o;have HO2:=Hz o;clear o;go_wp2_with fail
   go_ret
   refine⟨_,_,_,rfl,?_,g⟩;have:=HO2.out;rw[List.append_assoc] at this;exact this
end Go.Proofs.Y
namespace Go.Hm
open Go Go.RowKit
open Classical in
noncomputable def zqu(F:FootS):Option (List Nat):=if zbq F then some (zev F) else none
theorem zm9:∀(c:Nat) (cs:List zbc) (ls:List (List za2)),c<cs.length->c<ls.length->zca (cs.take (c+1)) (ls.take (c+1))=zca (cs.take c) (ls.take c)++zgq (cs.getD c zfr).2.1 (ls.getD c [])
 |0,x::cs,l::ls,_,_=>by simp[zca]
 |c+1,x::cs,l::ls,h1,h2=>by
  have:=zm9 c cs ls (by simpa using h1) (by simpa using h2);simp only[List.take_succ_cons,zca,List.getD_cons_succ] at this⊢;rw[this,List.append_assoc]
 |_,[],_,h,_=>by simp at h
 |_,_::_,[],_,h=>by simp at h
theorem zna{cols:List zbc}:∀{gs:List za1},(∀g∈gs,GroupOk cols g)->0<=(gs.map (·.1)).sum
 | [],_=>by simp
 |g::gs,h=>by
  have:=zna (gs:=gs) fun q hq=>h q (by simp[hq])
  have:=(h g (by simp)).1;rw[List.map_cons,List.sum_cons];omega
end Go.Hm
namespace Go.Proofs.Y
open Go.RowKit Go.Hm
theorem PageFine.num{p:za2}(h:PageFine p){t:Int}{nu:Bool}{m:Int}(hb:zh6 t nu p m=true):zyx p:=by have h1:=(pageB_most.1 hb).1;exact⟨by omega,⟨by omega,h.2.2.2⟩,CellFine.data h.1.1.1,CellFine.data h.1.1.2⟩
theorem qdl{L:List zbc}(h:zpi L):(putC [] L).length<=8000:=by
 unfold putC;split
 ·have h1:=z0m L (fun x hx=>(h.2.1 x hx).2.1)
  have h2:=zap (n:=L.length) (by have:=h.1;omega);have:=h.1;simp only[List.length_append,List.length_nil];omega
 ·simp
set_option maxRecDepth 100000 in
theorem zyy{w:World}{Ac:Option Addr}{cc:Nat}{L:List zbc}{r:Int}{Ag:Option Addr}{cg:Nat}{G:List GrD}(h:FootIn w Ac cc L Ag G)(hp:∀g∈G,∀x∈g.2.2.2,∀p∈x.2.2,PageFine p):
 Calls Tryz.prog 52 #[zlb Ac cc L r Ag cg G] w (OptB (zqu (zbt L r G)) w):=by
 have RT:=Hz (fun(W:World) (hW:New w W)=>zme (cg:=cg) (r:=r) (h.later hW) (fun g hg x hx p hpm=>(hp g hg x hx p hpm).stat));have HG:=Hz h.groups;have HL:=Hz h.cols;have hfew:=h.few;have hfew2:=h.few2;have hfine:=h.fine;have hcap:=h.cap;have HCH:=Hz h.chunks;have HPG:=Hz h.pages;have HP:=Hz hp;clear h hp;obtain⟨M,hM⟩:∃M,M=zqu (zbt L r G):=⟨_,rfl⟩;rw[<-hM];unfold zqu at hM;show Calls Tryz.prog 52 #[.agg #[.slice Ac L.length cc,.int .i64 r,.slice Ag G.length cg]] w (OptB M w);have B0:=Blk.new w 79 #[.slice Ac L.length cc,.int .i64 r,.slice Ag G.length cg];have b0:New w (w.alloc (.cells #[.slice Ac L.length cc,.int .i64 r,.slice Ag G.length cg] 79)):=(Below.refl _ _).alloc (Nat.le_refl _) _;obtain⟨x0,x1,x2⟩:=zan B0;by_cases hok:zbq (zbt L r G)
 ·rw[if_pos hok] at hM
  rw[zmd hok] at RT;have RT:Hid (∀W,New w W->Calls Tryz.prog 87 #[.agg #[.slice Ac L.length cc,.int .i64 r,.slice Ag G.length cg]] W (zal (.bool true) W)):=RT;have hok2:=hok;obtain⟨hcok,hgok,hsum,hr,-⟩:=hok;unfold zbt at hok2 hgok hsum hM;dsimp only[zbt] at hcok hr;dsimp only at hgok hsum;have hr0:=zna hgok;rw[hsum] at hr0;obtain⟨rN,rfl⟩:=Int.eq_ofNat_of_zero_le hr0;unfold zev at hM;dsimp only at hM;rw[Int.toNat_natCast,List.length_map] at hM;have hcl:=qdl hcok;have SPt:=Hz (fun(W:World) (hW:New w W)=>qc0 (A:=none) (n:=0) (c:=0) (b:=[]) (c2:=cc) Reads.none_ (by omega) (Reads.later HL.out hW) hfine hcap hfew);have HMap:=Hz (fun(k:Nat) (hk:k<G.length)=>zbk grP G (k:=k) grZ zak hk);have HLen:=Hz (show(G.map grP).length=G.length from List.length_map ..);have HOK:=Hz hok2;have HL64:L.length<=64:=hcok.1;have hGl:G.length<=65536:=by have:=(zns hgok).1;rw[List.length_map,hsum] at this;omega
  have HM:=Hz hM;clear hM hgok hsum hr0 hok2 hcok hfine;generalize G.map grP=GP at*;generalize putC [] L=PC at*;go_enter Tryz.func52,Tryz.ntmps52
  go_wp2_with fail
  refine(RT.out _ b0).mono ?_;rintro e w1 ⟨rfl,b1⟩;have B1:=B0.below b1 B0.lt;have b01:=New.trans b0 b1;clear B0 b0 b1 x0 x1 x2 RT;obtain⟨x0,x1,x2⟩:=zan B1;go_wp2_with fail
  refine(SPt.out _ b01).mono ?_;rintro e w2 ⟨A2,n2,c2,rfl,o2,b2⟩;have hq2:n2<=8000:=by have:=o2.len;rw[zaa] at this;omega
  have hbase:w.heap.size<=w1.heap.size:=b01.size;have B2:=B1.below b2 B1.lt;have hB1:w.heap.size<w1.heap.size:=B1.lt;have hz2:=b2.size;have N1:=Hz (zdz (N:=rN) o2 hz2 (by omega) (by omega));have VR:=zap (n:=rN) (by omega);have VG:=zap (n:=G.length) (by omega);clear SPt B1 x0 x1 x2;obtain⟨x0,x1,x2⟩:=zan B2;go_wp2_with fail
  refine N1.out.mono ?_;rintro e w3 ⟨A3,n3,c3,rfl,o3,g3⟩;have hq3:n3<=8010:=by have h1:=o3.len;have h2:=o2.len;rw[zaa,List.length_append] at h1;rw[zaa] at h2;omega
  have bb3:=g3.below o2 b2 (Nat.le_refl _) hz2;have hz3:=g3.size;have N2:=Hz (zdz (N:=G.length) o3 (by omega) (by omega) (by omega));have B3:=g3.blk o2 B2 (by decide);clear N1 o2 g3 B2 x0 x1 x2 b2;obtain⟨x0,x1,x2⟩:=zan B3;go_wp2_with fail
  refine N2.out.mono ?_;rintro e w4 ⟨A4,n4,c4,rfl,o4,g4⟩;have hq4:n4<=8020:=by have h1:=o4.len;have h2:=o3.len;rw[zaa,List.length_append] at h1;rw[zaa] at h2;omega
  have bb4:=g4.below o3 bb3 (Nat.le_refl _) (by omega);have hz4:=g4.size;have B4:=g4.blk o3 B3 (by decide);have hz14:w1.heap.size<=w4.heap.size:=by omega
  clear N2 o3 g4 B3 x0 x1 x2 bb3;obtain⟨x0,x1,x2⟩:=zan B4;go_wp2_with fail
  clear x0 x1 x2;go_loopw [4,27] (fun v i wr=>∃(k:Nat) (B:Option Addr) (m d R:Nat),k<=G.length/\i= .int .i64 (k:Int)/\v= .slice B m d/\Go.Hm.Own wr w1.heap.size 5 (.slice B m d) (zao .u8 (PC++vp rN++vp G.length++(GP.take k).flatMap (zc3 L)))
   /\(R:Int)=((GP.take k).map (·.1)).sum/\m<=9000+700*k+8961280*R/\Blk wr w.heap.size 79 #[.slice Ac L.length cc,.int .i64 (rN:Int),.slice Ag G.length cg]/\Below w1.heap.size w1 wr/\w1.heap.size<=wr.heap.size) (fun _ i _=>G.length-(intOf i).toNat)
  case atStart=>exact⟨0,A4,n4,c4,0,Nat.zero_le _,rfl,rfl,by simpa using o4,by simp,by omega,B4,bb4,hz14⟩
  case round=>
   obtain⟨k,Bv,m,d,R,hk,rfl,rfl,o,hR,hml,B,bb,hzw⟩:=hrel;clear o4 B4 bb4 hq4;have bw:New w wr:=New.trans b01 bb;by_cases hlt:k<G.length
   ·obtain⟨ad,rfl,hb,d0,d1⟩:=(Reads.later HG.out bw).gr2 hlt
    have hgm:=zai grZ hlt;have hch:=HCH.out _ hgm;have hpg:=HPG.out _ hgm;have hpp:=HP.out _ hgm;have hmap:=HMap.out k hlt;have hltP:k<GP.length:=by rw[HLen.out];exact hlt
    have hgok:=HOK.out.2.1 (GP.getD k zak) (zai zak hltP);have hrows:=zvl HOK.out hltP;have hts:=zb0 (fun g:za1=>g.1) GP k zak hltP;have hfm:(GP.take (k+1)).flatMap (zc3 L)=(GP.take k).flatMap (zc3 L)++zc3 L (GP.getD k zak):=by rw[zac GP k zak hltP,List.flatMap_append];simp
    dsimp only at hgok hrows hts;rw[hmap] at hgok hrows hts hfm;generalize G.getD k grZ=g at*;obtain⟨gI,Ach,cch,D⟩:=g;unfold grP at hgok hrows hts hfm;dsimp only at d0 d1 hch hpg hpp hgok hrows hts hfm;obtain⟨hg1,hg2,hg3⟩:=hgok;dsimp only at hg1 hg2 hg3;obtain⟨gr,rfl⟩:=Int.eq_ofNat_of_zero_le (show 0<=gI by omega);rw[List.length_map] at hg2;rw[show zc3 L ((gr:Int),D.map fun x:ChD=>x.2.2)=vp gr++zca L (D.map fun x:ChD=>x.2.2) from rfl] at hfm;have hgr:gr+R<=65536:=by omega
    have hRR:((R+gr:Nat):Int)=((GP.take (k+1)).map (·.1)).sum:=by rw[hts,<-hR];simp
    have HRR:=Hz hRR;have HFM:=Hz hfm;have HG3:=Hz hg3;have HCHk:=Hz hch.1;have HPGk:=Hz hpg;have HPPk:=Hz hpp;have hDL:D.length<=L.length:=by omega
    have HG2:=Hz hg2;clear hmap hltP hgm hb hch hpg hpp hts hrows hR hRR hfm hg3 hg2;have ha:New wr (wr.alloc (.cells #[.int .i64 (gr:Int),.slice Ach D.length cch] 114)):=(Below.refl _ _).alloc (Nat.le_refl _) _;have BG:=Blk.new wr 114 #[.int .i64 (gr:Int),.slice Ach D.length cch];have B5:=B.below ha B.lt;have o5:=o.later ha;have bb5:Below w1.heap.size w1 (wr.alloc (.cells #[.int .i64 (gr:Int),.slice Ach D.length cch] 114)):=bb.trans (Below.mono ha hzw);obtain⟨z0,z1⟩:=zbw BG;have N1:=Hz (zdz (N:=gr) o5 (by simp;omega) (by omega) (by omega));have VGr:=zap (n:=gr) (by omega);have HML:=Hz hml;have hmq:m<=700000000000:=by omega
    clear B o bb ha;go_wp2_with fail
    refine N1.out.mono ?_;rintro e w6 ⟨A6,n6,c6,rfl,o6,g6⟩;have hq6:n6<=m+10:=by have h1:=o6.len;have h2:=o5.len;rw[zaa,List.length_append] at h1;rw[zaa] at h2;omega
    have bb6:=g6.below o5 bb5 (Nat.le_refl _) (by simp;omega);have hz6:=g6.size;simp only[World.size_alloc] at hz6;have B6:=g6.blk o5 B5 (by decide);have BG6:=g6.blk o5 BG (by decide);have hz16:w1.heap.size<=w6.heap.size:=by omega
    clear N1 o5 g6 B5 BG z0 z1 bb5;obtain⟨z0,z1⟩:=zbw BG6;have hY:∃Y,Y=10+gr*140020:=⟨_,rfl⟩;obtain⟨Y,hY⟩:=hY;have HYY:=Hz hY;clear d0 d1 hY;go_wp2_with fail
    clear z0 z1 BG6;go_loopw [4,38] (fun v i wr=>∃(c:Nat) (Bq:Option Addr) (m2 d2:Nat),c<=D.length/\i= .int .i64 (c:Int)/\v= .slice Bq m2 d2
     /\Go.Hm.Own wr w1.heap.size 5 (.slice Bq m2 d2) (zao .u8 (PC++vp rN++vp G.length++(GP.take k).flatMap (zc3 L)++vp gr++zca (L.take c) ((D.map (fun x:ChD=>x.2.2)).take c)))
     /\m2<=m+10+c*Y/\Blk wr w.heap.size 79 #[.slice Ac L.length cc,.int .i64 (rN:Int),.slice (some ad) G.length cg]/\Below w1.heap.size w1 wr/\w1.heap.size<=wr.heap.size) (fun _ i _=>D.length-(intOf i).toNat)
    case atStart=>exact⟨0,A6,n6,c6,Nat.zero_le _,rfl,rfl,by simpa[zca] using o6,by omega,B6,bb6,hz16⟩
    case round=>
     obtain⟨c,Bq,m2,d2,hc,rfl,rfl,oq,hmc,Bx,bbq,hzq⟩:=hrel;clear o6 hq6 B6 bb6 hz16 hz6;have bq:New w wr:=New.trans b01 bbq;have hcY:c*Y<=64*Y:=Nat.mul_le_mul_right _ (by omega);have hYv:=HYY.out;have hm2q:m2<=90000000000000:=by omega
     by_cases hlc:c<D.length
     ·have hcL:c<L.length:=by omega
      obtain⟨ac,rfl,hbc,e0⟩:=(Reads.later HCHk.out bq).ch1 hlc;obtain⟨al,rfl,hbl,f0,f1,f2⟩:=(Reads.later HL.out bq).colT hcL;have hxm:=zai chZ hlc;have hpx:=HPGk.out _ hxm;have hsx:=HPPk.out _ hxm;have hco:=HG3.out c hcL;have hsn:=zm9 c L (D.map fun x:ChD=>x.2.2) hcL (by rw[List.length_map];exact hlc);rw[zbk (fun x:ChD=>x.2.2) D chZ [] hlc] at hco hsn;generalize D.getD c chZ=x at*;obtain⟨Ax,cx,pl⟩:=x;dsimp only at e0 hpx hsx hco hsn;have hpn:∀p∈pl,zyx p:=fun p hpm=>(hsx p hpm).num (hco.1 p hpm)
      have hpl:=zfe hco.1;have hcr:=hco.2;have hnp:pl.length<=gr:=by omega
      have rP:Reads wr w1.heap.size 14 Ax pl.length (recs zg7 pl):=(hpx.1.below bq).more hbase;generalize L.getD c zfr=col at*;obtain⟨nm,t,nu⟩:=col;dsimp only at f0 f1 f2 hsn;have hnp2:pl.length<=65536:=by omega
      have hnn:m2+10+pl.length*140020<=100000000000000:=by clear hcY hmc;omega
      have PPG:=Hz (zwa (t:=t) (cp:=cx) oq hzq rP hpn hnn);have hlch:(zgq t pl).length<=10+pl.length*140020:=by
       have h1:=zmk (t:=t) pl (fun p hpm=>by have:=hpn p hpm;have h1:=this.1;have h2:=this.2.1;omega)
       have h2:=zap (n:=pl.length) (by omega);unfold zgq;rw[List.length_append];omega
      have hchY:(zgq t pl).length<=Y:=by omega
      have HSN:=Hz hsn;obtain⟨x0,x1,x2⟩:=zan Bx;clear hsn hco hcr hpl hpn hpx hsx hxm hbc hbl rP hlch hYv;go_wp2_with fail
      refine PPG.out.mono ?_;rintro e w7 ⟨A7,n7,c7,rfl,o7,g7⟩;have hq7:n7<=m2+Y:=by have h1:=o7.len;have h2:=oq.len;rw[zaa,List.length_append] at h1;rw[zaa] at h2;omega
      have bb7:=g7.below oq bbq (Nat.le_refl _) hzq;have hz7:=g7.size;have B7:=g7.blk oq Bx (by decide);have hsm:(c+1)*Y=c*Y+Y:=Nat.succ_mul c Y;have o7:Go.Hm.Own w7 w1.heap.size 5 (.slice A7 n7 c7) (zao .u8 (PC++vp rN++vp G.length++(GP.take k).flatMap (zc3 L)++vp gr++zca (L.take (c+1)) ((D.map (fun x:ChD=>x.2.2)).take (c+1)))):=by rw[HSN.out];simpa using o7
      have hq8:n7<=m+10+(c+1)*Y:=by omega
      have hz8:w1.heap.size<=w7.heap.size:=by omega
      clear PPG oq g7 Bx x0 x1 x2 hsm hq7 hmc;go_wp2_with fail
      go_roundw
      case rel=>exact⟨c+1,A7,n7,c7,by omega,by go_num,rfl,o7,hq8,B7,bb7,hz8⟩
      case measure=>simp[intOf];omega
     ·obtain rfl:c=D.length:=by omega
      have hfin:PC++vp rN++vp G.length++(GP.take k).flatMap (zc3 L)++vp gr++zca (L.take D.length) ((D.map (fun x:ChD=>x.2.2)).take D.length)=PC++vp rN++vp G.length++(GP.take (k+1)).flatMap (zc3 L):=by rw[HFM.out,HG2.out,List.take_length,show(D.map fun x:ChD=>x.2.2).take L.length=D.map fun x:ChD=>x.2.2 from List.take_of_length_le (by rw[List.length_map,HG2.out];exact Nat.le_refl _)];simp
      rw[hfin] at oq;have hml2:m2<=9000+700*(k+1)+8961280*(R+gr):=by have:=HML.out;omega
      clear hfin hmc;go_wp2_with fail
      go_roundw
      case rel=>exact⟨k+1,Bq,m2,d2,R+gr,by omega,by go_num,rfl,oq,HRR.out,hml2,Bx,bbq,hzq⟩
      case measure=>simp[intOf];omega
   ·obtain rfl:k=G.length:=by omega
    have HO2:=Hz o;clear o hR;go_wp2_with fail
    go_ret2
    rw[HM.out];have:=HO2.out;rw[<-HLen.out,List.take_length,HLen.out] at this;exact⟨_,_,_,rfl,this.base_le hbase,bw⟩
 ·rw[if_neg hok] at hM
  rw[zpj hok] at RT;have RT:Hid (∀W,New w W->Calls Tryz.prog 87 #[.agg #[.slice Ac L.length cc,.int .i64 r,.slice Ag G.length cg]] W (zal (.bool false) W)):=RT;have HM:=Hz hM;clear hM hok;go_enter Tryz.func52,Tryz.ntmps52
  go_wp2_with fail
  refine(RT.out _ b0).mono ?_;rintro e w1 ⟨rfl,b1⟩;go_wp2_with fail
  go_ret2
  rw[HM.out];exact⟨rfl,New.trans b0 b1⟩
end Go.Proofs.Y
