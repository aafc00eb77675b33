/- Texts merged and made short: RunE, RunA, StaD, StaP, LayC, FooM, SchN, PicR. -/
import Derived.BigQuiet
import Derived.Deep.QuietTactic
import Derived.Outline
import Derived.Shelf.Abstract
import Derived.Test.YtmgfkpnghlmheaaGreatBun1
import Derived.Test.YtmgfkpnghlmheaaGreatBun10
import Derived.Test.YtmgfkpnghlmheaaGreatBun11
import Derived.Test.YtmgfkpnghlmheaaGreatBun12
import Derived.Test.YtmgfkpnghlmheaaGreatBun15
import Derived.Test.YtmgfkpnghlmheaaGreatBun3
import Derived.Test.YtmgfkpnghlmheaaGreatBun4
import Derived.Test.YtmgfkpnghlmheaaGreatBun5
import Derived.Test.YtmgfkpnghlmheaaGreatBun8
import Derived.Test.YtmgfkpnghlmheaaGreatBun9
set_option maxHeartbeats 4000000
namespace Go.Proofs.YtmgfkpnghlmheaaGreat
open Go.RowKit Go.Hm
def encP(p:List Nat):List Nat:=
 if 4≤st p then vp (2*p.length)++vp (p.getD 0 0) else vp (2*p.length+1)++(wid p::low (pk (wid p) p) ((wid p*p.length+7)/8))
def encL(l:List Nat):List Nat:=(pcs l).flatMap encP
def rpS(most:Nat)(S:St):List Nat × St:=
 let h:=lenS (2*(most:Int)+1) S
 if h.1%2=1 then
  let b:=zbc h.2
  let x:=zbv (nby (b.1:Int) ((h.1/2:Nat):Int)) b.2
  match zbg x.1 (b.1:Int) ((h.1/2:Nat):Int) with
  |some l=>(l,x.2)
  |none=>([],none)
 else
  let g:=zh3 h.2
  (List.replicate (h.1/2) g.1,g.2)
theorem zlf{l:List Nat}(h:∀x∈l,x≤18446744073709551615){p:List Nat}(hp:p∈pcs l):(∀x∈p,x≤18446744073709551615)∧p.length≤l.length:=by
 have hf:=zkk l;refine⟨fun x hx=>h x (by rw[←hf];exact List.mem_flatten.2 ⟨p,hp,hx⟩),?_⟩;rw[←hf];obtain⟨a,b,e⟩:=List.append_of_mem hp;rw[e,List.flatten_append,List.flatten_cons,List.length_append,List.length_append];omega
theorem qfj{p:List Nat}(hk:zn7 p)(hw:∀x∈p,x≤18446744073709551615)(hl:p.length≤65536){most:Nat}(hm:p.length≤most)(hmm:most≤65536)(r:List Nat):rpS most (some (encP p++r))=(p,some r):=by
 unfold encP;by_cases h4:4≤st p
 ·rw[if_pos h4,List.append_assoc]
  have hx:p.getD 0 0≤18446744073709551615:=by
   have h0:=hk.1;rw[List.getD_eq_getElem?_getD,List.getElem?_eq_getElem h0];exact hw _ (List.getElem_mem h0)
  have e:=qfh (hk.2 h4);unfold rpS;rw[zb2 (2*p.length) _ (by omega) (by omega)];dsimp only;rw[if_neg (by omega),ziz _ _ (by omega)];dsimp only;rw[show 2*p.length/2=p.length by omega,←e]
 ·rw[if_neg h4,List.append_assoc]
  have hw64:=zjg p hw;unfold rpS;rw[zb2 (2*p.length+1) _ (by omega) (by omega)];dsimp only;rw[if_pos (by omega),show(2*p.length+1)/2=p.length by omega];rw[List.cons_append];simp only[zbc];rw[znq (wid p) p.length hw64 hl];have hlen:(low (pk (wid p) p) ((wid p*p.length+7)/8)).length=(wid p*p.length+7)/8:=zbh _ _;have ht:=zdf (low (pk (wid p) p) ((wid p*p.length+7)/8)) r;rw[hlen] at ht;rw[ht];dsimp only;rw[zhm p (wid p) hw64 hl (Nat.le_refl _) hw]
theorem qfk(most:Nat)(S:St)(hS:S.ok):(rpS most S).1.length≤most:=by
 have h1:=zb0 (m:=2*(most:Int)+1) S (by omega) hS;unfold rpS;dsimp only;split
 ·split
  ·rename_i l hl
   unfold zbg at hl;split at hl
   ·injection hl with hl
    subst hl;rw[zd6];omega
   ·cases hl
  ·simp
 ·simp
  omega
theorem zy8(p:List Nat):0<(encP p).length:=by
 unfold encP;split
 ·have:=zl4 (2*p.length)
  rw[List.length_append];omega
 ·have:=zl4 (2*p.length+1)
  rw[List.length_append];omega
def decS(n:Nat):Nat→List Nat→St→List Nat × St
 |0,out,S=>(out,S)
 |k+1,out,S=>match S with
  |some (b::r)=>decS n k (out++(rpS (n-out.length) (some (b::r))).1) (rpS (n-out.length) (some (b::r))).2
  |S=>(out,S)
theorem zn8(n:Nat)(hn:n≤65536):∀(ps:List (List Nat)) (k:Nat) (out:List Nat),ps.length≤k→(∀p∈ps,zn7 p∧∀x∈p,x≤18446744073709551615)→out.length+ps.flatten.length≤n→decS n k out (some (ps.flatMap encP))=(out++ps.flatten,some [])
 | [],k,out,_,_,_=>by cases k<;> simp[decS]
 |p::ps,0,out,h,_,_=>by simp at h
 |p::ps,k+1,out,h,hp,hl=>by
  rw[List.flatten_cons,List.length_append] at hl;obtain⟨hk,hw⟩:=hp p (by simp);have hr:=qfj hk hw (by omega) (most:=n-out.length) (by omega) (by omega) (ps.flatMap encP);rw[List.flatMap_cons]
  cases hq:encP p++ps.flatMap encP with
  |nil=>
   have:=zy8 p;have:=congrArg List.length hq;rw[List.length_append,List.length_nil] at this;omega
  |cons b r=>
   rw[hq] at hr;rw[decS,hr];dsimp only;rw[zn8 n hn ps k (out++p) (by simpa using h) (fun q hq=>hp q (by simp[hq])) (by rw[List.length_append];omega),List.flatten_cons,List.append_assoc]
theorem zsa{l:List Nat}(hw:∀x∈l,x≤18446744073709551615){n k:Nat}(hn:n≤65536)(hln:l.length≤n)(hk:(encL l).length≤k):decS n k [] (some (encL l))=(l,some []):=by
 have hps:(pcs l).length≤k:=by
  refine Nat.le_trans ?_ hk;unfold encL;clear hk
  induction pcs l with
  |nil=>simp
  |cons p ps ih=>
   have:=zy8 p;rw[List.flatMap_cons,List.length_append,List.length_cons];omega
 have:=zn8 n hn (pcs l) k [] hps (fun p hp=>⟨z47 l p hp,(zlf hw hp).1⟩) (by rw[zkk];simpa using hln);rw[zkk,List.nil_append] at this;exact this
def IsDec(b:List Nat)(n:Int)(o:Option (List Nat)):Prop:=
 ∀l,o=some l↔((l.length:Int)=n∧l.length≤65536∧(∀x∈l,x≤18446744073709551615)∧encL l=b)
theorem zy9{l m:List Nat}(hl:l.length≤65536)(hm:m.length≤65536)(hw:∀x∈l,x≤18446744073709551615)(kw:∀x∈m,x≤18446744073709551615)(h:encL l=encL m):l=m:=by
 have a:=zsa hw (n:=65536) (k:=(encL l).length) (Nat.le_refl _) hl (Nat.le_refl _);have b:=zsa kw (n:=65536) (k:=(encL l).length) (Nat.le_refl _) hm (by rw[h];exact Nat.le_refl _);rw[←h,a] at b;injection b
open Go.RowKit Go.Hm
theorem zn9{w:World}{A:Option Addr}{c:Nat}{L:List Nat}(h:Reads w w.heap.size 1 A L.length (za3 .u64 L))(hn:L.length≤9223372036854775806):
 Calls Tryz.prog 239 #[.slice A L.length c] w (zap (.int .i64 (st L:Nat)) w):=by
 go_enter Tryz.func239,Tryz.ntmps239
 go_wp2
 go_loopw [3] (fun i wr=>∃k:Nat,k≤L.length∧i= .int .i64 (k:Int)∧Hid (∀j,j<k→L.getD j 0=L.getD 0 0)∧Below w.heap.size w wr) (fun i _=>L.length-(intOf i).toNat)
 case atStart=>exact⟨0,by omega,rfl,Hz (fun j hj=>by omega),Below.refl _ _⟩
 case round=>
  obtain⟨k,hk,rfl,hT,hb⟩:=hrel;by_cases hlt:k<L.length
  ·obtain⟨ad,rfl,hbk,hcell⟩:=(h.below hb).num hlt
   obtain⟨ad',e',hbk',hcell'⟩:=(h.below hb).num (i:=0) (by omega);injection e' with e';subst e';rw[zj6] at hcell'
   have h0:(0:Int)<(L.length:Int):=by omega
   by_cases he:L.getD k 0=L.getD 0 0
   ·have HT:=Hz (show∀j,j<k+1→L.getD j 0=L.getD 0 0 from fun j hj=>by
     by_cases hjk:j=k
     ·rw[hjk];exact he
     ·exact hT.out j (by omega))
    rw[he] at hcell;clear he hT;generalize L.getD 0 0=y at*
    go_wp2
    go_quiet (fail)
    go_wp2
    go_roundw
    case rel=>exact⟨k+1,by omega,by go_num,HT,below_drewN hb _⟩
    case measure=>simp[intOf];omega
   ·have hst:=Hz (show st L=k from qar (by omega) hT.out (.inr he))
    have hbe:(((L.getD k 0:Nat):Int)==((L.getD 0 0:Nat):Int))=false:=by rw[beq_eq_false_iff_ne];omega
    clear he hT;generalize L.getD k 0=y at*;generalize L.getD 0 0=z at*
    go_wp2
    go_quiet (fail)
    go_wp2
    go_ret
    exact⟨by rw[hst.out];simp,below_drewN hb _⟩
  ·obtain rfl:k=L.length:=by omega
   have hst:=Hz (show st L=L.length from qar (by omega) hT.out (.inl rfl));clear hT
   go_wp2
   go_quiet (fail)
   go_wp2
   go_ret
   exact⟨by rw[hst.out];simp,below_drewN hb _⟩
theorem z48{w:World}{A:Option Addr}{c:Nat}{L:List Nat}(h:Reads w w.heap.size 1 A L.length (za3 .u64 L))(hn:L.length≤9223372036854775806):
 Calls Tryz.prog 223 #[.slice A L.length c] w (zap (.bool (decide (4≤st L))) w):=by
 have S:=Hz (zn9 (c:=c) h hn);generalize st L=s at*;clear h
 go_enter Tryz.func223,Tryz.ntmps223
 go_wp2_with fail
 refine S.out.mono ?_;rintro e w1 ⟨rfl,b1⟩;by_cases h4:4≤s
 ·have d:decide ((4:Int)≤(s:Int))=true:=decide_eq_true (by omega)
  rw[decide_eq_true h4]
  go_wp2
  go_ret
  exact⟨by simp[h4],b1⟩
 ·have d:decide ((4:Int)≤(s:Int))=false:=decide_eq_false (by omega)
  rw[decide_eq_false h4]
  go_wp2
  go_ret
  exact⟨by simp;omega,b1⟩
open Go.RowKit Go.Hm
def zdk(s:zc9):Prop:=(s.2.2.1.2.2.1.length≤140737488351232∧∀z∈s.2.2.1.2.2.1,z<256)∧s.2.2.2.2.2.1.length≤140737488351232∧∀z∈s.2.2.2.2.2.1,z<256
set_option maxRecDepth 100000 in
theorem zg2{w:World}{t:Int}{s:zc9}(hf:zdk s):Calls Tryz.prog 119 #[.int .i64 t,zb4 s] w (zap (.bool (zb7 t s)) w):=by
 obtain⟨M,hM⟩:∃M,M=zb7 t s:=⟨_,rfl⟩;rw[←hM];unfold zb7 at hM;obtain⟨n,b,p,q⟩:=s;obtain⟨⟨hf1,hf2⟩,hf3,hf4⟩:=hf;dsimp only at hM hf1 hf2 hf3 hf4
 have E:∀W,(binOp .eql 63 (zb4 (n,false,p,q)) (zb4 (n,false,zay,zay))).run Tryz.prog W= .ok (.bool (decide (p=zay)&&decide (q=zay))) W:=fun W=>by
  rw[z1x]
  have:eqS (n,false,p,q) (n,false,zay,zay)=(decide (p=zay)&&decide (q=zay)):=by
   rw[Bool.eq_iff_iff,qdu hf2 hf4 (by simp[zay]) (by simp[zay])];simp
  rw[this]
 have HN:=fun(h1:zac p t false=true) (h2:zac q t false=true) (W:World)=>ze4 (w:=W) (t:=t) (a:=p) (b:=q) (zi5 h1) (zi5 h2)
 have R1:=fun(W:World)=>zfh (w:=W) (b:=p.1) (n:=p.2.1) (s:=p.2.2.1) (x:=p.2.2.2.1) (y:=p.2.2.2.2) (cn:=[]) (t:=t) (nu:=false) hf1
 have R2:=fun(W:World)=>zfh (w:=W) (b:=q.1) (n:=q.2.1) (s:=q.2.2.1) (x:=q.2.2.2.1) (y:=q.2.2.2.2) (cn:=[]) (t:=t) (nu:=false) hf3
 generalize(decide (p=zay)&&decide (q=zay))=eq at*;generalize zjc t p q=o at*;obtain⟨p1,p2,p3,p4,p5⟩:=p;obtain⟨q1,q2,q3,q4,q5⟩:=q;dsimp only at R1 R2 hM;generalize zac (p1,p2,p3,p4,p5) t false=m1 at*;generalize zac (q1,q2,q3,q4,q5) t false=m2 at*;have E:∀W,(binOp .eql 63 (.agg #[.int .i64 n,.bool false,.bool p1,.int .i64 p2,.string (zae p3),.int .i64 p4,.int .i64 p5,.bool q1,.int .i64 q2,.string (zae q3),.int .i64 q4,.int .i64 q5]) (.agg #[.int .i64 n,.bool false,.bool false,.int .i64 0,.string ⟨#[]⟩,.int .i64 0,.int .i64 0,.bool false,.int .i64 0,.string ⟨#[]⟩,.int .i64 0,.int .i64 0])).run Tryz.prog W= .ok (.bool eq) W:=E;have R1:Hid (∀W,Calls Tryz.prog 52 #[.agg #[.bool p1,.int .i64 p2,.string (zae p3),.int .i64 p4,.int .i64 p5],.agg #[.string ⟨#[]⟩,.int .i64 t,.bool false]] W (zap (.bool m1) W)):=Hz R1;have R2:Hid (∀W,Calls Tryz.prog 52 #[.agg #[.bool q1,.int .i64 q2,.string (zae q3),.int .i64 q4,.int .i64 q5],.agg #[.string ⟨#[]⟩,.int .i64 t,.bool false]] W (zap (.bool m2) W)):=Hz R2;unfold zcz zak at HN;dsimp only at HN;have HN:=Hz HN;show Calls Tryz.prog 119 #[.int .i64 t,.agg #[.int .i64 n,.bool b,.bool p1,.int .i64 p2,.string (zae p3),.int .i64 p4,.int .i64 p5,.bool q1,.int .i64 q2,.string (zae q3),.int .i64 q4,.int .i64 q5]] w (zap (.bool M) w);have B0:=Blk.new w 63 #[.int .i64 n,.bool b,.bool p1,.int .i64 p2,.string (zae p3),.int .i64 p4,.int .i64 p5,.bool q1,.int .i64 q2,.string (zae q3),.int .i64 q4,.int .i64 q5];have hb:New w (w.alloc (.cells #[.int .i64 n,.bool b,.bool p1,.int .i64 p2,.string (zae p3),.int .i64 p4,.int .i64 p5,.bool q1,.int .i64 q2,.string (zae q3),.int .i64 q4,.int .i64 q5] 63)):=(Below.refl _ _).alloc (Nat.le_refl _) _;have HB0:=Hz B0;have Hb:=Hz hb;obtain⟨x0,x1,x2,x3,x4,x5,x6,x7,x8,x9,x10,x11⟩:=za6 B0;clear B0 hb hf1 hf2 hf3 hf4;by_cases hr:t<0∨3<t∨n<0∨65536<n
 ·rw[if_pos hr] at hM
  have HM:=Hz hM;clear hM E;by_cases h1:t<0
  all_goals try by_cases h2:3<t
  all_goals try by_cases h3:n<0
  all_goals try(have h4:65536<n:=by omega)
  all_goals
   clear hr
   go_enter Tryz.func119,Tryz.ntmps119
   go_wp2
   go_ret
   exact⟨by rw[HM.out];rfl,Hb.out⟩
 rw[if_neg hr] at hM
 have h1: ¬t<0:=by omega
 have h2: ¬3<t:=by omega
 have h3: ¬n<0:=by omega
 have h4: ¬65536<n:=by omega
 clear hr
 cases b with
 |false=>
  rw[if_neg (by simp)] at hM;have HM:=Hz hM;clear hM
  go_enter Tryz.func119,Tryz.ntmps119
  go_wp2
  go_ret
  exact⟨by rw[HM.out];rfl,Hb.out⟩
 |true=>
  rw[if_pos rfl] at hM;have HM:=Hz hM;clear hM E
  go_enter Tryz.func119,Tryz.ntmps119
  go_wp2_with fail
  refine(R1.out _).mono ?_;rintro e w1 ⟨rfl,b1⟩;have B0:=(HB0.out.alloc _).below b1 (by simp;omega);have BC:=(Blk.new _ _ _).below b1 (by simp);have hl:=New.trans (New.trans Hb.out ((Below.refl _ _).alloc (Nat.le_refl _) _)) b1;simp only[World.size_alloc] at BC;clear x0 x1 x2 x3 x4 x5 x6 x7 x8 x9 x10 x11 HB0 Hb b1;obtain⟨x0,x1,x2,x3,x4,x5,x6,x7,x8,x9,x10,x11⟩:=za6 B0;obtain⟨y0,y1,y2⟩:=zaf BC
  cases m1 with
  |false=>
   go_wp2_with fail
   go_ret
   exact⟨by rw[HM.out];rfl,hl⟩
  |true=>
   go_wp2_with fail
   refine(R2.out _).mono ?_;rintro e w2 ⟨rfl,b2⟩;replace B0:=B0.below b2 B0.lt;replace hl:=New.trans hl b2;clear x0 x1 x2 x3 x4 x5 x6 x7 x8 x9 x10 x11 b2 y0 y1 y2 BC;obtain⟨x0,x1,x2,x3,x4,x5,x6,x7,x8,x9,x10,x11⟩:=za6 B0
   cases m2 with
   |false=>
    go_wp2_with fail
    go_ret
    exact⟨by rw[HM.out];rfl,hl⟩
   |true=>
    have C:=Hz (HN.out (by trivial) (by trivial))
    go_wp2_with fail
    refine(C.out _).mono ?_;rintro e w3 ⟨rfl,b3⟩
    go_wp2
    go_ret
    exact⟨by rw[HM.out];rfl,New.trans hl b3⟩
end Go.Proofs.YtmgfkpnghlmheaaGreat
namespace Go.Hm
open Go Go.RowKit
def zlk(t:Int)(s:zc9):List Nat:=plB t [s.2.2.1,s.2.2.2]
def putS(l:List Nat)(t:Int)(s:zc9):List Nat:=
 if zb7 t s then(if s.2.1 then l++vp s.1.toNat++[1]++vp (zlk t s).length++zlk t s else l++vp s.1.toNat++[0]) else l
theorem zkp{t:Int}{s:zc9}(h:zb7 t s=true):(0≤t∧t≤3)∧0≤s.1∧s.1≤65536:=by
 unfold zb7 at h;split at h
 ·simp at h
 ·omega
theorem zll{t:Int}{s:zc9}(h:zb7 t s=true)(hh:s.2.1=true):zac s.2.2.1 t false=true∧zac s.2.2.2 t false=true∧zjc t s.2.2.1 s.2.2.2≤0:=by
 unfold zb7 at h;split at h
 ·simp at h
 ·simpa[hh] using h
theorem z5z{t:Int}{s:zc9}(h:zb7 t s=true)(hh:s.2.1=true):zhs t [s.2.2.1,s.2.2.2]=true:=by
 obtain⟨h1,h2,-⟩:=zll h hh;have h3:=(zkp h).1;rw[plOk_iff];refine⟨⟨h3.1,h3.2,by simp⟩,fun c hc=>?_⟩;simp at hc;rcases hc with rfl|rfl
 ·exact h1
 ·exact h2
end Go.Hm
namespace Go.Proofs.YtmgfkpnghlmheaaGreat
open Go.RowKit Go.Hm
theorem zsj{t:Int}{s:zc9}(h:zb7 t s=true)(hh:s.2.1=true):(zlk t s).length≤131112:=by
 obtain⟨h1,h2,-⟩:=zll h hh;have a:=zr5 h1;have b:=zr5 h2;have ta:s.2.2.1.2.2.1.length≤65536:=zfi h1;have tb:s.2.2.2.2.2.1.length≤65536:=zfi h2;unfold zlk plB;split
 ·rw[zbh];simp
 ·simp only[List.flatMap_cons,List.flatMap_nil,List.append_nil,List.length_append]
  omega
def statData(s:zc9):Prop:=zai s.2.2.1∧zai s.2.2.2
theorem statData.fine{s:zc9}(h:statData s):zdk s:=⟨h.1.1,h.2.1⟩
set_option maxRecDepth 100000 in
theorem z50{w:World}{A:Option Addr}{n c:Nat}{l:List Nat}{t:Int}{s:zc9}(h:Reads w w.heap.size 1 A n (za3 .u8 l))(hn:n≤100000000)(hs:statData s):
 Calls Tryz.prog 95 #[.slice A n c,.int .i64 t,zb4 s] w (zc4 (putS l t s) w):=by
 obtain rfl:n=l.length:=h.len;have HR:=Hz h
 have SR:=fun(W:World)=>zg2 (w:=W) (t:=t) hs.fine
 have hrn:=fun(e:zb7 t s=true)=>zkp e
 have PE:=fun(e:zb7 t s=true) (eh:s.2.1=true) (W:World)=>zki (t:=t) (c:=2) (Reads.litR W 61 (zak s.2.2.1++zak s.2.2.2).toArray 2 5 (recs zak [s.2.2.1,s.2.2.2]) (by simp[recs]) (by simp[recs,zak])) (fun y hy=>by simp at hy;rcases hy with rfl|rfl;exact hs.1;exact hs.2) (by omega)
 have pe2:=fun(e:zb7 t s=true) (eh:s.2.1=true)=>(show plO t [s.2.2.1,s.2.2.2]=some (zlk t s) by unfold plO zlk;rw[if_pos (z5z e eh)])
 have hel:=fun(e:zb7 t s=true) (eh:s.2.1=true)=>zsj e eh
 obtain⟨M,hM⟩:∃M,M=putS l t s:=⟨_,rfl⟩;rw[←hM];unfold putS at hM;clear hs h;generalize zb7 t s=R at*;generalize zlk t s=E at*;obtain⟨nn,b,⟨p1,p2,p3,p4,p5⟩,⟨q1,q2,q3,q4,q5⟩⟩:=s;dsimp only at hrn PE pe2 hel hM;have SR:Hid (∀W,Calls Tryz.prog 119 #[.int .i64 t,.agg #[.int .i64 nn,.bool b,.bool p1,.int .i64 p2,.string (zae p3),.int .i64 p4,.int .i64 p5,.bool q1,.int .i64 q2,.string (zae q3),.int .i64 q4,.int .i64 q5]] W (zap (.bool R) W)):=Hz SR;show Calls Tryz.prog 95 #[.slice A l.length c,.int .i64 t,.agg #[.int .i64 nn,.bool b,.bool p1,.int .i64 p2,.string (zae p3),.int .i64 p4,.int .i64 p5,.bool q1,.int .i64 q2,.string (zae q3),.int .i64 q4,.int .i64 q5]] w (zc4 M w);have B0:=Blk.new w 63 #[.int .i64 nn,.bool b,.bool p1,.int .i64 p2,.string (zae p3),.int .i64 p4,.int .i64 p5,.bool q1,.int .i64 q2,.string (zae q3),.int .i64 q4,.int .i64 q5];have hb:New w (w.alloc (.cells #[.int .i64 nn,.bool b,.bool p1,.int .i64 p2,.string (zae p3),.int .i64 p4,.int .i64 p5,.bool q1,.int .i64 q2,.string (zae q3),.int .i64 q4,.int .i64 q5] 63)):=(Below.refl _ _).alloc (Nat.le_refl _) _;obtain⟨x0,x1,x2,x3,x4,x5,x6,x7,x8,x9,x10,x11⟩:=za6 B0;have HPE:=Hz PE;have Hpe2:=Hz pe2;have Hhel:=Hz hel;clear PE pe2 hel
 cases R with
 |false=>
  rw[if_neg (by simp)] at hM;have HM:=Hz hM;clear hM hrn HPE Hpe2 Hhel
  go_enter Tryz.func95,Tryz.ntmps95
  go_wp2_with fail
  refine(SR.out _).mono ?_;rintro e w1 ⟨rfl,b1⟩;have b01:=New.trans hb b1;have CL:=Hz (zgs (c:=c) (Reads.later HR.out b01) (by omega));clear b1 hb B0 x0 x1 x2 x3 x4 x5 x6 x7 x8 x9 x10 x11
  go_wp2_with fail
  refine CL.out.mono ?_;rintro e w2 ⟨A2,n2,c2,rfl,k2,b2⟩
  go_wp2_with fail
  go_ret
  rw[HM.out];exact⟨_,_,_,rfl,k2.base_le b01.size,New.trans b01 b2⟩
 |true=>
  rw[if_pos rfl] at hM;obtain⟨-,⟨n0,n1⟩⟩:=hrn rfl;clear hrn;obtain⟨N,rfl⟩:=Int.eq_ofNat_of_zero_le n0;rw[Int.toNat_natCast] at hM
  have hw:IntKind.u64.wrap (N:Int)=(N:Int):=by rw[IntKind.wrap_u64];omega
  have V:=zaj (n:=N) (by omega)
  cases b with
  |false=>
   rw[if_neg (by simp)] at hM;have HM:=Hz hM;clear hM HPE Hpe2 Hhel
   go_enter Tryz.func95,Tryz.ntmps95
   go_wp2_with fail
   refine(SR.out _).mono ?_;rintro e w1 ⟨rfl,b1⟩;have b01:=New.trans hb b1;have B1:=B0.below b1 B0.lt;clear b1 hb B0 x0 x1 x2 x3 x4 x5 x6 x7 x8 x9 x10 x11;obtain⟨x0,x1,x2,x3,x4,x5,x6,x7,x8,x9,x10,x11⟩:=za6 B1;have P:=Hz (zcx A l.length c l N w1 (Reads.later HR.out b01) (by omega) (by omega))
   go_wp2_with fail
   refine P.out.mono ?_;rintro e w2 ⟨A2,n2,c2,rfl,k2,b2⟩
   have hq2:n2≤100000010:=by have:=k2.len;rw[zaa,List.length_append] at this;omega
   have b02:=New.trans b01 b2;have hz2:=b2.size;have B2:=B1.below b2 B1.lt;clear P b2 B1 x0 x1 x2 x3 x4 x5 x6 x7 x8 x9 x10 x11;obtain⟨x0,x1,x2,x3,x4,x5,x6,x7,x8,x9,x10,x11⟩:=za6 B2;have hz1:=b01.size
   go_wp2_with (refine zdq elB rfl (.tmp 24) (.tmp 25) rfl (W:=w) (B:=w.heap.size) (k2.base_le hz1) rfl rfl 0 rfl b02 (Nat.le_refl _) (by omega) (by omega) (by simp only[maxLen];omega) ?_
                intro A5 c5 w5 _ _ o5 _ b5 _ _)
   go_ret
   rw[HM.out];exact⟨_,_,_,rfl,o5,b5⟩
  |true=>
   rw[if_pos rfl] at hM;have PE:=HPE.out rfl rfl;rw[Hpe2.out rfl rfl] at PE;have hel:=Hhel.out rfl rfl;have PE:Hid (∀W:World,Calls Tryz.prog 120 #[.int .i64 t,.slice (some ⟨W.heap.size,0,none⟩) 2 2] (W.alloc (.cells #[.bool p1,.int .i64 p2,.string (zae p3),.int .i64 p4,.int .i64 p5,.bool q1,.int .i64 q2,.string (zae q3),.int .i64 q4,.int .i64 q5] 61)) (OptB (some E) (W.alloc (.cells #[.bool p1,.int .i64 p2,.string (zae p3),.int .i64 p4,.int .i64 p5,.bool q1,.int .i64 q2,.string (zae q3),.int .i64 q4,.int .i64 q5] 61)))):=Hz PE;have HM:=Hz hM;clear hM HPE Hpe2 Hhel;have V2:=zaj (n:=E.length) (by omega);have P2:=Hz (fun(W:World)=>zcx none 0 0 [] E.length W Reads.none_ (by omega) (by omega))
   have hw2:IntKind.u64.wrap (E.length:Int)=(E.length:Int):=by rw[IntKind.wrap_u64];omega
   go_enter Tryz.func95,Tryz.ntmps95
   go_wp2_with fail
   refine(SR.out _).mono ?_;rintro e w1 ⟨rfl,b1⟩;have b01:=New.trans hb b1;have B1:=B0.below b1 B0.lt;clear b1 hb B0 x0 x1 x2 x3 x4 x5 x6 x7 x8 x9 x10 x11;obtain⟨x0,x1,x2,x3,x4,x5,x6,x7,x8,x9,x10,x11⟩:=za6 B1;have P:=Hz (zcx A l.length c l N w1 (Reads.later HR.out b01) (by omega) (by omega))
   go_wp2_with fail
   refine P.out.mono ?_;rintro e w2 ⟨A2,n2,c2,rfl,k2,b2⟩
   have hq2:n2≤100000010:=by have:=k2.len;rw[zaa,List.length_append] at this;omega
   have b02:=New.trans b01 b2;have hz2:=b2.size;have hz1:=b01.size;have B2:=B1.below b2 B1.lt;have o2:=k2.base_le hz1;clear P b2 B1 x0 x1 x2 x3 x4 x5 x6 x7 x8 x9 x10 x11 k2;obtain⟨x0,x1,x2,x3,x4,x5,x6,x7,x8,x9,x10,x11⟩:=za6 B2
   go_wp2_with fail
   refine(PE.out _).mono ?_;rintro e w3 ⟨A3,n3,c3,rfl,k3,b3⟩;have ha:New w2 (w2.alloc (.cells #[.bool p1,.int .i64 p2,.string (zae p3),.int .i64 p4,.int .i64 p5,.bool q1,.int .i64 q2,.string (zae q3),.int .i64 q4,.int .i64 q5] 61)):=(Below.refl _ _).alloc (Nat.le_refl _) _;have b23:=New.trans ha b3;have hap:=zge k3 (o2.later ha);have o3:=o2.later b23;have b03:=New.trans b02 b23;have hz3:=b23.size
   have hn3:n3≤131112:=by have l3:=k3.len;rw[zaa] at l3;omega
   have HNE:Hid (n3=E.length):=Hz (by have l3:=k3.len;rwa[zaa] at l3);have P2:Hid (∀W,Calls Tryz.prog 93 #[.slice none 0 0,.int .u64 (n3:Int)] W (zc4 ([]++vp E.length) W)):=Hz (by rw[HNE.out];exact P2.out)
   have hw2:IntKind.u64.wrap (n3:Int)=(n3:Int):=by rw[IntKind.wrap_u64];omega
   clear ha b3 b23 o2 b02 B2 x0 x1 x2 x3 x4 x5 x6 x7 x8 x9 x10 x11
   go_wp2_with (refine zdq elB rfl (.tmp 37) (.tmp 38) rfl (W:=w) (B:=w.heap.size) o3 rfl rfl 1 rfl b03 (Nat.le_refl _) (by omega) (by omega) (by simp only[maxLen];omega) ?_
                intro A5 c5 w5 _ _ o5 g5 b5 _ d5)
   have hap5:=zii hap d5 k3;have k5:=k3.kept g5 hap;have hz5:=b5.size;refine(P2.out _).mono ?_;rintro e w6 ⟨A6,n6,c6,rfl,k6,b6⟩;rw[List.nil_append] at k6
   have hq6:n6≤10:=by have:=k6.len;rw[zaa] at this;omega
   have o6:=o5.later b6;have k56:=k5.later b6;have b06:=New.trans b5 b6;have hz6:=b06.size;clear k3 k5 o3 b03 o5 b5 b6 hap g5 d5
   go_wp2_with (first
    |(refine zas elB rfl (.tmp 40) (.tmp 44) rfl (W:=w) (B:=w.heap.size) o6 k6.reads rfl rfl b06 (Nat.le_refl _) (by omega) (by omega) (by simp only[maxLen];omega) ?_
      intro A7 c7 w7 _ _ o7 g7 b7 _;have k7:=k56.kept g7 hap5
      have hz7:=b7.size)
    |(refine zas elB rfl (.tmp 46) (.tmp 47) rfl (W:=w) (B:=w.heap.size) o7 k7.reads rfl rfl b7 (Nat.le_refl _) (by omega) (by omega) (by simp only[maxLen];omega) ?_
      intro A8 c8 w8 _ _ o8 _ b8 _))
   go_ret
   rw[HM.out];exact⟨_,_,_,rfl,o8,b8⟩
end Go.Proofs.YtmgfkpnghlmheaaGreat
namespace Go.Hm
open Go.RowKit
def fitsV(typ enc:Int):Bool:=decide ((enc=0∨enc=1)∧0≤typ∧typ≤3∨enc=2∧(typ=0∨typ=1)∨enc=3∧(typ=0∨typ=3)∨enc=4∧typ=2)
def zoi(t e:Int):Prop:=e= -1∨fitsV t e=true
instance(t e:Int):Decidable (zoi t e):=by unfold zoi;exact inferInstance
def zcn(g p:Int)(encs:List Int)(cols:List za0):Int:=
 if¬(1≤g∧g≤65536∧1≤p∧p≤65536∧encs.length=cols.length) then 1 else if∀i,i<encs.length→zoi (cols.getD i ([],0,false)).2.1 (encs.getD i 0) then 0 else 3
end Go.Hm
namespace Go.Proofs.YtmgfkpnghlmheaaGreat
open Go.RowKit Go.Hm
theorem zik(t e:Int)(w:World):Calls Tryz.prog 54 #[.int .i64 t,.int .i64 e] w (zdx (.bool (fitsV t e)) w):=by
 generalize hO:fitsV t e=O;have HO:=Hz hO;clear hO
 go_enter Tryz.func54,Tryz.ntmps54
 go_wp2
 all_goals go_ret
 all_goals
  simp only[beq_iff_eq,beq_eq_false_iff_ne,ne_eq] at*;rw[←HO.out];refine⟨congrArg (fun b=>Ending.returned (.bool b)) ?_,rfl⟩;rw[Bool.eq_iff_iff];simp only[fitsV,decide_eq_true_eq,Bool.or_eq_true,beq_iff_eq,Bool.false_eq_true,false_iff,true_iff];omega
theorem zut(n:Int)(w:World):Calls Tryz.prog 53 #[.int .i64 n] w (zdx (.bool (decide (1≤n∧n≤65536))) w):=by
 generalize hO:decide (1≤n∧n≤65536)=O;have HO:=Hz hO;clear hO
 go_enter Tryz.func53,Tryz.ntmps53
 go_wp2
 all_goals go_ret
 all_goals
  rw[←HO.out];refine⟨congrArg (fun b=>Ending.returned (.bool b)) ?_,rfl⟩;rw[Bool.eq_iff_iff];simp only[decide_eq_true_eq,Bool.false_eq_true,false_iff];omega
abbrev Cv(g p:Int)(A:Option Addr)(n c:Nat):Value:= .agg #[.int .i64 g,.int .i64 p,.slice A n c]
theorem z6b{g p:Int}{E:List Int}{L:List za0}(hg:1≤g∧g≤65536∧1≤p∧p≤65536∧E.length=L.length)(h:∀i,i<E.length→zoi (L.getD i ([],0,false)).2.1 (E.getD i 0)):zcn g p E L=0:=by
 unfold zcn;rw[if_neg (by simpa using hg),if_pos h]
theorem z14{g p:Int}{E:List Int}{L:List za0}(hg:1≤g∧g≤65536∧1≤p∧p≤65536∧E.length=L.length){i:Nat}(hi:i<E.length)(h: ¬zoi (L.getD i ([],0,false)).2.1 (E.getD i 0)):zcn g p E L=3:=by
 unfold zcn;rw[if_neg (by simpa using hg),if_neg (fun hh=>h (hh i hi))]
theorem z6c{g p:Int}{E:List Int}{L:List za0}(hg: ¬(1≤g∧g≤65536∧1≤p∧p≤65536∧E.length=L.length)):zcn g p E L=1:=by
 unfold zcn;rw[if_pos hg]
set_option maxRecDepth 100000 in
theorem zqt{w:World}{A A2:Option Addr}{n c n2 c2:Nat}{g p:Int}{E:List Int}{L:List za0}(h:Reads w w.heap.size 1 A n (zep .i64 E))(h2:Reads w w.heap.size 3 A2 n2 (recs zh4 L))(hn:n≤4611686018427387903):
 Calls Tryz.prog 20 #[Cv g p A n c,.slice A2 n2 c2] w (zap (.int .i64 (zcn g p E L)) w):=by
 have l1:=h.lenI;have l2:=h2.lenC;have b0:New w (w.alloc (.cells #[.int .i64 g,.int .i64 p,.slice A n c] 28)):=(Below.refl _ _).alloc (Nat.le_refl _) _;have B0:=Blk.new w 28 #[.int .i64 g,.int .i64 p,.slice A n c];obtain⟨x0,x1,x2⟩:=zaf B0;have R1:=Hz (fun W=>zut g W);have R2:=Hz (fun W=>zut p W);by_cases hg:1≤g∧g≤65536∧1≤p∧p≤65536∧E.length=L.length
 ·rw[decide_eq_true (show 1≤g∧g≤65536 by omega)] at R1
  rw[decide_eq_true (show 1≤p∧p≤65536 by omega)] at R2;have K1:=Hz (fun hh=>z6b hg hh);have K2:=Hz (fun(i:Nat) (hi:i<n) hh=>z14 hg (i:=i) (by omega) hh)
  have hll:n2=n:=by omega
  have HL:=Hz l1;subst hll;generalize zcn g p E L=O at*;have r1:=Reads.later h b0;have r2:=Reads.later h2 b0;clear hg B0 h h2 l1 l2
  go_enter Tryz.func20,Tryz.ntmps20
  go_wp2_with (first
   |(go_at_call 53;(with_reducible refine(R1.out _).mono ?_);rintro e w1 ⟨rfl,rfl⟩)
   |(go_at_call 53;(with_reducible refine(R2.out _).mono ?_);rintro e w1 ⟨rfl,rfl⟩))
  clear x0 x1 x2 R1 R2;obtain⟨W0,hW0⟩:∃W,W=w.alloc (.cells #[.int .i64 g,.int .i64 p,.slice A n2 c] 28):=⟨_,rfl⟩;rw[←hW0] at b0 r1 r2⊢;clear hW0
  go_loopw [28] (fun i wr=>∃k:Nat,i= .int .i64 (k:Int)∧k≤n2∧W0=wr∧Hid (∀j,j<k→zoi (L.getD j ([],0,false)).2.1 (E.getD j 0))) (fun i _=>n2-(intOf i).toNat)
  case atStart=>exact⟨0,rfl,by omega,rfl,Hz (fun j hj=>by omega)⟩
  case round=>
   obtain⟨k,rfl,hk,rfl,H⟩:=hrel;by_cases hlt:k<n2
   ·obtain⟨ad,rfl,hb,hc⟩:=r1.int hlt
    obtain⟨ad2,rfl,hb2,hc0,hc1,hc2⟩:=r2.colT hlt;have K2:=Hz (K2.out k hlt)
    have N:=Hz (show zoi (L.getD k ([],0,false)).2.1 (E.getD k 0)→∀j,j<k+1→zoi (L.getD j ([],0,false)).2.1 (E.getD j 0) from fun hh j hj=>by
     by_cases e:j=k
     ·subst e;exact hh
     ·exact H.out j (by omega))
    generalize(L.getD k ([],0,false)).2.1=t at*;generalize E.getD k 0=e at*;generalize(L.getD k ([],0,false)).2.2=x3 at*;generalize(L.getD k ([],0,false)).1=x4 at*
    have hiz:(k:Int)<(n2:Int):=by omega
    have F:=Hz (fun W=>zik t e W);by_cases he:e= -1
    ·have N2:=Hz (N.out (.inl he))
     subst he
     go_wp2
     go_roundw
     case rel=>exact⟨k+1,by go_num,by omega,trivial,N2⟩
     case measure=>simp[intOf];omega
    ·have e1:(e != -1)=true:=by simpa using he
     cases hf:fitsV t e
     ·have K3:=Hz (K2.out (fun hh=>by rcases hh with hh|hh;exact he hh;rw[hf] at hh;cases hh))
      rw[hf] at F;clear hf he
      go_wp2_with (go_at_call 54;(with_reducible refine(F.out _).mono ?_);rintro e w1 ⟨rfl,rfl⟩)
      go_ret
      exact⟨by rw[K3.out];rfl,b0⟩
     ·have N2:=Hz (N.out (.inr hf))
      rw[hf] at F;clear hf he
      go_wp2_with (go_at_call 54;(with_reducible refine(F.out _).mono ?_);rintro e w1 ⟨rfl,rfl⟩)
      go_roundw
      case rel=>exact⟨k+1,by go_num,by omega,trivial,N2⟩
      case measure=>simp[intOf];omega
   ·have K3:=Hz (K1.out (fun i hi=>H.out i (by have:=HL.out;omega)))
    go_wp2
    go_ret
    exact⟨by rw[K3.out];rfl,b0⟩
 ·have K:=Hz (z6c hg)
  generalize zcn g p E L=O at*;by_cases h1:1≤g∧g≤65536
  all_goals try(rw[decide_eq_true h1] at R1)
  all_goals try(rw[decide_eq_false h1] at R1)
  all_goals try(by_cases h2:1≤p∧p≤65536)
  all_goals try(rw[decide_eq_true h2] at R2)
  all_goals try(rw[decide_eq_false h2] at R2)
  all_goals try(have d2:((n:Int) != (n2:Int))=true:=by simp;omega)
  all_goals
   clear hg B0 l1 l2 h1
   go_enter Tryz.func20,Tryz.ntmps20
   go_wp2_with (first
    |(go_at_call 53;(with_reducible refine(R1.out _).mono ?_);rintro e w1 ⟨rfl,rfl⟩)
    |(go_at_call 53;(with_reducible refine(R2.out _).mono ?_);rintro e w1 ⟨rfl,rfl⟩))
   go_ret
   exact⟨by rw[K.out];rfl,b0⟩
end Go.Proofs.YtmgfkpnghlmheaaGreat
namespace Go.Hm
open Go Go.RowKit
abbrev zax:=Int × Int × zc9
def zg5(p:zax):List Value:= .int .i64 p.1:: .int .i64 p.2.1::zb6 p.2.2
abbrev za4:=Int × List (List zax)
structure FootS where
 cols:List za0
 rows:Int
 groups:List za4
def zh8(t:Int)(nu:Bool)(p:zax)(most:Int):Bool:=
 if p.2.1<1∨most<p.2.1∨p.1<1∨268435456<p.1 then false
 else zb7 t p.2.2&&(decide (p.2.2.1≤p.2.1)&&((p.2.2.2.1==decide (p.2.2.1<p.2.1))&&(nu||decide (p.2.2.1=0))))
def zeq(t:Int)(nu:Bool):List zax→Int→Int→Int × Bool
 | [],rows,size=>(size,decide (rows=0))
 |p::l,rows,size=>if zh8 t nu p rows then zeq t nu l (rows-p.2.1) (size+p.1) else(0,false)
def zci(l:List zax):Int:=(l.map (·.1)).sum
def zop(l:List zax):Int:=(l.map (·.2.1)).sum
def zd8(t:Int)(nu:Bool)(l:List zax)(rows:Int):Prop:=(∀p∈l,zh8 t nu p 65536=true)∧zop l=rows
theorem zj0(p:zax)(l:List zax):zci (p::l)=p.1+zci l:=by simp[zci]
theorem zg6(p:zax)(l:List zax):zop (p::l)=p.2.1+zop l:=by simp[zop]
theorem pageB_most{t:Int}{nu:Bool}{p:zax}{m:Int}:zh8 t nu p m=true↔(1≤p.2.1∧p.2.1≤m∧1≤p.1∧p.1≤268435456)∧(zb7 t p.2.2&&(decide (p.2.2.1≤p.2.1)&&((p.2.2.2.1==decide (p.2.2.1<p.2.1))&&(nu||decide (p.2.2.1=0)))))=true:=by
 unfold zh8;split
 ·rename_i h
  constructor
  ·intro e;cases e
  ·rintro⟨e,_⟩;omega
 ·rename_i h
  constructor
  ·intro e;exact⟨by omega,e⟩
  ·exact fun e=>e.2
theorem zq4{t:Int}{nu:Bool}{p:zax}{m k:Int}(h:zh8 t nu p m=true)(hk:p.2.1≤k):zh8 t nu p k=true:=by
 obtain⟨h1,h2⟩:=pageB_most.1 h;exact pageB_most.2 ⟨by omega,h2⟩
theorem ze6{t:Int}{nu:Bool}:∀{l:List zax},(∀p∈l,zh8 t nu p 65536=true)→0≤zop l∧(l.length:Int)≤zop l∧0≤zci l∧zci l≤l.length*268435456
 | [],_=>by simp[zop,zci]
 |p::l,h=>by
  have h1:=(pageB_most.1 (h p (by simp))).1
  have:=ze6 (l:=l) fun q hq=>h q (by simp[hq])
  rw[zg6,zj0,List.length_cons];omega
theorem zq5{t:Int}{nu:Bool}:∀(l:List zax) (rows size:Int),rows≤65536→((zeq t nu l rows size).2=true↔zd8 t nu l rows)∧(zd8 t nu l rows→(zeq t nu l rows size).1=size+zci l)
 | [],rows,size,_=>by
   simp[zeq,zd8,zop,zci];omega
 |p::l,rows,size,hr=>by
  unfold zeq;by_cases hp:zh8 t nu p rows=true
  ·rw[if_pos hp]
   have h1:=(pageB_most.1 hp).1;have ih:=zq5 (t:=t) (nu:=nu) l (rows-p.2.1) (size+p.1) (by omega)
   have hiff:zd8 t nu (p::l) rows↔zd8 t nu l (rows-p.2.1):=by
    unfold zd8;rw[zg6];constructor
    ·rintro⟨a,b⟩
     exact⟨fun q hq=>a q (by simp[hq]),by omega⟩
    ·rintro⟨a,b⟩
     refine⟨fun q hq=>?_,by omega⟩;rcases List.mem_cons.1 hq with rfl|hq
     ·exact zq4 hp (by omega)
     ·exact a q hq
   refine⟨ih.1.trans hiff.symm,fun hc=>?_⟩;rw[ih.2 (hiff.1 hc),zj0];omega
  ·rw[if_neg hp]
   have hno: ¬zd8 t nu (p::l) rows:=by
    rintro⟨a,b⟩;have h1:=a p (by simp)
    have h2:=ze6 (l:=l) fun q hq=>a q (by simp[hq])
    rw[zg6] at b;exact hp (zq4 h1 (by omega))
   exact⟨⟨fun h=>by simp at h,fun h=>absurd h hno⟩,fun h=>absurd h hno⟩
def zcc(g:za4):Int:=(g.2.map zci).sum
def GroupOk(cols:List za0)(g:za4):Prop:=
 1≤g.1∧g.2.length=cols.length∧∀i,i<cols.length→zd8 (cols.getD i ([],0,false)).2.1 (cols.getD i ([],0,false)).2.2 (g.2.getD i []) g.1
def zbp(F:FootS):Prop:=
 zoo F.cols∧(∀g∈F.groups,GroupOk F.cols g)∧(F.groups.map (·.1)).sum=F.rows∧F.rows≤65536∧(F.groups.map zcc).sum≤1073741824
def zeu(t:Int)(p:zax):List Nat:=vp p.1.toNat++vp p.2.1.toNat++Go.Hm.putS [] t p.2.2
def zgk(t:Int)(l:List zax):List Nat:=vp l.length++l.flatMap (zeu t)
def zbr:List za0→List (List zax)→List Nat
 |c::cs,l::ls=>zgk c.2.1 l++zbr cs ls
 |_,_=>[]
def zco(cols:List za0)(g:za4):List Nat:=vp g.1.toNat++zbr cols g.2
def zd9(F:FootS):List Nat:=putC [] F.cols++vp F.rows.toNat++vp F.groups.length++F.groups.flatMap (zco F.cols)
end Go.Hm
namespace Go.Hm
open Go
theorem z6v(b:Bool):decide (boolN b=1)=b:=by cases b<;> decide
def z6w(s:List Nat)(p q:Nat × St):za0 × St:=((s,(p.1:Int),decide (q.1=1)),if 1<q.1 then none else q.2)
theorem zz0(S:St):zsz S=z6w (zbv ((lenS 100 S).1:Int) (lenS 100 S).2).1 (zbc (zbv ((lenS 100 S).1:Int) (lenS 100 S).2).2) (zbc (zbc (zbv ((lenS 100 S).1:Int) (lenS 100 S).2).2).2):=rfl
theorem qbt(c:za0)(r:List Nat)(h1:c.1.length≤100)(h2:0≤c.2.1):zsz (some (z2b c++r))=(c,some r):=by
 obtain⟨nm,t,u⟩:=c;simp only at h1 h2;obtain⟨t,rfl⟩:=Int.eq_ofNat_of_zero_le h2
 have e0:z2b (nm,(t:Int),u)++r=vp nm.length++(nm++(t::boolN u::r)):=by simp[z2b]
 have e1:=zb2 nm.length (nm++(t::boolN u::r)) (m:=100) (by omega) (by omega);rw[zz0,e0,e1];simp only;rw[zdf];have e2:zbc (some (t::boolN u::r))=(t,some (boolN u::r)):=rfl;have e3:zbc (some (boolN u::r))=(boolN u,some r):=rfl;simp only[e2,e3];unfold z6w;simp only;rw[if_neg (by cases u<;> decide),z6v]
theorem zve:∀(l:List za0) (r:List Nat),(∀c∈l,c.1.length≤100∧0≤c.2.1)→zeh l.length (some (zj5 l++r))=(l,some r)
 | [],r,_=>rfl
 |c::l,r,h=>by
  have hc:=h c (by simp)
  have e:zj5 (c::l)++r=z2b c++(zj5 l++r):=by simp[zj5]
  rw[e,List.length_cons,zeh,qbt c _ hc.1 hc.2,zve l r (fun x hx=>h x (by simp[hx]))]
theorem qbu(l:List za0)(r:List Nat)(h:zch l=0):getC (some (vp l.length++zj5 l++r))=(l,some r):=by
 obtain⟨h1,h2,_⟩:=(zdg l).1 h;unfold getC;rw[List.append_assoc,zb2 l.length (zj5 l++r) (m:=64) (by omega) (by omega)];simp only;rw[zve l r (fun c hc=>⟨(h2 c hc).2.1,(h2 c hc).2.2.1⟩)];rw[if_neg (by simp[h])]
theorem zq9{S:St}{b:Nat}{r:List Nat}(h:zbc S=(b,some r)):S=some (b::r):=by
 unfold zbc at h;split at h
 ·simp only[Prod.mk.injEq,Option.some.injEq] at h
  rw[h.1,h.2]
 ·simp at h
theorem z6x{S:St}{c:za0}{r:List Nat}(hS:S.ok)(h:zsz S=(c,some r)):S=some (z2b c++r):=by
 rw[zz0] at h;rcases zbo 100 S hS with h0|⟨N,r1,h0,hN,_,h1⟩
 ·rw[h0] at h
  simp[zdt,zi0,z6w] at h
 ·rw[h1] at h
  simp only at h;rcases zb9 (N:Int) (some r1) with h2|⟨l,hl,_,h3,h2⟩
  ·rw[h2] at h
   simp[zi0,z6w] at h
  ·rw[h2] at h
   injection hl with hl;subst hl;simp only[Int.toNat_natCast] at h;generalize hb1:zbc (some (r1.drop N))=B1 at*;obtain⟨t,S3⟩:=B1;simp only at h;generalize hb2:zbc S3=B2 at*;obtain⟨u,S4⟩:=B2;unfold z6w at h;simp only[Prod.mk.injEq] at h;obtain⟨hc,hr⟩:=h;split at hr
   ·cases hr
   ·rename_i hu
    subst hr;have e2:=zq9 hb2;subst e2;have e1:=zq9 hb1;injection e1 with e1;rw[h0];subst hc
    have hlen:(r1.take N).length=N:=by rw[List.length_take];omega
    have hbu:boolN (decide (u=1))=u:=by
     have:u=0∨u=1:=by omega
     rcases this with rfl|rfl<;> rfl
    unfold z2b;simp only[hlen,Int.toNat_natCast,hbu];rw[List.append_assoc,List.append_assoc]
    congr 2
    rw[show [t,u]++r=r1.drop N by rw[e1];rfl,List.take_append_drop]
theorem zra:∀(n:Nat) {S:St} {l:List za0} {r:List Nat},S.ok→zeh n S=(l,some r)→S=some (zj5 l++r)
 |0,S,l,r,_,h=>by
  simp only[zeh,Prod.mk.injEq] at h;obtain⟨rfl,rfl⟩:=h;rfl
 |n+1,S,l,r,hS,h=>by
  rw[zeh] at h;have hok:=zxk hS;generalize hc:zsz S=R at*;obtain⟨c,S1⟩:=R;simp only at h hok;generalize hd:zeh n S1=R2 at*;obtain⟨l2,S2⟩:=R2;simp only[Prod.mk.injEq] at h;obtain⟨rfl,rfl⟩:=h;have e:=zra n hok hd;subst e;rw[z6x hS hc];simp[zj5]
theorem zg8{S:St}{l:List za0}{r:List Nat}(hS:S.ok)(h:getC S=(l,some r)):zch l=0∧S=some (vp l.length++zj5 l++r):=by
 unfold getC at h;rcases zbo 64 S hS with h0|⟨N,r1,h0,hN,_,h1⟩
 ·rw[h0] at h
  simp[zeh] at h
 ·rw[h1] at h
  simp only at h;split at h
  ·simp at h
  ·rename_i hn
   have hok:St.ok (some r1):=St.ok_some fun x hx=>hS _ h0 x (by simp[hx])
   have e:=zra N hok h;injection e with e
   have hl:l.length=N:=by rw[←zkv N (some r1),h]
   rw[h] at hn;refine⟨?_,?_⟩
   ·by_cases hk:zch l=0
    ·exact hk
    ·exact absurd (.inr hk) hn
   ·rw[h0,hl,e,List.append_assoc]
theorem z6y{S:St}{l:List za0}(h:getC S=(l,none)):l=[]:=by
 unfold getC at h;split at h
 ·simp at h;exact h
 ·rename_i hn
  rw[h] at hn;simp at hn
theorem z6z(n:Nat):∀x∈vp n,x<256:=by
 induction n using Nat.strongRecOn with
 |_ n ih=>
  intro x hx;by_cases hn:n<128
  ·rw[ze0 hn] at hx
   simp at hx;omega
  ·rw[zfn hn,List.mem_cons] at hx
   rcases hx with rfl|hx
   ·omega
   ·exact ih (n/128) (by omega) x hx
theorem z60(l:List za0)(h:∀x∈l,(∀z∈x.1,z<256)∧0≤x.2.1∧x.2.1≤3):∀x∈vp l.length++zj5 l,x<256:=by
 intro x hx;rcases List.mem_append.1 hx with hx|hx
 ·exact z6z _ x hx
 ·unfold zj5 at hx
  obtain⟨y,hy,hx⟩:=List.mem_flatMap.1 hx;obtain⟨h1,h2,h3⟩:=h y hy;unfold z2b at hx;simp only[List.mem_append,List.mem_cons,List.not_mem_nil,or_false] at hx;rcases hx with(hx|hx)|hx|hx
  ·exact z6z _ x hx
  ·exact h1 x hx
  ·omega
  ·subst hx;cases y.2.2<;> decide
end Go.Hm
namespace Go.Hm
open Go Go.RowKit
theorem z2s(a b:Value)(n:Nat):(madeCells #[a,b] (n*2)).toList=(List.replicate n [a,b]).flatten:=by
 induction n with
 |zero=>simp[madeCells]
 |succ n ih=>
  rw[List.replicate_succ',List.flatten_append,←ih]
  have e:∀m,m%2=0→(madeCells #[a,b] (m+2)).toList=(madeCells #[a,b] m).toList++[a,b]:=by
   intro m hm;simp only[madeCells,Array.toList_map,Array.toList_range,List.range_succ,List.map_append,List.map_cons,List.map_nil,List.append_assoc,List.cons_append,List.nil_append,List.size_toArray,List.length_cons,List.length_nil];rw[hm,show(m+1)%2=1 by omega];rfl
  rw[Nat.succ_mul,e (n*2) (by omega)];simp
theorem zrk(n:Nat):(List.replicate n [Value.int .i64 0,.int .i64 0]).flatten=zcy (List.replicate n (0,0)):=by
 induction n with
 |zero=>rfl
 |succ n ih=>
  rw[List.replicate_succ,List.flatten_cons,ih,List.replicate_succ];rfl
theorem zvo(l m:List (Int × Int)):zcy (l++m)=zcy l++zcy m:=by simp[zcy]
section
variable{P:Program}{ops:Array Oper}{rest:List Oper}{o:Oper}{a:Act}{Q:Exit→Act→World→Prop}
theorem zpa{w:World}{t e:TypeId}{x y:Value}{bytes:Nat}(E:ElT P t e (.agg #[x,y]) 2 bytes)(hgd:o.guard=none)(lo co:Operand)(ho:o.op=Op.makeSlice t lo co)
 {W:World}{B:Nat}{kl kc:IntKind}{L C:Int}(n:Nat)(hl:a.eval lo= .int kl L)(hc:a.eval co= .int kc C)(hL:L=(n:Int))(hC:C=(n:Int))(hb:Below B W w)(hbase:B≤w.heap.size)
 (hn:n*bytes≤140737488355328)(hm:n≤maxLen)
 (h:∀w',w'.ownsRow w.heap.size e 2 (.slice (some ⟨w.heap.size,0,none⟩) n n) n (List.replicate n [x,y]).flatten→w.grownBy w' none→Below B W w'→w'.heap.size=w.heap.size+1→wpList P ops Q rest (a.put o.dst (.slice (some ⟨w.heap.size,0,none⟩) n n)) w'):
 wpList P ops Q (o::rest) a w:=by
 obtain⟨i,hi,hz0,hs1,hb1⟩:=info_parts E.hi;subst hL hC
 have hmC:(n:Int)≤9223372036854775807:=by have h:=hm;simp only[maxLen] at h;omega
 have hbC:(i.bytes:Int)*(n:Int)≤281474976710656:=by
  have h:((i.bytes*n:Nat):Int)≤281474976710656:=by rw[hb1,Nat.mul_comm];omega
  rwa[Int.natCast_mul] at h
 have hrun:=run_make (P:=P) w t e i (.agg #[x,y]) E.ht hi hz0 kl kc (n:Int) (n:Int) (by omega) (by omega) hbC hmC;rw[Int.toNat_natCast,hs1] at hrun
 refine wpList_plain hgd fun K hK=>?_
 unfold Oper.wp;simp[execOp,ho,hl,hc,hrun,Result.andThen];refine hK _ _ (h _ ?_ (World.grownBy_alloc _ _ _) (hb.alloc hbase _) (by simp));refine⟨by simp,.inr ⟨_,n,_,rfl,Nat.le_refl _,heap_alloc_new w _,Nat.le_refl _,hm,by simp[size_madeCells],?_⟩⟩;rw[List.take_of_length_le (by simp[size_madeCells])];exact z2s x y n
theorem zmq{w:World}(hgd:o.guard=none)(ty:TypeId)(x y:Operand)(ho:o.op= .store ty x y)
 {base:Nat}{e:TypeId}{g n m:Nat}{A B:List (Int × Int)}{old new:Int × Int}(hown:w.ownsRow base e 2 (.slice (some ⟨g,0,none⟩) n n) n (zcy (A++old::B)))(hm:A.length=m)(hmn:m<n)
 (hx:a.eval x= .pointer (some ⟨g,m*2,none⟩))(hy:a.eval y= .agg #[.int .i64 new.1,.int .i64 new.2])(hi:(P.info? ty).map (·.size)=some 2)
 (h:∀W,W.ownsRow base e 2 (.slice (some ⟨g,0,none⟩) n n) n (zcy (A++new::B))→w.grownBy W (some g)→wpList P ops Q rest (a.put o.dst undef) W):wpList P ops Q (o::rest) a w:=by
 obtain⟨cs,hB⟩:=zie hown;obtain⟨ad,ea,-,c0,c1⟩:=(Reads.of_own hown).pair2 (i:=m) hmn;injection ea with ea;subst ea
 have ead:(⟨g,0,none⟩:Addr).add (m*2)=⟨g,m*2,none⟩:=by
  unfold Addr.add;split<;> simp_all
 rw[ead] at c0 c1;dsimp only at c0 c1
 have ht:w.there g (m*2) (#[Value.int .i64 new.1,.int .i64 new.2]:Array Value).size:=by
  intro j hj;have hj:j<2:=hj;refine⟨?_,hB.frozen _⟩
  have:j=0∨j=1:=by omega
  rcases this with rfl|rfl
  ·rw[Nat.add_zero,c0];rfl
  ·rw[c1];rfl
 refine wpList_store_mid hgd ty x y ho g (m*2) #[.int .i64 new.1,.int .i64 new.2] hx hy ht hi (by simp[Value.oneCell']) ?_;obtain⟨o1,g1⟩:=World.ownsRow.stored hown (m*2) (.int .i64 new.1);obtain⟨o2,g2⟩:=World.ownsRow.stored o1 (m*2+1) (.int .i64 new.2)
 have hl:(zcy A).length=m*2:=by rw[zf9,hm]
 have e2:((zcy (A++old::B)).set (m*2) (.int .i64 new.1)).set (m*2+1) (.int .i64 new.2)=zcy (A++new::B):=by
  rw[zvo,zvo,List.set_append_right _ _ (by omega),List.set_append_right _ _ (by omega),hl,Nat.sub_self,show m*2+1-m*2=1 by omega];rfl
 rw[e2] at o2;exact h _ o2 (g1.trans g2)
end
end Go.Hm
