/- Merged. -/
import Derived.Test.YtmgfkpnghlmheaaGreatBun16
import Derived.Test.YtmgfkpnghlmheaaGreatBun19
set_option maxHeartbeats 2000000
namespace Go.Hm
theorem qfa:∀(l:List Nat) (m:Nat),ordL l=some m->m<=l.length:=by
 refine zgg ?_ ?_
 ·intro m h;simp[ordL] at h;omega
 ·intro l x ih m h
  rw[ze6] at h;cases hl:ordL l with
  |none=>rw[hl] at h;simp[zen] at h
  |some j=>
   rw[hl] at h;have hi:=ih j hl;unfold zen at h;dsimp only at h;rw[List.length_append,List.length_cons,List.length_nil];split at h
   ·cases h
   ·split at h
    all_goals
     injection h with h;omega
theorem qaw{l:List Nat}{k j:Nat}(h:ordL (l.take k)=some j)(hk:k<l.length)(hj:j<l.getD k 0):ordL l=none:=by
 cases hl:ordL l with
 |none=>rfl
 |some m=>
  exfalso;obtain⟨i,hi⟩:=z4z hl (k+1);rw[zae l k 0 hk,ze6,h] at hi;unfold zen at hi;dsimp only at hi;rw[if_pos hj] at hi;cases hi
end Go.Hm
namespace Go.Proofs.Y
open Go.RowKit Go.Hm
set_option maxRecDepth 100000 in
theorem z1t{w:World}{A:Option Addr}{n c:Nat}{L:List zab}(h:Reads w w.heap.size 5 A n (recs zan L))(hL:∀y∈L,CellFine y)(hn:n<=100000):
 Calls Tryz.prog 207 #[.slice A n c] w (zak (.bool (decide L.Nodup)) w):=by
 obtain rfl:=h.lenCell;have C:=Hz (zn2 (c:=c) h hL hn);have HN:=Hz (z1n L);clear h hL;go_enter Tryz.func207,Tryz.ntmps207
 go_wp2_with fail
 refine C.out.mono ?_;rintro e w1 ⟨A1,n1,c1,A2,c2,rfl,o1,o2,b⟩;have l1:n1=(zgf L).1.length:=(Reads.of_own o1).lenCell;have HL1:=Hz l1;clear o1 o2 l1;go_wp2
 go_ret
 refine⟨congrArg (fun q=>Ending.returned (.bool q)) (show((n1:Int)==(L.length:Int))=decide L.Nodup from ?_),b⟩;rw[Bool.eq_iff_iff];have:=HN.out;have l1:=HL1.out;simp only[decide_eq_true_eq,beq_iff_eq];rw[<-this];omega
set_option maxRecDepth 100000 in
theorem zw8{w:World}{A:Option Addr}{n c:Nat}{P:List Nat}{m:Nat}(h:Reads w w.heap.size 1 A n (za2 .u64 P))(hP:∀x∈P,x<=18446744073709551615)(hn:n<=100000)(hm:m<=100000):
 Calls Tryz.prog 209 #[.slice A n c,.int .i64 (m:Int)] w (zdk (.bool (decide (ordL P=some m))) w):=by
 obtain rfl:n=P.length:=h.len;have HR:=Hz h;have HP:=Hz hP;have hmw:IntKind.u64.wrap (m:Int)=(m:Int):=by rw[IntKind.wrap_u64];omega
 clear h hP;go_enter Tryz.func209,Tryz.ntmps209
 go_wp2
 go_loop [5,10] (fun v i=>∃k j:Nat,k<=P.length/\i= .int .i64 (k:Int)/\v= .int .u64 (j:Int)/\Hid (ordL (P.take k)=some j)) (fun _ i=>P.length-(intOf i).toNat)
 case atStart=>exact⟨0,0,Nat.zero_le _,rfl,rfl,Hz (by simp[ordL])⟩
 case round=>
  obtain⟨k,j,hk,rfl,rfl,H⟩:=hrel;have hjl:=qfa _ _ H.out;rw[List.length_take] at hjl;have hj:j<=k:=by omega
  clear hjl;by_cases hlt:k<P.length
  ·obtain⟨ad,rfl,hb,hcell⟩:=HR.out.num hlt
   have htk:=zae P k 0 hlt;have hbad:=Hz (fun hlt2:j<P.getD k 0=>qaw H.out hlt hlt2);have hst:=ze6 (P.take k) (P.getD k 0);rw[<-htk,H.out] at hst;have hx:P.getD k 0<=18446744073709551615:=HP.out _ (zc5 0 hlt);have HST:=Hz hst;clear htk hst H hb;generalize P.getD k 0=x at*;by_cases h1:j<x
   ·have t1:decide ((j:Int)<(x:Int))=true:=decide_eq_true (by omega)
    have hno:=Hz (hbad.out h1);clear hbad HST;go_wp2
    go_ret
    exact⟨by rw[hno.out];rfl,rfl⟩
   ·have t1:decide ((j:Int)<(x:Int))=false:=decide_eq_false (by omega)
    by_cases h2:x=j
    ·subst h2
     have hs:ordL (P.take (k+1))=some (x+1):=by rw[HST.out];unfold zen;dsimp only;rw[if_neg (by omega),if_pos rfl]
     have HS:=Hz hs;have hw:IntKind.u64.wrap ((x:Int)+1)=((x+1:Nat):Int):=by rw[IntKind.wrap_u64];omega
     clear hs hbad HST;go_wp2
     go_round
     case rel=>exact⟨k+1,x+1,by omega,by go_num,by go_num,HS⟩
     case measure=>simp[intOf];omega
    ·have hs:ordL (P.take (k+1))=some j:=by
      rw[HST.out];unfold zen;dsimp only;rw[if_neg (by omega),if_neg h2]
     have HS:=Hz hs;have t2:((x:Int)==(j:Int))=false:=beq_eq_false_iff_ne.2 (by omega);clear hs hbad HST;go_wp2
     go_round
     case rel=>exact⟨k+1,j,by omega,by go_num,rfl,HS⟩
     case measure=>simp[intOf];omega
  ·obtain rfl:k=P.length:=by omega
   have H:=H.out;rw[List.take_length] at H;have HS:=Hz H;clear H;go_wp2
   go_ret
   rw[HS.out];refine⟨congrArg (fun q=>Ending.returned (.bool q)) (show((j:Int)==(m:Int))=decide (some j=some m) from ?_),rfl⟩;rw[Bool.eq_iff_iff];simp;omega
end Go.Proofs.Y
namespace Go.Hm
open Go Go.RowKit
def nearB(x y:Int):Bool:=decide (-2097152<=x)&&decide (x<=2097152)&&decide (-2097152<=y)&&decide (y<=2097152)
theorem nearB_iff{x y:Int}:nearB x y=true↔(-2097152<=x/\x<=2097152)/\(-2097152<=y/\y<=2097152):=by simp[nearB];omega
def zf2:Int × Int->List (Int × Int)->Option (List (Int × Int))
 |_,[]=>some []
 |h,s::r=>if nearB s.1 s.2&&inBox (h.1+s.1) (h.2+s.2) then(zf2 (h.1+s.1,h.2+s.2) r).map ((h.1+s.1,h.2+s.2):: ·) else none
def zf3:Int × Int->List (Int × Int)->Option (List (Int × Int))
 |_,[]=>some []
 |h,p::r=>if inBox p.1 p.2 then(zf3 p r).map ((p.1-h.1,p.2-h.2):: ·) else none
theorem inBox_iff{x y:Int}:inBox x y=true↔(-1048576<=x/\x<=1048576)/\(-1048576<=y/\y<=1048576):=by simp[inBox];omega
open Go Go.RowKit
def z9s(c:zab):Nat:=if c.1 then 0 else 1
def zcg(l:List zab):List Nat:=l.map z9s
def zb1(l:List zab):List zab:=l.filter fun c=> !c.1
def nullC:zab:=(true,0,[],0,0)
theorem zfa(l:List zab):(zcg l).length=l.length:=by simp[zcg]
theorem zz8(l:List zab):∀x∈zcg l,x<2^1:=by intro x hx;obtain⟨c,_,rfl⟩:=List.mem_map.1 hx;unfold z9s;split<;> decide
theorem z2o(l:List zab)(k:Nat)(h:k<l.length):zcg (l.take (k+1))=zcg (l.take k)++[z9s (l.getD k (false,0,[],0,0))]:=by rw[zae l k (false,0,[],0,0) h,zcg,List.map_append];rfl
theorem z6y(l:List zab)(k:Nat)(h:k<l.length):zb1 (l.take (k+1))=zb1 (l.take k)++(if(l.getD k (false,0,[],0,0)).1 then [] else [l.getD k (false,0,[],0,0)]):=by
 rw[zae l k (false,0,[],0,0) h,zb1,List.filter_append];congr 1
 generalize l.getD k (false,0,[],0,0)=c;cases hh:c.1<;> simp[hh]
theorem zsy(l:List zab):(zb1 l).length<=l.length:=List.length_filter_le _ _
def zp1(o:Option (List Nat)):Int:=match o with|none=> -1|some m=>(m.sum:Nat)
def zf6:List Nat->List zab->Option (List zab)
 | [],_=>some []
 |x::m,r=>if x=0 then(zf6 m r).map (nullC:: ·) else match r with
  | []=>none
  |c::r=>if c.1 then none else(zf6 m r).map (c:: ·)
theorem zlk(x:Nat)(m:List Nat)(r:List zab):zf6 (x::m) r=if x=0 then(zf6 m r).map (nullC:: ·) else match r with
 | []=>none
 |c::r=>if c.1 then none else(zf6 m r).map (c:: ·):=by
 cases r<;> rfl
def zom(o:Option (List Nat))(r:List zab):Option (List zab):=match o with|none=>none|some m=>if m.sum=r.length then zf6 m r else none
theorem zq4{m:List Nat}{r:List zab}{k q:Nat}(hk:k<m.length):zf6 (m.drop k) (r.drop q)=
 if m.getD k 0=0 then(zf6 (m.drop (k+1)) (r.drop q)).map (nullC:: ·) else match r.drop q with
 | []=>none
 |c::r'=>if c.1 then none else(zf6 (m.drop (k+1)) r').map (c:: ·):=by
 rw[zd6 m k 0 hk];cases r.drop q<;> rfl
theorem z6z{m:List Nat}{r:List zab}{k q:Nat}(hk:k<m.length)(h0: ¬m.getD k 0=0)(hq:q<r.length):zf6 (m.drop k) (r.drop q)=
 if(r.getD q (false,0,[],0,0)).1 then none else(zf6 (m.drop (k+1)) (r.drop (q+1))).map (r.getD q (false,0,[],0,0):: ·):=by
 rw[zq4 hk,if_neg h0,zd6 r q (false,0,[],0,0) hq]
theorem z60{m:List Nat}{r:List zab}{q:Nat}:zf6 (m.drop m.length) (r.drop q)=some []:=by rw[List.drop_length];rfl
theorem zz9{m:List Nat}{k:Nat}(hk:k<m.length):(m.take (k+1)).sum=(m.take k).sum+m.getD k 0:=by rw[zae m k 0 hk];simp
theorem zl6{m:List Nat}(k:Nat):(m.take k).sum<=m.sum:=by have:=congrArg List.sum (List.take_append_drop k m);rw[List.sum_append] at this;omega
theorem z0a(l:List zab):(zcg l).sum=(zb1 l).length:=by
 induction l with
 |nil=>rfl
 |cons c l ih=>
  cases h:c.1<;> simp[zcg,zb1,z9s,h] at ih⊢ <;> omega
def zu0(c:zab):zab:=if c.1 then nullC else c
theorem zq5(l:List zab):zf6 (zcg l) (zb1 l)=some (l.map zu0):=by
 induction l with
 |nil=>rfl
 |cons c l ih=>
  cases h:c.1
  ·have e1:zcg (c::l)=1::zcg l:=by simp[zcg,z9s,h]
   have e2:zb1 (c::l)=c::zb1 l:=by simp[zb1,h]
   rw[e1,e2,zlk,if_neg (by omega)];simp only[h,Bool.false_eq_true,if_false];rw[ih];simp[zu0,h]
  ·have e1:zcg (c::l)=0::zcg l:=by simp[zcg,z9s,h]
   have e2:zb1 (c::l)=zb1 l:=by simp[zb1,h]
   rw[e1,e2,zlk,if_pos rfl,ih];simp[zu0,h]
theorem zll:∀(m:List Nat) (r x:List zab),(∀y∈m,y<2^1)->m.sum=r.length->zf6 m r=some x->zcg x=m/\zb1 x=r/\x.length=m.length
 | [],r,x,_,hs,h=>by
   simp[zf6] at h;subst h;have:r=[]:=List.length_eq_zero_iff.1 (by simpa using hs.symm);subst this;exact⟨rfl,rfl,rfl⟩
 |y::m,r,x,hm,hs,h=>by
  rw[zlk] at h;have hy:=hm y (by simp);have hm':∀z∈m,z<2^1:=fun z hz=>hm z (by simp[hz])
  split at h
  ·rename_i h0
   subst h0;cases hj:zf6 m r with
   |none=>rw[hj] at h;cases h
   |some x'=>
    rw[hj] at h;simp at h;subst h;obtain⟨a,b,c⟩:=zll m r x' hm' (by simpa using hs) hj;exact⟨by simp[zcg,nullC,z9s] at a⊢;exact a,by simp[zb1,nullC] at b⊢;exact b,by simp[c]⟩
  ·rename_i h0
   have hy1:y=1:=by omega
   subst hy1;cases r with
   |nil=>simp at h
   |cons c r=>
    simp only at h;split at h
    ·cases h
    ·rename_i hc
     cases hj:zf6 m r with
     |none=>rw[hj] at h;cases h
     |some x'=>
      rw[hj] at h;simp at h;subst h;have hc':c.1=false:=by simpa using hc
      obtain⟨a,b,d⟩:=zll m r x' hm' (by simp at hs;omega) hj;exact⟨by simp[zcg,z9s,hc'] at a⊢;exact a,by simp[zb1,hc'] at b⊢;exact b,by simp[d]⟩
end Go.Hm
namespace Go.Proofs.Y
open Go.RowKit Go.Hm
theorem zkp(l:List zab):wid (zcg l)<=1/\ ∀x∈zcg l,x<=18446744073709551615:=by
 have hb:∀x∈zcg l,x<=18446744073709551615:=fun x hx=>by have:=zz8 l x hx;omega
 exact⟨(zgr _ 1 (by omega) hb).2 (zz8 l),hb⟩
def zb4(l:List zab):List Nat:=low (pk 1 (zcg l)) ((1*(zcg l).length+7)/8)
theorem zq6{l:List zab}(hl:l.length<=65536):znr (zcg l) 1=some (zb4 l):=zfr (zcg l) 1 (by omega) (by rw[zfa];exact hl) (zkp l).1
theorem zu1{l:List zab}(hl:l.length<=65536):zbh (zb4 l) 1 (l.length:Int)=some (zcg l):=by have:=zhj (zcg l) 1 (by omega) (by rw[zfa];exact hl) (zkp l).1 (zkp l).2;rw[zfa] at this;unfold zb4;rw[zfa];exact this
theorem zsz{b m:List Nat}{n:Int}(h8:∀x∈b,x<256)(h:zbh b 1 n=some m):znr m 1=some b/\(m.length:Int)=n/\(∀y∈m,y<2^1)/\m.length<=65536:=by obtain⟨h1,h2,h3,h4,h5⟩:=zhk h8 h;exact⟨h1,h2,(zgr m 1 (by omega) h4).1 (by omega),h5⟩
open Go.RowKit Go.Hm Go.WideShapes Go.ChangeShapes Go.Deep
theorem CellFine.data{c:zab}(h:CellFine c):zai c:=⟨h.1,h.2.1⟩
section
variable{H:Type}{enc:TypeId × Value->H}{W:World}{base:Nat}{v:Value}{d:DataW H}{ps:List MemPlace}
end
end Go.Proofs.Y
namespace Go.Hm
end Go.Hm
namespace Go.Proofs.Y
open Go.RowKit Go.Hm
set_option maxRecDepth 100000 in
theorem zx6{w:World}(x y:Int):
 Calls Tryz.prog 116 #[.agg #[.int .i64 x,.int .i64 y],.int .i64 2097152] w (zak (.bool (nearB x y)) w):=by
 obtain⟨W0,hW0⟩:∃W,W=w.alloc (.cells #[.int .i64 x,.int .i64 y] 59):=⟨_,rfl⟩;have b0:New w W0:=by rw[hW0];exact(Below.refl _ _).alloc (Nat.le_refl _) _
 have B0:Blk W0 w.heap.size 59 #[.int .i64 x,.int .i64 y]:=by rw[hW0];exact Blk.new _ _ _
 obtain⟨x0,x1⟩:=za7 B0;have HO:=Hz (show nearB x y=(decide (-2097152<=x)&&decide (x<=2097152)&&decide (-2097152<=y)&&decide (y<=2097152)) from rfl);generalize nearB x y=O at*;rw[hW0] at x0 x1;clear B0;cases h1:decide (-2097152<=x)<;> cases h2:decide (x<=2097152)<;> cases h3:decide (-2097152<=y)<;> cases h4:decide (y<=2097152);all_goals
  rw[h1,h2,h3,h4] at HO;go_enter Tryz.func116,Tryz.ntmps116
  go_wp2
  go_ret
  exact⟨by rw[HO.out];rfl,by rw[<-hW0];exact b0⟩
open Go.RowKit Go.Hm
theorem qhx(w:World)(e:TypeId):(w.alloc (.cells #[] e)).ownsRow w.heap.size e 3 (.slice (some ⟨w.heap.size,0,none⟩) 0 0) 0 []:=
 ⟨by simp,.inr ⟨w.heap.size,0,#[],rfl,Nat.le_refl _,heap_alloc_new w _,Nat.le_refl _,by simp[maxLen],by simp,by simp⟩⟩
theorem qdb(c:za1):∀u∈zhq c,u.oneCell'=true:=by intro u hu;simp[zhq] at hu;rcases hu with rfl|rfl|rfl<;> rfl
def zv8(l:List za1)(w:World)(e:Ending)(w':World):Prop:=∃v,e= .returned v/\w'.ownsRow w.heap.size 70 3 v l.length (recs zhq l)/\New w w'
set_option maxRecDepth 100000 in
theorem zv9{w:World}{A:Option Addr}{n c:Nat}{l:List za1}(h:Reads w w.heap.size 3 A n (recs zhq l))(hn:n<=100000):
 Calls Tryz.prog 61 #[.slice A n c] w (zv8 l w):=by
 obtain rfl:=h.lenC;have q44:∀(w:World) (a:Option Addr) (n c n' c':Nat),(binOp .eql 22 (.slice a n c) (.slice none n' c')).run Tryz.prog w= .ok (.bool a.isNone) w:=fun w a n c n' c'=>Lib.run_eql_slice_nil w _ _ a n c n' c' elCol7.ht
 cases A with
 |none=>
  have h0:l.length=0:=by
   rcases Nat.eq_zero_or_pos l.length with e|e
   ·exact e
   ·obtain⟨ad,h1,_⟩:=h.2 e
    cases h1
  have h1:l=[]:=List.length_eq_zero_iff.1 h0;subst h1;go_enter Tryz.func61,Tryz.ntmps61
  go_wp2
  go_ret
  exact⟨_,rfl,zcp,New.refl _⟩
 |some ad=>
  have hl:=h.1;go_enter Tryz.func61,Tryz.ntmps61
  obtain⟨i0,hi,hz0,hz1,hz2⟩:=info_parts elCol7.hi;have A:Aside (Reads w w.heap.size 3 (some ad) l.length (recs zhq l)):=h;clear h;go_wp2_with (at_builtin;go_loud (refine wpList_append_own_at _ rfl (.tmp 5) (.tmp 6) 22 rfl w.heap.size 70 i0 _ 3 32 elCol7.ht hi hz0 hz1 hz2 rfl (by decide) _ 0 [] rfl (qhx w 70) ad l.length c (recs zhq l) rfl hl ?qc2 ?qc3 ?qc4 ?qc5 ?qc6 ?_))
  case qc2=>
   intro j u hj;have hb:New w (w.alloc (.cells #[] 70)):=(Below.refl _ w).alloc (Nat.le_refl _) _;have hpos:0<l.length:=by have:=(List.getElem?_eq_some_iff.1 hj).1;omega
   obtain⟨ad2,e2,hlt,hc⟩:=(A.out).2 hpos;obtain rfl:=Option.some.inj e2;exact(Below.cell hb (by rw[za0];exact hlt)).trans (hc j u hj)
  case qc3=>exact z00 qdb l
  case qc4=>unfold maxLen;omega
  case qc5=>omega
  case qc6=>simp
  intro v' w1 hown hgrow hnil _;go_wp2
  go_ret
  refine⟨v',rfl,by simpa using hown,?_⟩;exact((Below.refl _ w).alloc (Nat.le_refl _) _).grown hgrow (by simp) (by intro k hk;simp[Value.ownBlock] at hk;omega)
end Go.Proofs.Y
set_option maxRecDepth 100000
namespace Go.Hm
structure TabIn(w:World)(Ac:Option Addr)(cc:Nat)(L:List za1)(Ad:Option Addr)(D:List zdw):Prop where
 cols:Reads w w.heap.size 3 Ac L.length (recs zhq L)
 fine:∀x∈L,(∀z∈x.1,z<256)/\x.1.length<=140737488351232
 cap:L.length<=cc
 few:L.length<=4611686018427387903
 data:Reads w w.heap.size 1 Ad D.length (recs zgd D)
 few2:D.length<=4611686018427387903
 within:DataIn w w.heap.size D
theorem TabIn.later{w w':World}{Ac:Option Addr}{cc:Nat}{L:List za1}{Ad:Option Addr}{D:List zdw}(h:TabIn w Ac cc L Ad D)(hb:New w w'):TabIn w' Ac cc L Ad D:=
 ⟨Reads.later h.cols hb,h.fine,h.cap,h.few,Reads.later h.data hb,h.few2,h.within.later hb⟩
end Go.Hm
namespace Go.Proofs.Y
open Go.RowKit Go.Hm Go.WideShapes Go.ChangeShapes
section
variable{H:Type}{enc:TypeId × Value->H}{W:World}{base:Nat}{v:Value}{d:DataW H}{ps:List MemPlace}
theorem z81{cs:List Value}(h:Held enc Tryz.prog W 23 cs):∃(A:Option Addr) (c:Nat) (D:List zdw),cs=[.slice A D.length c]/\D.length<=4611686018427387903/\Reads W W.heap.size 1 A D.length (recs zgd D)/\DataIn W W.heap.size D/\ ∀d∈D,∀y∈d.2.2,CellFine y:=by
 have ht:Tryz.prog.underlying 23=some (.slice 71):=by kernel_rfl
 obtain⟨A,c,l,h1,h2,_,h4,h5,h6⟩:=h.recs (f:=zgd) (sz:=1) (by_:=24) (Q:=fun x=>(Reads W W.heap.size 5 x.1 x.2.2.length (recs zan x.2.2)/\(∀y∈x.2.2,CellFine y)/\x.2.2.length<=x.2.1/\x.2.1<=9223372036854775807/\(x.1=none->x.2.1=0))) (none,0,[]) ht (by kernel_rfl) (by kernel_rfl) (fun _=>rfl) (by omega) (fun cs hh=>z1q hh);exact⟨A,c,l,h1,by unfold reachBytes at h4;omega,h5,fun d hd=>⟨(h6 d hd).1,fun y hy=>((h6 d hd).2.1 y hy).1,(h6 d hd).2.2⟩,fun d hd=>(h6 d hd).2.1⟩
theorem qge(hval:Value.okWide Tryz.prog W .any base 25 v)(h:DataW.Trod enc Tryz.prog W 0 (fun _=>true) true 25 v d ps)(hlt:∀p∈ps,p.block<W.heap.size)(hw:∀n∈d.weights Tryz.prog 25,n<=reachBytes):
 ∃(Ac:Option Addr) (cc:Nat) (L:List za1) (r:Int) (Ad:Option Addr) (cd:Nat) (D:List zdw),v= .agg #[.slice Ac L.length cc,.int .i64 r,.slice Ad D.length cd]/\TabIn W Ac cc L Ad D/\(-9223372036854775808<=r/\r<=9223372036854775807)/\ ∀d∈D,∀y∈d.2.2,CellFine y:=by
 have ht:Tryz.prog.underlying 25=some (.struct (zdf Tryz.prog 25)):=by kernel_rfl
 have he:Tryz.prog.underlying 70=some (.struct (zdf Tryz.prog 70)):=by kernel_rfl
 have hc:Tryz.prog.underlying 22=some (.slice 70):=by kernel_rfl
 obtain⟨⟨cs⟩,rfl,hsz⟩:=okWide_struct ht hval;have hh:=Held.of h hlt hw;simp only[Value.cells] at hh;obtain⟨x0,x1,x2,rfl⟩:=qe4 (hh.partLen ht (n:=3) (by kernel_rfl));have p0:=hh.part ht 0 0 1 (ft:=22) (by kernel_rfl) (by kernel_rfl);have p1:=hh.part ht 1 1 1 (ft:=3) (by kernel_rfl) (by kernel_rfl);have p2:=hh.part ht 2 2 1 (ft:=23) (by kernel_rfl) (by kernel_rfl);obtain⟨Ac,cc,L,h1,h2,_,h4,h5,h6⟩:=p0.recs (f:=zhq) (sz:=3) (by_:=32) (Q:=fun x=>(∀z∈x.1,z<256)/\x.1.length<=140737488351232) ([],0,false) hc (by kernel_rfl) (by kernel_rfl) (fun _=>rfl) (by omega) (fun cs hh=>by obtain⟨x0,x1,x2,rfl⟩:=qe4 (hh.partLen he (n:=3) (by kernel_rfl));have p0:=hh.part he 0 0 1 (ft:=9) (by kernel_rfl) (by kernel_rfl);have p1:=hh.part he 1 1 1 (ft:=3) (by kernel_rfl) (by kernel_rfl);have p2:=hh.part he 2 2 1 (ft:=4) (by kernel_rfl) (by kernel_rfl);obtain⟨nm,e1,e2,e3⟩:=p0.string (by kernel_rfl);obtain⟨ty,e4,e5,e6⟩:=p1.i64 (by kernel_rfl);obtain⟨nu,e7⟩:=p2.bool (by kernel_rfl);simp only[List.drop_succ_cons,List.drop_zero,List.take_succ_cons,List.take_zero,List.cons.injEq,and_true] at e1 e4 e7;subst e1 e4 e7;exact⟨(nm,ty,nu),rfl,e2,e3⟩)
 obtain⟨r,h7,h8,h9⟩:=p1.i64 (by kernel_rfl);obtain⟨Ad,cd,D,g1,g2,g3,g4,g5⟩:=z81 p2;simp only[List.drop_succ_cons,List.drop_zero,List.take_succ_cons,List.take_zero,List.cons.injEq,and_true] at h1 h7 g1;subst h1 h7 g1;exact⟨Ac,cc,L,r,Ad,cd,D,rfl,⟨h5,h6,h2,by unfold reachBytes at h4;omega,g3,g2,g4⟩,⟨h8,h9⟩,g5⟩
end
open Go.RowKit Go.Hm
theorem RowsIn.touch{w w':World}{B base sz n:Nat}{e:TypeId}{v:Value}{xs:List Value}{D:List zdw}(h:RowsIn w B D)(h2:w.ownsRow base e sz v n xs)(hne:61≠e)(k:Turns (zmp v) w w'):RowsIn w' B D:=fun d hd=>z7p (h d hd) k (z7q (h d hd) h2 hne)
open Go.RowKit Go.Hm
theorem zwb{α:Type}{l:List α}{k:Nat}(d:α)(h:k<l.length):l.getD k d∈l:=by rw[List.getD_eq_getElem?_getD,List.getElem?_eq_getElem h];exact List.getElem_mem h
set_option maxRecDepth 100000 in
theorem zjj{w:World}{A1:Option Addr}{c1:Nat}{L:List za1}{r:Int}{B1:Option Addr}{k1:Nat}{D1:List zdw}{A2:Option Addr}{c2:Nat}{B2:Option Addr}{k2:Nat}{D2:List zdw}
 (h1:TabIn w A1 c1 L B1 D1)(h2:TabIn w A2 c2 L B2 D2)(hD:D1.map (·.2.2)=D2.map (·.2.2)):
 Calls Tryz.prog 18 #[.agg #[.slice A1 L.length c1,.int .i64 r,.slice B1 D1.length k1],.agg #[.slice A2 L.length c2,.int .i64 r,.slice B2 D2.length k2]] w (zak (.bool true) w):=by
 have hl:D1.length=D2.length:=by have:=congrArg List.length hD;simpa using this
 have hat:∀k,k<D1.length->(D1.getD k (none,0,[])).2.2=(D2.getD k (none,0,[])).2.2:=by intro k hk;have:=congrArg (fun l=>l[k]?) hD;simp only[List.getElem?_map,List.getElem?_eq_getElem hk,List.getElem?_eq_getElem (show k<D2.length by omega),Option.map_some,Option.some.injEq] at this;rw[List.getD_eq_getElem?_getD,List.getElem?_eq_getElem hk,List.getD_eq_getElem?_getD,List.getElem?_eq_getElem (show k<D2.length by omega)];exact this
 have HAT:=Hz hat;obtain⟨W1,hW1⟩:∃W,W=w.alloc (.cells #[.slice A1 L.length c1,.int .i64 r,.slice B1 D1.length k1] 25):=⟨_,rfl⟩;obtain⟨W2,hW2⟩:∃W,W=W1.alloc (.cells #[.slice A2 L.length c2,.int .i64 r,.slice B2 D2.length k2] 25):=⟨_,rfl⟩;have b1:New w W1:=by rw[hW1];exact(Below.refl _ _).alloc (Nat.le_refl _) _
 have b2:New W1 W2:=by rw[hW2];exact(Below.refl _ _).alloc (Nat.le_refl _) _
 have b02:=New.trans b1 b2;have X1:Blk W2 w.heap.size 25 #[.slice A1 L.length c1,.int .i64 r,.slice B1 D1.length k1]:=by
  have:Blk W1 w.heap.size 25 #[.slice A1 L.length c1,.int .i64 r,.slice B1 D1.length k1]:=by rw[hW1];exact Blk.new _ _ _
  exact this.below b2 this.lt
 have X2:Blk W2 (w.heap.size+1) 25 #[.slice A2 L.length c2,.int .i64 r,.slice B2 D2.length k2]:=by
  have e:w.heap.size+1=W1.heap.size:=by rw[hW1];simp
  rw[e,hW2];exact Blk.new _ _ _
 have T1:=Hz (fun(W:World) (hW:New W2 W)=>h1.later (New.trans b02 hW));have T2:=Hz (fun(W:World) (hW:New W2 W)=>h2.later (New.trans b02 hW));have F:=Hz (fun(W:World) (hW:New W2 W)=>And.intro (zad (X1.below hW X1.lt)) (zad (X2.below hW X2.lt)));have HW:=Hz (show(w.alloc (.cells #[.slice A1 L.length c1,.int .i64 r,.slice B1 D1.length k1] 25)).alloc (.cells #[.slice A2 L.length c2,.int .i64 r,.slice B2 D2.length k2] 25)=W2 by rw[hW2,hW1]);obtain⟨⟨x0,x1,x2⟩,y0,y1,y2⟩:=F.out W2 (New.refl _);rw[<-HW.out] at x0 x1 x2 y0 y1 y2;have s1:=h1.few;have s2:=h1.few2;have s3:=h2.few2;have P1:=Hz (zwa (c:=c1) (c2:=c2) (T1.out W2 (New.refl _)).cols (T2.out W2 (New.refl _)).cols s1);have e1:((D1.length:Int) != (D2.length:Int))=false:=by simp;omega
 have HL:=Hz hl;clear hW1 hW2 X1 X2 h1 h2 hat hD b1 b2 hl;go_enter Tryz.func18,Tryz.ntmps18
 go_wp2_with fail
 rw[HW.out];refine P1.out.mono ?_;rintro e w3 ⟨rfl,b3⟩;clear x0 x1 x2 y0 y1 y2 e1;go_wp2
 go_loopw [5] (fun i wr=>∃k:Nat,i= .int .i64 (k:Int)/\k<=D1.length/\New W2 wr) (fun i _=>D1.length-(intOf i).toNat)
 case atStart=>exact⟨0,rfl,by omega,b3⟩
 case round=>
  obtain⟨k,rfl,hk,hb⟩:=hrel;by_cases hlt:k<D1.length
  ·have hlt2:k<D2.length:=by have:=HL.out;omega
   obtain⟨⟨x0,x1,x2⟩,y0,y1,y2⟩:=F.out wr hb;obtain⟨E1,E2,E3,E4,E5⟩:=(T1.out _ (New.trans hb (New.drew wr))).within _ (zwb (none,0,[]) hlt);obtain⟨G1,G2,G3,G4,G5⟩:=(T2.out _ (New.trans hb (New.drew wr))).within _ (zwb (none,0,[]) hlt2);have P:=Hz (z1r (c:=(D1.getD k (none,0,[])).2.1) (c2:=(D2.getD k (none,0,[])).2.1) E1 G1 (by omega) (by omega) (fun x hx=>(E2 x hx).2) (fun x hx=>(G2 x hx).2));rw[HAT.out k hlt,decide_eq_true rfl] at P;obtain⟨ad,ea,hbd,c0⟩:=(T1.out _ hb).data.colD hlt;obtain⟨ad2,ea2,hbd2,d0⟩:=(T2.out _ hb).data.colD hlt2;rw[HAT.out k hlt] at c0;subst ea ea2;have hbx:(ad.add k).block<wr.drew.heap.size:=by rw[za0];exact hbd
   have hbx2:(ad2.add k).block<wr.drew.heap.size:=by rw[za0];exact hbd2
   have C1:=Hz (ze1 c0 hbx);have C2:=Hz (ze1 d0 hbx2);clear E1 E2 E3 E4 E5 G1 G2 G3 G4 G5 c0 d0;generalize(D1.getD k (none,0,[])).1=a1 at*;generalize(D1.getD k (none,0,[])).2.1=m1 at*;generalize(D2.getD k (none,0,[])).1=a2 at*;generalize(D2.getD k (none,0,[])).2.1=m2 at*;generalize(D2.getD k (none,0,[])).2.2=l2 at*;have i1:(k:Int)<(D1.length:Int):=by omega
   have i2:(k:Int)<(D2.length:Int):=by omega
   go_wp2
   clear x0 x1 x2 y0 y1 y2;refine zam New [(true,0),(true,1),(true,2),(true,3),(true,4),(true,5),(true,6),(true,7),(true,8),(true,9),(false,10),(true,11)]
    New.refl New.trans (by kernel_rfl) (by kernel_rfl) (by kernel_rfl) (by kernel_rfl) ?_
   have hU:=New.refl wr.drew;repeat(first
    |(refine zaq rfl rfl (v:=?_) (fun W hW=>?_) ?_;rotate_left;(obtain⟨⟨x0,x1,x2⟩,y0,y1,y2⟩:=F.out W (New.trans hb (New.trans (New.drew wr) (New.trans hU hW)));have g1:=C1.out W (New.trans hU hW);have g2:=C2.out W (New.trans hU hW);go_simp<;> with_reducible rfl);simp only[Act.put,List.setIfInBounds_toArray,List.set_cons_zero,List.set_cons_succ])
    |(refine za8 rfl rfl (fun K hK=>?_);go_simp
      refine P.out.mono ?_;rintro e u ⟨rfl,q,rfl⟩;refine hK _ _ (zel _ _) ?_;clear hK;replace hU:=New.trans hU (zel _ q)))
   refine zb2 ?_;clear C1 C2 P hU;go_wp2
   go_roundw
   case rel=>exact⟨k+1,by go_num,by omega,New.trans hb (zel _ _)⟩
   case measure=>simp[intOf];omega
  ·obtain rfl:k=D1.length:=by omega
   obtain⟨⟨x0,x1,x2⟩,y0,y1,y2⟩:=F.out wr hb;go_wp2
   go_ret
   exact⟨rfl,New.trans b02 hb⟩
end Go.Proofs.Y
