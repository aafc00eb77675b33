/- Texts merged and made short: NulS, NulR, NulJ, CellJ. -/
import Derived.BigQuiet
import Derived.BigRegion
import Derived.Deep.DeepCutAuto
import Derived.Deep.QuietTactic
import Derived.Outline
import Derived.RegionTactic
import Derived.StillTailTactics
import Derived.Test.YtmgfkpnghlmheaaGreatBun1
import Derived.Test.YtmgfkpnghlmheaaGreatBun12
import Derived.Test.YtmgfkpnghlmheaaGreatBun14
import Derived.Test.YtmgfkpnghlmheaaGreatBun18
import Derived.Test.YtmgfkpnghlmheaaGreatBun2
import Derived.Test.YtmgfkpnghlmheaaGreatBun23
import Derived.Test.YtmgfkpnghlmheaaGreatBun4
set_option maxHeartbeats 4000000
namespace Go.Proofs.YtmgfkpnghlmheaaGreat
open Go.RowKit Go.Hm
theorem z7s:ElT Tryz.prog 71 61 (.agg #[.bool false,.int .i64 0,.string ⟨#[]⟩,.int .i64 0,.int .i64 0]) 5 48:=⟨by kernel_rfl,by kernel_rfl,rfl,by omega⟩
def z7t(l:List zab)(w:World)(e:Ending)(w':World):Prop:=∃A n c A2 n2 c2,e= .returned (.tuple #[.slice A n c,.slice A2 n2 c2])∧
 Own w' w.heap.size 5 (.slice A n c) (za3 .u8 (zb3 l))∧w'.ownsRow w.heap.size 61 5 (.slice A2 n2 c2) n2 (recs zak (zb1 l))∧New w w'
theorem qf6(a:List Nat)(x y:Nat)(b:List Nat){k:Nat}(h:a.length=k):(a++x::b).set k y=(a++[y])++b:=by
 subst h;rw[List.set_append_right _ _ (Nat.le_refl _)];simp
set_option maxRecDepth 100000 in
theorem zp9{w:World}{A:Option Addr}{n c:Nat}{l:List zab}(h:Reads w w.heap.size 5 A n (recs zak l))(hn:n≤65536):
 Calls Tryz.prog 134 #[.slice A n c] w (z7t l w):=by
 obtain rfl:=h.lenCell;have SP:=Hz (zq0 hn);have MW:=Hz (zkr l)
 go_enter Tryz.func134,Tryz.ntmps134
 go_wp2_with (refine zca elW rfl (.tmp 11) (.tmp 11) rfl (W:=w) (B:=w.heap.size) l.length l.length rfl rfl rfl rfl (Nat.le_refl _) (Below.refl _ _) (Nat.le_refl _) rfl (by omega) (by simp only[maxLen];omega) ?_
              intro w1 o1 _ b1 s1)
 go_loopw [5,15] (fun a i wr=>∃(k:Nat) (A2:Option Addr) (n2 c2:Nat),i= .int .i64 (k:Int)∧k≤l.length∧a= .slice A2 n2 c2∧n2≤k∧Own wr w.heap.size 87 (.slice (some ⟨w.heap.size,0,none⟩) l.length l.length) (za3 .u64 (zcb (l.take k)++List.replicate (l.length-k) 0))∧
  wr.ownsRow w.heap.size 61 5 (.slice A2 n2 c2) n2 (recs zak (zb1 (l.take k)))∧Below w.heap.size w wr) (fun _ i _=>l.length-(intOf i).toNat)
 case atStart=>exact⟨0,none,0,0,rfl,by omega,rfl,by omega,by simpa[zcb,zbx] using o1,by simpa[zb1,recs] using(zcp (w:=w1) (sz:=5)),b1⟩
 case round=>
  clear o1 b1 s1;obtain⟨k,A2,n2,c2,rfl,hk,rfl,hnk,o,u,b⟩:=hrel;by_cases hlt:k<l.length
  ·obtain⟨ad,rfl,_,d0,d1,d2,d3,d4⟩:=(Reads.later h b).cell5 hlt
   have MS:=Hz (z17 l k hlt);have VS:=Hz (z6g l k hlt);generalize l.getD k (false,0,[],0,0)=x at*;obtain⟨xb,xn,xs,xx,xy⟩:=x;simp only at d0 d1 d2 d3 d4
   have hrep:List.replicate (l.length-k) (0:Nat)=0::List.replicate (l.length-(k+1)) 0:=by rw[show l.length-k=(l.length-(k+1))+1 by omega];rfl
   rw[hrep] at o
   have hml:(zcb (l.take k)).length=k:=by rw[zem,List.length_take];omega
   have i1:(k:Int)<(l.length:Int):=by omega
   obtain⟨W2,hW2⟩:∃W,W=wr.alloc (.cells #[.bool xb,.int .i64 xn,.string (zae xs),.int .i64 xx,.int .i64 xy] 61):=⟨_,rfl⟩
   have b2:New wr W2:=by rw[hW2];exact(Below.refl _ _).alloc (Nat.le_refl _) _
   have B2:Blk W2 wr.heap.size 61 #[.bool xb,.int .i64 xn,.string (zae xs),.int .i64 xx,.int .i64 xy]:=by rw[hW2];exact Blk.new _ _ _
   have o2:=o.later b2;have u2:=zau u b2;have b02:=zgr b b2 (Nat.le_refl _);obtain⟨p0,p1,p2,p3,p4⟩:=zcm B2;have HW2:=Hz hW2
   cases xb with
   |true=>
    have MS:=MS.out;have VS:=VS.out;simp only[z9j,if_true,List.append_nil] at MS VS;have MS:=Hz MS;have VS:=Hz VS;rw[hW2] at p0 p1 p2 p3 p4;clear hW2 o u b
    go_wp2_with fail
    rw[←HW2.out]
    go_roundw
    case rel=>exact⟨k+1,_,_,_,by go_num,by omega,rfl,by omega,by rw[MS.out,List.append_assoc];exact o2,by rw[VS.out];exact u2,b02⟩
    case measure=>simp[intOf];omega
   |false=>
    have MS:=MS.out;have VS:=VS.out;simp only[z9j,Bool.false_eq_true,if_false] at MS VS;have MS:=Hz MS;have VS:=Hz VS;obtain⟨hg0,hgl,hc,hf,hset⟩:=o2.num0 (i:=k) hlt;have o3:=hset 1;rw[qf6 _ _ _ _ hml] at o3
    have hc0:(zcb (l.take k)++0::List.replicate (l.length-(k+1)) 0).getD k 0=0:=by
     rw[List.getD_eq_getElem?_getD,List.getElem?_append_right (by omega),hml,Nat.sub_self];rfl
    rw[hc0] at hc;rw[hW2] at p0 p1 p2 p3 p4 hc hf;obtain⟨W3,hW3⟩:∃W,W=W2.setCell ⟨w.heap.size,k,none⟩ (.int .u64 1):=⟨_,rfl⟩
    have g3:W2.grownBy W3 (some w.heap.size):=by rw[hW3];exact⟨rfl,rfl,rfl,by simp[World.setCell],fun k _ hk=>Below.heap_setCell _ _ _ _ (by simpa using hk)⟩
    obtain⟨cs3,M3⟩:=o2.row w.heap.size rfl;have u3:=World.ownsRow.kept u2 g3 (.inr (zal u2 M3 (by decide)));have B3:=B2.grown g3 (by have:=Blk.ne_ B2 M3 (by decide);simpa using this);have b03:Below w.heap.size w W3:=b02.grown g3 b02.size (fun k hk=>by injection hk with hk;omega)
    have o3:Own W3 w.heap.size 87 (.slice (some ⟨w.heap.size,0,none⟩) l.length l.length) (za3 .u64 (zcb (l.take k)++[1]++List.replicate (l.length-(k+1)) 0)):=by rw[hW3];exact o3
    have HW3:=Hz (show W3=(wr.alloc (.cells #[.bool false,.int .i64 xn,.string (zae xs),.int .i64 xx,.int .i64 xy] 61)).setCell ⟨w.heap.size,k,none⟩ (.int .u64 1) by rw[hW3,hW2]);obtain⟨q0,q1,q2,q3,q4⟩:=zcm B3;rw[HW3.out] at q0 q1 q2 q3 q4;obtain⟨cs4,M4⟩:=o3.row w.heap.size rfl;have z3:=b03.size;have HZ3:=Hz (show wr.heap.size+1=W3.heap.size by rw[hW3,hW2];simp[World.setCell]);clear hW2 hW3 hset hc0 o u b o2 u2 B2 b02 M3 g3
    go_wp2_with (first
     |(rw[←HW3.out]
       refine zda z7s rfl (.tmp 26) (.tmp 28) rfl (W:=w) (B:=w.heap.size) (base:=w.heap.size) (n:=n2) u3 rfl (by rw[←HZ3.out];rfl) b03 (Nat.le_refl _) z3 rfl (by simp[Value.oneCell']) (by omega) (by simp only[maxLen];omega) ?_
       intro A5 c5 w5 _ _ u5 g5 b5 _ _))
    go_roundw
    case rel=>exact⟨k+1,_,_,_,by go_num,by omega,rfl,by omega,by rw[MS.out];exact o3.kept g5 (.inr (fun e=>zal u3 M4 (by decide) e.symm)),by rw[VS.out,zav];exact u5,b5⟩
    case measure=>simp[intOf];omega
  ·obtain rfl:k=l.length:=by omega
   rw[Nat.sub_self,List.replicate_zero,List.append_nil,List.take_length] at o;rw[List.take_length] at u;have P:=zm3 (c:=l.length) 1 o.reads MW.out.2 (by omega) (by omega) (by omega);rw[SP.out] at P;have P:=Hz P;clear hlt o
   go_wp2_with fail
   refine P.out.mono ?_;rintro e w5 ⟨A5,n5,c5,rfl,o5,b5⟩
   go_wp2
   go_ret2
   have z:=b.size;exact⟨_,_,_,_,_,_,rfl,o5.base_le z,zau u b5,zgr b b5 (Nat.le_refl _)⟩
end Go.Proofs.YtmgfkpnghlmheaaGreat
namespace Go.Hm
theorem z2z{m:List Nat}(h:∀y∈m,y<2^1):m.sum≤m.length:=by
 induction m with
 |nil=>simp
 |cons y m ih=>
  have:=ih fun z hz=>h z (by simp[hz])
  have:=h y (by simp);simp;omega
end Go.Hm
namespace Go.Proofs.YtmgfkpnghlmheaaGreat
open Go.RowKit Go.Hm
set_option maxRecDepth 100000 in
theorem zvt{w:World}{A:Option Addr}{m c:Nat}{b:List Nat}{n:Int}(h:Reads w w.heap.size 1 A m (za3 .u8 b))(h8:∀x∈b,x<256)(hm:m≤9223372036854775807)(hn0: -9223372036854775808≤n)(hn:n≤9223372036854775807):
 Calls Tryz.prog 124 #[.slice A m c,.int .i64 n] w (zap (.int .i64 (zpv (zbg b 1 n))) w):=by
 have P:=zgt (c:=c) 1 n h h8 hm (by omega) (by omega) hn0 hn;have HU:=Hz (fun(l:List Nat) (hh:zbg b 1 n=some l)=>zso h8 hh);generalize zbg b 1 n=U at*
 cases U with
 |none=>
  have P:=Hz P
  go_enter Tryz.func124,Tryz.ntmps124
  go_wp2_with fail
  refine P.out.mono ?_;rintro e w1 ⟨rfl,b1⟩
  go_wp2
  go_ret
  exact⟨rfl,b1⟩
 |some l=>
  obtain⟨_,_,q3,q4⟩:=HU.out l rfl;have hsl:=z2z q3;have P:=Hz P;have CN:=Hz (show zpv (some l)=((l.take l.length).sum:Nat) by rw[List.take_length];rfl);generalize zpv (some l)=O at*;clear HU
  go_enter Tryz.func124,Tryz.ntmps124
  go_wp2_with fail
  refine P.out.mono ?_;rintro e w1 ⟨A1,n1,c1,rfl,o1,b1⟩
  obtain rfl:n1=l.length:=by have:=o1.len;rwa[zaa] at this
  go_wp2
  go_loopw [7,20] (fun s i wr=>∃k:Nat,i= .int .i64 (k:Int)∧k≤l.length∧s= .int .i64 (((l.take k).sum:Nat):Int)∧w1=wr) (fun _ i _=>l.length-(intOf i).toNat)
  case atStart=>exact⟨0,rfl,by omega,by simp,rfl⟩
  case round=>
   obtain⟨k,rfl,hk,rfl,rfl⟩:=hrel;by_cases hlt:k<l.length
   ·obtain⟨ad,rfl,_,c0⟩:=o1.reads.num hlt
    have HS:=Hz (zzr hlt);have hs1:=zme (m:=l) k;have hy:l.getD k 0<2:=q3 _ (zc5 0 hlt);generalize l.getD k 0=y at*;generalize(l.take k).sum=s at*
    have i1:(k:Int)<(l.length:Int):=by omega
    have hw1:IntKind.i64.wrap (y:Int)=(y:Int):=by rw[IntKind.wrap_i64];omega
    have hw2:IntKind.i64.wrap ((s:Int)+(y:Int))=(s:Int)+(y:Int):=by rw[IntKind.wrap_i64];omega
    go_wp2
    go_roundw
    case rel=>exact⟨k+1,by go_num,by omega,by rw[HS.out];simp,trivial⟩
    case measure=>simp[intOf];omega
   ·obtain rfl:k=l.length:=by omega
    rw[←CN.out]
    go_wp2
    go_ret
    exact⟨rfl,b1⟩
end Go.Proofs.YtmgfkpnghlmheaaGreat
namespace Go.Hm
open Go Go.RowKit
theorem zx0(a b c d f:Value)(n:Nat):(madeCells #[a,b,c,d,f] (n*5)).toList=(List.replicate n [a,b,c,d,f]).flatten:=by
 induction n with
 |zero=>simp[madeCells]
 |succ n ih=>
  rw[List.replicate_succ',List.flatten_append,←ih]
  have e:∀m,m%5=0→(madeCells #[a,b,c,d,f] (m+5)).toList=(madeCells #[a,b,c,d,f] m).toList++[a,b,c,d,f]:=by
   intro m hm;simp only[madeCells,Array.toList_map,Array.toList_range,List.range_succ,List.map_append,List.map_cons,List.map_nil,List.append_assoc,List.cons_append,List.nil_append,List.size_toArray,List.length_cons,List.length_nil];rw[hm,show(m+1)%5=1 by omega,show(m+2)%5=2 by omega,show(m+3)%5=3 by omega,show(m+4)%5=4 by omega];rfl
  rw[Nat.succ_mul,e (n*5) (by omega)];simp
theorem z7u{A B:List Value}{x0 x1 x2 x3 x4 a b c d f:Value}{m:Nat}(h:A.length=m):(((((A++([x0,x1,x2,x3,x4]++B)).set m a).set (m+1) b).set (m+2) c).set (m+3) d).set (m+4) f=A++([a,b,c,d,f]++B):=by
 subst h;rw[List.set_append_right _ _ (Nat.le_refl _),List.set_append_right _ _ (by omega),List.set_append_right _ _ (by omega),List.set_append_right _ _ (by omega),List.set_append_right _ _ (by omega)];simp
theorem z0a{w:World}{base:Nat}{e:TypeId}{g n c m:Nat}{A B:List Value}{x0 x1 x2 x3 x4 a b d f k:Value}(h:w.ownsRow base e 5 (.slice (some ⟨g,0,none⟩) n c) n (A++([x0,x1,x2,x3,x4]++B)))(hm:A.length=m):
 ∃W,W=((((w.setCell ⟨g,m,none⟩ a).setCell ⟨g,m+1,none⟩ b).setCell ⟨g,m+2,none⟩ d).setCell ⟨g,m+3,none⟩ f).setCell ⟨g,m+4,none⟩ k∧W.ownsRow base e 5 (.slice (some ⟨g,0,none⟩) n c) n (A++([a,b,d,f,k]++B))∧w.grownBy W (some g):=by
 obtain⟨h1,g1⟩:=h.stored m a;obtain⟨h2,g2⟩:=h1.stored (m+1) b;obtain⟨h3,g3⟩:=h2.stored (m+2) d;obtain⟨h4,g4⟩:=h3.stored (m+3) f;obtain⟨h5,g5⟩:=h4.stored (m+4) k;rw[z7u hm] at h5;exact⟨_,rfl,h5,(((g1.trans g2).trans g3).trans g4).trans g5⟩
section
variable{P:Program}{ops:Array Oper}{rest:List Oper}{o:Oper}{a:Act}{Q:Exit→Act→World→Prop}
theorem z20{w:World}{t e:TypeId}{x0 x1 x2 x3 x4:Value}{bytes:Nat}(E:ElT P t e (.agg #[x0,x1,x2,x3,x4]) 5 bytes)(hgd:o.guard=none)(lo co:Operand)(ho:o.op=Op.makeSlice t lo co)
 (h5:(Value.agg #[x0,x1,x2,x3,x4]).cells= #[x0,x1,x2,x3,x4])
 {W:World}{B:Nat}{kl kc:IntKind}{L C:Int}(n:Nat)(hl:a.eval lo= .int kl L)(hc:a.eval co= .int kc C)(hL:L=(n:Int))(hC:C=(n:Int))(hb:Below B W w)(hbase:B≤w.heap.size)
 (hn:n*bytes≤140737488355328)(hm:n≤maxLen)
 (h:∀w',w'.ownsRow w.heap.size e 5 (.slice (some ⟨w.heap.size,0,none⟩) n n) n (List.replicate n [x0,x1,x2,x3,x4]).flatten→w.grownBy w' none→Below B W w'→w'.heap.size=w.heap.size+1→wpList P ops Q rest (a.put o.dst (.slice (some ⟨w.heap.size,0,none⟩) n n)) w'):
 wpList P ops Q (o::rest) a w:=by
 obtain⟨i,hi,hz0,hs1,hb1⟩:=info_parts E.hi;subst hL hC
 have hmC:(n:Int)≤9223372036854775807:=by have h:=hm;simp only[maxLen] at h;omega
 have hbC:(i.bytes:Int)*(n:Int)≤281474976710656:=by
  have h:((i.bytes*n:Nat):Int)≤281474976710656:=by rw[hb1,Nat.mul_comm];omega
  rwa[Int.natCast_mul] at h
 have hrun:=run_make (P:=P) w t e i (.agg #[x0,x1,x2,x3,x4]) E.ht hi hz0 kl kc (n:Int) (n:Int) (by omega) (by omega) hbC hmC;rw[Int.toNat_natCast,hs1,h5] at hrun
 refine wpList_plain hgd fun K hK=>?_
 unfold Oper.wp;simp[execOp,ho,hl,hc,hrun,Result.andThen];refine hK _ _ (h _ ?_ (World.grownBy_alloc _ _ _) (hb.alloc hbase _) (by simp));refine⟨by simp,.inr ⟨_,n,_,rfl,Nat.le_refl _,heap_alloc_new w _,Nat.le_refl _,hm,by simp[size_madeCells],?_⟩⟩;rw[List.take_of_length_le (by simp[size_madeCells])];exact zx0 x0 x1 x2 x3 x4 n
end
end Go.Hm
namespace Go.Proofs.YtmgfkpnghlmheaaGreat
open Go.RowKit Go.Hm
def qch(o:Option (List zab))(w:World)(e:Ending)(w':World):Prop:=
 match o with
 |none=>e= .returned (.tuple #[.slice none 0 0,.bool false])∧New w w'
 |some x=>∃A c,e= .returned (.tuple #[.slice A x.length c,.bool true])∧w'.ownsRow w.heap.size 61 5 (.slice A x.length c) x.length (recs zak x)∧New w w'
theorem qci{m:List Nat}{r:List zab}(h:m.sum=r.length):zol (some m) r=zfx m r:=by rw[zol];simp[h]
theorem qcj{U:Option (List Nat)}{r:List zab}(h:zpv U≠(r.length:Int)):zol U r=none:=by
 cases U with
 |none=>rfl
 |some m=>
  rw[zol]
  have: ¬m.sum=r.length:=fun e=>h (by simp[zpv,e])
  simp[this]
set_option maxRecDepth 100000 in
theorem qck{w:World}{A:Option Addr}{mm c:Nat}{b:List Nat}{n:Int}{A2:Option Addr}{nr c2:Nat}{r:List zab}(h:Reads w w.heap.size 1 A mm (za3 .u8 b))(h8:∀x∈b,x<256)(hm:mm≤9223372036854775807)(hn0: -9223372036854775808≤n)(hn:n≤9223372036854775807)
 (h2:Reads w w.heap.size 5 A2 nr (recs zak r))(hnr:nr≤9223372036854775807):
 Calls Tryz.prog 127 #[.slice A mm c,.slice A2 nr c2,.int .i64 n] w (qch (zol (zbg b 1 n) r) w):=by
 obtain rfl:=h2.lenCell;have P1:=Hz (zvt (c:=c) h h8 hm hn0 hn)
 have P2:=fun(W:World) (hW:New w W)=>zgt (w:=W) (c:=c) 1 n (Reads.later h hW) h8 hm (by omega) (by omega) hn0 hn
 have HU:=Hz (fun(l:List Nat) (hh:zbg b 1 n=some l)=>zso h8 hh);generalize zbg b 1 n=U at*;by_cases hc:zpv U=(r.length:Int)
 ·cases U with
  |none=>simp[zpv] at hc
  |some m=>
   have hs:m.sum=r.length:=by simp[zpv] at hc;omega
   obtain⟨_,q2,q3,q4⟩:=HU.out m rfl;subst q2;rw[qci hs];obtain⟨J,hJ⟩:∃J,J=zfx m r:=⟨_,rfl⟩;rw[←hJ];have HJ:=Hz hJ;have HS:=Hz hs;have Q3:=Hz q3;have P2:=Hz P2;generalize zpv (some m)=cn at*;subst hc;clear HU hJ hs q3 hn0
   go_enter Tryz.func127,Tryz.ntmps127
   go_wp2_with fail
   refine P1.out.mono ?_;rintro e w1 ⟨rfl,b1⟩;have P2:=Hz (P2.out w1 b1)
   go_wp2_with fail
   refine P2.out.mono ?_;rintro e w2 ⟨A5,n5,c5,rfl,o5,b2⟩
   obtain rfl:n5=m.length:=by have:=o5.len;rwa[zaa] at this
   have b02:=New.trans b1 b2;have o5:=Hz (fun(W:World) (hW:New w2 W)=>o5.later hW);have z2:=b02.size;clear P1 P2 b1 b2
   go_wp2_with (refine z20 z7s rfl (.tmp 26) (.tmp 26) rfl rfl (W:=w2) (B:=w2.heap.size) m.length rfl rfl rfl rfl (Below.refl _ _) (Nat.le_refl _) (by omega) (by simp only[maxLen];omega) ?_
                intro w3 u3 _ b3 s3)
   obtain⟨gm,hgm⟩:∃g,g=w2.heap.size:=⟨_,rfl⟩;have HGM:=Hz hgm;rw[←hgm] at u3⊢;clear hgm
   go_loopw [11,30] (fun a i wr=>∃(k q:Nat) (pre:List zab),i= .int .i64 (k:Int)∧a= .int .i64 (q:Int)∧k≤m.length∧pre.length=k∧Hid (q=(m.take k).sum)∧
    wr.ownsRow gm 61 5 (.slice (some ⟨gm,0,none⟩) m.length m.length) m.length (recs zak (pre++List.replicate (m.length-k) (false,0,[],0,0)))∧Hid (J=(zfx (m.drop k) (r.drop q)).map (pre++ ·))∧New w2 wr) (fun _ i _=>m.length-(intOf i).toNat)
   case atStart=>exact⟨0,0,[],rfl,rfl,by omega,rfl,Hz (by simp),by simpa[recs,List.flatMap_replicate,zak,zae] using u3,Hz (by rw[HJ.out];simp),b3⟩
   case round=>
    clear u3 b3 s3;obtain⟨k,q,pre,rfl,rfl,hk,hpre,HQ,u,HJJ,b3⟩:=hrel;have b03:=New.trans b02 b3;by_cases hlt:k<m.length
    ·obtain⟨ad,e5,_,c0⟩:=(o5.out wr b3).reads.num hlt
     subst e5;have hy:m.getD k 0<2:=Q3.out _ (zc5 0 hlt);have HSN:=Hz (zzr hlt);have HSL:=Hz (zme (m:=m) (k+1));have JS:=Hz (zqy (r:=r) (q:=q) hlt);have JV:=Hz (fun(h0: ¬m.getD k 0=0) (hq:q<r.length)=>z6h hlt h0 hq)
     have hrep:List.replicate (m.length-k) ((false,0,[],0,0):zab)=(false,0,[],0,0)::List.replicate (m.length-(k+1)) (false,0,[],0,0):=by rw[show m.length-k=(m.length-(k+1))+1 by omega];rfl
     have hpl:(recs zak pre).length=k*5:=by rw[zar (sz:=5) (fun _=>rfl),hpre]
     rw[hrep,zav,zgz] at u;have f0:=u.frozenAt (k*5);have f1:=u.frozenAt (k*5+1);have f2:=u.frozenAt (k*5+2);have f3:=u.frozenAt (k*5+3);have f4:=u.frozenAt (k*5+4);have e0:=u.cellAt (k*5) (by omega);have e1:=u.cellAt (k*5+1) (by omega);have e2:=u.cellAt (k*5+2) (by omega);have e3:=u.cellAt (k*5+3) (by omega);have e4:=u.cellAt (k*5+4) (by omega);rw[List.getElem?_append_right (by omega),hpl] at e0 e1 e2 e3 e4;simp[zak] at e0 e1 e2 e3 e4;have HU:=Hz u;have HPL:=Hz hpl
     have i1:(k:Int)<(m.length:Int):=by omega
     have RR:=Hz (fun(hq:q<r.length)=>(Reads.later h2 b03).cell5 hq);generalize m.getD k 0=y at*;clear u hrep hpl;by_cases h0:y=0
     ·subst h0
      have JS:=JS.out;rw[if_pos rfl] at JS
      have HJ2:=Hz (show J=(zfx (m.drop (k+1)) (r.drop q)).map ((pre++[nullC])++ ·) by
       rw[HJJ.out,JS,Option.map_map];congr 1;funext z;simp)
      have HQ2:=Hz (show q=(m.take (k+1)).sum by rw[HSN.out,←HQ.out];rfl);clear JS JV HJJ HSN HSL HQ;obtain⟨W4,hW4,u4,g4⟩:=z0a (a:= .bool true) (b:= .int .i64 0) (d:= .string (zae [])) (f:= .int .i64 0) (k:= .int .i64 0) HU.out HPL.out;have HW4:=Hz (show W4=((((wr.setCell ⟨gm,k*5,none⟩ (.bool true)).setCell ⟨gm,k*5+1,none⟩ (.int .i64 0)).setCell ⟨gm,k*5+2,none⟩ (.string ⟨#[]⟩)).setCell ⟨gm,k*5+3,none⟩ (.int .i64 0)).setCell ⟨gm,k*5+4,none⟩ (.int .i64 0) from hW4);have b4:New w2 W4:=b3.grown g4 b3.size (fun k hk=>by injection hk with hk;have:=HGM.out;omega);clear hW4 HU RR
      go_wp2
      rw[←HW4.out]
      go_roundw
      case rel=>exact⟨k+1,q,pre++[nullC],by go_num,rfl,by omega,by simp[hpre],HQ2,by rw[List.append_assoc,zav];exact u4,HJ2,b4⟩
      case measure=>simp[intOf];omega
     ·obtain rfl:y=1:=by omega
      have hq:q<r.length:=by have:=HSN.out;have:=HSL.out;have:=HQ.out;have:=HS.out;omega
      have JV:=JV.out (by omega) hq;obtain⟨ad2,e6,_,d0,d1,d2,d3,d4⟩:=RR.out hq;subst e6;have HQ2:=Hz (show q+1=(m.take (k+1)).sum by rw[HSN.out,←HQ.out]);generalize r.getD q (false,0,[],0,0)=x at*;obtain⟨xb,xn,xs,xx,xy⟩:=x;simp only at d0 d1 d2 d3 d4 JV
      have i2:(q:Int)<(r.length:Int):=by omega
      cases xb with
      |true=>
       have HJ2:=Hz (show J=none by rw[HJJ.out,JV];rfl);clear JV JS HJJ HU RR HSN HSL
       go_wp2
       go_ret2
       rw[HJ2.out];exact⟨rfl,b03⟩
      |false=>
       have HJ2:=Hz (show J=(zfx (m.drop (k+1)) (r.drop (q+1))).map ((pre++[(false,xn,xs,xx,xy)])++ ·) by
        rw[HJJ.out,JV,if_neg (by simp),Option.map_map];congr 1;funext z;simp)
       clear JV JS HJJ HSN HSL HQ;obtain⟨W4,hW4,u4,g4⟩:=z0a (a:= .bool false) (b:= .int .i64 xn) (d:= .string (zae xs)) (f:= .int .i64 xx) (k:= .int .i64 xy) HU.out HPL.out;have HW4:=Hz hW4;have b4:New w2 W4:=b3.grown g4 b3.size (fun k hk=>by injection hk with hk;have:=HGM.out;omega);clear hW4 HU RR
       go_wp2
       rw[←HW4.out]
       go_roundw
       case rel=>exact⟨k+1,q+1,pre++[(false,xn,xs,xx,xy)],by go_num,by go_num,by omega,by simp[hpre],HQ2,by rw[List.append_assoc,zav];exact u4,HJ2,b4⟩
       case measure=>simp[intOf];omega
    ·obtain rfl:k=m.length:=by omega
     rw[Nat.sub_self,List.replicate_zero,List.append_nil] at u;have HJ2:=Hz (show J=some pre by rw[HJJ.out,z6i];simp);have HP:=Hz hpre;clear HJJ HQ hlt hpre
     go_wp2
     go_ret2
     rw[HJ2.out];refine⟨some ⟨gm,0,none⟩,m.length,by rw[HP.out];rfl,?_,b03⟩;rw[HP.out];exact zbd u (by have:=HGM.out;omega)
 ·rw[qcj hc]
  generalize zpv U=cn at*
  have e1:(cn != (r.length:Int))=true:=by simpa using hc
  clear hc HU P2
  go_enter Tryz.func127,Tryz.ntmps127
  go_wp2_with fail
  refine P1.out.mono ?_;rintro e w1 ⟨rfl,b1⟩
  go_wp2
  go_ret2
  exact⟨rfl,b1⟩
open Go.RowKit Go.Hm
theorem elCol7:ElT Tryz.prog 22 70 (.agg #[.string ⟨#[]⟩,.int .i64 0,.bool false]) 3 32:=⟨by kernel_rfl,by kernel_rfl,rfl,by omega⟩
theorem zv1:ElT Tryz.prog 23 71 (.slice none 0 0) 1 24:=⟨by kernel_rfl,by kernel_rfl,rfl,by omega⟩
section
variable{w:World}{ca cb cc:Array Value}{ea eb ec:TypeId}
end
def RowsIn(w:World)(B:Nat)(D:List zdo):Prop:=∀d∈D,w.ownsRow B 61 5 (.slice d.1 d.2.2.length d.2.1) d.2.2.length (recs zak d.2.2)
theorem RowsIn.later{w w':World}{B:Nat}{D:List zdo}(h:RowsIn w B D)(hb:New w w'):RowsIn w' B D:=fun d hd=>zau (h d hd) hb
theorem RowsIn.base{w:World}{B B':Nat}{D:List zdo}(h:RowsIn w B D)(hb:B'≤B):RowsIn w B' D:=fun d hd=>zbd (h d hd) hb
theorem RowsIn.keepT{w w':World}{B g:Nat}{t:TypeId}{cs:Array Value}{D:List zdo}(h:RowsIn w B D)(hT:Blk w g t cs)(hne:61≠t)(hg:w.grownBy w' (some g)):RowsIn w' B D:=fun d hd=>World.ownsRow.kept (h d hd) hg (.inr (zal (h d hd) hT hne))
def TabPost(er:Int)(L:List za0)(r:Int)(C:List (List zab))(w:World)(e:Ending)(w':World):Prop:=
 ∃(Ac Ad:Option Addr) (cc cd:Nat) (D:List zdo),e= .returned (.tuple #[.agg #[.slice Ac L.length cc,.int .i64 r,.slice Ad D.length cd],.int .i64 er])∧
  w'.ownsRow w.heap.size 70 3 (.slice Ac L.length cc) L.length (recs zh4 L)∧w'.ownsRow w.heap.size 71 1 (.slice Ad D.length cd) D.length (recs zf4 D)∧RowsIn w' w.heap.size D∧D.map (·.2.2)=C∧New w w'
def qhr(er:Int)(L:List za0)(l:List Int):List za0:=if er=0 then l.map (fun c=>L.getD c.toNat ([],0,false)) else []
def qhs(er fr to_:Int):Int:=if er=0 then to_-fr else 0
def qi2(D:List zdo)(fr to_ c:Int):List zab:=((D.getD c.toNat (none,0,[])).2.2.drop fr.toNat).take (to_-fr).toNat
def qht(er:Int)(D:List zdo)(l:List Int)(fr to_:Int):List (List zab):=if er=0 then l.map (qi2 D fr to_) else []
def ProjPost(er:Int)(L:List za0)(D:List zdo)(l:List Int)(fr to_:Int)(w:World)(e:Ending)(w':World):Prop:=
 (er≠0∧e= .returned (.tuple #[.agg #[.slice none 0 0,.int .i64 0,.slice none 0 0],.int .i64 er])∧New w w')∨(er=0∧TabPost 0 (l.map (fun c=>L.getD c.toNat ([],0,false))) (to_-fr) (l.map (qi2 D fr to_)) w e w')
theorem ProjPost.u{er:Int}{L:List za0}{D:List zdo}{l:List Int}{fr to_:Int}{w w':World}{e:Ending}(h:ProjPost er L D l fr to_ w e w'):TabPost er (qhr er L l) (qhs er fr to_) (qht er D l fr to_) w e w':=by
 rcases h with⟨h1,rfl,h2⟩|⟨rfl,h⟩
 ·rw[qhr,qhs,qht,if_neg h1,if_neg h1,if_neg h1]
  exact⟨none,none,0,0,[],rfl,zcp,zcp,fun _ hd=>absurd hd (by simp),rfl,h2⟩
 ·exact h
theorem zhf{L:List za0}{r:Int}{D:List zdo}(h:zdz L r D=0):D.length=L.length∧0≤r∧r≤65536∧L.length≤64∧∀d∈D,((d.2.2.length:Nat):Int)=r:=by
 unfold zdz at h;split at h
 ·rename_i h1;exact absurd h h1
 ·rename_i h1
  split at h
  ·rename_i h2;exact absurd h h2
  ·rename_i h2
   obtain⟨a,b,c,d⟩:=zvw (Classical.not_not.1 h2);refine⟨a,b,c,?_,d⟩;have h3:=Classical.not_not.1 h1;unfold zch at h3;split at h3
   ·cases h3
   ·omega
end Go.Proofs.YtmgfkpnghlmheaaGreat
