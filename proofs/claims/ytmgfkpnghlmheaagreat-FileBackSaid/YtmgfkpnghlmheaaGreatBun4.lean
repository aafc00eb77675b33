/- Texts merged and made short: Bits, Str, Opt, CurM, Row, ColV, CellV. -/
import Derived.Lib.AppendStr
import Derived.Test.YtmgfkpnghlmheaaGreatBun1
import Derived.Test.YtmgfkpnghlmheaaGreatBun2
import Derived.Test.YtmgfkpnghlmheaaGreatBun3
set_option maxHeartbeats 200000
namespace Go.Hm
open Go
theorem qdk(x y k:Nat)(hy:y<2^k):(x*2^k) ||| y=x*2^k+y:=by
 rw[Nat.mul_comm,←Nat.two_pow_add_eq_or_of_lt hy]
theorem z3s(x y k:Nat)(hy:y<2^k)(hx:x%2^k=0):x ||| y=x+y:=nat_join k x y hx hy
theorem qig(x:Nat):bits .or .u8 ((x:Int)%256) 128=((x%128+128:Nat):Int):=by
 have h:=u8_or_nat (x%256) 128 (by omega) (by omega);rw[show((x:Int)%256)=((x%256:Nat):Int) from by omega,show(128:Int)=((128:Nat):Int) from rfl,h]
 congr 1
 by_cases hx:x%256<128
 ·rw[Nat.or_comm,z3s 128 (x%256) 7 hx rfl];omega
 ·have e:x%256=128+x%128:=by omega
  rw[e,Nat.or_comm,←z3s 128 (x%128) 7 (by omega) rfl,←Nat.or_assoc,Nat.or_self,z3s 128 (x%128) 7 (by omega) rfl];omega
theorem zhi(T:List Nat)(k:Nat)(hk:k≤T.length)(h8:∀x∈T,x<256):num (T.take k)<2^(8*k):=by
 have h:=zqb (T.take k) (fun x hx=>h8 x (List.mem_of_mem_take hx));rw[List.length_take,Nat.min_eq_left hk,show(256:Nat)=2^8 from rfl,←Nat.pow_mul] at h;exact h
theorem zrv(T:List Nat)(k:Nat)(h8:∀x∈T,x<256):T.getD k 0<256:=by
 by_cases hk:k<T.length
 ·rw[List.getD_eq_getElem?_getD,List.getElem?_eq_getElem hk]
  exact h8 _ (List.getElem_mem hk)
 ·rw[List.getD_eq_getElem?_getD,List.getElem?_eq_none (by omega)]
  simp
theorem zrw(T:List Nat)(k:Nat)(hk:k<T.length)(h8:∀x∈T,x<256):num (T.take k) ||| (T.getD k 0*2^(8*k))=num (T.take (k+1)):=by
 rw[zad T k 0 hk,zyk,List.length_take,Nat.min_eq_left (by omega),Nat.or_comm,qdk _ _ _ (zhi T k (by omega) h8),show(256:Nat)=2^8 from rfl,←Nat.pow_mul,Nat.add_comm]
theorem zgn{x k m:Nat}(hx:x<256)(hk:8*(k+1)≤m):x*2^(8*k)<2^m:=by
 have h1:x*2^(8*k)<256*2^(8*k):=Nat.mul_lt_mul_of_pos_right hx (Nat.two_pow_pos _)
 have h2:256*2^(8*k)=2^(8*(k+1)):=by rw[Nat.mul_add,Nat.pow_add,Nat.mul_comm]
 have h3:2^(8*(k+1))≤2^m:=Nat.pow_le_pow_right (by omega) hk;omega
theorem zwh(T:List Nat)(k:Nat)(hk:k<T.length)(hT:T.length≤1)(h8:∀x∈T,x<256):
 bits .or .u8 ((num (T.take k):Nat):Int) (((T.getD k 0:Nat):Int)*2^(8*k)%256)=((num (T.take (k+1)):Nat):Int):=by
 have hx:=zrv T k h8;have hm:=zgn (m:=8) hx (show 8*(k+1)≤8 by omega);have hn:=zhi T k (by omega) h8;have hn2:2^(8*k)≤2^8:=Nat.pow_le_pow_right (by omega) (by omega)
 have e1:(((T.getD k 0:Nat):Int)*2^(8*k)%256)=((T.getD k 0*2^(8*k):Nat):Int):=by
  have e2:((T.getD k 0*2^(8*k):Nat):Int)=((T.getD k 0:Nat):Int)*2^(8*k):=by simp
  have e3:((T.getD k 0*2^(8*k):Nat):Int)<256:=by
   have:T.getD k 0*2^(8*k)<256:=hm;omega
  rw[e2] at e3⊢
  skip
  exact Int.emod_eq_of_lt (by rw[←e2];omega) e3
 rw[e1,u8_or_nat _ _ (Nat.lt_of_lt_of_le hn hn2) hm,zrw T k hk h8]
theorem zts(T:List Nat)(k:Nat)(hk:k<T.length)(hT:T.length≤4)(h8:∀x∈T,x<256):
 bits .or .u32 ((num (T.take k):Nat):Int) (((T.getD k 0:Nat):Int)%4294967296*2^(8*k)%4294967296)=((num (T.take (k+1)):Nat):Int):=by
 have hx:=zrv T k h8;have hm:=zgn (m:=32) hx (show 8*(k+1)≤32 by omega);have hn:=zhi T k (by omega) h8;have hn2:2^(8*k)≤2^32:=Nat.pow_le_pow_right (by omega) (by omega)
 have e1:(((T.getD k 0:Nat):Int)%4294967296*2^(8*k)%4294967296)=((T.getD k 0*2^(8*k):Nat):Int):=by
  have e2:((T.getD k 0*2^(8*k):Nat):Int)=((T.getD k 0:Nat):Int)*2^(8*k):=by simp
  have e3:((T.getD k 0*2^(8*k):Nat):Int)<4294967296:=by
   have:T.getD k 0*2^(8*k)<4294967296:=hm;omega
  rw[e2] at e3⊢;rw[Int.emod_eq_of_lt (a:=((T.getD k 0:Nat):Int)) (by omega) (by omega)];exact Int.emod_eq_of_lt (by rw[←e2];omega) e3
 rw[e1,u32_or_nat _ _ (Nat.lt_of_lt_of_le hn hn2) hm,zrw T k hk h8]
theorem ztt(T:List Nat)(k:Nat)(hk:k<T.length)(hT:T.length≤8)(h8:∀x∈T,x<256):
 bits .or .u64 ((num (T.take k):Nat):Int) (IntKind.u64.wrap (IntKind.u64.wrap ((T.getD k 0:Nat):Int)*2^(8*k)))=((num (T.take (k+1)):Nat):Int):=by
 rw[IntKind.wrap_u64,IntKind.wrap_u64];have hx:=zrv T k h8;have hm:=zgn (m:=64) hx (show 8*(k+1)≤64 by omega);have hn:=zhi T k (by omega) h8;have hn2:2^(8*k)≤2^64:=Nat.pow_le_pow_right (by omega) (by omega)
 have e1:(((T.getD k 0:Nat):Int)%18446744073709551616*2^(8*k)%18446744073709551616)=((T.getD k 0*2^(8*k):Nat):Int):=by
  have e2:((T.getD k 0*2^(8*k):Nat):Int)=((T.getD k 0:Nat):Int)*2^(8*k):=by simp
  have e3:((T.getD k 0*2^(8*k):Nat):Int)<18446744073709551616:=by
   have:T.getD k 0*2^(8*k)<18446744073709551616:=hm;omega
  rw[e2] at e3⊢;rw[Int.emod_eq_of_lt (a:=((T.getD k 0:Nat):Int)) (by omega) (by omega)];exact Int.emod_eq_of_lt (by rw[←e2];omega) e3
 rw[e1,u64_or_nat _ _ (Nat.lt_of_lt_of_le hn hn2) hm,zrw T k hk h8]
theorem z3t(x k:Nat):((x:Int)/2^(8*k)%256)=((x/256^k%256:Nat):Int):=by
 rw[show(256:Nat)^k=2^(8*k) by rw[show(256:Nat)=2^8 from rfl,←Nat.pow_mul]];simp
end Go.Hm
namespace Go.Hm
open Go Go.RowKit
theorem zl7(l:List Nat)(i j:Nat):(zae l).extract i j=zae ((l.drop i).take (j-i)):=by
 refine ByteArray.ext ?_;rw[ByteArray.data_extract];show((l.map UInt8.ofNat).toArray).extract i j=(((l.drop i).take (j-i)).map UInt8.ofNat).toArray;simp
theorem z33(l:List Nat)(i:Nat):(zae l).extract i l.length=zae (l.drop i):=by
 rw[zl7,List.take_of_length_le (by rw[List.length_drop];omega)]
theorem qes(l:List Nat)(j:Nat):(zae l).extract 0 j=zae (l.take j):=by
 rw[zl7];simp
theorem z9x(l:List Nat)(k:Nat)(h8:∀x∈l,x<256)(hk:k<(zae l).size):((zae l)[k]'hk).toNat=l.getD k 0:=by
 have hk':k<l.length:=by rwa[zbf] at hk
 show(((l.map UInt8.ofNat).toArray)[k]'(by simpa using hk')).toNat=_;simp only[List.getElem_toArray,List.getElem_map,UInt8.toNat_ofNat'];rw[List.getD_eq_getElem?_getD,List.getElem?_eq_getElem hk',Option.getD_some];exact Nat.mod_eq_of_lt (h8 _ (List.getElem_mem hk'))
section
variable{P:Program}{t:TypeId}
theorem z34(ht:P.underlying t=some .string)(l:List Nat)(h8:∀x∈l,x<256)(k:Nat)(hk:k<l.length)(w:World):
 (Instr.index t (.string (zae l)) (.int .i64 (k:Int))).run P w= .ok (.int .u8 ((l.getD k 0:Nat):Int)) w:=by
 rw[run_index_string w t (zae l) .i64 (k:Int) ht,dif_pos ⟨by omega,by rw[zbf];omega⟩];rw[z9x l _ h8];simp
theorem z9y(ht:P.underlying t=some .string)(l:List Nat)(k:Nat)(hk:k≤l.length)(w:World):
 (Instr.slice t (.string (zae l)) (some (.int .i64 (k:Int))) none none).run P w= .ok (.string (zae (l.drop k))) w:=by
 rw[run_slice_string_from_if w t (zae l) .i64 (k:Int) ht,if_pos ⟨by omega,by rw[zbf];omega⟩,Int.toNat_natCast,zbf,z33]
theorem qgv(ht:P.underlying t=some .string)(l:List Nat)(k:Nat)(hk:k≤l.length)(w:World):
 (Instr.slice t (.string (zae l)) none (some (.int .i64 (k:Int))) none).run P w= .ok (.string (zae (l.take k))) w:=by
 rw[run_slice_string_to_if w t (zae l) .i64 (k:Int) ht,if_pos ⟨by omega,by rw[zbf];omega⟩,Int.toNat_natCast,qes]
end
theorem zr2(l:List Nat)(h8:∀x∈l,x<256):Lib.strCells (zae l)=za3 .u8 l:=by
 unfold Lib.strCells za3;show((l.map UInt8.ofNat).toArray.toList).map _=_;simp only[List.map_map]
 refine List.map_congr_left fun x hx=>?_
 simp only[Function.comp,UInt8.toNat_ofNat'];rw[Nat.mod_eq_of_lt (by have:=h8 x hx;omega)]
def zmu(l:List (List Nat)):List Value:=l.map fun s=> .string (zae s)
theorem zer(l:List (List Nat)):(zmu l).length=l.length:=by simp[zmu]
theorem zwl(l m:List (List Nat)):zmu (l++m)=zmu l++zmu m:=by simp[zmu]
theorem z36(l:List (List Nat))(i:Nat)(h:i<l.length):(zmu l)[i]? =some (.string (zae (l.getD i []))):=by simp[zmu,List.getElem?_eq_getElem h]
theorem Reads.lenT{w:World}{B n:Nat}{A:Option Addr}{l:List (List Nat)}(h:Reads w B 1 A n (zmu l)):n=l.length:=by
 have:=h.1;rw[zer] at this;omega
theorem Reads.str{w:World}{B n:Nat}{A:Option Addr}{l:List (List Nat)}{i:Nat}(h:Reads w B 1 A n (zmu l))(hi:i<n):∃ad,A=some ad∧ad.block<B∧w.cell? (ad.add i)=some (.string (zae (l.getD i []))):=by
 obtain⟨ad,u,e,hb,hu,hc⟩:=h.at_ hi
 have hl:i<l.length:=by have:=h.lenT;omega
 rw[z36 l i hl] at hu;injection hu with hu;subst hu;exact⟨ad,e,hb,hc⟩
theorem znr{L:List (List Nat)}{k:Nat}{Q:List Nat→Prop}(h:∀x∈L,Q x)(hk:k<L.length):Q (L.getD k []):=by
 rw[List.getD_eq_getElem?_getD,List.getElem?_eq_getElem hk];exact h _ (List.getElem_mem hk)
section
variable{P:Program}{ops:Array Oper}{rest:List Oper}{o:Oper}{a:Act}{Q:Exit→Act→World→Prop}
theorem zew{w:World}{t e ts:TypeId}(E:ElT P t e (.int .u8 0) 1 1)(hts:P.underlying ts=some .string)(hgd:o.guard=none)(s x:Operand)
 (ho:o.op= .call {callee:= .builtin .append,args:= #[s,x],argTypes:= #[t,ts]})
 {W:World}{B base n c:Nat}{A:Option Addr}{l l2:List Nat}(hown:Own w base e (.slice A n c) (za3 .u8 l))(h8:∀x∈l2,x<256)(hs:a.eval s= .slice A n c)(hx:a.eval x= .string (zae l2))
 (hb:Below B W w)(hbB:B≤base)(hbase:base≤w.heap.size)(hn:n+l2.length≤140737488355328)
 (h:∀A' c' w',n+l2.length≤c'→c'≤maxLen→Own w' base e (.slice A' (n+l2.length) c') (za3 .u8 (l++l2))→w.grownBy w' (Value.ownBlock (.slice A n c))→Below B W w'→wpList P ops Q rest (a.put o.dst (.slice A' (n+l2.length) c')) w'):
 wpList P ops Q (o::rest) a w:=by
 obtain⟨i,hi,hz0,hz1,hz2⟩:=info_parts E.hi;have hln:=hown.len;rw[zaa] at hln
 have hown':w.ownsRow base e 1 (.slice A n c) n (za3 .u8 l):=by
  unfold Own at hown;rwa[zaa,←hln] at hown
 refine Lib.wpList_append_own_string w hgd s x t ts ho base e i E.ht hts hi hz0 hz1 hz2 _ n _ hs hown' (zae l2) hx (by rw[zbf];unfold maxLen;omega) (by rw[zbf];exact hn) hbase ?_;intro v' w' h1 h2 _;rw[zr2 l2 h8,←zdp,zbf] at h1
 have hown2:Own w' base e v' (za3 .u8 (l++l2)):=by
  unfold Own;rw[zaa,List.length_append,←hln];exact h1
 obtain⟨A',c',rfl,hc1,hc2⟩:=hown2.slice;rw[zaa,List.length_append,←hln] at hc1 hown2⊢;exact h A' c' w' hc1 hc2 hown2 h2 (hb.grown h2 (Nat.le_trans hbB hbase) (fun k hk=>by have:=(hown.lt k hk).1;omega))
end
end Go.Hm
namespace Go.Proofs.YtmgfkpnghlmheaaGreat
open Go.RowKit Go.Hm
theorem qdl:Tryz.prog.underlying 9=some .string:=by kernel_rfl
theorem elS:ElT Tryz.prog 174 9 (.string ⟨#[]⟩) 1 16:=⟨by kernel_rfl,by kernel_rfl,rfl,by omega⟩
def DrewPost(v:Value)(w:World)(e:Ending)(w':World):Prop:=e= .returned v∧∃k,w'=w.drewN k
def zap(v:Value)(w:World)(e:Ending)(w':World):Prop:=e= .returned v∧New w w'
def zdx(v:Value)(w:World)(e:Ending)(w':World):Prop:=e= .returned v∧w=w'
theorem DrewPost.new{v:Value}{w w':World}{e:Ending}(h:DrewPost v w e w'):zap v w e w':=by
 obtain⟨h1,k,rfl⟩:=h;exact⟨h1,zib w k⟩
def OptB(o:Option (List Nat))(w:World)(e:Ending)(w':World):Prop:=
 match o with
 |none=>e= .returned (.tuple #[.slice none 0 0,.bool false])∧Below w.heap.size w w'
 |some l=>∃A n c,e= .returned (.tuple #[.slice A n c,.bool true])∧Own w' w.heap.size 5 (.slice A n c) (za3 .u8 l)∧Below w.heap.size w w'
theorem OptB.u{o:Option (List Nat)}{w w':World}{e:Ending}(h:OptB o w e w'):
 ∃A n c,e= .returned (.tuple #[.slice A n c,.bool o.isSome])∧Own w' w.heap.size 5 (.slice A n c) (za3 .u8 (o.getD []))∧Below w.heap.size w w':=by
 cases o with
 |none=>exact⟨none,0,0,h.1,Own.nil_,h.2⟩
 |some l=>exact h
def OptW(o:Option (List Nat))(w:World)(e:Ending)(w':World):Prop:=
 match o with
 |none=>e= .returned (.tuple #[.slice none 0 0,.bool false])∧Below w.heap.size w w'
 |some l=>∃A n c,e= .returned (.tuple #[.slice A n c,.bool true])∧Own w' w.heap.size 87 (.slice A n c) (za3 .u64 l)∧Below w.heap.size w w'
theorem OptW.u{o:Option (List Nat)}{w w':World}{e:Ending}(h:OptW o w e w'):
 ∃A n c,e= .returned (.tuple #[.slice A n c,.bool o.isSome])∧Own w' w.heap.size 87 (.slice A n c) (za3 .u64 (o.getD []))∧Below w.heap.size w w':=by
 cases o with
 |none=>exact⟨none,0,0,h.1,Own.nil_,h.2⟩
 |some l=>exact h
def OptT(o:Option (List (List Nat)))(w:World)(e:Ending)(w':World):Prop:=
 match o with
 |none=>e= .returned (.tuple #[.slice none 0 0,.bool false])∧Below w.heap.size w w'
 |some l=>∃A n c,e= .returned (.tuple #[.slice A n c,.bool true])∧Own w' w.heap.size 9 (.slice A n c) (zmu l)∧Below w.heap.size w w'
theorem OptT.u{o:Option (List (List Nat))}{w w':World}{e:Ending}(h:OptT o w e w'):
 ∃A n c,e= .returned (.tuple #[.slice A n c,.bool o.isSome])∧Own w' w.heap.size 9 (.slice A n c) (zmu (o.getD []))∧Below w.heap.size w w':=by
 cases o with
 |none=>exact⟨none,0,0,h.1,Own.nil_,h.2⟩
 |some l=>exact h
end Go.Proofs.YtmgfkpnghlmheaaGreat
namespace Go.Hm
def pv:Nat→List Nat→Option (Nat × List Nat)
 |0,_=>none
 |_+1,[]=>none
 |f+1,b::r=>if b<128 then some (b,r) else
   match pv f r with
   |some (0,_)=>none
   |some (N+1,r')=>some (b-128+128*(N+1),r')
   |none=>none
theorem qgy:∀(f N:Nat) (r:List Nat),(vp N).length≤f→pv f (vp N++r)=some (N,r):=by
 intro f
 induction f with
 |zero=>intro N r h;have:=zl4 N;omega
 |succ f ih=>
  intro N r h;by_cases hN:N<128
  ·rw[ze0 hN];simp[pv,hN]
  ·rw[zfn hN] at h⊢
   simp only[List.cons_append,pv];rw[if_neg (by omega),ih (N/128) r (by simpa using h)];obtain⟨m,hm⟩:∃m,N/128=m+1:=⟨N/128-1,by omega⟩;simp only[hm]
   congr 2
   omega
theorem qew:∀(f N:Nat) (l r:List Nat),(∀x∈l,x<256)→pv f l=some (N,r)→l=vp N++r∧(vp N).length≤f:=by
 intro f
 induction f with
 |zero=>intro N l r _ h;simp[pv] at h
 |succ f ih=>
  intro N l r h8 h
  cases l with
  |nil=>simp[pv] at h
  |cons b s=>
   simp only[pv] at h;by_cases hb:b<128
   ·rw[if_pos hb] at h
    simp only[Option.some.injEq,Prod.mk.injEq] at h;obtain⟨rfl,rfl⟩:=h;rw[ze0 hb];simp
   ·rw[if_neg hb] at h
    split at h
    ·simp at h
    ·rename_i M r' hM
     simp only[Option.some.injEq,Prod.mk.injEq] at h;obtain⟨rfl,rfl⟩:=h;obtain⟨h1,h2⟩:=ih _ _ _ (fun x hx=>h8 x (by simp[hx])) hM;have hb2:=h8 b (by simp);rw[zfn (by omega),show(b-128+128*(M+1))/128=M+1 by omega,show(b-128+128*(M+1))%128+128=b by omega,List.cons_append,←h1];refine⟨rfl,by simp;exact h2⟩
    ·simp at h
def gv(l:List Nat):Option (Nat × List Nat):=
 match pv 10 l with
 |some (N,r)=>if N<18446744073709551616 then some (N,r) else none
 |none=>none
theorem qdm(N:Nat)(r:List Nat)(hN:N<18446744073709551616):gv (vp N++r)=some (N,r):=by
 unfold gv;rw[qgy 10 N r (zaj hN)];simp[hN]
theorem zwn{l r:List Nat}{N:Nat}(h8:∀x∈l,x<256)(h:gv l=some (N,r)):l=vp N++r∧N<18446744073709551616:=by
 unfold gv at h;split at h
 ·rename_i M s hM
  split at h
  ·simp only[Option.some.injEq,Prod.mk.injEq] at h
   obtain⟨rfl,rfl⟩:=h;exact⟨(qew _ _ _ _ h8 hM).1,‹_›⟩
  ·cases h
 ·cases h
theorem qex{l:List Nat}(h:gv l=none):∀N r,l=vp N++r→18446744073709551616≤N:=by
 intro N r hl;rcases Nat.lt_or_ge N 18446744073709551616 with hN|hN
 ·rw[hl,qdm N r hN] at h
  cases h
 ·exact hN
abbrev St:=Option (List Nat)
def zh3:St→Nat × St
 |none=>(0,none)
 |some l=>match gv l with
  |some (N,r)=>(N,some r)
  |none=>(0,none)
def lenS(m:Int)(S:St):Nat × St:=
 match zh3 S with
 |(N,some r)=>if(N:Int)≤m then(N,some r) else(0,none)
 |(_,none)=>(0,none)
def zbc:St→Nat × St
 |some (b::r)=>(b,some r)
 |_=>(0,none)
def zbv(n:Int):St→List Nat × St
 |some l=>if 0≤n∧n≤(l.length:Int) then(l.take n.toNat,some (l.drop n.toNat)) else([],none)
 |none=>([],none)
def zpw(S:St):Bool:=decide (S=some [])
def St.ok(S:St):Prop:=∀l,S=some l→∀x∈l,x<256
theorem St.ok_none:St.ok none:=fun _ h=>by cases h
theorem St.ok_some{l:List Nat}(h:∀x∈l,x<256):St.ok (some l):=fun _ e=>by injection e with e;subst e;exact h
theorem ziz(N:Nat)(r:List Nat)(hN:N<18446744073709551616):zh3 (some (vp N++r))=(N,some r):=by simp[zh3,qdm N r hN]
theorem zb2(N:Nat)(r:List Nat){m:Int}(hN:(N:Int)≤m)(hm:m≤9223372036854775807):lenS m (some (vp N++r))=(N,some r):=by
 simp only[lenS,ziz N r (by omega),if_pos hN]
theorem zgu(m:Int):lenS m none=(0,none):=rfl
theorem z38:zh3 none=(0,none):=rfl
theorem zi0:zbc none=(0,none):=rfl
theorem zdt(n:Int):zbv n none=([],none):=rfl
theorem zbo(m:Int)(S:St)(hS:S.ok):lenS m S=(0,none)∨∃N r,S=some (vp N++r)∧(N:Int)≤m∧N<18446744073709551616∧lenS m S=(N,some r):=by
 unfold lenS zh3
 cases S with
 |none=>exact .inl rfl
 |some l=>
  simp only
  cases hg:gv l with
  |none=>exact .inl rfl
  |some p=>
   obtain⟨N,r⟩:=p;obtain⟨h1,h2⟩:=zwn (hS l rfl) hg;simp only;split
   ·exact .inr ⟨N,r,by rw[h1],‹_›,h2,rfl⟩
   ·exact .inl rfl
theorem zgv(S:St)(hS:S.ok):zh3 S=(0,none)∨∃N r,S=some (vp N++r)∧N<18446744073709551616∧zh3 S=(N,some r):=by
 unfold zh3
 cases S with
 |none=>exact .inl rfl
 |some l=>
  simp only
  cases hg:gv l with
  |none=>exact .inl rfl
  |some p=>
   obtain⟨N,r⟩:=p;obtain⟨h1,h2⟩:=zwn (hS l rfl) hg;exact .inr ⟨N,r,by rw[h1],h2,rfl⟩
theorem zb9(n:Int)(S:St):zbv n S=([],none)∨∃l,S=some l∧0≤n∧n≤(l.length:Int)∧zbv n S=(l.take n.toNat,some (l.drop n.toNat)):=by
 unfold zbv
 cases S with
 |none=>exact .inl rfl
 |some l=>
  simp only;split
  ·rename_i h;exact .inr ⟨l,rfl,h.1,h.2,rfl⟩
  ·exact .inl rfl
theorem zdf(a b:List Nat):zbv (a.length:Int) (some (a++b))=(a,some b):=by
 simp only[zbv];rw[if_pos ⟨by omega,by rw[List.length_append];omega⟩];simp
theorem zb0{m:Int}(S:St)(hm:0≤m)(hS:S.ok):((lenS m S).1:Int)≤m:=by
 rcases zbo m S hS with h|⟨N,r,_,h1,_,h⟩
 ·rw[h];exact hm
 ·rw[h];exact h1
theorem za5{m:Int}{S:St}(hS:S.ok):(lenS m S).2.ok:=by
 rcases zbo m S hS with h|⟨N,r,h0,_,_,h⟩
 ·rw[h];exact St.ok_none
 ·rw[h];exact St.ok_some fun x hx=>hS _ h0 x (by simp[hx])
theorem zr3{S:St}(hS:S.ok):(zh3 S).2.ok:=by
 rcases zgv S hS with h|⟨N,r,h0,_,h⟩
 ·rw[h];exact St.ok_none
 ·rw[h];exact St.ok_some fun x hx=>hS _ h0 x (by simp[hx])
theorem zjp{S:St}(hS:S.ok):(zh3 S).1<18446744073709551616:=by
 rcases zgv S hS with h|⟨N,r,h0,h1,h⟩
 ·rw[h];decide
 ·rw[h];exact h1
theorem zm4{S:St}(hS:S.ok):(zbc S).2.ok:=by
 unfold zbc;split
 ·exact St.ok_some fun x hx=>hS _ rfl x (by simp[hx])
 ·exact St.ok_none
theorem zho{S:St}(hS:S.ok):(zbc S).1<256:=by
 unfold zbc;split
 ·exact hS _ rfl _ (by simp)
 ·decide
theorem zcr{n:Int}{S:St}(hS:S.ok):(zbv n S).2.ok∧∀x∈(zbv n S).1,x<256:=by
 rcases zb9 n S with h|⟨l,h0,_,_,h⟩
 ·rw[h];exact⟨St.ok_none,by simp⟩
 ·rw[h];exact⟨St.ok_some fun x hx=>hS _ h0 x (List.mem_of_mem_drop hx),fun x hx=>hS _ h0 x (List.mem_of_mem_take hx)⟩
theorem zej{n:Int}{S:St}(hn:0≤n):((zbv n S).1.length:Int)≤n:=by
 rcases zb9 n S with h|⟨l,_,h1,h2,h⟩
 ·rw[h];simpa using hn
 ·rw[h,List.length_take];omega
theorem zc3{m:Int}{S:St}(hS:S.ok):((lenS m S).2.getD []).length≤(S.getD []).length:=by
 rcases zbo m S hS with h|⟨N,r,rfl,_,_,h⟩
 ·rw[h];simp
 ·rw[h];simp
theorem znt{S:St}:((zbc S).2.getD []).length≤(S.getD []).length:=by
 unfold zbc;split<;> simp
end Go.Hm
namespace Go.Hm
open Go Go.RowKit
section
variable{w w':World}{base sz n:Nat}{e:TypeId}{v:Value}{xs:List Value}
theorem z4f{B:Nat}(h:w.ownsRow base e sz v n xs)(hb:Below B w w')(hB:w.heap.size≤B):w'.ownsRow base e sz v n xs:=by
 refine⟨h.1,?_⟩;rcases h.2 with hn|⟨g,cap,cur,rfl,hbg,hgg,rest⟩
 ·exact .inl hn
 ·refine .inr ⟨g,cap,cur,rfl,hbg,?_,rest⟩
  rw[hb.block g (Nat.lt_of_lt_of_le (Array.getElem?_eq_some_iff.1 hgg).1 hB)];exact hgg
theorem zau(h:w.ownsRow base e sz v n xs)(hb:New w w'):w'.ownsRow base e sz v n xs:=z4f h hb (Nat.le_refl _)
theorem zbd{b':Nat}(h:w.ownsRow base e sz v n xs)(hb:b'≤base):w.ownsRow b' e sz v n xs:=by
 refine⟨h.1,?_⟩;rcases h.2 with hn|⟨g,cap,cur,hv,hbg,rest⟩
 ·exact .inl hn
 ·exact .inr ⟨g,cap,cur,hv,Nat.le_trans hb hbg,rest⟩
theorem zcg(h:w.ownsRow base e sz v n xs):∃A c,v= .slice A n c∧n≤c∧c≤maxLen:=by
 rcases h.2 with⟨hv,hn⟩|⟨g,cap,cur,hv,_,_,hc,hm,_⟩
 ·exact⟨none,0,by rw[hv,hn],by omega,by simp[maxLen]⟩
 ·exact⟨_,_,hv,hc,hm⟩
theorem zcp:w.ownsRow base e sz (.slice none 0 0) 0 []:=⟨by simp,.inl ⟨rfl,rfl⟩⟩
theorem zal{g:Nat}{t:TypeId}{cs:Array Value}(h:w.ownsRow base e sz v n xs)(hg:Blk w g t cs)(hne:e≠t):v.ownBlock≠some g:=by
 rcases h.2 with⟨rfl,_⟩|⟨g',cap,cur,rfl,_,hh,_⟩
 ·simp[Value.ownBlock]
 ·intro he
  have:g'=g:=by simpa[Value.ownBlock] using he
  subst this;exact Blk.ne_ (t:=e) hh hg hne rfl
end
theorem z04(a b c:Value)(n:Nat):(madeCells #[a,b,c] (n*3)).toList=(List.replicate n [a,b,c]).flatten:=by
 induction n with
 |zero=>simp[madeCells]
 |succ n ih=>
  rw[List.replicate_succ',List.flatten_append,←ih]
  have e:∀m,m%3=0→(madeCells #[a,b,c] (m+3)).toList=(madeCells #[a,b,c] m).toList++[a,b,c]:=by
   intro m hm;simp only[madeCells,Array.toList_map,Array.toList_range,List.range_succ,List.map_append,List.map_cons,List.map_nil,List.append_assoc,List.cons_append,List.nil_append,List.size_toArray,List.length_cons,List.length_nil];rw[hm,show(m+1)%3=1 by omega,show(m+2)%3=2 by omega];rfl
  rw[Nat.succ_mul,e (n*3) (by omega)];simp
section
variable{P:Program}{ops:Array Oper}{rest:List Oper}{o:Oper}{a:Act}{Q:Exit→Act→World→Prop}
theorem zda{w:World}{t e:TypeId}{z:Value}{sz bytes:Nat}(E:ElT P t e z sz bytes)(hgd:o.guard=none)(s x:Operand)
 (ho:o.op= .call {callee:= .builtin .append,args:= #[s,x],argTypes:= #[t,t]})
 {W:World}{B base n:Nat}{v:Value}{us xs:List Value}(hown:w.ownsRow base e sz v n xs)(hs:a.eval s=v)(hx:a.eval x= .slice (some ⟨w.heap.size,0,none⟩) 1 1)
 (hb:Below B W w)(hbB:B≤base)(hbase:base≤w.heap.size)(hus:us.length=sz)(h1:∀u∈us,u.oneCell'=true)
 (hn:(n+1)*bytes≤140737488355328)(hm:n+1≤maxLen)
 (h:∀A' c' w',n+1≤c'→c'≤maxLen→w'.ownsRow base e sz (.slice A' (n+1) c') (n+1) (xs++us)→w.grownBy w' v.ownBlock→Below B W w'→w.heap.size<w'.heap.size→
  (Value.ownBlock (.slice A' (n+1) c')=v.ownBlock∨∃g,Value.ownBlock (.slice A' (n+1) c')=some g∧w.heap.size≤g)→wpList P ops Q rest (a.put o.dst (.slice A' (n+1) c')) w'):
 wpList P ops Q (o::rest) a (w.alloc (.cells us.toArray e)):=by
 obtain⟨i,hi,hz0,hz1,hz2⟩:=info_parts E.hi;refine wpList_append_own_at _ hgd s x t ho base e i z sz bytes E.ht hi hz0 hz1 hz2 E.hz E.hs v n xs hs (World.ownsRow.alloc hown _) ⟨w.heap.size,0,none⟩ 1 1 us hx (by omega) ?_ h1 hm hn (by simp;omega) ?_
 ·have:=World.news_of_block (heap_alloc_new w (.cells us.toArray e))
  simpa using this
 intro v' w' hown' hg _ hat;obtain⟨A',c',rfl,hc1,hc2⟩:=zcg hown';have hg2:w.grownBy w' v.ownBlock:=(World.grownBy_alloc w (.cells us.toArray e) v.ownBlock).trans hg;have hsz:=hg.size;simp at hsz;refine h A' c' w' hc1 hc2 hown' hg2 (hb.grown hg2 (Nat.le_trans hbB hbase) (fun k hk=>by have:=(World.ownsRow.lt hown k hk).1;omega)) (by omega) ?_;rcases hat with e1|e1
 ·exact .inl e1
 ·exact .inr ⟨_,e1,by simp⟩
theorem z05{w:World}{t e:TypeId}{x y z:Value}{bytes:Nat}(E:ElT P t e (.agg #[x,y,z]) 3 bytes)(hgd:o.guard=none)(lo co:Operand)(ho:o.op=Op.makeSlice t lo co)
 {W:World}{B:Nat}{kl kc:IntKind}{L C:Int}(n:Nat)(hl:a.eval lo= .int kl L)(hc:a.eval co= .int kc C)(hL:L=(n:Int))(hC:C=(n:Int))(hb:Below B W w)(hbase:B≤w.heap.size)
 (hn:n*bytes≤140737488355328)(hm:n≤maxLen)
 (h:∀w',w'.ownsRow w.heap.size e 3 (.slice (some ⟨w.heap.size,0,none⟩) n n) n (List.replicate n [x,y,z]).flatten→w.grownBy w' none→Below B W w'→w'.heap.size=w.heap.size+1→wpList P ops Q rest (a.put o.dst (.slice (some ⟨w.heap.size,0,none⟩) n n)) w'):
 wpList P ops Q (o::rest) a w:=by
 obtain⟨i,hi,hz0,hs1,hb1⟩:=info_parts E.hi;subst hL hC
 have hmC:(n:Int)≤9223372036854775807:=by have h:=hm;simp only[maxLen] at h;omega
 have hbC:(i.bytes:Int)*(n:Int)≤281474976710656:=by
  have h:((i.bytes*n:Nat):Int)≤281474976710656:=by rw[hb1,Nat.mul_comm];omega
  rwa[Int.natCast_mul] at h
 have hrun:=run_make (P:=P) w t e i (.agg #[x,y,z]) E.ht hi hz0 kl kc (n:Int) (n:Int) (by omega) (by omega) hbC hmC;rw[Int.toNat_natCast,hs1] at hrun
 refine wpList_plain hgd fun K hK=>?_
 unfold Oper.wp;simp[execOp,ho,hl,hc,hrun,Result.andThen];refine hK _ _ (h _ ?_ (World.grownBy_alloc _ _ _) (hb.alloc hbase _) (by simp));refine⟨by simp,.inr ⟨_,n,_,rfl,Nat.le_refl _,heap_alloc_new w _,Nat.le_refl _,hm,by simp[size_madeCells],?_⟩⟩;rw[List.take_of_length_le (by simp[size_madeCells])];exact z04 x y z n
end
theorem z4g{w w' W:World}{gc gm:Nat}(hb:w.grownBy w' (some gc))(hg:w'.grownBy W (some gm))(hle:w.heap.size≤gm):w.grownBy W (some gc):=
 ⟨hg.os.trans hb.os,hg.tape.trans hb.tape,hg.output.trans hb.output,Nat.le_trans hb.size hg.size,fun k hk hne=>(hg.block k (Nat.lt_of_lt_of_le hk hb.size) (fun e=>by injection e with e;omega)).trans (hb.block k hk hne)⟩
theorem zie{w:World}{base:Nat}{e:TypeId}{g n c sz:Nat}{xs:List Value}(h:w.ownsRow base e sz (.slice (some ⟨g,0,none⟩) n c) n xs):∃cs,Blk w g e cs:=by
 rcases h.2 with⟨hv,_⟩|⟨g',cap,cur,hv,_,hh,_⟩
 ·cases hv
 ·injection hv with e1 _ _
  injection e1 with e1;injection e1 with e1;subst e1;exact⟨cur,hh⟩
theorem qac{A B:List Value}{x y z a b c:Value}{m:Nat}(h:A.length=m):(((A++([x,y,z]++B)).set m a).set (m+1) b).set (m+2) c=A++([a,b,c]++B):=by
 subst h;rw[List.set_append_right _ _ (Nat.le_refl _),List.set_append_right _ _ (by omega),List.set_append_right _ _ (by omega)];simp
theorem qad{w:World}{base:Nat}{e:TypeId}{g n c m:Nat}{A B:List Value}{x y z a b d:Value}(h:w.ownsRow base e 3 (.slice (some ⟨g,0,none⟩) n c) n (A++([x,y,z]++B)))(hm:A.length=m):
 ∃W,W=((w.setCell ⟨g,m,none⟩ a).setCell ⟨g,m+1,none⟩ b).setCell ⟨g,m+2,none⟩ d∧W.ownsRow base e 3 (.slice (some ⟨g,0,none⟩) n c) n (A++([a,b,d]++B))∧w.grownBy W (some g):=by
 obtain⟨h1,g1⟩:=h.stored m a;obtain⟨h2,g2⟩:=h1.stored (m+1) b;obtain⟨h3,g3⟩:=h2.stored (m+2) d;rw[qac hm] at h3;exact⟨_,rfl,h3,(g1.trans g2).trans g3⟩
theorem z4h{w w':World}{g gc:Nat}{ty:TypeId}{x y z a b c:Value}(h:Blk w' g ty #[x,y,z])(hb:w.grownBy w' (some gc))(hg:w.heap.size≤g):
 ∃W3,W3=(((w'.setCell ⟨g,0,none⟩ a).setCell ⟨g,1,none⟩ b).setCell ⟨g,2,none⟩ c)∧Blk W3 g ty #[a,b,c]∧w.grownBy W3 (some gc)∧∀k,k≠g→W3.heap[k]? =w'.heap[k]? :=by
 refine⟨_,rfl,by simpa using((h.set_ 0 a).set_ 1 b).set_ 2 c,⟨hb.os,hb.tape,hb.output,by simpa[World.setCell] using hb.size,fun k hk hne=>?_⟩,fun k hk=>?_⟩
 ·rw[Below.heap_setCell _ _ _ _ (show k≠g by omega),Below.heap_setCell _ _ _ _ (show k≠g by omega),Below.heap_setCell _ _ _ _ (show k≠g by omega)]
  exact hb.block k hk hne
 ·rw[Below.heap_setCell _ _ _ _ hk,Below.heap_setCell _ _ _ _ hk,Below.heap_setCell _ _ _ _ hk]
theorem z06{w:World}{row:Option Nat}:w.grownBy w.drew row:=⟨rfl,rfl,rfl,Nat.le_refl _,fun _ _ _=>rfl⟩
theorem zga{w0:World}{p:Addr}{u:Value}(h:w0.cell? p=some u)(hp:p.block<w0.drew.heap.size):∀W,New w0.drew W→W.cell? p=some u:=fun _ hW=>(Below.cell hW hp).trans h
theorem Reads.litR(w:World)(e:TypeId)(cs:Array Value)(n sz:Nat)(xs:List Value)(h:cs.toList=xs)(hn:xs.length=n*sz):Reads (w.alloc (.cells cs e)) (w.alloc (.cells cs e)).heap.size sz (some ⟨w.heap.size,0,none⟩) n xs:=by
 refine⟨hn,fun _=>⟨_,rfl,by simp,?_⟩⟩;have:=World.news_of_block (heap_alloc_new w (.cells cs e));rwa[h] at this
theorem Reads.pair2{w:World}{B n i:Nat}{A:Option Addr}{l:List (Int × Int)}(h:Reads w B 2 A n (zcy l))(hi:i<n):
 ∃ad,A=some ad∧ad.block<B∧w.cell? (ad.add (i*2))=some (.int .i64 (l.getD i (0,0)).1)∧w.cell? ⟨(ad.add (i*2)).block,(ad.add (i*2)).off+1,none⟩=some (.int .i64 (l.getD i (0,0)).2):=by
 obtain⟨ad,h1,h2,h3,h4⟩:=h.pair hi;rw[←za7] at h4;exact⟨ad,h1,h2,h3,h4⟩
end Go.Hm
namespace Go.Hm
open Go Go.RowKit
abbrev za0:=List Nat × Int × Bool
def zh4(c:za0):List Value:=[.string (zae c.1),.int .i64 c.2.1,.bool c.2.2]
theorem Reads.colT{w:World}{B n i:Nat}{A:Option Addr}{l:List za0}(h:Reads w B 3 A n (recs zh4 l))(hi:i<n):
 ∃ad,A=some ad∧ad.block<B∧w.cell? (ad.add (i*3))=some (.string (zae (l.getD i ([],0,false)).1))∧w.cell? ⟨(ad.add (i*3)).block,(ad.add (i*3)).off+1,none⟩=some (.int .i64 (l.getD i ([],0,false)).2.1)∧w.cell? ⟨(ad.add (i*3)).block,(ad.add (i*3)).off+2,none⟩=some (.bool (l.getD i ([],0,false)).2.2):=by
 obtain⟨ad,h1,h2,_,h3⟩:=h.rec_ (f:=zh4) (sz:=3) (fun _=>rfl) ([],0,false) hi (by omega);refine⟨ad,h1,h2,h3 0 _ rfl,?_,?_⟩
 ·have:=h3 1 _ rfl
  rw[←za7] at this;exact this
 ·have:=h3 2 _ rfl
  rw[←za7] at this;exact this
theorem Reads.lenC{w:World}{B n:Nat}{A:Option Addr}{l:List za0}(h:Reads w B 3 A n (recs zh4 l)):n=l.length:=h.lenR (f:=zh4) (sz:=3) (fun _=>rfl) (by omega)
theorem zaf{w:World}{g:Nat}{ty:TypeId}{x y z:Value}(h:Blk w g ty #[x,y,z]):w.cell? ⟨g,0,none⟩=some x∧w.cell? ⟨g,1,none⟩=some y∧w.cell? ⟨g,2,none⟩=some z:=by
 have h0:=h.cell 0;have h1:=h.cell 1;have h2:=h.cell 2;simp at h0 h1 h2;exact⟨h0,h1,h2⟩
end Go.Hm
namespace Go.Hm
open Go Go.RowKit
abbrev zab:=Bool × Int × List Nat × Int × Int
def zak(c:zab):List Value:=[.bool c.1,.int .i64 c.2.1,.string (zae c.2.2.1),.int .i64 c.2.2.2.1,.int .i64 c.2.2.2.2]
def zay:zab:=(false,0,[],0,0)
def zcz(c:zab):Value:= .agg (zak c).toArray
def inBox(x y:Int):Bool:=decide (-1048576≤x)&&decide (x≤1048576)&&decide (-1048576≤y)&&decide (y≤1048576)
def zac(c:zab)(t:Int)(nu:Bool):Bool:=
 if c.1 then nu&&decide (c.2.1=0∧c.2.2.1=[]∧c.2.2.2.1=0∧c.2.2.2.2=0)
 else if t=0 then decide (c.2.2.1=[]∧c.2.2.2.1=0∧c.2.2.2.2=0)
 else if t=1 then decide ((c.2.2.1=[]∧c.2.2.2.1=0∧c.2.2.2.2=0)∧(c.2.1=0∨c.2.1=1))
 else if t=2 then decide ((c.2.1=0∧c.2.2.2.1=0∧c.2.2.2.2=0)∧c.2.2.1.length≤65536)
 else if t=3 then decide (c.2.1=0∧c.2.2.1=[])&&inBox c.2.2.2.1 c.2.2.2.2
 else false
theorem zcm{w:World}{g:Nat}{ty:TypeId}{a b c d e:Value}(h:Blk w g ty #[a,b,c,d,e]):w.cell? ⟨g,0,none⟩=some a∧w.cell? ⟨g,1,none⟩=some b∧w.cell? ⟨g,2,none⟩=some c∧w.cell? ⟨g,3,none⟩=some d∧w.cell? ⟨g,4,none⟩=some e:=by
 have h0:=h.cell 0;have h1:=h.cell 1;have h2:=h.cell 2;have h3:=h.cell 3;have h4:=h.cell 4;simp at h0 h1 h2 h3 h4;exact⟨h0,h1,h2,h3,h4⟩
theorem zbe{w:World}{g:Nat}{ty:TypeId}{a b:Value}(h:Blk w g ty #[a,b]):w.cell? ⟨g,0,none⟩=some a∧w.cell? ⟨g,1,none⟩=some b:=by
 have h0:=h.cell 0;have h1:=h.cell 1;simp at h0 h1;exact⟨h0,h1⟩
theorem Reads.cell5{w:World}{B n i:Nat}{A:Option Addr}{l:List zab}(h:Reads w B 5 A n (recs zak l))(hi:i<n):
 ∃ad,A=some ad∧ad.block<B∧w.cell? (ad.add (i*5))=some (.bool (l.getD i (false,0,[],0,0)).1)∧w.cell? ⟨(ad.add (i*5)).block,(ad.add (i*5)).off+1,none⟩=some (.int .i64 (l.getD i (false,0,[],0,0)).2.1)
  ∧w.cell? ⟨(ad.add (i*5)).block,(ad.add (i*5)).off+2,none⟩=some (.string (zae (l.getD i (false,0,[],0,0)).2.2.1))∧w.cell? ⟨(ad.add (i*5)).block,(ad.add (i*5)).off+3,none⟩=some (.int .i64 (l.getD i (false,0,[],0,0)).2.2.2.1)
  ∧w.cell? ⟨(ad.add (i*5)).block,(ad.add (i*5)).off+4,none⟩=some (.int .i64 (l.getD i (false,0,[],0,0)).2.2.2.2):=by
 obtain⟨ad,h1,h2,_,h3⟩:=h.rec_ (f:=zak) (sz:=5) (fun _=>rfl) (false,0,[],0,0) hi (by omega);refine⟨ad,h1,h2,h3 0 _ rfl,?_,?_,?_,?_⟩
 ·have:=h3 1 _ rfl
  rw[←za7] at this;exact this
 ·have:=h3 2 _ rfl
  rw[←za7] at this;exact this
 ·have:=h3 3 _ rfl
  rw[←za7] at this;exact this
 ·have:=h3 4 _ rfl
  rw[←za7] at this;exact this
theorem Reads.lenCell{w:World}{B n:Nat}{A:Option Addr}{l:List zab}(h:Reads w B 5 A n (recs zak l)):n=l.length:=h.lenR (f:=zak) (sz:=5) (fun _=>rfl) (by omega)
end Go.Hm
