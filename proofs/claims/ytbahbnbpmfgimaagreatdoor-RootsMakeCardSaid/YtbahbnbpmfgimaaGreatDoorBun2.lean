import Derived.Deep.Fields
import Derived.OpenShut
import Derived.Shelf.Strconv.Itoa0
import Derived.Test.YtbahbnbpmfgimaaGreatDoorBun1
import Derived.Test.YtbahbnbpmfgimaaGreatDoorRows
set_option maxHeartbeats 200000
namespace Go.Proofs.Y
open Go.Shelf
def zxg:Go.Shelf.Ren:=⟨fun|129=>120|n=>n,fun|53=>138|3=>3|4=>4|46=>170|5=>5|9=>9|n=>n,fun|n=>n⟩
theorem qfs:Go.Proofs.Lays.n129 Tryz.prog zxg:={
 mixed:=by kernel_rfl
 f129:=Tryz.func120.trans (congrArg some (by kernel_rfl))
 t3:=Tryz.underlying3
 a3:=Tryz.isAgg3
 z3:=Tryz.sizeOf3
 v3:=Tryz.zeroValue3
 t4:=Tryz.underlying4
 a4:=Tryz.isAgg4
 z4:=Tryz.sizeOf4
 v4:=Tryz.zeroValue4
 t5:=Tryz.underlying5
 a5:=Tryz.isAgg5
 z5:=Tryz.sizeOf5
 v5:=Tryz.zeroValue5
 t9:=Tryz.underlying9
 a9:=Tryz.isAgg9
 z9:=Tryz.sizeOf9
 v9:=Tryz.zeroValue9
 t46:=Tryz.underlying170
 a46:=Tryz.isAgg170
 z46:=Tryz.sizeOf170
 v46:=Tryz.zeroValue170
 t53:=Tryz.underlying138
 a53:=Tryz.isAgg138
 z53:=Tryz.sizeOf138
 v53:=Tryz.zeroValue138}
theorem bits_Len64(x:Int)(w:World)(h0:0<=x)(h1:x<=18446744073709551615):
 Calls Tryz.prog 120 #[.int .u64 x] w fun e w'=>e= .returned (.int .i64 (Lib.bitLen x.toNat))/\w'=w:=Any.bits_Len64 qfs x w h0 h1
open Go.Hm
theorem Tryz.own:ownKnob Tryz.prog.godebug=none:=by kernel_rfl
theorem Tryz.laidOut:laidOutB Tryz.prog=true:=by kernel_rfl
theorem elB:ElT Tryz.prog 24 5 (.int .u8 0) 1 1:=⟨by kernel_rfl,by kernel_rfl,rfl,by omega⟩
theorem elW:ElT Tryz.prog 201 138 (.int .u64 0) 1 8:=⟨by kernel_rfl,by kernel_rfl,rfl,by omega⟩
theorem elI:ElT Tryz.prog 57 3 (.int .i64 0) 1 8:=⟨by kernel_rfl,by kernel_rfl,rfl,by omega⟩
theorem znu{w:World}{B n c:Nat}{A:Option Addr}{l:List Nat}(h:Reads w B 1 A n (zah .u8 l)):(convert 24 9 (.slice A n c)).run Tryz.prog w= .ok (.string (zai l)) w:=
 z42 (e:=5) (by kernel_rfl) (by kernel_rfl) (by kernel_rfl) h
end Go.Proofs.Y
namespace Go.Hm
open Go.RowKit
theorem Own.at0{w:World}{base:Nat}{e:TypeId}{g n c i:Nat}{xs:List Value}(h:Own w base e (.slice (some ⟨g,0,none⟩) n c) xs)(hi:i<n):
 ∃u,xs[i]? =some u/\base<=g/\g<w.heap.size/\w.cell? ⟨g,i,none⟩=some u/\w.frozen? ⟨g,i,none⟩=false/\
  ∀u':Value,Own (w.setCell ⟨g,i,none⟩ u') base e (.slice (some ⟨g,0,none⟩) n c) (xs.set i u'):=by
 obtain⟨g',u,he,h1,h2,h3,h4,h5,h6⟩:=h.at_ hi;injection he with he;injection he with he;subst he;exact⟨u,h3,h1,h2,h4,h5,h6⟩
theorem Own.num0{w:World}{base:Nat}{e:TypeId}{g n c i:Nat}{k:IntKind}{l:List Nat}(h:Own w base e (.slice (some ⟨g,0,none⟩) n c) (zah k l))(hi:i<n):
 base<=g/\g<w.heap.size/\w.cell? ⟨g,i,none⟩=some (.int k ((l.getD i 0:Nat):Int))/\w.frozen? ⟨g,i,none⟩=false/\
  ∀y:Nat,Own (w.setCell ⟨g,i,none⟩ (.int k (y:Int))) base e (.slice (some ⟨g,0,none⟩) n c) (zah k (l.set i y)):=by
 have hn:=h.len;rw[zaa] at hn;obtain⟨u,h3,h1,h2,h4,h5,h6⟩:=h.at0 hi;rw[zxf k l i (by omega)] at h3;injection h3 with h3;subst h3;exact⟨h1,h2,h4,h5,fun y=>by rw[<-qax];exact h6 _⟩
theorem qk4(a b:Nat)(ha:a<=9223372036854775807):IntKind.i64.wrap ((a:Int)/(b:Int))=((a/b:Nat):Int):=by rw[<-Int.natCast_ediv];have:a/b<=a:=qnh _ _;generalize a/b=q at*;exact qre _ (by omega)
theorem zsm(a:Nat)(ha:a<=9223372036854775807):∃q r:Nat,Hid (q=a/8/\r=a%8)/\8*q<=a/\r<8/\a<8*q+8/\IntKind.i64.wrap ((a:Int)/8)=(q:Int)/\(a:Int).tmod 8=(r:Int):=
 ⟨a/8,a%8,qrf ⟨rfl,rfl⟩,by omega,by omega,by omega,qk4 a 8 ha,by rw[qni (by omega)];omega⟩
theorem qkb(y j:Nat)(hy:y<=18446744073709551615):∃t:Nat,Hid (t=y/2^j%2)/\t<=1/\bits .and .u64 ((y:Int)/2^j) 1=(t:Int)/\IntKind.u8.wrap (t:Int)=(t:Int):=by refine⟨y/2^j%2,qrf rfl,by omega,?_,by rw[qrg];omega⟩;have h1:y/2^j<=y:=qnh _ _;have:=u64_and_nat (y/2^j) 1 (by omega) (by omega);rw[Nat.and_one_is_mod] at this;rw[<-this];congr 1
theorem qft(b r q:Nat)(hb:b<2^r)(hc:q<=1)(hr:r<8):bits .or .u8 (b:Int) ((q:Int)*2^r%256)=((b+q*2^r:Nat):Int):=by
 have h7:2^r<=2^7:=qnj (by omega) (by omega);have hq:q*2^r<=1*2^r:=ql4 _ hc;have e:((q:Int)*2^r%256)=((q*2^r:Nat):Int):=by
  have e2:((q*2^r:Nat):Int)=(q:Int)*2^r:=by simp
  rw[<-e2];omega
 rw[e,u8_or_nat _ _ (by omega) (by omega),qnk,<-qmr (2^r),<-qnl hb,qnm]
open Go Go.RowKit
theorem zuf(l:List Nat)(i j:Nat):(zai l).extract i j=zai ((l.drop i).take (j-i)):=by refine ByteArray.ext ?_;rw[ByteArray.data_extract];show((l.map UInt8.ofNat).toArray).extract i j=(((l.drop i).take (j-i)).map UInt8.ofNat).toArray;simp
theorem z45(l:List Nat)(i:Nat):(zai l).extract i l.length=zai (l.drop i):=by rw[zuf,qm0 (by rw[ql0];omega)]
theorem qay(l:List Nat)(k:Nat)(h8:∀x∈l,x<256)(hk:k<(zai l).size):((zai l)[k]'hk).toNat=l.getD k 0:=by
 have hk':k<l.length:=by rwa[zbt] at hk
 show(((l.map UInt8.ofNat).toArray)[k]'(by simpa using hk')).toNat=_;simp only[List.getElem_toArray,qnn,qno];rw[qnp,qlx hk',qnq];exact qng (h8 _ (qml hk'))
section
variable{P:Program}{t:TypeId}
theorem z47(ht:P.underlying t=some .string)(l:List Nat)(h8:∀x∈l,x<256)(k:Nat)(hk:k<l.length)(w:World):
 (Instr.index t (.string (zai l)) (.int .i64 (k:Int))).run P w= .ok (.int .u8 ((l.getD k 0:Nat):Int)) w:=by
 rw[run_index_string w t (zai l) .i64 (k:Int) ht,dif_pos ⟨by omega,by rw[zbt];omega⟩];rw[qay l _ h8];simp
theorem qaz(ht:P.underlying t=some .string)(l:List Nat)(k:Nat)(hk:k<=l.length)(w:World):
 (Instr.slice t (.string (zai l)) (some (.int .i64 (k:Int))) none none).run P w= .ok (.string (zai (l.drop k))) w:=by
 rw[run_slice_string_from_if w t (zai l) .i64 (k:Int) ht,if_pos ⟨by omega,by rw[zbt];omega⟩,qmt,zbt,z45]
end
theorem zsn(l:List Nat)(h8:∀x∈l,x<256):Lib.strCells (zai l)=zah .u8 l:=by
 unfold Lib.strCells zah;show((l.map UInt8.ofNat).toArray.toList).map _=_;simp only[qnr];refine qns fun x hx=>?_
 simp only[Function.comp,qno];rw[qng (by have:=h8 x hx;omega)]
def zre(l:List (List Nat)):List Value:=l.map fun s=> .string (zai s)
theorem zol(l:List (List Nat)):(zre l).length=l.length:=by simp[zre]
theorem z48(l:List (List Nat))(i:Nat)(h:i<l.length):(zre l)[i]? =some (.string (zai (l.getD i []))):=by simp[zre,List.getElem?_eq_getElem h]
theorem Reads.lenT{w:World}{B n:Nat}{A:Option Addr}{l:List (List Nat)}(h:Reads w B 1 A n (zre l)):n=l.length:=by have:=h.1;rw[zol] at this;omega
theorem Reads.str{w:World}{B n:Nat}{A:Option Addr}{l:List (List Nat)}{i:Nat}(h:Reads w B 1 A n (zre l))(hi:i<n):∃ad,A=some ad/\ad.block<B/\w.cell? (ad.add i)=some (.string (zai (l.getD i []))):=by
 obtain⟨ad,u,e,hb,hu,hc⟩:=h.at_ hi;have hl:i<l.length:=by have:=h.lenT;omega
 rw[z48 l i hl] at hu;injection hu with hu;subst hu;exact⟨ad,e,hb,hc⟩
theorem zom{L:List (List Nat)}{k:Nat}{Q:List Nat->Prop}(h:∀x∈L,Q x)(hk:k<L.length):Q (L.getD k []):=by rw[qnp,qlx hk];exact h _ (qml hk)
section
variable{P:Program}{ops:Array Oper}{rest:List Oper}{o:Oper}{a:Act}{Q:Exit->Act->World->Prop}
theorem zdo{w:World}{t e ts:TypeId}(E:ElT P t e (.int .u8 0) 1 1)(hts:P.underlying ts=some .string)(hgd:o.guard=none)(s x:Operand)
 (ho:o.op= .call {callee:= .builtin .append,args:= #[s,x],argTypes:= #[t,ts]})
 {W:World}{B base n c:Nat}{A:Option Addr}{l l2:List Nat}(hown:Own w base e (.slice A n c) (zah .u8 l))(h8:∀x∈l2,x<256)(hs:a.eval s= .slice A n c)(hx:a.eval x= .string (zai l2))
 (hb:Below B W w)(hbB:B<=base)(hbase:base<=w.heap.size)(hn:n+l2.length<=140737488355328)
 (h:∀A' c' w',n+l2.length<=c'->c'<=maxLen->Own w' base e (.slice A' (n+l2.length) c') (zah .u8 (l++l2))->w.grownBy w' (Value.ownBlock (.slice A n c))->Below B W w'->wpList P ops Q rest (a.put o.dst (.slice A' (n+l2.length) c')) w'):
 wpList P ops Q (o::rest) a w:=by
 obtain⟨i,hi,hz0,hz1,hz2⟩:=info_parts E.hi;have hln:=hown.len;rw[zaa] at hln;have hown':w.ownsRow base e 1 (.slice A n c) n (zah .u8 l):=by unfold Own at hown;rwa[zaa,<-hln] at hown
 refine Lib.wpList_append_own_string w hgd s x t ts ho base e i E.ht hts hi hz0 hz1 hz2 _ n _ hs hown' (zai l2) hx (by rw[zbt];unfold maxLen;omega) (by rw[zbt];exact hn) hbase ?_;intro v' w' h1 h2 _;rw[zsn l2 h8,<-zdw,zbt] at h1;have hown2:Own w' base e v' (zah .u8 (l++l2)):=by unfold Own;rw[zaa,qmv,<-hln];exact h1
 obtain⟨A',c',rfl,hc1,hc2⟩:=hown2.slice;rw[zaa,qmv,<-hln] at hc1 hown2⊢;exact h A' c' w' hc1 hc2 hown2 h2 (hb.grown h2 (qlw hbB hbase) (fun k hk=>by have:=(hown.lt k hk).1;omega))
end
open Go.RowKit
structure Turns(T:List Nat)(w w':World):Prop where
 os:w'.os=w.os
 tape:w'.tape=w.tape
 output:w'.output=w.output
 size:w.heap.size<=w'.heap.size
 block:∀k,k<w.heap.size->k∉T->w'.heap[k]? =w.heap[k]?
section
variable{T T':List Nat}{w w' w2:World}
theorem Turns.refl(T:List Nat)(w:World):Turns T w w:=⟨rfl,rfl,rfl,ql6 _,fun _ _ _=>rfl⟩
abbrev qr7:=@Turns.refl
theorem Turns.trans(h:Turns T w w')(k:Turns T w' w2):Turns T w w2:=
 ⟨k.os.trans h.os,k.tape.trans h.tape,k.output.trans h.output,qlw h.size k.size,fun i hi hT=>(k.block i (qlz hi h.size) hT).trans (h.block i hi hT)⟩
abbrev qr8:=@Turns.trans
theorem Turns.more(h:Turns T w w')(hs:∀x∈T,x∈T'):Turns T' w w':=⟨h.os,h.tape,h.output,h.size,fun i hi hT=>h.block i hi fun hx=>hT (hs i hx)⟩
theorem Turns.of_new(h:Below w.heap.size w w'):Turns T w w':=⟨h.os,h.tape,h.output,h.size,fun k hk _=>h.block k hk⟩
abbrev qr9:=@Turns.of_new
theorem Turns.of_far{g:Nat}(h:w.grownBy w' (some g))(hg:g∈T):Turns T w w':=
 ⟨h.os,h.tape,h.output,h.size,fun k hk hT=>h.block k hk (fun e=>by injection e with e;subst e;exact hT hg)⟩
abbrev qsa:=@Turns.of_far
theorem Turns.of_none(h:w.grownBy w' none):Turns T w w':=⟨h.os,h.tape,h.output,h.size,fun k hk _=>h.block k hk (by simp)⟩
abbrev qsb:=@Turns.of_none
theorem Turns.drew(T:List Nat)(w:World):Turns T w w.drew:=⟨rfl,rfl,rfl,ql6 _,fun _ _ _=>rfl⟩
theorem Turns.drewN(T:List Nat)(w:World)(n:Nat):Turns T w (w.drewN n):=⟨rfl,rfl,rfl,ql6 _,fun _ _ _=>rfl⟩
theorem Turns.setCell{g i:Nat}(u:Value)(hg:g∈T)(w:World):Turns T w (w.setCell ⟨g,i,none⟩ u):=
 ⟨rfl,rfl,rfl,by simp[World.setCell],fun k _ hT=>qq7 _ _ _ _ (by rintro rfl;exact hT hg)⟩
abbrev qsc:=@Turns.setCell
theorem Turns.new_{x:Nat}(h:Turns (x::T) w w')(hx:w.heap.size<=x):Turns T w w':=
 ⟨h.os,h.tape,h.output,h.size,fun i hi hT=>h.block i hi fun hm=>by
  rcases qnu.1 hm with rfl|hm
  ·omega
  ·exact hT hm⟩
abbrev qsd:=@Turns.new_
theorem Turns.below{B:Nat}{a:World}(h:Below B a w)(k:Turns T w w')(hT:∀x∈T,B<=x)(hB:B<=a.heap.size):Below B a w':=
 ⟨k.os.trans h.os,k.tape.trans h.tape,k.output.trans h.output,qlw h.size k.size,fun i hi=>(k.block i (by have:=h.size;omega) (fun hm=>by have:=hT i hm;omega)).trans (h.block i hi)⟩
abbrev qse:=@Turns.below
theorem Turns.new(k:Turns T w w')(hT:∀x∈T,w.heap.size<=x):Below w.heap.size w w':=k.below (qq8 _ _) hT (ql6 _)
theorem Blk.touch{g:Nat}{t:TypeId}{cs:Array Value}(h:Blk w g t cs)(k:Turns T w w')(hg:g∉T):Blk w' g t cs:=(k.block g h.lt hg).trans h
theorem Own.touch{base:Nat}{e:TypeId}{v:Value}{xs:List Value}(h:Own w base e v xs)(k:Turns T w w')(hT:∀x∈T,v.ownBlock≠some x):Own w' base e v xs:=by
 refine⟨h.1,?_⟩;rcases h.2 with hn|⟨g,cap,cur,rfl,hbg,hgg,rest⟩
 ·exact .inl hn
 ·refine .inr ⟨g,cap,cur,rfl,hbg,?_,rest⟩
  rw[k.block g (ql8.1 hgg).1 (fun hm=>hT g hm rfl)];exact hgg
theorem Reads.touch{B size n:Nat}{A:Option Addr}{xs:List Value}(h:Reads w B size A n xs)(k:Turns T w w')(hT:∀x∈T,B<=x)(hB:B<=w.heap.size):Reads w' B size A n xs:=
 h.keep fun p hp=>World.cell?_of_block (k.block p.block (by omega) (fun hm=>by have:=hT _ hm;omega))
theorem Turns.far{g:Nat}(h:Turns [g] w w'):w.grownBy w' (some g):=⟨h.os,h.tape,h.output,h.size,fun k hk hne=>h.block k hk (by intro hm;simp at hm;subst hm;exact hne rfl)⟩
end
theorem Own.row{w:World}{base:Nat}{e:TypeId}{v:Value}{xs:List Value}(h:Own w base e v xs):∀g,v.ownBlock=some g-> ∃cs,Blk w g e cs:=by
 intro g hg;rcases h.2 with⟨rfl,_⟩|⟨g',cap,cur,rfl,_,hh,_⟩
 ·simp[Value.ownBlock] at hg
 ·have:g'=g:=by simpa[Value.ownBlock] using hg
  subst this;exact⟨cur,hh⟩
theorem Blk.push{w w':World}{g:Nat}{t e:TypeId}{cs:Array Value}{base:Nat}{v:Value}{xs:List Value}(h:Blk w g t cs)(o:Own w base e v xs)(hg:w.grownBy w' v.ownBlock)(hne:e≠t):Blk w' g t cs:=
 h.grown hg (fun e'=>o.blk_ne h hne e'.symm)
theorem Reads.litV(w:World)(e:TypeId)(cs:Array Value)(n:Nat)(xs:List Value)(h:cs.toList=xs)(hn:n=xs.length):Reads (w.alloc (.cells cs e)) (w.alloc (.cells cs e)).heap.size 1 (some ⟨w.heap.size,0,none⟩) n xs:=by subst hn;refine⟨by simp,fun _=>⟨_,rfl,by simp,?_⟩⟩;have:=qq9 (heap_alloc_new w (.cells cs e));rwa[h] at this
abbrev qsf:=@Reads.litV
theorem New.alloc{w w':World}(o:Obj)(h:Below (w.alloc o).heap.size (w.alloc o) w'):New w w':=((qq8 _ w).alloc (ql6 _) o).trans (h.mono (by simp))
theorem zon(w:World)(m n:Nat):(w.drewN m).drewN n=w.drewN (m+n):=by simp[World.drewN,Nat.add_assoc]
theorem zha(w:World)(k:Nat):New w (w.drewN k):=⟨rfl,rfl,rfl,ql6 _,fun _ _=>rfl⟩
theorem Reads.later{w0 w:World}{A:Option Addr}{n s:Nat}{xs:List Value}(h:Reads w0 w0.heap.size s A n xs)(hb:Below w0.heap.size w0 w):Reads w w.heap.size s A n xs:=(h.below hb).more hb.size
abbrev qsg:=@Reads.later
theorem Own.later{w0 w:World}{base:Nat}{e:TypeId}{v:Value}{xs:List Value}(h:Own w0 base e v xs)(hb:Below w0.heap.size w0 w):Own w base e v xs:=h.below hb (ql6 _)
open Go
theorem zrf(x y k:Nat)(hy:y<2^k):(x*2^k) ||| y=x*2^k+y:=by rw[qmr,<-qnl hy]
theorem z5a(x y k:Nat)(hy:y<2^k)(hx:x%2^k=0):x ||| y=x+y:=nat_join k x y hx hy
theorem qkc(x:Nat):bits .or .u8 ((x:Int)%256) 128=((x%128+128:Nat):Int):=by
 have h:=u8_or_nat (x%256) 128 (by omega) (by omega);rw[show((x:Int)%256)=((x%256:Nat):Int) from by omega,show(128:Int)=((128:Nat):Int) from rfl,h];congr 1
 by_cases hx:x%256<128
 ·rw[qnk,z5a 128 (x%256) 7 hx rfl];omega
 ·have e:x%256=128+x%128:=by omega
  rw[e,qnk,<-z5a 128 (x%128) 7 (by omega) rfl,<-Nat.or_assoc,Nat.or_self,z5a 128 (x%128) 7 (by omega) rfl];omega
theorem zhy(T:List Nat)(k:Nat)(hk:k<=T.length)(h8:∀x∈T,x<256):num (T.take k)<2^(8*k):=by have h:=zrd (T.take k) (fun x hx=>h8 x (qmu hx));rw[ql2,ql3 hk,show(256:Nat)=2^8 from rfl,<-qnw] at h;exact h
theorem ze3(T:List Nat)(k:Nat)(h8:∀x∈T,x<256):T.getD k 0<256:=by
 by_cases hk:k<T.length
 ·rw[qnp,qlx hk]
  exact h8 _ (qml hk)
 ·rw[qnp,qnx (by omega)]
  simp
theorem zso(T:List Nat)(k:Nat)(hk:k<T.length)(h8:∀x∈T,x<256):num (T.take k) ||| (T.getD k 0*2^(8*k))=num (T.take (k+1)):=by rw[zae T k 0 hk,zzn,ql2,ql3 (by omega),qnk,zrf _ _ _ (zhy T k (by omega) h8),show(256:Nat)=2^8 from rfl,<-qnw,qnm]
theorem zg1{x k m:Nat}(hx:x<256)(hk:8*(k+1)<=m):x*2^(8*k)<2^m:=by
 have h1:x*2^(8*k)<256*2^(8*k):=qny hx (qnv _);have h2:256*2^(8*k)=2^(8*(k+1)):=by rw[qna,qnz,qmr]
 have h3:2^(8*(k+1))<=2^m:=qnj (by omega) hk;omega
theorem zxh(T:List Nat)(k:Nat)(hk:k<T.length)(hT:T.length<=1)(h8:∀x∈T,x<256):
 bits .or .u8 ((num (T.take k):Nat):Int) (((T.getD k 0:Nat):Int)*2^(8*k)%256)=((num (T.take (k+1)):Nat):Int):=by
 have hx:=ze3 T k h8;have hm:=zg1 (m:=8) hx (show 8*(k+1)<=8 by omega);have hn:=zhy T k (by omega) h8;have hn2:2^(8*k)<=2^8:=qnj (by omega) (by omega);have e1:(((T.getD k 0:Nat):Int)*2^(8*k)%256)=((T.getD k 0*2^(8*k):Nat):Int):=by
  have e2:((T.getD k 0*2^(8*k):Nat):Int)=((T.getD k 0:Nat):Int)*2^(8*k):=by simp
  have e3:((T.getD k 0*2^(8*k):Nat):Int)<256:=by have:T.getD k 0*2^(8*k)<256:=hm;omega
  rw[e2] at e3⊢
  skip
  exact qn0 (by rw[<-e2];omega) e3
 rw[e1,u8_or_nat _ _ (qlz hn hn2) hm,zso T k hk h8]
theorem zuh(T:List Nat)(k:Nat)(hk:k<T.length)(hT:T.length<=4)(h8:∀x∈T,x<256):
 bits .or .u32 ((num (T.take k):Nat):Int) (((T.getD k 0:Nat):Int)%4294967296*2^(8*k)%4294967296)=((num (T.take (k+1)):Nat):Int):=by
 have hx:=ze3 T k h8;have hm:=zg1 (m:=32) hx (show 8*(k+1)<=32 by omega);have hn:=zhy T k (by omega) h8;have hn2:2^(8*k)<=2^32:=qnj (by omega) (by omega);have e1:(((T.getD k 0:Nat):Int)%4294967296*2^(8*k)%4294967296)=((T.getD k 0*2^(8*k):Nat):Int):=by
  have e2:((T.getD k 0*2^(8*k):Nat):Int)=((T.getD k 0:Nat):Int)*2^(8*k):=by simp
  have e3:((T.getD k 0*2^(8*k):Nat):Int)<4294967296:=by have:T.getD k 0*2^(8*k)<4294967296:=hm;omega
  rw[e2] at e3⊢;rw[qn0 (a:=((T.getD k 0:Nat):Int)) (by omega) (by omega)];exact qn0 (by rw[<-e2];omega) e3
 rw[e1,u32_or_nat _ _ (qlz hn hn2) hm,zso T k hk h8]
theorem zui(T:List Nat)(k:Nat)(hk:k<T.length)(hT:T.length<=8)(h8:∀x∈T,x<256):
 bits .or .u64 ((num (T.take k):Nat):Int) (IntKind.u64.wrap (IntKind.u64.wrap ((T.getD k 0:Nat):Int)*2^(8*k)))=((num (T.take (k+1)):Nat):Int):=by
 rw[qrj,qrj];have hx:=ze3 T k h8;have hm:=zg1 (m:=64) hx (show 8*(k+1)<=64 by omega);have hn:=zhy T k (by omega) h8;have hn2:2^(8*k)<=2^64:=qnj (by omega) (by omega);have e1:(((T.getD k 0:Nat):Int)%18446744073709551616*2^(8*k)%18446744073709551616)=((T.getD k 0*2^(8*k):Nat):Int):=by
  have e2:((T.getD k 0*2^(8*k):Nat):Int)=((T.getD k 0:Nat):Int)*2^(8*k):=by simp
  have e3:((T.getD k 0*2^(8*k):Nat):Int)<18446744073709551616:=by have:T.getD k 0*2^(8*k)<18446744073709551616:=hm;omega
  rw[e2] at e3⊢;rw[qn0 (a:=((T.getD k 0:Nat):Int)) (by omega) (by omega)];exact qn0 (by rw[<-e2];omega) e3
 rw[e1,u64_or_nat _ _ (qlz hn hn2) hm,zso T k hk h8]
theorem zxi(x k:Nat):((x:Int)/2^(8*k)%256)=((x/256^k%256:Nat):Int):=by rw[show(256:Nat)^k=2^(8*k) by rw[show(256:Nat)=2^8 from rfl,<-qnw]];simp
open Go Go.RowKit Go.WideShapes Go.ChangeShapes Go.Deep
section
variable{H:Type}{enc:TypeId × Value->H}{P:Program}{W:World}{t e:TypeId}{cs:List Value}
def Held(enc:TypeId × Value->H)(P:Program)(W:World)(t:TypeId)(cs:List Value):Prop:=
 ∃(fuel:Nat) (d:DataW H) (ps:List MemPlace),DataW.trod enc P W 0 (fun _=>true) true fuel t cs=some (d,ps)/\(∀p∈ps,p.block<W.heap.size)/\ ∀n∈d.weights P t,n<=reachBytes
theorem Held.of{v:Value}{d:DataW H}{ps:List MemPlace}(h:DataW.Trod enc P W 0 (fun _=>true) true t v d ps)(hlt:∀p∈ps,p.block<W.heap.size)(hw:∀n∈d.weights P t,n<=reachBytes):Held enc P W t v.cells.toList:=by obtain⟨fuel,h⟩:=h;exact⟨fuel,d,ps,h,hlt,hw⟩
theorem Held.int{k:IntKind}(ht:P.underlying t=some (.int k))(h:Held enc P W t cs):∃n,cs=[.int k n]/\k.min<=n/\n<=k.max:=by obtain⟨fuel,d,ps,h,_,_⟩:=h;obtain⟨n,rfl,_,hw⟩:=DataW.trod_int ht h;simp only[Lit.wf,qnt,decide_eq_true_eq] at hw;exact⟨n,rfl,hw.1,hw.2⟩
theorem Held.i64(ht:P.underlying t=some (.int .i64))(h:Held enc P W t cs):∃n:Int,cs=[.int .i64 n]/\ -9223372036854775808<=n/\n<=9223372036854775807:=by obtain⟨n,h1,h2,h3⟩:=h.int ht;simp[IntKind.min,IntKind.max,IntKind.signed,IntKind.bits] at h2 h3;exact⟨n,h1,h2,by omega⟩
theorem Held.nat{k:IntKind}(hs:k.signed=false)(ht:P.underlying t=some (.int k))(h:Held enc P W t cs):∃n:Nat,cs=[.int k (n:Int)]/\(n:Int)<=k.max:=by obtain⟨n,h1,h2,h3⟩:=h.int ht;simp[IntKind.min,hs] at h2;obtain⟨n,rfl⟩:=qn1 h2;exact⟨n,h1,h3⟩
theorem Held.bool(ht:P.underlying t=some .bool)(h:Held enc P W t cs):∃b,cs=[.bool b]:=by obtain⟨fuel,d,ps,h,_,_⟩:=h;obtain⟨b,rfl,_⟩:=DataW.trod_bool ht h;exact⟨b,rfl⟩
theorem qf6(s:ByteArray):∃l:List Nat,s=zai l/\(∀x∈l,x<256)/\l.length=s.size:=by
 refine⟨s.data.toList.map UInt8.toNat,?_,?_,by simp⟩
 ·refine ByteArray.ext ?_
  show s.data=((s.data.toList.map UInt8.toNat).map UInt8.ofNat).toArray;rw[qnr];have:(UInt8.ofNat ∘ UInt8.toNat)=id:=by funext x;simp
  rw[this];simp
 ·intro x hx
  simp only[qly] at hx;obtain⟨y,_,rfl⟩:=hx;exact y.toNat_lt
theorem Held.string(ht:P.underlying t=some .string)(h:Held enc P W t cs):∃l:List Nat,cs=[.string (zai l)]/\(∀x∈l,x<256)/\l.length<=140737488351232:=by obtain⟨fuel,d,ps,h,_,hw⟩:=h;obtain⟨s,rfl,hx,_⟩:=DataW.trod_string ht h;simp only[qlk] at hx;obtain⟨rfl,_⟩:=hx;obtain⟨l,rfl,h8,hl⟩:=qf6 s;refine⟨l,rfl,h8,?_⟩;have:=hw (zai l).data.toList.length (by simp[DataW.weights]);rw[qme] at this;have e:(zai l).data.size=l.length:=hl.symm;rw[e] at this;unfold reachBytes at this;omega
theorem zh0{d:DataW H}:∀{ds:List (DataW H)},d∈ds-> ∀n∈d.weights P e,n∈DataW.weightsAll P e ds
 | [],h,_,_=>by cases h
 |x::ds,h,n,hn=>by
  rw[DataW.weightsAll,qnd];rcases qnu.1 h with rfl|h
  ·exact .inl hn
  ·exact .inr (zh0 h n hn)
theorem Held.field{fs:Array Field}(ht:P.underlying t=some (.struct fs))(h:Held enc P W t cs):cs.length=P.cellsOf t/\ ∀(i:Nat) (f:Field),fs[i]? =some f->Held enc P W f.type ((cs.drop f.offset).take (P.cellsOf f.type)):=by obtain⟨fuel,d,ps,h,hlt,hw⟩:=h;obtain⟨xs,n,rfl,hx,hl,hxl,hf⟩:=DataW.trod_struct ht h;simp only[qlk] at hx;obtain⟨rfl,rfl⟩:=hx;refine⟨hl,fun i f hi=>?_⟩;have hil:i<fs.size:=(ql8.1 hi).1;have hxi:xs[i]? =some (xs[i]'(by omega)):=qlx (by omega);refine⟨n,(xs[i]'(by omega)).1,(xs[i]'(by omega)).2,(hf i f hi).trans hxi,fun p hp=>hlt p (qov.2 ⟨_,qml _,hp⟩),fun m hm=>hw m ?_⟩;rw[DataW.weights];simp only[ht];exact DataW.weights_mem_each (j:=i) (t:=f.type) (d:=(xs[i]'(by omega)).1) (by rw[qou,Array.getElem?_toList,hi];rfl) (by rw[qou,hxi];rfl) m hm
theorem Held.array{n:Nat}(ht:P.underlying t=some (.array n e))(h:Held enc P W t cs):cs.length=P.cellsOf t/\ ∀i,i<n->Held enc P W e ((cs.drop (i*P.cellsOf e)).take (P.cellsOf e)):=by obtain⟨fuel,d,ps,h,hlt,hw⟩:=h;obtain⟨xs,m,_,hx,hl,hxl,hi⟩:=DataW.trod_array ht h;simp only[qlk] at hx;obtain⟨rfl,rfl⟩:=hx;refine⟨hl,fun i hil=>?_⟩;have hxi:xs[i]? =some (xs[i]'(by omega)):=qlx (by omega);refine⟨m,(xs[i]'(by omega)).1,(xs[i]'(by omega)).2,(hi i hil).trans hxi,fun p hp=>hlt p (qov.2 ⟨_,qml _,hp⟩),fun k hk=>hw k ?_⟩;rw[DataW.weights];simp only[ht];exact zh0 (qly.2 ⟨_,qml _,rfl⟩) k hk
theorem Held.slice(ht:P.underlying t=some (.slice e))(h:Held enc P W t cs):
 cs=[.slice none 0 0]\/ ∃(a:Addr) (len cap:Nat),cs=[.slice (some a) len cap]/\len<=cap/\cap<=maxLen/\cap*P.bytesOf e<=reachBytes/\(0<cap*P.cellsOf e->a.block<W.heap.size)/\
  ∀i,i<cap-> ∃cs',W.cells? 0 (a.add (i*P.cellsOf e)) (P.cellsOf e)=some cs'/\Held enc P W e cs':=by
 obtain⟨fuel,d,ps,h,hlt,hw⟩:=h;rcases open_slice ht h with⟨hcs,_⟩|⟨a,len,cap,m,n,D,Pl,hcs,_,hl,hm,hmm,hx,hi⟩
 ·exact .inl hcs
 ·rw[if_pos rfl] at hmm
  subst hmm;simp only[qlk] at hx;obtain⟨rfl,rfl⟩:=hx;have hwm:∀x∈(m*P.bytesOf e)::(DataW.weightsAll P e ((List.range len).map D)++DataW.weightsAll P e ((List.range (m-len)).map fun j=>D (len+j))),x<=reachBytes:=by intro x hx;refine hw x ?_;rw[DataW.weights];simp only[ht,qos,qow];rw[show len+(m-len)=m by omega];exact hx
  refine .inr ⟨a,len,m,hcs,hl,hm,hwm _ (by simp),fun h0=>?_,fun i him=>?_⟩
  ·exact hlt (.cell a.block a.off) (by rw[qnd];left;unfold MemPlace.row;simp only[qly,qot];exact⟨0,h0,rfl⟩)
  ·obtain⟨cs',hc,ht'⟩:=hi i him
   refine⟨cs',hc,n,D i,Pl i,ht',fun p hp=>hlt p ?_,fun k hk=>hwm k ?_⟩
   ·rw[qnd]
    right;exact qov.2 ⟨i,by simpa using him,hp⟩
   ·rw[qnu,qnd]
    right;by_cases hil:i<len
    ·exact .inl (zh0 (qly.2 ⟨i,by simpa using hil,rfl⟩) k hk)
    ·exact .inr (zh0 (qly.2 ⟨i-len,by simp;omega,by rw[show len+(i-len)=i by omega]⟩) k hk)
def recs{α:Type}(f:α->List Value)(l:List α):List Value:=l.flatMap f
theorem zhd{α:Type}(f:α->List Value)(x:α)(l:List α):recs f (x::l)=f x++recs f l:=rfl
theorem za7{α:Type}(f:α->List Value)(l m:List α):recs f (l++m)=recs f l++recs f m:=by simp[recs]
theorem zaz{α:Type}{f:α->List Value}{sz:Nat}(hf:∀x,(f x).length=sz)(l:List α):(recs f l).length=l.length*sz:=by
 induction l with
 |nil=>simp[recs]
 |cons x l ih=>rw[zhd,qmv,hf,ih,qm9,qn2,qnm]
theorem zot{α:Type}{f:α->List Value}{sz:Nat}(hf:∀x,(f x).length=sz)(l:List α)(d:α):∀i j,i<l.length->j<sz->(recs f l)[i*sz+j]? =(f (l.getD i d))[j]? :=by
 induction l with
 |nil=>intro i j h;simp at h
 |cons x l ih=>
  intro i j hi hj;cases i with
  |zero=>
   rw[zhd,qox,qmy,qn9 (by rw[hf];exact hj)];rfl
  |succ i=>
   rw[zhd,qoy (by rw[hf,qn2];omega),hf,show(i+1)*sz+j-sz=i*sz+j by rw[qn2];omega,ih i j (by simpa using hi) hj];simp
theorem zou{α:Type}{f:α->List Value}{sz:Nat}(hf:∀x,(f x).length=sz)(l:List α)(k:Nat)(hk:k<=l.length):(recs f l).drop (k*sz)=recs f (l.drop k):=by
 conv=>lhs;rw[<-qoz k l,za7]
 rw[qo0];rw[zaz hf,ql2,ql3 hk]
theorem ziq{α:Type}{f:α->List Value}{sz:Nat}(hf:∀x,(f x).length=sz)(l:List α)(k:Nat)(hk:k<=l.length):(recs f l).take (k*sz)=recs f (l.take k):=by
 conv=>lhs;rw[<-qoz k l,za7]
 rw[qo1];rw[zaz hf,ql2,ql3 hk]
theorem Reads.rec_{α:Type}{f:α->List Value}{sz:Nat}(hf:∀x,(f x).length=sz){w:World}{B n i:Nat}{A:Option Addr}{l:List α}(d:α)(h:Reads w B sz A n (recs f l))(hi:i<n)(h0:0<sz):
 ∃ad,A=some ad/\ad.block<B/\i<l.length/\ ∀j u,(f (l.getD i d))[j]? =some u->w.cell? (ad.add (i*sz+j))=some u:=by
 obtain⟨ad,e,hb,hc⟩:=h.2 (by omega);have hl:=h.1;rw[zaz hf] at hl;have hll:l.length=n:=qo2 h0 hl;refine⟨ad,e,hb,by omega,fun j u hu=>hc _ u ?_⟩;have hj:j<sz:=by rw[<-hf (l.getD i d)];exact(qo3.1 hu).1
 rw[zot hf l d i j (by omega) hj];exact hu
theorem Reads.lenR{α:Type}{f:α->List Value}{sz:Nat}(hf:∀x,(f x).length=sz){w:World}{B n:Nat}{A:Option Addr}{l:List α}(h:Reads w B sz A n (recs f l))(h0:0<sz):n=l.length:=by have hl:=h.1;rw[zaz hf] at hl;exact(qo2 h0 hl).symm
theorem zov{α:Type}{p:Nat->α->Prop}(d:α):∀n,(∀i,i<n-> ∃x,p i x)-> ∃l:List α,l.length=n/\ ∀i,i<n->p i (l.getD i d):=by
 intro n;induction n with
 |zero=>intro _;exact⟨[],rfl,fun i h=>by omega⟩
 |succ n ih=>
  intro h;obtain⟨l,hl,hp⟩:=ih (fun i hi=>h i (by omega));obtain⟨x,hx⟩:=h n (by omega);refine⟨l++[x],by simp[hl],fun i hi=>?_⟩;by_cases hin:i<n
  ·have e:(l++[x]).getD i d=l.getD i d:=by rw[qnp,qn9 (by omega),<-qnp]
   rw[e];exact hp i hin
  ·obtain rfl:i=n:=by omega
   have e:(l++[x]).getD i d=x:=by rw[qnp,qoy (by omega),hl];simp
   rw[e];exact hx
theorem Held.recs{α:Type}{f:α->List Value}{sz by_:Nat}{Q:α->Prop}(d:α)(ht:P.underlying t=some (.slice e))(hC:P.cellsOf e=sz)(hby:P.bytesOf e=by_)(hf:∀x,(f x).length=sz)(h0:0<sz)
 (hel:∀cs,Held enc P W e cs-> ∃x,cs=f x/\Q x)(h:Held enc P W t cs):
 ∃A c,∃l:List α,cs=[.slice A l.length c]/\l.length<=c/\c<=maxLen/\c*by_<=reachBytes/\Reads W W.heap.size sz A l.length (Hm.recs f l)/\ ∀x∈l,Q x:=by
 rcases h.slice ht with rfl|⟨a,len,cap,rfl,hl,hm,hw,hb,hi⟩
 ·exact⟨none,0,[],rfl,by simp,by simp[maxLen],by simp,⟨by simp[Hm.recs],fun h=>by simp at h⟩,by simp⟩
 ·rw[hC] at hi hb
  rw[hby] at hw;obtain⟨l,hll,hp⟩:=zov (p:=fun i x=>W.cells? 0 (a.add (i*sz)) sz=some (f x)/\Q x) d len (fun i hil=>by obtain⟨cs',hc,hh⟩:=hi i (by omega);obtain⟨x,rfl,hq⟩:=hel cs' hh;exact⟨x,hc,hq⟩)
  subst hll;refine⟨some a,cap,l,rfl,hl,hm,hw,⟨by rw[zaz hf],fun hn=>⟨a,rfl,hb (Nat.mul_pos (by omega) h0),fun j u hu=>?_⟩⟩,fun x hx=>?_⟩
  ·have hj:j<l.length*sz:=by
    rw[<-zaz hf];exact(qo3.1 hu).1
   have hjd:j/sz<l.length:=by rw[qmr] at hj;exact qm7 hj
   have hjm:j%sz<sz:=qnf _ h0;obtain⟨hc,_⟩:=hp (j/sz) hjd;obtain⟨_,_,hat⟩:=World.cells?_some hc;have:=hat (j%sz) hjm;rw[Go.Deep.add_add,qmr (j/sz),Nat.div_add_mod] at this;rw[this,<-hu];have e:=zot hf l d (j/sz) (j%sz) hjd hjm;rw[qmr (j/sz),Nat.div_add_mod] at e;rw[e]
  ·obtain⟨i,hi',rfl⟩:=qo4 hx
   have:=(hp i hi').2;rwa[qnp,qlx hi'] at this
end
def st(l:List Nat):Nat:=(l.takeWhile fun y=>y==l.getD 0 0).length
theorem qi0(p:Nat->Bool):∀(l:List Nat) (n:Nat),n<=l.length->(∀i,i<n->p (l.getD i 0)=true)->(n=l.length\/p (l.getD n 0)=false)->(l.takeWhile p).length=n
 | [],n,h1,_,_=>by simp at h1;simp[h1]
 |x::r,0,_,_,h3=>by
  rcases h3 with h3|h3
  ·simp at h3
  ·have:p x=false:=by simpa using h3
   simp[this]
 |x::r,n+1,h1,h2,h3=>by
  have hx:p x=true:=by simpa using h2 0 (by omega)
  rw[qqf,if_pos hx,qm9,qi0 p r n (by simpa using h1) (fun i hi=>by simpa using h2 (i+1) (by omega)) (by simpa using h3)]
theorem qcs{l:List Nat}{n:Nat}(h1:n<=l.length)(h2:∀i,i<n->l.getD i 0=l.getD 0 0)(h3:n=l.length\/l.getD n 0≠l.getD 0 0):st l=n:=
 qi0 _ l n h1 (fun i hi=>by simpa using h2 i hi) (h3.imp id fun h=>by simpa using h)
theorem z7m(p:Nat->Bool):∀l:List Nat,(l.takeWhile p).length<=l.length/\(∀i,i<(l.takeWhile p).length->p (l.getD i 0)=true)/\((l.takeWhile p).length=l.length\/p (l.getD (l.takeWhile p).length 0)=false)
 | []=>by simp
 |x::r=>by
  obtain⟨a,b,c⟩:=z7m p r;by_cases hx:p x=true
  ·rw[qqf,if_pos hx,qm9]
   refine⟨by simpa using a,fun i hi=>?_,by simpa using c⟩;cases i with
   |zero=>simpa using hx
   |succ i=>simpa using b i (by omega)
  ·rw[qqf,if_neg hx]
   refine⟨by simp,by simp,.inr (by simpa using hx)⟩
theorem zgi(l:List Nat):st l<=l.length/\(∀i,i<st l->l.getD i 0=l.getD 0 0)/\(st l=l.length\/l.getD (st l) 0≠l.getD 0 0):=by obtain⟨a,b,c⟩:=z7m (fun y=>y==l.getD 0 0) l;exact⟨a,fun i hi=>by simpa using b i hi,c.imp id fun h=>by unfold st;simpa using h⟩
theorem znd{l:List Nat}(h:0<l.length):1<=st l:=by
 obtain⟨a,b,c⟩:=zgi l;rcases qmm (st l) with h0|h0
 ·rw[h0] at c
  rcases c with c|c
  ·omega
  ·exact absurd rfl c
 ·exact h0
theorem zjj{l m:List Nat}{i:Nat}(h:i<l.length):(l++m).getD i 0=l.getD i 0:=by simp[List.getD_eq_getElem?_getD,List.getElem?_append_left h]
theorem zrr{l:List Nat}{i k:Nat}(h:i<k):(l.take k).getD i 0=l.getD i 0:=by simp[List.getD_eq_getElem?_getD,h]
theorem qi1{l m:List Nat}(h:st (l++m)<=l.length)(h0:0<l.length):st l=st (l++m):=by
 obtain⟨a,b,c⟩:=zgi (l++m);refine qcs h (fun i hi=>?_) ?_
 ·have:=b i hi
  rwa[zjj (by omega),zjj h0] at this
 ·by_cases e:st (l++m)=l.length
  ·exact .inl e
  ·rcases c with c|c
   ·rw[c,qmv] at h e
    omega
   ·rw[zjj (by omega),zjj h0] at c
    exact .inr c
theorem z7n{l m:List Nat}:st l<=st (l++m):=by
 rcases qmm l.length with h0|h0
 ·have:=(zgi l).1
  omega
 by_cases h:st (l++m)<=l.length
 ·exact qqg (qi1 h h0)
 ·have:=(zgi l).1
  omega
theorem qg6(l:List Nat):st (l.take (st l))=st l:=by
 obtain⟨a,b,c⟩:=zgi l;have hl:(l.take (st l)).length=st l:=by rw[ql2];omega
 rcases qmm (st l) with h0|h0
 ·have:=(zgi (l.take (st l))).1
  omega
 ·refine qcs (by omega) (fun i hi=>?_) (.inl hl.symm)
  rw[zrr hi,zrr h0];exact b i hi
def z0n(rest l:List Nat):List (List Nat):=
 if _h:l.length=0 then(if rest.length=0 then [] else [rest])
 else if 4<=st l then(if rest.length=0 then [] else [rest])++(l.take (st l)::z0n [] (l.drop (st l)))
 else z0n (rest++l.take (st l)) (l.drop (st l))
termination_by l.length
decreasing_by
 ·have:=znd (l:=l) (by omega)
  rw[ql0];omega
 ·have:=znd (l:=l) (by omega)
  rw[ql0];omega
def pcs(l:List Nat):List (List Nat):=z0n [] l
def zve(rest:List Nat):List (List Nat):=if rest.length=0 then [] else [rest]
theorem ztj(rest:List Nat):z0n rest []=zve rest:=by rw[z0n];rfl
theorem ztk{rest l:List Nat}(h0:0<l.length)(h:4<=st l):z0n rest l=zve rest++(l.take (st l)::z0n [] (l.drop (st l))):=by rw[z0n,dif_neg (by omega),if_pos h];rfl
theorem zph{rest l:List Nat}(h0:0<l.length)(h: ¬4<=st l):z0n rest l=z0n (rest++l.take (st l)) (l.drop (st l)):=by rw[z0n,dif_neg (by omega),if_neg h]
theorem z7o{C:List Nat->List Nat->Prop}(h0:∀rest,C rest [])
 (h1:∀rest l,0<l.length->4<=st l->C [] (l.drop (st l))->C rest l)
 (h2:∀rest l,0<l.length-> ¬4<=st l->C (rest++l.take (st l)) (l.drop (st l))->C rest l):∀rest l,C rest l:=by
 intro rest l;induction hn:l.length using Nat.strongRecOn generalizing rest l with
 |_ n ih=>
  rcases qmm l.length with hz|hz
  ·obtain rfl:=qmn hz
   exact h0 rest
  ·have hp:=znd hz
   have hd:(l.drop (st l)).length<n:=by rw[ql0];omega
   by_cases h:4<=st l
   ·exact h1 rest l hz h (ih _ hd _ _ rfl)
   ·exact h2 rest l hz h (ih _ hd _ _ rfl)
theorem zrs(rest:List Nat):(zve rest).flatten=rest:=by
 unfold zve;split
 ·rename_i h
  exact(qmn h).symm
 ·simp
theorem z7p:∀rest l,(z0n rest l).flatten=rest++l:=by
 refine z7o ?_ ?_ ?_
 ·intro rest
  rw[ztj,zrs,qmg]
 ·intro rest l h0 h ih
  rw[ztk h0 h,qpm,zrs,qpw,ih,qmx,qoz]
 ·intro rest l h0 h ih
  rw[zph h0 h,ih,qmi,qoz]
def zx9(p:List Nat):Prop:=0<p.length/\(4<=st p->st p=p.length)
theorem qg7:∀rest l,(rest=[]\/st (rest++l)<4)-> ∀p∈z0n rest l,zx9 p:=by
 have hr:∀rest l:List Nat,(rest=[]\/st (rest++l)<4)-> ∀p∈zve rest,zx9 p:=by
  intro rest l hc p hp;unfold zve at hp;split at hp
  ·cases hp
  ·rename_i hl
   obtain rfl:=qne.1 hp;refine⟨by omega,fun h4=>?_⟩;rcases hc with rfl|hc
   ·simp at hl
   ·have:=z7n (l:=p) (m:=l)
    omega
 refine z7o ?_ ?_ ?_
 ·intro rest hc p hp
  rw[ztj] at hp;exact hr rest [] hc p hp
 ·intro rest l h0 h ih hc p hp
  rw[ztk h0 h] at hp;rcases qnd.1 hp with hp|hp
  ·exact hr rest l hc p hp
  ·rcases qnu.1 hp with rfl|hp
   ·have hl:(l.take (st l)).length=st l:=by have:=(zgi l).1;rw[ql2];omega
    exact⟨by omega,fun _=>by rw[qg6,hl]⟩
   ·exact ih (.inl rfl) p hp
 ·intro rest l h0 h ih hc p hp
  rw[zph h0 h] at hp;refine ih (.inr ?_) p hp;rw[qmi,qoz];rcases hc with rfl|hc
  ·simpa using h
  ·exact hc
theorem qi2(l:List Nat):∀p∈pcs l,zx9 p:=qg7 [] l (.inl rfl)
theorem z0o(l:List Nat):(pcs l).flatten=l:=z7p [] l
end Go.Hm
