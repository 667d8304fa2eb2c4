/- How a slice reads as a list of limbs in the model's memory; what make and append leave. -/
import Derived.WalkKit
import Derived.WalkSpells
import Derived.Lib.Hide
import Derived.Deep.QuietTactic
import Derived.BigQuiet
import Derived.Deep.Draws
import Derived.Deep.OwnRows
import Derived.Deep.DeepCutAuto
import Derived.Laws.BitsAllLaws
import Derived.WalkLawsBesides
import Derived.Laws.AppendOwn
import Derived.Test.YthlinhconnmbcaaGreatProg
import Derived.Test.YthlinhconnmbcaaGreatB00
import Derived.Shelf.Small.Bits
import Derived.Shelf.Small.Wraps
import Derived.Deep.LoopGhost
set_option maxRecDepth 100000
set_option maxHeartbeats 40000000
set_option linter.unusedVariables false
namespace Go.Proofs.YthlinhconnmbcaaGreat
open Go.RowKit
def u32 (z:Nat):Value:=.int .u32 (z:Int)
structure RdB (w:World) (B:Nat) (A:Option Addr) (n c:Nat) (xs:List Nat):Prop where
 len:xs.length=n
 cap:n≤c
 sm:Sm xs
 mem:n=0∨∃ b o,A=some ⟨b,o,none⟩∧b<B∧∀ k,k<n→w.cell? ⟨b,o+k,none⟩=some (.int .u32 ((xs.getD k 0:Nat):Int))
def Rd (w:World) (A:Option Addr) (n c:Nat) (xs:List Nat):Prop:=RdB w w.heap.size A n c xs
section
variable {w w':World} {B B':Nat} {A:Option Addr} {n c:Nat} {xs:List Nat}
theorem RdB.at_ (h:RdB w B A n c xs) {k:Nat} (hk:k<n) :
  ∃ b o x,A=some ⟨b,o,none⟩∧b<B∧x<4294967296∧xs.getD k 0=x∧w.cell? ⟨b,o+k,none⟩=some (.int .u32 ((x:Nat):Int)):=by
 obtain⟨_,_,h4,h5⟩:=h
 rcases h5 with h5 | ⟨b,o,h5,h6,h7⟩
 ·omega
 ·exact⟨b,o,xs.getD k 0,h5,h6,sm_get h4 k,rfl,h7 k hk⟩
theorem Rd.at_ (h:Rd w A n c xs) {k:Nat} (hk:k<n) :
  ∃ b o x,A=some ⟨b,o,none⟩∧b<w.heap.size∧x<4294967296∧xs.getD k 0=x∧w.cell? ⟨b,o+k,none⟩=some (.int .u32 ((x:Nat):Int)):=RdB.at_ h hk
theorem RdB.nil_ (w:World) (B c:Nat) (A:Option Addr):RdB w B A 0 c []:=⟨rfl,Nat.zero_le _,sm_nil,.inl rfl⟩
theorem Rd.nil_ (w:World) (c:Nat) (A:Option Addr):Rd w A 0 c []:=⟨rfl,Nat.zero_le _,sm_nil,.inl rfl⟩
theorem RdB.keep (h:RdB w B A n c xs) (hk:∀ p:Addr,p.block<B→w'.cell? p=w.cell? p):RdB w' B A n c xs:=by
 refine⟨h.len,h.cap,h.sm,?_⟩
 rcases h.mem with h5 | ⟨b,o,h5,h6,h7⟩
 ·exact .inl h5
 ·exact .inr ⟨b,o,h5,by omega,fun k hk'=>(hk _ h6).trans (h7 k hk')⟩
theorem RdB.more (h:RdB w B A n c xs) (hB:B≤B'):RdB w B' A n c xs:=by
 refine⟨h.len,h.cap,h.sm,?_⟩
 rcases h.mem with h5 | ⟨b,o,h5,h6,h7⟩
 ·exact .inl h5
 ·exact .inr ⟨b,o,h5,by omega,h7⟩
theorem RdB.below (h:RdB w B A n c xs) (hb:Below B w w'):RdB w' B A n c xs:=h.keep fun _ hp=>hb.cell hp
theorem Rd.below (h:Rd w A n c xs) (hb:Below w.heap.size w w'):Rd w' A n c xs:=(RdB.below h hb).more hb.size
theorem Rd.base (h:Rd w A n c xs) (hb:Below w.heap.size w w'):RdB w' w.heap.size A n c xs:=RdB.below h hb
theorem Rd.alloc (h:Rd w A n c xs) (o:Obj):Rd (w.alloc o) A n c xs:=Rd.below h ((Below.refl _ _).alloc (Nat.le_refl _) o)
theorem Rd.drewN (h:Rd w A n c xs) (k:Nat):Rd (w.drewN k) A n c xs:=⟨h.len,h.cap,h.sm,h.mem⟩
theorem RdB.grown (h:RdB w B A n c xs) {g:Nat} (hg:w.grownBy w' (some g)) (hB:B≤w.heap.size) (hr:B≤g):RdB w' B A n c xs:=
 h.keep fun p hp=>World.cell?_of_block (hg.block p.block (by omega) (fun e=>by injection e;omega))
theorem RdB.take (h:RdB w B A n c xs) {k:Nat} (hk:k≤n):RdB w B A k c (xs.take k):=by
 have hl:=h.len;have hc:=h.cap;refine⟨by rw[List.length_take];omega,by omega,sm_take h.sm _,?_⟩
 rcases h.mem with h5 | ⟨b,o,h5,h6,h7⟩
 ·exact .inl (by omega)
 ·refine .inr ⟨b,o,h5,h6,fun j hj=>?_⟩
  rw[h7 j (by omega)]
  simp[hj]
theorem Rd.take (h:Rd w A n c xs) {k:Nat} (hk:k≤n):Rd w A k c (xs.take k):=RdB.take h hk
end
structure RdX (w:World) (g:Nat) (A:Option Addr) (n c:Nat) (xs:List Nat):Prop where
 len:xs.length=n
 cap:n≤c
 sm:Sm xs
 mem:n=0∨∃ b o,A=some ⟨b,o,none⟩∧b≠g∧∀ k,k<n→w.cell? ⟨b,o+k,none⟩=some (.int .u32 ((xs.getD k 0:Nat):Int))
section
variable {w w':World} {g:Nat} {A:Option Addr} {n c:Nat} {xs:List Nat}
theorem RdB.x {B:Nat} (h:RdB w B A n c xs) (hB:B≤g):RdX w g A n c xs:=by
 refine⟨h.len,h.cap,h.sm,?_⟩
 rcases h.mem with h5 | ⟨b,o,h5,h6,h7⟩
 ·exact .inl h5
 ·exact .inr ⟨b,o,h5,by omega,h7⟩
theorem RdX.at_ (h:RdX w g A n c xs) {k:Nat} (hk:k<n) :
  ∃ b o x,A=some ⟨b,o,none⟩∧b≠g∧x<4294967296∧xs.getD k 0=x∧w.cell? ⟨b,o+k,none⟩=some (.int .u32 ((x:Nat):Int)):=by
 obtain⟨_,_,h4,h5⟩:=h
 rcases h5 with h5 | ⟨b,o,h5,h6,h7⟩
 ·omega
 ·exact⟨b,o,xs.getD k 0,h5,h6,sm_get h4 k,rfl,h7 k hk⟩
theorem RdX.grown (h:RdX w g A n c xs) (hg:w.grownBy w' (some g)):RdX w' g A n c xs:=by
 refine⟨h.len,h.cap,h.sm,?_⟩
 rcases h.mem with h5 | ⟨b,o,h5,h6,h7⟩
 ·exact .inl h5
 ·exact .inr ⟨b,o,h5,h6,fun k hk=>hg.cell (h7 k hk) (by intro e;injection e with e;exact h6 e)⟩
end
structure Own (w:World) (g:Nat) (zs:List Nat):Prop where
 heap:∃ cs,w.heap[g]?=some (.cells cs 92 (0,0))∧cs.toList.take zs.length=zs.map u32
 sm:Sm zs
section
variable {w w':World} {g:Nat} {zs:List Nat}
theorem Own.lt (h:Own w g zs):g<w.heap.size:=by
 obtain⟨cs,h,_⟩:=h.heap
 rcases Nat.lt_or_ge g w.heap.size with hlt | hge
 ·exact hlt
 ·rw[Array.getElem?_eq_none hge] at h;cases h
theorem Own.cell (h:Own w g zs) {k:Nat} (hk:k<zs.length):w.cell? ⟨g,k,none⟩=some (.int .u32 ((zs.getD k 0:Nat):Int)):=by
 obtain⟨cs,h,ht⟩:=h.heap;rw[cell_of_row w g k _ 92 (0,0) h];have:(cs.toList.take zs.length)[k]?=(zs.map u32)[k]?:=by rw[ht]
 rw[List.getElem?_take_of_lt hk,Array.getElem?_toList] at this
 rw[this]
 simp[hk,u32]
theorem Own.frozen (h:Own w g zs) (i:Nat):w.frozen? ⟨g,i,none⟩=false:=by
 obtain⟨cs,h,_⟩:=h.heap
 simp[World.frozen?,h]
theorem Own.drew (h:Own w g zs):Own w.drew g zs:=⟨h.heap,h.sm⟩
theorem Own.drewN (h:Own w g zs) (k:Nat):Own (w.drewN k) g zs:=⟨h.heap,h.sm⟩
theorem Own.keep (h:Own w g zs) (hk:w'.heap[g]?=w.heap[g]?):Own w' g zs:=by
 obtain⟨cs,hc,ht⟩:=h.heap;exact⟨⟨cs,hk.trans hc,ht⟩,h.sm⟩
theorem Own.alloc (h:Own w g zs) (o:Obj):Own (w.alloc o) g zs:=h.keep (Below.heap_alloc w o g h.lt)
theorem Own.set_ (h:Own w g zs) (i x:Nat) (hx:x<4294967296):Own (w.setCell ⟨g,i,none⟩ (.int .u32 (x:Int))) g (zs.set i x):=by
 obtain⟨cs,hc,ht⟩:=h.heap;refine⟨⟨cs.setIfInBounds i (u32 x),?_,?_⟩,sm_set h.sm i x hx⟩
 ·simp[World.setCell,Array.getElem?_modify,hc,u32]
 ·rw[Array.toList_setIfInBounds,List.length_set,List.take_set,ht,List.map_set]
theorem Own.far (h:Own w g zs) {p:Addr} (hp:g≠p.block) (u:Value):Own (w.setCell p u) g zs:=h.keep (Below.heap_setCell w p u g hp)
theorem Own.below {B:Nat} (h:Own w g zs) (hb:Below B w w') (hg:g<B):Own w' g zs:=h.keep (hb.block g hg)
theorem Own.grown {r:Option Nat} (h:Own w g zs) (hb:w.grownBy w' r) (hg:some g≠r):Own w' g zs:=h.keep (hb.block g h.lt hg)
theorem Own.pre (h:Own w g zs) (k:Nat):Own w g (zs.take k):=by
 obtain⟨cs,hc,ht⟩:=h.heap;refine⟨⟨cs,hc,?_⟩,sm_take h.sm k⟩
 rw[List.map_take,←ht,List.take_take,List.length_take]
theorem Own.rd (h:Own w g zs) (o n c:Nat) (hn:o+n≤zs.length) (hc:n≤c):Rd w (some ⟨g,o,none⟩) n c ((zs.drop o).take n):=by
 refine⟨by rw[List.length_take,List.length_drop];omega,hc,sm_take (sm_drop h.sm _) _,.inr ⟨g,o,rfl,h.lt,fun k hk=>?_⟩⟩
 rw[h.cell (by omega)]
 simp[hk,List.getElem?_drop]
theorem Own.rdx (h:Own w g zs) {g' n c:Nat} (hg:g≠g') (hn:n≤zs.length) (hc:n≤c):RdX w g' (some ⟨g,0,none⟩) n c (zs.take n):=by
 refine⟨by rw[List.length_take];omega,hc,sm_take h.sm _,.inr ⟨g,0,rfl,hg,fun k hk=>?_⟩⟩
 rw[Nat.zero_add,h.cell (by omega)]
 simp[hk]
theorem Own.rd0 (h:Own w g zs) (c:Nat) (hc:zs.length≤c):Rd w (some ⟨g,0,none⟩) zs.length c zs:=by
 have:=h.rd 0 zs.length c (by omega) hc
 simpa using this
theorem Own.rdn (h:Own w g zs) {n c:Nat} (hn:zs.length=n) (hc:n≤c):Rd w (some ⟨g,0,none⟩) n c zs:=by subst hn;exact h.rd0 c hc
theorem Own.new (w:World) (n:Nat):Own (w.alloc (.cells (madeCells #[.int .u32 0] n) 92)) w.heap.size (List.replicate n 0):=by
 refine⟨⟨_,heap_alloc_new w _,?_⟩,sm_replicate n⟩
 have e:madeCells #[Value.int .u32 0] n=((List.replicate n 0).map u32).toArray:=by
  apply Array.ext
  ·simp[madeCells]
  ·intro i h1 h2
   simp[madeCells,u32,Nat.mod_one]
 rw[e];simp
theorem made_eq (n:Nat):madeCells #[Value.int .u32 0] n=((List.replicate n 0).map u32).toArray:=by
 apply Array.ext
 ·simp[madeCells]
 ·intro i h1 h2
  simp[madeCells,u32,Nat.mod_one]
theorem Own.lit (w:World) (zs:List Nat) (h:Sm zs):Own (w.alloc (.cells (zs.map u32).toArray 92)) w.heap.size zs:=
 ⟨⟨_,heap_alloc_new w _,by show (zs.map u32).take zs.length=_;rw[List.take_of_length_le (by simp)]⟩,h⟩
end
def RetN (N:Nat) (w:World) (e:Ending) (w':World):Prop:=∃ A n c,e=.returned (.slice A n c)∧Rd w' A n c (limbs N)∧Below w.heap.size w w'
def RetO (N:Nat) (w:World) (e:Ending) (w':World):Prop:=∃ g n c,e=.returned (.slice (some ⟨g,0,none⟩) n c)∧w.heap.size≤g∧Own w' g (limbs N)∧(limbs N).length=n∧n≤c∧Below w.heap.size w w'
theorem RetO.n {N:Nat} {w:World} {e:Ending} {w':World}:RetO N w e w'→RetN N w e w':=by
 rintro ⟨g,n,c,he,_,hO,hn,hc,hb⟩;exact⟨_,n,c,he,hO.rdn hn hc,hb⟩
theorem info41:(Tryz.prog.info? 92).map (fun i=>(i.zero,i.size,i.bytes))=some (some (.int .u32 0),1,4):=by kernel_rfl
theorem make_u32 (n:Nat) (hn:n≤100000000000) (k1 k2:IntKind) (w:World) :
  (Instr.makeSlice 29 (.int k1 (n:Int)) (.int k2 (n:Int))).run Tryz.prog w=.ok (.slice (some ⟨w.heap.size,0,none⟩) n n) (w.alloc (.cells (madeCells #[.int .u32 0] n) 92)):=
 run_make_row' 29 92 (.int .u32 0) 4 Tryz.underlying29 info41 rfl k1 k2 n (by omega) (by omega) w
structure Gr (w:World) (base:Nat) (v:Value) (xs:List Nat):Prop where
 own:w.ownsRow base 92 1 v xs.length (xs.map u32)
 sm:Sm xs
section
variable {w w':World} {base:Nat} {v:Value} {xs:List Nat}
theorem Gr.nil_ (w:World) (base:Nat):Gr w base (.slice none 0 0) []:=⟨World.ownsRow_nil _ _ _ _,sm_nil⟩
theorem Gr.made (w:World):Gr (w.alloc (.cells #[] 92)) w.heap.size (.slice (some ⟨w.heap.size,0,none⟩) 0 0) []:=
 ⟨World.ownsRow_made w #[] 0 (Nat.le_refl _) (by unfold maxLen;omega) rfl,sm_nil⟩
theorem Gr.zeros (w:World) (n:Nat) (hn:n≤10000000000):Gr (w.alloc (.cells (madeCells #[.int .u32 0] n) 92)) w.heap.size (.slice (some ⟨w.heap.size,0,none⟩) n n) (List.replicate n 0):=by
 refine⟨⟨by simp,.inr ⟨w.heap.size,n,madeCells #[.int .u32 0] n,by simp,Nat.le_refl _,heap_alloc_new w _,by simp,by unfold maxLen;omega,by rw[made_eq];simp,?_⟩⟩,sm_replicate n⟩
 rw[made_eq]
 simp
theorem Gr.alloc (h:Gr w base v xs) (o:Obj):Gr (w.alloc o) base v xs:=⟨h.own.alloc o,h.sm⟩
theorem Gr.form (h:Gr w base v xs):∃ A c,v=.slice A xs.length c∧Rd w A xs.length c xs∧(xs.length=0∨∃ g,A=some ⟨g,0,none⟩∧base≤g∧Own w g xs):=by
 rcases h.own.2 with ⟨hv,hn⟩ | ⟨g,cap,cur,hv,hb,hh,hn,hm,hs,ht⟩
 ·have:xs=[]:=List.eq_nil_of_length_eq_zero hn
  subst this;exact⟨none,0,hv,Rd.nil_ _ _ _,.inl rfl⟩
 ·have O:Own w g xs:=⟨⟨cur,hh,by simpa using ht⟩,h.sm⟩
  exact⟨_,_,hv,O.rdn rfl hn,.inr ⟨g,rfl,hb,O⟩⟩
end
theorem one_u32 (xs:List Nat):∀ u∈xs.map u32,u.oneCell'=true:=by
 intro u hu;obtain⟨z,_,rfl⟩:=List.mem_map.1 hu
 rfl
theorem cells_rd {w:World} {ad:Addr} {m c:Nat} {ys:List Nat} (h:Rd w (some ad) m c ys):∀ j u,(ys.map u32)[j]?=some u→w.cell? (ad.add j)=some u:=by
 intro j u hu;have hj:j<ys.length:=by
  rcases Nat.lt_or_ge j ys.length with h | h
  ·exact h
  ·rw[List.getElem?_eq_none (by simpa using h)] at hu;cases hu
 have hl:=h.len
 rcases h.mem with h5 | ⟨b,o,h5,h6,h7⟩
 ·omega
 ·injection h5 with h5
  subst h5;have e:(⟨b,o,none⟩:Addr).add j=⟨b,o+j,none⟩:=by
   unfold Addr.add;split
   ·rename_i h;subst h;rfl
   ·rfl
  rw[e,h7 j (by omega)]
  rw[List.getElem?_map,List.getElem?_eq_getElem hj] at hu
  simp only[Option.map_some,Option.some.injEq] at hu;rw[←hu,List.getD_eq_getElem?_getD,List.getElem?_eq_getElem hj]
  rfl
theorem wpList_append_u32 (w:World) {ops:Array Oper} {rest:List Oper} {o:Oper} {a:Act} {Q:Exit→Act→World→Prop} (hgd:o.guard=none) (s x:Operand)
  (ho:o.op=.call { callee:=.builtin .append,args:=#[s,x],argTypes:=#[29,29] })
  (base:Nat) (v:Value) (xs:List Nat) (hs:a.eval s=v) (hown:Gr w base v xs)
  (ad:Addr) (m c:Nat) (ys:List Nat) (hx:a.eval x=.slice (some ad) m c) (hR:Rd w (some ad) m c ys)
  (hl:xs.length+m≤10000000000) (hbase:base≤w.heap.size)
  (h:∀ v' w',Gr w' base v' (xs++ys)→w.grownBy w' v.ownBlock→wpList Tryz.prog ops Q rest (a.put o.dst v') w'):wpList Tryz.prog ops Q (o::rest) a w:=by
 obtain⟨i0,hi,hzz⟩:=Option.map_eq_some_iff.1 info41;simp only[Prod.mk.injEq] at hzz;obtain⟨hz0,hz1,hz2⟩:=hzz;refine wpList_append_own w hgd s x 29 ho base 92 i0 (.int .u32 0) 1 4 Tryz.underlying29 hi hz0 hz1 hz2 rfl (by decide) v xs.length (xs.map u32) hs hown.own ad m c (ys.map u32) hx (by rw[List.length_map,hR.len];omega) (cells_rd hR) (one_u32 _) (by unfold maxLen;omega) (by omega) hbase ?_
 intro v' w' h2 h3 _;refine h v' w' ⟨?_,?_⟩ h3
 ·rw[List.length_append,hR.len,List.map_append];exact h2
 ·intro z hz
  rcases List.mem_append.1 hz with hz | hz
  ·exact hown.sm z hz
  ·exact hR.sm z hz
theorem or_limb (a x:Nat) (ha:a<4294967296) (hx:x<4294967296):bits .or .u64 ((a:Int)*4294967296) (x:Int)=((a*4294967296+x:Nat):Int):=by
 rw[show (a:Int)*4294967296=((a*4294967296:Nat):Int) by simp]
 rw[u64_or_nat (a*4294967296) x (by omega) (by omega)]
 congr 1
 have:=Nat.two_pow_add_eq_or_of_lt (i:=32) (b:=x) (by omega) a
 rw[show (2:Nat)^32=4294967296 from rfl,Nat.mul_comm] at this
 exact this.symm
end Go.Proofs.YthlinhconnmbcaaGreat
namespace Go.Proofs.YthlinhconnmbcaaGreat
open Go.RowKit
theorem vldB_last {xs:List Nat} {m x:Nat} (hl:xs.length=m+1) (hx:xs.getD m 0=x):vldB xs = !((x:Int)==0):=by
 unfold vldB;rw[hl,show m+1-1=m from rfl,hx]
 have:((m+1:Nat)==0)=false:=rfl;rw[this,Bool.false_or]
 congr 1
 rw[Bool.eq_iff_iff];simp
theorem valid_any (A:Option Addr) (n c:Nat) (xs:List Nat) (w:World) (h:Rd w A n c xs) (hn:n≤10000000000) :
  Calls Tryz.prog 127 #[.slice A n c] w fun e w'=>e=.returned (.bool (vldB xs))∧w=w':=by
 by_cases h0:n=0
 ·have H:Hid (vldB xs=true):=by have:=h.len;show vldB xs=true;rw[List.eq_nil_of_length_eq_zero (by omega:xs.length=0)];rfl
  subst h0;clear h;go_enter Tryz.func127,Tryz.ntmps127;go_wp2;go_ret;rw[H.out];exact⟨rfl,rfl⟩
 ·obtain⟨m,rfl⟩:∃ m,n=m+1:=⟨n-1,by omega⟩
  obtain⟨b,o,x,rfl,hb,hx,hxs,hc⟩:=h.at_ (k:=m) (by omega)
  have H:Hid (vldB xs = !((x:Int)==0)):=vldB_last h.len hxs;clear hxs h h0;have hg:((m:Int)+1==0)=false:=by simp;omega
  have hm:(0:Int)≤m:=by omega
  go_enter Tryz.func127,Tryz.ntmps127;go_wp2;go_ret;rw[H.out];exact⟨rfl,rfl⟩
theorem known_any (A:Option Addr) (n c:Nat) (xs:List Nat) (w:World) (h:Rd w A n c xs) (hn:n≤10000000000) :
  Calls Tryz.prog 129 #[.slice A n c] w fun e w'=>∃ A' n' c',e=.returned (.slice A' n' c')∧w=w'∧Rd w A' n' c' (limbs (num xs))∧n'≤n:=by
 have hv:=valid_any A n c xs w h hn;have hk:=kn_limbs h.sm
 cases hb:vldB xs
 ·rw[hb] at hv
  have R:Rd w none 0 0 (limbs (num xs)):=by rw[←hk];unfold kn;rw[hb];exact Rd.nil_ w 0 none
  have R:=Lib.hid R;have hv:=Lib.hid hv;clear hk hb h;go_enter Tryz.func129,Tryz.ntmps129
  go_wp2_with (go_at_call 127;refine (hv.out).mono ?_;rintro e w' ⟨rfl,rfl⟩)
  go_ret;exact⟨none,0,0,rfl,rfl,R.out,Nat.zero_le _⟩
 ·rw[hb] at hv
  have R:Rd w A n c (limbs (num xs)):=by rw[←hk];unfold kn;rw[hb];exact h
  have R:=Lib.hid R;have hv:=Lib.hid hv;clear hk hb h;go_enter Tryz.func129,Tryz.ntmps129
  go_wp2_with (go_at_call 127;refine (hv.out).mono ?_;rintro e w' ⟨rfl,rfl⟩)
  go_ret;exact⟨A,n,c,rfl,rfl,R.out,Nat.le_refl _⟩
theorem trim_any (A:Option Addr) (n c:Nat) (xs:List Nat) (w:World) (h:Rd w A n c xs) (hn:n≤10000000000) :
  Calls Tryz.prog 116 #[.slice A n c] w fun e w'=>∃ n',e=.returned (.slice A n' c)∧w=w'∧Rd w A n' c (limbs (val xs)):=by
 have hcap:=h.cap;have hl:=h.len;have R:Rd w A (tl xs n) c (limbs (val xs)):=by
  have:=h.take (tl_le xs n);rw[tl_limbs h.sm n (by omega),←hl,List.take_length,hl] at this
  exact this
 have R:=Lib.hid R;have HH:=Lib.hid h;clear h hl;go_enter Tryz.func116,Tryz.ntmps116;go_wp2
 go_loop [0] (fun s=>∃ k:Nat,k≤n∧s=.slice A k c∧tl xs k=tl xs n) (fun s=>match s with | .slice _ k _=>k | _=>0)
 case atStart=>exact⟨n,Nat.le_refl _,rfl,rfl⟩
 case round=>
  obtain⟨k,hk,rfl,ht⟩:=hrel;have ht:=Lib.hid ht
  by_cases h0:k=0
  ·subst h0
   have hg:((0:Int) > 0)=False:=by simp
   go_wp2;go_ret;exact⟨0,rfl,rfl,by have:=R.out;rw[←ht.out] at this;exact this⟩
  ·obtain⟨m,rfl⟩:∃ m,k=m+1:=⟨k-1,by omega⟩
   obtain⟨b,o,x,rfl,hb,hx,hxs,hc⟩:=HH.out.at_ (k:=m) (by omega)
   have hxs:=Lib.hid hxs;clear h0;have hg:(0:Int)<(m:Int)+1:=by omega
   have hg2:decide ((0:Int)<(m:Int)+1)=true:=decide_eq_true hg
   by_cases hx0:x=0
   ·have hx1:((x:Int)==0)=true:=by simp;omega
    have e:tl xs (m+1)=tl xs m:=by rw[tl,if_pos (by rw[hxs.out];exact hx0)]
    have e:=Lib.hid e;clear hx0;go_wp2
    go_round
    case rel=>exact⟨m,by omega,rfl,by rw[←e.out];exact ht.out⟩
    case measure=>simp
   ·have hx1:((x:Int)==0)=false:=by simp;omega
    have e:tl xs (m+1)=m+1:=by rw[tl,if_neg];rw[hxs.out];exact hx0
    have e:=Lib.hid e;clear hx0;go_wp2;go_ret;exact⟨m+1,rfl,rfl,by have:=R.out;rw[←ht.out,e.out] at this;exact this⟩
end Go.Proofs.YthlinhconnmbcaaGreat
namespace Go.Proofs.YthlinhconnmbcaaGreat
open Go.RowKit
def cmpi (a b:Int):Int:=if a<b then -1 else if b<a then 1 else 0
theorem cmpi_lt {a b:Int} (h:a<b):cmpi a b = -1:=by unfold cmpi;rw[if_pos h]
theorem cmpi_gt {a b:Int} (h:b<a):cmpi a b=1:=by unfold cmpi;rw[if_neg (by omega),if_pos h]
theorem cmpi_eq {a b:Int} (h:a=b):cmpi a b=0:=by unfold cmpi;rw[if_neg (by omega),if_neg (by omega)]
theorem nan_int (a:Int) (w:World):Calls Tryz.prog 148 #[.int .i64 a] w fun e w'=>e=.returned (.bool false)∧w'=w:=by
 go_enter Tryz.func148,Tryz.ntmps148;go_wp2;go_ret
 simp
theorem nan_u32 (a:Int) (w:World):Calls Tryz.prog 149 #[.int .u32 a] w fun e w'=>e=.returned (.bool false)∧w'=w:=by
 go_enter Tryz.func149,Tryz.ntmps149;go_wp2;go_ret
 simp
theorem cmp_int (a b:Int) (w:World):Calls Tryz.prog 139 #[.int .i64 a,.int .i64 b] w fun e w'=>e=.returned (.int .i64 (cmpi a b))∧w'=w:=by
 have h1:=Lib.hid (@cmpi_lt a b);have h2:=Lib.hid (@cmpi_gt a b);have h3:=Lib.hid (@cmpi_eq a b)
 by_cases hlt:a<b
 ·go_enter Tryz.func139,Tryz.ntmps139
  go_wp2_with (go_at_call 148;refine (nan_int _ _).mono ?_;rintro e w' ⟨rfl,rfl⟩)
  go_ret;rw[h1.out hlt];exact⟨rfl,rfl⟩
 ·by_cases hgt:b<a
  ·go_enter Tryz.func139,Tryz.ntmps139
   go_wp2_with (go_at_call 148;refine (nan_int _ _).mono ?_;rintro e w' ⟨rfl,rfl⟩)
   go_ret;rw[h2.out hgt];exact⟨rfl,rfl⟩
  ·go_enter Tryz.func139,Tryz.ntmps139
   go_wp2_with (go_at_call 148;refine (nan_int _ _).mono ?_;rintro e w' ⟨rfl,rfl⟩)
   go_ret;rw[h3.out (by omega)];exact⟨rfl,rfl⟩
theorem cmp_u32 (a b:Int) (w:World):Calls Tryz.prog 140 #[.int .u32 a,.int .u32 b] w fun e w'=>e=.returned (.int .i64 (cmpi a b))∧w'=w:=by
 have h1:=Lib.hid (@cmpi_lt a b);have h2:=Lib.hid (@cmpi_gt a b);have h3:=Lib.hid (@cmpi_eq a b)
 by_cases hlt:a<b
 ·go_enter Tryz.func140,Tryz.ntmps140
  go_wp2_with (go_at_call 149;refine (nan_u32 _ _).mono ?_;rintro e w' ⟨rfl,rfl⟩)
  go_ret;rw[h1.out hlt];exact⟨rfl,rfl⟩
 ·by_cases hgt:b<a
  ·go_enter Tryz.func140,Tryz.ntmps140
   go_wp2_with (go_at_call 149;refine (nan_u32 _ _).mono ?_;rintro e w' ⟨rfl,rfl⟩)
   go_ret;rw[h2.out hgt];exact⟨rfl,rfl⟩
  ·go_enter Tryz.func140,Tryz.ntmps140
   go_wp2_with (go_at_call 149;refine (nan_u32 _ _).mono ?_;rintro e w' ⟨rfl,rfl⟩)
   go_ret;rw[h3.out (by omega)];exact⟨rfl,rfl⟩
theorem quiet_add_same {P:Program} {f:FuncId} {args:Array Value} {w:World} {a n:Nat} {v:Value}
  (h:Calls P f args (w.drewN (a+n)) fun e w'=>e=.returned v∧w'=w.drewN (a+n)) :
  Calls P f args (w.drewN (a+n)) fun e w''=>e=.returned v∧∃ m,w''=w.drewN (a+m):=
 h.mono fun _ _ ⟨he,hm⟩=>⟨he,n,hm⟩
theorem cmp_at {x y j x1 y1:Nat} (hX:j<(limbs x).length) (hY:j<(limbs y).length) (h:(limbs x).drop (j+1)=(limbs y).drop (j+1))
  (hx:(limbs x).getD j 0=x1) (hy:(limbs y).getD j 0=y1) (hne:¬ x1=y1) (s1:Sm (limbs x)) (s2:Sm (limbs y)):cmpi x y=cmpi x1 y1:=by
 rcases Nat.lt_or_gt_of_ne hne with hlt | hgt
 ·have:=lt_at hX hY h s1 (by omega)
  rw[val_limbs,val_limbs] at this;rw[cmpi_lt (by omega),cmpi_lt (by omega)]
 ·have:=lt_at hY hX h.symm s2 (by omega)
  rw[val_limbs,val_limbs] at this;rw[cmpi_gt (by omega),cmpi_gt (by omega)]
theorem cmp_len {x y n1 n2:Nat} (hX:(limbs x).length=n1) (hY:(limbs y).length=n2) (hne:¬ n1=n2):cmpi x y=cmpi n1 n2:=by
 rcases Nat.lt_or_gt_of_ne hne with hlt | hgt
 ·have:=lt_len (x:=x) (y:=y) (by omega)
  rw[cmpi_lt (by omega),cmpi_lt (by omega)]
 ·have:=lt_len (x:=y) (y:=x) (by omega)
  rw[cmpi_gt (by omega),cmpi_gt (by omega)]
theorem drewN_below (w:World) (n:Nat):Below w.heap.size w (w.drewN n):=⟨rfl,rfl,rfl,Nat.le_refl _,fun _ _=>rfl⟩
theorem compare_any (A:Option Addr) (n c:Nat) (xs:List Nat) (A':Option Addr) (n' c':Nat) (ys:List Nat) (w:World)
  (h1:Rd w A n c xs) (h2:Rd w A' n' c' ys) (hn:n≤1000000000) (hn':n'≤1000000000) :
  Calls Tryz.prog 133 #[.slice A n c,.slice A' n' c'] w fun e w'=>e=.returned (.int .i64 (cmpi (num xs) (num ys)))∧∃ m,w'=w.drewN m:=by
 replace h1:=Lib.hid h1;replace h2:=Lib.hid h2;go_enter Tryz.func133,Tryz.ntmps133
 go_wp2_with fail
 refine (known_any _ _ _ xs _ h1.out (by omega)).mono ?_
 rintro e w' ⟨B1,n1,c1,rfl,rfl,R1,l1⟩;replace R1:=Lib.hid R1
 go_wp2_with fail
 refine (known_any _ _ _ ys _ h2.out (by omega)).mono ?_
 rintro e w' ⟨B2,n2,c2,rfl,rfl,R2,l2⟩;replace R2:=Lib.hid R2;clear h1 h2
 by_cases hne:n1=n2
 ·subst hne
  go_wp2
  go_loopw [5] (fun iv wr=>∃ (i:Int) (k m:Nat),k≤n1∧i+1=k∧iv=.int .i64 i∧wr=w.drewN m∧(limbs (num xs)).drop k=(limbs (num ys)).drop k) (fun iv _=>(intOf iv+1).toNat)
  case atStart=>exact⟨_,n1,0,Nat.le_refl _,by omega,rfl,rfl,by rw[List.drop_of_length_le (by rw[R1.out.len];omega),List.drop_of_length_le (by rw[R2.out.len];omega)]⟩
  case round=>
   obtain⟨i,k,m,hk,hik,rfl,rfl,hd⟩:=hrel;replace hd:=Lib.hid hd
   by_cases h0:k=0
   ·subst h0
    have hxy:num xs=num ys:=limbs_inj (by simpa using hd.out)
    have hcmp:=Lib.hid (cmpi_eq (a:=num xs) (b:=num ys) (by omega))
    obtain rfl:i = -1:=by omega
    clear hik hd hxy;go_wp2;go_ret;rw[hcmp.out];exact⟨rfl,_,rfl⟩
   ·obtain⟨j,rfl⟩:∃ j,k=j+1:=⟨k-1,by omega⟩
    obtain rfl:i=j:=by omega
    obtain⟨b1,o1,x1,rfl,hb1,hx1,hxe,hcx⟩:=R1.out.at_ (k:=j) (by omega)
    obtain⟨b2,o2,y1,rfl,hb2,hy1,hye,hcy⟩:=R2.out.at_ (k:=j) (by omega)
    replace hxe:=Lib.hid hxe;replace hye:=Lib.hid hye;clear hik h0;have g1:(0:Int)≤(j:Int):=by omega
    have g2:(j:Int)<(n1:Int):=by omega
    by_cases hxy:x1=y1
    ·have ht:((x1:Int) != (y1:Int))=false:=by rw[hxy];simp
     have hd2:=Lib.hid (drop_same (by rw[R1.out.len];omega) (by rw[R2.out.len];omega) hd.out (hxe.out.trans (hxy.trans hye.out.symm)))
     clear hxy;go_wp2
     go_quiet (fail)
     go_wp2
     go_roundw
     case rel=>exact⟨_,j,_,by omega,by omega,rfl,rfl,hd2.out⟩
     case measure=>simp[intOf]
    ·have ht:((x1:Int) != (y1:Int))=true:=by simp;omega
     have hcm:cmpi (num xs) (num ys)=cmpi x1 y1:=cmp_at (by rw[R1.out.len];omega) (by rw[R2.out.len];omega) hd.out hxe.out hye.out hxy (sm_limbs _) (sm_limbs _)
     replace hcm:=Lib.hid hcm;clear hxy;go_wp2
     go_quiet (fail)
     go_wp2
     go_quiet ((go_at_call 140;exact quiet_add_same (cmp_u32 _ _ _)))
     go_wp2;go_ret;rw[hcm.out];exact⟨rfl,_,by rw[World.drewN_drewN,World.drewN_drewN]⟩
 ·have hc:cmpi (num xs) (num ys)=cmpi n1 n2:=cmp_len R1.out.len R2.out.len hne
  have ht:((n1:Int) != (n2:Int))=true:=by simp;omega
  replace hc:=Lib.hid hc;clear hne
  go_wp2_with (go_at_call 139;refine (cmp_int _ _ _).mono ?_;rintro e w' ⟨rfl,rfl⟩)
  go_ret;rw[hc.out];exact⟨rfl,0,rfl⟩
end Go.Proofs.YthlinhconnmbcaaGreat
namespace Go.Proofs.YthlinhconnmbcaaGreat
open Go.RowKit
def RetClone (n:Nat) (xs:List Nat) (w:World) (e:Ending) (w':World):Prop:=
 ∃ A c,e=.returned (.slice A n c)∧Rd w' A n c xs∧(n=0∨∃ g,A=some ⟨g,0,none⟩∧w.heap.size≤g∧Own w' g xs)∧Below w.heap.size w w'
theorem clone_any (A:Option Addr) (n c:Nat) (xs:List Nat) (w:World) (h:Rd w A n c xs) (hn:n≤1000000000) :
  Calls Tryz.prog 82 #[.slice A n c] w (RetClone n xs w):=by
 rcases A with _ | ad
 ·have hq:∀ W:World,(binOp .eql 29 (.slice none n c) (.slice none 0 0)).run Tryz.prog W=.ok (.bool true) W:=fun W=>by
   simpa using Lib.run_eql_slice_nil (P:=Tryz.prog) W 29 92 none n c 0 0 Tryz.underlying29
  have hx:xs=[]:=by
   rcases h.mem with h0 | ⟨b,o,h0,_⟩
   ·exact List.eq_nil_of_length_eq_zero (by have:=h.len;omega)
   ·cases h0
  subst hx;have hn0:=Lib.hid h.len;clear h;go_enter Tryz.func82,Tryz.ntmps82;go_wp2;go_ret;obtain rfl:n=0:=by have:=hn0.out;simpa using this.symm
  exact⟨none,0,rfl,Rd.nil_ _ _ _,.inl rfl,Below.refl _ _⟩
 ·have hq:∀ W:World,(binOp .eql 29 (.slice (some ad) n c) (.slice none 0 0)).run Tryz.prog W=.ok (.bool false) W:=fun W=>by
   simpa using Lib.run_eql_slice_nil (P:=Tryz.prog) W 29 92 (some ad) n c 0 0 Tryz.underlying29
  replace h:=Lib.hid h;go_enter Tryz.func82,Tryz.ntmps82
  go_wp2_with (at_builtin;refine wpList_append_u32 _ rfl (.tmp 5) (.tmp 6) rfl w.heap.size _ [] rfl (Gr.made w) ad n c xs rfl (Rd.alloc h.out _) ?c1 ?c2 ?_)
  case c1=>show 0+n≤10000000000;omega
  case c2=>show w.heap.size≤(w.alloc _).heap.size;simp
  intro v' w' hG hg;obtain⟨A',c',hv,hR,hO⟩:=hG.form;subst hv;replace hR:=Lib.hid hR;replace hO:=Lib.hid hO;replace hg:=Lib.hid (Below.grown ((Below.refl w.heap.size w).alloc (Nat.le_refl _) (.cells #[] 92)) hg (by simp) (by intro k hk;simp[Value.ownBlock] at hk;omega))
  clear hG;have hl:=h.out.len;subst hl;go_wp2;go_ret;exact⟨_,_,rfl,hR.out,hO.out,hg.out⟩
theorem sub_lt (A:Option Addr) (n c:Nat) (xs:List Nat) (A':Option Addr) (n' c':Nat) (ys:List Nat) (w:World)
  (h1:Rd w A n c xs) (h2:Rd w A' n' c' ys) (hn:n≤1000000000) (hn':n'≤1000000000) (hlt:num xs<num ys) :
  Calls Tryz.prog 126 #[.slice A n c,.slice A' n' c'] w fun e w'=>e=.returned (.tuple #[.slice none 0 0,.bool false])∧Below w.heap.size w w':=by
 replace h1:=Lib.hid h1;replace h2:=Lib.hid h2;have hlt':=Lib.hid hlt;clear hlt;go_enter Tryz.func126,Tryz.ntmps126
 go_wp2_with fail
 refine (known_any _ _ _ xs _ h1.out (by omega)).mono ?_
 rintro e w' ⟨B1,n1,c1,rfl,rfl,R1,l1⟩;replace R1:=Lib.hid R1
 go_wp2_with fail
 refine (known_any _ _ _ ys _ h2.out (by omega)).mono ?_
 rintro e w' ⟨B2,n2,c2,rfl,rfl,R2,l2⟩;replace R2:=Lib.hid R2;clear h1 h2
 go_wp2_with fail
 have hc:=compare_any _ _ _ _ _ _ _ _ _ R1.out R2.out (by omega) (by omega)
 rw[num_limbs,num_limbs,cmpi_lt (by have:=hlt'.out;omega)] at hc
 refine hc.mono ?_
 clear hc;rintro e w' ⟨rfl,m,rfl⟩;go_wp2
 go_ret2
 exact⟨rfl,drewN_below _ _⟩
theorem sub_ge (A:Option Addr) (n c:Nat) (xs:List Nat) (A':Option Addr) (n' c':Nat) (ys:List Nat) (w:World)
  (h1:Rd w A n c xs) (h2:Rd w A' n' c' ys) (hn:n≤1000000000) (hn':n'≤1000000000) (hge:num ys≤num xs) :
  Calls Tryz.prog 126 #[.slice A n c,.slice A' n' c'] w fun e w'=>∃ A n c,e=.returned (.tuple #[.slice A n c,.bool true])∧Rd w' A n c (limbs (num xs-num ys))∧Below w.heap.size w w':=by
 replace h1:=Lib.hid h1;replace h2:=Lib.hid h2;have hge':=Lib.hid hge;clear hge;go_enter Tryz.func126,Tryz.ntmps126
 go_wp2_with fail
 refine (known_any _ _ _ xs _ h1.out (by omega)).mono ?_
 rintro e w' ⟨B1,n1,c1,rfl,rfl,R1,l1⟩;replace R1:=Lib.hid R1
 go_wp2_with fail
 refine (known_any _ _ _ ys _ h2.out (by omega)).mono ?_
 rintro e w' ⟨B2,n2,c2,rfl,rfl,R2,l2⟩;replace R2:=Lib.hid R2;clear h1 h2
 go_wp2_with fail
 have hc:=compare_any _ _ _ _ _ _ _ _ _ R1.out R2.out (by omega) (by omega)
 rw[num_limbs,num_limbs] at hc;obtain⟨q,hq,hq0⟩:∃ q,cmpi (num xs) (num ys)=q∧0≤q:=⟨_,rfl,by unfold cmpi;have:=hge'.out;split;omega;split<;>omega⟩
 rw[hq] at hc;clear hq;refine hc.mono ?_
 clear hc;rintro e w' ⟨rfl,m,rfl⟩
 go_wp2_with fail
 refine (clone_any _ _ _ _ _ (R1.out.drewN m) (by omega)).mono ?_
 rintro e w' ⟨B3,c3,rfl,R3,O3,b3⟩;replace R3:=Lib.hid R3;replace b3:Hid (Below w.heap.size w w'):=Lib.hid ((drewN_below w m).trans b3);have hq1:decide (q<0)=false:=by simp;omega
 go_wp2
 go_loopw [6,21] (fun bv iv wr=>∃ (k br:Nat) (zs:List Nat),k≤n1∧iv=.int .i64 k∧bv=.int .u64 br∧br≤1∧zs.length=n1∧Sm zs∧(n1=0∨∃ g,B3=some ⟨g,0,none⟩∧w.heap.size≤g∧Own wr g zs)∧Below w.heap.size w wr ∧
   val (zs.take k)+val ((limbs (num ys)).take k)=val ((limbs (num xs)).take k)+4294967296^k*br∧zs.drop k=(limbs (num xs)).drop k)
   (fun _ iv _=>n1-(intOf iv).toNat)
 case atStart=>exact⟨0,0,limbs (num xs),Nat.zero_le _,rfl,rfl,by omega,R3.out.len,sm_limbs _,O3,b3.out,by simp[val],rfl⟩
 case round=>
  clear O3;obtain⟨k,br,zs,hk,rfl,rfl,hbr,hzl,hzs,hO,hB,hval,hdr⟩:=hrel;replace hval:=Lib.hid hval;replace hzl:=Lib.hid hzl;replace hO:=Lib.hid hO;replace hB:=Lib.hid hB;replace hdr:=Lib.hid hdr;replace hzs:=Lib.hid hzs
  by_cases hlt:k<n1
  ·rcases hO.out with h0 | ⟨g,rfl,hg,O⟩
   ·omega
   replace O:=Lib.hid O;obtain⟨hzx,hdr1⟩:=drop_step hdr.out (by rw[hzl.out];exact hlt) (by rw[R1.out.len];exact hlt)
   replace hdr1:=Lib.hid hdr1;obtain⟨x1,hx1e⟩:∃ x1,zs.getD k 0=x1:=⟨_,rfl⟩;have hx1:x1<4294967296:=by rw[←hx1e];exact sm_get O.out.sm k
   have hcell:=O.out.cell (k:=k) (by rw[hzl.out];omega)
   rw[hx1e] at hcell;have hxe:=Lib.hid (hzx.symm.trans hx1e);clear hzx hx1e;have hfz:=O.out.frozen k
   by_cases hlt2:k<n2
   ·obtain⟨b2,o2,y1,rfl,hb2,hy1,hye,hcy2⟩:=(R2.out.base hB.out).at_ hlt2
    replace hye:=Lib.hid hye;obtain⟨d,b',hd,hb',hdd,he1,he2⟩:=sub_limb x1 br y1 hx1 hbr hy1;replace hdd:=Lib.hid hdd;replace he1:=Lib.hid he1;replace he2:=Lib.hid he2;go_wp2
    go_roundw
    case rel=>
     have O':=O.out.set_ k d hd;simp only[IntKind.wrap_u64];rw[he1.out,he2.out];exact⟨k+1,b',_,by omega,by go_num,rfl,hb',by rw[List.length_set];exact hzl.out,O'.sm,.inr ⟨g,rfl,hg,O'⟩,hB.out.setCell hg _,sub_step (by rw[hzl.out];omega) hval.out hxe.out hye.out hdd.out,by rw[drop_set_succ];exact hdr1.out⟩
    case measure=>simp[intOf];omega
   ·have hye:=Lib.hid (getD_none (X:=limbs (num ys)) (k:=k) (by rw[R2.out.len];omega))
    obtain⟨d,b',hd,hb',hdd,he1,he2⟩:=sub_limb x1 br 0 hx1 hbr (by omega)
    replace hdd:=Lib.hid hdd;replace he1:=Lib.hid he1;replace he2:=Lib.hid he2;go_wp2
    go_roundw
    case rel=>
     have O':=O.out.set_ k d hd;simp only[IntKind.wrap_u64];have e1:=he1.out;have e2:=he2.out;simp only[Int.natCast_zero,Int.sub_zero,Int.emod_emod] at e1 e2;rw[e1,e2];exact⟨k+1,b',_,by omega,by go_num,rfl,hb',by rw[List.length_set];exact hzl.out,O'.sm,.inr ⟨g,rfl,hg,O'⟩,hB.out.setCell hg _,sub_step (by rw[hzl.out];omega) hval.out hxe.out hye.out hdd.out,by rw[drop_set_succ];exact hdr1.out⟩
    case measure=>simp[intOf];omega
  ·obtain rfl:k=n1:=by omega
   have R:Rd wr B3 k c3 zs:=by
    rcases hO.out with h0 | ⟨g,rfl,hg,O⟩
    ·subst h0
     rw[List.eq_nil_of_length_eq_zero hzl.out];exact Rd.nil_ _ _ _
    ·exact O.rdn hzl.out R3.out.cap
   replace R:=Lib.hid R
   go_wp2_with fail
   refine (trim_any _ _ _ zs _ R.out (by omega)).mono ?_
   rintro e w' ⟨n',rfl,rfl,R4⟩;replace R4:=Lib.hid R4;go_wp2
   go_ret2
   exact⟨_,_,_,rfl,by have:=R4.out;rw[sub_last hzl.out hzs.out hval.out R1.out.len hge'.out] at this;exact this,hB.out⟩
end Go.Proofs.YthlinhconnmbcaaGreat
namespace Go.Proofs.YthlinhconnmbcaaGreat
open Go.RowKit
def RetAddP (g o m x:Nat) (zs ys:List Nat) (w:World) (e:Ending) (w':World):Prop:=
 ∃ (cy:Nat) (zs':List Nat),e=.returned (.int .u32 cy)∧cy<4294967296∧Own w' g zs'∧zs'.length=zs.length∧zs'.take o=zs.take o∧zs'.drop (o+m)=zs.drop (o+m) ∧
  val zs'+4294967296^(o+m)*cy=val zs+4294967296^o*(x*val ys)∧w.grownBy w' (some g)
theorem grown_set {a w:World} {g:Nat} (h:a.grownBy w (some g)) (i:Nat) (u:Value):a.grownBy (w.setCell ⟨g,i,none⟩ u) (some g):=
 ⟨h.os,h.tape,h.output,by simpa [World.setCell] using h.size,fun j hj hne=>(Below.heap_setCell w ⟨g,i,none⟩ u j (by rintro rfl;exact hne rfl)).trans (h.block j hj hne)⟩
theorem addProduct_any (g o m cs:Nat) (zs:List Nat) (A:Option Addr) (cb:Nat) (ys:List Nat) (x:Nat) (w:World)
  (hO:Own w g zs) (hom:o+m≤zs.length) (hR:RdX w g A m cb ys) (hx:x<4294967296) (hm:m≤10000000000) :
  Calls Tryz.prog 130 #[.slice (some ⟨g,o,none⟩) m cs,.slice A m cb,.int .u32 x] w (RetAddP g o m x zs ys w):=by
 replace hO:=Lib.hid hO;replace hR:=Lib.hid hR;replace hom:=Lib.hid hom;go_enter Tryz.func130,Tryz.ntmps130;go_wp2
 go_loopw [7,12] (fun cv iv wr=>∃ (k cy:Nat) (zs':List Nat),k≤m∧iv=.int .i64 k∧cv=.int .u64 cy∧cy<4294967296∧Own wr g zs'∧zs'.length=zs.length∧zs'.take o=zs.take o∧zs'.drop (o+k)=zs.drop (o+k) ∧
  val zs'+4294967296^(o+k)*cy=val zs+4294967296^o*(x*val (ys.take k))∧w.grownBy wr (some g))
  (fun _ iv _=>m-(intOf iv).toNat)
 case atStart=>exact⟨0,0,zs,Nat.zero_le _,rfl,rfl,by omega,hO.out,rfl,rfl,rfl,by simp[val],World.grownBy.refl _ _⟩
 case round=>
  obtain⟨k,cy,zs',hk,rfl,rfl,hcy,hO',hl,ht,hd,hv,hg⟩:=hrel;replace hO':=Lib.hid hO';replace hl:=Lib.hid hl;replace ht:=Lib.hid ht;replace hd:=Lib.hid hd;replace hv:=Lib.hid hv;replace hg:=Lib.hid hg
  by_cases hlt:k<m
  ·have hkl:o+k<zs'.length:=by rw[hl.out];have:=hom.out;omega
   obtain⟨b2,o2,y1,rfl,hb2,hy1,hye,hcy2⟩:=(hR.out.grown hg.out).at_ hlt;replace hye:=Lib.hid hye;have hcell:=hO'.out.cell hkl;obtain⟨s,hs⟩:∃ s,zs'.getD (o+k) 0=s:=⟨_,rfl⟩;have hs1:s<4294967296:=by rw[←hs];exact sm_get hO'.out.sm _
   rw[hs] at hcell;replace hs:=Lib.hid hs;have hfz:=hO'.out.frozen (o+k);have hkl:=Lib.hid hkl;have hp:(x:Int)*(y1:Int)≤18446744065119617025:=by have:=mul_bd hx hy1;have e:((x*y1:Nat):Int)=(x:Int)*y1:=Int.natCast_mul x y1;omega
   have hp0:0≤(x:Int)*(y1:Int):=by have e:((x*y1:Nat):Int)=(x:Int)*y1:=Int.natCast_mul x y1;omega
   obtain⟨t,ht'⟩:∃ t,t=cy+(x*y1+s):=⟨_,rfl⟩;have htc:((t:Nat):Int)=(cy:Int)+((x:Int)*y1+s):=by rw[ht'];simp
   replace ht':=Lib.hid ht';replace htc:=Lib.hid htc;have htb:t / 4294967296<4294967296:=by have:=ht'.out;have:=mul_bd hx hy1;omega
   replace htb:=Lib.hid htb;go_wp2
   go_roundw
   case rel=>
    rw[←htc.out];have O2:=hO'.out.set_ (o+k) (t%4294967296) (by omega)
    rw[show ((t%4294967296:Nat):Int)=(t:Int)%4294967296 by omega] at O2
    exact⟨k+1,t / 4294967296,_,by omega,by go_num,by go_num,htb.out,O2,by rw[List.length_set];exact hl.out,by rw[take_set_low _ _ (by omega)];exact ht.out,by rw[show o+(k+1)=o+k+1 by omega,drop_set_succ];exact drop_step' hd.out,mul_step hkl.out hv.out hs.out hye.out ht'.out,grown_set hg.out _ _⟩
   case measure=>simp[intOf];omega
  ·obtain rfl:k=m:=by omega
   go_wp2;go_ret;have e:ys.take k=ys:=List.take_of_length_le (by rw[hR.out.len];omega)
   refine⟨cy,zs',rfl,hcy,hO'.out,hl.out,ht.out,hd.out,?_,hg.out⟩
   have:=hv.out;rw[e] at this;exact this
theorem mul_any (A:Option Addr) (n c:Nat) (xs:List Nat) (A':Option Addr) (n' c':Nat) (ys:List Nat) (w:World)
  (h1:Rd w A n c xs) (h2:Rd w A' n' c' ys) (hn:n≤1000000000) (hn':n'≤1000000000) :
  Calls Tryz.prog 122 #[.slice A n c,.slice A' n' c'] w (RetN (num xs*num ys) w):=by
 replace h1:=Lib.hid h1;replace h2:=Lib.hid h2;go_enter Tryz.func122,Tryz.ntmps122
 go_wp2_with fail
 refine (known_any _ _ _ xs _ h1.out (by omega)).mono ?_
 rintro e w' ⟨B1,n1,c1,rfl,rfl,R1,l1⟩;replace R1:=Lib.hid R1
 go_wp2_with fail
 refine (known_any _ _ _ ys _ h2.out (by omega)).mono ?_
 rintro e w' ⟨B2,n2,c2,rfl,rfl,R2,l2⟩;replace R2:=Lib.hid R2;have hmk:∀ W:World,(Instr.makeSlice 29 (.int .i64 ((n1:Int)+n2)) (.int .i64 ((n1:Int)+n2))).run Tryz.prog W=.ok (.slice (some ⟨W.heap.size,0,none⟩) (n1+n2) (n1+n2)) (W.alloc (.cells (madeCells #[.int .u32 0] (n1+n2)) 92)):=fun W=>by
  have:=make_u32 (n1+n2) (by omega) .i64 .i64 W
  rw[Int.natCast_add] at this;exact this
 go_wp2
 go_loopw [20] (fun iv wr=>∃ (k:Nat) (zs:List Nat),k≤n1∧iv=.int .i64 k∧zs.length=n1+n2∧Own wr w.heap.size zs∧Below w.heap.size w wr∧val zs=val ((limbs (num xs)).take k)*num ys∧zs.drop (k+n2)=List.replicate (n1-k) 0)
  (fun iv _=>n1-(intOf iv).toNat)
 case atStart=>exact⟨0,List.replicate (n1+n2) 0,Nat.zero_le _,rfl,by simp,Own.new _ _,(Below.refl _ _).alloc (Nat.le_refl _) _,by simp[val,val_zeros],by simp⟩
 case round=>
  clear hmk;obtain⟨k,zs,hk,rfl,hl,hO,hB,hv,hd⟩:=hrel;replace hl:=Lib.hid hl;replace hO:=Lib.hid hO;replace hB:=Lib.hid hB;replace hv:=Lib.hid hv;replace hd:=Lib.hid hd
  by_cases hlt:k<n1
  ·obtain⟨b1,o1,x1,rfl,hb1,hx1,hxe,hcx⟩:=(R1.out.base hB.out).at_ hlt
   replace hxe:=Lib.hid hxe
   go_wp2_with fail
   rw[show k+n2-k=n2 by omega]
   refine (addProduct_any w.heap.size k n2 _ zs B2 c2 (limbs (num ys)) x1 _ hO.out (by rw[hl.out];omega) ((R2.out.base hB.out).x (Nat.le_refl _)) hx1 (by omega)).mono ?_
   rintro e w' ⟨cy,zs',rfl,hcy,O',hl',ht',hd',hv',hg'⟩;have hkl:k+n2<zs'.length:=by rw[hl',hl.out];omega
   have hz0:zs'.getD (k+n2) 0=0:=getD_drop_zero (hd'.trans hd.out);have hcell:=O'.cell hkl;rw[hz0] at hcell;have hfz:=O'.frozen (k+n2);have O2:=O'.set_ (k+n2) cy hcy;have hb':=Below.grown hB.out hg' (by have:=hO.out.lt;omega) (by intro k hk;injection hk;omega)
   have hlen:(zs'.set (k+n2) cy).length=n1+n2:=by rw[List.length_set,hl',hl.out]
   have hval:val (zs'.set (k+n2) cy)=val ((limbs (num xs)).take (k+1))*num ys:=by
    have e1:=val_set zs' (k+n2) cy hkl;rw[hz0,Nat.mul_zero,Nat.add_zero,hv',hv.out,val_limbs] at e1;rw[e1,val_take_succ_any,hxe.out,Nat.add_mul,Nat.mul_assoc]
   have hdr:(zs'.set (k+n2) cy).drop (k+1+n2)=List.replicate (n1-(k+1)) 0:=by
    rw[show k+1+n2=k+n2+1 by omega,drop_set_succ]
    have:=congrArg (List.drop 1) (hd'.trans hd.out);rw[List.drop_drop] at this;rw[this]
    simp
    omega
   replace O2:=Lib.hid O2;replace hb':=Lib.hid hb';replace hlen:=Lib.hid hlen;replace hval:=Lib.hid hval;replace hdr:=Lib.hid hdr;clear O' hl' ht' hd' hv' hg' hkl hz0;go_wp2
   go_roundw
   case rel=>exact⟨k+1,_,by omega,by go_num,hlen.out,O2.out,hb'.out.setCell (Nat.le_refl _) _,hval.out,hdr.out⟩
   case measure=>simp[intOf];omega
  ·obtain rfl:k=n1:=by omega
   go_wp2_with fail
   refine (trim_any _ _ _ zs _ (hO.out.rdn hl.out (Nat.le_refl _)) (by omega)).mono ?_
   rintro e w' ⟨n',rfl,rfl,R⟩;replace R:=Lib.hid R;go_wp2;go_ret;exact⟨_,_,_,rfl,by have:=R.out;rw[hv.out,val_take_all (by rw[R1.out.len];omega),val_limbs] at this;exact this,hB.out⟩
end Go.Proofs.YthlinhconnmbcaaGreat
namespace Go.Proofs.YthlinhconnmbcaaGreat
open Go.RowKit
theorem rvalid_any (A:Option Addr) (n c:Nat) (xs:List Nat) (w:World) (h:Rd w A n c xs) (hn:n≤10000000000) :
  Calls Tryz.prog 92 #[.slice A n c] w fun e w'=>e=.returned (.bool (vldB xs))∧w'=w:=by
 by_cases h0:n=0
 ·have H:Hid (vldB xs=true):=by have:=h.len;show vldB xs=true;rw[List.eq_nil_of_length_eq_zero (by omega:xs.length=0)];rfl
  subst h0;clear h;go_enter Tryz.func92,Tryz.ntmps92;go_wp2;go_ret;rw[H.out];exact⟨rfl,rfl⟩
 ·obtain⟨m,rfl⟩:∃ m,n=m+1:=⟨n-1,by omega⟩
  obtain⟨b,o,x,rfl,hb,hx,hxs,hc⟩:=h.at_ (k:=m) (by omega)
  have H:Hid (vldB xs = !((x:Int)==0)):=vldB_last h.len hxs;clear hxs h h0;have hg:((m:Int)+1==0)=false:=by simp;omega
  have hm:(0:Int)≤m:=by omega
  go_enter Tryz.func92,Tryz.ntmps92;go_wp2;go_ret;rw[H.out];exact⟨rfl,rfl⟩
end Go.Proofs.YthlinhconnmbcaaGreat
namespace Go.Proofs.YthlinhconnmbcaaGreat
open Go.RowKit
def RetDivL (g n b:Nat) (zs:List Nat) (w:World) (e:Ending) (w':World):Prop:=
 ∃ (r:Nat) (zs':List Nat),e=.returned (.int .u32 r)∧r<b∧Own w' g zs'∧zs'.length=n∧val zs'*b+r=val zs∧w.grownBy w' (some g)
theorem divL_any (g n cs b:Nat) (zs:List Nat) (w:World) (hO:Own w g zs) (hl:zs.length=n) (hb:b<4294967296) (hb0:0<b) (hn:n≤10000000000) :
  Calls Tryz.prog 137 #[.slice (some ⟨g,0,none⟩) n cs,.int .u32 b] w (RetDivL g n b zs w):=by
 replace hO:=Lib.hid hO;replace hl:=Lib.hid hl;go_enter Tryz.func137,Tryz.ntmps137;go_wp2
 go_loopw [5,6] (fun rv iv wr=>∃ (i:Int) (k rest:Nat) (zs':List Nat),k≤n∧i+1=k∧iv=.int .i64 i∧rv=.int .u64 rest∧rest<b∧Own wr g zs'∧zs'.length=n∧zs'.take k=zs.take k∧val (zs'.drop k)*b+rest=val (zs.drop k)∧w.grownBy wr (some g))
  (fun _ iv _=>(intOf iv+1).toNat)
 case atStart=>exact⟨_,n,0,zs,Nat.le_refl _,by omega,rfl,rfl,hb0,hO.out,hl.out,rfl,by rw[List.drop_of_length_le (by rw[hl.out];omega)];simp[val],World.grownBy.refl _ _⟩
 case round=>
  obtain⟨i,k,rest,zs',hk,hik,rfl,rfl,hr,hO',hl',ht,hv,hg⟩:=hrel;replace hO':=Lib.hid hO';replace hl':=Lib.hid hl';replace ht:=Lib.hid ht;replace hv:=Lib.hid hv;replace hg:=Lib.hid hg
  by_cases h0:k=0
  ·subst h0
   obtain rfl:i = -1:=by omega
   clear hik;go_wp2;go_ret;exact⟨rest,zs',rfl,hr,hO'.out,hl'.out,by have:=hv.out;simpa using this,hg.out⟩
  ·obtain⟨j,rfl⟩:∃ j,k=j+1:=⟨k-1,by omega⟩
   obtain rfl:i=j:=by omega
   clear hik h0;obtain⟨hx,ht1⟩:=take_step ht.out;have hcell:=hO'.out.cell (k:=j) (by rw[hl'.out];omega)
   obtain⟨x,hxe⟩:∃ x,zs'.getD j 0=x:=⟨_,rfl⟩;have hxb:x<4294967296:=by rw[←hxe];exact sm_get hO'.out.sm _
   rw[hxe] at hcell;have hx':=Lib.hid (hx.symm.trans hxe);clear hx hxe;replace ht1:=Lib.hid ht1;have hfz:=hO'.out.frozen j;have g1:(0:Int)≤(j:Int):=by omega
   have g2:(j:Int)<(n:Int):=by omega
   have hor:=or_limb rest x (by omega) hxb
   obtain⟨t,ht'⟩:∃ t,t=rest*4294967296+x:=⟨_,rfl⟩;rw[←ht'] at hor;have htb:(t:Int)≤18446744073709551615:=by omega
   have ht0:(0:Int)≤(t:Int):=by omega
   have hb1:(1:Int)≤(b:Int):=by omega
   have hq:=quo_bd hr hxb ht';have hqi:(t:Int) / (b:Int)<4294967296:=by rw[←Int.natCast_ediv];exact Int.ofNat_lt.2 hq
   have hqi0:0≤(t:Int) / (b:Int):=by rw[←Int.natCast_ediv];exact Int.natCast_nonneg _
   have hri:(t:Int)%(b:Int)<4294967296:=by rw[←Int.natCast_emod];exact Int.ofNat_lt.2 (Nat.lt_trans (Nat.mod_lt t hb0) hb)
   replace hq:=Lib.hid hq;replace ht':=Lib.hid ht';go_wp2
   go_roundw
   case rel=>
    have O2:=hO'.out.set_ j (t / b) hq.out;rw[Int.natCast_ediv] at O2;exact⟨_,j,t%b,_,by omega,by omega,rfl,by rw[Int.natCast_emod],Nat.mod_lt t hb0,O2,by rw[List.length_set];exact hl'.out,by rw[take_set_low _ _ (Nat.le_refl _)];exact ht1.out,div_step (by rw[hl'.out];omega) (by rw[hl.out];omega) hv.out hx'.out ht'.out,grown_set hg.out _ _⟩
   case measure=>simp[intOf]
end Go.Proofs.YthlinhconnmbcaaGreat
namespace Go.Proofs
open Go.Shelf
def Tryz.lays133_ren:Go.Shelf.Ren:=⟨fun | 133=>141 | 128=>150 | n=>n,fun | 51=>92 | 3=>3 | 4=>4 | 46=>114 | 5=>5 | 9=>9 | n=>n,fun | n=>n⟩
theorem Tryz.lays133:Go.Proofs.Lays.n133 Tryz.prog Tryz.lays133_ren:={
 mixed:=by kernel_rfl
 f128:=Tryz.func150.trans (congrArg some (by kernel_rfl))
 f133:=Tryz.func141.trans (congrArg some (by kernel_rfl))
 t3:=Tryz.underlying3
 a3:=Tryz.isAgg3
 z3:=Tryz.sizeOf3
 v3:=Tryz.zeroValue3
 t4:=Tryz.underlying4
 a4:=Tryz.isAgg4
 z4:=Tryz.sizeOf4
 v4:=Tryz.zeroValue4
 t5:=Tryz.underlying5
 a5:=Tryz.isAgg5
 z5:=Tryz.sizeOf5
 v5:=Tryz.zeroValue5
 t9:=Tryz.underlying9
 a9:=Tryz.isAgg9
 z9:=Tryz.sizeOf9
 v9:=Tryz.zeroValue9
 t46:=Tryz.underlying114
 a46:=Tryz.isAgg114
 z46:=Tryz.sizeOf114
 v46:=Tryz.zeroValue114
 t51:=Tryz.underlying92
 a51:=Tryz.isAgg92
 z51:=Tryz.sizeOf92
 v51:=Tryz.zeroValue92 }
theorem Tryz.bits_LeadingZeros32 (x:Int) (w:World) (h0:0≤x) (h1:x≤4294967295) :
  Calls Tryz.prog 141 #[.int .u32 x] w fun e w'=>e=.returned (.int .i64 (32-(Lib.bitLen x.toNat:Int)))∧w'=w:=Any.bits_LeadingZeros32 Tryz.lays133 x w h0 h1
end Go.Proofs
namespace Go.Proofs.YthlinhconnmbcaaGreat
open Go.RowKit
theorem bitLen_zero:Lib.bitLen 0=0:=by decide +kernel
theorem bitLen_spec (x:Nat) (h:x<18446744073709551616):x<2^Lib.bitLen x∧(0<x→2^Lib.bitLen x≤2*x):=by
 induction x using Nat.strongRecOn with
 | ind x ih=>
  by_cases h0:x=0
  ·subst h0;rw[bitLen_zero];simp
  ·have e:=Lib.bitLen_half x h0 (by omega)
   obtain⟨i1,i2⟩:=ih (x / 2) (by omega) (by omega)
   rw[e,Nat.add_comm,Nat.pow_succ];refine⟨by omega,fun _=>?_⟩
   by_cases h1:x / 2=0
   ·rw[h1,bitLen_zero];omega
   ·have:=i2 (by omega);omega
theorem fromUint_any (v:Nat) (w:World) (hv:v<18446744073709551616) :
  Calls Tryz.prog 98 #[.int .u64 v] w (RetN v w):=by
 have O:=Own.lit w [v%4294967296,v / 4294967296] (by intro x hx;simp at hx;omega)
 have hval:val [v%4294967296,v / 4294967296]=v:=by simp[val];omega
 have h1:(v:Int) / 4294967296<4294967296:=by omega
 have h0:(0:Int)≤v:=by omega
 replace hval:=Lib.hid hval;replace hv:=Lib.hid hv;replace O:=Lib.hid O;go_enter Tryz.func98,Tryz.ntmps98
 go_wp2_with fail
 have R:=O.out.rd0 2 (by simp)
 simp only[List.map,u32,Int.natCast_emod,Int.natCast_ediv,List.length] at R;refine (trim_any _ _ _ _ _ R (by omega)).mono ?_
 rintro e w' ⟨n',rfl,rfl,R2⟩;replace R2:=Lib.hid R2;go_wp2;go_ret;exact⟨_,_,_,rfl,by have:=R2.out;rw[hval.out] at this;exact this,(Below.refl _ _).alloc (Nat.le_refl _) _⟩
theorem shiftRight_any (g n cs s:Nat) (zs:List Nat) (w:World) (hO:Own w g zs) (hl:zs.length=n) (hs:s<32) (hn:n≤10000000000) :
  Calls Tryz.prog 147 #[.slice (some ⟨g,0,none⟩) n cs,.int .i64 s] w fun e w'=>e=.returned (.tuple #[])∧∃ zs',Own w' g zs'∧zs'.length=n∧val zs'=val zs / 2^s∧w.grownBy w' (some g):=by
 replace hO:=Lib.hid hO;replace hl:=Lib.hid hl;go_enter Tryz.func147,Tryz.ntmps147;go_wp2
 go_loopw [4,5] (fun lv iv wr=>∃ (i:Int) (k low:Nat) (zs':List Nat),k≤n∧i+1=k∧iv=.int .i64 i∧lv=.int .u32 low∧low=zs.getD k 0∧Own wr g zs'∧zs'.length=n∧zs'.take k=zs.take k∧val (zs'.drop k)=val (zs.drop k) / 2^s∧w.grownBy wr (some g))
  (fun _ iv _=>(intOf iv+1).toNat)
 case atStart=>exact⟨_,n,0,zs,Nat.le_refl _,by omega,rfl,rfl,by rw[getD_none (by rw[hl.out];omega)],hO.out,hl.out,rfl,by rw[List.drop_of_length_le (by rw[hl.out];omega)];simp[val],World.grownBy.refl _ _⟩
 case round=>
  obtain⟨i,k,low,zs',hk,hik,rfl,rfl,hlow,hO',hl',ht,hv,hg⟩:=hrel;replace hO':=Lib.hid hO';replace hl':=Lib.hid hl';replace ht:=Lib.hid ht;replace hv:=Lib.hid hv;replace hg:=Lib.hid hg;have hlb:low<4294967296:=by rw[hlow];exact sm_get hO.out.sm _
  replace hlow:=Lib.hid hlow
  by_cases h0:k=0
  ·subst h0
   obtain rfl:i = -1:=by omega
   clear hik;go_wp2
   go_end0
   exact⟨rfl,zs',hO'.out,hl'.out,by have:=hv.out;simpa using this,hg.out⟩
  ·obtain⟨j,rfl⟩:∃ j,k=j+1:=⟨k-1,by omega⟩
   obtain rfl:i=j:=by omega
   clear hik h0;obtain⟨hx,ht1⟩:=take_step ht.out;have hcell:=hO'.out.cell (k:=j) (by rw[hl'.out];omega)
   obtain⟨x,hxe⟩:∃ x,zs'.getD j 0=x:=⟨_,rfl⟩;have hxb:x<4294967296:=by rw[←hxe];exact sm_get hO'.out.sm _
   rw[hxe] at hcell;have hx':=Lib.hid (hx.symm.trans hxe);clear hx hxe;replace ht1:=Lib.hid ht1;have hfz:=hO'.out.frozen j;have g1:(0:Int)≤(j:Int):=by omega
   have g2:(j:Int)<(n:Int):=by omega
   have hor:=or_limb low x hlb hxb;obtain⟨t,ht'⟩:∃ t,t=low*4294967296+x:=⟨_,rfl⟩;rw[←ht'] at hor;have htb:(t:Int)≤18446744073709551615:=by omega
   have ht0:(0:Int)≤(t:Int):=by omega
   replace ht':=Lib.hid ht';go_wp2
   go_roundw
   case rel=>
    have O2:=hO'.out.set_ j (t / 2^s%4294967296) (by omega)
    have e:((t / 2^s%4294967296:Nat):Int)=(t:Int) / 2^s%4294967296:=by simp
    rw[e] at O2;exact⟨_,j,x,_,by omega,by omega,rfl,rfl,hx'.out.symm,O2,by rw[List.length_set];exact hl'.out,by rw[take_set_low _ _ (Nat.le_refl _)];exact ht1.out,shr_step (by rw[hl'.out];omega) (by rw[hl.out];omega) hs hO.out.sm hv.out hlow.out hx'.out ht'.out,grown_set hg.out _ _⟩
   case measure=>simp[intOf]
end Go.Proofs.YthlinhconnmbcaaGreat
namespace Go.Proofs.YthlinhconnmbcaaGreat
open Go.RowKit
def RetDiv (x y:Nat) (w:World) (e:Ending) (w':World):Prop:=
 ∃ A n c A' n' c',e=.returned (.tuple #[.slice A n c,.slice A' n' c',.bool true])∧Rd w' A n c (limbs (x / y))∧Rd w' A' n' c' (limbs (x%y))∧Below w.heap.size w w'
theorem limbs_ne {y n:Nat} (h:(limbs y).length=n) (hy:0<y):1≤n:=by
 rw[limbs_pos hy] at h;simp at h;omega
theorem div_less (A:Option Addr) (n c:Nat) (xs:List Nat) (A':Option Addr) (n' c':Nat) (ys:List Nat) (w:World)
  (h1:Rd w A n c xs) (h2:Rd w A' n' c' ys) (hn:n≤1000000000) (hn':n'≤1000000000) (hlt:num xs<num ys) :
  Calls Tryz.prog 132 #[.slice A n c,.slice A' n' c'] w (RetDiv (num xs) (num ys) w):=by
 replace h1:=Lib.hid h1;replace h2:=Lib.hid h2;replace hlt:=Lib.hid hlt;go_enter Tryz.func132,Tryz.ntmps132
 go_wp2_with fail
 refine (known_any _ _ _ xs _ h1.out (by omega)).mono ?_
 rintro e w' ⟨B1,n1,c1,rfl,rfl,R1,l1⟩;replace R1:=Lib.hid R1
 go_wp2_with fail
 refine (known_any _ _ _ ys _ h2.out (by omega)).mono ?_
 rintro e w' ⟨B2,n2,c2,rfl,rfl,R2,l2⟩;replace R2:=Lib.hid R2;clear h1 h2;have hn2:1≤n2:=limbs_ne R2.out.len (by have:=hlt.out;omega)
 have hg:((n2:Int)==0)=false:=by simp;omega
 go_wp2_with fail
 have hc:=compare_any _ _ _ _ _ _ _ _ _ R1.out R2.out (by omega) (by omega)
 rw[num_limbs,num_limbs,cmpi_lt (by have:=hlt.out;omega)] at hc
 refine hc.mono ?_
 clear hc;rintro e w' ⟨rfl,m,rfl⟩
 go_wp2_with fail
 refine (clone_any _ _ _ _ _ (R1.out.drewN m) (by omega)).mono ?_
 rintro e w' ⟨B3,c3,rfl,R3,O3,b3⟩;replace R3:=Lib.hid R3;replace b3:Hid (Below w.heap.size w w'):=Lib.hid ((drewN_below w m).trans b3);clear O3;go_wp2
 go_ret3
 exact⟨_,_,_,_,_,_,rfl,by rw[Nat.div_eq_of_lt hlt.out,limbs_zero];exact Rd.nil_ _ _ _,by rw[Nat.mod_eq_of_lt hlt.out];exact R3.out,b3.out⟩
theorem limbs_one {y:Nat} (h:(limbs y).length=1):y<4294967296∧(limbs y).getD 0 0=y:=by
 have h1:=limbs_len_le.1 (show (limbs y).length≤1 by omega)
 rw[Nat.pow_one] at h1;refine⟨h1,?_⟩
 rcases Nat.eq_zero_or_pos y with h0 | h0
 ·subst h0;rw[limbs_zero];rfl
 ·rw[limbs_pos h0];show y%4294967296=y;omega
theorem divmod_of {x y q r:Nat} (h:q*y+r=x) (hr:r<y):x / y=q∧x%y=r:=by
 constructor
 ·rw[←h,Nat.mul_comm,Nat.mul_add_div (by omega),Nat.div_eq_of_lt hr,Nat.add_zero]
 ·rw[←h,Nat.mul_comm,Nat.mul_add_mod,Nat.mod_eq_of_lt hr]
theorem div_one (A:Option Addr) (n c:Nat) (xs:List Nat) (A':Option Addr) (n' c':Nat) (ys:List Nat) (w:World)
  (h1:Rd w A n c xs) (h2:Rd w A' n' c' ys) (hn:n≤1000000000) (hn':n'≤1000000000) (hge:num ys≤num xs) (hlen:(limbs (num ys)).length=1) :
  Calls Tryz.prog 132 #[.slice A n c,.slice A' n' c'] w (RetDiv (num xs) (num ys) w):=by
 have hy0:0<num ys:=by
  rcases Nat.eq_zero_or_pos (num ys) with h | h
  ·rw[h,limbs_zero] at hlen;cases hlen
  ·exact h
 replace h1:=Lib.hid h1;replace h2:=Lib.hid h2;replace hge:=Lib.hid hge;replace hlen:=Lib.hid hlen;replace hy0:=Lib.hid hy0;go_enter Tryz.func132,Tryz.ntmps132
 go_wp2_with fail
 refine (known_any _ _ _ xs _ h1.out (by omega)).mono ?_
 rintro e w' ⟨B1,n1,c1,rfl,rfl,R1,l1⟩;replace R1:=Lib.hid R1
 go_wp2_with fail
 refine (known_any _ _ _ ys _ h2.out (by omega)).mono ?_
 rintro e w' ⟨B2,n2,c2,rfl,rfl,R2,l2⟩;obtain rfl:n2=1:=by rw[←R2.len,hlen.out]
 obtain⟨bb,ob,yb,rfl,hbb,hyb,hye,hcy⟩:=R2.at_ (k:=0) (by omega)
 have hyy:yb=num ys:=hye.symm.trans (limbs_one hlen.out).2;replace hyy:=Lib.hid hyy;clear hye;replace R2:=Lib.hid R2;clear h1 h2
 go_wp2_with fail
 have hc:=compare_any _ _ _ _ _ _ _ _ _ R1.out R2.out (by omega) (by omega)
 rw[num_limbs,num_limbs] at hc;obtain⟨q,hq,hq0⟩:∃ q,cmpi (num xs) (num ys)=q∧0≤q:=⟨_,rfl,by unfold cmpi;have:=hge.out;split;omega;split<;>omega⟩
 rw[hq] at hc;clear hq;have hq1:decide (q<0)=false:=by simp;omega
 refine hc.mono ?_
 clear hc;rintro e w' ⟨rfl,m,rfl⟩
 go_wp2_with fail
 refine (clone_any _ _ _ _ _ (R1.out.drewN m) (by omega)).mono ?_
 rintro e w' ⟨B3,c3,rfl,R3,O3,b3⟩;have hn1:1≤n1:=limbs_ne R1.out.len (by have:=hge.out;have:=hy0.out;omega)
 obtain⟨g,rfl,hg,O⟩:∃ g,B3=some ⟨g,0,none⟩∧w.heap.size≤g∧Own w' g (limbs (num xs)):=by
  rcases O3 with h | h
  ·omega
  ·exact h
 clear O3;have hcap:=Lib.hid R3.cap;clear R3;replace b3:Hid (Below w.heap.size w w'):=Lib.hid ((drewN_below w m).trans b3);replace hcy:w'.cell? ⟨bb,ob,none⟩=some (.int .u32 (yb:Int)):=(b3.out.cell (p:=⟨bb,ob,none⟩) hbb).trans hcy;replace O:=Lib.hid O
 go_wp2_with fail
 refine (divL_any g n1 _ yb _ _ O.out R1.out.len hyb (by rw[hyy.out];exact hy0.out) (by omega)).mono ?_
 rintro e w2 ⟨r,zs',rfl,hr,O',hl',hv,hg'⟩;have b4:Hid (Below w.heap.size w w2):=Lib.hid (Below.grown b3.out hg' (by have:=O.out.lt;omega) (by intro k hk;injection hk;omega))
 clear hg' hcy;obtain⟨hd1,hd2⟩:=divmod_of (hv.trans (val_limbs _)) hr;rw[hyy.out] at hd1 hd2;replace hd1:=Lib.hid hd1;replace hd2:=Lib.hid hd2;replace O':=Lib.hid O';replace hl':=Lib.hid hl';clear hv
 go_wp2_with fail
 refine (trim_any _ _ _ zs' _ (O'.out.rdn hl'.out hcap.out) (by omega)).mono ?_
 rintro e w3 ⟨n4,rfl,rfl,R4⟩;replace R4:=Lib.hid R4
 go_wp2_with fail
 refine (fromUint_any r _ (by omega)).mono ?_
 rintro e w4 ⟨A5,n5,c5,rfl,R5,b5⟩;replace R4:=Lib.hid (R4.out.below b5);replace R5:=Lib.hid R5;replace b5:=Lib.hid b5;go_wp2
 go_ret3
 exact⟨_,_,_,_,_,_,rfl,by rw[hd1.out];exact R4.out,by rw[hd2.out];exact R5.out,b4.out.trans (b5.out.mono b4.out.size)⟩
end Go.Proofs.YthlinhconnmbcaaGreat
namespace Go.Proofs.YthlinhconnmbcaaGreat
open Go.RowKit
theorem add_own (A:Option Addr) (n c:Nat) (xs:List Nat) (A':Option Addr) (n' c':Nat) (ys:List Nat) (w:World)
  (h1:Rd w A n c xs) (h2:Rd w A' n' c' ys) (hn:n≤1000000000) (hn':n'≤1000000000) :
  Calls Tryz.prog 125 #[.slice A n c,.slice A' n' c'] w (RetO (num xs+num ys) w):=by
 replace h1:=Lib.hid h1;replace h2:=Lib.hid h2;go_enter Tryz.func125,Tryz.ntmps125
 go_wp2_with fail
 refine (known_any _ _ _ xs _ h1.out (by omega)).mono ?_
 rintro e w' ⟨B1,n1,c1,rfl,rfl,R1,l1⟩;replace R1:=Lib.hid R1
 go_wp2_with fail
 refine (known_any _ _ _ ys _ h2.out (by omega)).mono ?_
 rintro e w' ⟨B2,n2,c2,rfl,rfl,R2,l2⟩;replace R2:=Lib.hid R2
 go_upto_if 16 with fail
 go_cut [0,1] (fun a b w'=>∃ A1 n1 c1 A2 n2 c2 x y,a=.slice A1 n1 c1∧b=.slice A2 n2 c2∧Rd w A1 n1 c1 (limbs x)∧Rd w A2 n2 c2 (limbs y)∧n2≤n1∧n1≤1000000000∧x+y=num xs+num ys∧w=w')
 case first=>
  by_cases hlt:n1<n2
  ·go_wp2
   go_meet
   case rel=>exact⟨_,_,_,_,_,_,_,_,rfl,rfl,R2.out,R1.out,by omega,by omega,Nat.add_comm _ _,rfl⟩
  ·go_wp2
   go_meet
   case rel=>exact⟨_,_,_,_,_,_,_,_,rfl,rfl,R1.out,R2.out,by omega,by omega,rfl,rfl⟩
 case rest=>
  clear R1 R2 l1 l2;obtain⟨A1,n1,c1,A2,n2,c2,x,y,rfl,rfl,R1,R2,hle,hb1,hxy,rfl⟩:=hcut;replace R1:=Lib.hid R1;replace R2:=Lib.hid R2;replace hxy:=Lib.hid hxy;have hmk:∀ W:World,(Instr.makeSlice 29 (.int .i64 ((n1:Int)+1)) (.int .i64 ((n1:Int)+1))).run Tryz.prog W=.ok (.slice (some ⟨W.heap.size,0,none⟩) (n1+1) (n1+1)) (W.alloc (.cells (madeCells #[.int .u32 0] (n1+1)) 92)):=fun W=>make_u32 (n1+1) (by omega) .i64 .i64 W
  go_wp2
  go_loopw [6,25] (fun cv iv wr=>∃ (k cy:Nat) (zs:List Nat),k≤n1∧iv=.int .i64 k∧cv=.int .u64 cy∧cy≤1∧zs.length=n1+1∧Own wr w.heap.size zs∧Below w.heap.size w wr∧val (zs.take k)+4294967296^k*cy=val ((limbs x).take k)+val ((limbs y).take k))
   (fun _ iv _=>n1-(intOf iv).toNat)
  case atStart=>exact⟨0,0,List.replicate (n1+1) 0,Nat.zero_le _,rfl,rfl,by omega,by simp,Own.new _ _,(Below.refl _ _).alloc (Nat.le_refl _) _,by simp[val]⟩
  case round=>
   clear hmk;obtain⟨k,cy,zs,hk,rfl,rfl,hcy,hzl,hO,hB,hval⟩:=hrel;replace hval:=Lib.hid hval;replace hzl:=Lib.hid hzl;replace hO:=Lib.hid hO;replace hB:=Lib.hid hB
   by_cases hlt:k<n1
   ·obtain⟨b1,o1,x1,rfl,hb1,hx1,hxe,hcx⟩:=(R1.out.below hB.out).at_ hlt
    replace hxe:=Lib.hid hxe;have hcell:=hO.out.cell (k:=k) (by rw[hzl.out];omega)
    have hfz:=hO.out.frozen k
    by_cases hlt2:k<n2
    ·obtain⟨b2,o2,y1,rfl,hb2,hy1,hye,hcy2⟩:=(R2.out.below hB.out).at_ hlt2
     replace hye:=Lib.hid hye;go_wp2
     go_roundw
     case rel=>
      have O:=hO.out.set_ k ((cy+x1+y1)%4294967296) (by omega)
      rw[show (((cy+x1+y1)%4294967296:Nat):Int)=((cy:Int)+x1+y1)%4294967296 by omega] at O
      exact⟨k+1,(cy+x1+y1) / 4294967296,_,by omega,by go_num,by go_num,by omega,by rw[List.length_set];exact hzl.out,O,hB.out.setCell (Nat.le_refl _) _,add_step (by rw[hzl.out];omega) hval.out hxe.out hye.out⟩
     case measure=>simp[intOf];omega
    ·have hye:=Lib.hid (getD_none (X:=limbs y) (k:=k) (by rw[R2.out.len];omega))
     go_wp2
     go_roundw
     case rel=>
      have O:=hO.out.set_ k ((cy+x1+0)%4294967296) (by omega)
      rw[show (((cy+x1+0)%4294967296:Nat):Int)=((cy:Int)+x1)%4294967296 by omega] at O
      exact⟨k+1,(cy+x1+0) / 4294967296,_,by omega,by go_num,by go_num,by omega,by rw[List.length_set];exact hzl.out,O,hB.out.setCell (Nat.le_refl _) _,add_step (by rw[hzl.out];omega) hval.out hxe.out hye.out⟩
     case measure=>simp[intOf];omega
   ·obtain rfl:k=n1:=by omega
    have hcell:=hO.out.cell (k:=k) (by rw[hzl.out];omega)
    have hfz:=hO.out.frozen k
    go_wp2_with fail
    have O:=hO.out.set_ k cy (by omega)
    have hv:=Lib.hid (add_last hzl.out hval.out (by rw[R1.out.len];omega) (by rw[R2.out.len];omega))
    refine (trim_any _ _ _ (zs.set k cy) _ (O.rdn (by rw[List.length_set];exact hzl.out) (Nat.le_refl _)) (by omega)).mono ?_
    rintro e w' ⟨n',rfl,rfl,R⟩;replace R:=Lib.hid R;replace O:=Lib.hid O;clear hcell hfz;go_wp2;go_ret;have hv2:val (zs.set k cy)=num xs+num ys:=by rw[hv.out,val_limbs,val_limbs,hxy.out]
    have ht:=trim_take O.out.sm;have O2:=O.out.pre (limbs (val (zs.set k cy))).length;rw[←ht,hv2] at O2;have hl:=R.out.len;rw[hv2] at hl;exact⟨_,_,_,rfl,Nat.le_refl _,O2,hl,R.out.cap,hB.out.setCell (Nat.le_refl _) _⟩
theorem add_any (A:Option Addr) (n c:Nat) (xs:List Nat) (A':Option Addr) (n' c':Nat) (ys:List Nat) (w:World)
  (h1:Rd w A n c xs) (h2:Rd w A' n' c' ys) (hn:n≤1000000000) (hn':n'≤1000000000) :
  Calls Tryz.prog 125 #[.slice A n c,.slice A' n' c'] w (RetN (num xs+num ys) w):=
 (add_own A n c xs A' n' c' ys w h1 h2 hn hn').mono fun _ _ h=>h.n
end Go.Proofs.YthlinhconnmbcaaGreat
namespace Go.Proofs.YthlinhconnmbcaaGreat
open Go.RowKit
theorem lz32_any (l:Nat) (w:World) (h:l<4294967296):Calls Tryz.prog 141 #[.int .u32 l] w fun e w'=>e=.returned (.int .i64 (32-(Lib.bitLen l:Int)))∧w=w':=by
 have:=Tryz.bits_LeadingZeros32 l w (by omega) (by omega)
 rw[show ((l:Int).toNat)=l by omega] at this
 exact this.mono fun _ _ ⟨a,b⟩=>⟨a,b.symm⟩
end Go.Proofs.YthlinhconnmbcaaGreat
