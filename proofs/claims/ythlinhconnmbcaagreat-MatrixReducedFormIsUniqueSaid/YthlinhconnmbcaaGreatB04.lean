/- Contracts of reduce and of natural.Gcd. -/
import Derived.Deep.RegionHeld3
import Derived.Test.YthlinhconnmbcaaGreatB03
import Derived.RegionTactic
import Derived.Deep.RegionWith
import Derived.Test.YthlinhconnmbcaaGreatB02
import Derived.Deep.DeepCutAuto
import Derived.Test.YthlinhconnmbcaaGreatB01
set_option maxRecDepth 100000
set_option maxHeartbeats 40000000
set_option linter.unusedVariables false
namespace Go.Proofs.YthlinhconnmbcaaGreat
open Go.RowKit
def RetRed (X Y p:Nat) (w:World) (e:Ending) (w':World):Prop:=
 ∃ X' Y' A n c A' n' c',e=.returned (.tuple #[.slice A n c,.slice A' n' c'])∧Rd w' A n c (limbs X')∧Rd w' A' n' c' (limbs Y')∧Later X Y X' Y'∧n≤p∧n'≤p∧Below w.heap.size w w'
theorem skeep {a b:World} {g:Nat} {v0 v1 v2 v3:Value} (hb:Below a.heap.size a b) (hg:g<a.heap.size)
  (h:a.cell? ⟨g,0,none⟩=some v0∧a.cell? ⟨g,1,none⟩=some v1∧a.cell? ⟨g,2,none⟩=some v2∧a.cell? ⟨g,3,none⟩=some v3) :
  b.cell? ⟨g,0,none⟩=some v0∧b.cell? ⟨g,1,none⟩=some v1∧b.cell? ⟨g,2,none⟩=some v2∧b.cell? ⟨g,3,none⟩=some v3:=
 ⟨(hb.cell (p:=⟨g,0,none⟩) hg).trans h.1,(hb.cell (p:=⟨g,1,none⟩) hg).trans h.2.1,(hb.cell (p:=⟨g,2,none⟩) hg).trans h.2.2.1,(hb.cell (p:=⟨g,3,none⟩) hg).trans h.2.2.2⟩
theorem len_later {X n N:Nat} (h:(limbs X).length=n) (hle:N≤X):(limbs N).length≤n:=by
 have:=len_le hle;omega
theorem reduce_any (A:Option Addr) (n c X:Nat) (A':Option Addr) (n' c' Y:Nat) (w:World) (h1:Rd w A n c (limbs X)) (h2:Rd w A' n' c' (limbs Y)) (hn:n≤100000000) (hle:Y≤X) (hn':2<n') :
  Calls Tryz.prog 135 #[.slice A n c,.slice A' n' c'] w (RetRed X Y n w):=by
 have hnn:n'≤n:=by have:=len_le hle;rw[h1.len,h2.len] at this;exact this
 obtain⟨m,rfl⟩:∃ m,n=m+3:=⟨n-3,by omega⟩
 have hY0:0<Y:=by
  rcases Nat.eq_zero_or_pos Y with h | h
  ·have:=h2.len;rw[h,limbs_zero] at this;simp at this;omega
  ·exact h
 obtain⟨bb,ob,l,rfl,hbb,hlb,hlx,hcl⟩:=h1.at_ (k:=m+2) (by omega)
 have hl0:0<l:=by
  have hv:=vldB_last (xs:=limbs X) (m:=m+2) h1.len hlx;rw[vldB_limbs] at hv
  simp at hv
  omega
 have hlz:=fun W=>lz_nat l W hlb
 have hbl:=bitLen_spec l (by omega)
 have hbl32:=Lib.bitLen_le l 32 (by omega) (by omega)
 obtain⟨bl,hble⟩:∃ bl,Lib.bitLen l=bl:=⟨_,rfl⟩;rw[hble] at hbl hbl32;have hbl1:1≤bl:=by
  rcases Nat.eq_zero_or_pos bl with h | h
  ·rw[h] at hbl;have:=hbl.1;simp at this;omega
  ·exact h
 simp only[hble] at hlz;clear hble;obtain⟨s,hs⟩:∃ s,32-bl=s:=⟨_,rfl⟩;rw[hs] at hlz;have hs31:s<32:=by omega
 have hhb:=high_bound h1.len hlx hbl.1 (by omega:s+bl=32)
 have hXl:=lt_of_len h1.len;have hVY:Y / 4294967296^m≤X / 4294967296^m:=Nat.div_le_div_right hle;have hhbY:Y / 4294967296^m*2^s<79228162514264337593543950336:=Nat.lt_of_le_of_lt (Nat.mul_le_mul_right _ hVY) hhb;have hx64:=high_64 hs31 hhb;have hyx:Y / 4294967296^m / 2^(32-s)≤X / 4294967296^m / 2^(32-s):=Nat.div_le_div_right hVY;have hH1:=fun W ni si h' e1 e2=>high_any (some ⟨bb,ob,none⟩) (m+3) c X m s ni si W h' (by omega) (by omega) e1 e2 hs31 hXl hhb
 have hH2:=fun W ni si h' e1 e2=>high_any A' n' c' Y m s ni si W h' (by omega) (by omega) e1 e2 hs31 (by omega) hhbY
 obtain⟨T,hT⟩:∃ T,4294967296^m*2^(32-s)=T:=⟨_,rfl⟩;have hTp:0<T:=by rw[←hT];exact Nat.mul_pos (Nat.pow_pos (by omega)) (Nat.pow_pos (by omega))
 rw[Nat.div_div_eq_div_mul,Nat.div_div_eq_div_mul,hT] at hyx;rw[Nat.div_div_eq_div_mul,hT] at hx64;simp only[Nat.div_div_eq_div_mul,hT] at hH1 hH2;have eX:X=X / T*T+X%T:=(Nat.div_add_mod' X T).symm;have eY:Y=Y / T*T+Y%T:=(Nat.div_add_mod' Y T).symm;have lX:=Nat.mod_lt X hTp;have lY:=Nat.mod_lt Y hTp;obtain⟨xh,hxh⟩:∃ xh,X / T=xh:=⟨_,rfl⟩;obtain⟨yh,hyh⟩:∃ yh,Y / T=yh:=⟨_,rfl⟩;rw[hxh] at hx64 hyx eX;rw[hyh] at hyx eY
 simp only[hxh] at hH1;simp only[hyh] at hH2;have hF:=fun W=>foresee_any xh yh W hx64 hyx
 have hdv:=fun W k1 k2=>div_b (some ⟨bb,ob,none⟩) (m+3) c X A' n' c' Y W (m+3) (m+3) k1 k2 (by omega) hnn (by omega) (by omega) hY0
 replace hlz:=Lib.hid hlz;replace hH1:=Lib.hid hH1;replace hH2:=Lib.hid hH2;replace hF:=Lib.hid hF;replace hdv:=Lib.hid hdv;replace eX:=Lib.hid eX;replace eY:=Lib.hid eY;replace lX:=Lib.hid lX;replace lY:=Lib.hid lY;replace h1:=Lib.hid h1;replace h2:=Lib.hid h2;replace hle:=Lib.hid hle;replace hY0:=Lib.hid hY0;replace hx64:=Lib.hid hx64;clear hbl hbl32 hbl1 hs hhb hXl hVY hhbY hyx hT hTp hxh hyh hlx
 go_enter Tryz.func135,Tryz.ntmps135
 go_wp2_with fail
 refine (hlz.out _).mono ?_
 rintro e w' ⟨rfl,rfl⟩
 go_wp2_with fail
 refine (hH1.out _ _ _ h1.out (by omega) rfl).mono ?_
 rintro e w1 ⟨rfl,b1⟩;have R1:=Lib.hid (h1.out.below b1);have R2:=Lib.hid (h2.out.below b1);have B:=Lib.hid b1;clear b1 hcl
 go_wp2_with fail
 refine (hH2.out _ _ _ R2.out (by omega) rfl).mono ?_
 rintro e w2 ⟨rfl,b2⟩;replace R1:=Lib.hid (R1.out.below b2);replace R2:=Lib.hid (R2.out.below b2);replace B:=Lib.hid (B.out.trans (b2.mono B.out.size));clear b2
 go_wp2_with fail
 refine (hF.out _).mono ?_
 rintro e w3 ⟨a,b,cc,d,o,rfl,hG,b3⟩;replace R1:=Lib.hid (R1.out.below b3);replace R2:=Lib.hid (R2.out.below b3);replace B:=Lib.hid (B.out.trans (b3.mono B.out.size));replace hG:=Lib.hid hG;clear b3
 by_cases hb0:b=0
 ·subst hb0
  go_wp2_with fail
  refine (hdv.out _ (R1.out.alloc _) (R2.out.alloc _)).mono ?_
  rintro e w4 ⟨A5,n5,c5,A6,n6,c6,rfl,_,R6,b4,_,l6⟩;replace R2:=Lib.hid ((R2.out.alloc _).below b4);replace R6:=Lib.hid R6;replace B:Hid (Below w.heap.size w w4):=Lib.hid ((B.out.alloc B.out.size _).trans (b4.mono (by have:=B.out.size;simp;omega)))
  clear b4;go_wp2
  go_ret2
  exact⟨Y,X%Y,_,_,_,_,_,_,rfl,R2.out,R6.out,later_div hY0.out hle.out,hnn,l6,B.out⟩
 ·have hbi:((b:Int)==0)=false:=by simp;omega
  obtain⟨r,q,hI,hb1,hds,hr⟩:∃ r q,Inv xh yh r q a b cc d o∧1≤b∧d≤q∧b+d+q≤r:=by
   rcases hG.out with ⟨_,h,_⟩ | h
   ·exact absurd h hb0
   ·exact h
  have hd32:d<4294967296:=hI.small hds (by omega) hx64.out
  obtain⟨hab,hc1⟩:a≤b∧1≤cc:=by
   rcases hI.shape with ⟨_,h,_⟩ | ⟨_,h1,h2⟩
   ·exact absurd h hb0
   ·exact⟨h1,h2⟩
  have hbd:=hI.bd;have hcd:=hI.cd;have hap:=R1.out.alloc (.cells #[.int .u64 (a:Nat),.int .u64 (b:Nat),.int .u64 (cc:Nat),.int .u64 (d:Nat),.bool o] 136);have hap2:=R2.out.alloc (.cells #[.int .u64 (a:Nat),.int .u64 (b:Nat),.int .u64 (cc:Nat),.int .u64 (d:Nat),.bool o] 136);have hap3:Below w.heap.size w (w3.alloc (.cells #[.int .u64 (a:Nat),.int .u64 (b:Nat),.int .u64 (cc:Nat),.int .u64 (d:Nat),.bool o] 136)):=B.out.alloc B.out.size _
  have hap4:(w3.alloc (.cells #[.int .u64 (a:Nat),.int .u64 (b:Nat),.int .u64 (cc:Nat),.int .u64 (d:Nat),.bool o] 136)).heap[w3.heap.size]?=some (.cells #[.int .u64 (a:Nat),.int .u64 (b:Nat),.int .u64 (cc:Nat),.int .u64 (d:Nat),.bool o] 136 (0,0)):=heap_alloc_new w3 _;have hgl:w3.heap.size<(w3.alloc (.cells #[.int .u64 (a:Nat),.int .u64 (b:Nat),.int .u64 (cc:Nat),.int .u64 (d:Nat),.bool o] 136)).heap.size:=by simp
  replace hap:=Lib.hid hap;replace hap2:=Lib.hid hap2;replace hap3:=Lib.hid hap3;replace hap4:=Lib.hid hap4;replace hgl:=Lib.hid hgl;clear R1 R2 B hG hb0
  cases o
  · -- even
   obtain⟨X',Y',hX',hY',hL⟩:=lehmer_even eX.out lX.out eY.out lY.out hI hb1 hc1 hds hr;have hlx':(limbs X').length≤m+3:=len_later h1.out.len hL.lx;have hly':(limbs Y').length≤m+3:=len_later h1.out.len (Nat.le_trans hL.le hL.lx);have hD1:∀ W,Rd W (some ⟨bb,ob,none⟩) (m+3) c (limbs X)→Rd W A' n' c' (limbs Y)→Calls Tryz.prog 144 #[.int .u64 (a:Nat),.slice (some ⟨bb,ob,none⟩) (m+3) c,.int .u64 (b:Nat),.slice A' n' c'] W (RetN X' W):=fun W k1 k2=>by
    have e:a*X-b*Y=X':=by omega
    have:=diff_any (some ⟨bb,ob,none⟩) (m+3) c X A' n' c' Y a b W k1 k2 (by omega) (by omega) (by omega) (by omega) (by omega) (by rw[e];exact Nat.lt_of_le_of_lt hL.lx (Nat.lt_of_lt_of_le (lt_of_len h1.out.len) (Nat.pow_le_pow_right (by omega) (by omega))))
    rw[e] at this;exact this
   have hD2:∀ W,Rd W (some ⟨bb,ob,none⟩) (m+3) c (limbs X)→Rd W A' n' c' (limbs Y)→Calls Tryz.prog 144 #[.int .u64 (d:Nat),.slice A' n' c',.int .u64 (cc:Nat),.slice (some ⟨bb,ob,none⟩) (m+3) c] W (RetN Y' W):=fun W k1 k2=>by
    have e:d*Y-cc*X=Y':=by omega
    have:=diff_any A' n' c' Y (some ⟨bb,ob,none⟩) (m+3) c X d cc W k2 k1 (by omega) (by omega) (by omega) (by omega) (by omega) (by rw[e];exact Nat.lt_of_le_of_lt (Nat.le_trans hL.le hL.lx) (Nat.lt_of_lt_of_le (lt_of_len h1.out.len) (Nat.pow_le_pow_right (by omega) (by omega))))
    rw[e] at this;exact this
   replace hD1:=Lib.hid hD1;replace hD2:=Lib.hid hD2;replace hL:=Lib.hid hL;clear hX' hY' hI hb1 hds hr hab hc1 hbd hcd
   go_wp2_with fail
   generalize w3.alloc (.cells #[.int .u64 (a:Nat),.int .u64 (b:Nat),.int .u64 (cc:Nat),.int .u64 (d:Nat),.bool false] 136)=W at hap hap2 hap3 hap4 hgl ⊢;generalize w3.heap.size=g at hap4 hgl ⊢;have S0:Hid (W.cell? ⟨g,0,none⟩=some (.int .u64 (a:Int))∧W.cell? ⟨g,1,none⟩=some (.int .u64 (b:Int))∧W.cell? ⟨g,2,none⟩=some (.int .u64 (cc:Int))∧W.cell? ⟨g,3,none⟩=some (.int .u64 (d:Int))):=by
    obtain⟨⟨k0,k1,k2,k3,_⟩,_⟩:=cells5 hap4.out;exact⟨k0,k1,k2,k3⟩
   go_region_held3 (fun w'=>w'.cell? ⟨g,0,none⟩=some (.int .u64 (a:Int))∧w'.cell? ⟨g,1,none⟩=some (.int .u64 (b:Int))∧w'.cell? ⟨g,2,none⟩=some (.int .u64 (cc:Int))∧w'.cell? ⟨g,3,none⟩=some (.int .u64 (d:Int)))
    (first | exact S0.out | exact skeep (⟨bb1.os,bb1.tape,bb1.output,bb1.size,bb1.block⟩:Below W.heap.size W w5) hgl.out S0.out | exact skeep (⟨bb2.os,bb2.tape,bb2.output,bb2.size,bb2.block⟩:Below W.heap.size W w6) hgl.out S0.out | exact skeep bb2 (Nat.lt_of_lt_of_le hgl.out bb1.size) (skeep (⟨bb1.os,bb1.tape,bb1.output,bb1.size,bb1.block⟩:Below W.heap.size W w5) hgl.out S0.out) | exact skeep bb1 (Nat.lt_of_lt_of_le hgl.out bb2.size) (skeep (⟨bb2.os,bb2.tape,bb2.output,bb2.size,bb2.block⟩:Below W.heap.size W w6) hgl.out S0.out))
    (first | (go_at_call_of 144 (Value.int IntKind.u64 (a:Int));refine (hD1.out _ (by first | exact⟨hap.out.len,hap.out.cap,hap.out.sm,hap.out.mem⟩ | exact Rd.below (w:=W) hap.out ⟨bb1.os,bb1.tape,bb1.output,bb1.size,bb1.block⟩ | exact Rd.below (w:=W) hap.out ⟨bb2.os,bb2.tape,bb2.output,bb2.size,bb2.block⟩) (by first | exact⟨hap2.out.len,hap2.out.cap,hap2.out.sm,hap2.out.mem⟩ | exact Rd.below (w:=W) hap2.out ⟨bb1.os,bb1.tape,bb1.output,bb1.size,bb1.block⟩ | exact Rd.below (w:=W) hap2.out ⟨bb2.os,bb2.tape,bb2.output,bb2.size,bb2.block⟩)).mono ?_;rintro e w5 ⟨A5,n5,c5,rfl,R5,bb1⟩) | (go_at_call_of 144 (Value.int IntKind.u64 (d:Int));refine (hD2.out _ (by first | exact⟨hap.out.len,hap.out.cap,hap.out.sm,hap.out.mem⟩ | exact Rd.below (w:=W) hap.out ⟨bb1.os,bb1.tape,bb1.output,bb1.size,bb1.block⟩ | exact Rd.below (w:=W) hap.out ⟨bb2.os,bb2.tape,bb2.output,bb2.size,bb2.block⟩) (by first | exact⟨hap2.out.len,hap2.out.cap,hap2.out.sm,hap2.out.mem⟩ | exact Rd.below (w:=W) hap2.out ⟨bb1.os,bb1.tape,bb1.output,bb1.size,bb1.block⟩ | exact Rd.below (w:=W) hap2.out ⟨bb2.os,bb2.tape,bb2.output,bb2.size,bb2.block⟩)).mono ?_;rintro e w6 ⟨A6,n6,c6,rfl,R6,bb2⟩))
   all_goals
    have l5:n5≤m+3:=by rw[←R5.len];exact hlx'
    have l6:n6≤m+3:=by rw[←R6.len];exact hly'
    replace R5:=Lib.hid R5;replace R6:=Lib.hid R6;replace bb1:=Lib.hid bb1;replace bb2:=Lib.hid bb2;go_wp2
    go_ret2
    first
     | exact⟨X',Y',_,_,_,_,_,_,rfl,R5.out.below bb2.out,R6.out,hL.out,l5,l6,(hap3.out.trans ((⟨bb1.out.os,bb1.out.tape,bb1.out.output,bb1.out.size,bb1.out.block⟩:Below W.heap.size W w5).mono hap3.out.size)).trans (bb2.out.mono (Nat.le_trans hap3.out.size bb1.out.size))⟩
     | exact⟨X',Y',_,_,_,_,_,_,rfl,R5.out,R6.out.below bb1.out,hL.out,l5,l6,(hap3.out.trans ((⟨bb2.out.os,bb2.out.tape,bb2.out.output,bb2.out.size,bb2.out.block⟩:Below W.heap.size W w6).mono hap3.out.size)).trans (bb1.out.mono (Nat.le_trans hap3.out.size bb2.out.size))⟩
  · -- odd
   obtain⟨X',Y',hX',hY',hL⟩:=lehmer_odd eX.out lX.out eY.out lY.out hI hb1 hab hc1 hds hr;have hlx':(limbs X').length≤m+3:=len_later h1.out.len hL.lx;have hly':(limbs Y').length≤m+3:=len_later h1.out.len (Nat.le_trans hL.le hL.lx);have hD1:∀ W,Rd W (some ⟨bb,ob,none⟩) (m+3) c (limbs X)→Rd W A' n' c' (limbs Y)→Calls Tryz.prog 144 #[.int .u64 (b:Nat),.slice A' n' c',.int .u64 (a:Nat),.slice (some ⟨bb,ob,none⟩) (m+3) c] W (RetN X' W):=fun W k1 k2=>by
    have e:b*Y-a*X=X':=by omega
    have:=diff_any A' n' c' Y (some ⟨bb,ob,none⟩) (m+3) c X b a W k2 k1 (by omega) (by omega) (by omega) (by omega) (by omega) (by rw[e];exact Nat.lt_of_le_of_lt hL.lx (Nat.lt_of_lt_of_le (lt_of_len h1.out.len) (Nat.pow_le_pow_right (by omega) (by omega))))
    rw[e] at this;exact this
   have hD2:∀ W,Rd W (some ⟨bb,ob,none⟩) (m+3) c (limbs X)→Rd W A' n' c' (limbs Y)→Calls Tryz.prog 144 #[.int .u64 (cc:Nat),.slice (some ⟨bb,ob,none⟩) (m+3) c,.int .u64 (d:Nat),.slice A' n' c'] W (RetN Y' W):=fun W k1 k2=>by
    have e:cc*X-d*Y=Y':=by omega
    have:=diff_any (some ⟨bb,ob,none⟩) (m+3) c X A' n' c' Y cc d W k1 k2 (by omega) (by omega) (by omega) (by omega) (by omega) (by rw[e];exact Nat.lt_of_le_of_lt (Nat.le_trans hL.le hL.lx) (Nat.lt_of_lt_of_le (lt_of_len h1.out.len) (Nat.pow_le_pow_right (by omega) (by omega))))
    rw[e] at this;exact this
   replace hD1:=Lib.hid hD1;replace hD2:=Lib.hid hD2;replace hL:=Lib.hid hL;clear hX' hY' hI hb1 hds hr hab hc1 hbd hcd
   go_wp2_with fail
   generalize w3.alloc (.cells #[.int .u64 (a:Nat),.int .u64 (b:Nat),.int .u64 (cc:Nat),.int .u64 (d:Nat),.bool true] 136)=W at hap hap2 hap3 hap4 hgl ⊢;generalize w3.heap.size=g at hap4 hgl ⊢;have S0:Hid (W.cell? ⟨g,0,none⟩=some (.int .u64 (a:Int))∧W.cell? ⟨g,1,none⟩=some (.int .u64 (b:Int))∧W.cell? ⟨g,2,none⟩=some (.int .u64 (cc:Int))∧W.cell? ⟨g,3,none⟩=some (.int .u64 (d:Int))):=by
    obtain⟨⟨k0,k1,k2,k3,_⟩,_⟩:=cells5 hap4.out;exact⟨k0,k1,k2,k3⟩
   go_region_held3 (fun w'=>w'.cell? ⟨g,0,none⟩=some (.int .u64 (a:Int))∧w'.cell? ⟨g,1,none⟩=some (.int .u64 (b:Int))∧w'.cell? ⟨g,2,none⟩=some (.int .u64 (cc:Int))∧w'.cell? ⟨g,3,none⟩=some (.int .u64 (d:Int)))
    (first | exact S0.out | exact skeep (⟨bb1.os,bb1.tape,bb1.output,bb1.size,bb1.block⟩:Below W.heap.size W w5) hgl.out S0.out | exact skeep (⟨bb2.os,bb2.tape,bb2.output,bb2.size,bb2.block⟩:Below W.heap.size W w6) hgl.out S0.out | exact skeep bb2 (Nat.lt_of_lt_of_le hgl.out bb1.size) (skeep (⟨bb1.os,bb1.tape,bb1.output,bb1.size,bb1.block⟩:Below W.heap.size W w5) hgl.out S0.out) | exact skeep bb1 (Nat.lt_of_lt_of_le hgl.out bb2.size) (skeep (⟨bb2.os,bb2.tape,bb2.output,bb2.size,bb2.block⟩:Below W.heap.size W w6) hgl.out S0.out))
    (first | (go_at_call_of 144 (Value.int IntKind.u64 (b:Int));refine (hD1.out _ (by first | exact⟨hap.out.len,hap.out.cap,hap.out.sm,hap.out.mem⟩ | exact Rd.below (w:=W) hap.out ⟨bb1.os,bb1.tape,bb1.output,bb1.size,bb1.block⟩ | exact Rd.below (w:=W) hap.out ⟨bb2.os,bb2.tape,bb2.output,bb2.size,bb2.block⟩) (by first | exact⟨hap2.out.len,hap2.out.cap,hap2.out.sm,hap2.out.mem⟩ | exact Rd.below (w:=W) hap2.out ⟨bb1.os,bb1.tape,bb1.output,bb1.size,bb1.block⟩ | exact Rd.below (w:=W) hap2.out ⟨bb2.os,bb2.tape,bb2.output,bb2.size,bb2.block⟩)).mono ?_;rintro e w5 ⟨A5,n5,c5,rfl,R5,bb1⟩) | (go_at_call_of 144 (Value.int IntKind.u64 (cc:Int));refine (hD2.out _ (by first | exact⟨hap.out.len,hap.out.cap,hap.out.sm,hap.out.mem⟩ | exact Rd.below (w:=W) hap.out ⟨bb1.os,bb1.tape,bb1.output,bb1.size,bb1.block⟩ | exact Rd.below (w:=W) hap.out ⟨bb2.os,bb2.tape,bb2.output,bb2.size,bb2.block⟩) (by first | exact⟨hap2.out.len,hap2.out.cap,hap2.out.sm,hap2.out.mem⟩ | exact Rd.below (w:=W) hap2.out ⟨bb1.os,bb1.tape,bb1.output,bb1.size,bb1.block⟩ | exact Rd.below (w:=W) hap2.out ⟨bb2.os,bb2.tape,bb2.output,bb2.size,bb2.block⟩)).mono ?_;rintro e w6 ⟨A6,n6,c6,rfl,R6,bb2⟩))
   all_goals
    have l5:n5≤m+3:=by rw[←R5.len];exact hlx'
    have l6:n6≤m+3:=by rw[←R6.len];exact hly'
    replace R5:=Lib.hid R5;replace R6:=Lib.hid R6;replace bb1:=Lib.hid bb1;replace bb2:=Lib.hid bb2;go_wp2
    go_ret2
    first
     | exact⟨X',Y',_,_,_,_,_,_,rfl,R5.out.below bb2.out,R6.out,hL.out,l5,l6,(hap3.out.trans ((⟨bb1.out.os,bb1.out.tape,bb1.out.output,bb1.out.size,bb1.out.block⟩:Below W.heap.size W w5).mono hap3.out.size)).trans (bb2.out.mono (Nat.le_trans hap3.out.size bb1.out.size))⟩
     | exact⟨X',Y',_,_,_,_,_,_,rfl,R5.out,R6.out.below bb1.out,hL.out,l5,l6,(hap3.out.trans ((⟨bb2.out.os,bb2.out.tape,bb2.out.output,bb2.out.size,bb2.out.block⟩:Below W.heap.size W w6).mono hap3.out.size)).trans (bb1.out.mono (Nat.le_trans hap3.out.size bb2.out.size))⟩
theorem gcd_any (A:Option Addr) (n c:Nat) (xs:List Nat) (A':Option Addr) (n' c':Nat) (ys:List Nat) (w:World) (h1:Rd w A n c xs) (h2:Rd w A' n' c' ys) (hn:n≤100000000) (hn':n'≤100000000) :
  Calls Tryz.prog 131 #[.slice A n c,.slice A' n' c'] w (RetN (Nat.gcd (num xs) (num ys)) w):=by
 replace h1:=Lib.hid h1;replace h2:=Lib.hid h2;go_enter Tryz.func131,Tryz.ntmps131
 go_wp2_with fail
 refine (known_any _ _ _ xs _ h1.out (by omega)).mono ?_
 rintro e w' ⟨B1,n1,c1,rfl,rfl,R1,l1⟩;replace R1:=Lib.hid R1
 go_wp2_with fail
 refine (known_any _ _ _ ys _ h2.out (by omega)).mono ?_
 rintro e w' ⟨B2,n2,c2,rfl,rfl,R2,l2⟩;replace R2:=Lib.hid R2;clear h1 h2;obtain⟨q,hq⟩:∃ q,cmpi (num xs) (num ys)=q:=⟨_,rfl⟩;replace hq:=Lib.hid hq
 go_wp2_with fail
 refine (compare_b _ _ _ _ _ _ _ _ _ R1.out R2.out (by omega) (by omega) q hq.out).mono ?_
 rintro e w1 ⟨rfl,b1⟩;replace R1:=Lib.hid (R1.out.below b1);replace R2:=Lib.hid (R2.out.below b1);replace b1:=Lib.hid b1
 go_upto_if 21 with fail
 go_cut [5,6] (fun u v wc=>∃ (X Y:Nat) (A3:Option Addr) (n3 c3:Nat) (A4:Option Addr) (n4 c4:Nat),u=.slice A3 n3 c3∧v=.slice A4 n4 c4∧Rd w1 A3 n3 c3 (limbs X)∧Rd w1 A4 n4 c4 (limbs Y)∧Y≤X∧n3≤100000000∧Nat.gcd X Y=Nat.gcd (num xs) (num ys)∧w1=wc)
 case first=>
  by_cases hlt:q<0
  ·have hle:num xs≤num ys:=by
    have:=hq.out
    rcases Nat.lt_or_ge (num ys) (num xs) with h | h
    ·rw[cmpi_gt (by omega)] at this;omega
    ·exact h
   replace hle:=Lib.hid hle;go_wp2
   go_meet
   case rel=>exact⟨num ys,num xs,_,_,_,_,_,_,rfl,rfl,R2.out,R1.out,hle.out,by omega,Nat.gcd_comm _ _,rfl⟩
  ·have hle:num ys≤num xs:=by
    have:=hq.out
    rcases Nat.lt_or_ge (num xs) (num ys) with h | h
    ·rw[cmpi_lt (by omega)] at this;omega
    ·exact h
   replace hle:=Lib.hid hle;go_wp2
   go_meet
   case rel=>exact⟨num xs,num ys,_,_,_,_,_,_,rfl,rfl,R1.out,R2.out,hle.out,by omega,rfl,rfl⟩
 case rest=>
  clear R1 R2 hq l1 l2;obtain⟨X,Y,A3,n3,c3,A4,n4,c4,rfl,rfl,R3,R4,hle,hn3,hg,rfl⟩:=hcut;replace R3:=Lib.hid R3;replace R4:=Lib.hid R4;replace hle:=Lib.hid hle;replace hg:=Lib.hid hg
  go_wp2_with fail
  go_loopg [5,6] (X+Y) (fun k u v wr=>∃ (X' Y':Nat) (A3:Option Addr) (n3 c3:Nat) (A4:Option Addr) (n4 c4:Nat),u=.slice A3 n3 c3∧v=.slice A4 n4 c4∧Rd wr A3 n3 c3 (limbs X')∧Rd wr A4 n4 c4 (limbs Y')∧Y'≤X'∧n3≤100000000∧Nat.gcd X' Y'=Nat.gcd (num xs) (num ys)∧k=X'+Y'∧Below w1.heap.size w1 wr)
  case atStart=>exact⟨X,Y,_,_,_,_,_,_,rfl,rfl,R3.out,R4.out,hle.out,hn3,hg.out,rfl,Below.refl _ _⟩
  case round=>
   clear R3 R4 hle hn3 hg;obtain⟨X',Y',A3,n3,c3,A4,n4,c4,rfl,rfl,R3,R4,hle,hn3,hg,hk,hB⟩:=hrel;have hn4:n4≤n3:=by have:=len_le hle;rw[R3.len,R4.len] at this;exact this
   replace R3:=Lib.hid R3;replace R4:=Lib.hid R4;replace hle:=Lib.hid hle;replace hg:=Lib.hid hg;replace hk:=Lib.hid hk;replace hB:=Lib.hid hB
   by_cases h2:2<n4
   ·have h2i:(2:Int)<(n4:Int):=by omega
    go_wp2_with fail
    refine (reduce_any _ _ _ _ _ _ _ _ _ R3.out R4.out hn3 hle.out h2).mono ?_
    rintro e w2 ⟨X2,Y2,A5,n5,c5,A6,n6,c6,rfl,R5,R6,hL,l5,l6,b2⟩;replace R5:=Lib.hid R5;replace R6:=Lib.hid R6;replace hL:=Lib.hid hL;replace hB:=Lib.hid (hB.out.trans (b2.mono hB.out.size));have hml:Hid (X2+Y2<gk):=by have:=hL.out.lt;have:=hk.out;show _<_;omega
    have l5':n5≤100000000:=by omega
    clear b2 R3 R4;go_wp2
    go_roundg (X2+Y2)
    case measure=>exact hml.out
    case rel=>exact⟨X2,Y2,_,_,_,_,_,_,rfl,rfl,R5.out,R6.out,hL.out.le,l5',hL.out.gcd.trans hg.out,rfl,hB.out⟩
   ·have h2i:(n4:Int)≤2:=by omega
    by_cases h0:n4=0
    ·subst h0
     have hy0:Y'=0:=limbs_inj (by rw[limbs_zero];exact List.eq_nil_of_length_eq_zero R4.out.len)
     have hgx:X'=Nat.gcd (num xs) (num ys):=by rw[←hg.out,hy0,Nat.gcd_zero_right]
     replace hgx:=Lib.hid hgx;clear hy0 h2
     go_wp2_with fail
     refine (clone_any _ _ _ _ _ R3.out (by omega)).mono ?_
     rintro e w2 ⟨A5,c5,rfl,R5,_,b2⟩;rw[hgx.out] at R5;replace R5:=Lib.hid R5;replace hB:=Lib.hid (b1.out.trans ((hB.out.trans (b2.mono hB.out.size)).mono b1.out.size));clear b2 R3 R4;go_wp2;go_ret;exact⟨_,_,_,rfl,R5.out,hB.out⟩
    ·have hy0:0<Y':=by
      rcases Nat.eq_zero_or_pos Y' with h | h
      ·have:=R4.out.len;rw[h,limbs_zero] at this;exact absurd this.symm h0
      ·exact h
     have h0i:((n4:Int)==0)=false:=by simp;omega
     have hyb:Y'<18446744073709551616:=by have:=lt_of_len R4.out.len;have h3:4294967296^n4≤4294967296^2:=Nat.pow_le_pow_right (by omega) (by omega);rw[two_pow_64] at h3;omega
     have hrb:=Nat.mod_lt X' hy0;have hgf:Nat.gcd Y' (X'%Y')=Nat.gcd (num xs) (num ys):=(gcd_step X' Y').trans hg.out;obtain⟨Z,hZ⟩:∃ Z,X'%Y'=Z:=⟨_,rfl⟩;have hdv:=fun W k1 k2=>div_b A3 n3 c3 X' A4 n4 c4 Y' W 100000000 100000000 k1 k2 hn3 (by omega) (by omega) (by omega) hy0
     simp only[hZ] at hdv;rw[hZ] at hrb hgf;have hzb:Z<18446744073709551616:=by omega
     have hU1:=fun W k=>uint_any A4 n4 c4 (limbs Y') W k (by omega)
     simp only[num_limbs] at hU1;have e1:uval Y'=Y':=if_pos hyb;have e2:uval Z=Z:=if_pos hzb;have e3:uok Y'=true:=decide_eq_true hyb;have e4:uok Z=true:=decide_eq_true hzb;simp only[e1,e3] at hU1;have hU2:∀ W A n c,Rd W A n c (limbs Z)→n≤100000000→Calls Tryz.prog 134 #[.slice A n c] W fun e w'=>e=.returned (.tuple #[.int .u64 (Z:Nat),.bool true])∧W=w':=fun W A n c k hn=>by
      have:=uint_any A n c (limbs Z) W k (by omega)
      simp only[num_limbs,e2,e4] at this;exact this
     have hGU:=fun W=>gcdUint_any Y' Z W hyb hzb
     have hgl:Nat.gcd Y' Z<18446744073709551616:=Nat.lt_of_le_of_lt (Nat.gcd_le_left _ hy0) hyb;simp only[hgf] at hGU;rw[hgf] at hgl;have hFU:=fun W=>fromUint_any (Nat.gcd (num xs) (num ys)) W hgl
     replace hdv:=Lib.hid hdv;replace hU1:=Lib.hid hU1;replace hU2:=Lib.hid hU2;replace hGU:=Lib.hid hGU;replace hFU:=Lib.hid hFU;clear h0 h2 hy0 hyb hrb hgf hZ hzb e1 e2 e3 e4 hgl
     go_wp2_with fail
     refine (hdv.out _ R3.out R4.out).mono ?_
     rintro e w2 ⟨A5,n5,c5,A6,n6,c6,rfl,_,R6,b2,_,l6⟩;replace R4:=Lib.hid (R4.out.below b2);replace R6:=Lib.hid R6;replace hB:=Lib.hid (hB.out.trans (b2.mono hB.out.size));clear b2 R3
     go_wp2_with fail
     refine (hU1.out _ R4.out).mono ?_
     rintro e w' ⟨rfl,rfl⟩
     go_wp2_with fail
     refine (hU2.out _ _ _ _ R6.out l6).mono ?_
     rintro e w' ⟨rfl,rfl⟩
     go_wp2_with fail
     refine (hGU.out _).mono ?_
     rintro e w3 ⟨rfl,b3⟩;replace hB:=Lib.hid (hB.out.trans (b3.mono hB.out.size));clear b3
     go_wp2_with fail
     refine (hFU.out _).mono ?_
     rintro e w4 ⟨A7,n7,c7,rfl,R7,b4⟩;replace R7:=Lib.hid R7;replace hB:=Lib.hid (b1.out.trans ((hB.out.trans (b4.mono hB.out.size)).mono b1.out.size));clear b4;go_wp2;go_ret;exact⟨_,_,_,rfl,R7.out,hB.out⟩
end Go.Proofs.YthlinhconnmbcaaGreat
namespace Go.Proofs.YthlinhconnmbcaaGreat
open Go.RowKit
def vldI (b:Bool) (xs:List Nat):Bool:=vldB xs && !(b&&xs.length==0)
def sg (b:Bool) (N:Nat):Int:=if b then -(N:Int) else (N:Int)
def iv (b:Bool) (xs:List Nat):Int:=if vldI b xs then sg b (val xs) else 0
def ng (z:Int):Bool:=decide (z<0)
theorem ng_sg {b:Bool} {N:Nat} (h:0<N):ng (sg b N)=b:=by
 unfold ng sg;cases b<;>simp<;>omega
theorem abs_sg (b:Bool) (N:Nat):(sg b N).natAbs=N:=by
 unfold sg;cases b<;>simp
theorem sg_zero (b:Bool):sg b 0=0:=by unfold sg;cases b<;>simp
theorem sg_ng (z:Int):sg (ng z) z.natAbs=z:=by
 unfold sg ng
 by_cases h:z<0
 ·rw[decide_eq_true h];simp;omega
 ·rw[decide_eq_false h];simp;omega
theorem vldI_z (z:Int):vldI (ng z) (limbs z.natAbs)=true:=by
 unfold vldI;rw[vldB_limbs]
 by_cases h:z<0
 ·have:0<(limbs z.natAbs).length:=by rw[limbs_pos (by omega)];simp
  have h2:((limbs z.natAbs).length==0)=false:=by rw[beq_eq_false_iff_ne];omega
  rw[h2];simp
 ·have:ng z=false:=decide_eq_false h
  rw[this];rfl
theorem iv_z (z:Int):iv (ng z) (limbs z.natAbs)=z:=by
 unfold iv;rw[vldI_z,if_pos rfl,val_limbs,sg_ng]
theorem iv_no {b:Bool} {xs:List Nat} (h:vldI b xs=false):iv b xs=0:=by unfold iv;rw[h];rfl
theorem iv_yes {b:Bool} {xs:List Nat} (h:vldI b xs=true):iv b xs=sg b (val xs):=by unfold iv;rw[h];rfl
theorem vldI_parts {b:Bool} {xs:List Nat} (h:vldI b xs=true):vldB xs=true∧(b=true→xs≠[]):=by
 unfold vldI at h;rw[Bool.and_eq_true] at h;refine⟨h.1,fun hb hx=>?_⟩
 rw[hb,hx] at h
 simp at h
theorem canon {b:Bool} {xs:List Nat} (hs:Sm xs) (h:vldI b xs=true):b=ng (iv b xs)∧xs=limbs (iv b xs).natAbs:=by
 obtain⟨h1,h2⟩:=vldI_parts h;rw[iv_yes h,abs_sg,limbs_val hs h1];refine⟨?_,rfl⟩
 by_cases hx:xs=[]
 ·subst hx
  have:b=false:=by cases b;rfl;exact absurd rfl (h2 rfl)
  subst this;rfl
 ·exact (ng_sg (val_pos h1 hx)).symm
theorem iv_abs {b:Bool} {xs:List Nat} {k:Nat} (hs:Sm xs) (hl:xs.length≤k):(limbs (iv b xs).natAbs).length≤k:=by
 cases h:vldI b xs
 ·rw[iv_no h];simp[limbs_zero]
 ·rw[←(canon hs h).2];exact hl
def RetI (z:Int) (w:World) (e:Ending) (w':World):Prop:=∃ A n c,e=.returned (.agg #[.bool (ng z),.slice A n c])∧Rd w' A n c (limbs z.natAbs)∧Below w.heap.size w w'
def Bx (w:World) (g:Nat) (b:Bool) (A:Option Addr) (n c:Nat):Prop:=w.heap[g]?=some (.cells #[.bool b,.slice A n c] 31 (0,0))
section
variable {w w':World} {g:Nat} {b:Bool} {A:Option Addr} {n c:Nat}
theorem Bx.lt (h:Bx w g b A n c):g<w.heap.size:=by
 rcases Nat.lt_or_ge g w.heap.size with hlt | hge
 ·exact hlt
 ·unfold Bx at h;rw[Array.getElem?_eq_none hge] at h;cases h
theorem Bx.at_ (h:Bx w g b A n c):w.cell? ⟨g,0,none⟩=some (.bool b)∧w.cell? ⟨g,1,none⟩=some (.slice A n c)∧w.frozen? ⟨g,0,none⟩=false∧w.frozen? ⟨g,1,none⟩=false:=by
 refine⟨?_,?_,?_,?_⟩
 iterate 2 (rw[cell_of_row w g _ _ 31 (0,0) h];rfl)
 all_goals (unfold Bx at h;simp[World.frozen?,h])
theorem Bx.new (w:World) (b:Bool) (A:Option Addr) (n c:Nat):Bx (w.alloc (.cells #[.bool b,.slice A n c] 31)) w.heap.size b A n c:=heap_alloc_new w _
theorem Bx.keep (h:Bx w g b A n c) (hk:w'.heap[g]?=w.heap[g]?):Bx w' g b A n c:=hk.trans h
theorem Bx.alloc (h:Bx w g b A n c) (o:Obj):Bx (w.alloc o) g b A n c:=h.keep (Below.heap_alloc w o g h.lt)
theorem Bx.below {B:Nat} (h:Bx w g b A n c) (hb:Below B w w') (hg:g<B):Bx w' g b A n c:=h.keep (hb.block g hg)
theorem Bx.bel (h:Bx w g b A n c) (hb:Below w.heap.size w w'):Bx w' g b A n c:=h.below hb h.lt
theorem Bx.drew (h:Bx w g b A n c):Bx w.drew g b A n c:=h
theorem Bx.drewN (h:Bx w g b A n c) (k:Nat):Bx (w.drewN k) g b A n c:=h
theorem Bx.put (h:Bx w g b A n c) (b':Bool) (A':Option Addr) (n' c':Nat):Bx ((w.setCell ⟨g,0,none⟩ (.bool b')).setCell ⟨g,1,none⟩ (.slice A' n' c')) g b' A' n' c':=by
 unfold Bx at *
 simp[World.setCell,Array.getElem?_modify,h]
theorem Bx.far (h:Bx w g b A n c) {p:Addr} (hp:g≠p.block) (u:Value):Bx (w.setCell p u) g b A n c:=h.keep (Below.heap_setCell w p u g hp)
end
theorem put_below {B:Nat} {a w:World} {g:Nat} (v0 v1:Value) (h:Below B a w) (hg:B≤g):Below B a ((w.setCell ⟨g,0,none⟩ v0).setCell ⟨g,1,none⟩ v1):=(h.setCell hg _).setCell hg _
theorem cast_beq (n:Nat):((n:Int)==0)=(n==0):=by rw[Bool.eq_iff_iff];simp
theorem validI_any (b:Bool) (A:Option Addr) (n c:Nat) (xs:List Nat) (w:World) (h:Rd w A n c xs) (hn:n≤1000000000) :
  Calls Tryz.prog 117 #[.agg #[.bool b,.slice A n c]] w fun e w'=>e=.returned (.bool (vldI b xs))∧Below w.heap.size w w':=by
 have hl:=h.len;have hv:=valid_any A n c xs (w.alloc (.cells #[.bool b,.slice A n c] 31)) (h.alloc _) (by omega)
 have Hb:=Lib.hid (((Below.refl w.heap.size w).alloc (Nat.le_refl _) (.cells #[.bool b,.slice A n c] 31)));unfold vldI;rw[hl];replace hl:=Lib.hid hl;replace h:=Lib.hid h
 cases hb:vldB xs
 ·rw[hb] at hv
  replace hv:=Lib.hid hv;clear hb;go_enter Tryz.func117,Tryz.ntmps117
  go_wp2_with (go_at_call 127;refine hv.out.mono ?_;rintro e w1 ⟨rfl,rfl⟩)
  go_ret;exact⟨rfl,Hb.out⟩
 ·rw[hb] at hv
  replace hv:=Lib.hid hv;clear hb
  cases b
  ·go_enter Tryz.func117,Tryz.ntmps117
   go_wp2_with (go_at_call 127;refine hv.out.mono ?_;rintro e w1 ⟨rfl,rfl⟩)
   go_ret;exact⟨rfl,Hb.out⟩
  ·go_enter Tryz.func117,Tryz.ntmps117
   go_wp2_with (go_at_call 127;refine hv.out.mono ?_;rintro e w1 ⟨rfl,rfl⟩)
   go_ret;exact⟨by rw[cast_beq];simp,Hb.out⟩
end Go.Proofs.YthlinhconnmbcaaGreat
namespace Go.Proofs.YthlinhconnmbcaaGreat
open Go.RowKit
theorem Bx.two (w:World) (b:Bool) (A:Option Addr) (n c:Nat) (b':Bool) (A':Option Addr) (n' c':Nat) :
  Bx ((w.alloc (.cells #[.bool b,.slice A n c] 31)).alloc (.cells #[.bool b',.slice A' n' c'] 31)) w.heap.size b A n c ∧
  Bx ((w.alloc (.cells #[.bool b,.slice A n c] 31)).alloc (.cells #[.bool b',.slice A' n' c'] 31)) (w.heap.size+1) b' A' n' c':=by
 refine⟨(Bx.new w b A n c).alloc _,?_⟩
 have:=Bx.new (w.alloc (.cells #[.bool b,.slice A n c] 31)) b' A' n' c'
 rwa [show (w.alloc (.cells #[.bool b,.slice A n c] 31)).heap.size=w.heap.size+1 by simp] at this
theorem two_bel (w:World) (o o':Obj):Below w.heap.size w ((w.alloc o).alloc o'):=((Below.refl _ _).alloc (Nat.le_refl _) _).alloc (by simp) _
theorem two_size (w:World) (o o':Obj):((w.alloc o).alloc o').heap.size=w.heap.size+1+1:=by simp
theorem res_known (W:World) (tmps:Array Value) (g:Nat) {b:Bool} {A:Option Addr} {n c:Nat} (ht:tmps.getD 2 undef=.pointer (some ⟨g,0,none⟩)) (h:Bx W g b A n c) :
  (results Tryz.f112 tmps).run Tryz.prog W=.ok (.agg #[.bool b,.slice A n c]) W:=by
 obtain⟨c0,c1,_⟩:=h.at_;have ht':tmps[2]?.getD undef=.pointer (some ⟨g,0,none⟩):=by rw[←ht];simp[Array.getD_eq_getD_getElem?]
 simp[results,Tryz.results112,go_sem,ht',c0,c1]
theorem res_signed (W:World) (tmps:Array Value) (g:Nat) {b:Bool} {A:Option Addr} {n c:Nat} (ht:tmps.getD 4 undef=.pointer (some ⟨g,0,none⟩)) (h:Bx W g b A n c) :
  (results Tryz.f97 tmps).run Tryz.prog W=.ok (.agg #[.bool b,.slice A n c]) W:=by
 obtain⟨c0,c1,_⟩:=h.at_;have ht':tmps[4]?.getD undef=.pointer (some ⟨g,0,none⟩):=by rw[←ht];simp[Array.getD_eq_getD_getElem?]
 simp[results,Tryz.results97,go_sem,ht',c0,c1]
theorem ret_zero {z:Int} {w w':World} {A:Option Addr} {c:Nat} (hz:z=0) (hB:Below w.heap.size w w'):RetI z w (.returned (.agg #[.bool false,.slice A 0 c])) w':=by
 subst hz;exact⟨A,0,c,rfl,by rw[show limbs (0:Int).natAbs=[] from limbs_zero];exact Rd.nil_ _ _ _,hB⟩
theorem ret_I {z:Int} {w w':World} {b:Bool} {A:Option Addr} {n c:Nat} (hb:b=ng z) (R:Rd w' A n c (limbs z.natAbs)) (hB:Below w.heap.size w w'):RetI z w (.returned (.agg #[.bool b,.slice A n c])) w':=by
 subst hb;exact⟨A,n,c,rfl,R,hB⟩
theorem knownI_any (b:Bool) (A:Option Addr) (n c:Nat) (xs:List Nat) (w:World) (h:Rd w A n c xs) (hn:n≤1000000000) :
  Calls Tryz.prog 112 #[.agg #[.bool b,.slice A n c]] w (RetI (iv b xs) w):=by
 have h0:=((h.alloc (.cells #[.bool b,.slice A n c] 31)).alloc (.cells #[.bool false,.slice none 0 0] 31));have hv:=validI_any b A n c xs _ h0 hn;obtain⟨x1,x2⟩:=Bx.two w b A n c false none 0 0;have Bw:=two_bel w (.cells #[.bool b,.slice A n c] 31) (.cells #[.bool false,.slice none 0 0] 31);have hsz:=two_size w (.cells #[.bool b,.slice A n c] 31) (.cells #[.bool false,.slice none 0 0] 31);replace hsz:=Lib.hid hsz
 replace x1:=Lib.hid x1;replace x2:=Lib.hid x2;replace Bw:=Lib.hid Bw
 cases hb:vldI b xs
 ·rw[hb] at hv
  have hz:=Lib.hid (iv_no hb);replace hv:=Lib.hid hv;clear hb h0 h;go_enter Tryz.func112,Tryz.ntmps112
  go_wp2_with (go_at_call 117;refine hv.out.mono ?_;rintro e w1 ⟨rfl,B1⟩;refine Hid.out ?_)
  refine Lib.hid ?_
  have y2:=x2.out.bel B1;have Bw1:=Lib.hid (Bw.out.trans (B1.mono Bw.out.size));obtain⟨c0,c1,f0,f1⟩:=y2.at_;have y3:=Lib.hid (y2.put false none 0 0);clear B1 hv y2;go_wp2;refine bodyPost_ret (res_known _ _ (w.heap.size+1) rfl y3.out) rfl ?_
  exact ret_zero hz.out (put_below _ _ Bw1.out (by omega))
 ·rw[hb] at hv
  have hz:=Lib.hid (canon h.sm hb);replace hv:=Lib.hid hv;clear hb;replace h0:=Lib.hid h0;replace h:=Lib.hid h;go_enter Tryz.func112,Tryz.ntmps112
  go_wp2_with (go_at_call 117;refine hv.out.mono ?_;rintro e w1 ⟨rfl,B1⟩;refine Hid.out ?_)
  refine Lib.hid ?_
  have y1:=x1.out.bel B1;have y2:=x2.out.bel B1;have Bw1:=Lib.hid (Bw.out.trans (B1.mono Bw.out.size));obtain⟨c0,c1,f0,f1⟩:=y2.at_;obtain⟨d0,d1,e0,e1⟩:=y1.at_;have y3:=Lib.hid (y2.put b A n c);have R:=Lib.hid (h.out.below Bw1.out);clear B1 hv y1 y2;go_wp2;refine bodyPost_ret (res_known _ _ (w.heap.size+1) rfl y3.out) rfl ?_
  have R2:=h.out.below (put_below (.bool b) (.slice A n c) Bw1.out (Nat.le_succ _));rw[hz.out.2] at R2;exact ret_I hz.out.1 R2 (put_below _ _ Bw1.out (by omega))
theorem signedI_any (b:Bool) (A:Option Addr) (n c N:Nat) (w:World) (h:Rd w A n c (limbs N)) :
  Calls Tryz.prog 97 #[.bool b,.slice A n c] w (RetI (sg b N) w):=by
 have x2:=Bx.new w false none 0 0;have Bw:=(Below.refl w.heap.size w).alloc (Nat.le_refl _) (.cells #[.bool false,.slice none 0 0] 31);obtain⟨c0,c1,f0,f1⟩:=x2.at_;replace Bw:=Lib.hid Bw
 by_cases h0:n=0
 ·subst h0
  have hN:Hid (sg b N=0):=by
   have:=List.eq_nil_of_length_eq_zero h.len;have h2:=congrArg val this;rw[val_limbs] at h2
   show sg b N=0
   rw[h2];exact sg_zero b
  have y3:=Lib.hid (Bx.new w false none 0 0);clear x2;replace h:=Lib.hid h;go_enter Tryz.func97,Tryz.ntmps97;go_wp2;refine bodyPost_ret (res_signed _ _ w.heap.size rfl y3.out) rfl ?_
  exact ret_zero hN.out ((Below.refl w.heap.size w).alloc (Nat.le_refl _) _)
 ·have hN:Hid (0<N):=by
   rcases Nat.eq_zero_or_pos N with h1 | h1
   ·have:=h.len;rw[h1,limbs_zero] at this;exact absurd this.symm h0
   ·exact h1
  have hn:((n:Int)==0)=false:=by rw[beq_eq_false_iff_ne];omega
  have y3:=Lib.hid (Bx.new w b A n c);clear x2;replace h:=Lib.hid h;replace h0:=Lib.hid h0;go_enter Tryz.func97,Tryz.ntmps97;go_wp2;refine bodyPost_ret (res_signed _ _ w.heap.size rfl y3.out) rfl ?_
  refine ret_I (ng_sg hN.out).symm ?_ ((Below.refl w.heap.size w).alloc (Nat.le_refl _) _)
  rw[abs_sg];exact h.out.alloc _
end Go.Proofs.YthlinhconnmbcaaGreat
namespace Go.Proofs.YthlinhconnmbcaaGreat
open Go.RowKit
structure B3 (w W:World) (b1:Bool) (A1:Option Addr) (n1 c1:Nat) (b2:Bool) (A2:Option Addr) (n2 c2:Nat) (b3:Bool) (A3:Option Addr) (n3 c3:Nat):Prop where
 x1:Bx W w.heap.size b1 A1 n1 c1
 x2:Bx W (w.heap.size+1) b2 A2 n2 c2
 x3:Bx W (w.heap.size+1+1) b3 A3 n3 c3
 bel:Below w.heap.size w W
 sz:w.heap.size+1+1+1≤W.heap.size
section
variable {w W W':World} {b1 b2 b3 b':Bool} {A1 A2 A3 A':Option Addr} {n1 n2 n3 n' c1 c2 c3 c':Nat}
theorem B3.new (w:World) (b1:Bool) (A1:Option Addr) (n1 c1:Nat) (b2:Bool) (A2:Option Addr) (n2 c2:Nat) (b3:Bool) (A3:Option Addr) (n3 c3:Nat) :
  B3 w (((w.alloc (.cells #[.bool b1,.slice A1 n1 c1] 31)).alloc (.cells #[.bool b2,.slice A2 n2 c2] 31)).alloc (.cells #[.bool b3,.slice A3 n3 c3] 31)) b1 A1 n1 c1 b2 A2 n2 c2 b3 A3 n3 c3:=by
 obtain⟨h1,h2⟩:=Bx.two w b1 A1 n1 c1 b2 A2 n2 c2;refine⟨h1.alloc _,h2.alloc _,?_,(two_bel w _ _).alloc (by simp;omega) _,by simp⟩
 have:=Bx.new ((w.alloc (.cells #[.bool b1,.slice A1 n1 c1] 31)).alloc (.cells #[.bool b2,.slice A2 n2 c2] 31)) b3 A3 n3 c3
 rwa [two_size] at this
theorem B3.on (h:B3 w W b1 A1 n1 c1 b2 A2 n2 c2 b3 A3 n3 c3) (hb:Below W.heap.size W W'):B3 w W' b1 A1 n1 c1 b2 A2 n2 c2 b3 A3 n3 c3:=
 ⟨h.x1.bel hb,h.x2.bel hb,h.x3.bel hb,h.bel.trans (hb.mono h.bel.size),Nat.le_trans h.sz hb.size⟩
theorem B3.drew (h:B3 w W b1 A1 n1 c1 b2 A2 n2 c2 b3 A3 n3 c3):B3 w W.drew b1 A1 n1 c1 b2 A2 n2 c2 b3 A3 n3 c3:=⟨h.x1,h.x2,h.x3,h.bel.drew,h.sz⟩
theorem B3.put1 (h:B3 w W b1 A1 n1 c1 b2 A2 n2 c2 b3 A3 n3 c3) (b':Bool) (A':Option Addr) (n' c':Nat) :
  B3 w ((W.setCell ⟨w.heap.size,0,none⟩ (.bool b')).setCell ⟨w.heap.size,1,none⟩ (.slice A' n' c')) b' A' n' c' b2 A2 n2 c2 b3 A3 n3 c3:=
 ⟨h.x1.put _ _ _ _,(h.x2.far (Nat.ne_of_gt (Nat.lt_succ_self _)) _).far (Nat.ne_of_gt (Nat.lt_succ_self _)) _,(h.x3.far (Nat.ne_of_gt (Nat.lt_succ_of_lt (Nat.lt_succ_self _))) _).far (Nat.ne_of_gt (Nat.lt_succ_of_lt (Nat.lt_succ_self _))) _,put_below _ _ h.bel (Nat.le_refl _),by simpa using h.sz⟩
theorem B3.put2 (h:B3 w W b1 A1 n1 c1 b2 A2 n2 c2 b3 A3 n3 c3) (b':Bool) (A':Option Addr) (n' c':Nat) :
  B3 w ((W.setCell ⟨w.heap.size+1,0,none⟩ (.bool b')).setCell ⟨w.heap.size+1,1,none⟩ (.slice A' n' c')) b1 A1 n1 c1 b' A' n' c' b3 A3 n3 c3:=
 ⟨(h.x1.far (Nat.ne_of_lt (Nat.lt_succ_self _)) _).far (Nat.ne_of_lt (Nat.lt_succ_self _)) _,h.x2.put _ _ _ _,(h.x3.far (Nat.ne_of_gt (Nat.lt_succ_self _)) _).far (Nat.ne_of_gt (Nat.lt_succ_self _)) _,put_below _ _ h.bel (Nat.le_succ _),by simpa using h.sz⟩
theorem B3.put3 (h:B3 w W b1 A1 n1 c1 b2 A2 n2 c2 b3 A3 n3 c3) (b':Bool) (A':Option Addr) (n' c':Nat) :
  B3 w ((W.setCell ⟨w.heap.size+1+1,0,none⟩ (.bool b')).setCell ⟨w.heap.size+1+1,1,none⟩ (.slice A' n' c')) b1 A1 n1 c1 b2 A2 n2 c2 b' A' n' c':=
 ⟨(h.x1.far (Nat.ne_of_lt (Nat.lt_succ_of_lt (Nat.lt_succ_self _))) _).far (Nat.ne_of_lt (Nat.lt_succ_of_lt (Nat.lt_succ_self _))) _,(h.x2.far (Nat.ne_of_lt (Nat.lt_succ_self _)) _).far (Nat.ne_of_lt (Nat.lt_succ_self _)) _,h.x3.put _ _ _ _,put_below _ _ h.bel (Nat.le_succ_of_le (Nat.le_succ _)),by simpa using h.sz⟩
theorem B3.two_puts (h:B3 w W b1 A1 n1 c1 b2 A2 n2 c2 b3 A3 n3 c3) (b':Bool) (A':Option Addr) (n' c':Nat) (b'':Bool) (A'':Option Addr) (n'' c'':Nat) :
  B3 w ((((W.setCell ⟨w.heap.size,0,none⟩ (.bool b')).setCell ⟨w.heap.size,1,none⟩ (.slice A' n' c')).setCell ⟨w.heap.size+1,0,none⟩ (.bool b'')).setCell ⟨w.heap.size+1,1,none⟩ (.slice A'' n'' c'')) b' A' n' c' b'' A'' n'' c'' b3 A3 n3 c3:=
 (h.put1 b' A' n' c').put2 b'' A'' n'' c''
end
theorem Rd.drew1 {w:World} {A:Option Addr} {n c:Nat} {xs:List Nat} (h:Rd w A n c xs):Rd w.drew A n c xs:=⟨h.len,h.cap,h.sm,h.mem⟩
theorem Rd.put {W:World} {g:Nat} {b:Bool} {A':Option Addr} {n' c':Nat} {A:Option Addr} {n c:Nat} {xs:List Nat} (h:Rd W A n c xs) (x:Bx W g b A' n' c') (v0 v1:Value) :
  Rd ((W.setCell ⟨g,0,none⟩ v0).setCell ⟨g,1,none⟩ v1) A n c xs:=by
 refine⟨h.len,h.cap,h.sm,?_⟩
 rcases h.mem with h0 | ⟨bk,o,hA,hlt,hc⟩
 ·exact .inl h0
 ·rcases Nat.eq_zero_or_pos n with hn | hn
  ·exact .inl hn
  have hne:bk≠g:=by
   rintro rfl;have h1:=hc 0 hn;rw[Nat.add_zero,cell_of_row W bk o _ 31 (0,0) x] at h1
   match o,h1 with
   | 0,h1=>simp at h1
   | 1,h1=>simp at h1
   | k+2,h1=>simp at h1
  refine .inr ⟨bk,o,hA,by simpa using hlt,fun k hk=>?_⟩
  rw[World.cell?_of_block (Below.heap_setCell _ _ _ _ hne),World.cell?_of_block (Below.heap_setCell _ _ _ _ hne)]
  exact hc k hk
theorem sg_mul (x y:Int):sg (ng x != ng y) (x.natAbs*y.natAbs)=x*y:=by
 have hx:=sg_ng x;have hy:=sg_ng y;generalize x.natAbs=a at *;generalize y.natAbs=b at *;generalize ng x=p at *;generalize ng y=q at *;subst hx hy
 cases p<;>cases q<;>simp[sg,Int.neg_mul,Int.mul_neg]
theorem res_mul (W:World) (tmps:Array Value) (g:Nat) {b:Bool} {A:Option Addr} {n c:Nat} (ht:tmps.getD 4 undef=.pointer (some ⟨g,0,none⟩)) (h:Bx W g b A n c) :
  (results Tryz.f106 tmps).run Tryz.prog W=.ok (.agg #[.bool b,.slice A n c]) W:=by
 obtain⟨c0,c1,_⟩:=h.at_;have ht':tmps[4]?.getD undef=.pointer (some ⟨g,0,none⟩):=by rw[←ht];simp[Array.getD_eq_getD_getElem?]
 simp[results,Tryz.results106,go_sem,ht',c0,c1]
theorem mulI_any (b:Bool) (A:Option Addr) (n c:Nat) (xs:List Nat) (b':Bool) (A':Option Addr) (n' c':Nat) (ys:List Nat) (w:World) (h1:Rd w A n c xs) (h2:Rd w A' n' c' ys) (hn:n≤100000000) (hn':n'≤100000000) :
  Calls Tryz.prog 106 #[.agg #[.bool b,.slice A n c],.agg #[.bool b',.slice A' n' c']] w (RetI (iv b xs*iv b' ys) w):=by
 have hk1:=fun W (h:Rd W A n c xs)=>knownI_any b A n c xs W h (by omega)
 have hk2:=fun W (h:Rd W A' n' c' ys)=>knownI_any b' A' n' c' ys W h (by omega)
 have l1:=iv_abs (b:=b) h1.sm (Nat.le_of_eq h1.len);have l2:=iv_abs (b:=b') h2.sm (Nat.le_of_eq h2.len);generalize iv b xs=z1 at hk1 l1 ⊢;generalize iv b' ys=z2 at hk2 l2 ⊢;replace hk1:=Lib.hid hk1;replace hk2:=Lib.hid hk2;replace l1:=Lib.hid l1;replace l2:=Lib.hid l2;have X:=B3.new w b A n c b' A' n' c' false none 0 0;have R1:=h1.below X.bel;have R2:=h2.below X.bel;go_enter Tryz.func106,Tryz.ntmps106
 go_upto_region 1 with fail
 generalize ((w.alloc (.cells #[.bool b,.slice A n c] 31)).alloc (.cells #[.bool b',.slice A' n' c'] 31)).alloc (.cells #[.bool false,.slice none 0 0] 31)=W0 at X R1 R2 ⊢;obtain⟨a0,a1,a2,a3⟩:=X.x1.at_;obtain⟨d0,d1,d2,d3⟩:=X.x2.at_;replace X:=Lib.hid X;replace R1:=Lib.hid R1;replace R2:=Lib.hid R2
 go_cut [] (fun wx=>∃ A1 n1 c1 A2 n2 c2,B3 w wx (ng (z1)) A1 n1 c1 (ng (z2)) A2 n2 c2 false none 0 0∧Rd wx A1 n1 c1 (limbs (z1).natAbs)∧Rd wx A2 n2 c2 (limbs (z2).natAbs))
 case first=>
  have XD:=Lib.hid X.out.drew;have RD1:=Lib.hid (Rd.drew1 R1.out);have RD2:=Lib.hid (Rd.drew1 R2.out)
  go_region_with (first
   | (go_at_call_of 112 (Value.agg #[.bool b,.slice A n c]);refine (hk1.out _ (by exact RD1.out)).mono ?_;rintro e w1 ⟨A1,n1,c1,rfl,Q1,B1⟩;have X1:=XD.out.on B1;have R2':=RD2.out.below B1;obtain⟨d0',d1',d2',d3'⟩:=X1.x2.at_)
   | (go_at_call_of 112 (Value.agg #[.bool b',.slice A' n' c']);refine (hk2.out _ (by exact R2')).mono ?_;rintro e w2 ⟨A2,n2,c2,rfl,Q2,B2⟩;have X2:=X1.on B2;obtain⟨f0,f1,f2,f3⟩:=X2.x1.at_;obtain⟨k0,k1,k2,k3⟩:=X2.x2.at_))
  all_goals
   have Y:=Lib.hid (X2.two_puts (ng (z1)) A1 n1 c1 (ng (z2)) A2 n2 c2);have P1:=Lib.hid (((Q1.below B2).put X2.x1 (.bool (ng (z1))) (.slice A1 n1 c1)).put (X2.put1 (ng (z1)) A1 n1 c1).x2 (.bool (ng (z2))) (.slice A2 n2 c2));have P2:=Lib.hid ((Q2.put X2.x1 (.bool (ng (z1))) (.slice A1 n1 c1)).put (X2.put1 (ng (z1)) A1 n1 c1).x2 (.bool (ng (z2))) (.slice A2 n2 c2));clear a0 a1 a2 a3 d0 d1 d2 d3 d0' d1' d2' d3' f0 f1 f2 f3 k0 k1 k2 k3 Q1 Q2 B1 B2 X1 X2 R2'
   go_wp2_with fail
   go_meet
   exact⟨_,_,_,_,_,_,Y.out,P1.out,P2.out⟩
 case rest=>
  obtain⟨A1,n1,c1,A2,n2,c2,Y,P1,P2⟩:=hcut;clear X R1 R2 a0 a1 a2 a3 d0 d1 d2 d3 hk1 hk2 h1 h2;have hl1:n1≤100000000:=by have:=l1.out;have:=P1.len;omega
  have hl2:n2≤100000000:=by have:=l2.out;have:=P2.len;omega
  have hs:=Lib.hid (show sg (!(ng z1==ng z2)) (z1.natAbs*z2.natAbs)=z1*z2 from sg_mul z1 z2)
  obtain⟨a0,a1,a2,a3⟩:=Y.x1.at_;obtain⟨d0,d1,d2,d3⟩:=Y.x2.at_;have YD:=Lib.hid Y.drew;have P1D:=Lib.hid (Rd.drew1 P1);have P2D:=Lib.hid (Rd.drew1 P2);clear Y P1 P2
  go_wp2_with fail
  go_region_held3 (fun w'=>w'.cell? ⟨w.heap.size,0,none⟩=some (.bool (ng z1))∧w'.cell? ⟨w.heap.size,1,none⟩=some (.slice A1 n1 c1)∧w'.cell? ⟨w.heap.size+1,0,none⟩=some (.bool (ng z2))∧w'.cell? ⟨w.heap.size+1,1,none⟩=some (.slice A2 n2 c2))
   (first | exact⟨a0,a1,d0,d1⟩ | exact⟨f0,f1,k0,k1⟩ | exact⟨p0,p1,q0,q1⟩ | exact⟨r0,r1,t0,t1⟩)
   (first
    | (go_at_call 122;refine (mul_any _ _ _ (limbs z1.natAbs) _ _ _ (limbs z2.natAbs) _ (by exact P1D.out) (by exact P2D.out) (by omega) (by omega)).mono ?_;rw[num_limbs,num_limbs];rintro e w3 ⟨A3,n3,c3,rfl,Q3,B3'⟩;have Y3:=YD.out.on B3';obtain⟨f0,f1,_⟩:=Y3.x1.at_;obtain⟨k0,k1,_⟩:=Y3.x2.at_)
    | (go_at_call 97;refine (signedI_any _ _ _ _ (z1.natAbs*z2.natAbs) _ (by exact Q3)).mono ?_;rw[hs.out];rintro e w4 ⟨A4,n4,c4,rfl,Q4,B4⟩;have Y4:=Y3.on B4;obtain⟨p0,p1,_⟩:=Y4.x1.at_;obtain⟨q0,q1,_⟩:=Y4.x2.at_;obtain⟨v0,v1,v2,v3⟩:=Y4.x3.at_;have Y5:=Y4.put3 (ng (z1*z2)) A4 n4 c4;obtain⟨r0,r1,_⟩:=Y5.x1.at_;obtain⟨t0,t1,_⟩:=Y5.x2.at_))
  all_goals
   have Y5':=Lib.hid Y5;have Q5:=Lib.hid (Q4.put Y4.x3 (.bool (ng (z1*z2))) (.slice A4 n4 c4));clear Y5 Y4 Y3 r0 r1 t0 t1 v0 v1 v2 v3 p0 p1 q0 q1 f0 f1 k0 k1 Q3 Q4 B3' B4;go_wp2;refine bodyPost_ret (res_mul _ _ (w.heap.size+1+1) rfl Y5'.out.x3) rfl ?_
   exact ret_I rfl Q5.out Y5'.out.bel
end Go.Proofs.YthlinhconnmbcaaGreat
namespace Go.Proofs.YthlinhconnmbcaaGreat
open Go.RowKit
def NoL (cs:Array Value):Prop:=∀ (i:Nat) (z:Int),cs[i]?≠some (Value.int .u32 z)
def Cb (W:World) (g:Nat) (cs:Array Value) (t:Nat):Prop:=W.heap[g]?=some (.cells cs t (0,0))
section
variable {w W W':World} {g t:Nat} {cs:Array Value}
theorem Cb.lt (h:Cb W g cs t):g<W.heap.size:=by
 rcases Nat.lt_or_ge g W.heap.size with hlt | hge
 ·exact hlt
 ·unfold Cb at h;rw[Array.getElem?_eq_none hge] at h;cases h
theorem Cb.keep (h:Cb W g cs t) (hk:W'.heap[g]?=W.heap[g]?):Cb W' g cs t:=hk.trans h
theorem Cb.new (W:World) (cs:Array Value) (t:Nat):Cb (W.alloc (.cells cs t)) W.heap.size cs t:=heap_alloc_new W _
theorem Cb.alloc (h:Cb W g cs t) (o:Obj):Cb (W.alloc o) g cs t:=h.keep (Below.heap_alloc W o g h.lt)
theorem Cb.bel (h:Cb W g cs t) (hb:Below W.heap.size W W'):Cb W' g cs t:=h.keep (hb.block g h.lt)
theorem Cb.drew (h:Cb W g cs t):Cb W.drew g cs t:=h
theorem Cb.cell (h:Cb W g cs t) {i:Nat} {v:Value} (hv:cs[i]?=some v):W.cell? ⟨g,i,none⟩=some v:=by
 rw[cell_of_row W g i _ t (0,0) h];exact hv
theorem Cb.frozen (h:Cb W g cs t) (i:Nat):W.frozen? ⟨g,i,none⟩=false:=by
 unfold Cb at h;simp[World.frozen?,h]
theorem Cb.set (h:Cb W g cs t) (i:Nat) (v:Value):Cb (W.setCell ⟨g,i,none⟩ v) g (cs.setIfInBounds i v) t:=by
 unfold Cb at *;simp[World.setCell,Array.getElem?_modify,h]
theorem Cb.far (h:Cb W g cs t) {p:Addr} (hp:g≠p.block) (u:Value):Cb (W.setCell p u) g cs t:=h.keep (Below.heap_setCell W p u g hp)
end
theorem Rd.set {W:World} {g t:Nat} {cs:Array Value} {A:Option Addr} {n c:Nat} {xs:List Nat} (h:Rd W A n c xs) (x:Cb W g cs t) (hn:NoL cs) (i:Nat) (v:Value) :
  Rd (W.setCell ⟨g,i,none⟩ v) A n c xs:=by
 refine⟨h.len,h.cap,h.sm,?_⟩
 rcases h.mem with h0 | ⟨bk,o,hA,hlt,hc⟩
 ·exact .inl h0
 ·rcases Nat.eq_zero_or_pos n with hn0 | hn0
  ·exact .inl hn0
  have hne:bk≠g:=by
   rintro rfl;have h1:=hc 0 hn0;rw[Nat.add_zero,cell_of_row W bk o _ t (0,0) x] at h1;exact hn _ _ h1
  refine .inr ⟨bk,o,hA,by simpa using hlt,fun k hk=>?_⟩
  rw[World.cell?_of_block (Below.heap_setCell _ _ _ _ hne)]
  exact hc k hk
structure St (w W:World) (bs:List (Nat×Array Value×Nat)) (rs:List (Option Addr×Nat×Nat×List Nat)):Prop where
 bel:Below w.heap.size w W
 bk:∀ p∈bs,Cb W p.1 p.2.1 p.2.2∧NoL p.2.1∧w.heap.size≤p.1
 nd:bs.Pairwise (fun p q=>p.1≠q.1)
 rd:∀ r∈rs,Rd W r.1 r.2.1 r.2.2.1 r.2.2.2
section
variable {w W W':World} {bs:List (Nat×Array Value×Nat)} {rs:List (Option Addr×Nat×Nat×List Nat)} {A:Option Addr} {n c:Nat} {xs:List Nat}
theorem St.new (w:World):St w w [] []:=⟨Below.refl _ _,by simp,List.Pairwise.nil,by simp⟩
theorem St.call (h:St w W bs rs) (hb:Below W.heap.size W W'):St w W' bs rs:=
 ⟨h.bel.trans (hb.mono h.bel.size),fun p hp=>⟨(h.bk p hp).1.bel hb,(h.bk p hp).2⟩,h.nd,fun r hr=>(h.rd r hr).below hb⟩
theorem St.read (h:St w W bs rs) (R:Rd W A n c xs):St w W bs ((A,n,c,xs)::rs):=
 ⟨h.bel,h.bk,h.nd,fun r hr=>by rcases List.mem_cons.1 hr with rfl | hr;exact R;exact h.rd r hr⟩
theorem St.alloc (h:St w W bs rs) (cs:Array Value) (t:Nat) (hn:NoL cs):St w (W.alloc (.cells cs t)) ((W.heap.size,cs,t)::bs) rs:=by
 refine⟨h.bel.alloc h.bel.size _,?_,?_,fun r hr=>(h.rd r hr).alloc _⟩
 ·intro p hp
  rcases List.mem_cons.1 hp with rfl | hp
  ·exact⟨Cb.new _ _ _,hn,h.bel.size⟩
  ·exact⟨(h.bk p hp).1.alloc _,(h.bk p hp).2⟩
 ·refine List.pairwise_cons.2 ⟨fun p hp=>?_,h.nd⟩
  have:=(h.bk p hp).1.lt
  show W.heap.size≠p.1
  omega
theorem St.allocAt (h:St w W bs rs) (g:Nat) (cs:Array Value) (t:Nat) (hn:NoL cs) (hg:W.heap.size=g):St w (W.alloc (.cells cs t)) ((g,cs,t)::bs) rs:=by
 subst hg;exact h.alloc cs t hn
theorem St.drew (h:St w W bs rs):St w W.drew bs rs:=⟨h.bel.drew,h.bk,h.nd,fun r hr=>Rd.drew1 (h.rd r hr)⟩
theorem St.drewN (h:St w W bs rs) (k:Nat):St w (W.drewN k) bs rs:=by
 exact⟨below_drewN h.bel k,h.bk,h.nd,fun r hr=>(h.rd r hr).drewN k⟩
theorem NoL.set {cs:Array Value} (h:NoL cs) (i:Nat) {v:Value} (hv:∀ z,v≠.int .u32 z):NoL (cs.setIfInBounds i v):=by
 intro j z;rw[Array.getElem?_setIfInBounds]
 split
 ·split
  ·intro e;injection e with e;exact hv z e
  ·simp
 ·exact h j z
theorem St.set (h:St w W bs rs) (k i:Nat) (v:Value) {g t:Nat} {cs:Array Value} (hk:bs[k]?=some (g,cs,t)) (hv:∀ z,v≠.int .u32 z) :
  St w (W.setCell ⟨g,i,none⟩ v) (bs.set k (g,cs.setIfInBounds i v,t)) rs:=by
 obtain⟨hlt,hk'⟩:=List.getElem?_eq_some_iff.1 hk
 have hm:(g,cs,t)∈bs:=hk' ▸ List.getElem_mem hlt;obtain⟨hb,hn,hw⟩:=h.bk _ hm;have hpw:∀ j,(hj:j<bs.length)→j≠k→bs[j].1≠g:=by
  intro j hj hjk;have e:g=bs[k].1:=by rw[hk']
  rw[e]
  rcases Nat.lt_or_gt_of_ne hjk with hl | hl
  ·exact List.pairwise_iff_getElem.1 h.nd j k hj hlt hl
  ·exact (List.pairwise_iff_getElem.1 h.nd k j hlt hj hl).symm
 refine⟨h.bel.setCell hw _,?_,?_,fun r hr=>(h.rd r hr).set hb hn i v⟩
 ·intro p hp
  obtain⟨j,hj,rfl⟩:=List.mem_iff_getElem.1 hp;rw[List.length_set] at hj
  by_cases hjk:k=j
  ·subst hjk
   rw[List.getElem_set_self];exact⟨hb.set i v,hn.set i hv,hw⟩
  ·rw[List.getElem_set_ne hjk]
   obtain⟨q1,q2,q3⟩:=h.bk bs[j] (List.getElem_mem hj);exact⟨q1.far (hpw j hj (Ne.symm hjk)) _,q2,q3⟩
 ·refine List.pairwise_iff_getElem.2 fun a b ha hb' hab=>?_
  rw[List.length_set] at ha hb';have:=List.pairwise_iff_getElem.1 h.nd a b ha hb' hab;rw[List.getElem_set,List.getElem_set]
  split
  ·subst_vars
   rw[if_neg (by omega)]
   rw[hk'] at this;exact this
  ·split
   ·subst_vars
    rw[hk'] at this;exact this
   ·exact this
theorem St.cl (h:St w W bs rs) (k i:Nat) {g t:Nat} {cs:Array Value} (hk:bs[k]?=some (g,cs,t)) {v:Value} (hv:cs[i]?=some v):W.cell? ⟨g,i,none⟩=some v:=
 (h.bk _ (List.mem_of_getElem? hk)).1.cell hv
theorem St.f (h:St w W bs rs) (k i:Nat) {g t:Nat} {cs:Array Value} (hk:bs[k]?=some (g,cs,t)):W.frozen? ⟨g,i,none⟩=false:=
 (h.bk _ (List.mem_of_getElem? hk)).1.frozen i
theorem St.pick (h:St w W bs rs) (is js:List Nat) {bs':List (Nat×Array Value×Nat)} {rs':List (Option Addr×Nat×Nat×List Nat)} (hi:is.map (fun i=>bs[i]?)=bs'.map some) (hd:is.Nodup) (hj:js.map (fun i=>rs[i]?)=rs'.map some):St w W bs' rs':=by
 have hm:∀ k,k<bs'.length→∃ i:Nat,is[k]?=some i∧bs[i]?=bs'[k]?:=by
  intro k hk;have hl:is.length=bs'.length:=by have:=congrArg List.length hi;simpa using this
  have e:(is.map (fun i=>bs[i]?))[k]?=(bs'.map some)[k]?:=by rw[hi]
  rw[List.getElem?_map,List.getElem?_map,List.getElem?_eq_getElem (by omega),List.getElem?_eq_getElem hk] at e
  refine⟨is[k],List.getElem?_eq_getElem (by omega),?_⟩
  rw[List.getElem?_eq_getElem hk]
  simpa using e
 have hr:∀ k,k<rs'.length→∃ i:Nat,rs[i]?=rs'[k]?:=by
  intro k hk;have hl:js.length=rs'.length:=by have:=congrArg List.length hj;simpa using this
  have e:(js.map (fun i=>rs[i]?))[k]?=(rs'.map some)[k]?:=by rw[hj]
  rw[List.getElem?_map,List.getElem?_map,List.getElem?_eq_getElem (by omega),List.getElem?_eq_getElem hk] at e
  refine⟨js[k],?_⟩
  rw[List.getElem?_eq_getElem hk]
  simpa using e
 refine⟨h.bel,?_,?_,?_⟩
 ·intro p hp
  obtain⟨k,hk,rfl⟩:=List.mem_iff_getElem.1 hp;obtain⟨i,_,e⟩:=hm k hk;rw[List.getElem?_eq_getElem hk] at e
  exact h.bk _ (List.mem_of_getElem? e)
 ·refine List.pairwise_iff_getElem.2 fun a b ha hb hab=>?_
  obtain⟨i,ei,e1⟩:=hm a ha;obtain⟨j,ej,e2⟩:=hm b hb;rw[List.getElem?_eq_getElem ha] at e1
  rw[List.getElem?_eq_getElem hb] at e2
  obtain⟨li,e1'⟩:=List.getElem?_eq_some_iff.1 e1
  obtain⟨lj,e2'⟩:=List.getElem?_eq_some_iff.1 e2
  have hij:i≠j:=by
   intro e;subst e;obtain⟨la,ea⟩:=List.getElem?_eq_some_iff.1 ei
   obtain⟨lb,eb⟩:=List.getElem?_eq_some_iff.1 ej
   have:=List.pairwise_iff_getElem.1 hd a b la lb hab;rw[ea,eb] at this;exact this rfl
  rw[←e1',←e2']
  rcases Nat.lt_or_gt_of_ne hij with hl | hl
  ·exact List.pairwise_iff_getElem.1 h.nd i j li lj hl
  ·exact (List.pairwise_iff_getElem.1 h.nd j i lj li hl).symm
 ·intro r hr'
  obtain⟨k,hk,rfl⟩:=List.mem_iff_getElem.1 hr';obtain⟨i,e⟩:=hr k hk;rw[List.getElem?_eq_getElem hk] at e
  exact h.rd _ (List.mem_of_getElem? e)
theorem St.r (h:St w W bs rs) (k:Nat) (hk:rs[k]?=some (A,n,c,xs)):Rd W A n c xs:=h.rd _ (List.mem_of_getElem? hk)
theorem St.lt (h:St w W bs rs) (k:Nat) {g t:Nat} {cs:Array Value} (hk:bs[k]?=some (g,cs,t)):g<W.heap.size:=(h.bk _ (List.mem_of_getElem? hk)).1.lt
end
theorem noL2 (b:Bool) (A:Option Addr) (n c:Nat):NoL #[.bool b,.slice A n c]:=by
 intro i z;match i with
 | 0=>simp
 | 1=>simp
 | k+2=>simp
theorem noL3 (b:Bool) (A:Option Addr) (n c:Nat) (D:Option Addr) (m d:Nat):NoL #[.bool b,.slice A n c,.slice D m d]:=by
 intro i z;match i with
 | 0=>simp
 | 1=>simp
 | 2=>simp
 | k+3=>simp
theorem noLi (x y:Int):NoL #[.int .i64 x,.int .i64 y]:=by
 intro i z;match i with
 | 0=>simp
 | 1=>simp
 | k+2=>simp
section
variable {w W:World} {bs:List (Nat×Array Value×Nat)} {rs:List (Option Addr×Nat×Nat×List Nat)}
theorem St.c2 (h:St w W bs rs) (k:Nat) {g t:Nat} {v0 v1:Value} (hk:bs[k]?=some (g,#[v0,v1],t)):W.cell? ⟨g,0,none⟩=some v0∧W.cell? ⟨g,1,none⟩=some v1:=⟨h.cl k 0 hk rfl,h.cl k 1 hk rfl⟩
theorem St.cf2 (h:St w W bs rs) (k:Nat) {g t:Nat} {v0 v1:Value} (hk:bs[k]?=some (g,#[v0,v1],t)):W.cell? ⟨g,0,none⟩=some v0∧W.cell? ⟨g,1,none⟩=some v1∧W.frozen? ⟨g,0,none⟩=false∧W.frozen? ⟨g,1,none⟩=false:=⟨h.cl k 0 hk rfl,h.cl k 1 hk rfl,h.f k 0 hk,h.f k 1 hk⟩
theorem St.c3 (h:St w W bs rs) (k:Nat) {g t:Nat} {v0 v1 v2:Value} (hk:bs[k]?=some (g,#[v0,v1,v2],t)):W.cell? ⟨g,0,none⟩=some v0∧W.cell? ⟨g,1,none⟩=some v1∧W.cell? ⟨g,2,none⟩=some v2:=⟨h.cl k 0 hk rfl,h.cl k 1 hk rfl,h.cl k 2 hk rfl⟩
theorem St.cf3 (h:St w W bs rs) (k:Nat) {g t:Nat} {v0 v1 v2:Value} (hk:bs[k]?=some (g,#[v0,v1,v2],t)):W.cell? ⟨g,0,none⟩=some v0∧W.cell? ⟨g,1,none⟩=some v1∧W.cell? ⟨g,2,none⟩=some v2∧W.frozen? ⟨g,0,none⟩=false∧W.frozen? ⟨g,1,none⟩=false∧W.frozen? ⟨g,2,none⟩=false:=⟨h.cl k 0 hk rfl,h.cl k 1 hk rfl,h.cl k 2 hk rfl,h.f k 0 hk,h.f k 1 hk,h.f k 2 hk⟩
theorem St.c6 (h:St w W bs rs) (k:Nat) {g t:Nat} {v0 v1 v2 v3 v4 v5:Value} (hk:bs[k]?=some (g,#[v0,v1,v2,v3,v4,v5],t)):W.cell? ⟨g,0,none⟩=some v0∧W.cell? ⟨g,1,none⟩=some v1∧W.cell? ⟨g,2,none⟩=some v2∧W.cell? ⟨g,3,none⟩=some v3∧W.cell? ⟨g,4,none⟩=some v4∧W.cell? ⟨g,5,none⟩=some v5:=⟨h.cl k 0 hk rfl,h.cl k 1 hk rfl,h.cl k 2 hk rfl,h.cl k 3 hk rfl,h.cl k 4 hk rfl,h.cl k 5 hk rfl⟩
theorem St.c9 (h:St w W bs rs) (k:Nat) {g t:Nat} {v0 v1 v2 v3 v4 v5 v6 v7 v8:Value} (hk:bs[k]?=some (g,#[v0,v1,v2,v3,v4,v5,v6,v7,v8],t)):W.cell? ⟨g,0,none⟩=some v0∧W.cell? ⟨g,1,none⟩=some v1∧W.cell? ⟨g,2,none⟩=some v2∧W.cell? ⟨g,3,none⟩=some v3∧W.cell? ⟨g,4,none⟩=some v4∧W.cell? ⟨g,5,none⟩=some v5∧W.cell? ⟨g,6,none⟩=some v6∧W.cell? ⟨g,7,none⟩=some v7∧W.cell? ⟨g,8,none⟩=some v8:=⟨h.cl k 0 hk rfl,h.cl k 1 hk rfl,h.cl k 2 hk rfl,h.cl k 3 hk rfl,h.cl k 4 hk rfl,h.cl k 5 hk rfl,h.cl k 6 hk rfl,h.cl k 7 hk rfl,h.cl k 8 hk rfl⟩
theorem St.c12 (h:St w W bs rs) (k:Nat) {g t:Nat} {v0 v1 v2 v3 v4 v5 v6 v7 v8 v9 v10 v11:Value} (hk:bs[k]?=some (g,#[v0,v1,v2,v3,v4,v5,v6,v7,v8,v9,v10,v11],t)):W.cell? ⟨g,0,none⟩=some v0∧W.cell? ⟨g,1,none⟩=some v1∧W.cell? ⟨g,2,none⟩=some v2∧W.cell? ⟨g,3,none⟩=some v3∧W.cell? ⟨g,4,none⟩=some v4∧W.cell? ⟨g,5,none⟩=some v5∧W.cell? ⟨g,6,none⟩=some v6∧W.cell? ⟨g,7,none⟩=some v7∧W.cell? ⟨g,8,none⟩=some v8∧W.cell? ⟨g,9,none⟩=some v9∧W.cell? ⟨g,10,none⟩=some v10∧W.cell? ⟨g,11,none⟩=some v11:=⟨h.cl k 0 hk rfl,h.cl k 1 hk rfl,h.cl k 2 hk rfl,h.cl k 3 hk rfl,h.cl k 4 hk rfl,h.cl k 5 hk rfl,h.cl k 6 hk rfl,h.cl k 7 hk rfl,h.cl k 8 hk rfl,h.cl k 9 hk rfl,h.cl k 10 hk rfl,h.cl k 11 hk rfl⟩
end
theorem Cb.c6 {W:World} {g t:Nat} {v0 v1 v2 v3 v4 v5:Value} (h:Cb W g #[v0,v1,v2,v3,v4,v5] t):W.cell? ⟨g,0,none⟩=some v0∧W.cell? ⟨g,1,none⟩=some v1∧W.cell? ⟨g,2,none⟩=some v2∧W.cell? ⟨g,3,none⟩=some v3∧W.cell? ⟨g,4,none⟩=some v4∧W.cell? ⟨g,5,none⟩=some v5:=⟨h.cell rfl,h.cell rfl,h.cell rfl,h.cell rfl,h.cell rfl,h.cell rfl⟩
end Go.Proofs.YthlinhconnmbcaaGreat
