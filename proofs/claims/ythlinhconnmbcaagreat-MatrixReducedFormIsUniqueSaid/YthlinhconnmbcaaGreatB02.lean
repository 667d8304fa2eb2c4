/- Small forms of the contracts, for the laws' walks. -/
import Derived.OpenShut
import Derived.Test.YthlinhconnmbcaaGreatB01
import Derived.Deep.RegionHeld3
set_option maxRecDepth 100000
set_option maxHeartbeats 40000000
set_option linter.unusedVariables false
namespace Go.Proofs.YthlinhconnmbcaaGreat
open Go.RowKit
theorem compare_b (A:Option Addr) (n c:Nat) (x:Nat) (A':Option Addr) (n' c':Nat) (y:Nat) (w:World)
  (h1:Rd w A n c (limbs x)) (h2:Rd w A' n' c' (limbs y)) (hn:n≤1000000000) (hn':n'≤1000000000) (q:Int) (hq:cmpi x y=q) :
  Calls Tryz.prog 133 #[.slice A n c,.slice A' n' c'] w fun e w'=>e=.returned (.int .i64 q)∧Below w.heap.size w w':=by
 have:=compare_any A n c (limbs x) A' n' c' (limbs y) w h1 h2 hn hn';rw[num_limbs,num_limbs,hq] at this;refine this.mono ?_
 rintro e w' ⟨he,m,rfl⟩;exact⟨he,drewN_below w m⟩
theorem sub_ge_b (A:Option Addr) (n c:Nat) (x:Nat) (A':Option Addr) (n' c':Nat) (y:Nat) (w:World) (p:Nat)
  (h1:Rd w A n c (limbs x)) (h2:Rd w A' n' c' (limbs y)) (hn:n≤p) (hn':n'≤p) (hp:p≤1000000000) (hge:y≤x) :
  Calls Tryz.prog 126 #[.slice A n c,.slice A' n' c'] w fun e w'=>∃ A n c,e=.returned (.tuple #[.slice A n c,.bool true])∧Rd w' A n c (limbs (x-y))∧Below w.heap.size w w'∧n≤p:=by
 have:=sub_ge A n c (limbs x) A' n' c' (limbs y) w h1 h2 (by omega) (by omega) (by rw[num_limbs,num_limbs];exact hge)
 rw[num_limbs,num_limbs] at this;refine this.mono ?_
 rintro e w' ⟨A2,n2,c2,he,hR,hb⟩;refine⟨A2,n2,c2,he,hR,hb,?_⟩
 have:=len_le (Nat.sub_le x y);have a:=h1.len;have b:=hR.len
 omega
theorem sub_lt_b (A:Option Addr) (n c:Nat) (x:Nat) (A':Option Addr) (n' c':Nat) (y:Nat) (w:World)
  (h1:Rd w A n c (limbs x)) (h2:Rd w A' n' c' (limbs y)) (hn:n≤1000000000) (hn':n'≤1000000000) (hlt:x<y) :
  Calls Tryz.prog 126 #[.slice A n c,.slice A' n' c'] w fun e w'=>e=.returned (.tuple #[.slice none 0 0,.bool false])∧Below w.heap.size w w':=
 sub_lt A n c (limbs x) A' n' c' (limbs y) w h1 h2 hn hn' (by rw[num_limbs,num_limbs];exact hlt)
end Go.Proofs.YthlinhconnmbcaaGreat
namespace Go.Proofs.YthlinhconnmbcaaGreat
open Go.RowKit
theorem ret_u32 {k:IntKind} {a b:Int} (h:a=b):Ending.returned (.int k a)=.returned (.int k b):=by rw[h]
theorem guess_any (a2 a1 a0 b1 b0:Nat) (w:World) (h2:a2<4294967296) (h1:a1<4294967296) (h0:a0<4294967296) (hb1:2147483648≤b1) (hb1':b1<4294967296) (hb0:b0<4294967296)
  (hT:a2*4294967296+a1≤b1*4294967296+b0) :
  Calls Tryz.prog 152 #[.int .u32 a2,.int .u32 a1,.int .u32 a0,.int .u32 b1,.int .u32 b0] w fun e w'=>∃ g,(e=.returned (.int .u32 (g:Nat))∧GuessOk (a2*4294967296+a1) a0 b1 b0 g)∧∃ m,w'=w.drewN m:=by
 have hor:=or_limb a2 a1 h2 h1;obtain⟨T,hTe⟩:∃ T,a2*4294967296+a1=T:=⟨_,rfl⟩;rw[hTe] at hor hT ⊢;have hTb:(T:Int)≤18446744073709551615:=by omega
 have hT0:(0:Int)≤(T:Int):=by omega
 have hq:=gl_start hT hb1 hb0;have hqi:(T:Int) / (b1:Int)≤4294967297:=by rw[←Int.natCast_ediv];exact Int.ofNat_le.2 hq
 have hqi0:0≤(T:Int) / (b1:Int):=by rw[←Int.natCast_ediv];exact Int.natCast_nonneg _
 have hb1i:(1:Int)≤(b1:Int):=by omega
 have hm0:=gl_start_m T a0 b1 b0 (by omega) h0
 have hr0:=Nat.mod_lt T (show 0<b1 by omega)
 have hd0:=Nat.div_add_mod' T b1;replace hq:=Lib.hid hq;replace hm0:=Lib.hid hm0;replace hr0:=Lib.hid hr0;replace hd0:=Lib.hid hd0;replace hT:=Lib.hid hT;clear hTe;go_enter Tryz.func152,Tryz.ntmps152;go_wp2
 go_quiet (fail)
 go_wp2
 go_loopg [12,13] (T / b1) (fun g gv rv wr=>∃ (rest m:Nat),gv=.int .u64 (g:Nat)∧rv=.int .u64 (rest:Nat)∧g*b1+rest=T∧rest≤4294967295∧g≤4294967297∧(4294967295≤g∨T*4294967296+a0<(g+1)*(b1*4294967296+b0))∧wr=w.drewN m)
 case atStart=>exact⟨T%b1,_,by rw[Int.natCast_ediv],by rw[Int.natCast_emod],hd0.out,by have:=hr0.out;omega,hq.out,.inr hm0.out,rfl⟩
 case round=>
  clear hor hqi hqi0;obtain⟨rest,m,rfl,rfl,hg,hr,hgb,hmx,rfl⟩:=hrel;replace hmx:=Lib.hid hmx;replace hg:=Lib.hid hg;have hb1t:(b1:Int)<4294967296:=by omega
  have hb1z:(0:Int)≤(b1:Int):=by omega
  have hlc:1≤gk→(gk:Int)-1=((gk-1:Nat):Int):=fun h=>by omega
  have hlt0:1≤gk→gk-1<gk:=fun h=>by omega
  by_cases hgt:4294967295<gk
  ·have hgti:(4294967295:Int)<(gk:Int):=by omega
   obtain⟨hn1,hn2⟩:=gl_next (T:=T) (g:=gk-1) (rest:=rest) (by rw[show gk-1+1=gk by omega];exact hg.out) (a0:=a0) (b0:=b0) (.inl (by omega))
   replace hn1:=Lib.hid hn1;replace hn2:=Lib.hid hn2;have hlt1:=hlt0 (by omega)
   by_cases hbr:4294967295<rest+b1
   ·have hbri:(4294967295:Int)<(rest:Int)+(b1:Int):=by omega
    have hfin:=gl_break hn1.out (by omega) hT.out hb0 hn2.out
    have hgl:(gk:Int)-1<4294967296:=by have:=hfin.1;omega
    replace hfin:=Lib.hid hfin;go_wp2;go_ret;exact⟨gk-1,⟨(by first | rfl | exact ret_u32 (hlc (by omega))),hfin.out⟩,m,rfl⟩
   ·have hbri:decide ((4294967295:Int)<(rest:Int)+(b1:Int))=false:=by simp;omega
    go_wp2
    go_roundg (gk-1)
    case measure=>exact hlt1
    case rel=>exact⟨rest+b1,m,by go_num,by go_num,hn1.out,by omega,by omega,hn2.out,rfl⟩
  ·have hgti:decide ((4294967295:Int)<(gk:Int))=false:=by simp;omega
   have hgtb:(gk:Int)<4294967296:=by omega
   have hor2:=or_limb rest a0 (by omega) h0
   obtain⟨t2,ht2⟩:∃ t2,rest*4294967296+a0=t2:=⟨_,rfl⟩;rw[ht2] at hor2;have ht2b:(t2:Int)≤18446744073709551615:=by omega
   obtain⟨p,hpe⟩:∃ p,gk*b0=p:=⟨_,rfl⟩;have hpb:=mul_bd (x:=gk) (y:=b0) (by omega) hb0
   rw[hpe] at hpb;have hpc:(gk:Int)*(b0:Int)=(p:Int):=by rw[←hpe,Int.natCast_mul]
   have hpb2:(p:Int)≤18446744065119617025:=by omega
   replace hpe:=Lib.hid hpe;replace ht2:=Lib.hid ht2;clear hpb
   by_cases hlt:t2<p
   ·have hlti:(t2:Int)<(p:Int):=by omega
    have hg1:1≤gk:=by
     rcases Nat.eq_zero_or_pos gk with h | h
     ·exfalso;have:=hpe.out;rw[h,Nat.zero_mul] at this;omega
     ·exact h
    have hg1i:(1:Int)≤(gk:Int):=by omega
    obtain⟨hn1,hn2⟩:=gl_next (T:=T) (g:=gk-1) (rest:=rest) (by rw[show gk-1+1=gk by omega];exact hg.out) (a0:=a0) (b0:=b0) (.inr (by rw[show gk-1+1=gk by omega,hpe.out,ht2.out];exact hlt))
    replace hn1:=Lib.hid hn1;replace hn2:=Lib.hid hn2;have hlt1:=hlt0 hg1
    by_cases hbr:4294967295<rest+b1
    ·have hbri:(4294967295:Int)<(rest:Int)+(b1:Int):=by omega
     have hfin:=gl_break hn1.out (by omega) hT.out hb0 hn2.out
     have hgl:(gk:Int)-1<4294967296:=by have:=hfin.1;omega
     replace hfin:=Lib.hid hfin;go_wp2;go_ret;exact⟨gk-1,⟨(by first | rfl | exact ret_u32 (hlc (by omega))),hfin.out⟩,m,rfl⟩
    ·have hbri:decide ((4294967295:Int)<(rest:Int)+(b1:Int))=false:=by simp;omega
     go_wp2
     go_roundg (gk-1)
     case measure=>exact hlt1
     case rel=>exact⟨rest+b1,m,by go_num,by go_num,hn1.out,by omega,by omega,hn2.out,rfl⟩
   ·have hlti:decide ((t2:Int)<(p:Int))=false:=by simp;omega
    have hfin:=Lib.hid (gl_stop hg.out (show gk≤4294967295 by omega) (a0:=a0) (b0:=b0) (by rw[hpe.out,ht2.out];omega) hmx.out)
    go_wp2;go_ret;exact⟨gk,⟨rfl,hfin.out⟩,m,rfl⟩
end Go.Proofs.YthlinhconnmbcaaGreat
namespace Go.Proofs.YthlinhconnmbcaaGreat
open Go.RowKit
def RetSubP (g o m x:Nat) (zs ys:List Nat) (w:World) (e:Ending) (w':World):Prop:=
 ∃ (cy:Nat) (zs':List Nat),e=.returned (.int .u64 cy)∧cy<4294967296∧Own w' g zs'∧zs'.length=zs.length∧zs'.take o=zs.take o∧zs'.drop (o+m)=zs.drop (o+m) ∧
  val zs'+4294967296^o*(x*val ys)=val zs+4294967296^(o+m)*cy∧w.grownBy w' (some g)
theorem subProduct_any (g o m cs:Nat) (zs:List Nat) (A:Option Addr) (cb:Nat) (ys:List Nat) (x:Nat) (w:World)
  (hO:Own w g zs) (hom:o+m≤zs.length) (hR:RdX w g A m cb ys) (hx:x<4294967296) (hm:m≤10000000000) :
  Calls Tryz.prog 153 #[.slice (some ⟨g,o,none⟩) m cs,.slice A m cb,.int .u32 x] w (RetSubP g o m x zs ys w):=by
 replace hO:=Lib.hid hO;replace hR:=Lib.hid hR;replace hom:=Lib.hid hom;go_enter Tryz.func153,Tryz.ntmps153;go_wp2
 go_loopw [7,13] (fun cv iv wr=>∃ (k cy:Nat) (zs':List Nat),k≤m∧iv=.int .i64 k∧cv=.int .u64 cy∧cy<4294967296∧Own wr g zs'∧zs'.length=zs.length∧zs'.take o=zs.take o∧zs'.drop (o+k)=zs.drop (o+k) ∧
  val zs'+4294967296^o*(x*val (ys.take k))=val zs+4294967296^(o+k)*cy∧w.grownBy wr (some g))
  (fun _ iv _=>m-(intOf iv).toNat)
 case atStart=>exact⟨0,0,zs,Nat.zero_le _,rfl,rfl,by omega,hO.out,rfl,rfl,rfl,by simp[val],World.grownBy.refl _ _⟩
 case round=>
  obtain⟨k,cy,zs',hk,rfl,rfl,hcy,hO',hl,ht,hd,hv,hg⟩:=hrel;replace hO':=Lib.hid hO';replace hl:=Lib.hid hl;replace ht:=Lib.hid ht;replace hd:=Lib.hid hd;replace hv:=Lib.hid hv;replace hg:=Lib.hid hg
  by_cases hlt:k<m
  ·have hkl:o+k<zs'.length:=by rw[hl.out];have:=hom.out;omega
   obtain⟨b2,o2,y1,rfl,hb2,hy1,hye,hcy2⟩:=(hR.out.grown hg.out).at_ hlt;replace hye:=Lib.hid hye;have hcell:=hO'.out.cell hkl;obtain⟨s,hs⟩:∃ s,zs'.getD (o+k) 0=s:=⟨_,rfl⟩;have hs1:s<4294967296:=by rw[←hs];exact sm_get hO'.out.sm _
   rw[hs] at hcell;replace hs:=Lib.hid hs;have hfz:=hO'.out.frozen (o+k);have hkl:=Lib.hid hkl;have hp:(x:Int)*(y1:Int)≤18446744065119617025:=by have:=mul_bd hx hy1;have e:((x*y1:Nat):Int)=(x:Int)*y1:=Int.natCast_mul x y1;omega
   have hp0:0≤(x:Int)*(y1:Int):=by have e:((x*y1:Nat):Int)=(x:Int)*y1:=Int.natCast_mul x y1;omega
   obtain⟨t,ht'⟩:∃ t,cy+x*y1=t:=⟨_,rfl⟩;have htc:(cy:Int)+(x:Int)*(y1:Int)=(t:Int):=by rw[←ht'];simp
   have htb:t≤18446744069414584320:=by have:=mul_bd hx hy1;omega
   have htb2:(t:Int)≤18446744069414584320:=by omega
   obtain⟨d,c,hd1,hdd,hcc,hcase⟩:=sub_carry htb hs1;replace ht':=Lib.hid ht';replace hdd:=Lib.hid hdd;replace hcc:=Lib.hid hcc;replace hd1:=Lib.hid hd1;clear htb
   rcases hcase with ⟨hlow,rfl,hde⟩ | ⟨hlow,rfl,hde⟩
   ·have hlowi:(s:Int)<(t:Int)%4294967296:=by omega
    replace hde:Hid ((s:Int)-(t:Int)%4294967296=(d:Int)-4294967296):=by show _=_;omega
    clear hlow;go_wp2
    go_roundw
    case rel=>
     have O2:=hO'.out.set_ (o+k) d hd1.out;have e1:((s:Int)-t)%4294967296=d:=by have:=hde.out;have:=hd1.out;omega
     rw[e1];exact⟨k+1,_,_,by omega,by go_num,by go_num,hcc.out,O2,by rw[List.length_set];exact hl.out,by rw[take_set_low _ _ (by omega)];exact ht.out,by rw[show o+(k+1)=o+k+1 by omega,drop_set_succ];exact drop_step' hd.out,subp_step hkl.out hv.out hs.out hye.out ht'.out hdd.out rfl,grown_set hg.out _ _⟩
    case measure=>simp[intOf];omega
   ·have hlowi:(t:Int)%4294967296≤(s:Int):=by omega
    replace hde:Hid ((s:Int)-(t:Int)%4294967296=(d:Int)):=by show _=_;omega
    clear hlow;go_wp2
    go_roundw
    case rel=>
     have O2:=hO'.out.set_ (o+k) d hd1.out;have e1:(s:Int)-(t:Int)%4294967296=d:=hde.out;rw[e1];exact⟨k+1,_,_,by omega,by go_num,by go_num,hcc.out,O2,by rw[List.length_set];exact hl.out,by rw[take_set_low _ _ (by omega)];exact ht.out,by rw[show o+(k+1)=o+k+1 by omega,drop_set_succ];exact drop_step' hd.out,subp_step hkl.out hv.out hs.out hye.out ht'.out hdd.out rfl,grown_set hg.out _ _⟩
    case measure=>simp[intOf];omega
  ·obtain rfl:k=m:=by omega
   go_wp2;go_ret;have e:ys.take k=ys:=List.take_of_length_le (by rw[hR.out.len];omega)
   refine⟨cy,zs',rfl,hcy,hO'.out,hl.out,ht.out,hd.out,?_,hg.out⟩
   have:=hv.out;rw[e] at this;exact this
theorem shiftLeft_any (A:Option Addr) (n c s:Nat) (xs:List Nat) (w:World) (hR:Rd w A n c xs) (hs:s<32) (hn:n≤10000000000) :
  Calls Tryz.prog 145 #[.slice A n c,.int .i64 s] w fun e w'=>e=.returned (.slice (some ⟨w.heap.size,0,none⟩) (n+1) (n+1))∧∃ zs,Own w' w.heap.size zs∧zs.length=n+1∧val zs=val xs*2^s∧Below w.heap.size w w':=by
 replace hR:=Lib.hid hR;have hmk:∀ W:World,(Instr.makeSlice 29 (.int .i64 ((n:Int)+1)) (.int .i64 ((n:Int)+1))).run Tryz.prog W=.ok (.slice (some ⟨W.heap.size,0,none⟩) (n+1) (n+1)) (W.alloc (.cells (madeCells #[.int .u32 0] (n+1)) 92)):=fun W=>make_u32 (n+1) (by omega) .i64 .i64 W
 go_enter Tryz.func145,Tryz.ntmps145;go_wp2
 go_loopw [15] (fun iv wr=>∃ (k:Nat) (zs:List Nat),k≤n∧iv=.int .i64 k∧zs.length=n+1∧Own wr w.heap.size zs∧Below w.heap.size w wr∧val (zs.take (k+1))=val (xs.take k)*2^s∧zs.getD k 0<2^s∧zs.drop (k+1)=List.replicate (n-k) 0)
  (fun iv _=>n-(intOf iv).toNat)
 case atStart=>exact⟨0,List.replicate (n+1) 0,Nat.zero_le _,rfl,by simp,Own.new _ _,(Below.refl _ _).alloc (Nat.le_refl _) _,by simp[val,List.replicate_succ],by simp[List.replicate_succ];exact Nat.pow_pos (by omega),by simp[List.replicate_succ]⟩
 case round=>
  clear hmk;obtain⟨k,zs,hk,rfl,hl,hO,hB,hv,hlow,hd⟩:=hrel;replace hl:=Lib.hid hl;replace hO:=Lib.hid hO;replace hB:=Lib.hid hB;replace hv:=Lib.hid hv;replace hd:=Lib.hid hd;replace hlow:=Lib.hid hlow
  by_cases hlt:k<n
  ·obtain⟨b2,o2,x1,rfl,hb2,hx1,hxe,hcx⟩:=(hR.out.base hB.out).at_ hlt
   replace hxe:=Lib.hid hxe;have hcell:=hO.out.cell (k:=k) (by rw[hl.out];omega)
   obtain⟨lo,hlo⟩:∃ lo,zs.getD k 0=lo:=⟨_,rfl⟩;rw[hlo] at hcell;have hlob:lo<4294967296:=by rw[←hlo];exact sm_get hO.out.sm _
   have hfz:=hO.out.frozen k;have hcell2:=hO.out.cell (k:=k+1) (by rw[hl.out];omega)
   have hfz2:=hO.out.frozen (k+1);replace hlo:=Lib.hid hlo;obtain⟨wd,hw⟩:∃ wd,x1*2^s=wd:=⟨_,rfl⟩;have hlow':=hlow.out;rw[hlo.out] at hlow';obtain⟨ho1,ho2⟩:=shl_low hs hlow' hw;obtain⟨hw1,hw2⟩:=shl_bd hs hx1 hw;have hwc:(x1:Int)*2^s=(wd:Int):=by rw[←hw];simp
   have hwb:(wd:Int)≤9223372034707292160:=by omega
   have hor:bits .or .u32 (lo:Int) ((wd:Int)%4294967296)=((lo+wd%4294967296:Nat):Int):=by
    rw[show (wd:Int)%4294967296=((wd%4294967296:Nat):Int) by omega,u32_or_nat lo (wd%4294967296) hlob (by omega),ho1]
   obtain⟨lo',hlo'⟩:∃ lo',lo+wd%4294967296=lo':=⟨_,rfl⟩;rw[hlo'] at hor ho2;have hst:=shl_step (by rw[hl.out];omega) hv.out hlo.out hxe.out hw
   rw[hlo'] at hst;have O1:=(hO.out.set_ k lo' ho2).set_ (k+1) (wd / 4294967296) (by have:=pow31 hs;omega)
   rw[show ((wd / 4294967296:Nat):Int)=(wd:Int) / 4294967296 by omega] at O1
   have hget:=getD_set (zs.set k lo') (k+1) (wd / 4294967296) (by rw[List.length_set,hl.out];omega)
   have hdr:((zs.set k lo').set (k+1) (wd / 4294967296)).drop (k+1+1)=List.replicate (n-(k+1)) 0:=by
    rw[drop_set_succ,drop_set_over];have:=congrArg (List.drop 1) hd.out;rw[List.drop_drop] at this;rw[this]
    simp
    omega
   replace hst:=Lib.hid hst;replace O1:=Lib.hid O1;replace hget:=Lib.hid hget;replace hdr:=Lib.hid hdr;replace hw2:=Lib.hid hw2;clear ho1 hlow' hw hw1;replace hlo':=Lib.hid hlo';go_wp2
   go_roundw
   case rel=>exact⟨k+1,_,by omega,by go_num,by rw[List.length_set,List.length_set];exact hl.out,O1.out,(hB.out.setCell (Nat.le_refl _) _).setCell (Nat.le_refl _) _,hst.out,by rw[hget.out];exact hw2.out,hdr.out⟩
   case measure=>simp[intOf];omega
  ·obtain rfl:k=n:=by omega
   go_wp2;go_ret;refine⟨rfl,zs,hO.out,hl.out,?_,hB.out⟩
   have:=hv.out;rw[List.take_of_length_le (by rw[hl.out];omega),List.take_of_length_le (by rw[hR.out.len];omega)] at this
   exact this
end Go.Proofs.YthlinhconnmbcaaGreat
namespace Go.Proofs.YthlinhconnmbcaaGreat
open Go.RowKit
theorem guess_q (a2 a1 a0 b1 b0:Nat) (w:World) (h2:a2<4294967296) (h1:a1<4294967296) (h0:a0<4294967296) (hb1:2147483648≤b1) (hb1':b1<4294967296) (hb0:b0<4294967296)
  (hT:a2*4294967296+a1≤b1*4294967296+b0) :
  Calls Tryz.prog 152 #[.int .u32 a2,.int .u32 a1,.int .u32 a0,.int .u32 b1,.int .u32 b0] w fun e w'=>e=.returned (.int .u32 (gq (a2*4294967296+a1) a0 b1 b0:Nat))∧∃ m,w'=w.drewN m:=by
 refine (guess_any a2 a1 a0 b1 b0 w h2 h1 h0 hb1 hb1' hb0 hT).mono ?_
 rintro e w' ⟨g,⟨he,hg⟩,hm⟩;rw[←gq_of (by omega) hg]
 exact⟨he,hm⟩
theorem keep_cell {w:World} {g i a:Nat} {zs zs':List Nat} (O1:Own w g zs') (l1:zs'.length=zs.length) (d1:zs'.drop i=zs.drop i) (h2:zs.getD i 0=a) (hi:i<zs.length) :
  w.cell? ⟨g,i,none⟩=some (.int .u32 (a:Int)):=by
 rw[O1.cell (by omega)]
 have e1:=drop_get (X:=zs') (j:=i) (by omega)
 have e2:=drop_get (X:=zs) (j:=i) hi;rw[d1,e2] at e1;injection e1 with e1 _
 rw[←e1,h2]
theorem grown_trans2 {a b c:World} {g:Nat} (h:a.grownBy b (some g)) (k:b.grownBy c (some g)):a.grownBy c (some g):=
 ⟨k.os.trans h.os,k.tape.trans h.tape,k.output.trans h.output,Nat.le_trans h.size k.size,fun i hi hne=>(k.block i (Nat.lt_of_lt_of_le hi h.size) hne).trans (h.block i hi hne)⟩
def RetStep (g o m D:Nat) (zs:List Nat) (w:World) (e:Ending) (w':World):Prop:=
 ∃ zs',e=.returned (.int .u32 (win zs o (m+1) / D:Nat))∧Own w' g zs'∧zs'.length=zs.length∧zs'.take o=zs.take o∧win zs' o m=win zs o (m+1)%D∧w.grownBy w' (some g)
theorem divStep_any (g o p cs:Nat) (zs:List Nat) (A:Option Addr) (cb:Nat) (ys:List Nat) (w:World)
  (hO:Own w g zs) (hom:o+(p+2)+1≤zs.length) (hcs:p+2≤cs) (hR:RdX w g A (p+2) cb ys) (hn:2147483648≤ys.getD (p+1) 0) (hp:p≤1000000000)
  (hvy:vldB ys=true) (hW:win zs o (p+2+1)<val ys*4294967296) :
  Calls Tryz.prog 146 #[.slice (some ⟨g,o,none⟩) (p+2+1) cs,.slice A (p+2) cb] w (RetStep g o (p+2) (val ys) zs w):=by
 obtain⟨bb,ob,b1,rfl,hbb,hb1,hb1e,hcb1⟩:=hR.at_ (k:=p+1) (by omega)
 obtain⟨bb',ob',b0,hbe,hbb',hb0,hb0e,hcb0⟩:=hR.at_ (k:=p) (by omega)
 injection hbe with hbe
 injection hbe with hbe1 hbe2
 subst hbe1;subst hbe2;rw[hb1e] at hn;have c2:=hO.cell (k:=o+(p+2)) (by omega)
 have c1:=hO.cell (k:=o+(p+1)) (by omega)
 have c0:=hO.cell (k:=o+p) (by omega)
 obtain⟨a2,h2⟩:∃ a2,zs.getD (o+(p+2)) 0=a2:=⟨_,rfl⟩;obtain⟨a1,h1⟩:∃ a1,zs.getD (o+(p+1)) 0=a1:=⟨_,rfl⟩;obtain⟨a0,h0⟩:∃ a0,zs.getD (o+p) 0=a0:=⟨_,rfl⟩;have ha2:a2<4294967296:=by rw[←h2];exact sm_get hO.sm _
 have ha1:a1<4294967296:=by rw[←h1];exact sm_get hO.sm _
 have ha0:a0<4294967296:=by rw[←h0];exact sm_get hO.sm _
 obtain⟨hT,hgq⟩:=window_guess hO.sm hR.sm hom hR.len h2 h1 h0 hb1e hb0e hn hW;have hguess:=fun W=>guess_q a2 a1 a0 b1 b0 W ha2 ha1 ha0 hn hb1 hb0 hT
 have hg1:=(gq_ok (a2*4294967296+a1) a0 b1 b0 (by omega)).1
 generalize gq (a2*4294967296+a1) a0 b1 b0=gu at hguess hgq hg1;rw[h2] at c2;rw[h1] at c1;rw[h0] at c0;replace hguess:=Lib.hid hguess;replace hgq:=Lib.hid hgq;replace h2:=Lib.hid h2;clear h1 h0 hb1e hb0e hT hW;replace hO:=Lib.hid hO;replace hR:=Lib.hid hR;have g0:(0:Int)≤(p:Int):=by omega
 go_enter Tryz.func146,Tryz.ntmps146;go_wp2
 go_quiet ((go_at_call 152;exact Calls.quiet_of (hguess.out _)))
 have hguB:gu<4294967296:=by omega
 have hsub:=fun W (hW:Own W g zs) (hR':RdX W g (some ⟨bb,ob,none⟩) (p+2) cb ys)=>subProduct_any g o (p+2) cs zs (some ⟨bb,ob,none⟩) cb ys gu W hW (by omega) hR' hguB (by omega)
 replace hsub:=Lib.hid hsub;have g3:(p:Int)+2<(p:Int)+2+1:=by omega
 go_upto_region 3 with fail
 go_cut [45] (fun b wx=>∃ (cy:Nat) (zs':List Nat),b=.bool (decide ((cy:Int)≤(a2:Int)))∧cy<4294967296∧Own wx g zs'∧zs'.length=zs.length∧zs'.take o=zs.take o∧zs'.drop (o+(p+2))=zs.drop (o+(p+2)) ∧
  val zs'+4294967296^o*(gu*val ys)=val zs+4294967296^(o+(p+2))*cy∧w.grownBy wx (some g))
 case first=>
  have q2:(0:Int)≤(p:Int)+2:=by omega
  have q4:(p:Int)+2≤(cs:Int):=by omega
  have hoi:o+(p+2)<zs.length:=by omega
  have q1:((p:Int)+2).toNat=p+2:=by omega
  go_region_held3 (fun w'=>w'.cell? ⟨g,o+(p+2),none⟩=some (.int .u32 (a2:Int))) (first | exact c2 | exact keep_cell O1 l1 d1 h2.out hoi)
   (first | (go_at_call 153;refine (hsub.out _ (by exact⟨hO.out.heap,hO.out.sm⟩) (by exact⟨hR.out.len,hR.out.cap,hR.out.sm,hR.out.mem⟩)).mono ?_;rintro e w' ⟨cy,zs',rfl,hcy,O1,l1,t1,d1,v1,gr1⟩))
  go_wp2_with fail
  go_meet
  case rel=>exact⟨cy,zs',by rw[IntKind.wrap_u64,Int.emod_eq_of_lt (by omega) (by omega)],hcy,O1,l1,t1,d1,v1,⟨gr1.os,gr1.tape,gr1.output,gr1.size,gr1.block⟩⟩
 case rest=>
  obtain⟨cy,zs',rfl,hcy,O1,l1,t1,d1,v1,gr1⟩:=hcut;have hwin:=win_eq (by omega) l1 t1 d1 v1
  have hWe:win zs o (p+2+1)=win zs o (p+2)+4294967296^(p+2)*a2:=by rw[win_succ,h2.out]
  have hD0:0<val ys:=by
   have:=val_ge (xs:=ys) hvy (by rw[hR.out.len];omega)
   have:=Nat.pow_pos (n:=ys.length-1) (show 0<4294967296 by omega)
   omega
  have hDl:val ys≤4294967296^(p+2):=by have:=val_lt hR.out.sm;rw[hR.out.len] at this;omega
  have hM:=win_lt (zs:=zs') o (p+2) O1.sm (by omega)
  rcases hgq.out with hq | hq
  ·rw[hq] at hwin
   obtain⟨hc,hr⟩:=step_right hWe hD0 hDl hM hwin;have ht:cy≤a2:=by omega
   replace hr:=Lib.hid hr;replace hq:=Lib.hid hq;replace hc:=Lib.hid hc;replace O1:=Lib.hid O1;replace gr1:=Lib.hid gr1;replace t1:=Lib.hid t1;replace l1:=Lib.hid l1;clear hwin hWe hM d1 v1;go_wp2;go_ret;exact⟨zs',ret_u32 (by rw[hq.out]),O1.out,l1.out,t1.out,hr.out,gr1.out⟩
  ·rw[hq] at hwin
   obtain⟨hc,hr⟩:=step_over (M2:=0) (cy2:=0) hWe hD0 hDl hM (Nat.pow_pos (by omega)) hwin
   have ht:decide (cy≤a2)=false:=by simp;omega
   have hgu1:(1:Int)≤(gu:Int):=by have h:1≤gu:=by { rw[hq];exact Nat.succ_le_succ (Nat.zero_le _) };clear hq hWe hwin hM hD0 hDl hr;omega
   have hadd:Calls Tryz.prog 130 #[.slice (some ⟨g,o,none⟩) (p+2) cs,.slice (some ⟨bb,ob,none⟩) (p+2) cb,.int .u32 1] wc (RetAddP g o (p+2) 1 zs' ys wc):=
    addProduct_any g o (p+2) cs zs' (some ⟨bb,ob,none⟩) cb ys 1 wc O1 (by omega) (hR.out.grown gr1) (by omega) (by omega)
   have hfin:∀ zs2:List Nat,∀ cy2:Nat,Sm zs2→zs2.length=zs'.length→zs2.take o=zs'.take o→zs2.drop (o+(p+2))=zs'.drop (o+(p+2))→val zs2+4294967296^(o+(p+2))*cy2=val zs'+4294967296^o*(1*val ys)→win zs2 o (p+2)=win zs o (p+2+1)%val ys:=by
    intro zs2 cy2 s2 l2 t2 d2 v2;have hw2:=win_eq (zs:=zs2) (zs':=zs') (o:=o) (m:=p+2) (a:=1*val ys) (c:=cy2) (by omega) l2.symm t2.symm d2.symm v2.symm
    have hM2:=win_lt (zs:=zs2) o (p+2) s2 (by omega)
    exact (step_over hWe hD0 hDl hM hM2 hwin).2 hw2.symm
   replace hfin:=Lib.hid hfin;replace hadd:=Lib.hid hadd;replace hq:=Lib.hid hq;replace O1:=Lib.hid O1;replace gr1:=Lib.hid gr1;replace t1:=Lib.hid t1;replace l1:=Lib.hid l1;clear hwin hWe hM d1 v1 hr
   go_wp2_with fail
   refine (hadd.out).mono ?_
   rintro e w2 ⟨cy2,zs2,rfl,hcy2,O2,l2,t2,d2,v2,gr2⟩;have hr:=Lib.hid (hfin.out zs2 cy2 O2.sm l2 t2 d2 v2);replace O2:=Lib.hid O2;replace gr2:=Lib.hid gr2;replace t2:=Lib.hid t2;replace l2:=Lib.hid l2;clear d2 v2;go_wp2;go_ret;exact⟨zs2,ret_u32 (by rw[hq.out,Int.natCast_add];exact Int.add_sub_cancel _ _),O2.out,l2.out.trans l1.out,t2.out.trans t1.out,hr.out,grown_trans2 gr1.out gr2.out⟩
end Go.Proofs.YthlinhconnmbcaaGreat
namespace Go.Proofs.YthlinhconnmbcaaGreat
open Go.RowKit
theorem lz_nat (l:Nat) (w:World) (h:l<4294967296):Calls Tryz.prog 141 #[.int .u32 l] w fun e w'=>e=.returned (.int .i64 ((32-Lib.bitLen l:Nat):Int))∧w=w':=by
 refine (lz32_any l w h).mono ?_
 rintro e w' ⟨rfl,rfl⟩;have:=Lib.bitLen_le l 32 (by omega) (by omega)
 exact⟨by rw[show (32-(Lib.bitLen l:Int))=((32-Lib.bitLen l:Nat):Int) by omega],rfl⟩
def RetLong (x y:Nat) (w:World) (e:Ending) (w':World):Prop:=
 ∃ A n c A' n' c',e=.returned (.tuple #[.slice A n c,.slice A' n' c'])∧Rd w' A n c (limbs (x / y))∧Rd w' A' n' c' (limbs (x%y))∧Below w.heap.size w w'
theorem long_any (A:Option Addr) (K p c:Nat) (xs:List Nat) (A':Option Addr) (c':Nat) (ys:List Nat) (w:World)
  (h1:Rd w A (p+2+K) c xs) (h2:Rd w A' (p+2) c' ys) (hn:p+2+K≤100000000) (hvy:vldB ys=true) :
  Calls Tryz.prog 138 #[.slice A (p+2+K) c,.slice A' (p+2) c'] w (RetLong (val xs) (val ys) w):=by
 obtain⟨bb,ob,l,rfl,hbb,hlb,hle,hcl⟩:=h2.at_ (k:=p+1) (by omega)
 have hl0:0<l:=by
  unfold vldB at hvy;rw[h2.len,show p+2-1=p+1 by omega,hle] at hvy
  simp at hvy
  omega
 have hlz:=fun W=>lz_nat l W hlb
 have hbl:=bitLen_spec l (by omega)
 have hbl32:=Lib.bitLen_le l 32 (by omega) (by omega)
 obtain⟨bl,hble⟩:∃ bl,Lib.bitLen l=bl:=⟨_,rfl⟩;rw[hble] at hbl hbl32;have hbl1:1≤bl:=by
  rcases Nat.eq_zero_or_pos bl with h | h
  ·rw[h] at hbl;have:=hbl.1;simp at this;omega
  ·exact h
 simp only[hble] at hlz;clear hble;obtain⟨s,hs⟩:∃ s,32-bl=s:=⟨_,rfl⟩;rw[hs] at hlz;have hs31:s<32:=by omega
 replace hlz:=Lib.hid hlz;replace hbl:=Lib.hid hbl;have hsb:=Lib.hid (show s+bl=32 by omega)
 replace hle:=Lib.hid hle;clear hs;replace h1:=Lib.hid h1;replace h2:=Lib.hid h2;go_enter Tryz.func138,Tryz.ntmps138
 go_wp2_with fail
 refine (hlz.out _).mono ?_
 rintro e w' ⟨rfl,rfl⟩
 go_wp2_with fail
 refine (shiftLeft_any _ _ _ s _ _ h1.out hs31 (by omega)).mono ?_
 rintro e w1 ⟨rfl,zs,O1,lz1,v1,b1⟩;have h2':=Lib.hid (h2.out.below b1);replace O1:=Lib.hid O1;replace lz1:=Lib.hid lz1;replace v1:=Lib.hid v1;replace b1:=Lib.hid b1
 go_wp2_with fail
 refine (shiftLeft_any _ _ _ s _ _ h2'.out hs31 (by omega)).mono ?_
 rintro e w2 ⟨rfl,ds,O2,lz2,v2,b2⟩;obtain⟨hdv,hdt,hdu,hdl⟩:=norm_top (m:=p+1) h2.out.len h2.out.sm hle.out hbl.out.1 (hbl.out.2 hl0) hsb.out lz2 O2.sm v2;have hg12:w.heap.size≠w1.heap.size:=by have:=O1.out.lt;omega
 replace O1:=Lib.hid (O1.out.below b2 O1.out.lt);replace O2:=Lib.hid O2;replace lz2:=Lib.hid lz2;replace b2:=Lib.hid (b1.out.trans (b2.mono b1.out.size));replace hdv:=Lib.hid hdv;replace hdt:=Lib.hid hdt;replace hdu:=Lib.hid hdu;replace hdl:=Lib.hid hdl;clear h2' b1 hle v2;have hg1:w.heap.size<w2.heap.size:=O1.out.lt;have hg2:w1.heap.size<w2.heap.size:=O2.out.lt;have hmk:∀ W:World,(Instr.makeSlice 29 (.int .i64 ((p:Int)+2+K-(p+2)+1)) (.int .i64 ((p:Int)+2+K-(p+2)+1))).run Tryz.prog W=.ok (.slice (some ⟨W.heap.size,0,none⟩) (K+1) (K+1)) (W.alloc (.cells (madeCells #[.int .u32 0] (K+1)) 92)):=fun W=>by
  rw[show (p:Int)+2+K-(p+2)+1=((K+1:Nat):Int) by omega]
  exact make_u32 (K+1) (by omega) .i64 .i64 W
 have hD0:0<val ys:=val_pos hvy (by intro h;have:=h2.out.len;rw[h] at this;cases this)
 replace hD0:=Lib.hid hD0;obtain⟨hfw1,hfw2⟩:=first_window (m:=p+1) (K:=K) (s:=s) (D:=val ys*2^s) (by have:=lz1.out;omega) (by have:=h1.out.len;omega) h1.out.sm hs31 v1.out hdl.out
 replace hfw1:=Lib.hid hfw1;replace hfw2:=Lib.hid hfw2;have hvd:Hid (vldB (ds.take (p+2))=true):=by
  show vldB (ds.take (p+2))=true
  have e:(ds.take (p+2)).getD (p+1) 0=ds.getD (p+1) 0:=by simp[List.getD]
  have:=vldB_last (xs:=ds.take (p+2)) (m:=p+1) (by rw[List.length_take,lz2.out];omega) e
  rw[this,Bool.not_eq_true',beq_eq_false_iff_ne];have:=hdt.out
  omega
 go_wp2
 go_loopw [9] (fun iv wr=>∃ (i:Int) (k:Nat) (zs' qs:List Nat),k≤K+1∧i+1=k∧iv=.int .i64 i∧Own wr w.heap.size zs'∧zs'.length=p+2+K+1∧Own wr w1.heap.size ds∧Own wr w2.heap.size qs∧qs.length=K+1 ∧
   zs'.take k=zs.take k∧win zs' k (p+2)<val ys*2^s∧val (zs.drop k)=val (qs.drop k)*(val ys*2^s)+win zs' k (p+2)∧Below w.heap.size w wr)
  (fun iv _=>(intOf iv+1).toNat)
 case atStart=>exact⟨_,K+1,zs,List.replicate (K+1) 0,Nat.le_refl _,by omega,rfl,O1.out.alloc _,lz1.out,O2.out.alloc _,Own.new _ _,by simp,rfl,hfw1.out,by rw[show (List.replicate (K+1) 0).drop (K+1)=[] by simp,hfw2.out];simp[val],b2.out.alloc b2.out.size _⟩
 case round=>
  clear hmk hfw1 hfw2;obtain⟨i,k,zs',qs,hk,hik,rfl,O1',l1',O2',O3',l3',ht,hwl,hinv,hB⟩:=hrel;replace O1':=Lib.hid O1';replace l1':=Lib.hid l1';replace O2':=Lib.hid O2';replace O3':=Lib.hid O3';replace l3':=Lib.hid l3';replace ht:=Lib.hid ht;replace hwl:=Lib.hid hwl;replace hinv:=Lib.hid hinv;replace hB:=Lib.hid hB
  by_cases h0:k=0
  ·subst h0
   obtain rfl:i = -1:=by omega
   clear hik
   go_wp2_with fail
   have O1p:=O1'.out.pre (p+2);refine (shiftRight_any w.heap.size (p+2) _ s _ _ O1p (by rw[List.length_take,l1'.out];omega) hs31 (by omega)).mono ?_
   rintro e w3 ⟨rfl,zs3,O4,l4,v4,gr4⟩;have e0:val (zs'.take (p+2))=win zs' 0 (p+2):=by unfold win;rw[List.drop_zero]
   have hi0:=hinv.out;rw[List.drop_zero,List.drop_zero,v1.out] at hi0;obtain⟨hq,hr⟩:=shifted_div hi0 hwl.out;rw[e0,hr] at v4;have O5:=O3'.out.grown gr4 (by intro h;injection h with h;omega)
   have b4:=Lib.hid (Below.grown hB.out gr4 (by have:=O1'.out.lt;omega) (by intro k hk;injection hk;omega))
   replace hq:=Lib.hid hq;replace v4:=Lib.hid v4;replace O4:=Lib.hid O4;replace O5:=Lib.hid O5;replace l4:=Lib.hid l4;clear hr hi0 e0 gr4 O1p
   go_wp2_with fail
   refine (trim_any _ _ _ qs _ (O5.out.rdn l3'.out (Nat.le_refl _)) (by omega)).mono ?_
   rintro e w4 ⟨n6,rfl,rfl,R6⟩;rw[hq.out] at R6;replace R6:=Lib.hid R6
   go_wp2_with fail
   refine (trim_any _ _ _ zs3 _ (O4.out.rdn l4.out (by omega)) (by omega)).mono ?_
   rintro e w5 ⟨n7,rfl,rfl,R7⟩;rw[v4.out] at R7;replace R7:=Lib.hid R7;go_wp2
   go_ret2
   exact⟨_,_,_,_,_,_,rfl,R6.out,R7.out,b4.out⟩
  ·obtain⟨j,rfl⟩:∃ j,k=j+1:=⟨k-1,by omega⟩
   obtain rfl:i=j:=by omega
   clear hik h0;obtain⟨htx,ht1⟩:=take_step ht.out;replace ht1:=Lib.hid ht1;replace htx:=Lib.hid htx;have g1:(0:Int)≤(j:Int):=by omega
   have g2:(j:Int)<(K:Int)+1:=by omega
   go_wp2_with fail
   rw[show j+(p+2)+1-j=p+2+1 by omega]
   have hls:=fun zs2=>long_step (zs:=zs) (zs':=zs') (zs2:=zs2) (qs:=qs) (i:=j) (m:=p+2) (D:=val ys*2^s) (by rw[lz1.out];omega) (by rw[l1'.out];omega) (by rw[l3'.out];omega) htx.out hwl.out hinv.out (sm_get O1.out.sm j)
   have hd:=divStep_any w.heap.size j p (p+2+K+1-j) zs' (some ⟨w1.heap.size,0,none⟩) (p+2+1) (ds.take (p+2)) wr O1'.out (by rw[l1'.out];omega) (by omega) (O2'.out.rdx hg12.symm (by rw[lz2.out];omega) (by omega)) (by have e:(ds.take (p+2)).getD (p+1) 0=ds.getD (p+1) 0:=by { simp[List.getD] };rw[e];exact hdt.out) (by omega) hvd.out (by rw[hdv.out];exact (hls zs').1)
   rw[hdv.out] at hd;have hqb:win zs' j (p+2+1) / (val ys*2^s)<4294967296:=by
    rw[Nat.div_lt_iff_lt_mul (Nat.mul_pos hD0.out (Nat.pow_pos (by omega))),Nat.mul_comm]
    exact (hls zs').1
   unfold RetStep at hd;obtain⟨qd,hqd⟩:∃ qd,win zs' j (p+2+1) / (val ys*2^s)=qd:=⟨_,rfl⟩;rw[hqd] at hd hqb;simp only[hqd] at hls;replace hls:=Lib.hid hls;refine hd.mono ?_
   clear hd hqd;rintro e w3 ⟨zs2,rfl,O1b,l1b,t1b,hw,gr⟩;have hfin:=((hls.out zs2).2 hw);have O2b:=O2'.out.grown gr (by intro h;injection h with h;omega)
   have O3b:=O3'.out.grown gr (by intro h;injection h with h;omega)
   have hcell:=O3b.cell (k:=j) (by rw[l3'.out];omega)
   have hfz:=O3b.frozen j;have O3c:=O3b.set_ j qd hqb;have hBb:=Below.grown hB.out gr (by have:=O1'.out.lt;omega) (by intro k hk;injection hk;omega)
   have ht2:=t1b.trans ht1.out;replace hfin:=Lib.hid hfin;replace O1b:=Lib.hid O1b;replace O2b:=Lib.hid O2b;replace O3c:=Lib.hid O3c;replace hBb:=Lib.hid hBb;replace ht2:=Lib.hid ht2;replace l1b:=Lib.hid l1b;clear hw gr O3b t1b;go_wp2
   go_roundw
   case rel=>exact⟨_,j,zs2,_,by omega,by omega,rfl,O1b.out.far (by show w.heap.size≠w2.heap.size;omega) _,l1b.out.trans l1'.out,O2b.out.far (by show w1.heap.size≠w2.heap.size;omega) _,O3c.out,by rw[List.length_set];exact l3'.out,ht2.out,hfin.out.2,hfin.out.1,hBb.out.setCell (by show w.heap.size≤w2.heap.size;omega) _⟩
   case measure=>simp[intOf]
theorem div_long (A:Option Addr) (n c:Nat) (xs:List Nat) (A':Option Addr) (n' c':Nat) (ys:List Nat) (w:World)
  (h1:Rd w A n c xs) (h2:Rd w A' n' c' ys) (hn:n≤100000000) (hn':n'≤100000000) (hge:num ys≤num xs) (hlen:2≤(limbs (num ys)).length) :
  Calls Tryz.prog 132 #[.slice A n c,.slice A' n' c'] w (RetDiv (num xs) (num ys) w):=by
 replace h1:=Lib.hid h1;replace h2:=Lib.hid h2;replace hge:=Lib.hid hge;replace hlen:=Lib.hid hlen;go_enter Tryz.func132,Tryz.ntmps132
 go_wp2_with fail
 refine (known_any _ _ _ xs _ h1.out (by omega)).mono ?_
 rintro e w' ⟨B1,n1,c1,rfl,rfl,R1,l1⟩;replace R1:=Lib.hid R1
 go_wp2_with fail
 refine (known_any _ _ _ ys _ h2.out (by omega)).mono ?_
 rintro e w' ⟨B2,n2,c2,rfl,rfl,R2,l2⟩;obtain⟨p,rfl⟩:∃ p,n2=p+2:=⟨n2-2,by have:=R2.len;have:=hlen.out;omega⟩
 obtain⟨K,rfl⟩:∃ K,n1=p+2+K:=⟨n1-(p+2),by have:=R2.len;have:=R1.out.len;have:=len_le hge.out;omega⟩
 replace R2:=Lib.hid R2;clear h1 h2;have hg0:((p:Int)+2==0)=false:=by simp;omega
 have hg1:((p:Int)+2==1)=false:=by simp;omega
 go_wp2_with fail
 have hc:=compare_any _ _ _ _ _ _ _ _ _ R1.out R2.out (by omega) (by omega)
 rw[num_limbs,num_limbs] at hc;obtain⟨q,hq,hq0⟩:∃ q,cmpi (num xs) (num ys)=q∧0≤q:=⟨_,rfl,by unfold cmpi;have:=hge.out;split;omega;split<;>omega⟩
 rw[hq] at hc;clear hq;have hq1:decide (q<0)=false:=by simp;omega
 refine hc.mono ?_
 clear hc;rintro e w' ⟨rfl,m,rfl⟩;have hl:=long_any B1 K p c1 (limbs (num xs)) B2 c2 (limbs (num ys)) (w.drewN m) (R1.out.drewN m) (R2.out.drewN m) (by omega) (vldB_limbs _)
 rw[val_limbs,val_limbs] at hl;replace hl:=Lib.hid hl
 go_wp2_with fail
 refine (hl.out).mono ?_
 rintro e w3 ⟨A3,n3,c3,A4,n4,c4,rfl,R3,R4,b3⟩;replace R3:=Lib.hid R3;replace R4:=Lib.hid R4;replace b3:Hid (Below w.heap.size w w3):=Lib.hid ((drewN_below w m).trans b3);clear hl;go_wp2
 go_ret3
 exact⟨_,_,_,_,_,_,rfl,R3.out,R4.out,b3.out⟩
theorem div_any (A:Option Addr) (n c:Nat) (xs:List Nat) (A':Option Addr) (n' c':Nat) (ys:List Nat) (w:World)
  (h1:Rd w A n c xs) (h2:Rd w A' n' c' ys) (hn:n≤100000000) (hn':n'≤100000000) (hy:0<num ys) :
  Calls Tryz.prog 132 #[.slice A n c,.slice A' n' c'] w (RetDiv (num xs) (num ys) w):=by
 rcases Nat.lt_or_ge (num xs) (num ys) with h | h
 ·exact div_less A n c xs A' n' c' ys w h1 h2 (by omega) (by omega) h
 ·have h0:=limbs_ne (y:=num ys) rfl hy
  by_cases h1':(limbs (num ys)).length=1
  ·exact div_one A n c xs A' n' c' ys w h1 h2 (by omega) (by omega) h h1'
  ·exact div_long A n c xs A' n' c' ys w h1 h2 hn hn' h (by omega)
theorem div_b (A:Option Addr) (n c:Nat) (x:Nat) (A':Option Addr) (n' c':Nat) (y:Nat) (w:World) (p q:Nat)
  (h1:Rd w A n c (limbs x)) (h2:Rd w A' n' c' (limbs y)) (hn:n≤p) (hn':n'≤q) (hp:p≤100000000) (hq:q≤100000000) (hy:0<y) :
  Calls Tryz.prog 132 #[.slice A n c,.slice A' n' c'] w fun e w'=>∃ A n c A' n' c',e=.returned (.tuple #[.slice A n c,.slice A' n' c',.bool true])∧Rd w' A n c (limbs (x / y))∧Rd w' A' n' c' (limbs (x%y))∧Below w.heap.size w w'∧n≤p∧n'≤q:=by
 have:=div_any A n c (limbs x) A' n' c' (limbs y) w h1 h2 (by omega) (by omega) (by rw[num_limbs];exact hy)
 rw[num_limbs,num_limbs] at this;refine this.mono ?_
 rintro e w' ⟨A2,n2,c2,A3,n3,c3,he,hR,hR',hb⟩;refine⟨A2,n2,c2,A3,n3,c3,he,hR,hR',hb,?_,?_⟩
 ·have:=len_le (Nat.div_le_self x y)
  have a:=h1.len;have b:=hR.len
  omega
 ·have:=len_le (Nat.le_of_lt (Nat.mod_lt x hy))
  have a:=h2.len;have b:=hR'.len
  omega
end Go.Proofs.YthlinhconnmbcaaGreat
namespace Go.Proofs.YthlinhconnmbcaaGreat
open Go.RowKit
theorem rtrim_any (A:Option Addr) (n c:Nat) (xs:List Nat) (w:World) (h:Rd w A n c xs) (hn:n≤10000000000) :
  Calls Tryz.prog 100 #[.slice A n c] w fun e w'=>∃ n',e=.returned (.slice A n' c)∧w=w'∧Rd w A n' c (limbs (val xs)):=by
 have hcap:=h.cap;have hl:=h.len;have R:Rd w A (tl xs n) c (limbs (val xs)):=by
  have:=h.take (tl_le xs n);rw[tl_limbs h.sm n (by omega),←hl,List.take_length,hl] at this
  exact this
 have R:=Lib.hid R;have HH:=Lib.hid h;clear h hl;go_enter Tryz.func100,Tryz.ntmps100;go_wp2
 go_loop [0] (fun s=>∃ k:Nat,k≤n∧s=.slice A k c∧tl xs k=tl xs n) (fun s=>match s with | .slice _ k _=>k | _=>0)
 case atStart=>exact⟨n,Nat.le_refl _,rfl,rfl⟩
 case round=>
  obtain⟨k,hk,rfl,ht⟩:=hrel;have ht:=Lib.hid ht
  by_cases h0:k=0
  ·subst h0
   have hg:((0:Int) > 0)=False:=by simp
   go_wp2;go_ret;exact⟨0,rfl,rfl,by have:=R.out;rw[←ht.out] at this;exact this⟩
  ·obtain⟨m,rfl⟩:∃ m,k=m+1:=⟨k-1,by omega⟩
   obtain⟨b,o,x,rfl,hb,hx,hxs,hc⟩:=HH.out.at_ (k:=m) (by omega)
   have hxs:=Lib.hid hxs;clear h0;have hg:(0:Int)<(m:Int)+1:=by omega
   have hg2:decide ((0:Int)<(m:Int)+1)=true:=decide_eq_true hg
   by_cases hx0:x=0
   ·have hx1:((x:Int)==0)=true:=by simp;omega
    have e:tl xs (m+1)=tl xs m:=by rw[tl,if_pos (by rw[hxs.out];exact hx0)]
    have e:=Lib.hid e;clear hx0;go_wp2
    go_round
    case rel=>exact⟨m,by omega,rfl,by rw[←e.out];exact ht.out⟩
    case measure=>simp
   ·have hx1:((x:Int)==0)=false:=by simp;omega
    have e:tl xs (m+1)=m+1:=by rw[tl,if_neg];rw[hxs.out];exact hx0
    have e:=Lib.hid e;clear hx0;go_wp2;go_ret;exact⟨m+1,rfl,rfl,by have:=R.out;rw[←ht.out,e.out] at this;exact this⟩
theorem rfromUint_any (v:Nat) (w:World) (hv:v<18446744073709551616) :
  Calls Tryz.prog 77 #[.int .u64 v] w (RetN v w):=by
 have O:=Own.lit w [v%4294967296,v / 4294967296] (by intro x hx;simp at hx;omega)
 have hval:val [v%4294967296,v / 4294967296]=v:=by simp[val];omega
 have h1:(v:Int) / 4294967296<4294967296:=by omega
 have h0:(0:Int)≤v:=by omega
 replace hval:=Lib.hid hval;replace hv:=Lib.hid hv;replace O:=Lib.hid O;go_enter Tryz.func77,Tryz.ntmps77
 go_wp2_with fail
 have R:=O.out.rd0 2 (by simp)
 simp only[List.map,u32,Int.natCast_emod,Int.natCast_ediv,List.length] at R;refine (rtrim_any _ _ _ _ _ R (by omega)).mono ?_
 rintro e w' ⟨n',rfl,rfl,R2⟩;replace R2:=Lib.hid R2;go_wp2;go_ret;exact⟨_,_,_,rfl,by have:=R2.out;rw[hval.out] at this;exact this,(Below.refl _ _).alloc (Nat.le_refl _) _⟩
theorem take_any (A:Option Addr) (n c:Nat) (xs:List Nat) (w:World) (h:Rd w A n c xs) (hn:n≤1000000000) :
  Calls Tryz.prog 68 #[.slice A n c] w fun e w'=>∃ A' n' c',e=.returned (.slice A' n' c')∧Rd w' A' n' c' (limbs (num xs))∧Below w.heap.size w w'∧n'≤n:=by
 have hv:=rvalid_any A n c xs w h (by omega)
 have hk:=kn_limbs h.sm
 cases hb:vldB xs
 ·rw[hb] at hv
  have R:Rd w none 0 0 (limbs (num xs)):=by rw[←hk];unfold kn;rw[hb];exact Rd.nil_ w 0 none
  replace R:=Lib.hid R;replace hv:=Lib.hid hv;clear hk hb h;go_enter Tryz.func68,Tryz.ntmps68
  go_wp2_with fail
  refine (hv.out).mono ?_
  rintro e w' ⟨rfl,hw⟩;have hw:=hw.symm;subst hw;go_wp2;go_ret;exact⟨none,0,0,rfl,R.out,Below.refl _ _,Nat.zero_le _⟩
 ·rw[hb] at hv
  have e:limbs (num xs)=xs:=by rw[←hk];unfold kn;rw[hb];rfl
  rw[e];replace hv:=Lib.hid hv;have hl:=h.len;clear hk hb e
  rcases A with _ | ad
  ·have hx:xs=[]:=by
    rcases h.mem with h0 | ⟨b,o,h0,_⟩
    ·exact List.eq_nil_of_length_eq_zero (by omega)
    ·cases h0
   subst hx;obtain rfl:n=0:=by simpa using hl.symm
   clear h hl;go_enter Tryz.func68,Tryz.ntmps68
   go_wp2_with fail
   refine (hv.out).mono ?_
   rintro e w' ⟨rfl,hw⟩;have hw:=hw.symm;subst hw;go_wp2;go_ret;exact⟨none,0,0,rfl,Rd.nil_ _ _ _,Below.refl _ _,Nat.zero_le _⟩
  ·replace h:=Lib.hid h
   replace hl:=Lib.hid hl;go_enter Tryz.func68,Tryz.ntmps68
   go_wp2_with fail
   refine (hv.out).mono ?_
   rintro e w' ⟨rfl,hw⟩;have hw:=hw.symm;subst hw
   go_wp2_with (at_builtin;refine wpList_append_u32 _ rfl (.const (.slice none 0 0)) (.tmp 6) rfl w.heap.size _ [] rfl (Gr.nil_ w _) ad n c xs rfl h.out ?c1 ?c2 ?_)
   case c1=>show 0+n≤10000000000;omega
   case c2=>exact Nat.le_refl _
   intro v' w' hG hg;obtain⟨A',c',hv',hR,_⟩:=hG.form;subst hv';have hl2:=hl.out;subst hl2;replace hR:=Lib.hid hR;replace hg:=Lib.hid (Below.grown (Below.refl w.heap.size w) hg (Nat.le_refl _) (by intro k hk;simp[Value.ownBlock] at hk))
   clear hG;go_wp2;go_ret;exact⟨_,_,_,rfl,hR.out,hg.out,Nat.le_refl _⟩
theorem rcmp_any (A:Option Addr) (n c:Nat) (x:Nat) (A':Option Addr) (n' c':Nat) (y:Nat) (w:World)
  (R1:Rd w A n c (limbs x)) (R2:Rd w A' n' c' (limbs y)) (hn:n≤1000000000) (hn':n'≤1000000000) :
  Calls Tryz.prog 115 #[.slice A n c,.slice A' n' c'] w fun e w'=>e=.returned (.int .i64 (cmpi x y))∧∃ m,w'=w.drewN m:=by
 replace R1:=Lib.hid R1;replace R2:=Lib.hid R2
 by_cases hne:n=n'
 ·subst hne
  have hne0:((n:Int) != (n:Int))=false:=by simp
  go_enter Tryz.func115,Tryz.ntmps115;go_wp2
  go_loopw [5] (fun iv wr=>∃ (i:Int) (k m:Nat),k≤n∧i+1=k∧iv=.int .i64 i∧wr=w.drewN m∧(limbs x).drop k=(limbs y).drop k) (fun iv _=>(intOf iv+1).toNat)
  case atStart=>exact⟨_,n,0,Nat.le_refl _,by omega,rfl,rfl,by rw[List.drop_of_length_le (by rw[R1.out.len];omega),List.drop_of_length_le (by rw[R2.out.len];omega)]⟩
  case round=>
   obtain⟨i,k,m,hk,hik,rfl,rfl,hd⟩:=hrel;replace hd:=Lib.hid hd
   by_cases h0:k=0
   ·subst h0
    have hxy:x=y:=limbs_inj (by simpa using hd.out)
    have hcmp:=Lib.hid (cmpi_eq (a:=x) (b:=y) (by omega))
    obtain rfl:i = -1:=by omega
    clear hik hd hxy;go_wp2;go_ret;rw[hcmp.out];exact⟨rfl,_,rfl⟩
   ·obtain⟨j,rfl⟩:∃ j,k=j+1:=⟨k-1,by omega⟩
    obtain rfl:i=j:=by omega
    obtain⟨b1,o1,x1,rfl,hb1,hx1,hxe,hcx⟩:=R1.out.at_ (k:=j) (by omega)
    obtain⟨b2,o2,y1,rfl,hb2,hy1,hye,hcy⟩:=R2.out.at_ (k:=j) (by omega)
    replace hxe:=Lib.hid hxe;replace hye:=Lib.hid hye;clear hik h0;have g1:(0:Int)≤(j:Int):=by omega
    have g2:(j:Int)<(n:Int):=by omega
    by_cases hlt:x1<y1
    ·have hcm:cmpi x y = -1:=by
      rw[cmp_at (by rw[R1.out.len];omega) (by rw[R2.out.len];omega) hd.out hxe.out hye.out (by omega) (sm_limbs _) (sm_limbs _)]
      exact cmpi_lt (by omega)
     replace hcm:=Lib.hid hcm;go_wp2
     go_quiet (fail)
     go_wp2;go_ret;rw[hcm.out];exact⟨rfl,_,by rw[World.drewN_drewN]⟩
    ·by_cases hgt:y1<x1
     ·have hcm:cmpi x y=1:=by
       rw[cmp_at (by rw[R1.out.len];omega) (by rw[R2.out.len];omega) hd.out hxe.out hye.out (by omega) (sm_limbs _) (sm_limbs _)]
       exact cmpi_gt (by omega)
      replace hcm:=Lib.hid hcm;go_wp2
      go_quiet (fail)
      go_wp2
      go_quiet (fail)
      go_wp2;go_ret;rw[hcm.out];exact⟨rfl,_,by rw[World.drewN_drewN,World.drewN_drewN]⟩
     ·have hd2:=Lib.hid (drop_same (by rw[R1.out.len];omega) (by rw[R2.out.len];omega) hd.out (hxe.out.trans ((show x1=y1 by omega).trans hye.out.symm)))
      go_wp2
      go_quiet (fail)
      go_wp2
      go_quiet (fail)
      go_wp2
      go_roundw
      case rel=>exact⟨_,j,_,by omega,by omega,rfl,rfl,hd2.out⟩
      case measure=>simp[intOf]
 ·have hc:cmpi x y=cmpi n n':=cmp_len R1.out.len R2.out.len hne
  have ht:((n:Int) != (n':Int))=true:=by simp;omega
  by_cases hlt:n<n'
  ·rw[hc,cmpi_lt (by omega)]
   clear hne hc;go_enter Tryz.func115,Tryz.ntmps115;go_wp2;go_ret;exact⟨rfl,0,rfl⟩
  ·rw[hc,cmpi_gt (by omega)]
   clear hc;go_enter Tryz.func115,Tryz.ntmps115;go_wp2;go_ret;exact⟨rfl,0,rfl⟩
theorem rcmp_b (A:Option Addr) (n c:Nat) (x:Nat) (A':Option Addr) (n' c':Nat) (y:Nat) (w:World)
  (h1:Rd w A n c (limbs x)) (h2:Rd w A' n' c' (limbs y)) (hn:n≤1000000000) (hn':n'≤1000000000) (q:Int) (hq:cmpi x y=q) :
  Calls Tryz.prog 115 #[.slice A n c,.slice A' n' c'] w fun e w'=>e=.returned (.int .i64 q)∧Below w.heap.size w w':=by
 have:=rcmp_any A n c x A' n' c' y w h1 h2 hn hn';rw[hq] at this;refine this.mono ?_
 rintro e w' ⟨he,m,rfl⟩;exact⟨he,drewN_below w m⟩
end Go.Proofs.YthlinhconnmbcaaGreat
namespace Go.Proofs.YthlinhconnmbcaaGreat
open Go.RowKit
def uval (x:Nat):Nat:=if x<18446744073709551616 then x else 0
def uok (x:Nat):Bool:=decide (x<18446744073709551616)
theorem two_pow_64:4294967296^2=18446744073709551616:=rfl
theorem u_big {x n:Nat} (h:(limbs x).length=n) (hn:2<n):uval x=0∧uok x=false:=by
 have h1:¬ x<18446744073709551616:=by
  intro hx;have:=len_of_lt (x:=x) (n:=2) (by rw[two_pow_64];exact hx)
  omega
 exact⟨if_neg h1,decide_eq_false h1⟩
theorem u_small {x n:Nat} (h:(limbs x).length=n) (hn:n≤2):uval x=x∧uok x=true:=by
 have h1:x<18446744073709551616:=by
  have:=limbs_len_le (n:=x) (k:=2).1 (by omega)
  rw[two_pow_64] at this;exact this
 exact⟨if_pos h1,decide_eq_true h1⟩
theorem or_high (a x:Nat) (ha:a<4294967296) (hx:x<4294967296):bits .or .u64 (a:Int) ((x:Int)*4294967296)=((a+x*4294967296:Nat):Int):=by
 rw[show (x:Int)*4294967296=((x*4294967296:Nat):Int) by simp]
 rw[u64_or_nat a (x*4294967296) (by omega) (by omega)]
 congr 1
 have:=Nat.two_pow_add_eq_or_of_lt (i:=32) (b:=a) (by omega) x
 rw[show (2:Nat)^32=4294967296 from rfl,Nat.mul_comm] at this
 rw[Nat.or_comm,←this,Nat.add_comm]
theorem or_zero (x:Nat) (hx:x<4294967296):bits .or .u64 0 (x:Int)=(x:Int):=by
 have:=u64_or_nat 0 x (by omega) (by omega)
 rw[Nat.zero_or] at this;exact this
theorem uint_any (A:Option Addr) (n c:Nat) (xs:List Nat) (w:World) (h1:Rd w A n c xs) (hn:n≤1000000000) :
  Calls Tryz.prog 134 #[.slice A n c] w fun e w'=>e=.returned (.tuple #[.int .u64 (uval (num xs):Nat),.bool (uok (num xs))])∧w=w':=by
 replace h1:=Lib.hid h1;go_enter Tryz.func134,Tryz.ntmps134
 go_wp2_with fail
 refine (known_any _ _ _ xs _ h1.out (by omega)).mono ?_
 rintro e w' ⟨B1,n1,c1,rfl,rfl,R1,l1⟩;replace R1:=Lib.hid R1;clear h1
 by_cases hb:2<n1
 ·obtain⟨e1,e2⟩:=u_big R1.out.len hb
  have hbi:(2:Int)<(n1:Int):=by omega
  replace e1:=Lib.hid e1;replace e2:=Lib.hid e2;go_wp2
  go_ret2
  rw[e1.out,e2.out];exact⟨rfl,rfl⟩
 ·obtain⟨e1,e2⟩:=u_small R1.out.len (by omega)
  replace e1:=Lib.hid e1;replace e2:=Lib.hid e2;have hbi:(n1:Int)≤2:=by omega
  go_wp2
  go_loop [2,13] (fun v i=>∃ k:Nat,k≤n1∧i=.int .i64 k∧v=.int .u64 (val ((limbs (num xs)).take k):Nat)) (fun _ i=>n1-(intOf i).toNat)
  case atStart=>exact⟨0,Nat.zero_le _,rfl,rfl⟩
  case round=>
   obtain⟨k,hk,rfl,rfl⟩:=hrel
   by_cases hlt:k<n1
   ·obtain⟨b1,o1,x1,rfl,hb1,hx1,hxe,hcx⟩:=R1.out.at_ hlt
    have hst:=val_take_succ_any (limbs (num xs)) k;rw[hxe] at hst;replace hst:=Lib.hid hst;clear hxe;have hk01:k=0∨k=1:=by omega
    rcases hk01 with rfl | rfl
    ·have hz:val ((limbs (num xs)).take 0)=0:=by simp[val]
     have hor:=or_zero x1 hx1;have hs1:val ((limbs (num xs)).take 1)=x1:=by have:=hst.out;rw[hz] at this;simpa using this
     rw[hz];rw[Nat.add_zero] at hcx;replace hs1:=Lib.hid hs1;clear hz;go_wp2
     go_round
     case rel=>exact⟨1,by omega,rfl,by rw[hs1.out]⟩
     case measure=>simp[intOf];omega
    ·have hv1:val ((limbs (num xs)).take 1)<4294967296:=by
      have:=val_lt (sm_take (sm_limbs (num xs)) 1);have h2:((limbs (num xs)).take 1).length≤1:=by rw[List.length_take];omega
      have h3:4294967296^((limbs (num xs)).take 1).length≤4294967296^1:=Nat.pow_le_pow_right (by omega) h2
      omega
     obtain⟨v1,hv1e⟩:∃ v1,val ((limbs (num xs)).take 1)=v1:=⟨_,rfl⟩;have hor:=or_high v1 x1 (by omega) hx1
     rw[hv1e];have hs2:val ((limbs (num xs)).take 2)=v1+x1*4294967296:=by have:=hst.out;rw[hv1e,Nat.pow_one,Nat.mul_comm] at this;exact this
     replace hs2:=Lib.hid hs2;clear hv1e;go_wp2
     go_round
     case rel=>exact⟨2,by omega,rfl,by rw[hs2.out];simp⟩
     case measure=>simp[intOf];omega
   ·obtain rfl:k=n1:=by omega
    have e:val ((limbs (num xs)).take k)=num xs:=by rw[List.take_of_length_le (by rw[R1.out.len];omega),val_limbs]
    replace e:=Lib.hid e;go_wp2
    go_ret2
    rw[e1.out,e2.out,e.out];exact⟨rfl,rfl⟩
end Go.Proofs.YthlinhconnmbcaaGreat
namespace Go.Proofs.YthlinhconnmbcaaGreat
open Go.RowKit
theorem lit1 (w:World) (g d:Nat) (z:Int) (hg:g=w.heap.size) (hz:z=d) (hd:d<4294967296):Rd (w.alloc (.cells #[.int .u32 z] 92)) (some ⟨g,0,none⟩) 1 1 [d]:=by
 subst hg;subst hz;exact (Own.lit w [d] (by intro y hy;simp at hy;omega)).rd0 1 (by simp)
theorem limb_any (A:Option Addr) (n c:Nat) (xs:List Nat) (w:World) (i:Int) (k x:Nat) (h:Rd w A n c xs) (_:n≤10000000000) (hi:i=k) (hx:xs.getD k 0=x) :
  Calls Tryz.prog 99 #[.slice A n c,.int .i64 i] w fun e w'=>e=.returned (.int .u64 (x:Nat))∧w=w':=by
 subst hi
 by_cases hk:k<n
 ·obtain⟨b,o,x',rfl,hb,hx',hxe,hc⟩:=h.at_ hk
  obtain rfl:x'=x:=hxe.symm.trans hx;have g1:(0:Int)≤(k:Int):=by omega
  have g2:(k:Int)<(n:Int):=by omega
  clear h hx hxe;go_enter Tryz.func99,Tryz.ntmps99;go_wp2;go_ret;exact⟨rfl,rfl⟩
 ·obtain rfl:x=0:=by rw[←hx];exact getD_none (by rw[h.len];omega)
  have g2:(n:Int)≤(k:Int):=by omega
  clear h hx;go_enter Tryz.func99,Tryz.ntmps99;go_wp2;go_ret;exact⟨rfl,rfl⟩
theorem radd_step {zs X Y:List Nat} {k cy x y:Nat} (hl:zs.length=k) (h:val zs+4294967296^k*cy=val (X.take k)+val (Y.take k)) (hx:X.getD k 0=x) (hy:Y.getD k 0=y) :
  val (zs++[(x+y+cy)%4294967296])+4294967296^(k+1)*((x+y+cy) / 4294967296)=val (X.take (k+1))+val (Y.take (k+1)):=by
 rw[val_snoc,hl,val_take_succ_any X,val_take_succ_any Y,hx,hy,pow_mul_succ,Nat.add_assoc,←Nat.mul_add,Nat.mod_add_div,Nat.mul_add,Nat.mul_add]
 omega
theorem radd_last {zs:List Nat} {x y n1 n2 k cy:Nat} (h1:(limbs x).length=n1) (h2:(limbs y).length=n2) (hk:k=max n1 n2+1)
  (h:val zs+4294967296^k*cy=val ((limbs x).take k)+val ((limbs y).take k)):val zs=x+y:=by
 rw[List.take_of_length_le (by omega),List.take_of_length_le (by omega),val_limbs,val_limbs] at h
 have a:=lt_of_len h1;have b:=lt_of_len h2;have a2:4294967296^n1≤4294967296^max n1 n2:=Nat.pow_le_pow_right (by omega) (by omega)
 have b2:4294967296^n2≤4294967296^max n1 n2:=Nat.pow_le_pow_right (by omega) (by omega)
 rcases Nat.eq_zero_or_pos cy with h0 | h0
 ·subst h0;omega
 ·have:=Nat.mul_le_mul_left (4294967296^k) h0
  rw[hk,Nat.pow_succ] at this;rw[hk,Nat.pow_succ] at h
  omega
theorem own_ge {w:World} {base:Nat} {v:Value} {zs:List Nat} (h:Gr w base v zs):∀ k,v.ownBlock=some k→base≤k:=fun k hk=>(h.own.lt k hk).1
theorem radd_any (A:Option Addr) (n c:Nat) (xs:List Nat) (A':Option Addr) (n' c':Nat) (ys:List Nat) (w:World)
  (h1:Rd w A n c xs) (h2:Rd w A' n' c' ys) (hn:n≤1000000000) (hn':n'≤1000000000) :
  Calls Tryz.prog 76 #[.slice A n c,.slice A' n' c'] w (RetN (num xs+num ys) w):=by
 replace h1:=Lib.hid h1;replace h2:=Lib.hid h2;go_enter Tryz.func76,Tryz.ntmps76
 go_wp2_with fail
 refine (take_any _ _ _ xs _ h1.out (by omega)).mono ?_
 rintro e w1 ⟨A1,n1,c1,rfl,R1,b1,l1⟩;replace h2:=Lib.hid (h2.out.below b1);replace R1:=Lib.hid R1;replace b1:=Lib.hid b1
 go_wp2_with fail
 refine (take_any _ _ _ ys _ h2.out (by omega)).mono ?_
 rintro e w2 ⟨A2,n2,c2,rfl,R2,b2,l2⟩;replace R1:=Lib.hid (R1.out.below b2);replace R2:=Lib.hid R2;replace b1:=Lib.hid (b1.out.trans (b2.mono b1.out.size));clear b2 h1 h2;go_wp2
 go_loopw [5,6,7] (fun ov cv iv wr=>∃ (k cy:Nat) (zs:List Nat),k≤max n1 n2+1∧iv=.int .i64 k∧cv=.int .u64 cy∧cy≤1∧zs.length=k∧Gr wr w2.heap.size ov zs∧Below w2.heap.size w2 wr ∧
   val zs+4294967296^k*cy=val ((limbs (num xs)).take k)+val ((limbs (num ys)).take k))
  (fun _ _ iv _=>max n1 n2+1-(intOf iv).toNat)
 case atStart=>exact⟨0,0,[],Nat.zero_le _,rfl,rfl,by omega,rfl,Gr.nil_ _ _,Below.refl _ _,by simp[val]⟩
 case round=>
  obtain⟨k,cy,zs,hk,rfl,rfl,hcy,hl,hG,hB,hv⟩:=hrel;replace hl:=Lib.hid hl;replace hG:=Lib.hid hG;replace hB:=Lib.hid hB;replace hv:=Lib.hid hv
  by_cases hlt:k≤max n1 n2
  ·obtain⟨x1,hx1⟩:∃ x1,(limbs (num xs)).getD k 0=x1:=⟨_,rfl⟩
   obtain⟨y1,hy1⟩:∃ y1,(limbs (num ys)).getD k 0=y1:=⟨_,rfl⟩;have hx1b:x1<4294967296:=by rw[←hx1];exact sm_get (sm_limbs _) k
   have hy1b:y1<4294967296:=by rw[←hy1];exact sm_get (sm_limbs _) k
   replace hx1:=Lib.hid hx1;replace hy1:=Lib.hid hy1
   go_wp2_with fail
   refine (limb_any _ _ _ _ _ _ k x1 (R1.out.below hB.out) (by omega) rfl hx1.out).mono ?_
   rintro e w' ⟨rfl,rfl⟩
   go_wp2_with fail
   refine (limb_any _ _ _ _ _ _ k y1 (R2.out.below hB.out) (by omega) rfl hy1.out).mono ?_
   rintro e w' ⟨rfl,rfl⟩
   go_wp2_with (at_builtin;refine wpList_append_u32 _ rfl (.tmp 31) (.tmp 34) rfl w2.heap.size _ zs rfl (hG.out.alloc _) ⟨wr.heap.size,0,none⟩ 1 1 [(x1+y1+cy)%4294967296] rfl (lit1 _ _ _ _ rfl ?c0 ?c3) ?c1 ?c2 ?_)
   case c0=>omega
   case c3=>omega
   case c1=>rw[hl.out];omega
   case c2=>have:=hB.out.size;simp;omega
   intro v' w' hG' hg;have hB':=Lib.hid (Below.grown (hB.out.alloc hB.out.size _) hg (by have:=hB.out.size;simp;omega) (own_ge hG.out))
   replace hG':=Lib.hid hG';clear hg;go_wp2
   go_roundw
   case rel=>exact⟨k+1,(x1+y1+cy) / 4294967296,_,by omega,by go_num,by go_num,by omega,by rw[List.length_append,hl.out];rfl,hG'.out,hB'.out,radd_step hl.out hv.out hx1.out hy1.out⟩
   case measure=>simp[intOf];omega
  ·have hke:k=max n1 n2+1:=by omega
   have hfin:=Lib.hid (radd_last (n1:=n1) (n2:=n2) R1.out.len R2.out.len hke hv.out);obtain⟨A3,c3,hv3,R3,_⟩:=hG.out.form;subst hv3;replace R3:=Lib.hid R3;clear hke
   go_wp2_with fail
   refine (rtrim_any _ _ _ zs _ R3.out (by rw[hl.out];omega)).mono ?_
   rintro e w' ⟨n',rfl,rfl,R⟩;rw[hfin.out] at R;replace R:=Lib.hid R;have hB':=Lib.hid (b1.out.trans (hB.out.mono b1.out.size));go_wp2;go_ret;exact⟨_,_,_,rfl,R.out,hB'.out⟩
theorem rsub_lt (A:Option Addr) (n c:Nat) (xs:List Nat) (A':Option Addr) (n' c':Nat) (ys:List Nat) (w:World)
  (h1:Rd w A n c xs) (h2:Rd w A' n' c' ys) (hn:n≤1000000000) (hn':n'≤1000000000) (hlt:num xs<num ys) :
  Calls Tryz.prog 95 #[.slice A n c,.slice A' n' c'] w fun e w'=>e=.returned (.tuple #[.slice none 0 0,.bool false])∧Below w.heap.size w w':=by
 replace h1:=Lib.hid h1;replace h2:=Lib.hid h2;replace hlt:=Lib.hid hlt;go_enter Tryz.func95,Tryz.ntmps95
 go_wp2_with fail
 refine (take_any _ _ _ xs _ h1.out (by omega)).mono ?_
 rintro e w1 ⟨A1,n1,c1,rfl,R1,b1,l1⟩;replace h2:=Lib.hid (h2.out.below b1);replace R1:=Lib.hid R1;replace b1:=Lib.hid b1
 go_wp2_with fail
 refine (take_any _ _ _ ys _ h2.out (by omega)).mono ?_
 rintro e w2 ⟨A2,n2,c2,rfl,R2,b2,l2⟩;replace R1:=Lib.hid (R1.out.below b2);replace R2:=Lib.hid R2;replace b1:=Lib.hid (b1.out.trans (b2.mono b1.out.size));clear b2 h1 h2
 go_wp2_with fail
 refine (rcmp_b _ _ _ _ _ _ _ _ _ R1.out R2.out (by omega) (by omega) (-1) (cmpi_lt (by have:=hlt.out;omega))).mono ?_
 rintro e w3 ⟨rfl,b3⟩;replace b1:=Lib.hid (b1.out.trans (b3.mono b1.out.size));clear b3;go_wp2
 go_ret2
 exact⟨rfl,b1.out⟩
theorem rsub_step {zs X Y:List Nat} {k br x y t d:Nat} (hl:zs.length=k) (h:val zs+val (Y.take k)=val (X.take k)+4294967296^k*br) (hx:X.getD k 0=x) (hy:Y.getD k 0=y)
  (ht:t+y+br=x+4294967296) (hd:d=t%4294967296) (hb:br≤1) (hxb:x<4294967296) :
  val (zs++[d])+val (Y.take (k+1))=val (X.take (k+1))+4294967296^(k+1)*(1-t / 4294967296):=by
 rw[val_snoc,hl,val_take_succ_any X,val_take_succ_any Y,hx,hy,pow_mul_succ];have e:d+y+br=x+4294967296*(1-t / 4294967296):=by omega
 have e2:4294967296^k*(d+y+br)=4294967296^k*(x+4294967296*(1-t / 4294967296)):=by rw[e]
 rw[Nat.mul_add,Nat.mul_add,Nat.mul_add] at e2
 omega
theorem rsub_ge (A:Option Addr) (n c:Nat) (xs:List Nat) (A':Option Addr) (n' c':Nat) (ys:List Nat) (w:World)
  (h1:Rd w A n c xs) (h2:Rd w A' n' c' ys) (hn:n≤1000000000) (hn':n'≤1000000000) (hge:num ys≤num xs) :
  Calls Tryz.prog 95 #[.slice A n c,.slice A' n' c'] w fun e w'=>∃ A n c,e=.returned (.tuple #[.slice A n c,.bool true])∧Rd w' A n c (limbs (num xs-num ys))∧Below w.heap.size w w':=by
 replace h1:=Lib.hid h1;replace h2:=Lib.hid h2;replace hge:=Lib.hid hge;go_enter Tryz.func95,Tryz.ntmps95
 go_wp2_with fail
 refine (take_any _ _ _ xs _ h1.out (by omega)).mono ?_
 rintro e w1 ⟨A1,n1,c1,rfl,R1,b1,l1⟩;replace h2:=Lib.hid (h2.out.below b1);replace R1:=Lib.hid R1;replace b1:=Lib.hid b1
 go_wp2_with fail
 refine (take_any _ _ _ ys _ h2.out (by omega)).mono ?_
 rintro e w2 ⟨A2,n2,c2,rfl,R2,b2,l2⟩;replace R1:=Lib.hid (R1.out.below b2);replace R2:=Lib.hid R2;replace b1:=Lib.hid (b1.out.trans (b2.mono b1.out.size));clear b2 h1 h2;obtain⟨q,hq,hq0⟩:∃ q,cmpi (num xs) (num ys)=q∧0≤q:=⟨_,rfl,by unfold cmpi;have:=hge.out;split;omega;split<;>omega⟩
 replace hq:=Lib.hid hq;have hq1:decide (q<0)=false:=by simp;omega
 go_wp2_with fail
 refine (rcmp_b _ _ _ _ _ _ _ _ _ R1.out R2.out (by omega) (by omega) q hq.out).mono ?_
 rintro e w3 ⟨rfl,b3⟩;replace R1:=Lib.hid (R1.out.below b3);replace R2:=Lib.hid (R2.out.below b3);replace b1:=Lib.hid (b1.out.trans (b3.mono b1.out.size));clear b3;go_wp2
 go_loopw [6,7,8] (fun ov cv iv wr=>∃ (k br:Nat) (zs:List Nat),k≤n1∧iv=.int .i64 k∧cv=.int .u64 br∧br≤1∧zs.length=k∧Gr wr w3.heap.size ov zs∧Below w3.heap.size w3 wr ∧
   val zs+val ((limbs (num ys)).take k)=val ((limbs (num xs)).take k)+4294967296^k*br)
  (fun _ _ iv _=>n1-(intOf iv).toNat)
 case atStart=>exact⟨0,0,[],Nat.zero_le _,rfl,rfl,by omega,rfl,Gr.nil_ _ _,Below.refl _ _,by simp[val]⟩
 case round=>
  obtain⟨k,br,zs,hk,rfl,rfl,hbr,hl,hG,hB,hv⟩:=hrel;replace hl:=Lib.hid hl;replace hG:=Lib.hid hG;replace hB:=Lib.hid hB;replace hv:=Lib.hid hv
  by_cases hlt:k<n1
  ·obtain⟨x1,hx1⟩:∃ x1,(limbs (num xs)).getD k 0=x1:=⟨_,rfl⟩
   obtain⟨y1,hy1⟩:∃ y1,(limbs (num ys)).getD k 0=y1:=⟨_,rfl⟩;have hx1b:x1<4294967296:=by rw[←hx1];exact sm_get (sm_limbs _) k
   have hy1b:y1<4294967296:=by rw[←hy1];exact sm_get (sm_limbs _) k
   replace hx1:=Lib.hid hx1;replace hy1:=Lib.hid hy1;obtain⟨t,ht⟩:∃ t,t+y1+br=x1+4294967296:=⟨x1+4294967296-y1-br,by omega⟩
   have htb:t≤8589934591:=by omega
   have hst:=rsub_step (zs:=zs) (d:=t%4294967296) hl.out hv.out hx1.out hy1.out ht rfl hbr hx1b;have hti:(x1:Int)+4294967296-y1-br=(t:Int):=by omega
   have hbd:t / 4294967296≤1:=by omega
   replace hst:=Lib.hid hst;clear ht
   go_wp2_with fail
   refine (limb_any _ _ _ _ _ _ k x1 (R1.out.below hB.out) (by omega) rfl hx1.out).mono ?_
   rintro e w' ⟨rfl,rfl⟩
   go_wp2_with fail
   refine (limb_any _ _ _ _ _ _ k y1 (R2.out.below hB.out) (by omega) rfl hy1.out).mono ?_
   rintro e w' ⟨rfl,rfl⟩
   go_wp2_with (at_builtin;refine wpList_append_u32 _ rfl (.tmp 34) (.tmp 37) rfl w3.heap.size _ zs rfl (hG.out.alloc _) ⟨wr.heap.size,0,none⟩ 1 1 [t%4294967296] rfl (lit1 _ _ _ _ rfl ?c0 ?c3) ?c1 ?c2 ?_)
   case c0=>omega
   case c3=>omega
   case c1=>rw[hl.out];omega
   case c2=>have:=hB.out.size;simp;omega
   intro v' w' hG' hg;have hB':=Lib.hid (Below.grown (hB.out.alloc hB.out.size _) hg (by have:=hB.out.size;simp;omega) (own_ge hG.out))
   replace hG':=Lib.hid hG';clear hg;go_wp2
   go_roundw
   case rel=>exact⟨k+1,1-t / 4294967296,_,by omega,by go_num,by go_num,by omega,by rw[List.length_append,hl.out];rfl,hG'.out,hB'.out,hst.out⟩
   case measure=>simp[intOf];omega
  ·obtain rfl:k=n1:=by omega
   have hzs:Sm zs:=hG.out.sm;have hfin:=Lib.hid (sub_last hl.out hzs (by rw[List.take_of_length_le (by rw[hl.out];omega)];exact hv.out) R1.out.len hge.out)
   obtain⟨A3,c3,hv3,R3,_⟩:=hG.out.form;subst hv3;replace R3:=Lib.hid R3;clear hzs
   go_wp2_with fail
   refine (rtrim_any _ _ _ zs _ R3.out (by rw[hl.out];omega)).mono ?_
   rintro e w' ⟨n',rfl,rfl,R⟩;rw[hfin.out] at R;replace R:=Lib.hid R;have hB':=Lib.hid (b1.out.trans (hB.out.mono b1.out.size));go_wp2
   go_ret2
   exact⟨_,_,_,rfl,R.out,hB'.out⟩
end Go.Proofs.YthlinhconnmbcaaGreat
