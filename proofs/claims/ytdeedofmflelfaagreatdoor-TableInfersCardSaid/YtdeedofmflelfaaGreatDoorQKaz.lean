/- The reference's cut, digits, zeros. The reference's decimal. The reference's scaled; its Parse of a text without a sign. -/
import Derived.Test.YtdeedofmflelfaaGreatDoorQScz
import Derived.Lib.CleanWalkFns
import Derived.Test.YtdeedofmflelfaaGreatDoorQTmz
import Derived.Test.YtdeedofmflelfaaGreatDoorQRlz
namespace Go.Proofs.YtdeedofmflelfaaGreatDoor
open Go.RowKit RQ
def befP (p:UInt8→Bool) (l:List UInt8):List UInt8:=l.takeWhile (fun c=>!p c)
def aftP (p:UInt8→Bool) (l:List UInt8):List UInt8:=(l.dropWhile (fun c=>!p c)).drop 1
theorem cut_hit {p:UInt8→Bool}:∀ {l:List UInt8} {i:Nat} (hi:i<l.length),p l[i]=true→(∀ j (hj:j<i),p (l[j]'(by omega))=false)→l.any p=true∧befP p l=l.take i∧aftP p l=l.drop (i+1)
 | [],_,hi,_,_=>by simp at hi
 | c::l,0,_,h,_=>by
  have h:p c=true:=h
  simp[befP,aftP,h]
 | c::l,i+1,hi,h,hn=>by
  have hc:p c=false:=hn 0 (by omega)
  have hi':i<l.length:=by simpa using hi
  obtain⟨a,b,d⟩:=cut_hit (p:=p) (l:=l) (i:=i) hi' h (fun j hj=>hn (j+1) (by omega))
  refine⟨by simp[a],?_,?_⟩
  ·unfold befP at b ⊢
   rw[List.takeWhile_cons_of_pos (by simp[hc]),b];rfl
  ·unfold aftP at d ⊢
   rw[List.dropWhile_cons_of_pos (by simp[hc]),d];rfl
theorem cut_none {p:UInt8→Bool} {l:List UInt8} (h:∀ j (hj:j<l.length),p l[j]=false):l.any p=false:=by
 rw[List.any_eq_false]
 intro x hx
 obtain⟨j,hj,rfl⟩:=List.getElem_of_mem hx
 simp[h j hj]
def isIn (B:ByteArray) (c:UInt8):Bool:=B.data.toList.contains c
def cutA (B s:ByteArray):ByteArray:=if s.data.toList.any (isIn B)=true then bs (befP (isIn B) s.data.toList) else s
def cutB (B s:ByteArray):ByteArray:=if s.data.toList.any (isIn B)=true then bs (aftP (isIn B) s.data.toList) else ⟨#[]⟩
def cutI (B s:ByteArray):Int:=if s.data.toList.any (isIn B)=true then ((befP (isIn B) s.data.toList).length:Int) else -1
theorem cut_yes_i {B s:ByteArray} {i k:Nat} (hi:i<s.size) (hk:k<B.size) (h:s[i]=B[k]) (hn:∀ j (hj:j<i),isIn B (s[j]'(by omega))=false) :
  cutA B s=s.extract 0 i∧cutB B s=s.extract (i+1) s.size∧cutI B s=(i:Int):=by
 have hl:i<s.data.toList.length:=by rw[toList_len];exact hi
 have hin:isIn B (s.data.toList[i])=true:=by
  show isIn B s[i]=true
  rw[h];unfold isIn
  rw[List.contains_iff_mem]
  exact List.getElem_mem (l:=B.data.toList) (n:=k) (by rw[toList_len];exact hk)
 obtain⟨a,b,c⟩:=cut_hit (p:=isIn B) hl hin hn
 unfold cutA cutB cutI
 rw[if_pos a,if_pos a,if_pos a,b,c]
 have e:s=bs s.data.toList:=(bs_of s).symm
 have hle:i≤s.data.toList.length:=by omega
 refine⟨?_,?_,?_⟩
 ·have:=ex_take s.data.toList i hle
  rw[bs_of] at this;exact this.symm
 ·have:=ex_drop s.data.toList (i+1) (by omega)
  rw[bs_of] at this;exact this.symm
 ·rw[List.length_take];omega
theorem cut_no_i {B s:ByteArray} (hn:∀ j (hj:j<s.size),isIn B (s[j])=false):cutA B s=s∧cutB B s=⟨#[]⟩∧cutI B s = -1:=by
 have h:s.data.toList.any (isIn B)=false:=cut_none fun j hj=>hn j (by rw[toList_len] at hj;exact hj)
 unfold cutA cutB cutI
 rw[h];exact⟨rfl,rfl,rfl⟩
theorem isIn_no {B:ByteArray} {c:UInt8} (h:∀ k (hk:k<B.size),B[k]≠c):isIn B c=false:=by
 unfold isIn
 rw[Bool.eq_false_iff]
 intro hm
 obtain⟨k,hk,e⟩:=List.getElem_of_mem (List.contains_iff_mem.1 hm)
 exact h k (by rw[toList_len] at hk;exact hk) e
set_option maxRecDepth 100000 in
set_option maxHeartbeats 1000000 in
theorem rcut_any (s B:ByteArray) (w:World) (hs:s.size≤1000000) (hB:B.size≤10) :
  Calls Tryz.prog 134 #[.string s,.string B] w fun e w'=>e=.returned (.tuple #[.string (cutA B s),.string (cutB B s),.int .i64 (cutI B s)])∧Below w.heap.size w w':=by
 have hs1:(s.size:Int)≤1000000:=by omega
 have hB1:(B.size:Int)≤10:=by omega
 have hB0:=Lib.hid (Below.refl w.heap.size w)
 go_enter Tryz.func134,Tryz.ntmps134
 go_wp2
 go_loopw [7,8] (fun iv _ wr=>∃ i:Nat,i≤s.size∧iv=.int .i64 (i:Int)∧(∀ j (hj:j<s.size),j<i→isIn B (s[j])=false)∧Below w.heap.size w wr) (fun iv _ _=>s.size-(intOf iv).toNat)
 case atStart=>exact⟨0,Nat.zero_le _,rfl,fun j _ h=>absurd h (Nat.not_lt_zero _),hB0.out⟩
 case round=>
  obtain⟨i,hi,rfl,hno,hb⟩:=hrel
  replace hno:=Lib.hid hno
  replace hb:=Lib.hid hb
  by_cases hlt:i<s.size
  ·go_wp2
   rename World=>W0
   go_loopw [8] (fun kv wr=>∃ k:Nat,k≤B.size∧kv=.int .i64 (k:Int)∧Hid (∀ j (hj:j<B.size),j<k→B[j]≠s[i])∧Hid (Below w.heap.size w wr)) (fun kv _=>B.size-(intOf kv).toNat)
   case atStart=>exact⟨0,Nat.zero_le _,rfl,Lib.hid fun j _ h=>absurd h (Nat.not_lt_zero _),hb⟩
   case round=>
    obtain⟨k,hk,rfl,hnk,hb2⟩:=hrel
    clear hb
    by_cases hkl:k<B.size
    ·by_cases he:s[i]=B[k]
     ·have hcy:=Lib.hid (cut_yes_i hlt hkl he (fun j hj=>hno.out j (by omega) hj))
      have heq:(((s[i]).toNat:Int)==((B[k]).toNat:Int))=true:=by rw[he];simp
      have hn1c:((i:Int)+1)≤(s.size:Int):=by omega
      have hn0:(0:Int)≤(i:Int)+1:=by omega
      have hnt:((i:Int)+1).toNat=i+1:=by omega
      have hnw:IntKind.i64.wrap ((i:Int)+1)=(i:Int)+1:=IntWalk.i64_in _ (by omega)
      clear he
      go_wp2
      go_quiet (fail)
      have hb3:=Lib.hid (hb2.out.trans (below_drewN (Below.refl _ _) nq) )
      go_wp2
      go_quiet (fail)
      go_wp2
      refine bodyPost_ret (v:=.tuple #[.string (s.extract 0 i),.string (s.extract (i+1) s.size),.int .i64 (i:Int)]) (by simp[results,Tryz.results134,go_sem]) rfl ?_
      exact⟨by rw[hcy.out.1,hcy.out.2.1,hcy.out.2.2],(by first | exact below_drewN hb2.out _ | (rw[World.drewN_drewN];exact below_drewN hb2.out _))⟩
     ·have hne:(((s[i]).toNat:Int)==((B[k]).toNat:Int))=false:=by
       rw[beq_eq_false_iff_ne]
       intro h
       exact he (UInt8.toNat_inj.1 (by omega))
      have hnk2:Hid (∀ j (hj:j<B.size),j<k+1→B[j]≠s[i]):=Lib.hid fun j hj hjk=>by
       rcases Nat.lt_or_ge j k with h | h
       ·exact hnk.out j hj h
       ·obtain rfl:j=k:=by omega
        exact fun h=>he h.symm
      clear he
      go_wp2
      go_quiet (fail)
      go_wp2
      go_roundw
      case rel=>exact⟨k+1,by omega,by go_num,hnk2,Lib.hid (below_drewN hb2.out _)⟩
      case measure=>simp[intOf];omega
    ·obtain rfl:k=B.size:=by omega
     have hno2:Hid (∀ j (hj:j<s.size),j<i+1→isIn B (s[j])=false):=Lib.hid fun j hj hjk=>by
      rcases Nat.lt_or_ge j i with h | h
      ·exact hno.out j hj h
      ·obtain rfl:j=i:=by omega
       exact isIn_no fun k hk=>hnk.out k hk hk
     go_wp2
     go_roundw
     case rel=>exact⟨i+1,by omega,by go_num,hno2.out,hb2.out⟩
     case measure=>simp[intOf];omega
  ·obtain rfl:i=s.size:=by omega
   have hcn:=Lib.hid (cut_no_i (fun j hj=>hno.out j hj hj))
   go_wp2
   refine bodyPost_ret (v:=.tuple #[.string s,.string ⟨#[]⟩,.int .i64 (-1)]) (by simp[results,Tryz.results134,go_sem]) rfl ?_
   exact⟨by rw[hcn.out.1,hcn.out.2.1,hcn.out.2.2],hb.out⟩
set_option maxHeartbeats 1000000 in
theorem rdigits_any (s:ByteArray) (w:World) (hs:s.size≤1000000) :
  Calls Tryz.prog 168 #[.string s] w fun e w'=>e=.returned (.bool (digs s.data.toList))∧w=w':=by
 have hm:s.data.toList.length=s.size:=toList_len s
 have hs1:(s.size:Int)≤1000000:=by omega
 go_enter Tryz.func168,Tryz.ntmps168
 go_wp2
 go_loop [3] (fun i=>∃ k:Nat,k≤s.size∧i=.int .i64 (k:Int)∧allDig (s.data.toList.take k)=true) (fun i=>s.size-(intOf i).toNat)
 case atStart=>exact⟨0,Nat.zero_le _,rfl,rfl⟩
 case round=>
  obtain⟨k,hk,rfl,ha⟩:=hrel
  by_cases hlt:k<s.size
  ·have hl:k<s.data.toList.length:=by omega
   have hg:s.data.toList[k]=s[k]:=rfl
   by_cases h1:(s[k]).toNat<48
   ·have hb:allDig s.data.toList=false:=all_bad hl (by rw[hg];unfold isDig;simp;omega)
    have hb2:Hid (digs s.data.toList=false):=Lib.hid (by unfold digs;rw[hb];rfl)
    clear hb ha hg
    go_wp2
    go_ret
    exact⟨congrArg (fun b=>Ending.returned (.bool b)) hb2.out.symm,rfl⟩
   ·by_cases h2:57<(s[k]).toNat
    ·have hb:allDig s.data.toList=false:=all_bad hl (by rw[hg];unfold isDig;simp;omega)
     have hb2:Hid (digs s.data.toList=false):=Lib.hid (by unfold digs;rw[hb];rfl)
     clear hb ha hg
     go_wp2
     go_ret
     exact⟨congrArg (fun b=>Ending.returned (.bool b)) hb2.out.symm,rfl⟩
    ·have ha2:=Lib.hid (all_take hl ha (by rw[hg];unfold isDig;simp;omega))
     clear ha hg
     go_wp2
     go_round
     case rel=>exact⟨k+1,by omega,by go_num,ha2.out⟩
     case measure=>simp[intOf];omega
  ·have hk2:k=s.size:=by omega
   have hb2:Hid (digs s.data.toList=decide (0<s.size)):=Lib.hid (by
    rw[hk2,←hm,List.take_length] at ha
    unfold digs;rw[ha,Bool.true_and]
    cases hq:s.data.toList
    ·rw[hq] at hm;simp at hm;simp[←hm]
    ·rw[hq] at hm;simp at hm;simp;omega)
   clear ha
   go_wp2
   go_ret
   refine⟨?_,rfl⟩
   rw[hb2.out]
   try rfl
   try (congr 2;simp)
/-- What is left of the digits without zeros in front, but for the last one. -/
def zr:List UInt8→List UInt8
 | []=>[]
 | [c]=>[c]
 | c::d::l=>if c=48 then zr (d::l) else c::d::l
theorem zr_step {l:List UInt8} (h1:1<l.length) (h:l[0]'(by omega)=48):zr l=zr (l.drop 1):=by
 match l,h1,h with
 | c::d::r,_,h=>
  have h:c=48:=h
  subst h;rfl
theorem zr_stop {l:List UInt8} (h:¬ 1<l.length∨∀ (h0:0<l.length),l[0]≠48):zr l=l:=by
 match l,h with
 | [],_=>rfl
 | [_],_=>rfl
 | c::d::r,h=>
  rcases h with h | h
  ·simp at h
  ·have:c≠48:=h (by simp)
   simp[zr,this]
theorem zr_val:∀ (l:List UInt8),dval (zr l)=dval l∧(allDig l=true→allDig (zr l)=true)∧(l≠[]→zr l≠[])∧(1<(zr l).length→∀ (h0:0<(zr l).length),(zr l)[0]≠48)∧(zr l).length≤l.length
 | []=>⟨rfl,fun h=>h,fun h=>h,by simp[zr],by simp[zr]⟩
 | [c]=>⟨rfl,fun h=>h,fun h=>h,by simp[zr],by simp[zr]⟩
 | c::d::l=>by
  by_cases h:c=48
  ·subst h
   obtain⟨a,b,e,f,g⟩:=zr_val (d::l)
   have hz:zr (48::d::l)=zr (d::l):=by simp[zr]
   rw[hz]
   refine⟨by rw[a,dval_zero],fun ha=>b ?_,fun _=>e (by simp),f,?_⟩
   ·unfold allDig at ha ⊢;rw[List.all_cons,Bool.and_eq_true] at ha;exact ha.2
   ·simp at g ⊢;omega
  ·have hz:zr (c::d::l)=c::d::l:=by simp[zr,h]
   rw[hz]
   exact⟨rfl,fun h=>h,fun h=>h,fun _ _=>h,Nat.le_refl _⟩
set_option maxHeartbeats 1000000 in
theorem rzeros_any (s:ByteArray) (w:World) (hs:s.size≤1000000) :
  Calls Tryz.prog 169 #[.string s] w fun e w'=>e=.returned (.string (bs (zr s.data.toList)))∧w=w':=by
 have hm:=Lib.hid (bs_of s)
 have hs0:=Lib.hid (toList_len s)
 generalize s.data.toList=L at *
 go_enter Tryz.func169,Tryz.ntmps169
 go_wp2
 go_loop [0] (fun v=>∃ l:List UInt8,l.length≤s.size∧v=.string (bs l)∧zr l=zr L) (fun v=>match v with | .string b=>b.size | _=>0)
 case atStart=>exact⟨L,by rw[hs0.out];exact Nat.le_refl _,by rw[hm.out],rfl⟩
 case round=>
  obtain⟨l,hl,rfl,hz⟩:=hrel
  replace hz:=Lib.hid hz
  have hsz:=bs_size l
  by_cases h1:1<l.length
  ·obtain⟨T,hT⟩:∃ T,T=bs l:=⟨_,rfl⟩
   have h0:0<T.size:=by rw[hT,hsz];omega
   have e0:T[0]=l[0]'(by omega):=by subst hT;rfl
   have hg1:(1:Int)<(T.size:Int):=by rw[hT,hsz];omega
   have hex:T.extract 1 T.size=bs (l.drop 1):=by rw[hT];exact ex_drop l 1 (by omega)
   rw[←hT]
   have hTs:T.size≤1000000:=by rw[hT,hsz];omega
   have hTl:Hid (T.size=l.length):=Lib.hid (by rw[hT,hsz])
   have hTT:=Lib.hid hT
   clear hT
   by_cases h48:l[0]'(by omega)=48
   ·have heq:(((T[0]).toNat:Int)==48)=true:=by rw[e0,h48];rfl
    have hz2:=Lib.hid ((zr_step h1 h48).symm.trans hz.out)
    clear h48 e0
    go_wp2
    go_round
    case rel=>exact⟨l.drop 1,by rw[List.length_drop];omega,by rw[List.drop_one],hz2.out⟩
    case measure=>
     have:=hTl.out
     show (bs l.tail).size<T.size
     rw[bs_size,List.length_tail];omega
   ·have heq:(((T[0]).toNat:Int)==48)=false:=by
     rw[e0,beq_eq_false_iff_ne]
     intro h
     exact h48 (UInt8.toNat_inj.1 (by have:(48:UInt8).toNat=48:=rfl;omega))
    have hz2:=zr_stop (l:=l) (.inr fun _=>h48)
    have hfin:Hid (T=bs (zr L)):=Lib.hid (by rw[←hz.out,hz2,hTT.out])
    clear h48 e0
    go_wp2
    go_ret
    exact⟨congrArg (fun x=>Ending.returned (.string x)) hfin.out,rfl⟩
  ·have hg1:¬ (1:Int)<((bs l).size:Int):=by rw[hsz];omega
   have hz2:=zr_stop (l:=l) (.inl h1)
   have hfin:Hid (bs l=bs (zr L)):=Lib.hid (by rw[←hz.out,hz2])
   clear hsz
   go_wp2
   go_ret
   exact⟨congrArg (fun x=>Ending.returned (.string x)) hfin.out,rfl⟩
end Go.Proofs.YtdeedofmflelfaaGreatDoor

namespace Go.Proofs.YtdeedofmflelfaaGreatDoor
open Go.RowKit RQ
set_option linter.unusedVariables false
theorem isIn_one (c x:UInt8):isIn ⟨#[c]⟩ x=(x==c):=by
 unfold isIn
 show List.contains [c] x=_
 rw[List.contains_cons,List.contains_nil,Bool.or_false]
theorem bef_P (c:UInt8) (l:List UInt8):befP (isIn ⟨#[c]⟩) l=bef c l:=by
 unfold befP bef
 congr 1;funext x;rw[isIn_one];rfl
theorem aft_P (c:UInt8) (l:List UInt8):aftP (isIn ⟨#[c]⟩) l=aft c l:=by
 unfold aftP aft
 congr 2;funext x;rw[isIn_one];rfl
theorem any_P (c:UInt8) (l:List UInt8):l.any (isIn ⟨#[c]⟩)=hasB c l:=by
 unfold hasB
 induction l with
 | nil=>rfl
 | cons x l ih=>
  rw[List.any_cons,List.contains_cons,ih,isIn_one]
  congr 1
  rw[Bool.eq_iff_iff,beq_iff_eq,beq_iff_eq];exact eq_comm
theorem cutA_46 (s:ByteArray):cutA ⟨#[46]⟩ s=pdB s∧cutB ⟨#[46]⟩ s=pdA s∧cutI ⟨#[46]⟩ s=if hasB 46 s.data.toList=true then ((bef 46 s.data.toList).length:Int) else -1:=by
 unfold cutA cutB cutI pdB pdA
 rw[bef_P,aft_P,any_P]
 cases h:hasB 46 s.data.toList
 ·refine⟨?_,rfl,rfl⟩
  rw[if_neg (by simp),(index_no h).2,bs_of]
 ·exact⟨rfl,rfl,rfl⟩
theorem cutA_47 (s:ByteArray):cutA ⟨#[47]⟩ s=(if hasB 47 s.data.toList=true then bs (bef 47 s.data.toList) else s)∧cutB ⟨#[47]⟩ s=(if hasB 47 s.data.toList=true then bs (aft 47 s.data.toList) else ⟨#[]⟩)∧cutI ⟨#[47]⟩ s=if hasB 47 s.data.toList=true then ((bef 47 s.data.toList).length:Int) else -1:=by
 unfold cutA cutB cutI
 rw[bef_P,aft_P,any_P];exact⟨rfl,rfl,rfl⟩
theorem cutA_E (s:ByteArray):cutA ⟨#[101,69]⟩ s=pM s∧cutB ⟨#[101,69]⟩ s=(if hasE s.data.toList=true then pX s else ⟨#[]⟩)∧cutI ⟨#[101,69]⟩ s=if hasE s.data.toList=true then ((befE s.data.toList).length:Int) else -1:=⟨rfl,rfl,rfl⟩
/-- The number that the reference's decimal reads. -/
def dcq (s:ByteArray):Rat:=if pdok s=true then Rat.divInt (pdval s:Int) ((10^pdpl s:Nat):Int) else 0
theorem p10p (k:Nat):(0:Int)<((10^k:Nat):Int):=by have:=Nat.pow_pos (n:=k) (show 0<10 by decide);omega
theorem pow10_l32 {k:Nat} (h:k≤300):(limbs (10^k)).length≤32:=limbs_len_le.2 (Nat.lt_of_le_of_lt (Nat.pow_le_pow_right (by decide) h) (by decide +kernel))
theorem rparse_n (s:ByteArray) (w:World):Calls Tryz.prog 135 #[.string s] w fun e w'=>∃ A n c,e=.returned (.tuple #[.slice A n c,.bool (isDec s)])∧Rd w' A n c (limbs (ndec s))∧Below w.heap.size w w':=by
 refine (rparse_p s w).mono fun e w' h=>?_
 obtain⟨A,n,c,he,R,B,_⟩:=h
 refine⟨A,n,c,he,?_,B⟩
 have:plist s=limbs (ndec s):=by
  unfold plist ndec
  split
  ·rfl
  ·rw[limbs_zero]
 rwa [this] at R
theorem zr_dec {L:List UInt8} (h:allDig L=true) (h0:L≠[]) (hl:L.length≤4000):isDec (bs (zr L))=true∧ndec (bs (zr L))=dval L:=by
 obtain⟨a,b,c,d,e⟩:=zr_val L
 have hp:0<(zr L).length:=List.length_pos_iff.2 (c h0)
 have hd:isDec (bs (zr L))=true:=by
  rw[isDec_digs (by rw[bs_size];exact hp) (by rw[bs_size];omega) ?_,bs_list]
  ·exact b h
  ·rintro ⟨h1,h2⟩
   rw[bs_size] at h1
   have:=d h1 hp
   apply this
   have e2:(bs (zr L)).get! 0=(zr L)[0]:=by
    match zr L,hp with
    | x::r,_=>rfl
   rw[e2] at h2
   exact UInt8.toNat_inj.1 h2
 refine⟨hd,?_⟩
 unfold ndec;rw[hd,if_pos rfl];exact a
theorem rover_uu (N T:Nat) (W:World) (A:Option Addr) (n c:Nat) (A':Option Addr) (n' c':Nat) (q1:Rd W A n c (limbs N)) (q2:Rd W A' n' c' (limbs T)) (h1:(limbs N).length≤400) (h2:(limbs T).length≤400) (hv:0<T) :
  Calls Tryz.prog 69 #[.agg #[.bool false,.slice A n c],.agg #[.bool false,.slice A' n' c']] W (RetR (Rat.divInt (N:Int) (T:Int)) W):=by
 have:=rover_any (N:Int) (T:Int) A n c A' n' c' W (by rwa [Int.natAbs_natCast]) (by rwa [Int.natAbs_natCast]) (by rw[←q1.len];exact h1) (by rw[←q2.len];exact h2) (by omega)
 rwa [ngN,ngN] at this
theorem res_rdecimal (W:World) (tmps:Array Value) (g t:Nat) {v0 v1 v2 e0:Value} (ht:tmps.getD 2 undef=.pointer (some ⟨g,0,none⟩)) (h0:tmps.getD 3 undef=e0) (h:Cb W g #[v0,v1,v2] t) :
  (results Tryz.f136 tmps).run Tryz.prog W=.ok (.tuple #[.agg #[v0,v1,v2],e0]) W:=by
 have c0:W.cell? ⟨g,0,none⟩=some v0:=h.cell rfl
 have c1:W.cell? ⟨g,1,none⟩=some v1:=h.cell rfl
 have c2:W.cell? ⟨g,2,none⟩=some v2:=h.cell rfl
 have ht':tmps[2]?.getD undef=.pointer (some ⟨g,0,none⟩):=by rw[←ht];simp[Array.getD_eq_getD_getElem?]
 have k0:tmps[3]?.getD undef=e0:=by rw[←h0];simp[Array.getD_eq_getD_getElem?]
 simp[results,Tryz.results136,go_sem,ht',k0,c0,c1,c2]
set_option maxRecDepth 100000 in
set_option maxHeartbeats 8000000 in
theorem rdecimal_any (s:ByteArray) (w:World) (hs:s.size≤300):Calls Tryz.prog 136 #[.string s] w (RetRE (dcq s) (.bool (pdok s)) w):=by
 have hC:=fun W=>rcut_any s ⟨#[46]⟩ W (by omega) (by decide)
 obtain⟨e1,e2,e3⟩:=cutA_46 s
 rw[e1,e2,e3] at hC
 have hsz:=pd_size s
 have hpl:pdok s=true→pdpl s=(pdA s).size:=fun h=>by unfold pdpl;rw[h,if_pos rfl]
 have hvl:pdok s=true→pdval s=dval ((pdB s).data.toList++(pdA s).data.toList):=fun h=>by unfold pdval;rw[h,if_pos rfl]
 have hal:=@pd_all s
 have hvn:=pdval_len s
 have hok:pdok s=(isDec (pdB s)&&(!(hasB 46 s.data.toList)||digs (pdA s).data.toList)):=rfl
 have hN:=fun W=>rparse_n (pdB s) W
 have hD:=fun W=>rdigits_any (pdA s) W (by omega)
 have hB0:isDec (pdB s)=true→(pdB s).data.toList≠[]:=fun h e=>by
  have:(pdB s)=⟨#[]⟩:=by rw[←bs_of (pdB s),e];rfl
  rw[this] at h;exact absurd h (by decide)
 have hdn:pdok s=false→dcq s=0:=fun h=>by unfold dcq;rw[h];rfl
 have hdy:pdok s=true→dcq s=Rat.divInt (pdval s:Int) ((10^pdpl s:Nat):Int):=fun h=>by unfold dcq;rw[h,if_pos rfl]
 generalize hasB 46 s.data.toList=hb at *
 obtain⟨z,hz⟩:∃ z:Int,z=if hb=true then ((bef 46 s.data.toList).length:Int) else -1:=⟨_,rfl⟩
 rw[←hz] at hC
 have hz1:hb=true→(0:Int)≤z:=fun h=>by rw[hz,if_pos h];omega
 have hz2:hb=false→z = -1:=fun h=>by rw[hz,h];rfl
 clear hz e1 e2 e3
 generalize pdB s=X at *
 generalize pdA s=Y at *
 generalize dcq s=q at *
 have hxy:(X.size:Int)+(Y.size:Int)≤300:=by omega
 have hyb:(Y.size:Int)≤300:=by omega
 have hx0:(0:Int)≤X.size:=by omega
 have hlen:¬ 9223372036854775807<X.size+Y.size:=by omega
 have hw:IntKind.i64.wrap ((X.size:Int)+(Y.size:Int))=(X.size:Int)+(Y.size:Int):=IntWalk.i64_in _ (by omega)
 have h4:¬ (4000:Int)<(X.size:Int)+(Y.size:Int):=by omega
 have h4':decide ((4000:Int)<(X.size:Int)+(Y.size:Int))=false:=decide_eq_false h4
 replace hC:=Lib.hid hC
 replace hN:=Lib.hid hN
 have S:=((St.new w).allocAt (w.heap.size) #[.bool false,.slice none 0 0,.slice none 0 0] 46 (noL3 _ _ _ _ _ _ _) (by simp))
 replace S:=Lib.hid S
 cases hd:isDec X
 ·have hf:pdok s=false:=by rw[hok,hd];rfl
  rw[hf,hdn hf]
  rw[hd] at hN
  clear hd hok hdn hdy hpl hvl hal hB0 hz1 hz2 hsz hs
  go_enter Tryz.func136,Tryz.ntmps136
  go_wp2_with fail
  refine (hC.out _).mono ?_
  rintro e w1 ⟨rfl,bb⟩
  have T:=(S.out.call bb)
  clear bb S
  have S:=T
  clear T
  obtain⟨c_r0,c_r1,c_r2,f_r0,f_r1,f_r2⟩:=S.cf3 0 rfl
  have hz:w.heap.size<w1.heap.size:=S.lt 0 rfl
  replace S:=Lib.hid S
  go_wp2_with fail
  refine (hN.out _).mono ?_
  rintro e w2 ⟨A1,n1,c1,rfl,Q,bb⟩
  have T:=((S.out.call bb).read Q)
  clear bb S c_r0 f_r0 c_r1 f_r1 c_r2 f_r2 hz
  have S:=T
  clear T
  obtain⟨c_r0,c_r1,c_r2,f_r0,f_r1,f_r2⟩:=S.cf3 0 rfl
  have hz:w.heap.size<w2.heap.size:=S.lt 0 rfl
  replace S:=Lib.hid S
  clear Q
  have S:St w _ [(w.heap.size,#[.bool false,.slice none 0 0,.slice none 0 0],46)] [(A1,n1,c1,limbs (ndec X))]:=(((S.out.set 0 0 (.bool false) rfl (by nofun)).set 0 1 (.slice none 0 0) rfl (by nofun)).set 0 2 (.slice none 0 0) rfl (by nofun))
  replace S:=Lib.hid S
  go_wp2
  refine bodyPost_ret (res_rdecimal _ _ (w.heap.size) 46 rfl rfl (S.out.bk _ (List.mem_of_getElem? (i:=0) rfl)).1) rfl ?_
  exact⟨none,0,0,none,0,0,rfl,zero_RR _ _ _ _ _,S.out.bel⟩
 ·rw[hd] at hN
  have hxn:=hB0 hd
  cases hbb:hb
  ·have hz0:=hz2 hbb
   subst hz0
   have hf:pdok s=true:=by rw[hok,hd,hbb];rfl
   have hL:=hal hf
   rw[hf,hdy hf,hvl hf,hpl hf]
   obtain⟨i1,i2⟩:=zr_dec hL (by simp[hxn]) (by rw[List.length_append,toList_len,toList_len];omega)
   have hZ:=Lib.hid (fun W=>rzeros_any (X++Y) W (by rw[ByteArray.size_append];omega))
   rw[app_list] at hZ
   have hP:=fun W=>rparse_n (bs (zr (X.data.toList++Y.data.toList))) W
   rw[i1,i2] at hP
   have hvn2:Hid ((limbs (dval (X.data.toList++Y.data.toList))).length≤300):=Lib.hid (by rw[←hvl hf];omega)
   generalize bs (zr (X.data.toList++Y.data.toList))=T at *
   generalize dval (X.data.toList++Y.data.toList)=V at *
   have hys:Hid (Y.size≤300):=Lib.hid (by omega)
   generalize hY:Y.size=m at *
   have hO:Hid (∀ W A n c A' n' c',Rd W A n c (limbs V)→Rd W A' n' c' (limbs (10^m))→Calls Tryz.prog 69 #[.agg #[.bool false,.slice A n c],.agg #[.bool false,.slice A' n' c']] W (RetR (Rat.divInt (V:Int) ((10^m:Nat):Int)) W)):=Lib.hid fun W A n c A' n' c' q1 q2=>rover_uu V (10^m) W A n c A' n' c' q1 q2 (by have:=hvn2.out;omega) (by have:=pow10_l32 hys.out;omega) (Nat.pow_pos (by decide))
   generalize Rat.divInt (V:Int) ((10^m:Nat):Int)=q' at *
   have hM:Hid (∀ W A n c A' (k:Nat),k<m→Rd W A n c (limbs (10^k))→Rd W A' 1 1 (limbs 10)→Calls Tryz.prog 114 #[.slice A n c,.slice A' 1 1] W (RetN (10^(k+1)) W)):=Lib.hid fun W A n c A' k hk q1 q2=>by
    have l1:n≤32:=by rw[←q1.len];exact pow10_l32 (by have:=hys.out;omega)
    have:=rmul_any A n c _ A' 1 1 _ W q1 q2 (by omega) (by omega)
    rwa [num_limbs,num_limbs,←Nat.pow_succ] at this
   have hLit1:Hid (∀ (W0:World),Rd (W0.alloc (.cells #[.int .u32 1] 119)) (some ⟨W0.heap.size,0,none⟩) 1 1 (limbs 1)):=Lib.hid fun W0=>lit_any (z:=1) (by decide) (by decide) W0 _
   have hLit10:Hid (∀ (W0:World),Rd (W0.alloc (.cells #[.int .u32 10] 119)) (some ⟨W0.heap.size,0,none⟩) 1 1 (limbs 10)):=Lib.hid fun W0=>lit_any (z:=10) (by decide) (by decide) W0 _
   replace hP:=Lib.hid hP
   replace hD:=Lib.hid hD
   clear hd hok hdn hdy hpl hvl hal hB0 hz1 hz2 hsz hs hbb hf hL i1 i2 hxn hvn
   go_enter Tryz.func136,Tryz.ntmps136
   go_wp2_with fail
   refine (hC.out _).mono ?_
   rintro e w1 ⟨rfl,bb⟩
   have T:=(S.out.call bb)
   clear bb S
   have S:=T
   clear T
   obtain⟨c_r0,c_r1,c_r2,f_r0,f_r1,f_r2⟩:=S.cf3 0 rfl
   have hz:w.heap.size<w1.heap.size:=S.lt 0 rfl
   replace S:=Lib.hid S
   go_wp2_with fail
   refine (hN.out _).mono ?_
   rintro e w2 ⟨A1,n1,c1,rfl,Q,bb⟩
   have T:=((S.out.call bb).read Q)
   clear bb S c_r0 f_r0 c_r1 f_r1 c_r2 f_r2 hz
   have S:=T
   clear T
   obtain⟨c_r0,c_r1,c_r2,f_r0,f_r1,f_r2⟩:=S.cf3 0 rfl
   have hz:w.heap.size<w2.heap.size:=S.lt 0 rfl
   replace S:=Lib.hid S
   clear Q
   go_wp2_with fail
   refine (hZ.out _).mono ?_
   rintro e _ ⟨rfl,rfl⟩
   go_wp2_with fail
   refine (hP.out _).mono ?_
   rintro e w3 ⟨A2,n2,c2,rfl,Q,bb⟩
   have T:=((S.out.call bb).read Q)
   clear bb S c_r0 f_r0 c_r1 f_r1 c_r2 f_r2 hz
   have S:=T
   clear T
   obtain⟨c_r0,c_r1,c_r2,f_r0,f_r1,f_r2⟩:=S.cf3 0 rfl
   have hz:w.heap.size<w3.heap.size:=S.lt 0 rfl
   replace S:=Lib.hid S
   clear Q hP hZ
   have O:=hLit1.out w3
   have B2:=(Below.refl w3.heap.size w3).alloc (Nat.le_refl _) (.cells #[.int .u32 1] 119)
   have S2:=Lib.hid ((S.out.call B2).read O)
   clear O B2 S c_r0 f_r0 c_r1 f_r1 c_r2 f_r2 hz
   go_wp2
   go_loopw [11,12] (fun tv iv wr=>∃ (A:Option Addr) (n c k:Nat),k≤m∧tv=.slice A n c∧iv=.int .i64 (k:Int)∧St w wr [(w.heap.size,#[.bool false,.slice none 0 0,.slice none 0 0],46)] [(A,n,c,limbs (10^k)),(A2,n2,c2,limbs V)]) (fun _ iv _=>m-(intOf iv).toNat)
   case atStart=>exact⟨_,_,_,0,Nat.zero_le _,rfl,rfl,S2.out.pick [0] [0,1] rfl (by decide) rfl⟩
   case round=>
    clear S2
    obtain⟨A,n,c,k,hk,rfl,rfl,S⟩:=hrel
    by_cases hlt:k<m
    ·have hltI:(k:Int)<(m:Int):=by omega
     have O:=hLit10.out wr
     have B2:=(Below.refl wr.heap.size wr).alloc (Nat.le_refl _) (.cells #[.int .u32 10] 119)
     have S2:=Lib.hid ((S.call B2).read O)
     clear O B2 S
     go_wp2_with fail
     refine (hM.out _ _ _ _ _ k hlt (S2.out.r 1 rfl) (S2.out.r 0 rfl)).mono ?_
     rintro e w9 ⟨A9,n9,c9,rfl,Q,bb⟩
     have S3:=Lib.hid ((S2.out.call bb).read Q)
     clear Q bb S2
     go_wp2
     go_roundw
     case rel=>exact⟨A9,n9,c9,k+1,by omega,rfl,by go_num,S3.out.pick [0] [0,3] rfl (by decide) rfl⟩
     case measure=>simp[intOf];omega
    ·obtain rfl:k=m:=by omega
     obtain⟨c_r0,c_r1,c_r2,f_r0,f_r1,f_r2⟩:=S.cf3 0 rfl
     have hz:w.heap.size<wr.heap.size:=S.lt 0 rfl
     replace S:=Lib.hid S
     go_wp2_with fail
     refine (hO.out _ _ _ _ _ _ _ (S.out.r 1 rfl) (S.out.r 0 rfl)).mono ?_
     rintro e w4 ⟨A3,n3,c3,D3,m3,d3,rfl,Q,bb⟩
     have T:=(((S.out.call bb).read Q.n).read Q.d)
     clear bb S c_r0 f_r0 c_r1 f_r1 c_r2 f_r2 hz
     have S:=T
     clear T
     obtain⟨c_r0,c_r1,c_r2,f_r0,f_r1,f_r2⟩:=S.cf3 0 rfl
     have hz:w.heap.size<w4.heap.size:=S.lt 0 rfl
     replace S:=Lib.hid S
     clear Q
     have S:St w _ [(w.heap.size,#[.bool (ng q'.num),.slice A3 n3 c3,.slice D3 m3 d3],46)] [(D3,m3,d3,dn q'),(A3,n3,c3,limbs q'.num.natAbs),(A,n,c,limbs (10^k)),(A2,n2,c2,limbs V)]:=(((S.out.set 0 0 (.bool (ng q'.num)) rfl (by nofun)).set 0 1 (.slice A3 n3 c3) rfl (by nofun)).set 0 2 (.slice D3 m3 d3) rfl (by nofun))
     replace S:=Lib.hid S
     go_wp2
     refine bodyPost_ret (res_rdecimal _ _ (w.heap.size) 46 rfl rfl (S.out.bk _ (List.mem_of_getElem? (i:=0) rfl)).1) rfl ?_
     exact⟨_,_,_,_,_,_,rfl,⟨S.out.r 1 rfl,S.out.r 0 rfl⟩,S.out.bel⟩
  ·have hz0:=hz1 hbb
   have hz0':decide ((0:Int)≤z)=true:=decide_eq_true hz0
   cases hdg:digs Y.data.toList
   ·have hf:pdok s=false:=by rw[hok,hd,hbb,hdg];rfl
    rw[hf,hdn hf]
    rw[hdg] at hD
    replace hD:=Lib.hid hD
    clear hd hok hdn hdy hpl hvl hal hB0 hz1 hz2 hsz hs hbb hf hxn hvn
    go_enter Tryz.func136,Tryz.ntmps136
    go_wp2_with fail
    refine (hC.out _).mono ?_
    rintro e w1 ⟨rfl,bb⟩
    have T:=(S.out.call bb)
    clear bb S
    have S:=T
    clear T
    obtain⟨c_r0,c_r1,c_r2,f_r0,f_r1,f_r2⟩:=S.cf3 0 rfl
    have hz:w.heap.size<w1.heap.size:=S.lt 0 rfl
    replace S:=Lib.hid S
    go_wp2_with fail
    refine (hN.out _).mono ?_
    rintro e w2 ⟨A1,n1,c1,rfl,Q,bb⟩
    have T:=((S.out.call bb).read Q)
    clear bb S c_r0 f_r0 c_r1 f_r1 c_r2 f_r2 hz
    have S:=T
    clear T
    obtain⟨c_r0,c_r1,c_r2,f_r0,f_r1,f_r2⟩:=S.cf3 0 rfl
    have hz:w.heap.size<w2.heap.size:=S.lt 0 rfl
    replace S:=Lib.hid S
    clear Q
    go_wp2_with fail
    refine (hD.out _).mono ?_
    rintro e _ ⟨rfl,rfl⟩
    have S:St w _ [(w.heap.size,#[.bool false,.slice none 0 0,.slice none 0 0],46)] [(A1,n1,c1,limbs (ndec X))]:=(((S.out.set 0 0 (.bool false) rfl (by nofun)).set 0 1 (.slice none 0 0) rfl (by nofun)).set 0 2 (.slice none 0 0) rfl (by nofun))
    replace S:=Lib.hid S
    go_wp2
    refine bodyPost_ret (res_rdecimal _ _ (w.heap.size) 46 rfl rfl (S.out.bk _ (List.mem_of_getElem? (i:=0) rfl)).1) rfl ?_
    exact⟨none,0,0,none,0,0,rfl,zero_RR _ _ _ _ _,S.out.bel⟩
   have hf:pdok s=true:=by rw[hok,hd,hbb,hdg];rfl
   rw[hdg] at hD
   clear hdg
   have hL:=hal hf
   rw[hf,hdy hf,hvl hf,hpl hf]
   obtain⟨i1,i2⟩:=zr_dec hL (by simp[hxn]) (by rw[List.length_append,toList_len,toList_len];omega)
   have hZ:=Lib.hid (fun W=>rzeros_any (X++Y) W (by rw[ByteArray.size_append];omega))
   rw[app_list] at hZ
   have hP:=fun W=>rparse_n (bs (zr (X.data.toList++Y.data.toList))) W
   rw[i1,i2] at hP
   have hvn2:Hid ((limbs (dval (X.data.toList++Y.data.toList))).length≤300):=Lib.hid (by rw[←hvl hf];omega)
   generalize bs (zr (X.data.toList++Y.data.toList))=T at *
   generalize dval (X.data.toList++Y.data.toList)=V at *
   have hys:Hid (Y.size≤300):=Lib.hid (by omega)
   generalize hY:Y.size=m at *
   have hO:Hid (∀ W A n c A' n' c',Rd W A n c (limbs V)→Rd W A' n' c' (limbs (10^m))→Calls Tryz.prog 69 #[.agg #[.bool false,.slice A n c],.agg #[.bool false,.slice A' n' c']] W (RetR (Rat.divInt (V:Int) ((10^m:Nat):Int)) W)):=Lib.hid fun W A n c A' n' c' q1 q2=>rover_uu V (10^m) W A n c A' n' c' q1 q2 (by have:=hvn2.out;omega) (by have:=pow10_l32 hys.out;omega) (Nat.pow_pos (by decide))
   generalize Rat.divInt (V:Int) ((10^m:Nat):Int)=q' at *
   have hM:Hid (∀ W A n c A' (k:Nat),k<m→Rd W A n c (limbs (10^k))→Rd W A' 1 1 (limbs 10)→Calls Tryz.prog 114 #[.slice A n c,.slice A' 1 1] W (RetN (10^(k+1)) W)):=Lib.hid fun W A n c A' k hk q1 q2=>by
    have l1:n≤32:=by rw[←q1.len];exact pow10_l32 (by have:=hys.out;omega)
    have:=rmul_any A n c _ A' 1 1 _ W q1 q2 (by omega) (by omega)
    rwa [num_limbs,num_limbs,←Nat.pow_succ] at this
   have hLit1:Hid (∀ (W0:World),Rd (W0.alloc (.cells #[.int .u32 1] 119)) (some ⟨W0.heap.size,0,none⟩) 1 1 (limbs 1)):=Lib.hid fun W0=>lit_any (z:=1) (by decide) (by decide) W0 _
   have hLit10:Hid (∀ (W0:World),Rd (W0.alloc (.cells #[.int .u32 10] 119)) (some ⟨W0.heap.size,0,none⟩) 1 1 (limbs 10)):=Lib.hid fun W0=>lit_any (z:=10) (by decide) (by decide) W0 _
   replace hP:=Lib.hid hP
   replace hD:=Lib.hid hD
   clear hd hok hdn hdy hpl hvl hal hB0 hz1 hz2 hsz hs hbb hf hL i1 i2 hxn hvn
   go_enter Tryz.func136,Tryz.ntmps136
   go_wp2_with fail
   refine (hC.out _).mono ?_
   rintro e w1 ⟨rfl,bb⟩
   have T:=(S.out.call bb)
   clear bb S
   have S:=T
   clear T
   obtain⟨c_r0,c_r1,c_r2,f_r0,f_r1,f_r2⟩:=S.cf3 0 rfl
   have hz:w.heap.size<w1.heap.size:=S.lt 0 rfl
   replace S:=Lib.hid S
   go_wp2_with fail
   refine (hN.out _).mono ?_
   rintro e w2 ⟨A1,n1,c1,rfl,Q,bb⟩
   have T:=((S.out.call bb).read Q)
   clear bb S c_r0 f_r0 c_r1 f_r1 c_r2 f_r2 hz
   have S:=T
   clear T
   obtain⟨c_r0,c_r1,c_r2,f_r0,f_r1,f_r2⟩:=S.cf3 0 rfl
   have hz:w.heap.size<w2.heap.size:=S.lt 0 rfl
   replace S:=Lib.hid S
   clear Q
   go_wp2_with fail
   refine (hD.out _).mono ?_
   rintro e _ ⟨rfl,rfl⟩
   go_wp2_with fail
   refine (hZ.out _).mono ?_
   rintro e _ ⟨rfl,rfl⟩
   go_wp2_with fail
   refine (hP.out _).mono ?_
   rintro e w3 ⟨A2,n2,c2,rfl,Q,bb⟩
   have T:=((S.out.call bb).read Q)
   clear bb S c_r0 f_r0 c_r1 f_r1 c_r2 f_r2 hz
   have S:=T
   clear T
   obtain⟨c_r0,c_r1,c_r2,f_r0,f_r1,f_r2⟩:=S.cf3 0 rfl
   have hz:w.heap.size<w3.heap.size:=S.lt 0 rfl
   replace S:=Lib.hid S
   clear Q hP hZ
   have O:=hLit1.out w3
   have B2:=(Below.refl w3.heap.size w3).alloc (Nat.le_refl _) (.cells #[.int .u32 1] 119)
   have S2:=Lib.hid ((S.out.call B2).read O)
   clear O B2 S c_r0 f_r0 c_r1 f_r1 c_r2 f_r2 hz
   go_wp2
   go_loopw [11,12] (fun tv iv wr=>∃ (A:Option Addr) (n c k:Nat),k≤m∧tv=.slice A n c∧iv=.int .i64 (k:Int)∧St w wr [(w.heap.size,#[.bool false,.slice none 0 0,.slice none 0 0],46)] [(A,n,c,limbs (10^k)),(A2,n2,c2,limbs V)]) (fun _ iv _=>m-(intOf iv).toNat)
   case atStart=>exact⟨_,_,_,0,Nat.zero_le _,rfl,rfl,S2.out.pick [0] [0,1] rfl (by decide) rfl⟩
   case round=>
    clear S2
    obtain⟨A,n,c,k,hk,rfl,rfl,S⟩:=hrel
    by_cases hlt:k<m
    ·have hltI:(k:Int)<(m:Int):=by omega
     have O:=hLit10.out wr
     have B2:=(Below.refl wr.heap.size wr).alloc (Nat.le_refl _) (.cells #[.int .u32 10] 119)
     have S2:=Lib.hid ((S.call B2).read O)
     clear O B2 S
     go_wp2_with fail
     refine (hM.out _ _ _ _ _ k hlt (S2.out.r 1 rfl) (S2.out.r 0 rfl)).mono ?_
     rintro e w9 ⟨A9,n9,c9,rfl,Q,bb⟩
     have S3:=Lib.hid ((S2.out.call bb).read Q)
     clear Q bb S2
     go_wp2
     go_roundw
     case rel=>exact⟨A9,n9,c9,k+1,by omega,rfl,by go_num,S3.out.pick [0] [0,3] rfl (by decide) rfl⟩
     case measure=>simp[intOf];omega
    ·obtain rfl:k=m:=by omega
     obtain⟨c_r0,c_r1,c_r2,f_r0,f_r1,f_r2⟩:=S.cf3 0 rfl
     have hz:w.heap.size<wr.heap.size:=S.lt 0 rfl
     replace S:=Lib.hid S
     go_wp2_with fail
     refine (hO.out _ _ _ _ _ _ _ (S.out.r 1 rfl) (S.out.r 0 rfl)).mono ?_
     rintro e w4 ⟨A3,n3,c3,D3,m3,d3,rfl,Q,bb⟩
     have T:=(((S.out.call bb).read Q.n).read Q.d)
     clear bb S c_r0 f_r0 c_r1 f_r1 c_r2 f_r2 hz
     have S:=T
     clear T
     obtain⟨c_r0,c_r1,c_r2,f_r0,f_r1,f_r2⟩:=S.cf3 0 rfl
     have hz:w.heap.size<w4.heap.size:=S.lt 0 rfl
     replace S:=Lib.hid S
     clear Q
     have S:St w _ [(w.heap.size,#[.bool (ng q'.num),.slice A3 n3 c3,.slice D3 m3 d3],46)] [(D3,m3,d3,dn q'),(A3,n3,c3,limbs q'.num.natAbs),(A,n,c,limbs (10^k)),(A2,n2,c2,limbs V)]:=(((S.out.set 0 0 (.bool (ng q'.num)) rfl (by nofun)).set 0 1 (.slice A3 n3 c3) rfl (by nofun)).set 0 2 (.slice D3 m3 d3) rfl (by nofun))
     replace S:=Lib.hid S
     go_wp2
     refine bodyPost_ret (res_rdecimal _ _ (w.heap.size) 46 rfl rfl (S.out.bk _ (List.mem_of_getElem? (i:=0) rfl)).1) rfl ?_
     exact⟨_,_,_,_,_,_,rfl,⟨S.out.r 1 rfl,S.out.r 0 rfl⟩,S.out.bel⟩
end Go.Proofs.YtdeedofmflelfaaGreatDoor

namespace Go.Proofs.YtdeedofmflelfaaGreatDoor
open Go.RowKit RQ
set_option linter.unusedVariables false
theorem ten_ne (n:Nat):((10:Rat)^n)≠0:=by
 induction n with
 | zero=>decide
 | succ n ih=>
  rw[Rat.pow_succ]
  intro h
  rcases Rat.mul_eq_zero.1 h with h | h
  ·exact ih h
  ·exact absurd h (by decide)
theorem ten_cast (n:Nat):(((10^n:Nat):Int):Rat)=(10:Rat)^n:=by
 induction n with
 | zero=>rfl
 | succ n ih=>
  rw[Rat.pow_succ,←ih,Nat.pow_succ]
  push_cast
  rfl
theorem divInt_ten (N n:Nat):Rat.divInt (N:Int) ((10^n:Nat):Int)=(N:Rat) / (10:Rat)^n:=by
 rw[Rat.divInt_eq_div,ten_cast]
 rfl
theorem ten_add (a b:Nat):(10:Rat)^(a+b)=(10:Rat)^a*(10:Rat)^b:=by
 induction b with
 | zero=>rw[Nat.add_zero,Rat.pow_zero,Rat.mul_one]
 | succ b ih=>rw[←Nat.add_assoc,Rat.pow_succ,ih,Rat.pow_succ,Rat.mul_assoc]
theorem qscale_up (N f v:Nat):qscale N ((v:Int)-(f:Int))=(N:Rat) / (10:Rat)^f*(10:Rat)^v:=by
 unfold qscale
 have hf:=ten_ne f
 by_cases h:f≤v
 ·rw[if_pos (by omega)]
  obtain⟨d,rfl⟩:∃ d,v=f+d:=⟨v-f,by omega⟩
  rw[show (((f+d:Nat):Int)-(f:Int)).toNat=d by omega,ten_add]
  have e:(((N*10^d:Nat):Int):Rat)=(N:Rat)*(10:Rat)^d:=by
   rw[←ten_cast];push_cast;rfl
  rw[e]
  grind
 ·rw[if_neg (by omega)]
  obtain⟨d,rfl⟩:∃ d,f=v+d:=⟨f-v,by omega⟩
  rw[show (-((v:Int)-((v+d:Nat):Int))).toNat=d by omega,divInt_ten,ten_add]
  have h1:=ten_ne v
  have h2:=ten_ne d
  grind
theorem qscale_down (N f v:Nat):qscale N (-(v:Int)-(f:Int))=(N:Rat) / (10:Rat)^f / (10:Rat)^v:=by
 unfold qscale
 by_cases h:f+v=0
 ·obtain⟨rfl,rfl⟩:f=0∧v=0:=by omega
  rw[if_pos (by decide)]
  have e:(((N*10^0:Nat):Int):Rat)=(N:Rat):=by rw[Nat.pow_zero,Nat.mul_one];rfl
  rw[show (-((0:Nat):Int)-((0:Nat):Int)).toNat=0 by decide,e]
  grind
 ·rw[if_neg (by omega),show (-(-(v:Int)-(f:Int))).toNat=f+v by omega,divInt_ten,ten_add]
  have h1:=ten_ne v
  have h2:=ten_ne f
  grind
def p10q (k:Nat):Rat:=(((10^k:Nat):Int):Rat)
theorem p10q_ne (k:Nat):p10q k≠0:=by unfold p10q;rw[ten_cast];exact ten_ne k
theorem rv_nat (N:Nat):rv false (limbs N) []=((N:Int):Rat):=by
 have:=rv_z ((N:Int):Rat)
 have e:ng ((N:Int):Rat).num=false:=ngN N
 rw[e] at this
 exact this
theorem res_rscaled (W:World) (tmps:Array Value) (g t:Nat) {v0 v1 v2:Value} (ht:tmps.getD 6 undef=.pointer (some ⟨g,0,none⟩)) (h:Cb W g #[v0,v1,v2] t) :
  (results Tryz.f138 tmps).run Tryz.prog W=.ok (.agg #[v0,v1,v2]) W:=by
 have c0:W.cell? ⟨g,0,none⟩=some v0:=h.cell rfl
 have c1:W.cell? ⟨g,1,none⟩=some v1:=h.cell rfl
 have c2:W.cell? ⟨g,2,none⟩=some v2:=h.cell rfl
 have ht':tmps[6]?.getD undef=.pointer (some ⟨g,0,none⟩):=by rw[←ht];simp[Array.getD_eq_getD_getElem?]
 simp[results,Tryz.results138,go_sem,ht',c0,c1,c2]
set_option maxRecDepth 100000 in
set_option maxHeartbeats 8000000 in
theorem rscaled_any (q:Rat) (A:Option Addr) (n c:Nat) (D:Option Addr) (m d:Nat) (b:Bool) (k:Nat) (w:World) (h:RR w A n c D m d q) (hq:Rs q 60) (hk:k≤40) :
  Calls Tryz.prog 138 #[.agg #[.bool (ng q.num),.slice A n c,.slice D m d],.bool b,.int .i64 (k:Int)] w (RetR (if b=true then q / p10q k else q*p10q k) w):=by
 have hPw:Hid (∀ W A n c,Rd W A n c (limbs 10)→Calls Tryz.prog 170 #[.slice A n c,.int .i64 (k:Int)] W (RetN (10^k) W)):=Lib.hid fun W A n c h=>by
  have l:n≤1:=by rw[←h.len];exact limbs_len_le.2 (by decide)
  have:=rpower3_any A n c _ (k:Int) W h (by omega)
  rwa [num_limbs,show powV 10 (k:Int)=10^k from by unfold powV;rw[if_pos (by omega),Int.toNat_natCast]] at this
 have hQu:Hid (∀ W A n c D m d A5 n5 c5,RR W A n c D m d q→Rd W A5 n5 c5 (limbs (10^k))→Calls Tryz.prog 171 #[.agg #[.bool (ng q.num),.slice A n c,.slice D m d],.agg #[.bool false,.slice A5 n5 c5,.slice none 0 0]] W (RetR (q / p10q k) W)):=Lib.hid fun W A n c D m d A5 n5 c5 h h5=>by
  have l:=h.lens hq
  have l5:n5≤32:=by rw[←h5.len];exact pow10_l32 (by omega)
  have:=Fquo_any (ng q.num) A n c _ D m d _ false A5 n5 c5 _ none 0 0 [] W h.n h.d h5 (Rd.nil_ _ _ _) (by omega) (by omega) (by omega) (by decide) (by rw[rv_nat];exact p10q_ne k)
  rwa [rv_z,rv_nat] at this
 have hMu:Hid (∀ W A n c D m d A5 n5 c5,RR W A n c D m d q→Rd W A5 n5 c5 (limbs (10^k))→Calls Tryz.prog 26 #[.agg #[.bool (ng q.num),.slice A n c,.slice D m d],.agg #[.bool false,.slice A5 n5 c5,.slice none 0 0]] W (RetR (q*p10q k) W)):=Lib.hid fun W A n c D m d A5 n5 c5 h h5=>by
  have l:=h.lens hq
  have l5:n5≤32:=by rw[←h5.len];exact pow10_l32 (by omega)
  have:=Fmul_any (ng q.num) A n c _ D m d _ false A5 n5 c5 _ none 0 0 [] W h.n h.d h5 (Rd.nil_ _ _ _) (by omega) (by omega) (by omega) (by decide)
  rwa [rv_z,rv_nat] at this
 have hLit:Hid (∀ (W0:World) (g:Nat),W0.heap.size=g→Rd (W0.alloc (.cells #[.int .u32 10] 119)) (some ⟨g,0,none⟩) 1 1 (limbs 10)):=Lib.hid fun W0 g hg=>by
  subst hg;exact lit_any (z:=10) (by decide) (by decide) W0 _
 have R1:=h.n
 have R2:=h.d
 clear h hq hk
 have S:=(((((St.new w).read R1).read R2).allocAt (w.heap.size) #[.bool (ng q.num),.slice A n c,.slice D m d] 46 (noL3 _ _ _ _ _ _ _) (by simp)).allocAt (w.heap.size+1) #[.bool false,.slice none 0 0,.slice none 0 0] 46 (noL3 _ _ _ _ _ _ _) (by simp))
 replace S:=Lib.hid S
 have O:=hLit.out (World.alloc (World.alloc w (.cells #[.bool (ng q.num),.slice A n c,.slice D m d] 46)) (.cells #[.bool false,.slice none 0 0,.slice none 0 0] 46)) (w.heap.size+1+1) (by simp)
 have B2:=(Below.refl (World.alloc (World.alloc w (.cells #[.bool (ng q.num),.slice A n c,.slice D m d] 46)) (.cells #[.bool false,.slice none 0 0,.slice none 0 0] 46)).heap.size (World.alloc (World.alloc w (.cells #[.bool (ng q.num),.slice A n c,.slice D m d] 46)) (.cells #[.bool false,.slice none 0 0,.slice none 0 0] 46))).alloc (Nat.le_refl _) (.cells #[.int .u32 10] 119)
 have S2:=Lib.hid ((S.out.call B2).read O)
 clear O B2 S hLit R1 R2
 have S:=S2
 clear S2
 cases b
 ·rw[if_neg (by simp)]
  generalize q*p10q k=y at *
  go_enter Tryz.func138,Tryz.ntmps138
  go_wp2_with fail
  refine (hPw.out _ _ _ _ (S.out.r 0 rfl)).mono ?_
  rintro e w1 ⟨A5,n5,c5,rfl,Q,bb⟩
  have T:=((S.out.call bb).read Q)
  clear bb S
  have S:=T
  clear T
  obtain⟨c_r0,c_r1,c_r2,f_r0,f_r1,f_r2⟩:=S.cf3 0 rfl
  obtain⟨c_x0,c_x1,c_x2,f_x0,f_x1,f_x2⟩:=S.cf3 1 rfl
  have hz:w.heap.size+1<w1.heap.size:=S.lt 0 rfl
  replace S:=Lib.hid S
  clear Q hPw
  have S:=(S.out.allocAt (w1.heap.size) #[.bool false,.slice A5 n5 c5,.slice none 0 0] 46 (noL3 _ _ _ _ _ _ _) (by simp))
  obtain⟨a_x0,a_x1,a_x2,b_x0,b_x1,b_x2⟩:=S.cf3 2 rfl
  replace S:=Lib.hid S
  go_wp2_with fail
  refine (hMu.out _ _ _ _ _ _ _ _ _ _ ⟨(S.out.r 3 rfl),(S.out.r 2 rfl)⟩ (S.out.r 0 rfl)).mono ?_
  rintro e w9 ⟨A9,n9,c9,D9,m9,d9,rfl,Q,bb⟩
  have T:=(((S.out.call bb).read Q.n).read Q.d)
  clear bb S c_r0 f_r0 c_r1 f_r1 c_r2 f_r2 c_x0 f_x0 c_x1 f_x1 c_x2 f_x2 hz a_x0 b_x0 a_x1 b_x1 a_x2 b_x2
  have S:=T
  clear T
  obtain⟨c_r0,c_r1,c_r2,f_r0,f_r1,f_r2⟩:=S.cf3 1 rfl
  have hz:w1.heap.size<w9.heap.size:=S.lt 0 rfl
  replace S:=Lib.hid S
  have S:St w _ [(w1.heap.size,#[.bool false,.slice A5 n5 c5,.slice none 0 0],46),(w.heap.size+1,#[.bool (ng y.num),.slice A9 n9 c9,.slice D9 m9 d9],46),(w.heap.size,#[.bool (ng q.num),.slice A n c,.slice D m d],46)] [(D9,m9,d9,dn y),(A9,n9,c9,limbs y.num.natAbs),(A5,n5,c5,limbs (10^k)),((some ⟨w.heap.size+1+1,0,none⟩),1,1,limbs 10),(D,m,d,dn q),(A,n,c,limbs q.num.natAbs)]:=(((S.out.set 1 0 (.bool (ng y.num)) rfl (by nofun)).set 1 1 (.slice A9 n9 c9) rfl (by nofun)).set 1 2 (.slice D9 m9 d9) rfl (by nofun))
  replace S:=Lib.hid S
  go_wp2
  refine bodyPost_ret (res_rscaled _ _ (w.heap.size+1) 46 rfl (S.out.bk _ (List.mem_of_getElem? (i:=1) rfl)).1) rfl ?_
  exact⟨_,_,_,_,_,_,rfl,⟨S.out.r 1 rfl,S.out.r 0 rfl⟩,S.out.bel⟩
 ·rw[if_pos rfl]
  generalize q / p10q k=y at *
  go_enter Tryz.func138,Tryz.ntmps138
  go_wp2_with fail
  refine (hPw.out _ _ _ _ (S.out.r 0 rfl)).mono ?_
  rintro e w1 ⟨A5,n5,c5,rfl,Q,bb⟩
  have T:=((S.out.call bb).read Q)
  clear bb S
  have S:=T
  clear T
  obtain⟨c_r0,c_r1,c_r2,f_r0,f_r1,f_r2⟩:=S.cf3 0 rfl
  obtain⟨c_x0,c_x1,c_x2,f_x0,f_x1,f_x2⟩:=S.cf3 1 rfl
  have hz:w.heap.size+1<w1.heap.size:=S.lt 0 rfl
  replace S:=Lib.hid S
  clear Q hPw
  have S:=(S.out.allocAt (w1.heap.size) #[.bool false,.slice A5 n5 c5,.slice none 0 0] 46 (noL3 _ _ _ _ _ _ _) (by simp))
  obtain⟨a_x0,a_x1,a_x2,b_x0,b_x1,b_x2⟩:=S.cf3 2 rfl
  replace S:=Lib.hid S
  go_wp2_with fail
  refine (hQu.out _ _ _ _ _ _ _ _ _ _ ⟨(S.out.r 3 rfl),(S.out.r 2 rfl)⟩ (S.out.r 0 rfl)).mono ?_
  rintro e w9 ⟨A9,n9,c9,D9,m9,d9,rfl,Q,bb⟩
  have T:=(((S.out.call bb).read Q.n).read Q.d)
  clear bb S c_r0 f_r0 c_r1 f_r1 c_r2 f_r2 c_x0 f_x0 c_x1 f_x1 c_x2 f_x2 hz a_x0 b_x0 a_x1 b_x1 a_x2 b_x2
  have S:=T
  clear T
  obtain⟨c_r0,c_r1,c_r2,f_r0,f_r1,f_r2⟩:=S.cf3 1 rfl
  have hz:w1.heap.size<w9.heap.size:=S.lt 0 rfl
  replace S:=Lib.hid S
  have S:St w _ [(w1.heap.size,#[.bool false,.slice A5 n5 c5,.slice none 0 0],46),(w.heap.size+1,#[.bool (ng y.num),.slice A9 n9 c9,.slice D9 m9 d9],46),(w.heap.size,#[.bool (ng q.num),.slice A n c,.slice D m d],46)] [(D9,m9,d9,dn y),(A9,n9,c9,limbs y.num.natAbs),(A5,n5,c5,limbs (10^k)),((some ⟨w.heap.size+1+1,0,none⟩),1,1,limbs 10),(D,m,d,dn q),(A,n,c,limbs q.num.natAbs)]:=(((S.out.set 1 0 (.bool (ng y.num)) rfl (by nofun)).set 1 1 (.slice A9 n9 c9) rfl (by nofun)).set 1 2 (.slice D9 m9 d9) rfl (by nofun))
  replace S:=Lib.hid S
  go_wp2
  refine bodyPost_ret (res_rscaled _ _ (w.heap.size+1) 46 rfl (S.out.bk _ (List.mem_of_getElem? (i:=1) rfl)).1) rfl ?_
  exact⟨_,_,_,_,_,_,rfl,⟨S.out.r 1 rfl,S.out.r 0 rfl⟩,S.out.bel⟩
end Go.Proofs.YtdeedofmflelfaaGreatDoor
