import Derived.Test.YtkiofbikkhhdfabGreatDoorK04
import Derived.Test.YtkiofbikkhhdfabGreatDoorP2
import Derived.Deep.LoopGhost
import Derived.WalkMore
import Derived.Test.YtkiofbikkhhdfabGreatDoorK07
set_option maxRecDepth 100000
set_option maxHeartbeats 4000000
namespace Go.Proofs.YtkiofbikkhhdfabGreatDoor.To
open Go.RowKit
open Utf1
theorem cell_lt {w:World}{x:Addr}{v:Value}(h:w.cell? x=some v):x.block < w.heap.size:=by
 unfold World.cell? at h
 cases hb:w.heap[x.block]? with
 | none=>rw[hb] at h;simp at h
 | some o=>exact (Array.getElem?_eq_some_iff.1 hb).1
def Glob (w:World):Prop:=∃ te pe,w.cell? ⟨1,0,none⟩=some (.iface te pe)
theorem Glob.below {w w':World}(h:Glob w)(hb:Below w.heap.size w w'):Glob w':=by
 obtain⟨te,pe,hc⟩:=h
 exact⟨te,pe,(hb.cell (p:=⟨1,0,none⟩) (cell_lt hc)).trans hc⟩
theorem bl_nil {t:ByteArray}:bl t=[] ↔ t.size=0:=by
 rw[<-bl_len]
 exact List.length_eq_zero_iff.symm
def numE (b:Nat) (l:List UInt8):Option Nat:=if l=[] then none else num b 0 l
theorem numS_numE (b:Nat) (l:List UInt8):numS b l=(numE b l).map chN:=by
 unfold numS numE
 split <;> rfl
theorem parse_empty (b:Int) (w:World) :
  Calls Tryz.prog 143 #[.string ⟨#[]⟩,.int .i64 b,.int .i64 32] w fun e w'=>e=.returned (parsed none)/\w'=w:=by
 go_enter Tryz.func143,Tryz.ntmps143
 go_wp2
 go_ret2
 exact⟨rfl,rfl⟩
theorem inner_any (b:Nat)(hb:b=10\/b=16) (t:ByteArray)(hmax:t.size<=7) (w:World) :
  Calls Tryz.prog 143 #[.string t,.int .i64 (b:Int),.int .i64 32] w fun e w'=>e=.returned (parsed (numE b (bl t)))/\Below w.heap.size w w':=by
 by_cases h0:t.size=0
 ·have e:t=⟨#[]⟩:=by
   have:=bl_nil.2 h0
   cases t
   simp at this
   rw[this]
  subst e
  refine (parse_empty (b:Int) w).mono ?_
  rintro e w' ⟨rfl,rfl⟩
  exact⟨rfl,Below.refl _ _⟩
 ·have hE:numE b (bl t)=num b 0 (bl t):=by
   unfold numE
   rw[if_neg (fun h=>h0 (bl_nil.1 h))]
  rw[hE]
  rcases hb with rfl | rfl
  ·exact parse10 t h0 hmax w
  ·exact parse16 t h0 hmax w
theorem parseU_some (b:Nat)(hb:b=10\/b=16) (t:ByteArray)(hmax:t.size<=7) (n:Nat)(hn:numE b (bl t)=some n) (w:World) :
  Calls Tryz.prog 128 #[.string t,.int .i64 (b:Int),.int .i64 32] w fun e w'=>e=.returned (.tuple #[.int .u64 (n:Int),.nilIface])/\Below w.heap.size w w':=by
 have hI:=inner_any b hb t hmax w
 rw[hn] at hI
 have hI:Calls Tryz.prog 143 #[.string t,.int .i64 (b:Int),.int .i64 32] w fun e w'=>e=.returned (.tuple #[.int .u64 (n:Int),.nilIface])/\Below w.heap.size w w':=hI
 clear hn hb
 obtain⟨z,hz⟩:∃ z:Int,z=(n:Int):=⟨_,rfl⟩
 obtain⟨c,hc⟩:∃ c:Int,c=(b:Int):=⟨_,rfl⟩
 rw[<-hz,<-hc] at hI ⊢
 clear hz hc
 go_enter Tryz.func128,Tryz.ntmps128
 go_wp2_with (go_at_call 143;refine hI.mono ?_;rintro e w1 ⟨rfl,hb1⟩)
 go_ret2
 exact⟨rfl,hb1⟩
theorem parseU_none (b:Nat)(hb:b=10\/b=16) (t:ByteArray)(hmax:t.size<=7)(hn:numE b (bl t)=none) (w:World)(hg:Glob w) :
  Calls Tryz.prog 128 #[.string t,.int .i64 (b:Int),.int .i64 32] w fun e w'=>∃ N,e=.returned (.tuple #[.int .u64 0,.iface 178 (.pointer (some ⟨N,0,none⟩))])/\Below w.heap.size w w':=by
 have hI:=inner_any b hb t hmax w
 rw[hn] at hI
 have hI:Calls Tryz.prog 143 #[.string t,.int .i64 (b:Int),.int .i64 32] w fun e w'=>e=.returned (.tuple #[.int .u64 0,.iface 176 (.int .i64 2)])/\Below w.heap.size w w':=hI
 clear hn hb
 obtain⟨c,hc⟩:∃ c:Int,c=(b:Int):=⟨_,rfl⟩
 rw[<-hc] at hI ⊢
 clear hc
 go_enter Tryz.func128,Tryz.ntmps128
 go_wp2_with fail
 refine hI.mono ?_
 rintro e w1 ⟨rfl,hb1⟩
 obtain⟨te,pe,hc⟩:=hg.below hb1
 go_wp2_with fail
 refine (Tryz.strconv_toError_syntax _ t c 32 _ _ (by omega) hc (Or.inr ⟨te,pe,rfl⟩)).mono ?_
 rintro e w2 ⟨N,rfl,_,_,hb2⟩
 go_wp2_with fail
 go_ret2
 exact⟨N,rfl,hb1.trans (hb2.mono hb1.size)⟩
end Go.Proofs.YtkiofbikkhhdfabGreatDoor.To
namespace Go.Proofs.YtkiofbikkhhdfabGreatDoor.To
open Go.RowKit
open Utf1
theorem numE_bound (b:Nat)(hb:b=10\/b=16) (l:List UInt8)(hl:l.length<=7) (n:Nat)(h:numE b l=some n):n<=268435455:=by
 unfold numE at h
 split at h
 ·cases h
 ·have h1:=num_bound b l 0 n h
  have h2:b ^ l.length<=16 ^ 7:=by
   refine Nat.le_trans (Nat.pow_le_pow_right (by omega) hl) (Nat.pow_le_pow_left (by omega) 7)
  simp only[Nat.zero_add,Nat.one_mul] at h1
  omega
theorem numbered_any (b:Nat)(hb:b=10\/b=16) (t:ByteArray)(hmax:t.size<=7) (w:World)(hg:Glob w) :
  Calls Tryz.prog 100 #[.string t,.int .i64 (b:Int)] w fun e w'=>e=.returned (optS (numS b (bl t)))/\Below w.heap.size w w':=by
 cases hn:numE b (bl t) with
 | none =>
  have hp:=parseU_none b hb t hmax hn
  have HR:Hid (numS b (bl t)=none):=hide (by rw[numS_numE,hn];rfl)
  clear hn hb
  obtain⟨c,hc⟩:∃ c:Int,c=(b:Int):=⟨_,rfl⟩
  rw[<-hc] at hp ⊢
  clear hc
  go_enter Tryz.func100,Tryz.ntmps100
  go_wp2_with fail
  refine (hp _ hg).mono ?_
  rintro e w1 ⟨N,rfl,hb1⟩
  go_wp2_with fail
  go_ret2
  rw[HR.out]
  exact⟨rfl,hb1⟩
 | some n =>
  have hp:=parseU_some b hb t hmax n hn
  have HR:Hid (numS b (bl t)=some (chN n)):=hide (by rw[numS_numE,hn];rfl)
  have hbd:=numE_bound b hb (bl t) (by rw[bl_len];exact hmax) n hn
  have hFF:=encode_er 65533 scalar_err
  have hFF:Utf8.encode 65533=⟨(er 65533).toArray⟩:=hFF
  have hen:=encode_er n
  clear hn hb hg
  obtain⟨c,hc⟩:∃ c:Int,c=(b:Int):=⟨_,rfl⟩
  rw[<-hc] at hp ⊢
  clear hc
  obtain⟨z,hz⟩:∃ z:Int,z=(n:Int):=⟨_,rfl⟩
  rw[<-hz] at hp hen
  have z0:0<=z:=by omega
  have z1:z<=268435455:=by omega
  by_cases hbad:n=0\/n=13\/(55296<=n/\n<=57343)\/1114111 < n
  ·have HC:Hid (chN n=65533):=hide (by unfold chN;rw[if_pos hbad])
   have hbz:z=0\/z=13\/(55296<=z/\z<=57343)\/1114111 < z:=by omega
   clear hbad hz hbd hen
   rcases hbz with rfl | rfl | ⟨h1,h2⟩ | h1
   ·go_enter Tryz.func100,Tryz.ntmps100
    go_wp2_with fail
    refine (hp _).mono ?_
    rintro e w1 ⟨rfl,hb1⟩
    go_wp2_with fail
    go_ret2
    rw[HR.out,HC.out]
    exact⟨rfl,hb1⟩
   ·go_enter Tryz.func100,Tryz.ntmps100
    go_wp2_with fail
    refine (hp _).mono ?_
    rintro e w1 ⟨rfl,hb1⟩
    go_wp2_with fail
    go_ret2
    rw[HR.out,HC.out]
    exact⟨rfl,hb1⟩
   ·have e0:(z==0)=false:=beq_eq_false_iff_ne.2 (by omega)
    have e1:(z==13)=false:=beq_eq_false_iff_ne.2 (by omega)
    go_enter Tryz.func100,Tryz.ntmps100
    go_wp2_with fail
    refine (hp _).mono ?_
    rintro e w1 ⟨rfl,hb1⟩
    go_wp2_with fail
    go_ret2
    rw[HR.out,HC.out]
    exact⟨rfl,hb1⟩
   ·have e0:(z==0)=false:=beq_eq_false_iff_ne.2 (by omega)
    have e1:(z==13)=false:=beq_eq_false_iff_ne.2 (by omega)
    have e2:55296<=z:=by omega
    have e3:¬ z<=57343:=by omega
    go_enter Tryz.func100,Tryz.ntmps100
    go_wp2_with fail
    refine (hp _).mono ?_
    rintro e w1 ⟨rfl,hb1⟩
    go_wp2_with fail
    go_ret2
    rw[HR.out,HC.out]
    exact⟨rfl,hb1⟩
  ·have HC:Hid (chN n=n):=hide (by unfold chN;rw[if_neg hbad])
   have hen:=hen (by unfold Scalar;omega)
   have e0:(z==0)=false:=beq_eq_false_iff_ne.2 (by omega)
   have e1:(z==13)=false:=beq_eq_false_iff_ne.2 (by omega)
   have e2:¬ (55296<=z/\z<=57343):=by omega
   have e3:¬ 1114111 < z:=by omega
   clear hbad hz hbd
   by_cases e4:55296<=z
   ·have e5:¬ z<=57343:=by omega
    clear e2
    go_enter Tryz.func100,Tryz.ntmps100
    go_wp2_with fail
    refine (hp _).mono ?_
    rintro e w1 ⟨rfl,hb1⟩
    go_wp2_with fail
    go_ret2
    rw[HR.out,HC.out]
    exact⟨rfl,hb1⟩
   ·clear e2
    go_enter Tryz.func100,Tryz.ntmps100
    go_wp2_with fail
    refine (hp _).mono ?_
    rintro e w1 ⟨rfl,hb1⟩
    go_wp2_with fail
    go_ret2
    rw[HR.out,HC.out]
    exact⟨rfl,hb1⟩
end Go.Proofs.YtkiofbikkhhdfabGreatDoor.To
namespace Go.Proofs.YtkiofbikkhhdfabGreatDoor.To
open Go.RowKit
open Utf1
theorem cut_yes (c:UInt8) (t:List UInt8) (w:World) :
  Calls Tryz.prog 98 #[.string ⟨(c :: t).toArray⟩,.string ⟨#[c]⟩] w fun e w'=>e=.returned (.tuple #[.string ⟨t.toArray⟩,.bool true])/\w'=w:=by
 have h:=Tryz.strings_CutPrefix ⟨(c :: t).toArray⟩ ⟨#[c]⟩ w
 have e1:Lib.hasPrefix (c :: t) [c]=true:=by simp[Lib.hasPrefix]
 have e2:Lib.trimPrefix (c :: t) [c]=t:=by simp[Lib.trimPrefix,Lib.hasPrefix]
 have e3:((⟨(c :: t).toArray⟩:ByteArray)).data.toList=c :: t:=rfl
 have e4:((⟨#[c]⟩:ByteArray)).data.toList=[c]:=rfl
 rw[e3,e4,e1,e2] at h
 exact h
theorem cut_no (c:UInt8) (s:ByteArray) (w:World)(h0:(bl s).head?≠some c) :
  Calls Tryz.prog 98 #[.string s,.string ⟨#[c]⟩] w fun e w'=>e=.returned (.tuple #[.string s,.bool false])/\w'=w:=by
 have h:=Tryz.strings_CutPrefix s ⟨#[c]⟩ w
 have e1:Lib.hasPrefix (bl s) [c]=false:=by
  unfold Lib.hasPrefix
  cases hb:bl s with
  | nil=>rfl
  | cons x t =>
   rw[hb] at h0
   simp at h0
   simp[List.isPrefixOf]
   exact fun e=>h0 e.symm
 have e2:Lib.trimPrefix (bl s) [c]=bl s:=by unfold Lib.trimPrefix;rw[e1];simp
 have e4:((⟨#[c]⟩:ByteArray)).data.toList=[c]:=rfl
 rw[show s.data.toList=bl s from rfl,e4,e1,e2] at h
 exact h
theorem low_x (x:UInt8):low8 x=120 ↔ x=120\/x=88:=by
 constructor
 ·intro h
  have h1:=congrArg UInt8.toNat h
  rw[low8_toNat] at h1
  have h2:(120:UInt8).toNat=120:=rfl
  rw[h2] at h1
  unfold lowN at h1
  split at h1
  ·right
   apply UInt8.toNat_inj.1
   show x.toNat=88
   omega
  ·left
   apply UInt8.toNat_inj.1
   exact h1
 ·rintro (rfl | rfl) <;> decide
theorem named_nil:named []=none:=by decide
theorem standsFor_any (s:ByteArray)(hs:s.size<=8) (w:World)(hg:Glob w) :
  Calls Tryz.prog 61 #[.string s] w fun e w'=>e=.returned (optS (sf (bl s)))/\Below w.heap.size w w':=by
 by_cases h0:(bl s).head?=some 35
 ·obtain⟨t,ht⟩:∃ t,bl s=35 :: t:=by
   cases hb:bl s with
   | nil=>rw[hb] at h0;simp at h0
   | cons x t=>rw[hb] at h0;simp at h0;exact⟨t,by rw[h0]⟩
  have htl:t.length<=7:=by
   have:=congrArg List.length ht
   rw[bl_len,List.length_cons] at this
   omega
  rw[ht]
  have hse:s=⟨(35 :: t).toArray⟩:=by rw[<-ht]
  subst hse
  have HF:Hid (sf (35 :: t)=sfN t):=hide rfl
  have hc1:=fun w=>cut_yes 35 t w
  have hlo:=fun w=>lower_any ⟨t.toArray⟩ w
  have e1:bl ⟨t.toArray⟩=t:=rfl
  rw[e1] at hlo
  clear ht h0 hs
  by_cases hx:(lower t).head?=some 120
  ·obtain⟨x,d,rfl⟩:∃ x d,t=x :: d:=by
    cases t with
    | nil=>simp[lower] at hx
    | cons x d=>exact⟨x,d,rfl⟩
   have hx2:low8 x=120:=by simpa [lower] using hx
   have hlx:lower (x :: d)=120 :: lower d:=by rw[<-hx2];rfl
   have hc2:=fun w=>cut_yes 120 (lower d) w
   rw[<-hlx] at hc2
   have hdl:d.length<=6:=by simpa using htl
   have hnu:=fun w hg=>numbered_any 16 (.inr rfl) ⟨(lower d).toArray⟩ (by simp[lower,ByteArray.size];omega) w hg
   have e2:bl ⟨(lower d).toArray⟩=lower d:=rfl
   rw[e2,numS_lower] at hnu
   have HR:Hid (sfN (x :: d)=numS 16 d):=hide (by
    unfold sfN
    simp only
    rw[if_pos ((low_x x).1 hx2),if_neg (by omega)])
   generalize (⟨(lower (x :: d)).toArray⟩:ByteArray)=L at hlo hc2
   generalize (⟨(lower d).toArray⟩:ByteArray)=D at hc2 hnu
   generalize (⟨(35 :: x :: d).toArray⟩:ByteArray)=S at hc1 ⊢
   generalize (⟨(x :: d).toArray⟩:ByteArray)=T at hc1 hlo
   clear hx hx2 hlx hdl htl
   rw[HF.out,HR.out]
   unfold optS at hnu ⊢
   generalize oT (numS 16 d)=A at hnu ⊢
   generalize (numS 16 d).isSome=B at hnu ⊢
   go_enter Tryz.func61,Tryz.ntmps61
   go_wp2_with fail
   refine (hc1 _).mono ?_
   rintro e w1 ⟨rfl,rfl⟩
   go_wp2_with fail
   refine (hlo _).mono ?_
   rintro e w1 ⟨rfl,hb1⟩
   go_wp2_with fail
   refine (hc2 _).mono ?_
   rintro e w2 ⟨rfl,rfl⟩
   go_wp2_with fail
   refine (hnu _ (hg.below hb1)).mono ?_
   rintro e w2 ⟨rfl,hb2⟩
   go_wp2_with fail
   go_ret2
   exact⟨rfl,hb1.trans (hb2.mono hb1.size)⟩
  ·have hc2:=fun w=>cut_no 120 ⟨(lower t).toArray⟩ w hx
   have hnu:=fun w hg=>numbered_any 10 (.inl rfl) ⟨t.toArray⟩ (by simp[ByteArray.size];omega) w hg
   rw[e1] at hnu
   have HR:Hid (sfN t=numS 10 t):=hide (by
    cases t with
    | nil=>rfl
    | cons x d =>
     unfold sfN
     simp only
     have hx2:¬ (x=120\/x=88):=fun h=>hx (by simpa [lower] using (low_x x).2 h)
     have hdl:d.length<=6:=by simpa using htl
     rw[if_neg hx2,if_neg (by omega)])
   generalize (⟨(lower t).toArray⟩:ByteArray)=L at hlo hc2
   generalize (⟨(35 :: t).toArray⟩:ByteArray)=S at hc1 ⊢
   generalize (⟨t.toArray⟩:ByteArray)=T at hc1 hlo hnu
   clear hx htl
   rw[HF.out,HR.out]
   unfold optS at hnu ⊢
   generalize oT (numS 10 t)=A at hnu ⊢
   generalize (numS 10 t).isSome=B at hnu ⊢
   go_enter Tryz.func61,Tryz.ntmps61
   go_wp2_with fail
   refine (hc1 _).mono ?_
   rintro e w1 ⟨rfl,rfl⟩
   go_wp2_with fail
   refine (hlo _).mono ?_
   rintro e w1 ⟨rfl,hb1⟩
   go_wp2_with fail
   refine (hc2 _).mono ?_
   rintro e w2 ⟨rfl,rfl⟩
   go_wp2_with fail
   refine (hnu _ (hg.below hb1)).mono ?_
   rintro e w2 ⟨rfl,hb2⟩
   go_wp2_with fail
   go_ret2
   exact⟨rfl,hb1.trans (hb2.mono hb1.size)⟩
 ·have hc1:=fun w=>cut_no 35 s w h0
  have hna:=fun w=>named_any s w
  have HR:Hid (sf (bl s)=named (bl s)):=hide (by
   cases hb:bl s with
   | nil=>exact named_nil.symm
   | cons x t =>
    rw[hb] at h0
    unfold sf
    simp only
    rw[if_neg (fun e=>h0 (by rw[e];rfl))])
  rw[HR.out]
  unfold optS at hna ⊢
  generalize oT (named (bl s))=A at hna ⊢
  generalize (named (bl s)).isSome=B at hna ⊢
  clear h0
  go_enter Tryz.func61,Tryz.ntmps61
  go_wp2_with fail
  refine (hc1 _).mono ?_
  rintro e w1 ⟨rfl,rfl⟩
  go_wp2_with fail
  refine (hna _).mono ?_
  rintro e w1 ⟨rfl,hb1⟩
  go_wp2_with fail
  go_ret2
  exact⟨rfl,hb1⟩
end Go.Proofs.YtkiofbikkhhdfabGreatDoor.To
namespace Go.Proofs.YtkiofbikkhhdfabGreatDoor.To
open Go.RowKit
open Utf1
theorem refAt_here (t:List UInt8) (i:Nat)(hi:i < t.length)(h8:i<=8)(hno:∀ j,j < i->t[j]?≠some 59)(h:t[i]?=some 59):refAt t=(sf (t.take i)).map fun r=>(r,i+1):=by
 have e:t.findIdx (·==59)=i:=by
  rw[List.findIdx_eq hi]
  refine⟨?_,fun j hj=>?_⟩
  ·rw[List.getElem?_eq_getElem hi] at h
   simpa using h
  ·have:=hno j hj
   rw[List.getElem?_eq_getElem (by omega)] at this
   simpa using this
 unfold refAt
 rw[e,if_pos ⟨hi,h8⟩]
theorem refAt_not (t:List UInt8) (i:Nat)(h:t.length<=i\/9<=i)(hno:∀ j,j < i->t[j]?≠some 59):refAt t=none:=by
 unfold refAt
 rw[if_neg]
 rintro ⟨h1,h2⟩
 have h3:=List.findIdx_getElem (w:=h1)
 have hlt:t.findIdx (·==59) < i:=by omega
 refine hno _ hlt ?_
 rw[List.getElem?_eq_getElem h1]
 simpa using h3
theorem getE_drop (s:ByteArray) (k j:Nat)(h:k+j < s.size):((bl s).drop k)[j]?=some ((bl s)[k+j]'(by rw[bl_len];exact h)):=by
 rw[List.getElem?_drop,List.getElem?_eq_getElem]
theorem builder_below {T e:TypeId}{B b:Nat}{bs:List Value}{W W':World}(h:Lib.IsBuilderF T e B b bs W)(hb:Below W.heap.size W W'):Lib.IsBuilderF T e B b bs W':=by
 have one:∀ p,Lib.BuilderAtF T e B b p bs W->Lib.BuilderAtF T e B b p bs W':=by
  intro p h
  have hlt:=h.lt
  obtain⟨hB,v,hv,hown,hne⟩:=h
  exact⟨hB,v,(hb.block b hlt).trans hv,hown.kept (row:=none) ⟨hb.os,hb.tape,hb.output,hb.size,fun k hk _=>hb.block k hk⟩ (Classical.em _),hne⟩
 exact h.elim (fun x=>.inl (one _ x)) (fun x=>.inr (one _ x))
theorem resolve_any (s:ByteArray)(hs:s.size<=1099511627776) (w:World)(hg:Glob w) :
  Calls Tryz.prog 18 #[.string s] w fun e w'=>e=.returned (.string ⟨(res (bl s)).toArray⟩)/\Below w.heap.size w w':=by
 go_enter Tryz.func18,Tryz.ntmps18
 go_wp2
 go_step3
 go_wp2
 go_step3
 go_wp2
 go_loopg [4] s.size (fun g v wr=>∃ (p:Nat) (acc:List UInt8),p+g=s.size/\v=.int .i64 (p:Int)/\acc.length<=p/\Lib.IsBuilderF 71 5 w.heap.size w.heap.size (Lib.byteCells acc) wr/\Below w.heap.size w wr/\Hid (acc++res ((bl s).drop p)=res (bl s)))
 case atStart =>
  exact⟨0,[],by omega,rfl,by simp,Lib.IsBuilderF.of (Lib.fresh_isBuilder 71 5 w),(Below.refl _ w).alloc (Nat.le_refl _) _,hide rfl⟩
 case round =>
  obtain⟨p,acc,hpg,rfl,hal,hI,hbw,HA⟩:=hrel
  obtain⟨og,rfl⟩:∃ q,q=gk:=⟨gk,rfl⟩
  by_cases hlt:p < s.size
  ·have i0:∀ w,(Instr.index 9 (.string s) (.int .i64 (p:Int))).run Tryz.prog w=.ok (.int .u8 (atN ((bl s).drop p) 0:Nat)) w:=idx_run s p 0 hlt
   rw[atN_drop s p hlt] at i0
   have hdc:=drop_cons s p hlt
   generalize (bl s)[p]'(by rw[bl_len];exact hlt)=c at i0 hdc
   obtain⟨z,hz⟩:∃ z:Int,z=(c.toNat:Int):=⟨_,rfl⟩
   rw[<-hz] at i0
   have HZ:=hide hz
   have z0:0<=z:=by omega
   have z1:z<=255:=by have:=c.toNat_lt;omega
   by_cases h38:c=38
   ·have hz38:z=38:=by rw[hz,h38];rfl
    subst hz38
    subst h38
    clear hz HZ z0 z1
    have HN0:refAt ((bl s).drop (p+1))=none->Hid ((acc++[38])++res ((bl s).drop (p+1))=res (bl s)):=fun h=>hide (by rw[<-HA.out,hdc,res_none _ h];simp)
    have HN1:∀ r k,refAt ((bl s).drop (p+1))=some (r,k)->Hid ((acc++er r)++res ((bl s).drop (p+1+k))=res (bl s)):=fun r k h=>hide (by rw[<-HA.out,hdc,res_some _ r k h,List.drop_drop];simp)
    have HNS:=hide (And.intro HN0 HN1)
    clear HN0 HN1 hdc HA
    go_wp2
    go_loopg [4,5] 9 (fun g2 v4 v wy=>∃ (i e:Nat),v4=.int .i64 (p:Int)/\i+g2=9/\Hid (e=p+1+i)/\v=.int .i64 (e:Int)/\e<=s.size/\wy=wr/\Hid (∀ j,j < i->((bl s).drop (p+1))[j]?≠some 59))
    case atStart=>exact⟨0,p+1,rfl,by omega,hide rfl,by first | rfl | simp,by omega,rfl,hide (by intro j hj;omega)⟩
    case round =>
     obtain⟨i,e,rfl,hig,HE,rfl,hes,rfl,HJ⟩:=hrel
     have hep:p+1<=e:=by have:=HE.out;omega
     have hi9:i<=9:=by omega
     have leave:∀ (wx:World),Below wr.heap.size wr wx->Hid (refAt ((bl s).drop (p+1))=none)->Calls Tryz.prog 62 #[.pointer (some ⟨w.heap.size,0,none⟩),.int .u8 38] wx fun e w'=>e=.returned .nilIface/\Lib.IsBuilderF 71 5 w.heap.size w.heap.size (Lib.byteCells (acc++[38])) w'/\Below w.heap.size w w'/\Hid ((acc++[38])++res ((bl s).drop (p+1))=res (bl s)):=by
      intro wx hbx HR
      refine (Tryz.Builder_WriteByte_k w.heap.size w.heap.size _ 38 _ (builder_below hI hbx) (by rw[Lib.byteCells_length];omega) (Nat.le_trans hbw.size hbx.size)).mono ?_
      rintro e W1 ⟨rfl,h1,b1,_⟩
      refine⟨rfl,?_,(hbw.trans (hbx.mono hbw.size)).trans b1,HNS.out.1 HR.out⟩
      rw[Lib.byteCells_append]
      exact Or.inr h1
     by_cases hin:e < s.size/\i<=8
     ·obtain⟨hel,hi8⟩:=hin
      have he9:e<=p+9:=by have:=HE.out;omega
      have ie:∀ w,(Instr.index 9 (.string s) (.int .i64 (e:Int))).run Tryz.prog w=.ok (.int .u8 (atN ((bl s).drop e) 0:Nat)) w:=idx_run s e 0 hel
      rw[atN_drop s e hel] at ie
      have hge:=getE_drop s (p+1) i (by have:=HE.out;omega)
      have hge:((bl s).drop (p+1))[i]?=some ((bl s)[e]'(by rw[bl_len];exact hel)):=by rw[hge];simp only[HE.out]
      generalize (bl s)[e]'(by rw[bl_len];exact hel)=c2 at ie hge
      obtain⟨y,hy⟩:∃ y:Int,y=(c2.toNat:Int):=⟨_,rfl⟩
      rw[<-hy] at ie
      have y0:0<=y:=by omega
      have y1:y<=255:=by have:=c2.toNat_lt;omega
      by_cases h59:c2=59
      ·have hy59:y=59:=by rw[hy,h59];rfl
       subst hy59
       subst h59
       have hsz:(s.extract (p+1) e).size<=8:=by have:=HE.out;simp;omega
       have hsf:=fun w hg=>standsFor_any (s.extract (p+1) e) hsz w hg
       have hbe:bl (s.extract (p+1) e)=((bl s).drop (p+1)).take i:=by rw[extract_bl];congr 1;have:=HE.out;omega
       have href:=refAt_here ((bl s).drop (p+1)) i (by have:=HE.out;rw[List.length_drop,bl_len];omega) hi8 HJ.out hge
       rw[hbe] at hsf
       clear hy y0 y1 hge HJ hbe hsz
       cases hsv:sf (((bl s).drop (p+1)).take i) with
       | some r =>
        rw[hsv] at hsf href
        have HR:=HNS.out.2 r (i+1) href
        have hsc:=(sf_facts hsv)
        have hi2:2<=i:=by have:=hsc.1;rw[List.length_take] at this;omega
        have her:=er_len r
        unfold optS at hsf
        have hsf:∀ w,Glob w->Calls Tryz.prog 61 #[.string (s.extract (p+1) e)] w fun e w'=>e=.returned (.tuple #[.string ⟨(er r).toArray⟩,.bool true])/\Below w.heap.size w w':=hsf
        have hA:(⟨(er r).toArray⟩:ByteArray).size=(er r).length:=size_mk _
        have hAc:Lib.strCells (⟨(er r).toArray⟩:ByteArray)=Lib.byteCells (er r):=rfl
        generalize (⟨(er r).toArray⟩:ByteArray)=A at hsf hA hAc
        clear href hsc hsv HNS leave
        go_wp2_with fail
        refine (hsf _ (hg.below hbw)).mono ?_
        rintro e1 w1 ⟨rfl,hb1⟩
        go_wp2_with fail
        refine (Tryz.Builder_WriteString_k w.heap.size w.heap.size _ A _ (builder_below hI hb1) (by rw[Lib.byteCells_length];omega) (Nat.le_trans hbw.size hb1.size)).mono ?_
        rintro e1 w2 ⟨rfl,h1,b1,_⟩
        go_wp2_with fail
        have hE:=HE.out
        go_roundg (og - (i+2))
        case measure=>omega
        case rel =>
         refine⟨e+1,acc++er r,by omega,by first | rfl | simp,by simp;omega,?_,(hbw.trans (hb1.mono hbw.size)).trans b1,hide ?_⟩
         ·rw[Lib.byteCells_append,<-hAc]
          exact Or.inr h1
         ·rw[<-HR.out,show e+1=p+1+(i+1) by omega]
       | none =>
        rw[hsv] at hsf href
        unfold optS at hsf
        have hsf:∀ w,Glob w->Calls Tryz.prog 61 #[.string (s.extract (p+1) e)] w fun e w'=>e=.returned (.tuple #[.string ⟨#[]⟩,.bool false])/\Below w.heap.size w w':=hsf
        have HR:=hide href
        have HR:Hid (refAt ((bl s).drop (p+1))=none):=HR
        clear href hsv HNS
        go_wp2_with fail
        refine (hsf _ (hg.below hbw)).mono ?_
        rintro e1 w1 ⟨rfl,hb1⟩
        go_wp2_with fail
        refine (leave _ hb1 HR).mono ?_
        rintro e1 w2 ⟨rfl,h1,b1,HN⟩
        go_wp2_with fail
        go_roundg (og - 1)
        case measure=>omega
        case rel=>exact⟨p+1,acc++[38],by omega,by first | rfl | simp,by simp;omega,h1,b1,HN⟩
      ·have hb59:(y != 59)=true:=bne_iff_ne.2 (by
        intro e
        apply h59
        have:c2=UInt8.ofNat 59:=(u8_eq (by decide)).2 (by omega)
        exact this)
       have HJ2:Hid (∀ j,j < i+1->((bl s).drop (p+1))[j]?≠some 59):=hide (by
        intro j hj
        by_cases hji:j=i
        ·subst hji
         rw[hge]
         intro e
         apply h59
         simpa using e
        ·exact HJ.out j (by omega))
       clear hy hge HJ HNS leave
       go_wp2
       have hE:=HE.out
       go_roundg (gk - 1)
       case measure=>omega
       case rel=>exact⟨i+1,e+1,rfl,by omega,hide (by omega),by first | rfl | simp,by omega,rfl,HJ2⟩
     ·have HR:Hid (refAt ((bl s).drop (p+1))=none):=hide (refAt_not _ i (by have:=HE.out;rw[List.length_drop,bl_len];omega) HJ.out)
      by_cases hel:e < s.size
      ·have hi10:e=p+10:=by have:=HE.out;omega
       have hd9:¬ (e:Int) - (p:Int)<=9:=by omega
       clear HJ HNS hin
       go_wp2_with fail
       refine (leave _ (Below.refl _ _) HR).mono ?_
       rintro e1 w2 ⟨rfl,h1,b1,HN⟩
       go_wp2_with fail
       go_roundg (og - 1)
       case measure=>omega
       case rel=>exact⟨p+1,acc++[38],by omega,by first | rfl | simp,by simp;omega,h1,b1,HN⟩
      ·clear HJ HNS hin
       go_wp2_with fail
       refine (leave _ (Below.refl _ _) HR).mono ?_
       rintro e1 w2 ⟨rfl,h1,b1,HN⟩
       go_wp2_with fail
       go_roundg (og - 1)
       case measure=>omega
       case rel=>exact⟨p+1,acc++[38],by omega,by first | rfl | simp,by simp;omega,h1,b1,HN⟩
   ·have hb38:(z==38)=false:=beq_eq_false_iff_ne.2 (by
     intro e
     apply h38
     have:c=UInt8.ofNat 38:=(u8_eq (by decide)).2 (by omega)
     exact this)
    have HN:Hid ((acc++[c])++res ((bl s).drop (p+1))=res (bl s)):=hide (by rw[<-HA.out,hdc,res_plain c _ h38];simp)
    clear HA hdc hz
    go_wp2_with (go_at_call 62;refine (Tryz.Builder_WriteByte_k w.heap.size w.heap.size _ z _ hI (by rw[Lib.byteCells_length];omega) hbw.size).mono ?_)
    rintro e W1 ⟨rfl,h1,b1,_⟩
    go_wp2
    go_roundg (og - 1)
    case measure=>omega
    case rel =>
     refine⟨p+1,acc++[c],by omega,by first | rfl | simp,by simp;omega,?_,hbw.trans b1,HN⟩
     rw[Lib.byteCells_append]
     rw[HZ.out] at h1
     exact Or.inr h1
  ·go_wp2_with (go_at_call 60;refine (Tryz.Builder_String_any_k w.heap.size w.heap.size acc _ hI hbw.size).mono ?_)
   rintro e W1 ⟨rfl,_,b1,_⟩
   go_wp2
   try rw[Exit.noGoto_ret]
   go_ret
   have hacc:=HA.out
   rw[drop_all s p hlt,res_nil,List.append_nil] at hacc
   rw[hacc]
   exact⟨rfl,hbw.trans b1⟩
end Go.Proofs.YtkiofbikkhhdfabGreatDoor.To
namespace Go.Proofs.YtkiofbikkhhdfabGreatDoor.Dm
open Go.RowKit
open Utf1
def St0 (w:World) (base B:Nat) (os:List Nd) (pa bv:Value) (o n:Nat):Prop :=
 base<=B/\base<=w.heap.size/\∃ (ov:Value) (l:List (Nd × Value × Value)) (fp:List Nat),l.map Prod.fst=os/\BB w B ov pa bv (.int .i64 (o:Int)) (.int .i64 (n:Int))/\w.ownsRow base 80 4 ov l.length (ndCells l)/\KAll w base l fp/\(blk ov++fp).Nodup
def St (w:World) (base B:Nat) (os:List Nd) (t:List UInt8) (o n:Nat):Prop:=∃ pa bv,St0 w base B os pa bv o n/\Wait w base B pa bv t
def addKid (nd:Nd) (x:Nd):Nd:=.mk nd.name nd.attrs nd.text (nd.kids++[x])
theorem kall_split {w:World}{base:Nat}:∀ {a b:List (Nd × Value × Value)}{fp:List Nat},KAll w base (a++b) fp->∃ fa fb,fp=fa++fb/\KAll w base a fa/\KAll w base b fb
 | [],b,fp,h=>⟨[],fp,rfl,.nil,h⟩
 | (n,av,kv) :: a,b,_,.cons _ _ _ _ f fps ha hk hl=>by
  obtain⟨fa,fb,rfl,h1,h2⟩:=kall_split hl
  exact⟨f++fa,fb,by rw[List.append_assoc],.cons n av kv a f fa ha hk h1,h2⟩
theorem kall_one {w:World}{base:Nat}{n:Nd}{av kv:Value}{fp:List Nat}(h:KAll w base [(n,av,kv)] fp):w.ownsRow base 108 2 av n.attrs.length (attrCells n.attrs)/\KAt w base kv n.kids fp:=by
 generalize hl:[(n,av,kv)]=l at h
 cases h with
 | nil=>cases hl
 | cons n' av' kv' l f fps ha hk hl' =>
  cases hl
  cases hl'
  rw[List.append_nil]
  exact⟨ha,hk⟩
theorem kat_inv {w:World}{base:Nat}{v:Value}{ns:List Nd}{fp:List Nat}(h:KAt w base v ns fp):∃ l f,ns=l.map Prod.fst/\fp=blk v++f/\w.ownsRow base 80 4 v l.length (ndCells l)/\KAll w base l f:=by
 cases h with
 | mk v l f row all=>exact⟨l,f,rfl,rfl,row,all⟩
theorem nodup_put {ko:List Nat}{fi bk fk f2 bk':List Nat}{N:Nat}(h:(ko++(fi++(bk++fk))).Nodup)(h2:f2.Nodup)(hd:∀ k∈f2,k ∉ ko++(fi++(bk++fk)))(hlt:∀ k∈ko++(fi++(bk++fk)),k < N)(hlt2:∀ k∈f2,k < N)
  (hb:bk'=bk\/∃ g,bk'=[g]/\N<=g):(ko++(fi++(bk'++(fk++f2)))).Nodup:=by
 have key:∀ b:List Nat,(∀ k∈b,k ∉ ko/\k ∉ fi/\k ∉ fk/\k ∉ f2)->b.Nodup->(ko++(fi++(b++(fk++f2)))).Nodup:=by
  intro b h1 h3
  simp only[List.nodup_append,List.mem_append] at h hd ⊢
  refine⟨h.1,⟨h.2.1.1,⟨h3,⟨h.2.1.2.1.2.1,h2,?_⟩,?_⟩,?_⟩,?_⟩
  ·intro a ha c hc e
   subst e
   exact hd a hc (.inr (.inr (.inr ha)))
  ·rintro a ha c (hc | hc) e <;> subst e
   ·exact (h1 a ha).2.2.1 hc
   ·exact (h1 a ha).2.2.2 hc
  ·rintro a ha c (hc | hc | hc) e <;> subst e
   ·exact (h1 a hc).2.1 ha
   ·exact h.2.1.2.2 a ha a (.inr hc) rfl
   ·exact hd a hc (.inr (.inl ha))
  ·rintro a ha c (hc | hc | hc | hc) e <;> subst e
   ·exact h.2.2 a ha a (.inl hc) rfl
   ·exact (h1 a hc).1 ha
   ·exact h.2.2 a ha a (.inr (.inr hc)) rfl
   ·exact hd a hc (.inl ha)
 rcases hb with rfl | ⟨g,rfl,hgN⟩
 ·refine key _ ?_ ?_
  ·intro k hk
   simp only[List.nodup_append,List.mem_append] at h hd
   refine⟨fun e=>h.2.2 k e k (.inr (.inl hk)) rfl,fun e=>h.2.1.2.2 k e k (.inl hk) rfl,fun e=>h.2.1.2.1.2.2 k hk k e rfl,fun e=>hd k e (.inr (.inr (.inl hk)))⟩
  ·simp only[List.nodup_append] at h
   exact h.2.1.2.1.1
 ·refine key _ ?_ (by simp)
  intro k hk
  have hk:k=g:=by simpa using hk
  subst hk
  refine⟨fun e=>?_,fun e=>?_,fun e=>?_,fun e=>?_⟩
  ·have:=hlt k (List.mem_append_left _ e);omega
  ·have:=hlt k (List.mem_append_right _ (List.mem_append_left _ e));omega
  ·have:=hlt k (List.mem_append_right _ (List.mem_append_right _ (List.mem_append_right _ e)));omega
  ·have:=hlt2 k e;omega
def StX (w:World) (base B:Nat) (os:List Nd) (pa bv:Value) (o n:Nat) (x:Nd) (av2 kv2:Value):Prop :=
 base<=B/\base<=w.heap.size/\∃ (ov:Value) (l:List (Nd × Value × Value)) (fp f2:List Nat),l.map Prod.fst=os/\BB w B ov pa bv (.int .i64 (o:Int)) (.int .i64 (n:Int))/\w.ownsRow base 80 4 ov l.length (ndCells l)/\KAll w base l fp/\(blk ov++fp).Nodup /\
  w.ownsRow base 108 2 av2 x.attrs.length (attrCells x.attrs)/\KAt w base kv2 x.kids f2/\f2.Nodup/\∀ k∈f2,k ∉ blk ov++fp
theorem map_snoc {l:List (Nd × Value × Value)}{i:List Nd}{nd:Nd}(h:l.map Prod.fst=i++[nd]):∃ li av kv,l=li++[(nd,av,kv)]/\li.map Prod.fst=i:=by
 obtain⟨l1,l2,rfl,h1,h2⟩:=List.map_eq_append_iff.1 h
 match l2,h2 with
 | [(n,av,kv)],h2 =>
  have:n=nd:=by simpa using h2
  subst this
  exact⟨l1,av,kv,rfl,h1⟩
theorem own_two_ne {w:World}{base base':Nat}{e e':TypeId}{size size':Nat}{v v':Value}{n n':Nat}{xs xs':List Value}(h:w.ownsRow base e size v n xs)(h':w.ownsRow base' e' size' v' n' xs')(hne:e≠e') {k:Nat}(hv:v.ownBlock=some k)(hv':v'.ownBlock=some k):False:=by
 rcases own_two h h' hne with e1 | e1
 ·rw[hv] at e1
  cases e1
 ·exact e1 (hv.trans hv'.symm)
theorem nd_one (l:List (Nd × Value × Value)) (x:Nd) (av kv:Value):ndCells (l++[(x,av,kv)])=ndCells l++[.string ⟨x.name.toArray⟩,av,.string ⟨x.text.toArray⟩,kv]:=by
 rw[ndCells_app]
 rfl
theorem nd_same (l:List (Nd × Value × Value)) (nd x:Nd) (av kv:Value):ndCells (l++[(nd,av,kv)])=ndCells (l++[(addKid nd x,av,kv)]):=by
 rw[nd_one,nd_one]
 cases nd
 rfl
theorem put_st (w:World) (base B:Nat) (i:List Nd) (nd:Nd) (pa bv:Value) (o n:Nat) (x:Nd) (ap:Option Addr) (am ac:Nat) (cp:Option Addr) (cm cc:Nat)(h:StX w base B (i++[nd]) pa bv o n x (.slice ap am ac) (.slice cp cm cc))(hi:i.length<=100000)(hk:nd.kids.length<=100000) :
  Calls Tryz.prog 81 #[.pointer (some ⟨B,0,none⟩),.agg #[.string ⟨x.name.toArray⟩,.slice ap am ac,.string ⟨x.text.toArray⟩,.slice cp cm cc]] w fun e w'=>e=.returned (.tuple #[])/\St0 w' base B (i++[addKid nd x]) pa bv o n/\Below base w w'/\∀ (b:Nat) (v:Value) (m:Nat) (xs:List Value),w.ownsRow b 5 1 v m xs->w'.ownsRow b 5 1 v m xs:=by
 obtain⟨hbB,hbw,ov,l,fp,f2,hl,hBB,hro,hall,hnd,hxa,hxk,hf2,hdis⟩:=h
 obtain⟨li,av,kv,rfl,hli⟩:=map_snoc hl
 obtain⟨fi,fb,rfl,hki,hk1⟩:=kall_split hall
 obtain⟨hav,hkv⟩:=kall_one hk1
 obtain⟨k,fk,hkk,rfl,hrk,hkall⟩:=kat_inv hkv
 have hlen:(li++[(nd,av,kv)]).length=li.length+1:=by simp
 rw[hlen] at hro
 obtain⟨go,oc,rfl,-⟩:=own_at hro (by omega)
 obtain⟨kp,km,kc,rfl⟩:=own_slice hrk
 have hlt:∀ j∈blk (.slice (some ⟨go,0,none⟩) (li.length+1) oc)++(fi++(blk (.slice kp km kc)++fk)),j < w.heap.size:=by
  intro j hj
  rcases List.mem_append.1 hj with hj | hj
  ·exact (own_lt hro j hj).2
  ·exact (hall.lt j hj).2
 have hlt2:∀ j∈f2,j < w.heap.size:=fun j hj=>(hxk.lt j hj).2
 have hgo:∀ j∈fi++(blk (.slice kp km kc)++fk),j≠go:=by
  intro j hj e
  subst e
  exact (List.nodup_append.1 hnd).2.2 j (by simp[blk,Value.ownBlock]) j hj rfl
 have hne:(Value.slice kp km kc).ownBlock≠some go:=by
  intro e
  exact hgo go (List.mem_append_right _ (List.mem_append_left _ (by unfold blk;rw[e];simp))) rfl
 have hil:li.length<=100000:=by
  have:=congrArg List.length hli
  rw[List.length_map] at this
  omega
 have hkl:k.length<=100000:=by
  have:=congrArg List.length hkk
  rw[List.length_map] at this
  omega
 refine (put_any w B base go oc pa bv _ _ li nd av kp km kc k ⟨x.name.toArray⟩ ⟨x.text.toArray⟩ ap am ac cp cm cc hBB hro hrk hne hkl hil hbB hbw).mono ?_
 rintro e w' ⟨rfl,kv',p1,p2,p3,p4,p5,p6⟩
 have hnd':=hnd
 simp only[List.nodup_append,List.mem_append] at hnd'
 have hS1:∀ j∈fi,j ∉ go :: blk (.slice kp km kc):=by
  intro j hj hm
  rcases List.mem_cons.1 hm with e | hm
  ·exact hgo j (List.mem_append_left _ hj) e
  ·exact hnd'.2.1.2.2 j hj j (.inl hm) rfl
 have hS2:∀ j∈fk,j ∉ go :: blk (.slice kp km kc):=by
  intro j hj hm
  rcases List.mem_cons.1 hm with e | hm
  ·exact hgo j (List.mem_append_right _ (List.mem_append_right _ hj)) e
  ·exact hnd'.2.1.2.1.2.2 j hm j hj rfl
 have hS3:∀ j∈f2,j ∉ go :: blk (.slice kp km kc):=by
  intro j hj hm
  refine hdis j hj ?_
  rcases List.mem_cons.1 hm with e | hm
  ·subst e
   exact List.mem_append_left _ (by simp[blk,Value.ownBlock])
  ·exact List.mem_append_right _ (List.mem_append_right _ (List.mem_append_left _ hm))
 refine⟨rfl,⟨hbB,Nat.le_trans hbw p6.size,_,li++[(addKid nd x,av,kv')],fi++(blk kv'++(fk++f2)),?_,p1,?_,?_,?_⟩,p6,?_⟩
 ·rw[List.map_append,hli]
  rfl
 ·rw[<-nd_same,List.length_append]
  exact p2
 ·refine (hki.stays p5 hS1).app ?_
  have hat:w'.ownsRow base 108 2 av (addKid nd x).attrs.length (attrCells (addKid nd x).attrs):=by
   have:=attr_stays hav p5
   cases nd
   exact this
  have hkids:KAt w' base kv' (addKid nd x).kids (blk kv'++(fk++f2)):=by
   have h1:=KAt.mk kv' (k++[(x,.slice ap am ac,.slice cp cm cc)]) (fk++f2) (by rw[nd_one,List.length_append];exact p3) ((hkall.stays p5 hS2).app (by
    have:=KAll.cons x _ _ [] f2 [] (attr_stays hxa p5) (hxk.stays p5 hS3) .nil
    rw[List.append_nil] at this
    exact this))
   have h2:(addKid nd x).kids=(k++[(x,Value.slice ap am ac,Value.slice cp cm cc)]).map Prod.fst:=by
    rw[List.map_append,<-hkk]
    cases nd
    rfl
   rw[h2]
   exact h1
  have:=KAll.cons (addKid nd x) av kv' [] _ [] hat hkids .nil
  rw[List.append_nil] at this
  exact this
 ·refine nodup_put hnd hf2 hdis hlt hlt2 ?_
  rcases p4 with e | ⟨g,e,hg⟩
  ·exact .inl (by unfold blk;rw[e])
  ·exact .inr ⟨g,by unfold blk;rw[e];rfl,hg⟩
 ·intro b v m xs ho
  refine own_stays ho p5.block ?_
  intro j hj hm
  rcases List.mem_cons.1 hm with rfl | hm
  ·exact own_two_ne ho hro (by decide) hj rfl
  ·exact own_two_ne ho hrk (by decide) hj (by unfold blk at hm;simpa using hm)
theorem row_typed {w:World}{base:Nat}{e:TypeId}{size:Nat}{v:Value}{n:Nat}{xs:List Value}(h:w.ownsRow base e size v n xs):∀ k∈blk v,∃ cs fz,w.heap[k]?=some (.cells cs e fz):=by
 intro k hk
 unfold blk at hk
 obtain⟨_,⟨rfl,_⟩ | ⟨g,cap,cur,rfl,hb,hg,_⟩⟩:=h
 ·simp[Value.ownBlock] at hk
 ·have:k=g:=by simpa [Value.ownBlock] using hk
  subst this
  exact⟨_,_,hg⟩
mutual
theorem node_typed {w:World}{base:Nat}{v:Value}{ns:List Nd}{fp:List Nat}(h:KAt w base v ns fp):∀ k∈fp,∃ cs fz,w.heap[k]?=some (.cells cs 80 fz) :=
 match h with
 | .mk v l fp row all=>fun k hk=>(List.mem_append.1 hk).elim (row_typed row k) (nodes_typed all k)
theorem nodes_typed {w:World}{base:Nat}{l:List (Nd × Value × Value)}{fp:List Nat}(h:KAll w base l fp):∀ k∈fp,∃ cs fz,w.heap[k]?=some (.cells cs 80 fz) :=
 match h with
 | .nil=>fun k hk=>by cases hk
 | .cons n av kv l fp fps ha hk hl=>fun k hk'=>(List.mem_append.1 hk').elim (node_typed hk k) (nodes_typed hl k)
end
theorem stx_text {w:World}{base B:Nat}{os:List Nd}{pa bv:Value}{o n:Nat}(h:St0 w base B os pa bv o n) (t:List UInt8):StX w base B os pa bv o n (.mk [] [] t []) (.slice none 0 0) (.slice none 0 0):=by
 obtain⟨h1,h2,ov,l,fp,h3,h4,h5,h6,h7⟩:=h
 exact⟨h1,h2,ov,l,fp,[],h3,h4,h5,h6,h7,World.ownsRow_nil _ _ _ _,KAt.empty _ _,List.nodup_nil,fun _ hk=>by cases hk⟩
theorem St0.stays {w w':World}{base B:Nat}{os:List Nd}{pa bv pa' bv':Value}{o n o' n':Nat}{S:List Nat}(h:St0 w base B os pa bv o n)(hS:Stays w w' S)(hN:∀ k∈S,∀ cs fz,w.heap[k]?≠some (.cells cs 80 fz))
  (hb:∀ ov,BB w B ov pa bv (.int .i64 (o:Int)) (.int .i64 (n:Int))->BB w' B ov pa' bv' (.int .i64 (o':Int)) (.int .i64 (n':Int))):St0 w' base B os pa' bv' o' n':=by
 obtain⟨h1,h2,ov,l,fp,h3,h4,h5,h6,h7⟩:=h
 have key:∀ k∈blk ov++fp,k ∉ S:=by
  intro k hk hkS
  obtain⟨cs,fz,e⟩:=node_typed (KAt.mk ov l fp h5 h6) k hk
  exact hN k hkS cs fz e
 refine⟨h1,Nat.le_trans h2 hS.size,ov,l,fp,h3,hb ov h4,own_stays h5 hS.block (fun k hk=>key k (List.mem_append_left _ (by unfold blk;rw[hk];simp))),h6.stays hS (fun k hk=>key k (List.mem_append_right _ hk)),h7⟩
end Go.Proofs.YtkiofbikkhhdfabGreatDoor.Dm
namespace Go.Proofs.YtkiofbikkhhdfabGreatDoor.Dm
open Go.RowKit
open Utf1
def textIn (nd:Nd) (t:List UInt8):Nd:=if t=[] then nd else addKid nd (.mk [] [] t [])
theorem St0.bb {w:World}{base B:Nat}{os:List Nd}{pa bv:Value}{o n:Nat}(h:St0 w base B os pa bv o n):∃ ov,BB w B ov pa bv (.int .i64 (o:Int)) (.int .i64 (n:Int)):=by
 obtain⟨_,_,ov,_,_,_,h4,_⟩:=h
 exact⟨ov,h4⟩
theorem bytes_no_node {w:World}{base B:Nat}{pa bv:Value}{t:List UInt8}(h:Wait w base B pa bv t):∀ k∈blk bv,∀ cs fz,w.heap[k]?≠some (.cells cs 80 fz):=by
 intro k hk cs fz e
 exact own_apart h.2 e (by decide) (by unfold blk at hk;simpa using hk)
theorem bb_no_node {w:World}{B:Nat}{ov pa bv x y:Value}(h:BB w B ov pa bv x y):∀ k∈[B],∀ cs fz,w.heap[k]?≠some (.cells cs 80 fz):=by
 intro k hk cs fz e
 have:k=B:=by simpa using hk
 subst this
 unfold BB at h
 rw[h] at e
 simp at e
theorem endText_st (w:World) (base B:Nat) (i:List Nd) (nd:Nd) (t:List UInt8) (o n:Nat)(h:St w base B (i++[nd]) t o n)(hi:i.length<=100000)(hk:nd.kids.length<=100000)(ht:t.length<=100000000) :
  Calls Tryz.prog 47 #[.pointer (some ⟨B,0,none⟩)] w fun e w'=>e=.returned (.tuple #[])/\St w' base B (i++[textIn nd t]) [] o n/\Below base w w':=by
 obtain⟨pa,bv,h0,hw⟩:=h
 obtain⟨ov,hB⟩:=h0.bb
 obtain⟨bp,bm,bc,rfl⟩:=own_slice hw.2
 have hbm:bm=t.length:=by
  obtain⟨_,_,e⟩:=own_len hw.2
  injection e with _ e2 _
  rw[byte_len] at e2
  exact e2
 subst hbm
 have HL:=hide (blen_any w B ov pa bp t.length bc _ _ hB)
 have hBl:B < w.heap.size:=lt_of_block hB
 by_cases ht0:t=[]
 ·subst ht0
  have HE:Hid (St w base B (i++[textIn nd []]) [] o n):=hide ⟨pa,_,by unfold textIn;rw[if_pos rfl];exact h0,hw⟩
  clear h0 hw hB
  go_enter Tryz.func47,Tryz.ntmps47
  go_wp2_with fail
  refine HL.out.mono ?_
  rintro e w1 ⟨rfl,rfl⟩
  clear HL
  go_wp2_with fail
  go_end0
  exact⟨rfl,HE.out,Below.refl _ _⟩
 ·have hpos:0 < t.length:=List.length_pos_iff.2 ht0
  have hd:decide ((0:Int) < (t.length:Int))=true:=decide_eq_true (by omega)
  have HST:=hide (bstring_any w B base ov pa (.slice bp t.length bc) _ _ t hB hw ht0)
  have HH:=hide (And.intro h0 hw)
  clear h0 hw
  go_enter Tryz.func47,Tryz.ntmps47
  go_wp2_with fail
  refine HL.out.mono ?_
  rintro e w1 ⟨rfl,rfl⟩
  clear HL
  go_wp2_with fail
  refine HST.out.mono ?_
  rintro e w2 ⟨rfl,hB2,hs2,hb2⟩
  have h2:St0 w2 base B (i++[nd]) pa (.slice bp t.length bc) o n:=HH.out.1.stays hs2 (bytes_no_node HH.out.2) (fun ov' hB'=>by
   have e:BB w1 B ov pa (.slice bp t.length bc) (.int .i64 (o:Int)) (.int .i64 (n:Int)):=hB
   unfold BB at hB' e
   rw[e] at hB'
   simp at hB'
   subst hB'
   exact hB2)
  have HP:=hide (put_st w2 base B i nd pa (.slice bp t.length bc) o n (.mk [] [] t []) none 0 0 none 0 0 (stx_text h2 t) hi hk)
  have HB2:=hide hb2
  clear HST h2 hs2 hb2 hB2
  go_wp2_with fail
  refine HP.out.mono ?_
  rintro e w3 ⟨rfl,h3,hb3,-⟩
  obtain⟨ov3,hB3⟩:=h3.bb
  have HR:=hide (breset_any w3 B ov3 pa (.slice bp t.length bc) _ _ hB3)
  have HE:Hid (St ((w3.setCell ⟨B,1,none⟩ (.pointer none)).setCell ⟨B,2,none⟩ (.slice none 0 0)) base B (i++[textIn nd t]) [] o n/\Below base w1 ((w3.setCell ⟨B,1,none⟩ (.pointer none)).setCell ⟨B,2,none⟩ (.slice none 0 0))):=hide (by
   have hbB:=h3.1
   refine⟨⟨.pointer none,.slice none 0 0,?_,.inl rfl,World.ownsRow_nil _ _ _ _⟩,(((HB2.out.trans hb3).setCell (p:=⟨B,1,none⟩) hbB _).setCell (p:=⟨B,2,none⟩) hbB _)⟩
   have e1:i++[textIn nd t]=i++[addKid nd (.mk [] [] t [])]:=by
    unfold textIn
    rw[if_neg ht0]
   rw[e1]
   have s1:=stays_set hB3 1 (.pointer none)
   have hB4:=(bb_set hB3 (.pointer none)).1
   have s2:=stays_set hB4 2 (.slice none 0 0)
   have q1:St0 (w3.setCell ⟨B,1,none⟩ (.pointer none)) base B (i++[addKid nd (.mk [] [] t [])]) (.pointer none) (.slice bp t.length bc) o n:=h3.stays s1 (bb_no_node hB3) (fun ov' hb=>(bb_set hb _).1)
   exact q1.stays s2 (bb_no_node hB4) (fun ov' hb=>(bb_set hb _).2))
  clear HP h3 hb3 hB3
  go_wp2_with fail
  refine HR.out.mono ?_
  rintro e w4 ⟨rfl,rfl⟩
  clear HR
  go_wp2_with fail
  go_end0
  exact⟨rfl,HE.out⟩
end Go.Proofs.YtkiofbikkhhdfabGreatDoor.Dm
namespace Utf1
mutual
def cntN:Nd->Nat
 | .mk _ _ _ k=>1+cntL k
def cntL:List Nd->Nat
 | []=>0
 | n :: r=>cntN n+cntL r
end
theorem cntL_app:∀ a b:List Nd,cntL (a++b)=cntL a+cntL b
 | [],b=>by simp[cntL]
 | n :: a,b=>by
  rw[List.cons_append,cntL,cntL,cntL_app a b]
  omega
theorem cntN_kids (n:Nd):cntN n=1+cntL n.kids:=by
 cases n
 rw[cntN]
 rfl
theorem len_cnt:∀ l:List Nd,l.length<=cntL l
 | []=>Nat.le_refl _
 | n :: r=>by
  have:=len_cnt r
  have h1:=cntN_kids n
  rw[cntL,List.length_cons]
  omega
end Utf1
namespace Go.Proofs.YtkiofbikkhhdfabGreatDoor.Dm
open Go.RowKit
open Utf1
def tx (t:List UInt8):Nat:=if t=[] then 0 else 1
theorem cnt_add (nd x:Nd):cntN (addKid nd x)=cntN nd+cntN x:=by
 rw[cntN_kids,cntN_kids nd]
 show 1+cntL (nd.kids++[x])=_
 rw[cntL_app]
 simp only[cntL]
 omega
theorem cnt_text (nd:Nd) (t:List UInt8):cntN (textIn nd t)=cntN nd+tx t:=by
 unfold textIn tx
 split
 ·rfl
 ·rw[cnt_add,cntN]
  rfl
def closeR:Nat->List Nd->List UInt8->List Nd × List UInt8
 | n+1,nd :: p :: r,t=>closeR n (addKid p (textIn nd t) :: r) []
 | _,r,t=>(r,t)
theorem own_pop {w:World}{base:Nat}{e:TypeId}{size g n cap:Nat}{xs ys:List Value}(h:w.ownsRow base e size (.slice (some ⟨g,0,none⟩) (n+1) cap) (n+1) (xs++ys))(hy:ys.length=size):w.ownsRow base e size (.slice (some ⟨g,0,none⟩) n cap) n xs:=by
 obtain⟨h1,⟨e1,_⟩ | ⟨g',cap',cur,e1,h2,h3,h4,h5,h6,h7⟩⟩:=h
 ·cases e1
 ·cases e1
  have hx:xs.length=n*size:=by
   rw[List.length_append,hy,Nat.add_mul,Nat.one_mul] at h1
   omega
  refine⟨hx,.inr ⟨g,cap,cur,rfl,h2,h3,by omega,h5,h6,?_⟩⟩
  have:=congrArg (List.take (n*size)) h7
  rw[List.take_take,Nat.min_eq_left (Nat.mul_le_mul_right _ (Nat.le_succ n)),<-hx,List.take_left] at this
  rw[<-hx]
  exact this
theorem pop_facts {w:World}{base B:Nat}{i:List Nd}{nd:Nd}{pa bv:Value}{o n:Nat}(h:St0 w base B (i++[nd]) pa bv o n):∃ (go oc:Nat) (ap:Option Addr) (am ac:Nat) (cp:Option Addr) (cm cc:Nat),
  BB w B (.slice (some ⟨go,0,none⟩) (i.length+1) oc) pa bv (.int .i64 (o:Int)) (.int .i64 (n:Int)) /\
  w.cell? ⟨go,i.length*4,none⟩=some (.string ⟨nd.name.toArray⟩)/\w.cell? ⟨go,i.length*4+1,none⟩=some (.slice ap am ac)/\w.cell? ⟨go,i.length*4+2,none⟩=some (.string ⟨nd.text.toArray⟩)/\w.cell? ⟨go,i.length*4+3,none⟩=some (.slice cp cm cc)/\i.length+1<=oc /\
  ∀ w',Below w.heap.size w w'->StX (w'.setCell ⟨B,0,none⟩ (.slice (some ⟨go,0,none⟩) i.length oc)) base B i pa bv o n nd (.slice ap am ac) (.slice cp cm cc):=by
 obtain⟨hbB,hbw,ov,l,fp,hl,hB,hro,hall,hnd⟩:=h
 obtain⟨li,av,kv,rfl,hli⟩:=map_snoc hl
 obtain⟨fi,fb,rfl,hki,hk1⟩:=kall_split hall
 obtain⟨hav,hkv⟩:=kall_one hk1
 have hll:li.length=i.length:=by
  have:=congrArg List.length hli
  rwa [List.length_map] at this
 have hlen:(li++[(nd,av,kv)]).length=i.length+1:=by simp[hll]
 rw[hlen] at hro
 obtain⟨go,oc,rfl,hcell⟩:=own_at hro (by omega)
 obtain⟨ap,am,ac,rfl⟩:=own_slice hav
 obtain⟨k,fk,hkk,rfl,hrk,hkall⟩:=kat_inv hkv
 obtain⟨cp,cm,cc,rfl⟩:=own_slice hrk
 have hat:∀ j,j < 4->w.cell? ⟨go,i.length*4+j,none⟩=(ndCells1 nd (.slice ap am ac) (.slice cp cm cc))[j]?:=by
  intro j hj
  rw[hcell _ (by omega),ndCells_at _ i.length _ (by rw[<-hll,List.getElem?_append_right (Nat.le_refl _),Nat.sub_self];rfl) j hj]
 have hoc:i.length+1<=oc:=by
  obtain⟨_,⟨e1,_⟩ | ⟨g',cap',cur,e1,_,_,h4,_⟩⟩:=hro
  ·cases e1
  ·cases e1
   exact h4
 refine⟨go,oc,ap,am,ac,cp,cm,cc,hB,hat 0 (by decide),hat 1 (by decide),hat 2 (by decide),hat 3 (by decide),hoc,?_⟩
 intro w' hb
 have hB':BB w' B (.slice (some ⟨go,0,none⟩) (i.length+1) oc) pa bv (.int .i64 (o:Int)) (.int .i64 (n:Int)):=(hb.block _ (lt_of_block hB)).trans hB
 have hs:=stays_set hB' 0 (.slice (some ⟨go,0,none⟩) i.length oc)
 have hnB:∀ j∈blk (.slice (some ⟨go,0,none⟩) (i.length+1) oc)++(fi++(blk (.slice cp cm cc)++fk)),j ∉ [B]:=by
  intro j hj hm
  obtain⟨cs,fz,e⟩:=node_typed ((KAt.mk _ _ _ (by rw[hlen];exact hro) hall).under hb) j hj
  exact bb_no_node hB' j hm cs fz e
 have hsz:(w'.setCell ⟨B,0,none⟩ (.slice (some ⟨go,0,none⟩) i.length oc)).heap.size=w'.heap.size:=by simp
 have hnd':=List.nodup_append.1 hnd
 have hnd2:=List.nodup_append.1 hnd'.2.1
 have hro2:w'.ownsRow base 80 4 (.slice (some ⟨go,0,none⟩) i.length oc) i.length (ndCells li):=own_pop (by have:=own_below hro hb;rw[nd_one] at this;exact this) rfl
 refine⟨hbB,by rw[hsz];exact Nat.le_trans hbw hb.size,.slice (some ⟨go,0,none⟩) i.length oc,li,fi,blk (.slice cp cm cc)++fk,hli,tok_set hB' 0 _,?_,?_,?_,?_,?_,?_,?_⟩
 ·rw[hll]
  exact own_stays hro2 hs.block (fun j hj=>hnB j (List.mem_append_left _ (by have:(Value.slice (some ⟨go,0,none⟩) (i.length+1) oc).ownBlock=some j:=hj;unfold blk;rw[this];simp)))
 ·exact (hki.under hb).stays hs (fun j hj=>hnB j (List.mem_append_right _ (List.mem_append_left _ hj)))
 ·exact List.nodup_append.2 ⟨hnd'.1,hnd2.1,fun a ha c hc=>hnd'.2.2 a ha c (List.mem_append_left _ hc)⟩
 ·exact attr_stays (own_below hav hb) hs
 ·rw[hkk]
  exact KAt.stays ((KAt.mk _ k fk hrk hkall).under hb) hs (fun j hj=>hnB j (List.mem_append_right _ (List.mem_append_right _ hj)))
 ·exact hnd2.2.1
 ·intro j hj hm
  rcases List.mem_append.1 hm with hm | hm
  ·exact hnd'.2.2 j hm j (List.mem_append_right _ hj) rfl
  ·exact hnd2.2.2 j hm j hj rfl
end Go.Proofs.YtkiofbikkhhdfabGreatDoor.Dm
namespace Go.Proofs.YtkiofbikkhhdfabGreatDoor.To
open Go.RowKit
open Utf1
theorem refOf_any (r:Nat) (q:Bool)(hr:r<=1114111) (w:World) :
  Calls Tryz.prog 58 #[.int .i32 (r:Int),.bool q] w fun e w'=>e=.returned (.string ⟨(refOf q r).toArray⟩)/\w'=w:=by
 by_cases h1:r=38
 ·subst h1
  go_enter Tryz.func58,Tryz.ntmps58
  go_wp2
  go_ret
  exact⟨rfl,rfl⟩
 by_cases h2:r=60
 ·subst h2
  go_enter Tryz.func58,Tryz.ntmps58
  go_wp2
  go_ret
  exact⟨rfl,rfl⟩
 by_cases h3:r=62
 ·subst h3
  go_enter Tryz.func58,Tryz.ntmps58
  go_wp2
  go_ret
  exact⟨rfl,rfl⟩
 by_cases h4:r=160
 ·subst h4
  go_enter Tryz.func58,Tryz.ntmps58
  go_wp2
  go_ret
  exact⟨rfl,rfl⟩
 have e1:((r:Int)==38)=false:=beq_eq_false_iff_ne.2 (by omega)
 have e2:((r:Int)==60)=false:=beq_eq_false_iff_ne.2 (by omega)
 have e3:((r:Int)==62)=false:=beq_eq_false_iff_ne.2 (by omega)
 have e4:((r:Int)==160)=false:=beq_eq_false_iff_ne.2 (by omega)
 by_cases h5:r=34
 ·subst h5
  cases q
  ·go_enter Tryz.func58,Tryz.ntmps58
   go_wp2
   go_ret
   exact⟨rfl,rfl⟩
  ·go_enter Tryz.func58,Tryz.ntmps58
   go_wp2
   go_ret
   exact⟨rfl,rfl⟩
 have e5:((r:Int)==34)=false:=beq_eq_false_iff_ne.2 (by omega)
 have HR:Hid (refOf q r=[]):=hide (by
  unfold refOf
  rw[if_neg h1,if_neg h2,if_neg h3,if_neg h4,if_neg (fun h=>h5 h.1)])
 rw[HR.out]
 obtain⟨z,hz⟩:∃ z:Int,z=(r:Int):=⟨_,rfl⟩
 rw[<-hz] at e1 e2 e3 e4 e5 ⊢
 clear hz h1 h2 h3 h4 h5 HR
 go_enter Tryz.func58,Tryz.ntmps58
 go_wp2
 go_ret
 exact⟨rfl,rfl⟩
theorem refOf_len (q:Bool) (r:Nat):(refOf q r).length<=6:=by
 unfold refOf
 repeat' (split;· decide)
 decide
theorem toList_empty (l:List UInt8):(⟨l.toArray⟩:ByteArray).toList.isEmpty=l.isEmpty:=by
 rw[ByteArray.toList_eq]
theorem take_more (l:List UInt8) (dn pos wd:Nat)(h:dn<=pos):(l.drop dn).take (pos+wd - dn)=(l.drop dn).take (pos - dn)++(l.drop pos).take wd:=by
 rw[show pos+wd - dn=(pos - dn)+wd by omega,List.take_add,List.drop_drop,show dn+(pos - dn)=pos by omega]
theorem strCells_ext (s:ByteArray) (a b:Nat):Lib.strCells (s.extract a b)=Lib.byteCells (((bl s).drop a).take (b - a)):=by
 unfold Lib.strCells
 rw[Lib.extract_data]
 rfl
theorem escape_any (s:ByteArray) (q:Bool) (w:World)(hs:s.size<=1099511627776) :
  Calls Tryz.prog 17 #[.string s,.bool q] w fun e w'=>e=.returned (.string ⟨(esc q (bl s)).toArray⟩)/\Below w.heap.size w w':=by
 go_enter Tryz.func17,Tryz.ntmps17
 go_wp2
 go_loopw [6] (fun v wr=>∃ (pos dn:Nat) (acc:List UInt8),v=.int .i64 (dn:Int)/\dn<=pos/\pos<=s.size/\acc.length<=6*dn/\Lib.IsBuilderF 71 5 w.heap.size w.heap.size (Lib.byteCells acc) wr/\wr.heap[w.heap.size+1]?=some (.stringIter s pos)/\Below w.heap.size w wr/\Hid (acc++(((bl s).drop dn).take (pos - dn)++esc q ((bl s).drop pos))=esc q (bl s))) (fun _ wr=>s.size - wr.iterPos (w.heap.size+1))
 case atStart =>
  refine⟨0,0,[],rfl,by omega,by omega,by simp,(Lib.IsBuilderF.of (Lib.fresh_isBuilder 71 5 w)).alloc _,?_,((Below.refl _ w).alloc (Nat.le_refl _) _).alloc (by simp) _,hide (by simp)⟩
  have:=World.iter_heap (w.alloc (.cells #[.pointer none,.slice none 0 0] 71)) s 0
  simpa using this
 case round =>
  obtain⟨pos,dn,acc,rfl,hdn,hp,hal,hI,hit,hbw,HA⟩:=hrel
  have hsz:w.heap.size+1 < wr.heap.size:=(Array.getElem?_eq_some_iff.1 hit).1
  by_cases hlt:pos < s.size
  ·obtain⟨r,wd,hw1,hw4,hwl,hr,hdl,hnx⟩:=next_some Tryz.prog wr (w.heap.size+1) s pos hit hlt
   have hI2:=hI.iterAt hit (pos+wd)
   have hit2:=Lib.iterAt_heap wr (w.heap.size+1) s pos (pos+wd) hit
   have hbw2:=Lib.below_iterAt hbw (k:=w.heap.size+1) (by omega) s (pos+wd)
   have hsz2:w.heap.size<=(wr.iterAt (w.heap.size+1) s (pos+wd)).heap.size:=by rw[Lib.iterAt_size];omega
   have hne:=drop_ne s pos hlt
   have hstep:=esc_step q _ hne
   unfold esc1 at hstep
   have hrw:=refOf_width q _ hne
   have hscal:=dl_scalar _ hne
   rw[hdl] at hstep hrw hscal
   simp only at hstep hrw hscal
   rw[List.drop_drop] at hstep
   have hcr:=fun w=>refOf_any r q hr w
   by_cases h0:refOf q r=[]
   ·rw[if_pos h0] at hstep
    rw[h0] at hcr
    have HN:Hid (acc++(((bl s).drop dn).take (pos+wd - dn)++esc q ((bl s).drop (pos+wd)))=esc q (bl s)):=hide (by rw[<-HA.out,hstep,take_more _ _ _ _ hdn];simp)
    clear hstep hrw hdl hscal HA h0
    go_wp2_with fail
    refine (hcr _).mono ?_
    rintro e w1 ⟨rfl,rfl⟩
    go_wp2_with fail
    go_roundw
    case rel=>exact⟨pos+wd,dn,acc,rfl,by omega,hwl,hal,hI2,hit2,hbw2,HN⟩
    case measure =>
     simp only[World.iterPos,hit2,hit]
     omega
   ·rw[if_neg h0] at hstep
    obtain⟨hwd,_⟩:=hrw h0
    have hrl:=refOf_len q r
    have HN:Hid ((acc++((bl s).drop dn).take (pos - dn)++refOf q r)++(((bl s).drop (pos+wd)).take (pos+wd - (pos+wd))++esc q ((bl s).drop (pos+wd)))=esc q (bl s)):=hide (by rw[<-HA.out,hstep];simp)
    have hR0:(⟨(refOf q r).toArray⟩:ByteArray).toList.isEmpty=false:=by
     rw[toList_empty]
     cases hh:refOf q r with
     | nil=>exact absurd hh h0
     | cons a b=>rfl
    have hRc:Lib.strCells (⟨(refOf q r).toArray⟩:ByteArray)=Lib.byteCells (refOf q r):=rfl
    have hRs:(⟨(refOf q r).toArray⟩:ByteArray).size<=6:=by rw[size_mk];exact hrl
    have hen:=encode_er r hscal
    have hes:(Utf8.encode (r:Int)).size=wd:=by rw[hen,size_mk,hwd]
    have hXc:=strCells_ext s dn pos
    have hXs:(s.extract dn pos).size=pos - dn:=by simp;omega
    clear hen
    have hll:(((bl s).drop dn).take (pos - dn)).length=pos - dn:=by rw[List.length_take,List.length_drop,bl_len];omega
    generalize (⟨(refOf q r).toArray⟩:ByteArray)=R at hcr hR0 hRc hRs
    clear hstep hrw hdl hscal HA h0 hwd hne
    go_wp2_with fail
    refine (hcr _).mono ?_
    rintro e w1 ⟨rfl,rfl⟩
    go_wp2_with fail
    refine (Tryz.Builder_WriteString_k w.heap.size w.heap.size _ (s.extract dn pos) _ hI2 (by rw[Lib.byteCells_length];omega) hsz2).mono ?_
    rintro e w1 ⟨rfl,h1,b1,k1⟩
    have hit3:=k1.iter hit2 (by omega)
    rw[hXc,<-Lib.byteCells_append] at h1
    go_wp2_with fail
    refine (Tryz.Builder_WriteString_k w.heap.size w.heap.size _ R _ (Or.inr h1) (by rw[Lib.byteCells_length,List.length_append];omega) (Nat.le_trans hsz2 b1.size)).mono ?_
    rintro e w2 ⟨rfl,h2,b2,k2⟩
    have hit4:=k2.iter hit3 (by omega)
    rw[hRc,<-Lib.byteCells_append] at h2
    go_wp2_with fail
    go_roundw
    case rel =>
     refine⟨pos+wd,pos+wd,_,by first | rfl | simp,by omega,hwl,?_,Or.inr h2,hit4,(hbw2.trans b1).trans b2,HN⟩
     rw[List.length_append,List.length_append,hll]
     omega
    case measure =>
     simp only[World.iterPos,hit4,hit]
     omega
  ·have hnx:∀ ty,(Instr.next (.pointer (some ⟨w.heap.size+1,0,none⟩)) true ty).run Tryz.prog wr=_:=fun ty=>Lib.run_next_end_at wr (w.heap.size+1) s pos ty hit hlt
   have hXc:=strCells_ext s dn s.size
   have hXs:(s.extract dn s.size).size=s.size - dn:=by simp
   have hsz2:w.heap.size<=wr.heap.size:=by omega
   go_wp2_with fail
   refine (Tryz.Builder_WriteString_k w.heap.size w.heap.size _ (s.extract dn s.size) _ hI (by rw[Lib.byteCells_length];omega) hsz2).mono ?_
   rintro e w1 ⟨rfl,h1,b1,k1⟩
   rw[hXc,<-Lib.byteCells_append] at h1
   go_wp2_with fail
   refine (Tryz.Builder_String_any_k w.heap.size w.heap.size _ _ (Or.inr h1) (Nat.le_trans hsz2 b1.size)).mono ?_
   rintro e w2 ⟨rfl,_,b2,_⟩
   go_wp2_with fail
   go_ret
   have hps:pos=s.size:=by omega
   have hacc:=HA.out
   rw[drop_all s pos hlt,esc_nil,List.append_nil,hps] at hacc
   rw[hacc]
   exact⟨rfl,(hbw.trans b1).trans b2⟩
end Go.Proofs.YtkiofbikkhhdfabGreatDoor.To
