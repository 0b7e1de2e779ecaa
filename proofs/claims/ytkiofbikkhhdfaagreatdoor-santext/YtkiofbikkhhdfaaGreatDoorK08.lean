import Derived.Test.YtkiofbikkhhdfaaGreatDoorK05
import Derived.Test.YtkiofbikkhhdfaaGreatDoorP2
import Derived.Test.YtkiofbikkhhdfaaGreatDoorG7
namespace Go.Proofs.YtkiofbikkhhdfaaGreatDoor.To
open Go.RowKit
open Utf1
theorem cell_lt {w:World}{x:Addr}{v:Value}(h:w.cell? x=some v):x.block < w.heap.size:=by
 unfold World.cell? at h
 cases hb:w.heap[x.block]? with
 | none=>rw[hb] at h;simp at h
 | some o=>exact (Array.getElem?_eq_some_iff.1 hb).1
def Glob (w:World):Prop:=∃ te pe,w.cell? ⟨1,0,none⟩=some (.iface te pe)
theorem Glob.below {w w':World}(h:Glob w)(hb:Below w.heap.size w w'):Glob w':=by
 obtain⟨te,pe,hc⟩:=h
 exact⟨te,pe,(hb.cell (p:=⟨1,0,none⟩) (cell_lt hc)).trans hc⟩
theorem bl_nil {t:ByteArray}:bl t=[] ↔ t.size=0:=by
 rw[<-bl_len]
 exact List.length_eq_zero_iff.symm
def numE (b:Nat) (l:List UInt8):Option Nat:=if l=[] then none else num b 0 l
theorem numS_numE (b:Nat) (l:List UInt8):numS b l=(numE b l).map chN:=by
 unfold numS numE
 split <;> rfl
set_option maxRecDepth 100000 in
theorem parse_empty (b:Int) (w:World) :
  Calls Tryz.prog 203 #[.string ⟨#[]⟩,.int .i64 b,.int .i64 32] w fun e w'=>e=.returned (parsed none)/\w'=w:=by
 go_enter Tryz.func203,Tryz.ntmps203
 go_wp2
 go_ret2
 exact⟨rfl,rfl⟩
theorem inner_any (b:Nat)(hb:b=10\/b=16) (t:ByteArray)(hmax:t.size<=7) (w:World) :
  Calls Tryz.prog 203 #[.string t,.int .i64 (b:Int),.int .i64 32] w fun e w'=>e=.returned (parsed (numE b (bl t)))/\Below w.heap.size w w':=by
 by_cases h0:t.size=0
 ·have e:t=⟨#[]⟩:=by
   have:=bl_nil.2 h0
   cases t
   simp at this
   rw[this]
  subst e
  refine (parse_empty (b:Int) w).mono ?_
  rintro e w' ⟨rfl,rfl⟩
  exact⟨rfl,Below.refl _ _⟩
 ·have hE:numE b (bl t)=num b 0 (bl t):=by
   unfold numE
   rw[if_neg (fun h=>h0 (bl_nil.1 h))]
  rw[hE]
  rcases hb with rfl | rfl
  ·exact parse10 t h0 hmax w
  ·exact parse16 t h0 hmax w
set_option maxHeartbeats 1000000 in
theorem parseU_some (b:Nat)(hb:b=10\/b=16) (t:ByteArray)(hmax:t.size<=7) (n:Nat)(hn:numE b (bl t)=some n) (w:World) :
  Calls Tryz.prog 191 #[.string t,.int .i64 (b:Int),.int .i64 32] w fun e w'=>e=.returned (.tuple #[.int .u64 (n:Int),.nilIface])/\Below w.heap.size w w':=by
 have hI:=inner_any b hb t hmax w
 rw[hn] at hI
 have hI:Calls Tryz.prog 203 #[.string t,.int .i64 (b:Int),.int .i64 32] w fun e w'=>e=.returned (.tuple #[.int .u64 (n:Int),.nilIface])/\Below w.heap.size w w':=hI
 clear hn hb
 obtain⟨z,hz⟩:∃ z:Int,z=(n:Int):=⟨_,rfl⟩
 obtain⟨c,hc⟩:∃ c:Int,c=(b:Int):=⟨_,rfl⟩
 rw[<-hz,<-hc] at hI ⊢
 clear hz hc
 go_enter Tryz.func191,Tryz.ntmps191
 go_wp2_with (go_at_call 203;refine hI.mono ?_;rintro e w1 ⟨rfl,hb1⟩)
 go_ret2
 exact⟨rfl,hb1⟩
set_option maxHeartbeats 1000000 in
theorem parseU_none (b:Nat)(hb:b=10\/b=16) (t:ByteArray)(hmax:t.size<=7)(hn:numE b (bl t)=none) (w:World)(hg:Glob w) :
  Calls Tryz.prog 191 #[.string t,.int .i64 (b:Int),.int .i64 32] w fun e w'=>∃ N,e=.returned (.tuple #[.int .u64 0,.iface 196 (.pointer (some ⟨N,0,none⟩))])/\Below w.heap.size w w':=by
 have hI:=inner_any b hb t hmax w
 rw[hn] at hI
 have hI:Calls Tryz.prog 203 #[.string t,.int .i64 (b:Int),.int .i64 32] w fun e w'=>e=.returned (.tuple #[.int .u64 0,.iface 194 (.int .i64 2)])/\Below w.heap.size w w':=hI
 clear hn hb
 obtain⟨c,hc⟩:∃ c:Int,c=(b:Int):=⟨_,rfl⟩
 rw[<-hc] at hI ⊢
 clear hc
 go_enter Tryz.func191,Tryz.ntmps191
 go_wp2_with fail
 refine hI.mono ?_
 rintro e w1 ⟨rfl,hb1⟩
 obtain⟨te,pe,hc⟩:=hg.below hb1
 go_wp2_with fail
 refine (Tryz.strconv_toError_syntax _ t c 32 _ _ (by omega) hc (Or.inr ⟨te,pe,rfl⟩)).mono ?_
 rintro e w2 ⟨N,rfl,_,_,hb2⟩
 go_wp2_with fail
 go_ret2
 exact⟨N,rfl,hb1.trans (hb2.mono hb1.size)⟩
end Go.Proofs.YtkiofbikkhhdfaaGreatDoor.To
namespace Go.Proofs.YtkiofbikkhhdfaaGreatDoor.To
open Go.RowKit
open Utf1
theorem numE_bound (b:Nat)(hb:b=10\/b=16) (l:List UInt8)(hl:l.length<=7) (n:Nat)(h:numE b l=some n):n<=268435455:=by
 unfold numE at h
 split at h
 ·cases h
 ·have h1:=num_bound b l 0 n h
  have h2:b ^ l.length<=16 ^ 7:=by
   refine Nat.le_trans (Nat.pow_le_pow_right (by omega) hl) (Nat.pow_le_pow_left (by omega) 7)
  simp only[Nat.zero_add,Nat.one_mul] at h1
  omega
set_option maxHeartbeats 1000000 in
theorem numbered_any (b:Nat)(hb:b=10\/b=16) (t:ByteArray)(hmax:t.size<=7) (w:World)(hg:Glob w) :
  Calls Tryz.prog 167 #[.string t,.int .i64 (b:Int)] w fun e w'=>e=.returned (optS (numS b (bl t)))/\Below w.heap.size w w':=by
 cases hn:numE b (bl t) with
 | none =>
  have hp:=parseU_none b hb t hmax hn
  have HR:Hid (numS b (bl t)=none):=hide (by rw[numS_numE,hn];rfl)
  clear hn hb
  obtain⟨c,hc⟩:∃ c:Int,c=(b:Int):=⟨_,rfl⟩
  rw[<-hc] at hp ⊢
  clear hc
  go_enter Tryz.func167,Tryz.ntmps167
  go_wp2_with fail
  refine (hp _ hg).mono ?_
  rintro e w1 ⟨N,rfl,hb1⟩
  go_wp2_with fail
  go_ret2
  rw[HR.out]
  exact⟨rfl,hb1⟩
 | some n =>
  have hp:=parseU_some b hb t hmax n hn
  have HR:Hid (numS b (bl t)=some (chN n)):=hide (by rw[numS_numE,hn];rfl)
  have hbd:=numE_bound b hb (bl t) (by rw[bl_len];exact hmax) n hn
  have hFF:=encode_er 65533 scalar_err
  have hFF:Utf8.encode 65533=⟨(er 65533).toArray⟩:=hFF
  have hen:=encode_er n
  clear hn hb hg
  obtain⟨c,hc⟩:∃ c:Int,c=(b:Int):=⟨_,rfl⟩
  rw[<-hc] at hp ⊢
  clear hc
  obtain⟨z,hz⟩:∃ z:Int,z=(n:Int):=⟨_,rfl⟩
  rw[<-hz] at hp hen
  have z0:0<=z:=by omega
  have z1:z<=268435455:=by omega
  by_cases hbad:n=0\/n=13\/(55296<=n/\n<=57343)\/1114111 < n
  ·have HC:Hid (chN n=65533):=hide (by unfold chN;rw[if_pos hbad])
   have hbz:z=0\/z=13\/(55296<=z/\z<=57343)\/1114111 < z:=by omega
   clear hbad hz hbd hen
   rcases hbz with rfl | rfl | ⟨h1,h2⟩ | h1
   ·go_enter Tryz.func167,Tryz.ntmps167
    go_wp2_with fail
    refine (hp _).mono ?_
    rintro e w1 ⟨rfl,hb1⟩
    go_wp2_with fail
    go_ret2
    rw[HR.out,HC.out]
    exact⟨rfl,hb1⟩
   ·go_enter Tryz.func167,Tryz.ntmps167
    go_wp2_with fail
    refine (hp _).mono ?_
    rintro e w1 ⟨rfl,hb1⟩
    go_wp2_with fail
    go_ret2
    rw[HR.out,HC.out]
    exact⟨rfl,hb1⟩
   ·have e0:(z==0)=false:=beq_eq_false_iff_ne.2 (by omega)
    have e1:(z==13)=false:=beq_eq_false_iff_ne.2 (by omega)
    go_enter Tryz.func167,Tryz.ntmps167
    go_wp2_with fail
    refine (hp _).mono ?_
    rintro e w1 ⟨rfl,hb1⟩
    go_wp2_with fail
    go_ret2
    rw[HR.out,HC.out]
    exact⟨rfl,hb1⟩
   ·have e0:(z==0)=false:=beq_eq_false_iff_ne.2 (by omega)
    have e1:(z==13)=false:=beq_eq_false_iff_ne.2 (by omega)
    have e2:55296<=z:=by omega
    have e3:¬ z<=57343:=by omega
    go_enter Tryz.func167,Tryz.ntmps167
    go_wp2_with fail
    refine (hp _).mono ?_
    rintro e w1 ⟨rfl,hb1⟩
    go_wp2_with fail
    go_ret2
    rw[HR.out,HC.out]
    exact⟨rfl,hb1⟩
  ·have HC:Hid (chN n=n):=hide (by unfold chN;rw[if_neg hbad])
   have hen:=hen (by unfold Scalar;omega)
   have e0:(z==0)=false:=beq_eq_false_iff_ne.2 (by omega)
   have e1:(z==13)=false:=beq_eq_false_iff_ne.2 (by omega)
   have e2:¬ (55296<=z/\z<=57343):=by omega
   have e3:¬ 1114111 < z:=by omega
   clear hbad hz hbd
   by_cases e4:55296<=z
   ·have e5:¬ z<=57343:=by omega
    clear e2
    go_enter Tryz.func167,Tryz.ntmps167
    go_wp2_with fail
    refine (hp _).mono ?_
    rintro e w1 ⟨rfl,hb1⟩
    go_wp2_with fail
    go_ret2
    rw[HR.out,HC.out]
    exact⟨rfl,hb1⟩
   ·clear e2
    go_enter Tryz.func167,Tryz.ntmps167
    go_wp2_with fail
    refine (hp _).mono ?_
    rintro e w1 ⟨rfl,hb1⟩
    go_wp2_with fail
    go_ret2
    rw[HR.out,HC.out]
    exact⟨rfl,hb1⟩
end Go.Proofs.YtkiofbikkhhdfaaGreatDoor.To
namespace Go.Proofs.YtkiofbikkhhdfaaGreatDoor.To
open Go.RowKit
open Utf1
theorem cut_yes (c:UInt8) (t:List UInt8) (w:World) :
  Calls Tryz.prog 165 #[.string ⟨(c :: t).toArray⟩,.string ⟨#[c]⟩] w fun e w'=>e=.returned (.tuple #[.string ⟨t.toArray⟩,.bool true])/\w'=w:=by
 have h:=Tryz.strings_CutPrefix ⟨(c :: t).toArray⟩ ⟨#[c]⟩ w
 have e1:Lib.hasPrefix (c :: t) [c]=true:=by simp[Lib.hasPrefix]
 have e2:Lib.trimPrefix (c :: t) [c]=t:=by simp[Lib.trimPrefix,Lib.hasPrefix]
 have e3:((⟨(c :: t).toArray⟩:ByteArray)).data.toList=c :: t:=rfl
 have e4:((⟨#[c]⟩:ByteArray)).data.toList=[c]:=rfl
 rw[e3,e4,e1,e2] at h
 exact h
theorem cut_no (c:UInt8) (s:ByteArray) (w:World)(h0:(bl s).head?≠some c) :
  Calls Tryz.prog 165 #[.string s,.string ⟨#[c]⟩] w fun e w'=>e=.returned (.tuple #[.string s,.bool false])/\w'=w:=by
 have h:=Tryz.strings_CutPrefix s ⟨#[c]⟩ w
 have e1:Lib.hasPrefix (bl s) [c]=false:=by
  unfold Lib.hasPrefix
  cases hb:bl s with
  | nil=>rfl
  | cons x t =>
   rw[hb] at h0
   simp at h0
   simp[List.isPrefixOf]
   exact fun e=>h0 e.symm
 have e2:Lib.trimPrefix (bl s) [c]=bl s:=by unfold Lib.trimPrefix;rw[e1];simp
 have e4:((⟨#[c]⟩:ByteArray)).data.toList=[c]:=rfl
 rw[show s.data.toList=bl s from rfl,e4,e1,e2] at h
 exact h
theorem low_x (x:UInt8):low8 x=120 ↔ x=120\/x=88:=by
 constructor
 ·intro h
  have h1:=congrArg UInt8.toNat h
  rw[low8_toNat] at h1
  have h2:(120:UInt8).toNat=120:=rfl
  rw[h2] at h1
  unfold lowN at h1
  split at h1
  ·right
   apply UInt8.toNat_inj.1
   show x.toNat=88
   omega
  ·left
   apply UInt8.toNat_inj.1
   exact h1
 ·rintro (rfl | rfl) <;> decide
theorem named_nil:named []=none:=by decide
set_option maxHeartbeats 1000000 in
theorem standsFor_any (s:ByteArray)(hs:s.size<=8) (w:World)(hg:Glob w) :
  Calls Tryz.prog 122 #[.string s] w fun e w'=>e=.returned (optS (sf (bl s)))/\Below w.heap.size w w':=by
 by_cases h0:(bl s).head?=some 35
 ·obtain⟨t,ht⟩:∃ t,bl s=35 :: t:=by
   cases hb:bl s with
   | nil=>rw[hb] at h0;simp at h0
   | cons x t=>rw[hb] at h0;simp at h0;exact⟨t,by rw[h0]⟩
  have htl:t.length<=7:=by
   have:=congrArg List.length ht
   rw[bl_len,List.length_cons] at this
   omega
  rw[ht]
  have hse:s=⟨(35 :: t).toArray⟩:=by rw[<-ht]
  subst hse
  have HF:Hid (sf (35 :: t)=sfN t):=hide rfl
  have hc1:=fun w=>cut_yes 35 t w
  have hlo:=fun w=>lower_any ⟨t.toArray⟩ w
  have e1:bl ⟨t.toArray⟩=t:=rfl
  rw[e1] at hlo
  clear ht h0 hs
  by_cases hx:(lower t).head?=some 120
  ·obtain⟨x,d,rfl⟩:∃ x d,t=x :: d:=by
    cases t with
    | nil=>simp[lower] at hx
    | cons x d=>exact⟨x,d,rfl⟩
   have hx2:low8 x=120:=by simpa [lower] using hx
   have hlx:lower (x :: d)=120 :: lower d:=by rw[<-hx2];rfl
   have hc2:=fun w=>cut_yes 120 (lower d) w
   rw[<-hlx] at hc2
   have hdl:d.length<=6:=by simpa using htl
   have hnu:=fun w hg=>numbered_any 16 (.inr rfl) ⟨(lower d).toArray⟩ (by simp[lower,ByteArray.size];omega) w hg
   have e2:bl ⟨(lower d).toArray⟩=lower d:=rfl
   rw[e2,numS_lower] at hnu
   have HR:Hid (sfN (x :: d)=numS 16 d):=hide (by
    unfold sfN
    simp only
    rw[if_pos ((low_x x).1 hx2),if_neg (by omega)])
   generalize (⟨(lower (x :: d)).toArray⟩:ByteArray)=L at hlo hc2
   generalize (⟨(lower d).toArray⟩:ByteArray)=D at hc2 hnu
   generalize (⟨(35 :: x :: d).toArray⟩:ByteArray)=S at hc1 ⊢
   generalize (⟨(x :: d).toArray⟩:ByteArray)=T at hc1 hlo
   clear hx hx2 hlx hdl htl
   rw[HF.out,HR.out]
   unfold optS at hnu ⊢
   generalize oT (numS 16 d)=A at hnu ⊢
   generalize (numS 16 d).isSome=B at hnu ⊢
   go_enter Tryz.func122,Tryz.ntmps122
   go_wp2_with fail
   refine (hc1 _).mono ?_
   rintro e w1 ⟨rfl,rfl⟩
   go_wp2_with fail
   refine (hlo _).mono ?_
   rintro e w1 ⟨rfl,hb1⟩
   go_wp2_with fail
   refine (hc2 _).mono ?_
   rintro e w2 ⟨rfl,rfl⟩
   go_wp2_with fail
   refine (hnu _ (hg.below hb1)).mono ?_
   rintro e w2 ⟨rfl,hb2⟩
   go_wp2_with fail
   go_ret2
   exact⟨rfl,hb1.trans (hb2.mono hb1.size)⟩
  ·have hc2:=fun w=>cut_no 120 ⟨(lower t).toArray⟩ w hx
   have hnu:=fun w hg=>numbered_any 10 (.inl rfl) ⟨t.toArray⟩ (by simp[ByteArray.size];omega) w hg
   rw[e1] at hnu
   have HR:Hid (sfN t=numS 10 t):=hide (by
    cases t with
    | nil=>rfl
    | cons x d =>
     unfold sfN
     simp only
     have hx2:¬ (x=120\/x=88):=fun h=>hx (by simpa [lower] using (low_x x).2 h)
     have hdl:d.length<=6:=by simpa using htl
     rw[if_neg hx2,if_neg (by omega)])
   generalize (⟨(lower t).toArray⟩:ByteArray)=L at hlo hc2
   generalize (⟨(35 :: t).toArray⟩:ByteArray)=S at hc1 ⊢
   generalize (⟨t.toArray⟩:ByteArray)=T at hc1 hlo hnu
   clear hx htl
   rw[HF.out,HR.out]
   unfold optS at hnu ⊢
   generalize oT (numS 10 t)=A at hnu ⊢
   generalize (numS 10 t).isSome=B at hnu ⊢
   go_enter Tryz.func122,Tryz.ntmps122
   go_wp2_with fail
   refine (hc1 _).mono ?_
   rintro e w1 ⟨rfl,rfl⟩
   go_wp2_with fail
   refine (hlo _).mono ?_
   rintro e w1 ⟨rfl,hb1⟩
   go_wp2_with fail
   refine (hc2 _).mono ?_
   rintro e w2 ⟨rfl,rfl⟩
   go_wp2_with fail
   refine (hnu _ (hg.below hb1)).mono ?_
   rintro e w2 ⟨rfl,hb2⟩
   go_wp2_with fail
   go_ret2
   exact⟨rfl,hb1.trans (hb2.mono hb1.size)⟩
 ·have hc1:=fun w=>cut_no 35 s w h0
  have hna:=fun w=>named_any s w
  have HR:Hid (sf (bl s)=named (bl s)):=hide (by
   cases hb:bl s with
   | nil=>exact named_nil.symm
   | cons x t =>
    rw[hb] at h0
    unfold sf
    simp only
    rw[if_neg (fun e=>h0 (by rw[e];rfl))])
  rw[HR.out]
  unfold optS at hna ⊢
  generalize oT (named (bl s))=A at hna ⊢
  generalize (named (bl s)).isSome=B at hna ⊢
  clear h0
  go_enter Tryz.func122,Tryz.ntmps122
  go_wp2_with fail
  refine (hc1 _).mono ?_
  rintro e w1 ⟨rfl,rfl⟩
  go_wp2_with fail
  refine (hna _).mono ?_
  rintro e w1 ⟨rfl,hb1⟩
  go_wp2_with fail
  go_ret2
  exact⟨rfl,hb1⟩
end Go.Proofs.YtkiofbikkhhdfaaGreatDoor.To
namespace Go.Proofs.YtkiofbikkhhdfaaGreatDoor.Dm
open Go.RowKit
open Utf1
def St0 (w:World) (base B:Nat) (os:List Nd) (pa bv:Value) (o n:Nat):Prop :=
 base<=B/\base<=w.heap.size/\∃ (ov:Value) (l:List (Nd × Value × Value)) (fp:List Nat),l.map Prod.fst=os/\BB w B ov pa bv (.int .i64 (o:Int)) (.int .i64 (n:Int))/\w.ownsRow base 54 4 ov l.length (ndCells l)/\KAll w base l fp/\(blk ov++fp).Nodup
def St (w:World) (base B:Nat) (os:List Nd) (t:List UInt8) (o n:Nat):Prop:=∃ pa bv,St0 w base B os pa bv o n/\Wait w base B pa bv t
def addKid (nd:Nd) (x:Nd):Nd:=.mk nd.name nd.attrs nd.text (nd.kids++[x])
theorem kall_split {w:World}{base:Nat}:∀ {a b:List (Nd × Value × Value)}{fp:List Nat},KAll w base (a++b) fp->∃ fa fb,fp=fa++fb/\KAll w base a fa/\KAll w base b fb
 | [],b,fp,h=>⟨[],fp,rfl,.nil,h⟩
 | (n,av,kv) :: a,b,_,.cons _ _ _ _ f fps ha hk hl=>by
  obtain⟨fa,fb,rfl,h1,h2⟩:=kall_split hl
  exact⟨f++fa,fb,by rw[List.append_assoc],.cons n av kv a f fa ha hk h1,h2⟩
theorem kall_one {w:World}{base:Nat}{n:Nd}{av kv:Value}{fp:List Nat}(h:KAll w base [(n,av,kv)] fp):w.ownsRow base 117 2 av n.attrs.length (attrCells n.attrs)/\KAt w base kv n.kids fp:=by
 generalize hl:[(n,av,kv)]=l at h
 cases h with
 | nil=>cases hl
 | cons n' av' kv' l f fps ha hk hl' =>
  cases hl
  cases hl'
  rw[List.append_nil]
  exact⟨ha,hk⟩
theorem kat_inv {w:World}{base:Nat}{v:Value}{ns:List Nd}{fp:List Nat}(h:KAt w base v ns fp):∃ l f,ns=l.map Prod.fst/\fp=blk v++f/\w.ownsRow base 54 4 v l.length (ndCells l)/\KAll w base l f:=by
 cases h with
 | mk v l f row all=>exact⟨l,f,rfl,rfl,row,all⟩
theorem nodup_put {ko:List Nat}{fi bk fk f2 bk':List Nat}{N:Nat}(h:(ko++(fi++(bk++fk))).Nodup)(h2:f2.Nodup)(hd:∀ k∈f2,k ∉ ko++(fi++(bk++fk)))(hlt:∀ k∈ko++(fi++(bk++fk)),k < N)(hlt2:∀ k∈f2,k < N)
  (hb:bk'=bk\/∃ g,bk'=[g]/\N<=g):(ko++(fi++(bk'++(fk++f2)))).Nodup:=by
 have key:∀ b:List Nat,(∀ k∈b,k ∉ ko/\k ∉ fi/\k ∉ fk/\k ∉ f2)->b.Nodup->(ko++(fi++(b++(fk++f2)))).Nodup:=by
  intro b h1 h3
  simp only[List.nodup_append,List.mem_append] at h hd ⊢
  refine⟨h.1,⟨h.2.1.1,⟨h3,⟨h.2.1.2.1.2.1,h2,?_⟩,?_⟩,?_⟩,?_⟩
  ·intro a ha c hc e
   subst e
   exact hd a hc (.inr (.inr (.inr ha)))
  ·rintro a ha c (hc | hc) e <;> subst e
   ·exact (h1 a ha).2.2.1 hc
   ·exact (h1 a ha).2.2.2 hc
  ·rintro a ha c (hc | hc | hc) e <;> subst e
   ·exact (h1 a hc).2.1 ha
   ·exact h.2.1.2.2 a ha a (.inr hc) rfl
   ·exact hd a hc (.inr (.inl ha))
  ·rintro a ha c (hc | hc | hc | hc) e <;> subst e
   ·exact h.2.2 a ha a (.inl hc) rfl
   ·exact (h1 a hc).1 ha
   ·exact h.2.2 a ha a (.inr (.inr hc)) rfl
   ·exact hd a hc (.inl ha)
 rcases hb with rfl | ⟨g,rfl,hgN⟩
 ·refine key _ ?_ ?_
  ·intro k hk
   simp only[List.nodup_append,List.mem_append] at h hd
   refine⟨fun e=>h.2.2 k e k (.inr (.inl hk)) rfl,fun e=>h.2.1.2.2 k e k (.inl hk) rfl,fun e=>h.2.1.2.1.2.2 k hk k e rfl,fun e=>hd k e (.inr (.inr (.inl hk)))⟩
  ·simp only[List.nodup_append] at h
   exact h.2.1.2.1.1
 ·refine key _ ?_ (by simp)
  intro k hk
  have hk:k=g:=by simpa using hk
  subst hk
  refine⟨fun e=>?_,fun e=>?_,fun e=>?_,fun e=>?_⟩
  ·have:=hlt k (List.mem_append_left _ e);omega
  ·have:=hlt k (List.mem_append_right _ (List.mem_append_left _ e));omega
  ·have:=hlt k (List.mem_append_right _ (List.mem_append_right _ (List.mem_append_right _ e)));omega
  ·have:=hlt2 k e;omega
def StX (w:World) (base B:Nat) (os:List Nd) (pa bv:Value) (o n:Nat) (x:Nd) (av2 kv2:Value):Prop :=
 base<=B/\base<=w.heap.size/\∃ (ov:Value) (l:List (Nd × Value × Value)) (fp f2:List Nat),l.map Prod.fst=os/\BB w B ov pa bv (.int .i64 (o:Int)) (.int .i64 (n:Int))/\w.ownsRow base 54 4 ov l.length (ndCells l)/\KAll w base l fp/\(blk ov++fp).Nodup /\
  w.ownsRow base 117 2 av2 x.attrs.length (attrCells x.attrs)/\KAt w base kv2 x.kids f2/\f2.Nodup/\∀ k∈f2,k ∉ blk ov++fp
theorem map_snoc {l:List (Nd × Value × Value)}{i:List Nd}{nd:Nd}(h:l.map Prod.fst=i++[nd]):∃ li av kv,l=li++[(nd,av,kv)]/\li.map Prod.fst=i:=by
 obtain⟨l1,l2,rfl,h1,h2⟩:=List.map_eq_append_iff.1 h
 match l2,h2 with
 | [(n,av,kv)],h2 =>
  have:n=nd:=by simpa using h2
  subst this
  exact⟨l1,av,kv,rfl,h1⟩
theorem own_two_ne {w:World}{base base':Nat}{e e':TypeId}{size size':Nat}{v v':Value}{n n':Nat}{xs xs':List Value}(h:w.ownsRow base e size v n xs)(h':w.ownsRow base' e' size' v' n' xs')(hne:e≠e') {k:Nat}(hv:v.ownBlock=some k)(hv':v'.ownBlock=some k):False:=by
 rcases own_two h h' hne with e1 | e1
 ·rw[hv] at e1
  cases e1
 ·exact e1 (hv.trans hv'.symm)
theorem nd_one (l:List (Nd × Value × Value)) (x:Nd) (av kv:Value):ndCells (l++[(x,av,kv)])=ndCells l++[.string ⟨x.name.toArray⟩,av,.string ⟨x.text.toArray⟩,kv]:=by
 rw[ndCells_app]
 rfl
theorem nd_same (l:List (Nd × Value × Value)) (nd x:Nd) (av kv:Value):ndCells (l++[(nd,av,kv)])=ndCells (l++[(addKid nd x,av,kv)]):=by
 rw[nd_one,nd_one]
 cases nd
 rfl
theorem put_st (w:World) (base B:Nat) (i:List Nd) (nd:Nd) (pa bv:Value) (o n:Nat) (x:Nd) (ap:Option Addr) (am ac:Nat) (cp:Option Addr) (cm cc:Nat)(h:StX w base B (i++[nd]) pa bv o n x (.slice ap am ac) (.slice cp cm cc))(hi:i.length<=100000)(hk:nd.kids.length<=100000) :
  Calls Tryz.prog 111 #[.pointer (some ⟨B,0,none⟩),.agg #[.string ⟨x.name.toArray⟩,.slice ap am ac,.string ⟨x.text.toArray⟩,.slice cp cm cc]] w fun e w'=>e=.returned (.tuple #[])/\St0 w' base B (i++[addKid nd x]) pa bv o n/\Below base w w'/\∀ (b:Nat) (v:Value) (m:Nat) (xs:List Value),w.ownsRow b 5 1 v m xs->w'.ownsRow b 5 1 v m xs:=by
 obtain⟨hbB,hbw,ov,l,fp,f2,hl,hBB,hro,hall,hnd,hxa,hxk,hf2,hdis⟩:=h
 obtain⟨li,av,kv,rfl,hli⟩:=map_snoc hl
 obtain⟨fi,fb,rfl,hki,hk1⟩:=kall_split hall
 obtain⟨hav,hkv⟩:=kall_one hk1
 obtain⟨k,fk,hkk,rfl,hrk,hkall⟩:=kat_inv hkv
 have hlen:(li++[(nd,av,kv)]).length=li.length+1:=by simp
 rw[hlen] at hro
 obtain⟨go,oc,rfl,-⟩:=own_at hro (by omega)
 obtain⟨kp,km,kc,rfl⟩:=own_slice hrk
 have hlt:∀ j∈blk (.slice (some ⟨go,0,none⟩) (li.length+1) oc)++(fi++(blk (.slice kp km kc)++fk)),j < w.heap.size:=by
  intro j hj
  rcases List.mem_append.1 hj with hj | hj
  ·exact (own_lt hro j hj).2
  ·exact (hall.lt j hj).2
 have hlt2:∀ j∈f2,j < w.heap.size:=fun j hj=>(hxk.lt j hj).2
 have hgo:∀ j∈fi++(blk (.slice kp km kc)++fk),j≠go:=by
  intro j hj e
  subst e
  exact (List.nodup_append.1 hnd).2.2 j (by simp[blk,Value.ownBlock]) j hj rfl
 have hne:(Value.slice kp km kc).ownBlock≠some go:=by
  intro e
  exact hgo go (List.mem_append_right _ (List.mem_append_left _ (by unfold blk;rw[e];simp))) rfl
 have hil:li.length<=100000:=by
  have:=congrArg List.length hli
  rw[List.length_map] at this
  omega
 have hkl:k.length<=100000:=by
  have:=congrArg List.length hkk
  rw[List.length_map] at this
  omega
 refine (put_any w B base go oc pa bv _ _ li nd av kp km kc k ⟨x.name.toArray⟩ ⟨x.text.toArray⟩ ap am ac cp cm cc hBB hro hrk hne hkl hil hbB hbw).mono ?_
 rintro e w' ⟨rfl,kv',p1,p2,p3,p4,p5,p6⟩
 have hnd':=hnd
 simp only[List.nodup_append,List.mem_append] at hnd'
 have hS1:∀ j∈fi,j ∉ go :: blk (.slice kp km kc):=by
  intro j hj hm
  rcases List.mem_cons.1 hm with e | hm
  ·exact hgo j (List.mem_append_left _ hj) e
  ·exact hnd'.2.1.2.2 j hj j (.inl hm) rfl
 have hS2:∀ j∈fk,j ∉ go :: blk (.slice kp km kc):=by
  intro j hj hm
  rcases List.mem_cons.1 hm with e | hm
  ·exact hgo j (List.mem_append_right _ (List.mem_append_right _ hj)) e
  ·exact hnd'.2.1.2.1.2.2 j hm j hj rfl
 have hS3:∀ j∈f2,j ∉ go :: blk (.slice kp km kc):=by
  intro j hj hm
  refine hdis j hj ?_
  rcases List.mem_cons.1 hm with e | hm
  ·subst e
   exact List.mem_append_left _ (by simp[blk,Value.ownBlock])
  ·exact List.mem_append_right _ (List.mem_append_right _ (List.mem_append_left _ hm))
 refine⟨rfl,⟨hbB,Nat.le_trans hbw p6.size,_,li++[(addKid nd x,av,kv')],fi++(blk kv'++(fk++f2)),?_,p1,?_,?_,?_⟩,p6,?_⟩
 ·rw[List.map_append,hli]
  rfl
 ·rw[<-nd_same,List.length_append]
  exact p2
 ·refine (hki.stays p5 hS1).app ?_
  have hat:w'.ownsRow base 117 2 av (addKid nd x).attrs.length (attrCells (addKid nd x).attrs):=by
   have:=attr_stays hav p5
   cases nd
   exact this
  have hkids:KAt w' base kv' (addKid nd x).kids (blk kv'++(fk++f2)):=by
   have h1:=KAt.mk kv' (k++[(x,.slice ap am ac,.slice cp cm cc)]) (fk++f2) (by rw[nd_one,List.length_append];exact p3) ((hkall.stays p5 hS2).app (by
    have:=KAll.cons x _ _ [] f2 [] (attr_stays hxa p5) (hxk.stays p5 hS3) .nil
    rw[List.append_nil] at this
    exact this))
   have h2:(addKid nd x).kids=(k++[(x,Value.slice ap am ac,Value.slice cp cm cc)]).map Prod.fst:=by
    rw[List.map_append,<-hkk]
    cases nd
    rfl
   rw[h2]
   exact h1
  have:=KAll.cons (addKid nd x) av kv' [] _ [] hat hkids .nil
  rw[List.append_nil] at this
  exact this
 ·refine nodup_put hnd hf2 hdis hlt hlt2 ?_
  rcases p4 with e | ⟨g,e,hg⟩
  ·exact .inl (by unfold blk;rw[e])
  ·exact .inr ⟨g,by unfold blk;rw[e];rfl,hg⟩
 ·intro b v m xs ho
  refine own_stays ho p5.block ?_
  intro j hj hm
  rcases List.mem_cons.1 hm with rfl | hm
  ·exact own_two_ne ho hro (by decide) hj rfl
  ·exact own_two_ne ho hrk (by decide) hj (by unfold blk at hm;simpa using hm)
theorem row_typed {w:World}{base:Nat}{e:TypeId}{size:Nat}{v:Value}{n:Nat}{xs:List Value}(h:w.ownsRow base e size v n xs):∀ k∈blk v,∃ cs fz,w.heap[k]?=some (.cells cs e fz):=by
 intro k hk
 unfold blk at hk
 obtain⟨_,⟨rfl,_⟩ | ⟨g,cap,cur,rfl,hb,hg,_⟩⟩:=h
 ·simp[Value.ownBlock] at hk
 ·have:k=g:=by simpa [Value.ownBlock] using hk
  subst this
  exact⟨_,_,hg⟩
mutual
theorem node_typed {w:World}{base:Nat}{v:Value}{ns:List Nd}{fp:List Nat}(h:KAt w base v ns fp):∀ k∈fp,∃ cs fz,w.heap[k]?=some (.cells cs 54 fz) :=
 match h with
 | .mk v l fp row all=>fun k hk=>(List.mem_append.1 hk).elim (row_typed row k) (nodes_typed all k)
theorem nodes_typed {w:World}{base:Nat}{l:List (Nd × Value × Value)}{fp:List Nat}(h:KAll w base l fp):∀ k∈fp,∃ cs fz,w.heap[k]?=some (.cells cs 54 fz) :=
 match h with
 | .nil=>fun k hk=>by cases hk
 | .cons n av kv l fp fps ha hk hl=>fun k hk'=>(List.mem_append.1 hk').elim (node_typed hk k) (nodes_typed hl k)
end
theorem stx_text {w:World}{base B:Nat}{os:List Nd}{pa bv:Value}{o n:Nat}(h:St0 w base B os pa bv o n) (t:List UInt8):StX w base B os pa bv o n (.mk [] [] t []) (.slice none 0 0) (.slice none 0 0):=by
 obtain⟨h1,h2,ov,l,fp,h3,h4,h5,h6,h7⟩:=h
 exact⟨h1,h2,ov,l,fp,[],h3,h4,h5,h6,h7,World.ownsRow_nil _ _ _ _,KAt.empty _ _,List.nodup_nil,fun _ hk=>by cases hk⟩
theorem St0.stays {w w':World}{base B:Nat}{os:List Nd}{pa bv pa' bv':Value}{o n o' n':Nat}{S:List Nat}(h:St0 w base B os pa bv o n)(hS:Stays w w' S)(hN:∀ k∈S,∀ cs fz,w.heap[k]?≠some (.cells cs 54 fz))
  (hb:∀ ov,BB w B ov pa bv (.int .i64 (o:Int)) (.int .i64 (n:Int))->BB w' B ov pa' bv' (.int .i64 (o':Int)) (.int .i64 (n':Int))):St0 w' base B os pa' bv' o' n':=by
 obtain⟨h1,h2,ov,l,fp,h3,h4,h5,h6,h7⟩:=h
 have key:∀ k∈blk ov++fp,k ∉ S:=by
  intro k hk hkS
  obtain⟨cs,fz,e⟩:=node_typed (KAt.mk ov l fp h5 h6) k hk
  exact hN k hkS cs fz e
 refine⟨h1,Nat.le_trans h2 hS.size,ov,l,fp,h3,hb ov h4,own_stays h5 hS.block (fun k hk=>key k (List.mem_append_left _ (by unfold blk;rw[hk];simp))),h6.stays hS (fun k hk=>key k (List.mem_append_right _ hk)),h7⟩
end Go.Proofs.YtkiofbikkhhdfaaGreatDoor.Dm
namespace Go.Proofs.YtkiofbikkhhdfaaGreatDoor.Dm
open Go.RowKit
open Utf1
def textIn (nd:Nd) (t:List UInt8):Nd:=if t=[] then nd else addKid nd (.mk [] [] t [])
theorem St0.bb {w:World}{base B:Nat}{os:List Nd}{pa bv:Value}{o n:Nat}(h:St0 w base B os pa bv o n):∃ ov,BB w B ov pa bv (.int .i64 (o:Int)) (.int .i64 (n:Int)):=by
 obtain⟨_,_,ov,_,_,_,h4,_⟩:=h
 exact⟨ov,h4⟩
theorem bytes_no_node {w:World}{base B:Nat}{pa bv:Value}{t:List UInt8}(h:Wait w base B pa bv t):∀ k∈blk bv,∀ cs fz,w.heap[k]?≠some (.cells cs 54 fz):=by
 intro k hk cs fz e
 exact own_apart h.2 e (by decide) (by unfold blk at hk;simpa using hk)
theorem bb_no_node {w:World}{B:Nat}{ov pa bv x y:Value}(h:BB w B ov pa bv x y):∀ k∈[B],∀ cs fz,w.heap[k]?≠some (.cells cs 54 fz):=by
 intro k hk cs fz e
 have:k=B:=by simpa using hk
 subst this
 unfold BB at h
 rw[h] at e
 simp at e
set_option maxHeartbeats 4000000 in
theorem endText_st (w:World) (base B:Nat) (i:List Nd) (nd:Nd) (t:List UInt8) (o n:Nat)(h:St w base B (i++[nd]) t o n)(hi:i.length<=100000)(hk:nd.kids.length<=100000)(ht:t.length<=100000000) :
  Calls Tryz.prog 59 #[.pointer (some ⟨B,0,none⟩)] w fun e w'=>e=.returned (.tuple #[])/\St w' base B (i++[textIn nd t]) [] o n/\Below base w w':=by
 obtain⟨pa,bv,h0,hw⟩:=h
 obtain⟨ov,hB⟩:=h0.bb
 obtain⟨bp,bm,bc,rfl⟩:=own_slice hw.2
 have hbm:bm=t.length:=by
  obtain⟨_,_,e⟩:=own_len hw.2
  injection e with _ e2 _
  rw[byte_len] at e2
  exact e2
 subst hbm
 have HL:=hide (blen_any w B ov pa bp t.length bc _ _ hB)
 have hBl:B < w.heap.size:=lt_of_block hB
 by_cases ht0:t=[]
 ·subst ht0
  have HE:Hid (St w base B (i++[textIn nd []]) [] o n):=hide ⟨pa,_,by unfold textIn;rw[if_pos rfl];exact h0,hw⟩
  clear h0 hw hB
  go_enter Tryz.func59,Tryz.ntmps59
  go_wp2_with fail
  refine HL.out.mono ?_
  rintro e w1 ⟨rfl,rfl⟩
  clear HL
  go_wp2_with fail
  go_end0
  exact⟨rfl,HE.out,Below.refl _ _⟩
 ·have hpos:0 < t.length:=List.length_pos_iff.2 ht0
  have hd:decide ((0:Int) < (t.length:Int))=true:=decide_eq_true (by omega)
  have HST:=hide (bstring_any w B base ov pa (.slice bp t.length bc) _ _ t hB hw ht0)
  have HH:=hide (And.intro h0 hw)
  clear h0 hw
  go_enter Tryz.func59,Tryz.ntmps59
  go_wp2_with fail
  refine HL.out.mono ?_
  rintro e w1 ⟨rfl,rfl⟩
  clear HL
  go_wp2_with fail
  refine HST.out.mono ?_
  rintro e w2 ⟨rfl,hB2,hs2,hb2⟩
  have h2:St0 w2 base B (i++[nd]) pa (.slice bp t.length bc) o n:=HH.out.1.stays hs2 (bytes_no_node HH.out.2) (fun ov' hB'=>by
   have e:BB w1 B ov pa (.slice bp t.length bc) (.int .i64 (o:Int)) (.int .i64 (n:Int)):=hB
   unfold BB at hB' e
   rw[e] at hB'
   simp at hB'
   subst hB'
   exact hB2)
  have HP:=hide (put_st w2 base B i nd pa (.slice bp t.length bc) o n (.mk [] [] t []) none 0 0 none 0 0 (stx_text h2 t) hi hk)
  have HB2:=hide hb2
  clear HST h2 hs2 hb2 hB2
  go_wp2_with fail
  refine HP.out.mono ?_
  rintro e w3 ⟨rfl,h3,hb3,-⟩
  obtain⟨ov3,hB3⟩:=h3.bb
  have HR:=hide (breset_any w3 B ov3 pa (.slice bp t.length bc) _ _ hB3)
  have HE:Hid (St ((w3.setCell ⟨B,1,none⟩ (.pointer none)).setCell ⟨B,2,none⟩ (.slice none 0 0)) base B (i++[textIn nd t]) [] o n/\Below base w1 ((w3.setCell ⟨B,1,none⟩ (.pointer none)).setCell ⟨B,2,none⟩ (.slice none 0 0))):=hide (by
   have hbB:=h3.1
   refine⟨⟨.pointer none,.slice none 0 0,?_,.inl rfl,World.ownsRow_nil _ _ _ _⟩,(((HB2.out.trans hb3).setCell (p:=⟨B,1,none⟩) hbB _).setCell (p:=⟨B,2,none⟩) hbB _)⟩
   have e1:i++[textIn nd t]=i++[addKid nd (.mk [] [] t [])]:=by
    unfold textIn
    rw[if_neg ht0]
   rw[e1]
   have s1:=stays_set hB3 1 (.pointer none)
   have hB4:=(bb_set hB3 (.pointer none)).1
   have s2:=stays_set hB4 2 (.slice none 0 0)
   have q1:St0 (w3.setCell ⟨B,1,none⟩ (.pointer none)) base B (i++[addKid nd (.mk [] [] t [])]) (.pointer none) (.slice bp t.length bc) o n:=h3.stays s1 (bb_no_node hB3) (fun ov' hb=>(bb_set hb _).1)
   exact q1.stays s2 (bb_no_node hB4) (fun ov' hb=>(bb_set hb _).2))
  clear HP h3 hb3 hB3
  go_wp2_with fail
  refine HR.out.mono ?_
  rintro e w4 ⟨rfl,rfl⟩
  clear HR
  go_wp2_with fail
  go_end0
  exact⟨rfl,HE.out⟩
end Go.Proofs.YtkiofbikkhhdfaaGreatDoor.Dm
namespace Utf1
mutual
def cntN:Nd->Nat
 | .mk _ _ _ k=>1+cntL k
def cntL:List Nd->Nat
 | []=>0
 | n :: r=>cntN n+cntL r
end
theorem cntL_app:∀ a b:List Nd,cntL (a++b)=cntL a+cntL b
 | [],b=>by simp[cntL]
 | n :: a,b=>by
  rw[List.cons_append,cntL,cntL,cntL_app a b]
  omega
theorem cntN_kids (n:Nd):cntN n=1+cntL n.kids:=by
 cases n
 rw[cntN]
 rfl
theorem len_cnt:∀ l:List Nd,l.length<=cntL l
 | []=>Nat.le_refl _
 | n :: r=>by
  have:=len_cnt r
  have h1:=cntN_kids n
  rw[cntL,List.length_cons]
  omega
end Utf1
namespace Go.Proofs.YtkiofbikkhhdfaaGreatDoor.Dm
open Go.RowKit
open Utf1
def tx (t:List UInt8):Nat:=if t=[] then 0 else 1
theorem cnt_add (nd x:Nd):cntN (addKid nd x)=cntN nd+cntN x:=by
 rw[cntN_kids,cntN_kids nd]
 show 1+cntL (nd.kids++[x])=_
 rw[cntL_app]
 simp only[cntL]
 omega
theorem cnt_text (nd:Nd) (t:List UInt8):cntN (textIn nd t)=cntN nd+tx t:=by
 unfold textIn tx
 split
 ·rfl
 ·rw[cnt_add,cntN]
  rfl
def closeR:Nat->List Nd->List UInt8->List Nd × List UInt8
 | n+1,nd :: p :: r,t=>closeR n (addKid p (textIn nd t) :: r) []
 | _,r,t=>(r,t)
theorem own_pop {w:World}{base:Nat}{e:TypeId}{size g n cap:Nat}{xs ys:List Value}(h:w.ownsRow base e size (.slice (some ⟨g,0,none⟩) (n+1) cap) (n+1) (xs++ys))(hy:ys.length=size):w.ownsRow base e size (.slice (some ⟨g,0,none⟩) n cap) n xs:=by
 obtain⟨h1,⟨e1,_⟩ | ⟨g',cap',cur,e1,h2,h3,h4,h5,h6,h7⟩⟩:=h
 ·cases e1
 ·cases e1
  have hx:xs.length=n*size:=by
   rw[List.length_append,hy,Nat.add_mul,Nat.one_mul] at h1
   omega
  refine⟨hx,.inr ⟨g,cap,cur,rfl,h2,h3,by omega,h5,h6,?_⟩⟩
  have:=congrArg (List.take (n*size)) h7
  rw[List.take_take,Nat.min_eq_left (Nat.mul_le_mul_right _ (Nat.le_succ n)),<-hx,List.take_left] at this
  rw[<-hx]
  exact this
theorem pop_facts {w:World}{base B:Nat}{i:List Nd}{nd:Nd}{pa bv:Value}{o n:Nat}(h:St0 w base B (i++[nd]) pa bv o n):∃ (go oc:Nat) (ap:Option Addr) (am ac:Nat) (cp:Option Addr) (cm cc:Nat),
  BB w B (.slice (some ⟨go,0,none⟩) (i.length+1) oc) pa bv (.int .i64 (o:Int)) (.int .i64 (n:Int)) /\
  w.cell? ⟨go,i.length*4,none⟩=some (.string ⟨nd.name.toArray⟩)/\w.cell? ⟨go,i.length*4+1,none⟩=some (.slice ap am ac)/\w.cell? ⟨go,i.length*4+2,none⟩=some (.string ⟨nd.text.toArray⟩)/\w.cell? ⟨go,i.length*4+3,none⟩=some (.slice cp cm cc)/\i.length+1<=oc /\
  ∀ w',Below w.heap.size w w'->StX (w'.setCell ⟨B,0,none⟩ (.slice (some ⟨go,0,none⟩) i.length oc)) base B i pa bv o n nd (.slice ap am ac) (.slice cp cm cc):=by
 obtain⟨hbB,hbw,ov,l,fp,hl,hB,hro,hall,hnd⟩:=h
 obtain⟨li,av,kv,rfl,hli⟩:=map_snoc hl
 obtain⟨fi,fb,rfl,hki,hk1⟩:=kall_split hall
 obtain⟨hav,hkv⟩:=kall_one hk1
 have hll:li.length=i.length:=by
  have:=congrArg List.length hli
  rwa [List.length_map] at this
 have hlen:(li++[(nd,av,kv)]).length=i.length+1:=by simp[hll]
 rw[hlen] at hro
 obtain⟨go,oc,rfl,hcell⟩:=own_at hro (by omega)
 obtain⟨ap,am,ac,rfl⟩:=own_slice hav
 obtain⟨k,fk,hkk,rfl,hrk,hkall⟩:=kat_inv hkv
 obtain⟨cp,cm,cc,rfl⟩:=own_slice hrk
 have hat:∀ j,j < 4->w.cell? ⟨go,i.length*4+j,none⟩=(ndCells1 nd (.slice ap am ac) (.slice cp cm cc))[j]?:=by
  intro j hj
  rw[hcell _ (by omega),ndCells_at _ i.length _ (by rw[<-hll,List.getElem?_append_right (Nat.le_refl _),Nat.sub_self];rfl) j hj]
 have hoc:i.length+1<=oc:=by
  obtain⟨_,⟨e1,_⟩ | ⟨g',cap',cur,e1,_,_,h4,_⟩⟩:=hro
  ·cases e1
  ·cases e1
   exact h4
 refine⟨go,oc,ap,am,ac,cp,cm,cc,hB,hat 0 (by decide),hat 1 (by decide),hat 2 (by decide),hat 3 (by decide),hoc,?_⟩
 intro w' hb
 have hB':BB w' B (.slice (some ⟨go,0,none⟩) (i.length+1) oc) pa bv (.int .i64 (o:Int)) (.int .i64 (n:Int)):=(hb.block _ (lt_of_block hB)).trans hB
 have hs:=stays_set hB' 0 (.slice (some ⟨go,0,none⟩) i.length oc)
 have hnB:∀ j∈blk (.slice (some ⟨go,0,none⟩) (i.length+1) oc)++(fi++(blk (.slice cp cm cc)++fk)),j ∉ [B]:=by
  intro j hj hm
  obtain⟨cs,fz,e⟩:=node_typed ((KAt.mk _ _ _ (by rw[hlen];exact hro) hall).under hb) j hj
  exact bb_no_node hB' j hm cs fz e
 have hsz:(w'.setCell ⟨B,0,none⟩ (.slice (some ⟨go,0,none⟩) i.length oc)).heap.size=w'.heap.size:=by simp
 have hnd':=List.nodup_append.1 hnd
 have hnd2:=List.nodup_append.1 hnd'.2.1
 have hro2:w'.ownsRow base 54 4 (.slice (some ⟨go,0,none⟩) i.length oc) i.length (ndCells li):=own_pop (by have:=own_below hro hb;rw[nd_one] at this;exact this) rfl
 refine⟨hbB,by rw[hsz];exact Nat.le_trans hbw hb.size,.slice (some ⟨go,0,none⟩) i.length oc,li,fi,blk (.slice cp cm cc)++fk,hli,tok_set hB' 0 _,?_,?_,?_,?_,?_,?_,?_⟩
 ·rw[hll]
  exact own_stays hro2 hs.block (fun j hj=>hnB j (List.mem_append_left _ (by have:(Value.slice (some ⟨go,0,none⟩) (i.length+1) oc).ownBlock=some j:=hj;unfold blk;rw[this];simp)))
 ·exact (hki.under hb).stays hs (fun j hj=>hnB j (List.mem_append_right _ (List.mem_append_left _ hj)))
 ·exact List.nodup_append.2 ⟨hnd'.1,hnd2.1,fun a ha c hc=>hnd'.2.2 a ha c (List.mem_append_left _ hc)⟩
 ·exact attr_stays (own_below hav hb) hs
 ·rw[hkk]
  exact KAt.stays ((KAt.mk _ k fk hrk hkall).under hb) hs (fun j hj=>hnB j (List.mem_append_right _ (List.mem_append_right _ hj)))
 ·exact hnd2.2.1
 ·intro j hj hm
  rcases List.mem_append.1 hm with hm | hm
  ·exact hnd'.2.2 j hm j (List.mem_append_right _ hj) rfl
  ·exact hnd2.2.2 j hm j hj rfl
end Go.Proofs.YtkiofbikkhhdfaaGreatDoor.Dm
