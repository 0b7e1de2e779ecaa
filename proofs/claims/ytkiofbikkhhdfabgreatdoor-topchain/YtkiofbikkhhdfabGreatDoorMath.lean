import Derived.Lib.RuneBytes
import Derived.Laws.RangeAny
namespace Utf1
open Go
def atN (l:List UInt8) (k:Nat):Nat:=(l.getD k 0).toNat
def Scalar (r:Nat):Prop:=r < 55296\/(57344<=r/\r<=1114111)
theorem valid_iff (r:Nat):Utf8.valid (r:Int)=true ↔ Scalar r:=by
 simp[Utf8.valid,Scalar]
 omega
def dl (l:List UInt8):Nat × Nat:=Utf8.decode ⟨l.toArray⟩ 0
theorem get_drop (s:ByteArray) (pos k:Nat):s.get! (pos+k)=(s.data.toList.drop pos).getD k 0:=by
 rw[List.getD_eq_getElem?_getD,List.getElem?_drop]
 show s.data[pos+k]! = _
 rw[getElem!_def,Array.getElem?_toList]
 cases s.data[pos+k]? <;> rfl
theorem get_mk (l:List UInt8) (k:Nat):((⟨l.toArray⟩:ByteArray).get! (0+k)).toNat=atN l k:=congrArg UInt8.toNat (get_drop ⟨l.toArray⟩ 0 k)
theorem get_at' (s:ByteArray) (pos k:Nat):(s.get! (pos+k)).toNat=atN (s.data.toList.drop pos) k:=congrArg UInt8.toNat (get_drop s pos k)
theorem size_mk (l:List UInt8):(⟨l.toArray⟩:ByteArray).size=l.length:=by
 show l.toArray.size=_
 exact List.size_toArray
theorem size_drop (s:ByteArray) (pos:Nat):(s.data.toList.drop pos).length=s.size - pos:=by
 rw[List.length_drop,Array.length_toList]
 rfl
def er (r:Nat):List UInt8:=Lib.encodeRune (r:Int)
def rtN (n a b c d:Nat):Nat :=
 if n=0 then 0
 else if a < 128 then 1
 else if 194<=a/\a<=223 then (if 2<=n/\128<=b/\b<=191 then 2 else 0)
 else if 224<=a/\a<=239 then
  (if 3<=n/\(a=224->160<=b)/\128<=b/\b<=191/\(a=237->b<=159)/\128<=c/\c<=191 then 3 else 0)
 else if 240<=a/\a<=244 then
  (if 4<=n/\(a=240->144<=b)/\128<=b/\b<=191/\(a=244->b<=143)/\128<=c/\c<=191/\128<=d/\d<=191 then 4 else 0)
 else 0
def rt (l:List UInt8):Nat:=rtN l.length (atN l 0) (atN l 1) (atN l 2) (atN l 3)
theorem decode_bad (s:ByteArray) (i n:Nat)(hn:s.size=i+n)(h:rtN n (s.get! (i+0)).toNat (s.get! (i+1)).toNat (s.get! (i+2)).toNat (s.get! (i+3)).toNat=0)(h0:n≠0):Utf8.decode s i=(65533,1):=by
 have l0:=(s.get! (i+0)).toNat_lt
 unfold rtN at h
 simp only[Utf8.decode,Utf8.runeError]
 split
 ·rename_i h1
  rw[if_neg h0,if_pos h1] at h
  exact absurd h (by decide)
 ·rename_i h1
  rw[if_neg h0,if_neg h1] at h
  split
  ·rename_i h2
   simp only[Bool.and_eq_true,beq_iff_eq,decide_eq_true_eq] at h2
   split
   ·exfalso
    repeat' split at h
    all_goals omega
   ·rfl
  ·split
   ·rename_i h2 h3
    simp only[Bool.and_eq_true,beq_iff_eq,decide_eq_true_eq] at h2 h3
    split
    ·rename_i h4
     simp only[Bool.and_eq_true,decide_eq_true_eq,valid_iff] at h4
     unfold Scalar at h4
     exfalso
     repeat' split at h
     all_goals omega
    ·rfl
   ·split
    ·rename_i h2 h3 h4
     simp only[Bool.and_eq_true,beq_iff_eq,decide_eq_true_eq] at h2 h3 h4
     split
     ·rename_i h5
      simp only[Bool.and_eq_true,decide_eq_true_eq,valid_iff] at h5
      unfold Scalar at h5
      exfalso
      repeat' split at h
      all_goals omega
     ·rfl
    ·rfl
theorem decode_one (s:ByteArray) (i:Nat)(h:(s.get! (i+0)).toNat < 128):Utf8.decode s i=((s.get! (i+0)).toNat,1):=by
 simp only[Utf8.decode]
 exact if_pos h
theorem decode_two (s:ByteArray) (i:Nat)(hn:i+1 < s.size)(h0:194<=(s.get! (i+0)).toNat)(h1:(s.get! (i+0)).toNat<=223)(h2:128<=(s.get! (i+1)).toNat)(h3:(s.get! (i+1)).toNat<=191) :
  Utf8.decode s i=((s.get! (i+0)).toNat % 32*64+(s.get! (i+1)).toNat % 64,2):=by
 simp only[Utf8.decode]
 rw[if_neg (by omega),if_pos (by simp only[Bool.and_eq_true,beq_iff_eq,decide_eq_true_eq];omega),if_pos (by omega)]
theorem decode_three (s:ByteArray) (i:Nat)(hn:i+2 < s.size)(h0:224<=(s.get! (i+0)).toNat)(h1:(s.get! (i+0)).toNat<=239)(h2:128<=(s.get! (i+1)).toNat)(h3:(s.get! (i+1)).toNat<=191)
  (h4:128<=(s.get! (i+2)).toNat)(h5:(s.get! (i+2)).toNat<=191)(h6:(s.get! (i+0)).toNat=224->160<=(s.get! (i+1)).toNat)(h7:(s.get! (i+0)).toNat=237->(s.get! (i+1)).toNat<=159) :
  Utf8.decode s i=((s.get! (i+0)).toNat % 16*4096+(s.get! (i+1)).toNat % 64*64+(s.get! (i+2)).toNat % 64,3):=by
 simp only[Utf8.decode]
 rw[if_neg (by omega),if_neg (by simp only[Bool.and_eq_true,beq_iff_eq,decide_eq_true_eq];omega),if_pos (by simp only[Bool.and_eq_true,beq_iff_eq,decide_eq_true_eq];omega),
  if_pos (by simp only[Bool.and_eq_true,decide_eq_true_eq,valid_iff];unfold Scalar;omega)]
theorem decode_four (s:ByteArray) (i:Nat)(hn:i+3 < s.size)(h0:240<=(s.get! (i+0)).toNat)(h1:(s.get! (i+0)).toNat<=244)(h2:128<=(s.get! (i+1)).toNat)(h3:(s.get! (i+1)).toNat<=191)
  (h4:128<=(s.get! (i+2)).toNat)(h5:(s.get! (i+2)).toNat<=191)(h8:128<=(s.get! (i+3)).toNat)(h9:(s.get! (i+3)).toNat<=191)(h6:(s.get! (i+0)).toNat=240->144<=(s.get! (i+1)).toNat)(h7:(s.get! (i+0)).toNat=244->(s.get! (i+1)).toNat<=143) :
  Utf8.decode s i=((s.get! (i+0)).toNat % 8*262144+(s.get! (i+1)).toNat % 64*4096+(s.get! (i+2)).toNat % 64*64+(s.get! (i+3)).toNat % 64,4):=by
 simp only[Utf8.decode]
 rw[if_neg (by omega),if_neg (by simp only[Bool.and_eq_true,beq_iff_eq,decide_eq_true_eq];omega),if_neg (by simp only[Bool.and_eq_true,beq_iff_eq,decide_eq_true_eq];omega),if_pos (by simp only[Bool.and_eq_true,beq_iff_eq,decide_eq_true_eq];omega),
  if_pos (by simp only[Bool.and_eq_true,decide_eq_true_eq,valid_iff];unfold Scalar;omega)]
theorem dl_bad (l:List UInt8)(h:rt l=0)(hl:l≠[]):dl l=(65533,1):=by
 have h1:l.length≠0:=by simpa using hl
 refine decode_bad ⟨l.toArray⟩ 0 l.length (by rw[size_mk];omega) ?_ h1
 rw[get_mk,get_mk,get_mk,get_mk]
 exact h
theorem decode_dl (s:ByteArray) (pos:Nat)(hp:pos < s.size):Utf8.decode s pos=dl (s.data.toList.drop pos):=by
 have hlen:=size_drop s pos
 have hmk:=size_mk (s.data.toList.drop pos)
 have g:∀ k,((⟨(s.data.toList.drop pos).toArray⟩:ByteArray).get! (0+k)).toNat=(s.get! (pos+k)).toNat:=fun k=>by rw[get_mk,get_at']
 have g0:=g 0
 have g1:=g 1
 have g2:=g 2
 have g3:=g 3
 unfold dl
 by_cases h:rtN (s.size - pos) (s.get! (pos+0)).toNat (s.get! (pos+1)).toNat (s.get! (pos+2)).toNat (s.get! (pos+3)).toNat=0
 ·rw[decode_bad s pos (s.size - pos) (by omega) h (by omega),decode_bad _ 0 (s.size - pos) (by omega) (by rw[g0,g1,g2,g3];exact h) (by omega)]
 ·unfold rtN at h
  split at h
  ·omega
  ·split at h
   ·rw[decode_one s pos (by omega),decode_one _ 0 (by omega),g0]
   ·split at h
    ·split at h
     ·rw[decode_two s pos (by omega) (by omega) (by omega) (by omega) (by omega),decode_two _ 0 (by omega) (by omega) (by omega) (by omega) (by omega),g0,g1]
     ·exact absurd rfl h
    ·split at h
     ·split at h
      ·rw[decode_three s pos (by omega) (by omega) (by omega) (by omega) (by omega) (by omega) (by omega) (by omega) (by omega),decode_three _ 0 (by omega) (by omega) (by omega) (by omega) (by omega) (by omega) (by omega) (by omega) (by omega),g0,g1,g2]
      ·exact absurd rfl h
     ·split at h
      ·split at h
       ·rw[decode_four s pos (by omega) (by omega) (by omega) (by omega) (by omega) (by omega) (by omega) (by omega) (by omega) (by omega) (by omega),decode_four _ 0 (by omega) (by omega) (by omega) (by omega) (by omega) (by omega) (by omega) (by omega) (by omega) (by omega) (by omega),g0,g1,g2,g3]
       ·exact absurd rfl h
      ·exact absurd rfl h
theorem er1 {r:Nat}(h:r<=127):er r=[UInt8.ofNat r]:=by
 unfold er Lib.encodeRune
 rw[Lib.encodeRuneZ_one (by omega) (by omega)]
 rfl
theorem er2 {r:Nat}(h0:128<=r)(h:r<=2047):er r=[UInt8.ofNat (192+r / 64),UInt8.ofNat (128+r % 64)]:=by
 unfold er Lib.encodeRune
 rw[Lib.encodeRuneZ_two (by omega) (by omega)]
 rfl
theorem er3 {r:Nat}(h:(2048<=r/\r < 55296)\/(57343 < r/\r<=65535)):er r=[UInt8.ofNat (224+r / 4096),UInt8.ofNat (128+r / 64 % 64),UInt8.ofNat (128+r % 64)]:=by
 unfold er Lib.encodeRune
 rw[Lib.encodeRuneZ_three (by omega)]
 rfl
theorem er4 {r:Nat}(h0:65536<=r)(h:r<=1114111):er r=[UInt8.ofNat (240+r / 262144),UInt8.ofNat (128+r / 4096 % 64),UInt8.ofNat (128+r / 64 % 64),UInt8.ofNat (128+r % 64)]:=by
 unfold er Lib.encodeRune
 rw[Lib.encodeRuneZ_four (by omega) (by omega)]
 rfl
theorem ofNat_of {b:UInt8}{x:Nat}(h:x=b.toNat):UInt8.ofNat x=b:=by subst h;simp
theorem toNat_ofNat {x:Nat}(h:x < 256):(UInt8.ofNat x).toNat=x:=by simp;omega
theorem dl_good (l:List UInt8)(h:rt l≠0):∃ r t,Scalar r/\l=er r++t/\dl l=(r,(er r).length)/\rt l=(er r).length:=by
 have hsz:=size_mk l
 have g0:=get_mk l 0
 have g1:=get_mk l 1
 have g2:=get_mk l 2
 have g3:=get_mk l 3
 unfold rt rtN at h
 unfold dl rt rtN
 split at h
 ·exact absurd rfl h
 rename_i hn
 rw[if_neg hn]
 split at h
 ·rename_i h1
  rw[if_pos h1,decode_one _ 0 (by omega),g0]
  obtain⟨b0,t,rfl⟩:∃ b0 t,l=b0 :: t:=by cases l;(simp at hn);exact⟨_,_,rfl⟩
  have e0:atN (b0 :: t) 0=b0.toNat:=rfl
  rw[e0] at h1 ⊢
  have hr:er b0.toNat=[b0]:=by rw[er1 (by omega),ofNat_of rfl]
  exact⟨b0.toNat,t,.inl (by omega),by rw[hr];rfl,by rw[hr];rfl,by rw[hr];rfl⟩
 ·rename_i h1
  rw[if_neg h1]
  split at h
  ·rename_i h2
   rw[if_pos h2]
   split at h
   ·rename_i h3
    rw[if_pos h3,decode_two _ 0 (by omega) (by omega) (by omega) (by omega) (by omega),g0,g1]
    obtain⟨b0,b1,t,rfl⟩:∃ b0 b1 t,l=b0 :: b1 :: t:=by
     match l,h3.1 with
     | b0 :: b1 :: t,_=>exact⟨_,_,_,rfl⟩
    have e0:atN (b0 :: b1 :: t) 0=b0.toNat:=rfl
    have e1:atN (b0 :: b1 :: t) 1=b1.toNat:=rfl
    rw[e0] at h1 h2 ⊢
    rw[e1] at h3 ⊢
    have hr:er (b0.toNat % 32*64+b1.toNat % 64)=[b0,b1]:=by
     rw[er2 (by omega) (by omega),ofNat_of (b:=b0) (by omega),ofNat_of (b:=b1) (by omega)]
    exact⟨b0.toNat % 32*64+b1.toNat % 64,t,.inl (by omega),by rw[hr];rfl,by rw[hr];rfl,by rw[hr];rfl⟩
   ·exact absurd rfl h
  ·rename_i h2
   rw[if_neg h2]
   split at h
   ·rename_i h3
    rw[if_pos h3]
    split at h
    ·rename_i h4
     rw[if_pos h4,decode_three _ 0 (by omega) (by omega) (by omega) (by omega) (by omega) (by omega) (by omega) (by omega) (by omega),g0,g1,g2]
     obtain⟨b0,b1,b2,t,rfl⟩:∃ b0 b1 b2 t,l=b0 :: b1 :: b2 :: t:=by
      match l,h4.1 with
      | b0 :: b1 :: b2 :: t,_=>exact⟨_,_,_,_,rfl⟩
     have e0:atN (b0 :: b1 :: b2 :: t) 0=b0.toNat:=rfl
     have e1:atN (b0 :: b1 :: b2 :: t) 1=b1.toNat:=rfl
     have e2:atN (b0 :: b1 :: b2 :: t) 2=b2.toNat:=rfl
     rw[e0,e1,e2] at h4
     rw[e0] at h1 h2 h3
     rw[e0,e1,e2]
     have hs:Scalar (b0.toNat % 16*4096+b1.toNat % 64*64+b2.toNat % 64):=by unfold Scalar;omega
     have hr:er (b0.toNat % 16*4096+b1.toNat % 64*64+b2.toNat % 64)=[b0,b1,b2]:=by
      rw[er3 (by omega),ofNat_of (b:=b0) (by omega),ofNat_of (b:=b1) (by omega),ofNat_of (b:=b2) (by omega)]
     exact⟨_,t,hs,by rw[hr];rfl,by rw[hr];rfl,by rw[hr];rfl⟩
    ·exact absurd rfl h
   ·rename_i h3
    rw[if_neg h3]
    split at h
    ·rename_i h4
     rw[if_pos h4]
     split at h
     ·rename_i h5
      rw[if_pos h5,decode_four _ 0 (by omega) (by omega) (by omega) (by omega) (by omega) (by omega) (by omega) (by omega) (by omega) (by omega) (by omega),g0,g1,g2,g3]
      obtain⟨b0,b1,b2,b3,t,rfl⟩:∃ b0 b1 b2 b3 t,l=b0 :: b1 :: b2 :: b3 :: t:=by
       match l,h5.1 with
       | b0 :: b1 :: b2 :: b3 :: t,_=>exact⟨_,_,_,_,_,rfl⟩
      have e0:atN (b0 :: b1 :: b2 :: b3 :: t) 0=b0.toNat:=rfl
      have e1:atN (b0 :: b1 :: b2 :: b3 :: t) 1=b1.toNat:=rfl
      have e2:atN (b0 :: b1 :: b2 :: b3 :: t) 2=b2.toNat:=rfl
      have e3:atN (b0 :: b1 :: b2 :: b3 :: t) 3=b3.toNat:=rfl
      rw[e0,e1,e2,e3] at h5
      rw[e0] at h1 h2 h3 h4
      rw[e0,e1,e2,e3]
      have hs:Scalar (b0.toNat % 8*262144+b1.toNat % 64*4096+b2.toNat % 64*64+b3.toNat % 64):=by unfold Scalar;omega
      have hr:er (b0.toNat % 8*262144+b1.toNat % 64*4096+b2.toNat % 64*64+b3.toNat % 64)=[b0,b1,b2,b3]:=by
       rw[er4 (by omega) (by omega),ofNat_of (b:=b0) (by omega),ofNat_of (b:=b1) (by omega),ofNat_of (b:=b2) (by omega),ofNat_of (b:=b3) (by omega)]
      exact⟨_,t,hs,by rw[hr];rfl,by rw[hr];rfl,by rw[hr];rfl⟩
     ·exact absurd rfl h
    ·exact absurd rfl h
theorem rt_er (r:Nat)(hs:Scalar r) (t:List UInt8):rt (er r++t)=(er r).length:=by
 unfold Scalar at hs
 by_cases h1:r<=127
 ·rw[er1 h1]
  have e0:atN ([UInt8.ofNat r]++t) 0=r:=toNat_ofNat (by omega)
  unfold rt rtN
  rw[e0,if_neg (by simp),if_pos (by omega)]
  rfl
 ·by_cases h2:r<=2047
  ·rw[er2 (by omega) h2]
   have e0:atN ([UInt8.ofNat (192+r / 64),UInt8.ofNat (128+r % 64)]++t) 0=192+r / 64:=toNat_ofNat (by omega)
   have e1:atN ([UInt8.ofNat (192+r / 64),UInt8.ofNat (128+r % 64)]++t) 1=128+r % 64:=toNat_ofNat (by omega)
   unfold rt rtN
   rw[e0,e1,if_neg (by simp),if_neg (by omega),if_pos (by omega),if_pos ⟨by simp,by omega,by omega⟩]
   rfl
  ·by_cases h3:r<=65535
   ·rw[er3 (by omega)]
    have e0:atN ([UInt8.ofNat (224+r / 4096),UInt8.ofNat (128+r / 64 % 64),UInt8.ofNat (128+r % 64)]++t) 0=224+r / 4096:=toNat_ofNat (by omega)
    have e1:atN ([UInt8.ofNat (224+r / 4096),UInt8.ofNat (128+r / 64 % 64),UInt8.ofNat (128+r % 64)]++t) 1=128+r / 64 % 64:=toNat_ofNat (by omega)
    have e2:atN ([UInt8.ofNat (224+r / 4096),UInt8.ofNat (128+r / 64 % 64),UInt8.ofNat (128+r % 64)]++t) 2=128+r % 64:=toNat_ofNat (by omega)
    unfold rt rtN
    rw[e0,e1,e2,if_neg (by simp),if_neg (by omega),if_neg (by omega),if_pos (by omega),if_pos ⟨by simp,by omega,by omega,by omega,by omega,by omega,by omega⟩]
    rfl
   ·rw[er4 (by omega) (by omega)]
    have e0:atN ([UInt8.ofNat (240+r / 262144),UInt8.ofNat (128+r / 4096 % 64),UInt8.ofNat (128+r / 64 % 64),UInt8.ofNat (128+r % 64)]++t) 0=240+r / 262144:=toNat_ofNat (by omega)
    have e1:atN ([UInt8.ofNat (240+r / 262144),UInt8.ofNat (128+r / 4096 % 64),UInt8.ofNat (128+r / 64 % 64),UInt8.ofNat (128+r % 64)]++t) 1=128+r / 4096 % 64:=toNat_ofNat (by omega)
    have e2:atN ([UInt8.ofNat (240+r / 262144),UInt8.ofNat (128+r / 4096 % 64),UInt8.ofNat (128+r / 64 % 64),UInt8.ofNat (128+r % 64)]++t) 2=128+r / 64 % 64:=toNat_ofNat (by omega)
    have e3:atN ([UInt8.ofNat (240+r / 262144),UInt8.ofNat (128+r / 4096 % 64),UInt8.ofNat (128+r / 64 % 64),UInt8.ofNat (128+r % 64)]++t) 3=128+r % 64:=toNat_ofNat (by omega)
    unfold rt rtN
    rw[e0,e1,e2,e3,if_neg (by simp),if_neg (by omega),if_neg (by omega),if_neg (by omega),if_pos (by omega),if_pos ⟨by simp,by omega,by omega,by omega,by omega,by omega,by omega,by omega,by omega⟩]
    rfl
theorem er_len (r:Nat):1<=(er r).length/\(er r).length<=4:=by
 have:=Lib.runeCells_le (r:Int)
 rw[Lib.runeCells_length] at this
 exact this
theorem ofNat_inj {x y:Nat}(hx:x < 256)(hy:y < 256)(h:UInt8.ofNat x=UInt8.ofNat y):x=y:=by
 have:=congrArg UInt8.toNat h
 rw[toNat_ofNat hx,toNat_ofNat hy] at this
 exact this
theorem er_inj {r q:Nat}(hr:Scalar r)(hq:Scalar q)(h:er r=er q):r=q:=by
 unfold Scalar at hr hq
 have key:∀ x:Nat,(x < 55296\/(57344<=x/\x<=1114111))->(x<=127/\er x=[UInt8.ofNat x])\/(128<=x/\x<=2047/\er x=[UInt8.ofNat (192+x / 64),UInt8.ofNat (128+x % 64)])
   \/ (2048<=x/\x<=65535/\er x=[UInt8.ofNat (224+x / 4096),UInt8.ofNat (128+x / 64 % 64),UInt8.ofNat (128+x % 64)])
   \/ (65536<=x/\x<=1114111/\er x=[UInt8.ofNat (240+x / 262144),UInt8.ofNat (128+x / 4096 % 64),UInt8.ofNat (128+x / 64 % 64),UInt8.ofNat (128+x % 64)]):=by
  intro x hx
  by_cases h1:x<=127
  ·exact .inl ⟨h1,er1 h1⟩
  ·by_cases h2:x<=2047
   ·exact .inr (.inl ⟨by omega,h2,er2 (by omega) h2⟩)
   ·by_cases h3:x<=65535
    ·exact .inr (.inr (.inl ⟨by omega,h3,er3 (by omega)⟩))
    ·exact .inr (.inr (.inr ⟨by omega,by omega,er4 (by omega) (by omega)⟩))
 rcases key r hr with⟨a,ea⟩ | ⟨a,a',ea⟩ | ⟨a,a',ea⟩ | ⟨a,a',ea⟩ <;> rcases key q hq with⟨b,eb⟩ | ⟨b,b',eb⟩ | ⟨b,b',eb⟩ | ⟨b,b',eb⟩ <;> rw[ea,eb] at h <;> simp only[List.cons.injEq,and_true,reduceCtorEq,and_false] at h
 ·exact ofNat_inj (by omega) (by omega) h
 ·have h0:=ofNat_inj (by omega) (by omega) h.1
  have h1:=ofNat_inj (by omega) (by omega) h.2
  omega
 ·have h0:=ofNat_inj (by omega) (by omega) h.1
  have h1:=ofNat_inj (by omega) (by omega) h.2.1
  have h2:=ofNat_inj (by omega) (by omega) h.2.2
  omega
 ·have h0:=ofNat_inj (by omega) (by omega) h.1
  have h1:=ofNat_inj (by omega) (by omega) h.2.1
  have h2:=ofNat_inj (by omega) (by omega) h.2.2.1
  have h3:=ofNat_inj (by omega) (by omega) h.2.2.2
  omega
theorem dl_er (r:Nat)(hs:Scalar r) (t:List UInt8):dl (er r++t)=(r,(er r).length):=by
 have h:=rt_er r hs t
 have hp:=er_len r
 obtain⟨q,u,hq,he,hd,hrt⟩:=dl_good (er r++t) (by omega)
 have hlen:(er r).length=(er q).length:=by omega
 have e:er r=er q:=List.append_inj_left he hlen
 rw[hd,er_inj hs hq e]
theorem dl_cases (l:List UInt8)(hl:l≠[]):(rt l=0/\dl l=(65533,1))\/∃ r t,Scalar r/\l=er r++t/\dl l=(r,(er r).length)/\rt l=(er r).length:=by
 by_cases h:rt l=0
 ·exact .inl ⟨h,dl_bad l h hl⟩
 ·exact .inr (dl_good l h)
theorem er_bytes (r:Nat)(hs:Scalar r):(r < 128/\er r=[UInt8.ofNat r])\/(128<=r/\∀ x∈er r,128<=x.toNat):=by
 unfold Scalar at hs
 by_cases h1:r<=127
 ·exact .inl ⟨by omega,er1 h1⟩
 ·refine .inr ⟨by omega,?_⟩
  by_cases h2:r<=2047
  ·rw[er2 (by omega) h2]
   simp only[List.mem_cons,List.not_mem_nil,or_false,forall_eq_or_imp,forall_eq]
   rw[toNat_ofNat (by omega),toNat_ofNat (by omega)];omega
  ·by_cases h3:r<=65535
   ·rw[er3 (by omega)]
    simp only[List.mem_cons,List.not_mem_nil,or_false,forall_eq_or_imp,forall_eq]
    rw[toNat_ofNat (by omega),toNat_ofNat (by omega),toNat_ofNat (by omega)];omega
   ·rw[er4 (by omega) (by omega)]
    simp only[List.mem_cons,List.not_mem_nil,or_false,forall_eq_or_imp,forall_eq]
    rw[toNat_ofNat (by omega),toNat_ofNat (by omega),toNat_ofNat (by omega),toNat_ofNat (by omega)];omega
def runesF:Nat->List UInt8->List Nat
 | 0,_=>[]
 | n+1,l=>if l=[] then [] else (dl l).1 :: runesF n (l.drop (dl l).2)
def runes (l:List UInt8):List Nat:=runesF l.length l
theorem dl_width (l:List UInt8)(hl:l≠[]):1<=(dl l).2/\(dl l).2<=4/\(dl l).2<=l.length:=by
 rcases dl_cases l hl with⟨_,hd⟩ | ⟨r,t,_,he,hd,_⟩
 ·rw[hd]
  have:l.length≠0:=by simpa using hl
  exact⟨Nat.le_refl _,by decide,by show 1<=l.length;omega⟩
 ·have:=er_len r
  rw[hd]
  refine⟨this.1,this.2,?_⟩
  rw[he,List.length_append]
  exact Nat.le_add_right _ _
theorem runesF_more:∀ (n m:Nat) (l:List UInt8),l.length<=n->l.length<=m->runesF n l=runesF m l
 | 0,m,l,hn,_=>by
  have:l=[]:=List.length_eq_zero_iff.1 (by omega)
  subst this
  cases m <;> simp[runesF]
 | n+1,0,l,_,hm=>by
  have:l=[]:=List.length_eq_zero_iff.1 (by omega)
  subst this
  simp[runesF]
 | n+1,m+1,l,hn,hm=>by
  rw[runesF,runesF]
  by_cases hl:l=[]
  ·rw[if_pos hl,if_pos hl]
  ·have hw:=dl_width l hl
   rw[if_neg hl,if_neg hl,runesF_more n m _ (by simp;omega) (by simp;omega)]
theorem runes_step (l:List UInt8)(hl:l≠[]):runes l=(dl l).1 :: runes (l.drop (dl l).2):=by
 have hw:=dl_width l hl
 unfold runes
 obtain⟨k,hk⟩:∃ k,l.length=k+1:=⟨l.length - 1,by omega⟩
 rw[hk,runesF,if_neg hl,runesF_more k (l.drop (dl l).2).length _ (by simp;omega) (Nat.le_refl _)]
theorem runes_nil:runes []=[]:=rfl
theorem runes_er (r:Nat)(hs:Scalar r) (t:List UInt8):runes (er r++t)=r :: runes t:=by
 have:=er_len r
 have hne:er r++t≠[]:=by
  intro e
  have:=congrArg List.length e
  simp only[List.length_append,List.length_nil] at this
  omega
 rw[runes_step _ hne,dl_er r hs t]
 simp
def enc (rs:List Nat):List UInt8:=(rs.map er).flatten
theorem enc_nil:enc []=[]:=rfl
theorem enc_cons (r:Nat) (rs:List Nat):enc (r :: rs)=er r++enc rs:=rfl
theorem enc_append (a b:List Nat):enc (a++b)=enc a++enc b:=by simp[enc]
theorem runes_enc (rs:List Nat)(h:∀ r∈rs,Scalar r) (t:List UInt8):runes (enc rs++t)=rs++runes t:=by
 induction rs with
 | nil=>simp[enc_nil]
 | cons r rs ih =>
  rw[enc_cons,List.append_assoc,runes_er r (h r (by simp)),ih (fun x hx=>h x (by simp[hx]))]
  rfl
theorem scalar_err:Scalar 65533:=.inr ⟨by decide,by decide⟩
theorem dl_scalar (l:List UInt8)(hl:l≠[]):Scalar (dl l).1:=by
 rcases dl_cases l hl with⟨_,hd⟩ | ⟨r,t,hr,_,hd,_⟩
 ·rw[hd];exact scalar_err
 ·rw[hd];exact hr
theorem runes_scalar (l:List UInt8):∀ r∈runes l,Scalar r:=by
 induction h:l.length using Nat.strongRecOn generalizing l with
 | ind n ih =>
  intro r hr
  by_cases hl:l=[]
  ·subst hl;rw[runes_nil] at hr;simp at hr
  ·rw[runes_step l hl] at hr
   have hw:=dl_width l hl
   rcases List.mem_cons.1 hr with rfl | hr
   ·exact dl_scalar l hl
   ·exact ih (l.drop (dl l).2).length (by simp;omega) _ rfl r hr
def low8 (b:UInt8):UInt8:=if 65<=b.toNat/\b.toNat<=90 then UInt8.ofNat (b.toNat+32) else b
def lowN (r:Nat):Nat:=if 65<=r/\r<=90 then r+32 else r
theorem low8_toNat (b:UInt8):(low8 b).toNat=lowN b.toNat:=by
 unfold low8 lowN
 split
 ·rw[toNat_ofNat (by omega)]
 ·rfl
def lower (l:List UInt8):List UInt8:=l.map low8
theorem lower_er (r:Nat)(hs:Scalar r):lower (er r)=er (lowN r):=by
 rcases er_bytes r hs with⟨h,e⟩ | ⟨h,e⟩
 ·rw[e]
  unfold lowN
  by_cases hu:65<=r/\r<=90
  ·rw[if_pos hu,er1 (by omega)]
   simp only[lower,low8,List.map_cons,List.map_nil]
   rw[toNat_ofNat (by omega),if_pos hu]
  ·rw[if_neg hu,e]
   simp only[lower,low8,List.map_cons,List.map_nil]
   rw[toNat_ofNat (by omega),if_neg hu]
 ·have:lowN r=r:=by unfold lowN;rw[if_neg (by omega)]
  rw[this]
  unfold lower
  conv=>rhs;rw[<-List.map_id (er r)]
  apply List.map_congr_left
  intro x hx
  have:=e x hx
  unfold low8
  rw[if_neg (by omega)]
  rfl
theorem lowN_scalar (r:Nat)(h:Scalar r):Scalar (lowN r):=by
 unfold Scalar at *
 unfold lowN
 split <;> omega
theorem lower_no (l:List UInt8):∀ b∈lower l,¬ (65<=b.toNat/\b.toNat<=90):=by
 intro b hb
 simp only[lower,List.mem_map] at hb
 obtain⟨c,_,rfl⟩:=hb
 rw[low8_toNat]
 unfold lowN
 split <;> omega
theorem low_head (l:List UInt8)(hl:l≠[]) :
  (65<=(dl l).1/\(dl l).1<=90/\(dl l).2=1/\(dl l).1=atN l 0) \/
  (¬ (65<=(dl l).1/\(dl l).1<=90)/\lower (l.take (dl l).2)=l.take (dl l).2):=by
 rcases dl_cases l hl with⟨h0,hd⟩ | ⟨r,t,hr,he,hd,hrt⟩
 ·right
  rw[hd]
  refine⟨by show ¬ (65<=65533/\65533<=90);omega,?_⟩
  cases l with
  | nil=>exact absurd rfl hl
  | cons b t =>
   have:¬ b.toNat < 128:=by
    intro hb
    have:rt (b :: t)=1:=by
     unfold rt rtN
     rw[if_neg (by simp)]
     exact if_pos hb
    omega
   simp only[List.take_succ_cons,List.take_zero,lower,List.map_cons,List.map_nil,low8]
   rw[if_neg (by omega)]
 ·rw[hd]
  have ht:l.take (er r).length=er r:=by rw[he];simp
  by_cases hu:65<=r/\r<=90
  ·left
   have h1:er r=[UInt8.ofNat r]:=er1 (by omega)
   refine⟨hu.1,hu.2,by rw[h1];rfl,?_⟩
   rw[he,h1]
   show r=(UInt8.ofNat r).toNat
   rw[toNat_ofNat (by omega)]
  ·right
   refine⟨hu,?_⟩
   show lower (l.take (er r).length)=l.take (er r).length
   rw[ht,lower_er r hr]
   unfold lowN
   rw[if_neg hu]
def one (last r:Nat):List Nat:=if r=0 then [65533] else if r=13 then [10] else if r=10/\last=13 then [] else [r]
def fixR:Nat->List Nat->List Nat
 | _,[]=>[]
 | last,r :: t=>one last r++fixR r t
def fix (l:List UInt8):List UInt8:=enc (fixR 0 (runes l))
theorem one_scalar (last r:Nat)(h:Scalar r):∀ x∈one last r,Scalar x/\x≠0/\x≠13:=by
 intro x hx
 unfold one at hx
 split at hx
 ·simp at hx;subst hx;exact⟨scalar_err,by decide,by decide⟩
 ·split at hx
  ·simp at hx;subst hx;exact⟨.inl (by decide),by decide,by decide⟩
  ·split at hx
   ·simp at hx
   ·simp at hx;subst hx;exact⟨h,by assumption,by assumption⟩
theorem fixR_scalar:∀ (rs:List Nat) (last:Nat),(∀ r∈rs,Scalar r)->∀ x∈fixR last rs,Scalar x/\x≠0/\x≠13
 | [],_,_,x,hx=>by simp[fixR] at hx
 | r :: t,last,h,x,hx=>by
  rw[fixR,List.mem_append] at hx
  rcases hx with hx | hx
  ·exact one_scalar last r (h r (by simp)) x hx
  ·exact fixR_scalar t r (fun y hy=>h y (by simp[hy])) x hx
theorem fixR_same:∀ (rs:List Nat) (last:Nat),last≠13->(∀ r∈rs,r≠0/\r≠13)->fixR last rs=rs
 | [],_,_,_=>rfl
 | r :: t,last,hl,h=>by
  have hr:=h r (by simp)
  rw[fixR,fixR_same t r hr.2 (fun y hy=>h y (by simp[hy]))]
  unfold one
  rw[if_neg hr.1,if_neg hr.2,if_neg (fun e=>hl e.2)]
  rfl
theorem fix_scalar (l:List UInt8):∀ x∈fixR 0 (runes l),Scalar x/\x≠0/\x≠13:=fixR_scalar _ _ (runes_scalar l)
theorem er_no (r:Nat)(hs:Scalar r) (k:Nat)(hk:k < 128)(hr:r≠k):∀ x∈er r,x.toNat≠k:=by
 intro x hx
 rcases er_bytes r hs with⟨h,e⟩ | ⟨_,e⟩
 ·rw[e] at hx
  simp only[List.mem_singleton] at hx
  subst hx
  rw[toNat_ofNat (by omega)]
  exact hr
 ·have:=e x hx
  omega
end Utf1
