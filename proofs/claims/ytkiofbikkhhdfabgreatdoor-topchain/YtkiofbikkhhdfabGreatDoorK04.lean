import Derived.Test.YtkiofbikkhhdfabGreatDoorK01
import Derived.Test.YtkiofbikkhhdfabGreatDoorK02
import Derived.BigQuiet
import Derived.Test.YtkiofbikkhhdfabGreatDoorShelf
import Derived.Test.YtkiofbikkhhdfabGreatDoorMath
import Derived.WalkKit
import Derived.WalkSpells
import Derived.WalkLawsBesides
import Derived.BigCall
import Derived.Laws.IdiomStrings
import Derived.Test.YtkiofbikkhhdfabGreatDoorK03
import Derived.Deep.WholeRow
import Derived.Laws.Tables
set_option maxRecDepth 100000
set_option maxHeartbeats 4000000
namespace Go.Proofs.YtkiofbikkhhdfabGreatDoor
open Go.RowKit
open Utf1
def Glob (_:World):Prop:=True
theorem Glob.below {w w':World}(_:Glob w) (_:Below w.heap.size w w'):Glob w':=trivial
end Go.Proofs.YtkiofbikkhhdfabGreatDoor
namespace Go.Proofs.YtkiofbikkhhdfabGreatDoor
open Go.RowKit
open Utf1 Pol8
theorem chain_iff:∀ l:List L,chain l=true ↔ ∀ j a b,l[j]?=some a->l[j+1]?=some b->lt a b=true
 | []=>by simp[chain]
 | [x]=>by simp[chain]
 | x :: y :: r=>by
  have ih:=chain_iff (y :: r)
  rw[chain,Bool.and_eq_true,ih]
  constructor
  ·rintro ⟨h1,h2⟩ j a b ha hb
   cases j with
   | zero =>
    simp at ha hb
    subst ha
    subst hb
    exact h1
   | succ j=>exact h2 j a b (by simpa using ha) (by simpa using hb)
  ·intro h
   exact⟨h 0 x y rfl rfl,fun j a b ha hb=>h (j+1) a b (by simpa using ha) (by simpa using hb)⟩
theorem less_is (a b:ByteArray):Op.bytesLess a.toList b.toList=lt (bl a) (bl b):=by
 rw[ByteArray.toList_eq,ByteArray.toList_eq]
 rfl
theorem split_at (c:UInt8):∀ (l:L),c∈l->∃ a b,l=a++c :: b/\c ∉ a
 | [],h=>by simp at h
 | x :: l,h=>by
  by_cases e:x=c
  ·exact⟨[],l,by simp[e],by simp⟩
  ·rcases List.mem_cons.1 h with h | h
   ·exact absurd h.symm e
   ·obtain⟨a,b,rfl,hn⟩:=split_at c l h
    exact⟨x :: a,b,by simp,by simp[hn,Ne.symm e]⟩
theorem split_ba (s:ByteArray) (c:UInt8)(h:c∈bl s):∃ A B:ByteArray,bl s=bl A++c :: bl B/\c ∉ bl A/\s.size=A.size+1+B.size/\s.extract 0 A.size=A/\s.extract (A.size+1) s.size=B/\(∀ j d,(bl s)[j]?=some d->(j < A.size->d≠c)/\(j=A.size->d=c)):=by
 obtain⟨a,b,e,hn⟩:=split_at c (bl s) h
 obtain⟨A,hA⟩:∃ A:ByteArray,A=⟨a.toArray⟩:=⟨_,rfl⟩
 obtain⟨B,hB⟩:∃ B:ByteArray,B=⟨b.toArray⟩:=⟨_,rfl⟩
 have eA:bl A=a:=by rw[hA]
 have eB:bl B=b:=by rw[hB]
 rw[<-eA,<-eB] at e
 rw[<-eA] at hn
 have hsz:s.size=A.size+1+B.size:=by
  have:=congrArg List.length e
  rw[bl_len,List.length_append,List.length_cons,bl_len,bl_len] at this
  omega
 refine⟨A,B,e,hn,hsz,?_,?_,?_⟩
 ·apply ba_ext
  rw[extract_bl,e]
  have:A.size=(bl A).length:=(bl_len A).symm
  rw[this]
  simp
 ·apply ba_ext
  rw[extract_bl,e,List.drop_append,bl_len,List.drop_eq_nil_of_le (by rw[bl_len];omega),show A.size+1 - A.size=1 by omega]
  simp
  rw[List.take_of_length_le (by rw[bl_len];omega)]
 ·intro j d hd
  rw[e] at hd
  constructor
  ·intro hj
   rw[List.getElem?_append_left (by rw[bl_len];exact hj)] at hd
   intro e'
   exact hn (by rw[<-e'];exact List.mem_of_getElem? hd)
  ·rintro rfl
   rw[List.getElem?_append_right (by rw[bl_len];exact Nat.le_refl _),bl_len,Nat.sub_self] at hd
   simp at hd
   exact hd.symm
structure PolV (w:World) (v1 v2 v3 v4 v5:Value) (p:Pol) (l1 l2 l3 l4 l5:List ByteArray):Prop where
 s1:StrArg w v1 l1
 s2:StrArg w v2 l2
 s3:StrArg w v3 l3
 s4:StrArg w v4 l4
 s5:StrArg w v5 l5
 e1:l1.map bl=p.el
 e2:l2.map bl=p.at_
 e3:l3.map bl=p.sc
 e4:l4.map bl=p.cl
 e5:l5.map bl=p.pr
 g:Glob w
theorem PolV.below {w w':World}{v1 v2 v3 v4 v5:Value}{p:Pol}{l1 l2 l3 l4 l5:List ByteArray}(h:PolV w v1 v2 v3 v4 v5 p l1 l2 l3 l4 l5)(hb:Below w.heap.size w w'):PolV w' v1 v2 v3 v4 v5 p l1 l2 l3 l4 l5 :=
 ⟨h.s1.below hb,h.s2.below hb,h.s3.below hb,h.s4.below hb,h.s5.below hb,h.e1,h.e2,h.e3,h.e4,h.e5,h.g.below hb⟩
def fits (p:Pol):Prop:=(∀ l∈[p.el,p.at_,p.sc,p.cl,p.pr],l.length<=100000/\∀ x∈l,x.length<=100000)
theorem fits_of {p:Pol}(h:fits p) {l:List ByteArray}{q:List L}(hq:q∈[p.el,p.at_,p.sc,p.cl,p.pr]) (e:l.map bl=q):l.length<=100000/\∀ x∈l,x.size<=100000:=by
 obtain⟨h1,h2⟩:=h q hq
 rw[<-e] at h1 h2
 refine⟨by rwa [List.length_map] at h1,fun x hx=>?_⟩
 have:=h2 (bl x) (List.mem_map_of_mem hx)
 rwa [bl_len] at this
theorem new_block (w:World) (A:Array Value) (t:TypeId):(w.alloc (.cells A t)).heap[w.heap.size]?=some (.cells A t (0,0)):=by
 show (w.heap.push _)[w.heap.size]?=_
 simp
theorem tag_cell {w:World}{b:Nat}{cs:Array Value}{t:TypeId}(h:w.heap[b]?=some (.cells cs t (0,0))) (i:Nat) (v:Value)(hv:cs[i]?=some v):w.cell? ⟨b,i,none⟩=some v:=by
 simp[World.cell?,h,hv]
theorem bel_drewN (w:World) (n:Nat):Below w.heap.size w (w.drewN n):=⟨rfl,rfl,rfl,Nat.le_refl _,fun _ _=>rfl⟩
def BoxP (w:World) (A:Array Value) (wx:World):Prop:=wx.heap[w.heap.size]?=some (.cells A 24 (0,0))/\Below w.heap.size w wx
theorem BoxP.keep {w wx wy:World}{A:Array Value}(h:BoxP w A wx)(hb:Below wx.heap.size wx wy):BoxP w A wy :=
 ⟨(hb.block _ (Array.getElem?_eq_some_iff.1 h.1).1).trans h.1,h.2.trans (hb.mono h.2.size)⟩
theorem BoxP.cell {w wx:World}{A:Array Value}(h:BoxP w A wx) (i:Nat) (v:Value)(hv:A[i]?=some v):wx.cell? ⟨w.heap.size,i,none⟩=some v:=tag_cell h.1 i v hv
theorem all_false {l:List ByteArray}{i:Nat}{y:ByteArray}{f:L->Bool}(h:l[i]?=some y)(hf:f (bl y)=false):(l.map bl).all f=false:=by
 rw[List.all_eq_false]
 exact⟨bl y,List.mem_map_of_mem (List.mem_of_getElem? h),by rw[hf];decide⟩
theorem all_true {l:List ByteArray}{f:L->Bool}(h:∀ j z,j < l.length->l[j]?=some z->f (bl z)=true):(l.map bl).all f=true:=by
 rw[List.all_eq_true]
 intro z hz
 obtain⟨y,hy,rfl⟩:=List.mem_map.1 hz
 obtain⟨j,hj,e⟩:=List.mem_iff_getElem.1 hy
 exact h j y hj (by rw[List.getElem?_eq_getElem hj,e])
theorem upto_next {l:List ByteArray}{i:Nat}{y:ByteArray}{f:L->Bool}(h:l[i]?=some y)(hf:f (bl y)=true)(hu:∀ j z,j < i->l[j]?=some z->f (bl z)=true):∀ j z,j < i+1->l[j]?=some z->f (bl z)=true:=by
 intro j z hj hz
 by_cases e:j=i
 ·subst e
  rw[h] at hz
  cases hz
  exact hf
 ·exact hu j z (by omega) hz
theorem traw_any (s:ByteArray) (w:World) :
  Calls Tryz.prog 92 #[.string s] w fun e w'=>(∃ x,e=.returned (.tuple #[.bool (isRaw (bl s)),.bool x]))/\w'=w:=by
 have f0:=eq_lit s [115,99,114,105,112,116]
 by_cases h0:bl s=[115,99,114,105,112,116]
 ·rw[decide_eq_true h0] at f0
  rw[show isRaw (bl s)=true by rw[h0];decide]
  clear h0
  go_enter Tryz.func92,Tryz.ntmps92
  go_wp2_with fail
  go_ret2
  exact⟨⟨_,rfl⟩,rfl⟩
 rw[decide_eq_false h0] at f0
 have f1:=eq_lit s [115,116,121,108,101]
 by_cases h1:bl s=[115,116,121,108,101]
 ·rw[decide_eq_true h1] at f1
  rw[show isRaw (bl s)=true by rw[h1];decide]
  clear h0 h1
  go_enter Tryz.func92,Tryz.ntmps92
  go_wp2_with fail
  go_ret2
  exact⟨⟨_,rfl⟩,rfl⟩
 rw[decide_eq_false h1] at f1
 have f2:=eq_lit s [120,109,112]
 by_cases h2:bl s=[120,109,112]
 ·rw[decide_eq_true h2] at f2
  rw[show isRaw (bl s)=true by rw[h2];decide]
  clear h0 h1 h2
  go_enter Tryz.func92,Tryz.ntmps92
  go_wp2_with fail
  go_ret2
  exact⟨⟨_,rfl⟩,rfl⟩
 rw[decide_eq_false h2] at f2
 have f3:=eq_lit s [105,102,114,97,109,101]
 by_cases h3:bl s=[105,102,114,97,109,101]
 ·rw[decide_eq_true h3] at f3
  rw[show isRaw (bl s)=true by rw[h3];decide]
  clear h0 h1 h2 h3
  go_enter Tryz.func92,Tryz.ntmps92
  go_wp2_with fail
  go_ret2
  exact⟨⟨_,rfl⟩,rfl⟩
 rw[decide_eq_false h3] at f3
 have f4:=eq_lit s [110,111,101,109,98,101,100]
 by_cases h4:bl s=[110,111,101,109,98,101,100]
 ·rw[decide_eq_true h4] at f4
  rw[show isRaw (bl s)=true by rw[h4];decide]
  clear h0 h1 h2 h3 h4
  go_enter Tryz.func92,Tryz.ntmps92
  go_wp2_with fail
  go_ret2
  exact⟨⟨_,rfl⟩,rfl⟩
 rw[decide_eq_false h4] at f4
 have f5:=eq_lit s [110,111,102,114,97,109,101,115]
 by_cases h5:bl s=[110,111,102,114,97,109,101,115]
 ·rw[decide_eq_true h5] at f5
  rw[show isRaw (bl s)=true by rw[h5];decide]
  clear h0 h1 h2 h3 h4 h5
  go_enter Tryz.func92,Tryz.ntmps92
  go_wp2_with fail
  go_ret2
  exact⟨⟨_,rfl⟩,rfl⟩
 rw[decide_eq_false h5] at f5
 have f6:=eq_lit s [112,108,97,105,110,116,101,120,116]
 by_cases h6:bl s=[112,108,97,105,110,116,101,120,116]
 ·rw[decide_eq_true h6] at f6
  rw[show isRaw (bl s)=true by rw[h6];decide]
  clear h0 h1 h2 h3 h4 h5 h6
  go_enter Tryz.func92,Tryz.ntmps92
  go_wp2_with fail
  go_ret2
  exact⟨⟨_,rfl⟩,rfl⟩
 rw[decide_eq_false h6] at f6
 have f7:=eq_lit s [116,101,120,116,97,114,101,97]
 by_cases h7:bl s=[116,101,120,116,97,114,101,97]
 ·rw[decide_eq_true h7] at f7
  rw[show isRaw (bl s)=true by rw[h7];decide]
  clear h0 h1 h2 h3 h4 h5 h6 h7
  go_enter Tryz.func92,Tryz.ntmps92
  go_wp2_with fail
  go_ret2
  exact⟨⟨_,rfl⟩,rfl⟩
 rw[decide_eq_false h7] at f7
 have f8:=eq_lit s [116,105,116,108,101]
 by_cases h8:bl s=[116,105,116,108,101]
 ·rw[decide_eq_true h8] at f8
  rw[show isRaw (bl s)=true by rw[h8];decide]
  clear h0 h1 h2 h3 h4 h5 h6 h7 h8
  go_enter Tryz.func92,Tryz.ntmps92
  go_wp2_with fail
  go_ret2
  exact⟨⟨_,rfl⟩,rfl⟩
 rw[decide_eq_false h8] at f8
 have e:isRaw (bl s)=false:=by
  unfold isRaw
  rw[decide_eq_false (by
   simp only[rawL,List.mem_cons,List.not_mem_nil,or_false]
   rintro (h | h | h | h | h | h | h)
   all_goals contradiction),decide_eq_false (by
   simp only[rcL,List.mem_cons,List.not_mem_nil,or_false]
   rintro (h | h)
   all_goals contradiction)]
  rfl
 rw[e]
 clear e h0 h1 h2 h3 h4 h5 h6 h7 h8
 go_enter Tryz.func92,Tryz.ntmps92
 go_wp2_with fail
 go_ret2
 exact⟨⟨_,rfl⟩,rfl⟩
end Go.Proofs.YtkiofbikkhhdfabGreatDoor
namespace Go.Proofs.YtkiofbikkhhdfabGreatDoor.To
open Go.RowKit
open Utf1
theorem next_some (P:Program) (w:World) (k:Nat) (s:ByteArray) (pos:Nat)(hk:w.heap[k]?=some (.stringIter s pos))(h:pos < s.size) :
  ∃ r wd:Nat,1<=wd/\wd<=4/\pos+wd<=s.size/\r<=1114111/\dl ((bl s).drop pos)=(r,wd)/\(∀ ty,(Instr.next (.pointer (some ⟨k,0,none⟩)) true ty).run P w =
   .ok (.tuple #[.bool true,.int .i64 pos,.int .i32 r]) (w.iterAt k s (pos+wd))):=by
 have hne:(bl s).drop pos≠[]:=by
  intro e
  have:=congrArg List.length e
  rw[List.length_drop,bl_len] at this
  simp at this
  omega
 have hw:=dl_width _ hne
 have hsc:=dl_scalar _ hne
 rw[List.length_drop,bl_len] at hw
 refine⟨(dl ((bl s).drop pos)).1,(dl ((bl s).drop pos)).2,hw.1,hw.2.1,by omega,by unfold Scalar at hsc;omega,rfl,fun ty=>?_⟩
 rw[Lib.run_next_any_at w k s pos ty hk h,decode_dl s pos h]
theorem drop_ne (s:ByteArray) (pos:Nat)(h:pos < s.size):(bl s).drop pos≠[]:=by
 intro e
 have:=congrArg List.length e
 rw[List.length_drop,bl_len] at this
 simp at this
 omega
theorem drop_all (s:ByteArray) (pos:Nat)(h:¬ pos < s.size):(bl s).drop pos=[]:=by
 rw[List.drop_eq_nil_iff,bl_len]
 omega
def RowIs (w:World) (B:Nat) (l:List UInt8):Prop :=
 ∃ C fz,w.heap[B]?=some (.cells C 5 fz)/\l.length<=fz.1/\∀ j (hj:j < l.length),C[j]?=some (.int .u8 (l[j].toNat:Int))
theorem RowIs.cell {w:World}{B:Nat}{l:List UInt8}(h:RowIs w B l) (j:Nat)(hj:j < l.length):w.cell? ⟨B,j,none⟩=some (.int .u8 (l[j].toNat:Int)):=by
 obtain⟨C,fz,hB,_,hc⟩:=h
 unfold World.cell?
 rw[hB]
 simpa using hc j hj
theorem RowIs.frozen {w:World}{B:Nat}{l:List UInt8}(h:RowIs w B l) (j:Nat)(hj:j < l.length):w.frozen? ⟨B,j,none⟩=false:=by
 obtain⟨C,fz,hB,hl,_⟩:=h
 unfold World.frozen?
 rw[hB]
 simp
 omega
theorem RowIs.set {w:World}{B:Nat}{l:List UInt8}(h:RowIs w B l) (j:Nat) (x:UInt8):RowIs (w.setCell ⟨B,j,none⟩ (.int .u8 (x.toNat:Int))) B (l.set j x):=by
 obtain⟨C,fz,hB,hl,hc⟩:=h
 refine⟨C.setIfInBounds j (.int .u8 (x.toNat:Int)),fz,?_,by simpa using hl,?_⟩
 ·simp[World.setCell,Array.getElem?_modify,hB]
 ·intro i hi
  rw[List.length_set] at hi
  have h1:=hc i hi
  have hiC:i < C.size:=(Array.getElem?_eq_some_iff.1 h1).1
  by_cases e:j=i
  ·subst e
   simp[hiC]
  ·simp[Array.getElem?_setIfInBounds_ne,e,h1]
theorem RowIs.iterAt {w:World}{B:Nat}{l:List UInt8}(h:RowIs w B l) (k:Nat)(hk:k≠B) (s:ByteArray) (pos:Nat):RowIs (w.iterAt k s pos) B l:=by
 obtain⟨C,fz,hB,hl,hc⟩:=h
 exact⟨C,fz,(Lib.iterAt_other w k B s pos (Ne.symm hk)).trans hB,hl,hc⟩
theorem RowIs.alloc {w:World}{B:Nat}{l:List UInt8}(h:RowIs w B l) (o:Obj):RowIs (w.alloc o) B l:=by
 obtain⟨C,fz,hB,hl,hc⟩:=h
 have hlt:B < w.heap.size:=(Array.getElem?_eq_some_iff.1 hB).1
 exact⟨C,fz,(Lib.alloc_old w o B hlt).trans hB,hl,hc⟩
theorem conv_back (w:World) (B cap n:Nat) (l:List UInt8)(hn:l.length=n)(h:RowIs w B l) :
  (convert 25 9 (.slice (some ⟨B,0,none⟩) n cap)).run Tryz.prog w=.ok (.string ⟨l.toArray⟩) w:=by
 subst hn
 exact run_convert_bytes_back w 25 9 5 ⟨B,0,none⟩ cap l Tryz.underlying25 Tryz.underlying5 Tryz.underlying9 (fun j hj=>by rw[show (⟨B,0,none⟩:Addr).add j=⟨B,j,none⟩ from by cases j <;> simp[Addr.add]];exact h.cell j hj)
theorem row_new (w:World) (s:ByteArray) (cap:Nat):RowIs (w.alloc (.cells (bytesRow s cap) 5 ((bytesRow s cap).size,(bytesRow s cap).size+1))) w.heap.size (bl s):=by
 refine⟨bytesRow s cap,((bytesRow s cap).size,(bytesRow s cap).size+1),?_,?_,fun j hj=>?_⟩
 ·show (w.heap.push _)[w.heap.size]?=_
  simp
 ·rw[bl_len]
  unfold bytesRow
  rw[Array.size_append,Array.size_map]
  exact Nat.le_add_right _ _
 ·rw[bytesRow_at s cap j (by rw[<-Array.length_toList];exact hj)]
  rfl
def mix (s:ByteArray) (pos:Nat):List UInt8:=lower ((bl s).take pos)++(bl s).drop pos
theorem mix_len (s:ByteArray) (pos:Nat):(mix s pos).length=s.size:=by
 unfold mix lower
 rw[List.length_append,List.length_map,<-List.length_append,List.take_append_drop,bl_len]
theorem mix_zero (s:ByteArray):mix s 0=bl s:=by simp[mix,lower]
theorem mix_end (s:ByteArray) (pos:Nat)(h:¬ pos < s.size):mix s pos=lower (bl s):=by
 unfold mix
 rw[drop_all s pos h,List.take_of_length_le (by rw[bl_len];omega),List.append_nil]
theorem mix_keep (s:ByteArray) (pos wd:Nat)(h:lower (((bl s).drop pos).take wd)=((bl s).drop pos).take wd):mix s (pos+wd)=mix s pos:=by
 unfold mix
 have e:(bl s).take (pos+wd)=(bl s).take pos++((bl s).drop pos).take wd:=List.take_add
 have h2:lower ((bl s).take pos++((bl s).drop pos).take wd)=lower ((bl s).take pos)++lower (((bl s).drop pos).take wd):=by simp[lower]
 rw[e,h2,h,List.append_assoc,<-List.drop_drop,List.take_append_drop]
theorem mix_set (s:ByteArray) (pos:Nat)(h:pos < (bl s).length):mix s (pos+1)=(mix s pos).set pos (low8 ((bl s)[pos])):=by
 unfold mix
 have e:(bl s).take (pos+1)=(bl s).take pos++[(bl s)[pos]]:=List.take_succ_eq_append_getElem h
 have h2:lower ((bl s).take pos++[(bl s)[pos]])=lower ((bl s).take pos)++[low8 ((bl s)[pos])]:=by simp[lower]
 have h3:(lower ((bl s).take pos)).length=pos:=by unfold lower;rw[List.length_map,List.length_take];omega
 rw[e,h2,List.set_append_right _ _ (by omega),h3,Nat.sub_self,List.drop_eq_getElem_cons h,List.set_cons_zero,List.append_assoc]
 rfl
theorem mix_at (s:ByteArray) (pos:Nat)(h:pos < (bl s).length)(h2:pos < (mix s pos).length):(mix s pos)[pos]=(bl s)[pos]:=by
 have h3:(lower ((bl s).take pos)).length=pos:=by unfold lower;rw[List.length_map,List.length_take];omega
 apply Option.some.inj
 rw[<-List.getElem?_eq_getElem,<-List.getElem?_eq_getElem]
 unfold mix
 rw[List.getElem?_append_right (by omega),h3,Nat.sub_self,List.getElem?_drop,Nat.add_zero]
theorem lower_any (s:ByteArray) (w:World) :
  Calls Tryz.prog 88 #[.string s] w fun e w'=>e=.returned (.string ⟨(lower (bl s)).toArray⟩)/\Below w.heap.size w w':=by
 have hcv:=fun (w:World) (s:ByteArray)=>run_bytes_of_string (P:=Tryz.prog) w 9 25 5 s Tryz.underlying9 Tryz.underlying25 Tryz.underlying5
 go_enter Tryz.func88,Tryz.ntmps88
 go_wp2
 clear hcv
 go_loopw [] (fun wr=>∃ (pos:Nat),pos<=s.size/\wr.heap[w.heap.size+1]?=some (.stringIter s pos)/\Below w.heap.size w wr/\RowIs wr w.heap.size (mix s pos)) (fun wr=>s.size - wr.iterPos (w.heap.size+1))
 case atStart =>
  refine⟨0,Nat.zero_le _,?_,(((Below.refl _ w).alloc (Nat.le_refl _) _).drew).alloc (by simp) _,?_⟩
  ·have:=World.iter_heap ((w.alloc (Obj.cells (bytesRow s (grownCap w s.size 0 5)) 5 ((bytesRow s (grownCap w s.size 0 5)).size,(bytesRow s (grownCap w s.size 0 5)).size+1))).drew) s 0
   simpa using this
  ·rw[mix_zero]
   exact (row_new w s _).alloc _
 case round =>
  obtain⟨pos,hp,hit,hbw,hrow⟩:=hrel
  by_cases hlt:pos < s.size
  ·obtain⟨r,wd,hw1,hw4,hwl,hr,hdl,hnx⟩:=next_some Tryz.prog wr (w.heap.size+1) s pos hit hlt
   have hit2:=Lib.iterAt_heap wr (w.heap.size+1) s pos (pos+wd) hit
   have hbw2:=Lib.below_iterAt hbw (k:=w.heap.size+1) (by omega) s (pos+wd)
   have hrow2:=hrow.iterAt (w.heap.size+1) (by omega) s (pos+wd)
   have hlh:=low_head _ (drop_ne s pos hlt)
   rw[hdl] at hlh
   clear hdl
   rcases hlh with⟨hu1,hu2,hwd,hra⟩ | ⟨hu,hlo⟩
   ·have hu1:65<=r:=hu1
    have hu2:r<=90:=hu2
    have hwd:wd=1:=hwd
    have hl:pos < (bl s).length:=by rw[bl_len];exact hlt
    have hml:pos < (mix s pos).length:=by rw[mix_len];exact hlt
    have hby:(bl s)[pos].toNat=r:=by
     rw[show r=atN ((bl s).drop pos) 0 from hra]
     unfold atN
     rw[List.getD_eq_getElem?_getD,List.getElem?_drop,Nat.add_zero,List.getElem?_eq_getElem hl]
     rfl
    have hce:=hrow2.cell pos hml
    rw[mix_at s pos hl hml,hby] at hce
    have hfz:=hrow2.frozen pos hml
    subst hwd
    have HBY:=hide hby
    clear hby hra
    have hne:w.heap.size+1≠w.heap.size:=by omega
    have HV:Hid ((r:Int)+32=((low8 (bl s)[pos]).toNat:Int)):=by
     show (r:Int)+32=((low8 (bl s)[pos]).toNat:Int)
     rw[low8_toNat,HBY.out]
     unfold lowN
     rw[if_pos ⟨hu1,hu2⟩]
     go_num
    go_wp2
    have hit3:∀ v,((wr.iterAt (w.heap.size+1) s (pos+1)).setCell ⟨w.heap.size,pos,none⟩ v).heap[w.heap.size+1]?=some (.stringIter s (pos+1)):=fun v=>(Below.heap_setCell _ _ _ _ hne).trans hit2
    refine⟨⟨pos+1,hwl,hit3 _,hbw2.setCell (Nat.le_refl _) _,?_⟩,?_⟩
    ·rw[HV.out,mix_set s pos hl]
     exact hrow2.set pos _
    ·simp only[World.iterPos,hit3,hit]
     omega
   ·have hu:¬ (65<=r/\r<=90):=hu
    rw[<-mix_keep s pos wd hlo] at hrow2
    clear hlo
    by_cases h65:65<=r
    ·have h90:¬ r<=90:=by omega
     go_wp2
     go_roundw
     case rel=>exact⟨pos+wd,hwl,hit2,hbw2,hrow2⟩
     case measure =>
      simp only[World.iterPos,hit2,hit]
      omega
    ·go_wp2
     go_roundw
     case rel=>exact⟨pos+wd,hwl,hit2,hbw2,hrow2⟩
     case measure =>
      simp only[World.iterPos,hit2,hit]
      omega
  ·have hnx:∀ ty,(Instr.next (.pointer (some ⟨w.heap.size+1,0,none⟩)) true ty).run Tryz.prog wr=_:=fun ty=>Lib.run_next_end_at wr (w.heap.size+1) s pos ty hit hlt
   rw[mix_end s pos hlt] at hrow
   have hcb:=conv_back wr w.heap.size (grownCap w s.size 0 5) s.size (lower (bl s)) (by unfold lower;rw[List.length_map];exact bl_len s) hrow
   go_wp2
   go_ret
   exact⟨rfl,hbw⟩
end Go.Proofs.YtkiofbikkhhdfabGreatDoor.To
namespace Go.Proofs.YtkiofbikkhhdfabGreatDoor.To
open Go.RowKit
open Utf1
def oT:Option Nat->ByteArray
 | some r=>⟨(er r).toArray⟩
 | none=>⟨#[]⟩
def optS (o:Option Nat):Value:=.tuple #[.string (oT o),.bool o.isSome]
def buildAll (P:Program):List Oper->Act->Option Act
 | [],a=>some a
 | o :: os,a=>match o.guard,o.op with
  | none,.build t parts=>match P.built t (parts.map fun (i,x)=>(i,a.eval x)).toList with
   | some cs=>buildAll P os (a.put o.dst (.agg cs))
   | none=>none
  | _,_=>none
theorem wpList_builds0 {P:Program}{ops:Array Oper}{Q:Exit->Act->World->Prop}{w:World}(rest:List Oper):∀ (os:List Oper) (a a':Act),buildAll P os a=some a'->wpList P ops Q rest a' w->wpList P ops Q (os++rest) a w
 | [],a,a',h,hr=>by
  simp only[buildAll] at h
  cases h
  exact hr
 | o :: os,a,a',h,hr=>by
  unfold buildAll at h
  split at h
  ·rename_i t parts hg ho
   split at h
   ·rename_i cs hc
    refine wpList_build hg t parts ho (by rw[hc];rfl) ?_
    rw[hc]
    exact wpList_builds0 rest os _ a' h hr
   ·cases h
  ·cases h
theorem wpList_builds {P:Program}{ops:Array Oper}{Q:Exit->Act->World->Prop}{w:World}(n:Nat) (l:List Oper) (a a':Act)(h:buildAll P (l.take n) a=some a')(hr:wpList P ops Q (l.drop n) a' w):wpList P ops Q l a w:=by
 have:=wpList_builds0 (l.drop n) (l.take n) a a' h hr
 rw[List.take_append_drop] at this
 exact this
theorem wpList_loadV {P:Program}{ops:Array Oper}{rest:List Oper}{o:Oper}{a:Act}{w w':World}{Q:Exit->Act->World->Prop}(hg:o.guard=none) (t:TypeId) (x:Operand)(ho:o.op=.load t x) (v:Value)
  (hx:(Instr.loadAt t (a.eval x)).run P w=.ok v w')(h:wpList P ops Q rest (a.put o.dst v) w'):wpList P ops Q (o :: rest) a w :=
 wpList_plain hg fun K hK=>by
  unfold Oper.wp execOp
  simp only[ho,Sem.run_bind,hx,Result.andThen_ok]
  exact hK _ _ h
theorem wpList_allocV {P:Program}{ops:Array Oper}{rest:List Oper}{o:Oper}{a:Act}{w w':World}{Q:Exit->Act->World->Prop}(hg:o.guard=none) (t:TypeId)(ho:o.op=.alloc t) (v:Value)
  (hx:(Instr.alloc t true (.tuple #[])).run P w=.ok v w')(h:wpList P ops Q rest (a.put o.dst v) w'):wpList P ops Q (o :: rest) a w :=
 wpList_plain hg fun K hK=>by
  unfold Oper.wp execOp
  simp only[ho,Sem.run_bind,hx,Result.andThen_ok]
  exact hK _ _ h
def nameCells:Array Value:=#[.string ⟨#[97,109,112]⟩,.int .i32 38,.string ⟨#[108,116]⟩,.int .i32 60,.string ⟨#[103,116]⟩,.int .i32 62,.string ⟨#[113,117,111,116]⟩,.int .i32 34,.string ⟨#[97,112,111,115]⟩,.int .i32 39,.string ⟨#[110,98,115,112]⟩,.int .i32 160,.string ⟨#[99,111,112,121]⟩,.int .i32 169,.string ⟨#[114,101,103]⟩,.int .i32 174,.string ⟨#[100,101,103]⟩,.int .i32 176,.string ⟨#[109,105,100,100,111,116]⟩,.int .i32 183,.string ⟨#[108,97,113,117,111]⟩,.int .i32 171,.string ⟨#[114,97,113,117,111]⟩,.int .i32 187,.string ⟨#[116,105,109,101,115]⟩,.int .i32 215,.string ⟨#[101,97,99,117,116,101]⟩,.int .i32 233,.string ⟨#[110,100,97,115,104]⟩,.int .i32 8211,.string ⟨#[109,100,97,115,104]⟩,.int .i32 8212,.string ⟨#[108,115,113,117,111]⟩,.int .i32 8216,.string ⟨#[114,115,113,117,111]⟩,.int .i32 8217,.string ⟨#[108,100,113,117,111]⟩,.int .i32 8220,.string ⟨#[114,100,113,117,111]⟩,.int .i32 8221,.string ⟨#[104,101,108,108,105,112]⟩,.int .i32 8230,.string ⟨#[101,117,114,111]⟩,.int .i32 8364]
def zeroCells:Array Value:=#[.string ⟨#[]⟩,.int .i32 0,.string ⟨#[]⟩,.int .i32 0,.string ⟨#[]⟩,.int .i32 0,.string ⟨#[]⟩,.int .i32 0,.string ⟨#[]⟩,.int .i32 0,.string ⟨#[]⟩,.int .i32 0,.string ⟨#[]⟩,.int .i32 0,.string ⟨#[]⟩,.int .i32 0,.string ⟨#[]⟩,.int .i32 0,.string ⟨#[]⟩,.int .i32 0,.string ⟨#[]⟩,.int .i32 0,.string ⟨#[]⟩,.int .i32 0,.string ⟨#[]⟩,.int .i32 0,.string ⟨#[]⟩,.int .i32 0,.string ⟨#[]⟩,.int .i32 0,.string ⟨#[]⟩,.int .i32 0,.string ⟨#[]⟩,.int .i32 0,.string ⟨#[]⟩,.int .i32 0,.string ⟨#[]⟩,.int .i32 0,.string ⟨#[]⟩,.int .i32 0,.string ⟨#[]⟩,.int .i32 0,.string ⟨#[]⟩,.int .i32 0]
def nv (k:Nat):Value:=.agg #[.string ⟨(names.getD k ([],0)).1.toArray⟩,.int .i32 ((names.getD k ([],0)).2:Int)]
theorem names_alloc (w:World):(Instr.alloc 156 true (.tuple #[])).run Tryz.prog w=.ok (.pointer (some ⟨w.heap.size,0,none⟩)) (w.alloc (.cells zeroCells 156)):=by kernel_rfl
theorem names_load (w:World):(Instr.loadAt 156 (.pointer (some ⟨w.heap.size,0,none⟩))).run Tryz.prog (w.alloc (.cells nameCells 156))=.ok (.agg nameCells) (w.alloc (.cells nameCells 156)):=run_loadAt_new w 156 nameCells 22 155 Tryz.underlying156 (by kernel_rfl)
theorem names_index:∀ (k:Nat)(hk:k < 22) (w:World),(Instr.index 156 (.agg nameCells) (.int .i64 (k:Int))).run Tryz.prog w=.ok (.agg #[.string ⟨(names[k]'hk).1.toArray⟩,.int .i32 ((names[k]'hk).2:Int)]) w
 | 0,_,w=>by kernel_rfl
 | 1,_,w=>by kernel_rfl
 | 2,_,w=>by kernel_rfl
 | 3,_,w=>by kernel_rfl
 | 4,_,w=>by kernel_rfl
 | 5,_,w=>by kernel_rfl
 | 6,_,w=>by kernel_rfl
 | 7,_,w=>by kernel_rfl
 | 8,_,w=>by kernel_rfl
 | 9,_,w=>by kernel_rfl
 | 10,_,w=>by kernel_rfl
 | 11,_,w=>by kernel_rfl
 | 12,_,w=>by kernel_rfl
 | 13,_,w=>by kernel_rfl
 | 14,_,w=>by kernel_rfl
 | 15,_,w=>by kernel_rfl
 | 16,_,w=>by kernel_rfl
 | 17,_,w=>by kernel_rfl
 | 18,_,w=>by kernel_rfl
 | 19,_,w=>by kernel_rfl
 | 20,_,w=>by kernel_rfl
 | 21,_,w=>by kernel_rfl
 | k+22,h,_=>by omega
theorem named_any (s:ByteArray) (w:World) :
  Calls Tryz.prog 99 #[.string s] w fun e w'=>e=.returned (optS (named (bl s)))/\Below w.heap.size w w':=by
 go_enter Tryz.func99,Tryz.ntmps99
 go_step
 go_step
 rename_i k0
 go_step
 go_step
 rename_i k1
 go_simp
 refine k1 _ _ ?_
 clear k1
 go_step
 rename_i k1
 go_simp
 refine k1 _ _ ?_
 clear k1
 go_step
 go_simp
 refine k0 _ _ ?_
 clear k0
 go_step
 rename_i k0
 go_step
 refine wpList_builds 23 _ _ ⟨#[.string s,undef,.string ⟨#[]⟩,.bool false,undef,undef,undef,nv 0,nv 1,nv 2,nv 3,nv 4,nv 5,nv 6,nv 7,nv 8,nv 9,nv 10,nv 11,nv 12,nv 13,nv 14,nv 15,nv 16,nv 17,nv 18,nv 19,nv 20,nv 21,.agg nameCells,undef,undef,undef,undef,undef,undef,undef,undef,undef,undef,undef,undef],[]⟩ (by kernel_rfl) ?_
 simp only[List.drop_succ_cons,List.drop_zero]
 refine wpList_allocV rfl 156 rfl _ (names_alloc w) ?_
 refine wpList_store_row rfl 156 _ _ rfl w.heap.size nameCells rfl rfl 156 zeroCells (heap_alloc_last w _) (by kernel_rfl) (by kernel_rfl) (by kernel_rfl) ?_
 rw[World.setRow_alloc_new]
 go_step
 refine k0 ⟨#[.string s,undef,.string ⟨#[]⟩,.bool false,.pointer (some ⟨w.heap.size,0,none⟩),undef,undef,nv 0,nv 1,nv 2,nv 3,nv 4,nv 5,nv 6,nv 7,nv 8,nv 9,nv 10,nv 11,nv 12,nv 13,nv 14,nv 15,nv 16,nv 17,nv 18,nv 19,nv 20,nv 21,.agg nameCells,undef,undef,undef,undef,undef,undef,undef,undef,undef,undef,undef,undef],[]⟩ _ ?_
 clear k0
 go_step
 go_step
 go_step
 refine wpList_loadV (w':=w.alloc (.cells nameCells 156)) rfl 156 (Operand.tmp 4) rfl (.agg nameCells) ?hx ?_
 case hx=>exact names_load w
 obtain⟨W,hW⟩:∃ W,W=w.alloc (.cells nameCells 156):=⟨_,rfl⟩
 have hb0:Below w.heap.size w W:=by rw[hW];exact (Below.refl _ w).alloc (Nat.le_refl _) _
 rw[<-hW]
 clear hW
 obtain⟨N,hN⟩:∃ N,N=nameCells:=⟨_,rfl⟩
 have hix:=names_index
 rw[<-hN] at hix ⊢
 clear hN
 simp only[Act.put]
 go_wp2
 go_loopw [31] (fun vi wr=>∃ k:Nat,vi=.int .i64 (k:Int)/\k<=22/\Below w.heap.size w wr/\Hid (lookN (names.drop k) (bl s)=named (bl s))) (fun vi _=>22 - (intOf vi).toNat)
 case atStart=>exact⟨0,rfl,by omega,hb0,hide rfl⟩
 case round =>
  obtain⟨k,rfl,hk,hbw,HL⟩:=hrel
  by_cases hlt:k < 22
  ·replace hix:=hix k hlt
   have HS:Hid (lookN (names.drop k) (bl s)=if (names[k]'hlt).1=bl s then some (names[k]'hlt).2 else lookN (names.drop (k+1)) (bl s)):=hide (by rw[List.drop_eq_getElem_cons (show k < names.length from hlt)];rfl)
   have hsc:Scalar (names[k]'hlt).2:=.inl (names_facts _ (List.getElem_mem ..)).2.2.1
   generalize (names[k]'hlt)=p at hix HS hsc
   obtain⟨nm,ch⟩:=p
   simp only at hix HS hsc
   have henc:=encode_er ch hsc
   have hch:ch<=1114111:=by unfold Scalar at hsc;omega
   obtain⟨z,hz⟩:∃ z:Int,z=(ch:Int):=⟨_,rfl⟩
   rw[<-hz] at hix henc
   obtain⟨nb,hnb⟩:∃ nb:ByteArray,nb=⟨nm.toArray⟩:=⟨_,rfl⟩
   rw[<-hnb] at hix
   by_cases he:nb=s
   ·have HR:Hid (named (bl s)=some ch):=hide (by rw[<-HL.out,HS.out,if_pos (by rw[<-he,hnb])])
    have z0:0<=z:=by omega
    have z1:z<=1114111:=by omega
    subst he
    clear hnb hz HS HL
    go_wp2
    go_ret2
    rw[HR.out]
    exact⟨rfl,hbw.alloc hbw.size _⟩
   ·have HR:Hid (lookN (names.drop (k+1)) (bl s)=named (bl s)):=hide (by
     rw[<-HL.out,HS.out,if_neg]
     intro e
     apply he
     rw[hnb,e])
    have hnd:(nb.toList==s.toList)=false:=beq_ne (fun e=>he (by
     cases nb;cases s
     simpa using e))
    have z0:0<=z:=by omega
    have z1:z<=1114111:=by omega
    clear hnb hz HS HL he henc
    go_wp2
    exact⟨⟨k+1,rfl,by omega,hbw.alloc hbw.size _,HR⟩,by simp[intOf];omega⟩
  ·have hk2:k=22:=by omega
   subst hk2
   have HR:Hid (named (bl s)=none):=hide (by rw[<-HL.out];rfl)
   clear HL
   go_wp2
   go_ret2
   rw[HR.out]
   exact⟨rfl,hbw⟩
end Go.Proofs.YtkiofbikkhhdfabGreatDoor.To
