import Derived.Test.YtkiofbikkhhdfabGreatDoorK14
import Derived.Test.YtkiofbikkhhdfabGreatDoorG21
import Derived.Laws.Rows
set_option maxRecDepth 100000
set_option maxHeartbeats 8000000
namespace Utf1
structure Td where
 kind:Int
 name:List UInt8
 attrs:List (List UInt8 × List UInt8)
 text:List UInt8
end Utf1
namespace Go.Proofs.YtkiofbikkhhdfabGreatDoor.Dm
open Go.RowKit
open Utf1
structure Bs where
 r:List Nd
 t:List UInt8
 o:Nat
 n:Nat
def startB (name:List UInt8) (at':List (List UInt8 × List UInt8)) (s:Bs):Bs:=⟨(startR name at' s.r s.t s.o s.n).1,(startR name at' s.r s.t s.o s.n).2.1,(startR name at' s.r s.t s.o s.n).2.2.1,(startR name at' s.r s.t s.o s.n).2.2.2⟩
def shutB (at':Nat) (s:Bs):Bs:=⟨(closeR (s.r.length - at') s.r s.t).1,(closeR (s.r.length - at') s.r s.t).2,s.o,s.n⟩
def endB (name:List UInt8) (s:Bs):Bs :=
 if 0 < innerR [name] s.r then shutB (innerR [name] s.r) s
 else if name=[112] then (let u:=startB [112] [] s;shutB (innerR [[112]] u.r) u)
 else if name=[98,114] then startB [98,114] [] s
 else s
def textB (x:List UInt8) (s:Bs):Bs:=⟨s.r,s.t++x,s.o,s.n+newT s.t x⟩
def takeB (k:Td) (s:Bs):Bs :=
 if k.kind=1 then textB k.text s else if k.kind=2 then startB k.name k.attrs s else if k.kind=3 then endB k.name s else s
def runB:List Td->Bs->Option Bs
 | [],s=>some s
 | k :: l,s=>if (takeB k s).o<=64/\(takeB k s).n<=2000 then runB l (takeB k s) else none
def bs0:Bs:=⟨[.mk [] [] [] []],[],0,0⟩
def treeB (s:Bs):List Nd :=
 match (shutB 1 s).r with
 | nd :: _=>(textIn nd (shutB 1 s).t).kids
 | []=>[]
def buildB (l:List Td):Option (List Nd):=(runB l bs0).map treeB
structure Good (s:Bs):Prop where
 ne:s.r≠[]
 root:s.r.getLast?.map Nd.name=some []
 cnt:cntL s.r+tx s.t=s.n+1
theorem good0:Good bs0:=⟨by simp[bs0],rfl,rfl⟩
theorem shut_good {s:Bs}(h:Good s) {a:Nat}(h1:1<=a)(h2:a<=s.r.length):Good (shutB a s)/\(shutB a s).t.length<=s.t.length/\(shutB a s).r.length=a:=by
 have c:=closeR_all (s.r.length - a) s.r s.t (by omega)
 have cr:=closeR_root (s.r.length - a) s.r s.t (by omega)
 refine⟨⟨?_,cr.trans h.root,c.2.1.trans h.cnt⟩,c.2.2,?_⟩
 ·refine List.length_pos_iff.1 ?_
  show 0 < (closeR (s.r.length - a) s.r s.t).1.length
  rw[c.1]
  omega
 ·show (closeR (s.r.length - a) s.r s.t).1.length=_
  rw[c.1]
  omega
theorem addKid_root (p x:Nd):(addKid p x).name=p.name:=addKid_name p x
theorem textIn_name (p:Nd) (t:List UInt8):(textIn p t).name=p.name:=by
 unfold textIn
 split
 ·rfl
 ·exact addKid_name _ _
theorem last_name {a b:Nd}{q:List Nd}(h:a.name=b.name):(a :: q).getLast?.map Nd.name=(b :: q).getLast?.map Nd.name:=by
 cases q with
 | nil=>simp[h]
 | cons x y=>simp
theorem start_good {s:Bs}(h:Good s) (name:List UInt8) (at':List (List UInt8 × List UInt8)):Good (startB name at' s)/\(startB name at' s).t.length<=s.t.length/\s.n<=(startB name at' s).n/\(startB name at' s).n<=s.n+1:=by
 have W:=wayR_all name s.r s.t h.ne h.root
 unfold startB startR
 by_cases hn:name=[]
 ·rw[if_pos hn]
  exact⟨h,Nat.le_refl _,Nat.le_refl _,Nat.le_succ _⟩
 ·rw[if_neg hn]
  cases hh:(wayR name s.r s.t).1 with
  | nil=>rw[hh] at W;simp at W
  | cons nd q =>
   rw[hh] at W
   simp only[]
   have c1:=cnt_text nd (wayR name s.r s.t).2
   have c2:cntN (.mk name at' [] [])=1:=rfl
   have c3:=W.2.2.1
   have c4:=h.cnt
   have c5:=W.2.2.2.2
   simp only[cntL] at c3
   split
   ·refine⟨⟨by simp,?_,?_⟩,Nat.zero_le _,Nat.le_succ _,Nat.le_refl _⟩
    ·show (addKid (textIn nd (wayR name s.r s.t).2) (Nd.mk name at' [] []) :: q).getLast?.map Nd.name=_
     rw[last_name (b:=nd) (by rw[addKid_name,textIn_name]),c5]
     exact h.root
    ·show cntL (addKid (textIn nd (wayR name s.r s.t).2) (Nd.mk name at' [] []) :: q)+0=s.n+1+1
     simp only[cntL]
     rw[cnt_add]
     omega
   ·refine⟨⟨by simp,?_,?_⟩,Nat.zero_le _,Nat.le_succ _,Nat.le_refl _⟩
    ·show (Nd.mk name at' [] [] :: textIn nd (wayR name s.r s.t).2 :: q).getLast?.map Nd.name=_
     rw[List.getLast?_cons_cons,last_name (b:=nd) (textIn_name _ _),c5]
     exact h.root
    ·show cntL (Nd.mk name at' [] [] :: textIn nd (wayR name s.r s.t).2 :: q)+0=s.n+1+1
     simp only[cntL]
     omega
theorem tx_app (t x:List UInt8):tx (t++x)=tx t+newT t x:=by
 unfold tx newT
 cases t with
 | nil=>cases x <;> simp
 | cons a b=>simp
theorem text_good {s:Bs}(h:Good s) (x:List UInt8):Good (textB x s):=⟨h.ne,h.root,by
 have:=h.cnt
 show cntL s.r+tx (s.t++x)=s.n+newT s.t x+1
 rw[tx_app]
 omega⟩
theorem p_start (s:Bs)(h:Good s):0 < innerR [[112]] (startB [112] [] s).r:=by
 have W:=wayR_all [112] s.r s.t h.ne h.root
 unfold startB startR
 rw[if_neg (by simp)]
 cases hh:(wayR [112] s.r s.t).1 with
 | nil=>rw[hh] at W;simp at W
 | cons nd q =>
  simp only[]
  rw[if_neg (by decide)]
  show 0 < innerR [[112]] (Nd.mk [112] [] [] [] :: textIn nd (wayR [112] s.r s.t).2 :: q)
  unfold innerR
  rw[if_neg (by simp),if_pos (by simp[Nd.name])]
  simp
theorem inner_le (ns:List (List UInt8)) (s:Bs)(h:Good s):innerR ns s.r<=s.r.length:=Nat.le_of_lt (innerR_lt ns s.r h.ne)
theorem end_good {s:Bs}(h:Good s) (name:List UInt8):Good (endB name s)/\(endB name s).t.length<=s.t.length/\s.n<=(endB name s).n/\(endB name s).n<=s.n+1:=by
 unfold endB
 split
 ·rename_i hi
  have:=shut_good h hi (inner_le _ s h)
  exact⟨this.1,this.2.1,Nat.le_refl _,Nat.le_succ _⟩
 ·split
  ·have g:=start_good h [112] []
   have:=shut_good g.1 (p_start s h) (inner_le _ _ g.1)
   exact⟨this.1,Nat.le_trans this.2.1 g.2.1,g.2.2⟩
  ·split
   ·exact start_good h [98,114] []
   ·exact⟨h,Nat.le_refl _,Nat.le_refl _,Nat.le_succ _⟩
theorem take_good {s:Bs}(h:Good s) (k:Td):Good (takeB k s)/\(takeB k s).t.length<=s.t.length+k.text.length:=by
 unfold takeB
 split
 ·exact⟨text_good h _,by show (s.t++k.text).length<=_;rw[List.length_append];exact Nat.le_refl _⟩
 ·split
  ·have:=start_good h k.name k.attrs
   exact⟨this.1,Nat.le_trans this.2.1 (Nat.le_add_right _ _)⟩
  ·split
   ·have:=end_good h k.name
    exact⟨this.1,Nat.le_trans this.2.1 (Nat.le_add_right _ _)⟩
   ·exact⟨h,Nat.le_add_right _ _⟩
end Go.Proofs.YtkiofbikkhhdfabGreatDoor.Dm
namespace Go.Proofs.YtkiofbikkhhdfabGreatDoor.Dm
open Go.RowKit
open Utf1
def SB (w:World) (base B:Nat) (s:Bs):Prop:=St w base B s.r.reverse s.t s.o s.n
theorem SB.base {w:World}{base B:Nat}{s:Bs}(h:SB w base B s):base<=w.heap.size:=by
 obtain⟨_,_,h0,_⟩:=h
 exact h0.2.1
theorem Clones.on {w w':World}{base:Nat}{av:Value}{at':List (List UInt8 × List UInt8)}(h:Clones w base av at')(hb:Below base w w'):Clones w' base av at':=fun wx h1 h2=>h wx h1 (hb.trans h2)
theorem start_st (w:World) (base B:Nat) (s:Bs) (name:ByteArray)(h:SB w base B s)(hg:Good s)(ht:s.t.length<=100000000)(ho:s.o<=100000)(hn:s.n<=90000)(hs:name.size<=281474976710656) (av:Value) (at':List (List UInt8 × List UInt8))(hcl:Clones w base av at') :
  Calls Tryz.prog 79 #[.pointer (some ⟨B,0,none⟩),.string name,av] w fun e w'=>e=.returned (.tuple #[])/\SB w' base B (startB (bl name) at' s)/\Below base w w':=by
 have hc:=hg.cnt
 by_cases hne:bl name=[]
 ·have f0:=eqlit name []
  rw[decide_eq_true hne] at f0
  have f1:name.toList.isEmpty=true:=by
   cases hh:name.toList with
   | nil=>rfl
   | cons=>rw[hh] at f0;cases f0
  have HE:Hid (SB w base B (startB (bl name) at' s)):=hide (by
   have:startB (bl name) at' s=s:=by
    unfold startB startR
    rw[if_pos hne]
   rw[this]
   exact h)
  clear h hg hcl hc
  go_enter Tryz.func79,Tryz.ntmps79
  go_wp2_with fail
  refine bodyPost_ret (results_none rfl _ _ _) rfl ?_
  exact⟨rfl,HE.out,Below.refl _ _⟩
 ·by_cases hv:bl name∈voids
  ·exact start_void w base B s.r s.t s.o s.n name h hg.ne hg.root (by omega) ht (by omega) hs hne hv av at' hcl
  ·exact start_open w base B s.r s.t s.o s.n name h hg.ne hg.root (by omega) ht (by omega) hs hne ho hv av at' hcl
theorem end_found (w:World) (base B:Nat) (s:Bs) (name:ByteArray)(h:SB w base B s)(hg:Good s)(ht:s.t.length<=100000000)(hn:s.n<=90000)(hi:0 < innerR [bl name] s.r) :
  Calls Tryz.prog 80 #[.pointer (some ⟨B,0,none⟩),.string name] w fun e w'=>e=.returned (.tuple #[])/\SB w' base B (shutB (innerR [bl name] s.r) s)/\Below base w w':=by
 have hc:=hg.cnt
 have hrl:=len_cnt s.r
 have hlt:=innerR_lt [bl name] s.r hg.ne
 have HI:Hid (∀ ty,Calls Tryz.prog 112 #[.pointer (some ⟨B,0,none⟩),.slice (some ⟨w.heap.size,0,none⟩) 1 1] (w.alloc (.cells #[.string name] ty)) fun e w'=>e=.returned (.int .i64 (innerR [bl name] s.r:Int))/\w'=w.alloc (.cells #[.string name] ty)):=hide (fun ty=>inner_lit w base B s.r s.t s.o s.n [name] #[.string name] ty rfl h (by omega) (by omega) (by show 1<=100000;omega))
 have HC:Hid (∀ ty,Calls Tryz.prog 46 #[.pointer (some ⟨B,0,none⟩),.int .i64 (innerR [bl name] s.r:Int)] (w.alloc (.cells #[.string name] ty)) fun e w'=>e=.returned (.tuple #[])/\SB w' base B (shutB (innerR [bl name] s.r) s)/\Below base w w'):=hide (by
  intro ty
  refine (closeFrom_st _ base B (innerR [bl name] s.r) s.r s.t s.o s.n (St.under h ((Below.refl _ _).alloc (Nat.le_refl _) _)) hi (by omega) (by omega) ht).mono ?_
  rintro e w' ⟨rfl,q1,q2⟩
  exact⟨rfl,q1,((Below.refl base w).alloc h.base _).trans q2⟩)
 obtain⟨Z,hZ⟩:∃ Z,Z=shutB (innerR [bl name] s.r) s:=⟨_,rfl⟩
 obtain⟨a,ha⟩:∃ a,a=innerR [bl name] s.r:=⟨_,rfl⟩
 rw[<-hZ] at HC ⊢
 rw[<-ha] at HC HI hi
 have hd:decide ((0:Int) < (a:Int))=true:=decide_eq_true (by omega)
 clear h hg hZ ha hc hrl hlt
 go_enter Tryz.func80,Tryz.ntmps80
 go_wp2_with fail
 refine (HI.out _).mono ?_
 rintro e w1 ⟨rfl,rfl⟩
 go_wp2_with fail
 refine (HC.out _).mono ?_
 rintro e w2 ⟨rfl,m1,m2⟩
 have HE:=hide (And.intro m1 m2)
 clear m1 m2 HC HI
 go_wp2_with fail
 go_end0
 exact⟨rfl,HE.out⟩
end Go.Proofs.YtkiofbikkhhdfabGreatDoor.Dm
namespace Go.Proofs.YtkiofbikkhhdfabGreatDoor.Dm
open Go.RowKit
open Utf1
theorem end_st (w:World) (base B:Nat) (s:Bs) (name:ByteArray)(h:SB w base B s)(hg:Good s)(ht:s.t.length<=100000000)(ho:s.o<=100000)(hn:s.n<=80000) :
  Calls Tryz.prog 80 #[.pointer (some ⟨B,0,none⟩),.string name] w fun e w'=>e=.returned (.tuple #[])/\SB w' base B (endB (bl name) s)/\Below base w w':=by
 by_cases hi:0 < innerR [bl name] s.r
 ·have:endB (bl name) s=shutB (innerR [bl name] s.r) s:=by
   unfold endB
   rw[if_pos hi]
  rw[this]
  exact end_found w base B s name h hg ht (by omega) hi
 have hc:=hg.cnt
 have hrl:=len_cnt s.r
 have hlt:=innerR_lt [bl name] s.r hg.ne
 have ha0:innerR [bl name] s.r=0:=by omega
 have HI:Hid (∀ ty,Calls Tryz.prog 112 #[.pointer (some ⟨B,0,none⟩),.slice (some ⟨w.heap.size,0,none⟩) 1 1] (w.alloc (.cells #[.string name] ty)) fun e w'=>e=.returned (.int .i64 0)/\w'=w.alloc (.cells #[.string name] ty)):=hide (fun ty=>by
  have:=inner_lit w base B s.r s.t s.o s.n [name] #[.string name] ty rfl h (by omega) (by omega) (by show 1<=100000;omega)
  rw[show [name].map bl=[bl name] from rfl,ha0] at this
  exact this)
 have HSW:Hid (∀ ty,SB (w.alloc (.cells #[.string name] ty)) base B s/\Below base w (w.alloc (.cells #[.string name] ty))):=hide (fun ty=>⟨St.under h ((Below.refl _ _).alloc (Nat.le_refl _) _),(Below.refl base w).alloc h.base _⟩)
 have f1:=eqlit name [112]
 have f2:=eqlit name [98,114]
 have HG:=hide hg
 by_cases hp:bl name=[112]
 ·have hE:endB (bl name) s=shutB (innerR [[112]] (startB [112] [] s).r) (startB [112] [] s):=by
   unfold endB
   rw[if_neg hi,if_pos hp]
  rw[hE]
  rw[decide_eq_true hp] at f1
  have g1:=start_good hg [112] []
  have hps:=p_start s hg
  have HST:Hid (∀ wx,SB wx base B s->Calls Tryz.prog 79 #[.pointer (some ⟨B,0,none⟩),.string ⟨#[112]⟩,.slice none 0 0] wx fun e w'=>e=.returned (.tuple #[])/\SB w' base B (startB [112] [] s)/\Below base wx w'):=hide (fun wx hx=>start_st wx base B s ⟨#[112]⟩ hx hg ht ho (by omega) (by decide) _ _ (clones_nil _ _))
  have HEN:Hid (∀ wx,SB wx base B (startB [112] [] s)->Calls Tryz.prog 80 #[.pointer (some ⟨B,0,none⟩),.string ⟨#[112]⟩] wx fun e w'=>e=.returned (.tuple #[])/\SB w' base B (shutB (innerR [[112]] (startB [112] [] s).r) (startB [112] [] s))/\Below base wx w'):=hide (fun wx hx=>end_found wx base B (startB [112] [] s) ⟨#[112]⟩ hx g1.1 (by omega) (by omega) hps)
  obtain⟨Y,hY⟩:∃ Y,Y=shutB (innerR [[112]] (startB [112] [] s).r) (startB [112] [] s):=⟨_,rfl⟩
  rw[<-hY] at HEN ⊢
  obtain⟨Z,hZ⟩:∃ Z,Z=startB [112] [] s:=⟨_,rfl⟩
  rw[<-hZ] at HEN HST
  clear hE h hg hc hrl hlt ha0 g1 hps HG hY hZ hi hp f2
  go_enter Tryz.func80,Tryz.ntmps80
  go_wp2_with fail
  refine (HI.out _).mono ?_
  rintro e w1 ⟨rfl,rfl⟩
  go_wp2_with fail
  refine (HST.out _ (HSW.out _).1).mono ?_
  rintro e w2 ⟨rfl,m1,m2⟩
  have HC:=hide (HEN.out _ m1)
  have HB:=hide ((HSW.out _).2.trans m2)
  clear m1 m2 HEN HST HSW HI
  go_wp2_with fail
  refine HC.out.mono ?_
  rintro e w3 ⟨rfl,m1,m2⟩
  have HE:=hide (And.intro m1 (HB.out.trans m2))
  clear m1 m2 HC HB
  go_wp2_with fail
  go_end0
  exact⟨rfl,HE.out⟩
 rw[decide_eq_false hp] at f1
 by_cases hbr:bl name=[98,114]
 ·have hE:endB (bl name) s=startB [98,114] [] s:=by
   unfold endB
   rw[if_neg hi,if_neg hp,if_pos hbr]
  rw[hE]
  rw[decide_eq_true hbr] at f2
  have HST:Hid (∀ wx,SB wx base B s->Calls Tryz.prog 79 #[.pointer (some ⟨B,0,none⟩),.string ⟨#[98,114]⟩,.slice none 0 0] wx fun e w'=>e=.returned (.tuple #[])/\SB w' base B (startB [98,114] [] s)/\Below base wx w'):=hide (fun wx hx=>start_st wx base B s ⟨#[98,114]⟩ hx hg ht ho (by omega) (by decide) _ _ (clones_nil _ _))
  obtain⟨Z,hZ⟩:∃ Z,Z=startB [98,114] [] s:=⟨_,rfl⟩
  rw[<-hZ] at HST ⊢
  clear hE h hg hc hrl hlt ha0 HG hZ hi hp hbr
  go_enter Tryz.func80,Tryz.ntmps80
  go_wp2_with fail
  refine (HI.out _).mono ?_
  rintro e w1 ⟨rfl,rfl⟩
  go_wp2_with fail
  refine (HST.out _ (HSW.out _).1).mono ?_
  rintro e w2 ⟨rfl,m1,m2⟩
  have HE:=hide (And.intro m1 ((HSW.out _).2.trans m2))
  clear m1 m2 HST HSW HI
  go_wp2_with fail
  go_end0
  exact⟨rfl,HE.out⟩
 ·have hE:endB (bl name) s=s:=by
   unfold endB
   rw[if_neg hi,if_neg hp,if_neg hbr]
  rw[hE]
  rw[decide_eq_false hbr] at f2
  clear hE h hg hc hrl hlt ha0 HG hi hp hbr
  go_enter Tryz.func80,Tryz.ntmps80
  go_wp2_with fail
  refine (HI.out _).mono ?_
  rintro e w1 ⟨rfl,rfl⟩
  go_wp2_with fail
  go_end0
  exact⟨rfl,HSW.out _⟩
end Go.Proofs.YtkiofbikkhhdfabGreatDoor.Dm
namespace Go.Proofs.YtkiofbikkhhdfabGreatDoor.Dm
open Go.RowKit
open Utf1
theorem capped_any (o n:Nat) (w:World) :
  Calls Tryz.prog 45 #[.agg #[.int .i64 (o:Int),.int .i64 (n:Int)]] w fun e w'=>e=.returned (.agg #[.int .i64 (min (o:Int) 64),.int .i64 (min (n:Int) 2000)])/\Below w.heap.size w w':=by
 go_enter Tryz.func45,Tryz.ntmps45
 go_wp2_with fail
 refine bodyPost_ret (results_cell_row rfl _ _ (w.heap.size+1) 73 #[.int .i64 (min (o:Int) 64),.int .i64 (min (n:Int) 2000)] (0,0) _ rfl ?_ Tryz.underlying73 rfl (by kernel_rfl)) rfl ?_
 ·exact heap_alloc2_new _ _ _
 ·exact⟨rfl,((Below.refl _ _).alloc (Nat.le_refl _) _).alloc (by simp) _⟩
theorem take_st (w:World) (base B:Nat) (s:Bs) (kind:Int) (name text:ByteArray) (cl:Bool) (ap:Option Addr) (am ac:Nat) (at':List (List UInt8 × List UInt8))(h:SB w base B s)(hg:Good s)(ht:s.t.length+text.size<=100000000)(ho:s.o<=100000)(hn:s.n<=80000)(hs:name.size<=281474976710656)(hcl:Clones w base (.slice ap am ac) at') :
  Calls Tryz.prog 44 #[.pointer (some ⟨B,0,none⟩),.agg #[.int .i64 kind,.string name,.slice ap am ac,.bool cl,.string text]] w fun e w'=>e=.returned (.tuple #[])/\SB w' base B (takeB ⟨kind,bl name,at',bl text⟩ s)/\Below base w w':=by
 obtain⟨w1,hw1⟩:∃ w1,w1=w.alloc (.cells #[.int .i64 kind,.string name,.slice ap am ac,.bool cl,.string text] 45):=⟨_,rfl⟩
 have hb1:Below w.heap.size w w1:=by rw[hw1];exact (Below.refl _ _).alloc (Nat.le_refl _) _
 have hs1:SB w1 base B s:=St.under h hb1
 have HB1:=hide (hb1.mono h.base)
 have HCL:=hide (hcl.on HB1.out)
 have HSZ:=hide h.base
 have c0:w1.cell? ⟨w.heap.size,0,none⟩=some (.int .i64 kind):=by rw[hw1,new_cell];rfl
 have c1:w1.cell? ⟨w.heap.size,1,none⟩=some (.string name):=by rw[hw1,new_cell];rfl
 have c2:w1.cell? ⟨w.heap.size,2,none⟩=some (.slice ap am ac):=by rw[hw1,new_cell];rfl
 have c4:w1.cell? ⟨w.heap.size,4,none⟩=some (.string text):=by rw[hw1,new_cell];rfl
 have HS:=hide hs1
 have HG:=hide hg
 clear h hg hcl hs1 hb1
 by_cases k1:kind=1
 ·have HE:Hid (takeB ⟨kind,bl name,at',bl text⟩ s=textB (bl text) s):=hide (by unfold takeB;rw[if_pos k1])
  rw[HE.out]
  subst k1
  clear HCL HE
  go_enter Tryz.func44,Tryz.ntmps44
  go_wp2_with fail
  rw[<-hw1]
  clear hw1
  go_wp2_with fail
  refine (addText_st w1 base B s.r.reverse s.t s.o s.n text HS.out ht (by omega)).mono ?_
  rintro e w2 ⟨rfl,m1,m2⟩
  have HE:=hide (And.intro m1 (HB1.out.trans m2))
  clear m1 m2 HS HB1
  go_wp2_with fail
  go_end0
  exact⟨rfl,HE.out⟩
 have f1:(kind==1)=false:=beq_eq_false_iff_ne.2 k1
 by_cases k2:kind=2
 ·have HE:Hid (takeB ⟨kind,bl name,at',bl text⟩ s=startB (bl name) at' s):=hide (by unfold takeB;rw[if_neg k1,if_pos k2])
  rw[HE.out]
  subst k2
  have HST:=hide (start_st w1 base B s name HS.out HG.out (by omega) ho (by omega) hs (.slice ap am ac) at' HCL.out)
  clear HCL HE HS
  go_enter Tryz.func44,Tryz.ntmps44
  go_wp2_with fail
  rw[<-hw1]
  clear hw1
  go_wp2_with fail
  refine HST.out.mono ?_
  rintro e w2 ⟨rfl,m1,m2⟩
  have HE:=hide (And.intro m1 (HB1.out.trans m2))
  clear m1 m2 HST HB1
  go_wp2_with fail
  go_end0
  exact⟨rfl,HE.out⟩
 have f2:(kind==2)=false:=beq_eq_false_iff_ne.2 k2
 by_cases k3:kind=3
 ·have HE:Hid (takeB ⟨kind,bl name,at',bl text⟩ s=endB (bl name) s):=hide (by unfold takeB;rw[if_neg k1,if_neg k2,if_pos k3])
  rw[HE.out]
  subst k3
  have HST:=hide (end_st w1 base B s name HS.out HG.out (by omega) ho hn)
  clear HCL HE HS
  go_enter Tryz.func44,Tryz.ntmps44
  go_wp2_with fail
  rw[<-hw1]
  clear hw1
  go_wp2_with fail
  refine HST.out.mono ?_
  rintro e w2 ⟨rfl,m1,m2⟩
  have HE:=hide (And.intro m1 (HB1.out.trans m2))
  clear m1 m2 HST HB1
  go_wp2_with fail
  go_end0
  exact⟨rfl,HE.out⟩
 ·have f3:(kind==3)=false:=beq_eq_false_iff_ne.2 k3
  have HE:Hid (takeB ⟨kind,bl name,at',bl text⟩ s=s):=hide (by unfold takeB;rw[if_neg k1,if_neg k2,if_neg k3])
  rw[HE.out]
  clear HCL HE
  go_enter Tryz.func44,Tryz.ntmps44
  go_wp2_with fail
  rw[<-hw1]
  clear hw1
  go_wp2_with fail
  go_end0
  exact⟨rfl,HS.out,HB1.out⟩
end Go.Proofs.YtkiofbikkhhdfabGreatDoor.Dm
namespace Go.Proofs.YtkiofbikkhhdfabGreatDoor.Dm
open Go.RowKit
open Utf1
abbrev Te:=Td × (Option Addr × Nat × Nat) × Bool
def TokRow (w:World) (v:Value) (l:List Te):Prop:=∃ p c,v=.slice p l.length c/\∀ i e,l[i]?=some e->∃ g off,p=some ⟨g,off,none⟩/\w.cell? ⟨g,off+i*5,none⟩=some (.int .i64 e.1.kind)/\w.cell? ⟨g,off+i*5+1,none⟩=some (.string ⟨e.1.name.toArray⟩)/\w.cell? ⟨g,off+i*5+2,none⟩=some (.slice e.2.1.1 e.2.1.2.1 e.2.1.2.2)/\w.cell? ⟨g,off+i*5+3,none⟩=some (.bool e.2.2)/\w.cell? ⟨g,off+i*5+4,none⟩=some (.string ⟨e.1.text.toArray⟩)
def textSum:List Te->Nat
 | []=>0
 | e :: r=>e.1.text.length+textSum r
theorem start_o {s:Bs}(h:Good s) (name:List UInt8) (at':List (List UInt8 × List UInt8)):(startB name at' s).o<=max s.o (startB name at' s).n:=by
 have W:=wayR_all name s.r s.t h.ne h.root
 have hc:=h.cnt
 unfold startB startR
 by_cases hn:name=[]
 ·rw[if_pos hn]
  exact Nat.le_max_left _ _
 ·rw[if_neg hn]
  cases hh:(wayR name s.r s.t).1 with
  | nil=>exact Nat.le_max_left _ _
  | cons nd q =>
   rw[hh] at W
   have hl:=len_cnt (nd :: q)
   simp only[List.length_cons] at hl W
   simp only[]
   split
   ·exact Nat.le_max_left _ _
   ·show max s.o (q.length+1)<=max s.o (s.n+1)
    omega
theorem end_o {s:Bs}(h:Good s) (name:List UInt8):(endB name s).o<=max s.o (endB name s).n:=by
 unfold endB
 split
 ·exact Nat.le_max_left _ _
 ·split
  ·exact start_o h [112] []
  ·split
   ·exact start_o h [98,114] []
   ·exact Nat.le_max_left _ _
theorem take_o {s:Bs}(h:Good s) (k:Td):(takeB k s).o<=max s.o (takeB k s).n/\(takeB k s).n<=s.n+1:=by
 unfold takeB
 split
 ·refine⟨Nat.le_max_left _ _,?_⟩
  show s.n+newT s.t k.text<=_
  unfold newT
  split <;> omega
 ·split
  ·exact⟨start_o h _ _,(start_good h _ _).2.2.2⟩
  ·split
   ·exact⟨end_o h _,(end_good h _).2.2.2⟩
   ·exact⟨Nat.le_max_left _ _,Nat.le_succ _⟩
theorem root_facts {w:World}{base B:Nat}{nd:Nd}{pa bv:Value}{o n:Nat}(h:St0 w base B [nd] pa bv o n):∃ go oc kp km kc fp,w.cell? ⟨B,0,none⟩=some (.slice (some ⟨go,0,none⟩) 1 oc)/\w.cell? ⟨go,3,none⟩=some (.slice kp km kc)/\KAt w base (.slice kp km kc) nd.kids fp:=by
 obtain⟨hbB,hbw,ov,l,fp,hl,hB,hro,hall,hnd⟩:=h
 obtain⟨li,av,kv,rfl,hli⟩:=map_snoc (i:=[]) hl
 have hli:li=[]:=by
  cases li with
  | nil=>rfl
  | cons a b=>cases hli
 subst hli
 obtain⟨hav,hkv⟩:=kall_one hall
 obtain⟨go,oc,rfl,hcell⟩:=own_at hro (by simp)
 obtain⟨k,f,hk1,hk2,hrk,_⟩:=kat_inv hkv
 obtain⟨kp,km,kc,rfl⟩:=own_slice hrk
 refine⟨go,oc,kp,km,kc,fp,tag_cell hB 0 _ rfl,?_,hkv⟩
 rw[hcell 3 (by simp)]
 rfl
theorem new_sb (w:World):SB ((w.alloc (.cells #[.string ⟨#[]⟩,.slice none 0 0,.string ⟨#[]⟩,.slice none 0 0] 80)).alloc (.cells #[.slice (some ⟨w.heap.size,0,none⟩) 1 1,.pointer none,.slice none 0 0,.int .i64 0,.int .i64 0] 75)) w.heap.size (w.heap.size+1) bs0:=by
 have hal:∀ o,Below (w.alloc (.cells #[.string ⟨#[]⟩,.slice none 0 0,.string ⟨#[]⟩,.slice none 0 0] 80)).heap.size (w.alloc (.cells #[.string ⟨#[]⟩,.slice none 0 0,.string ⟨#[]⟩,.slice none 0 0] 80)) ((w.alloc (.cells #[.string ⟨#[]⟩,.slice none 0 0,.string ⟨#[]⟩,.slice none 0 0] 80)).alloc o):=fun o=>(Below.refl _ _).alloc (Nat.le_refl _) _
 refine⟨.pointer none,.slice none 0 0,⟨Nat.le_succ _,?_,.slice (some ⟨w.heap.size,0,none⟩) 1 1,[(.mk [] [] [] [],.slice none 0 0,.slice none 0 0)],[],rfl,?_,?_,?_,?_⟩,.inl rfl,World.ownsRow_nil _ _ _ _⟩
 ·simp;omega
 ·exact heap_alloc2_new _ _ _
 ·refine own_below ?_ (hal _)
  refine⟨rfl,.inr ⟨w.heap.size,1,_,rfl,Nat.le_refl _,heap_alloc_new _ _,Nat.le_refl _,?_,?_,?_⟩⟩
  ·unfold maxLen;decide
  ·rfl
  ·rfl
 ·exact KAll.cons (.mk [] [] [] []) _ _ [] [] [] (World.ownsRow_nil _ _ _ _) (KAt.empty _ _) .nil
 ·simp[blk,Value.ownBlock]
end Go.Proofs.YtkiofbikkhhdfabGreatDoor.Dm
namespace Go.Proofs.YtkiofbikkhhdfabGreatDoor.Dm
open Go.RowKit
open Utf1
def BuildEnd (w w':World) (l:List Te) (v:Value) (err:Int):Prop :=
 (buildB (l.map Prod.fst)=none->v=.slice none 0 0/\err=5)/\∀ ns,buildB (l.map Prod.fst)=some ns->err=0/\∃ fp,KAt w' w.heap.size v ns fp
theorem build_none {l:List Te}{s:Bs}{e:Te}{rest:List Te}(h:runB (l.map Prod.fst) bs0=runB ((e :: rest).map Prod.fst) s)(hn:¬ ((takeB e.1 s).o<=64/\(takeB e.1 s).n<=2000)):buildB (l.map Prod.fst)=none:=by
 unfold buildB
 rw[h]
 show Option.map treeB (if _ then _ else _)=none
 rw[if_neg hn]
 rfl
theorem build_step {l:List Te}{s:Bs}{e:Te}{rest:List Te}(h:runB (l.map Prod.fst) bs0=runB ((e :: rest).map Prod.fst) s)(hn:(takeB e.1 s).o<=64/\(takeB e.1 s).n<=2000):runB (l.map Prod.fst) bs0=runB (rest.map Prod.fst) (takeB e.1 s):=by
 rw[h]
 show (if _ then _ else _)=_
 rw[if_pos hn]
theorem make_one (w:World):(Instr.makeSlice 32 (.int .i64 1) (.int .i64 1)).run Tryz.prog w=.ok (.slice (some ⟨w.heap.size,0,none⟩) 1 1) (w.alloc (.cells #[.string ⟨#[]⟩,.slice none 0 0,.string ⟨#[]⟩,.slice none 0 0] 80)):=by kernel_rfl
theorem build_st (w:World) (v:Value) (l:List Te)(hl:TokRow w v l)(hlen:l.length<=1000000000)(hsum:textSum l<=100000000)(hnm:∀ e∈l,e.1.name.length<=281474976710656)(hcl:∀ e∈l,Clones w w.heap.size (.slice e.2.1.1 e.2.1.2.1 e.2.1.2.2) e.1.attrs) :
  Calls Tryz.prog 14 #[v] w fun e w'=>∃ r err,e=.returned (.tuple #[r,.int .i64 err])/\BuildEnd w w' l r err/\Below w.heap.size w w':=by
 obtain⟨p,c,rfl,hcell⟩:=hl
 obtain⟨w1,hw1⟩:∃ w1,w1=((w.alloc (.cells #[.string ⟨#[]⟩,.slice none 0 0,.string ⟨#[]⟩,.slice none 0 0] 80)).alloc (.cells #[.slice (some ⟨w.heap.size,0,none⟩) 1 1,.pointer none,.slice none 0 0,.int .i64 0,.int .i64 0] 75)):=⟨_,rfl⟩
 have HS1:=hide (new_sb w)
 rw[<-hw1] at HS1
 have HB1:Hid (Below w.heap.size w w1):=hide (by rw[hw1];exact ((Below.refl _ _).alloc (Nat.le_refl _) _).alloc (by simp) _)
 obtain⟨N,hN⟩:∃ N,N=l.length:=⟨_,rfl⟩
 rw[<-hN] at hlen ⊢
 have HN:=hide hN
 have HC:=hide hcell
 have HCL:=hide hcl
 have HNM:=hide hnm
 clear hcell hcl hnm hN
 go_enter Tryz.func14,Tryz.ntmps14
 go_wp2_with fail
 rw[make_one]
 simp only[Result.andThen]
 rw[Oper.upon_value]
 go_wp2_with fail
 rw[<-hw1]
 clear hw1
 go_loopg [12] N (fun k v wr=>∃ (j:Nat) (rest:List Te) (s:Bs),rest.length=k/\v=.int .i64 (j:Int)/\j+k=N/\Hid (∃ d,l=d++rest/\d.length=j)/\Hid (SB wr w.heap.size (w.heap.size+1) s)/\Hid (Below w.heap.size w wr)/\Hid (Good s)/\s.o<=64/\s.n<=2000/\s.t.length+textSum rest<=100000000/\Hid (runB (l.map Prod.fst) bs0=runB (rest.map Prod.fst) s))
 case atStart=>exact⟨0,l,bs0,HN.out.symm,rfl,by omega,hide ⟨[],rfl,rfl⟩,HS1,HB1,hide good0,by decide,by decide,by show 0+_<=_;omega,hide rfl⟩
 case round =>
  obtain⟨j,rest,s,rfl,rfl,hjk,HD,HS,HB,HG,ho,hn,ht,HR⟩:=hrel
  clear HS1 HB1
  have hcs:=HG.out.cnt
  have hrl:=len_cnt s.r
  match rest,hjk,HD,ht,HR with
  | [],hjk,HD,ht,HR =>
   simp only[List.length_nil,Nat.add_zero] at hjk
   subst hjk
   have HCF:=hide (closeFrom_st wr w.heap.size (w.heap.size+1) 1 s.r s.t s.o s.n HS.out (Nat.le_refl _) (List.length_pos_iff.2 HG.out.ne) (by omega) (by omega))
   have hsg:=shut_good HG.out (Nat.le_refl 1) (List.length_pos_iff.2 HG.out.ne)
   have HT:Hid (buildB (l.map Prod.fst)=some (treeB s)):=hide (by
    unfold buildB
    rw[HR.out]
    rfl)
   obtain⟨nd,hnd⟩:∃ nd,(shutB 1 s).r=[nd]:=List.length_eq_one_iff.1 hsg.2.2
   have HTR:Hid (treeB s=(textIn nd (shutB 1 s).t).kids):=hide (by
    unfold treeB
    rw[hnd])
   have hcn:=hsg.1.cnt
   rw[hnd] at hcn
   have hcn:cntN nd+0+tx (shutB 1 s).t=s.n+1:=hcn
   have hkn:=cntN_kids nd
   have hlk:=len_cnt nd.kids
   have HCF:Hid (Calls Tryz.prog 46 #[.pointer (some ⟨w.heap.size+1,0,none⟩),.int .i64 1] wr fun e w'=>e=.returned (.tuple #[])/\St w' w.heap.size (w.heap.size+1) ([]++[nd]) (shutB 1 s).t s.o s.n/\Below w.heap.size wr w'):=hide (by
    refine HCF.out.mono ?_
    rintro e w' ⟨rfl,m1,m2⟩
    refine⟨rfl,?_,m2⟩
    have m1:St w' w.heap.size (w.heap.size+1) (shutB 1 s).r.reverse (shutB 1 s).t s.o s.n:=m1
    rw[hnd] at m1
    exact m1)
   have HET:Hid (∀ wx,St wx w.heap.size (w.heap.size+1) ([]++[nd]) (shutB 1 s).t s.o s.n->Calls Tryz.prog 47 #[.pointer (some ⟨w.heap.size+1,0,none⟩)] wx fun e w'=>e=.returned (.tuple #[])/\St w' w.heap.size (w.heap.size+1) ([]++[textIn nd (shutB 1 s).t]) [] s.o s.n/\Below w.heap.size wx w'):=hide (fun wx hx=>endText_st wx w.heap.size (w.heap.size+1) [] nd (shutB 1 s).t s.o s.n hx (by simp) (by omega) (by have:=hsg.2.1;omega))
   clear hcs hrl hsg hnd hcn hkn hlk HR HD HS HG
   go_wp2_with fail
   refine HCF.out.mono ?_
   rintro e w2 ⟨rfl,m1,m2⟩
   have HE2:=hide (HET.out w2 m1)
   have HB2:=hide (HB.out.trans m2)
   clear m1 m2 HCF HET HB
   go_wp2_with fail
   refine HE2.out.mono ?_
   rintro e w3 ⟨rfl,m1,m2⟩
   obtain⟨pa,bv,h0,_⟩:=m1
   obtain⟨go,oc,kp,km,kc,fp,b0,k3,hkat⟩:=root_facts h0
   have HK:Hid (BuildEnd w w3 l (.slice kp km kc) 0/\Below w.heap.size w w3):=hide (by
    refine⟨⟨fun e=>absurd (HT.out.symm.trans e) (by simp),?_⟩,HB2.out.trans m2⟩
    intro ns e
    rw[HT.out,HTR.out] at e
    cases e
    exact⟨rfl,fp,hkat⟩)
   clear h0 m2 hkat HE2 HB2 HT HTR
   go_wp2_with fail
   try rw[Exit.noGoto_ret]
   go_ret2
   exact⟨_,_,rfl,HK.out⟩
  | e :: rest,hjk,HD,ht,HR =>
   have hjN:j < N:=by simp only[List.length_cons] at hjk;omega
   have hge:l[j]?=some e:=by
    obtain⟨d,e1,e2⟩:=HD.out
    rw[e1,<-e2,List.getElem?_append_right (Nat.le_refl _),Nat.sub_self]
    rfl
   have hmem:e∈l:=List.mem_of_getElem? hge
   obtain⟨g,off,hp,x0,x1,x2,x3,x4⟩:=HC.out j e hge
   subst hp
   obtain⟨⟨kind,name,attrs,text⟩,⟨ap,am,ac⟩,cl⟩:=e
   simp only[] at x0 x1 x2 x3 x4
   have x0:=cell_keep x0 HB.out
   have x1:=cell_keep x1 HB.out
   have x2:=cell_keep x2 HB.out
   have x3:=cell_keep x3 HB.out
   have x4:=cell_keep x4 HB.out
   have hnl:=HNM.out _ hmem
   have hcl:=(HCL.out _ hmem).on HB.out
   simp only[] at hnl hcl
   have ht2:s.t.length+(text.length+textSum rest)<=100000000:=ht
   obtain⟨XN,hXN⟩:∃ X:ByteArray,X=⟨name.toArray⟩:=⟨_,rfl⟩
   obtain⟨XT,hXT⟩:∃ X:ByteArray,X=⟨text.toArray⟩:=⟨_,rfl⟩
   have hbn:bl XN=name:=by rw[hXN]
   have hbt:bl XT=text:=by rw[hXT]
   have hsn:XN.size=name.length:=by rw[hXN];rfl
   have hst:XT.size=text.length:=by rw[hXT];rfl
   rw[<-hXN] at x1
   rw[<-hXT] at x4
   obtain⟨w2,hw2⟩:∃ w2,w2=wr.alloc (.cells #[.int .i64 kind,.string XN,.slice ap am ac,.bool cl,.string XT] 45):=⟨_,rfl⟩
   have hb2:Below wr.heap.size wr w2:=by rw[hw2];exact (Below.refl _ _).alloc (Nat.le_refl _) _
   have hb2w:Below w.heap.size wr w2:=hb2.mono HS.out.base
   have y0:w2.cell? ⟨wr.heap.size,0,none⟩=some (.int .i64 kind):=by rw[hw2,new_cell];rfl
   have y1:w2.cell? ⟨wr.heap.size,1,none⟩=some (.string XN):=by rw[hw2,new_cell];rfl
   have y2:w2.cell? ⟨wr.heap.size,2,none⟩=some (.slice ap am ac):=by rw[hw2,new_cell];rfl
   have y3:w2.cell? ⟨wr.heap.size,3,none⟩=some (.bool cl):=by rw[hw2,new_cell];rfl
   have y4:w2.cell? ⟨wr.heap.size,4,none⟩=some (.string XT):=by rw[hw2,new_cell];rfl
   have HTK:=hide (take_st w2 w.heap.size (w.heap.size+1) s kind XN XT cl ap am ac attrs (St.under HS.out hb2) HG.out (by omega) (by omega) (by omega) (by omega) (hcl.on hb2w))
   have HB2:=hide (HB.out.trans hb2w)
   have HTG:=hide (take_good HG.out ⟨kind,name,attrs,text⟩)
   have HTO:=hide (take_o HG.out ⟨kind,name,attrs,text⟩)
   have HST:=hide (fun hh=>build_step HR.out hh)
   have HNO:=hide (fun hh=>build_none HR.out hh)
   rw[hbn,hbt] at HTK
   have HD2:Hid (∃ d,l=d++rest/\d.length=j+1):=hide (by
    obtain⟨d,e1,e2⟩:=HD.out
    exact⟨d++[(⟨kind,name,attrs,text⟩,(ap,am,ac),cl)],by rw[e1];simp,by simp[e2]⟩)
   simp only[] at HST HNO
   obtain⟨s2,hs2⟩:∃ s2,s2=takeB ⟨kind,name,attrs,text⟩ s:=⟨_,rfl⟩
   rw[<-hs2] at HTK HTG HTO HST HNO
   have hjk2:j+(rest.length+1)=N:=hjk
   have HT2:Hid (s2.t.length+textSum rest<=100000000):=hide (by have:=HTG.out.2;simp only[] at this;omega)
   have hs2o:=HTO.out
   clear hcl hnl hmem hge HD HR HS hb2 hb2w HB hcs hrl HTO hs2 hbn hbt hXN hXT hsn hst ht ht2 hjk
   go_upto_region 5 with fail
   rw[<-hw2]
   clear hw2 x0 x1 x2 x3 x4
   go_wp2_with fail
   refine HTK.out.mono ?_
   rintro e w3 ⟨rfl,m1,m2⟩
   have HS3:=hide m1
   have HB3:=hide (HB2.out.trans m2)
   clear m1 m2 HTK HB2 y0 y1 y2 y3 y4
   go_wp2_with fail
   obtain⟨pa,bv,h0,hw⟩:=HS3.out
   obtain⟨ov,hB⟩:=h0.bb
   have c3:w3.drew.cell? ⟨w.heap.size+1,3,none⟩=some (.int .i64 (s2.o:Int)):=tag_cell hB 3 _ rfl
   have c4:w3.drew.cell? ⟨w.heap.size+1,4,none⟩=some (.int .i64 (s2.n:Int)):=tag_cell hB 4 _ rfl
   have hbd:Below w3.heap.size w3 w3.drew:=bel_one _
   have HB3d:=hide (HB3.out.trans (hbd.mono HS3.out.base))
   have HS3d:Hid (SB w3.drew w.heap.size (w.heap.size+1) s2):=hide (St.under HS3.out hbd)
   have HSZ:=hide HS3d.out.base
   clear h0 hw hB HB3 HS3 hbd
   refine wp_region_any (by kernel_rfl) ?_
   try (change wpAny _ _ _ _ _ _ _ (World.drew _))
   refine wpT 0 (.pointer (some ⟨w.heap.size+1,0,none⟩)) rfl ?_
   refine wpT 1 (.pointer (some ⟨w.heap.size+1,0,none⟩)) rfl ?_
   refine wpT 2 (.pointer (some ⟨w.heap.size+1,3,none⟩)) rfl ?_
   refine wpT 4 (.pointer (some ⟨w.heap.size+1,0,none⟩)) rfl ?_
   refine wpT 5 (.pointer (some ⟨w.heap.size+1,0,none⟩)) rfl ?_
   refine wpT 6 (.pointer (some ⟨w.heap.size+1,3,none⟩)) rfl ?_
   refine wpAny_ready (rs:=[3,7]) (by kernel_rfl) (by simp) ?_
   refine AllReady.cons rfl (fun K hK=>?_) (AllReady.cons rfl (fun K hK=>?_) AllReady.nil)
   ·go_simp
    go_wp2_with fail
    refine wpAny_ready (rs:=[7]) (by kernel_rfl) (by simp) ?_
    refine AllReady.cons rfl (fun K hK=>?_) AllReady.nil
    go_simp
    go_wp2_with fail
    refine wpAny_ready (rs:=[8]) (by kernel_rfl) (by simp) ?_
    refine AllReady.cons rfl (fun K hK=>?_) AllReady.nil
    go_simp
    go_wp2_with fail
    refine (capped_any s2.o s2.n _).mono ?_
    rintro e w4 ⟨rfl,hb4⟩
    have c3:=cell_keep c3 hb4
    have c4:=cell_keep c4 hb4
    have HB4:=hide (HB3d.out.trans (hb4.mono HSZ.out))
    have HS4:Hid (SB w4 w.heap.size (w.heap.size+1) s2):=hide (St.under HS3d.out hb4)
    clear hb4 HB3d HS3d HSZ
    go_wp2_with fail
    refine wpAny_ready (rs:=[9]) (by kernel_rfl) (by simp) ?_
    refine AllReady.cons rfl (fun K hK=>?_) AllReady.nil
    go_simp
    by_cases hcap:s2.o<=64/\s2.n<=2000
    ·rw[if_pos (show (s2.o:Int)=min (s2.o:Int) 64 by omega),if_pos (show (s2.n:Int)=min (s2.n:Int) 2000 by omega)]
     rw[Oper.upon_value]
     refine hK _ _ ?_
     clear hK K
     refine wpAny_done (by kernel_rfl) ?_ _
     go_wp2_with fail
     go_roundg rest.length
     case measure=>simp only[List.length_cons];omega
     case rel=>exact⟨j+1,rest,s2,rfl,by first | rfl | simp,by omega,HD2,HS4,HB4,hide HTG.out.1,hcap.1,hcap.2,HT2.out,hide (HST.out hcap)⟩
    ·rw[show (if (s2.o:Int)=min (s2.o:Int) 64 then if (s2.n:Int)=min (s2.n:Int) 2000 then Result.ok (Next.value (Value.bool false)) w4 else Result.ok (Next.value (Value.bool true)) w4 else Result.ok (Next.value (Value.bool true)) w4)=Result.ok (Next.value (Value.bool true)) w4 by
      split
      ·split
       ·exact absurd (show s2.o<=64/\s2.n<=2000 by omega) hcap
       ·rfl
      ·rfl]
     rw[Oper.upon_value]
     refine hK _ _ ?_
     clear hK K
     refine wpAny_done (by kernel_rfl) ?_ _
     have HX:=hide (HNO.out hcap)
     go_wp2_with fail
     try rw[Exit.noGoto_ret]
     go_ret2
     exact⟨_,_,rfl,⟨fun _=>⟨rfl,rfl⟩,fun ns e=>absurd (HX.out.symm.trans e) (by simp)⟩,HB4.out⟩
   ·go_simp
    go_wp2_with fail
    refine wpAny_ready (rs:=[3,8]) (by kernel_rfl) (by simp) ?_
    refine AllReady.cons rfl (fun K hK=>?_) (AllReady.cons rfl (fun K hK=>?_) AllReady.nil)
    ·go_simp
     go_wp2_with fail
     refine wpAny_ready (rs:=[8]) (by kernel_rfl) (by simp) ?_
     refine AllReady.cons rfl (fun K hK=>?_) AllReady.nil
     go_simp
     go_wp2_with fail
     refine (capped_any s2.o s2.n _).mono ?_
     rintro e w4 ⟨rfl,hb4⟩
     have c3:=cell_keep c3 hb4
     have c4:=cell_keep c4 hb4
     have HB4:=hide (HB3d.out.trans (hb4.mono HSZ.out))
     have HS4:Hid (SB w4 w.heap.size (w.heap.size+1) s2):=hide (St.under HS3d.out hb4)
     clear hb4 HB3d HS3d HSZ
     go_wp2_with fail
     refine wpAny_ready (rs:=[9]) (by kernel_rfl) (by simp) ?_
     refine AllReady.cons rfl (fun K hK=>?_) AllReady.nil
     go_simp
     by_cases hcap:s2.o<=64/\s2.n<=2000
     ·rw[if_pos (show (s2.o:Int)=min (s2.o:Int) 64 by omega),if_pos (show (s2.n:Int)=min (s2.n:Int) 2000 by omega)]
      rw[Oper.upon_value]
      refine hK _ _ ?_
      clear hK K
      refine wpAny_done (by kernel_rfl) ?_ _
      go_wp2_with fail
      go_roundg rest.length
      case measure=>simp only[List.length_cons];omega
      case rel=>exact⟨j+1,rest,s2,rfl,by first | rfl | simp,by omega,HD2,HS4,HB4,hide HTG.out.1,hcap.1,hcap.2,HT2.out,hide (HST.out hcap)⟩
     ·rw[show (if (s2.o:Int)=min (s2.o:Int) 64 then if (s2.n:Int)=min (s2.n:Int) 2000 then Result.ok (Next.value (Value.bool false)) w4 else Result.ok (Next.value (Value.bool true)) w4 else Result.ok (Next.value (Value.bool true)) w4)=Result.ok (Next.value (Value.bool true)) w4 by
       split
       ·split
        ·exact absurd (show s2.o<=64/\s2.n<=2000 by omega) hcap
        ·rfl
       ·rfl]
      rw[Oper.upon_value]
      refine hK _ _ ?_
      clear hK K
      refine wpAny_done (by kernel_rfl) ?_ _
      have HX:=hide (HNO.out hcap)
      go_wp2_with fail
      try rw[Exit.noGoto_ret]
      go_ret2
      exact⟨_,_,rfl,⟨fun _=>⟨rfl,rfl⟩,fun ns e=>absurd (HX.out.symm.trans e) (by simp)⟩,HB4.out⟩
    ·go_simp
     go_wp2_with fail
     refine (capped_any s2.o s2.n _).mono ?_
     rintro e w4 ⟨rfl,hb4⟩
     have c3:=cell_keep c3 hb4
     have c4:=cell_keep c4 hb4
     have HB4:=hide (HB3d.out.trans (hb4.mono HSZ.out))
     have HS4:Hid (SB w4 w.heap.size (w.heap.size+1) s2):=hide (St.under HS3d.out hb4)
     clear hb4 HB3d HS3d HSZ
     go_wp2_with fail
     refine wpAny_ready (rs:=[3]) (by kernel_rfl) (by simp) ?_
     refine AllReady.cons rfl (fun K hK=>?_) AllReady.nil
     go_simp
     go_wp2_with fail
     refine wpAny_ready (rs:=[9]) (by kernel_rfl) (by simp) ?_
     refine AllReady.cons rfl (fun K hK=>?_) AllReady.nil
     go_simp
     by_cases hcap:s2.o<=64/\s2.n<=2000
     ·rw[if_pos (show (s2.o:Int)=min (s2.o:Int) 64 by omega),if_pos (show (s2.n:Int)=min (s2.n:Int) 2000 by omega)]
      rw[Oper.upon_value]
      refine hK _ _ ?_
      clear hK K
      refine wpAny_done (by kernel_rfl) ?_ _
      go_wp2_with fail
      go_roundg rest.length
      case measure=>simp only[List.length_cons];omega
      case rel=>exact⟨j+1,rest,s2,rfl,by first | rfl | simp,by omega,HD2,HS4,HB4,hide HTG.out.1,hcap.1,hcap.2,HT2.out,hide (HST.out hcap)⟩
     ·rw[show (if (s2.o:Int)=min (s2.o:Int) 64 then if (s2.n:Int)=min (s2.n:Int) 2000 then Result.ok (Next.value (Value.bool false)) w4 else Result.ok (Next.value (Value.bool true)) w4 else Result.ok (Next.value (Value.bool true)) w4)=Result.ok (Next.value (Value.bool true)) w4 by
       split
       ·split
        ·exact absurd (show s2.o<=64/\s2.n<=2000 by omega) hcap
        ·rfl
       ·rfl]
      rw[Oper.upon_value]
      refine hK _ _ ?_
      clear hK K
      refine wpAny_done (by kernel_rfl) ?_ _
      have HX:=hide (HNO.out hcap)
      go_wp2_with fail
      try rw[Exit.noGoto_ret]
      go_ret2
      exact⟨_,_,rfl,⟨fun _=>⟨rfl,rfl⟩,fun ns e=>absurd (HX.out.symm.trans e) (by simp)⟩,HB4.out⟩
end Go.Proofs.YtkiofbikkhhdfabGreatDoor.Dm
namespace Go.Proofs.YtkiofbikkhhdfabGreatDoor.Dm
open Go.RowKit
open Utf1
def AttrRow (w:World) (p:Option Addr) (m:Nat) (at':List (List UInt8 × List UInt8)):Prop:=m=at'.length/\∀ i kv,at'[i]?=some kv->∃ b off,p=some ⟨b,off,none⟩/\w.cell? ⟨b,off+i*2,none⟩=some (.string ⟨kv.1.toArray⟩)/\w.cell? ⟨b,off+i*2+1,none⟩=some (.string ⟨kv.2.toArray⟩)/\kv.1.length<=281474976710656/\kv.2.length<=281474976710656
theorem infoAttr:(Tryz.prog.info? 108).map (fun i=>(i.zero,i.size,i.bytes))=some (some (.agg #[.string ⟨#[]⟩,.string ⟨#[]⟩]),2,32):=by kernel_rfl
theorem five_newA (w:World) (A:Array Value) (ty:TypeId):∀ j u,A.toList[j]?=some u->(w.alloc (.cells A ty)).cell? ((⟨w.heap.size,0,none⟩:Addr).add j)=some u:=by
 intro j u h
 have:(⟨w.heap.size,0,none⟩:Addr).add j=⟨w.heap.size,j,none⟩:=by
  simp[Addr.add]
  exact Eq.symm
 rw[this,new_cell,<-Array.getElem?_toList]
 exact h
theorem attr_one (a b:ByteArray):∀ u∈[Value.string a,.string b],u.oneCell'=true:=by
 intro u hu
 simp only[List.mem_cons,List.not_mem_nil,or_false] at hu
 rcases hu with rfl | rfl <;> rfl
theorem clone_attrs (w wx:World) (p:Option Addr) (m c:Nat) (at':List (List UInt8 × List UInt8))(h:AttrRow w p m at')(hm:m<=1000000)(hb:Below w.heap.size w wx) :
  Calls Tryz.prog 110 #[.slice p m c] wx fun e w'=>∃ ap am ac,e=.returned (.slice ap am ac)/\w'.ownsRow wx.heap.size 108 2 (.slice ap am ac) at'.length (attrCells at')/\Below wx.heap.size wx w':=by
 obtain⟨hml,hcell⟩:=h
 have HC:=hide hcell
 have HML:=hide hml
 have HBX:=hide hb
 obtain⟨i0,hi,hz0,hz1,hz2'⟩:=info_parts infoAttr
 clear hcell hml hb
 go_enter Tryz.func110,Tryz.ntmps110
 go_wp2_with fail
 go_loopg [3,8] m (fun k v3 v8 wr=>∃ i:Nat,i+k=m/\v8=.int .i64 (i:Int)/\(∃ p m c,v3=.slice p m c)/\Hid (wr.ownsRow wx.heap.size 108 2 v3 i (attrCells (at'.take i)))/\Hid (Below wx.heap.size wx wr))
 case atStart=>exact⟨0,by omega,rfl,⟨_,_,_,rfl⟩,hide (World.ownsRow_nil _ _ _ _),hide (Below.refl _ _)⟩
 case round =>
  obtain⟨i,hik,rfl,⟨q,n,c2,rfl⟩,HO,HB⟩:=hrel
  by_cases hlt:i < m
  ·have hd:decide ((i:Int) < (m:Int))=true:=decide_eq_true (by omega)
   have hlt':i < at'.length:=by rw[<-HML.out];exact hlt
   have hge:at'[i]?=some at'[i]:=List.getElem?_eq_getElem hlt'
   generalize at'[i]=pr at hge
   obtain⟨kn,kv⟩:=pr
   obtain⟨b,off,rfl,x0,x1,hl0,hl1⟩:=HC.out i _ hge
   have hbr:=HBX.out.trans (HB.out.mono HBX.out.size)
   replace x0:=cell_keep x0 hbr
   replace x1:=cell_keep x1 hbr
   obtain⟨XN,hXN⟩:∃ X:ByteArray,X=⟨kn.toArray⟩:=⟨_,rfl⟩
   obtain⟨XV,hXV⟩:∃ X:ByteArray,X=⟨kv.toArray⟩:=⟨_,rfl⟩
   simp only[] at x0 x1 hl0 hl1
   rw[<-hXN] at x0
   rw[<-hXV] at x1
   have hs0:XN.size<=281474976710656:=by rw[hXN];exact hl0
   have hs1:XV.size<=281474976710656:=by rw[hXV];exact hl1
   have HTK:Hid (at'.take (i+1)=at'.take i++[(kn,kv)]):=hide (by rw[List.take_add_one,hge];rfl)
   have hzw:wx.heap.size<=wr.heap.size:=HB.out.size
   obtain⟨w2,hw2⟩:∃ w2,w2=wr.alloc (.cells #[.string XN,.string XV] 108):=⟨_,rfl⟩
   have hb2:Below wr.heap.size wr w2:=by rw[hw2];exact (Below.refl _ _).alloc (Nat.le_refl _) _
   have y0:w2.cell? ⟨wr.heap.size,0,none⟩=some (.string XN):=by rw[hw2,new_cell];rfl
   have y1:w2.cell? ⟨wr.heap.size,1,none⟩=some (.string XV):=by rw[hw2,new_cell];rfl
   have hbd:Below w2.heap.size w2 w2.drew:=bel_one _
   replace y0:=cell_keep y0 hbd
   replace y1:=cell_keep y1 hbd
   have HO2:=hide (own_below (own_below HO.out hb2) hbd)
   have hz2:wx.heap.size<=w2.drew.heap.size:=Nat.le_trans hzw (Nat.le_trans hb2.size hbd.size)
   have HB2:=hide ((HB.out.trans (hb2.mono hzw)).trans (hbd.mono (Nat.le_trans hzw hb2.size)))
   have HXN:=hide hXN
   have HXV:=hide hXV
   clear hge hbr HO HB hb2 hbd hl0 hl1 hXN hXV
   go_upto_region 5 with fail
   rw[<-hw2]
   clear hw2 x0 x1
   refine wp_region_any (by kernel_rfl) ?_
   try (change wpAny _ _ _ _ _ _ _ (World.drew _))
   refine wpT 0 (.slice q n c2) rfl ?_
   refine wpT 1 (.pointer (some ⟨wr.heap.size,0,none⟩)) rfl ?_
   refine wpT 4 (.pointer (some ⟨wr.heap.size,1,none⟩)) rfl ?_
   refine wpAny_ready (rs:=[2,5]) (by kernel_rfl) (by simp) ?_
   refine AllReady.cons rfl (fun K hK=>?_) (AllReady.cons rfl (fun K hK=>?_) AllReady.nil)
   ·go_simp
    go_wp2_with fail
    refine wpAny_ready (rs:=[3,5]) (by kernel_rfl) (by simp) ?_
    refine AllReady.cons rfl (fun K hK=>?_) (AllReady.cons rfl (fun K hK=>?_) AllReady.nil)
    ·go_simp
     go_wp2_with fail
     refine (clone_any XN _ (by omega)).mono ?_
     rintro e wn ⟨rfl,hbn⟩
     replace y0:=cell_keep y0 hbn
     replace y1:=cell_keep y1 hbn
     replace HO2:=hide (own_below HO2.out hbn)
     replace HB2:=hide (HB2.out.trans (hbn.mono hz2))
     replace hz2:=Nat.le_trans hz2 hbn.size
     clear hbn
     go_wp2_with fail
     refine wpAny_ready (rs:=[5]) (by kernel_rfl) (by simp) ?_
     refine AllReady.cons rfl (fun K hK=>?_) AllReady.nil
     go_simp
     go_wp2_with fail
     refine wpAny_ready (rs:=[6]) (by kernel_rfl) (by simp) ?_
     refine AllReady.cons rfl (fun K hK=>?_) AllReady.nil
     go_simp
     go_wp2_with fail
     refine (clone_any XV _ (by omega)).mono ?_
     rintro e wn ⟨rfl,hbn⟩
     replace y0:=cell_keep y0 hbn
     replace y1:=cell_keep y1 hbn
     replace HO2:=hide (own_below HO2.out hbn)
     replace HB2:=hide (HB2.out.trans (hbn.mono hz2))
     replace hz2:=Nat.le_trans hz2 hbn.size
     clear hbn
     go_wp2_with fail
     refine wpT 7 (.agg #[.string XN,.string XV]) rfl ?_
     refine wpAny_ready (rs:=[8]) (by kernel_rfl) (by simp) ?_
     refine AllReady.cons rfl (fun K hK=>?_) AllReady.nil
     go_simp
     go_wp2_with fail
     have hal:Below wn.heap.size wn (wn.alloc (.cells #[.string XN,.string XV] 108)):=(Below.refl _ _).alloc (Nat.le_refl _) _
     have HO3:=hide (own_below HO2.out hal)
     have HB3:=hide (HB2.out.alloc hz2 (.cells #[.string XN,.string XV] 108))
     clear hal
     refine wpAny_ready (rs:=[9]) (by kernel_rfl) (by simp) ?_
     refine AllReady.cons rfl (fun K hK=>?_) AllReady.nil
     rw[if_pos (by rfl)]
     refine wp_append_own _ (.tmp 12) (.tmp 20) 43 rfl wx.heap.size 108 i0 _ 2 32 Tryz.underlying43 hi hz0 hz1 hz2' rfl (by decide) (.slice q n c2) i (attrCells (at'.take i)) rfl HO3.out ⟨wn.heap.size,0,none⟩ 1 1 [.string XN,.string XV] rfl rfl (five_newA wn _ _) (attr_one _ _) (by unfold maxLen;omega) (by omega) (by simp;omega) ?_
     intro v' w5 hown5 hgr5 _
     obtain⟨bp,bm,bc,rfl⟩:=own_slice hown5
     have HB5:=hide (HB3.out.grown hgr5 (by simp;omega) (fun j hj=>(HO3.out.lt j hj).1))
     have HO5:Hid (w5.ownsRow wx.heap.size 108 2 (.slice bp bm bc) (i+1) (attrCells (at'.take (i+1)))):=hide (by
      rw[HTK.out,attrCells_app]
      have e:attrCells [(kn,kv)]=[.string XN,.string XV]:=by rw[HXN.out,HXV.out];rfl
      rw[e]
      exact hown5)
     clear hown5 hgr5 HO2 HB2 HO3 HB3 y0 y1
     refine hK _ _ ?_
     clear hK K
     refine wpAny_ready (rs:=[10]) (by kernel_rfl) (by simp) ?_
     refine AllReady.cons rfl (fun K hK=>?_) AllReady.nil
     go_simp
     go_wp2_with fail
     refine wpAny_done (by kernel_rfl) ?_ _
     go_wp2_with fail
     go_roundg (gk - 1)
     case measure=>omega
     case rel=>exact⟨i+1,by omega,by first | rfl | simp,⟨_,_,_,rfl⟩,HO5,HB5⟩
    ·go_simp
     go_wp2_with fail
     refine wpAny_ready (rs:=[3]) (by kernel_rfl) (by simp) ?_
     refine AllReady.cons rfl (fun K hK=>?_) AllReady.nil
     go_simp
     go_wp2_with fail
     refine (clone_any XN _ (by omega)).mono ?_
     rintro e wn ⟨rfl,hbn⟩
     replace y0:=cell_keep y0 hbn
     replace y1:=cell_keep y1 hbn
     replace HO2:=hide (own_below HO2.out hbn)
     replace HB2:=hide (HB2.out.trans (hbn.mono hz2))
     replace hz2:=Nat.le_trans hz2 hbn.size
     clear hbn
     go_wp2_with fail
     refine wpAny_ready (rs:=[6]) (by kernel_rfl) (by simp) ?_
     refine AllReady.cons rfl (fun K hK=>?_) AllReady.nil
     go_simp
     go_wp2_with fail
     refine (clone_any XV _ (by omega)).mono ?_
     rintro e wn ⟨rfl,hbn⟩
     replace y0:=cell_keep y0 hbn
     replace y1:=cell_keep y1 hbn
     replace HO2:=hide (own_below HO2.out hbn)
     replace HB2:=hide (HB2.out.trans (hbn.mono hz2))
     replace hz2:=Nat.le_trans hz2 hbn.size
     clear hbn
     go_wp2_with fail
     refine wpT 7 (.agg #[.string XN,.string XV]) rfl ?_
     refine wpAny_ready (rs:=[8]) (by kernel_rfl) (by simp) ?_
     refine AllReady.cons rfl (fun K hK=>?_) AllReady.nil
     go_simp
     go_wp2_with fail
     have hal:Below wn.heap.size wn (wn.alloc (.cells #[.string XN,.string XV] 108)):=(Below.refl _ _).alloc (Nat.le_refl _) _
     have HO3:=hide (own_below HO2.out hal)
     have HB3:=hide (HB2.out.alloc hz2 (.cells #[.string XN,.string XV] 108))
     clear hal
     refine wpAny_ready (rs:=[9]) (by kernel_rfl) (by simp) ?_
     refine AllReady.cons rfl (fun K hK=>?_) AllReady.nil
     rw[if_pos (by rfl)]
     refine wp_append_own _ (.tmp 12) (.tmp 20) 43 rfl wx.heap.size 108 i0 _ 2 32 Tryz.underlying43 hi hz0 hz1 hz2' rfl (by decide) (.slice q n c2) i (attrCells (at'.take i)) rfl HO3.out ⟨wn.heap.size,0,none⟩ 1 1 [.string XN,.string XV] rfl rfl (five_newA wn _ _) (attr_one _ _) (by unfold maxLen;omega) (by omega) (by simp;omega) ?_
     intro v' w5 hown5 hgr5 _
     obtain⟨bp,bm,bc,rfl⟩:=own_slice hown5
     have HB5:=hide (HB3.out.grown hgr5 (by simp;omega) (fun j hj=>(HO3.out.lt j hj).1))
     have HO5:Hid (w5.ownsRow wx.heap.size 108 2 (.slice bp bm bc) (i+1) (attrCells (at'.take (i+1)))):=hide (by
      rw[HTK.out,attrCells_app]
      have e:attrCells [(kn,kv)]=[.string XN,.string XV]:=by rw[HXN.out,HXV.out];rfl
      rw[e]
      exact hown5)
     clear hown5 hgr5 HO2 HB2 HO3 HB3 y0 y1
     refine hK _ _ ?_
     clear hK K
     refine wpAny_ready (rs:=[10]) (by kernel_rfl) (by simp) ?_
     refine AllReady.cons rfl (fun K hK=>?_) AllReady.nil
     go_simp
     go_wp2_with fail
     refine wpAny_done (by kernel_rfl) ?_ _
     go_wp2_with fail
     go_roundg (gk - 1)
     case measure=>omega
     case rel=>exact⟨i+1,by omega,by first | rfl | simp,⟨_,_,_,rfl⟩,HO5,HB5⟩
   ·go_simp
    go_wp2_with fail
    refine wpAny_ready (rs:=[2]) (by kernel_rfl) (by simp) ?_
    refine AllReady.cons rfl (fun K hK=>?_) AllReady.nil
    go_simp
    go_wp2_with fail
    refine wpAny_ready (rs:=[3]) (by kernel_rfl) (by simp) ?_
    refine AllReady.cons rfl (fun K hK=>?_) AllReady.nil
    go_simp
    go_wp2_with fail
    refine (clone_any XN _ (by omega)).mono ?_
    rintro e wn ⟨rfl,hbn⟩
    replace y0:=cell_keep y0 hbn
    replace y1:=cell_keep y1 hbn
    replace HO2:=hide (own_below HO2.out hbn)
    replace HB2:=hide (HB2.out.trans (hbn.mono hz2))
    replace hz2:=Nat.le_trans hz2 hbn.size
    clear hbn
    go_wp2_with fail
    refine wpAny_ready (rs:=[6]) (by kernel_rfl) (by simp) ?_
    refine AllReady.cons rfl (fun K hK=>?_) AllReady.nil
    go_simp
    go_wp2_with fail
    refine (clone_any XV _ (by omega)).mono ?_
    rintro e wn ⟨rfl,hbn⟩
    replace y0:=cell_keep y0 hbn
    replace y1:=cell_keep y1 hbn
    replace HO2:=hide (own_below HO2.out hbn)
    replace HB2:=hide (HB2.out.trans (hbn.mono hz2))
    replace hz2:=Nat.le_trans hz2 hbn.size
    clear hbn
    go_wp2_with fail
    refine wpT 7 (.agg #[.string XN,.string XV]) rfl ?_
    refine wpAny_ready (rs:=[8]) (by kernel_rfl) (by simp) ?_
    refine AllReady.cons rfl (fun K hK=>?_) AllReady.nil
    go_simp
    go_wp2_with fail
    have hal:Below wn.heap.size wn (wn.alloc (.cells #[.string XN,.string XV] 108)):=(Below.refl _ _).alloc (Nat.le_refl _) _
    have HO3:=hide (own_below HO2.out hal)
    have HB3:=hide (HB2.out.alloc hz2 (.cells #[.string XN,.string XV] 108))
    clear hal
    refine wpAny_ready (rs:=[9]) (by kernel_rfl) (by simp) ?_
    refine AllReady.cons rfl (fun K hK=>?_) AllReady.nil
    rw[if_pos (by rfl)]
    refine wp_append_own _ (.tmp 12) (.tmp 20) 43 rfl wx.heap.size 108 i0 _ 2 32 Tryz.underlying43 hi hz0 hz1 hz2' rfl (by decide) (.slice q n c2) i (attrCells (at'.take i)) rfl HO3.out ⟨wn.heap.size,0,none⟩ 1 1 [.string XN,.string XV] rfl rfl (five_newA wn _ _) (attr_one _ _) (by unfold maxLen;omega) (by omega) (by simp;omega) ?_
    intro v' w5 hown5 hgr5 _
    obtain⟨bp,bm,bc,rfl⟩:=own_slice hown5
    have HB5:=hide (HB3.out.grown hgr5 (by simp;omega) (fun j hj=>(HO3.out.lt j hj).1))
    have HO5:Hid (w5.ownsRow wx.heap.size 108 2 (.slice bp bm bc) (i+1) (attrCells (at'.take (i+1)))):=hide (by
     rw[HTK.out,attrCells_app]
     have e:attrCells [(kn,kv)]=[.string XN,.string XV]:=by rw[HXN.out,HXV.out];rfl
     rw[e]
     exact hown5)
    clear hown5 hgr5 HO2 HB2 HO3 HB3 y0 y1
    refine hK _ _ ?_
    clear hK K
    refine wpAny_ready (rs:=[10]) (by kernel_rfl) (by simp) ?_
    refine AllReady.cons rfl (fun K hK=>?_) AllReady.nil
    go_simp
    go_wp2_with fail
    refine wpAny_done (by kernel_rfl) ?_ _
    go_wp2_with fail
    go_roundg (gk - 1)
    case measure=>omega
    case rel=>exact⟨i+1,by omega,by first | rfl | simp,⟨_,_,_,rfl⟩,HO5,HB5⟩
  ·have hd:decide ((i:Int) < (m:Int))=false:=decide_eq_false (by omega)
   have e:i=m:=by omega
   subst e
   have HE:Hid (wr.ownsRow wx.heap.size 108 2 (.slice q n c2) at'.length (attrCells at')):=hide (by
    have h1:=HO.out
    rw[List.take_of_length_le (by rw[HML.out];exact Nat.le_refl _)] at h1
    rw[<-HML.out]
    exact h1)
   clear HO
   go_wp2_with fail
   go_ret
   exact⟨q,n,c2,rfl,HE.out,HB.out⟩
theorem own_low {w:World}{b b':Nat}{e:TypeId}{size:Nat}{v:Value}{n:Nat}{xs:List Value}(h:w.ownsRow b e size v n xs)(hb:b'<=b):w.ownsRow b' e size v n xs:=by
 obtain⟨h1,h2 | ⟨g,cap,cur,h3,h4,h5⟩⟩:=h
 ·exact⟨h1,.inl h2⟩
 ·exact⟨h1,.inr ⟨g,cap,cur,h3,Nat.le_trans hb h4,h5⟩⟩
theorem clones_any (w:World) (p:Option Addr) (m c:Nat) (at':List (List UInt8 × List UInt8))(h:AttrRow w p m at')(hm:m<=1000000):Clones w w.heap.size (.slice p m c) at':=by
 intro wx hb hbw
 refine (clone_attrs w wx p m c at' h hm hbw).mono ?_
 rintro e w' ⟨ap,am,ac,rfl,ho,hb'⟩
 exact⟨ap,am,ac,rfl,own_low ho hb,hb'⟩
end Go.Proofs.YtkiofbikkhhdfabGreatDoor.Dm
