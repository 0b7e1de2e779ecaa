import Derived.Test.YtkiofbikkhhdfabGreatDoorK13
import Derived.Deep.RegionWith
import Derived.Deep.Cut
import Derived.WalkMore
namespace Go.Proofs.YtkiofbikkhhdfabGreatDoor.Dm
open Go.RowKit
open Utf1
theorem wpAny_to {P:Program}{md:Region.Mode}{ops:Array Oper}{Q:Exit->Act->World->Prop}{i:Nat}{oi:Oper}{v:Value}{fuel:Nat}{listed:Array Bool}{a a':Act}{w:World}(hi:ops[i]?=some oi)
  (hs:Region.noSelect ops=true)(hf:Region.free md ops listed i=true)(hr:(Region.ready md ops listed).contains i=true)
  (hQ:∀ c a w,Q (.panic c) (a.put oi.dst v) w->Q (.panic c) a w)(hy:Yields P ops oi v a)(ha:a.put oi.dst v=a')
  (h:wpAny P md ops Q fuel (listed.setIfInBounds i true) a' w):wpAny P md ops Q (fuel+1) listed a w :=
 wpAny_take hi hs hf hr hQ hy (ha ▸ h)
theorem own_put {w:World}{base:Nat}{e:TypeId}{size g n cap:Nat}{xs:List Value}(h:w.ownsRow base e size (.slice (some ⟨g,0,none⟩) n cap) n xs) (j:Nat) (u:Value):(w.setCell ⟨g,j,none⟩ u).ownsRow base e size (.slice (some ⟨g,0,none⟩) n cap) n (xs.set j u):=by
 obtain⟨h1,⟨e1,_⟩ | ⟨g',cap',cur,e1,h2,h3,h4,h5,h6,h7⟩⟩:=h
 ·cases e1
 ·cases e1
  refine⟨by rw[List.length_set];exact h1,.inr ⟨g,cap,cur.setIfInBounds j u,rfl,h2,tok_set h3 j u,h4,h5,by simpa using h6,?_⟩⟩
  rw[Array.toList_setIfInBounds,List.take_set,h7]
theorem infoNode:(Tryz.prog.info? 80).map (fun i=>(i.zero,i.size,i.bytes))=some (some (.agg #[.string ⟨#[]⟩,.slice none 0 0,.string ⟨#[]⟩,.slice none 0 0]),4,80):=by kernel_rfl
theorem four_new (w:World) (a b c d:Value) (t:TypeId):∀ (j:Nat) (u:Value),[a,b,c,d][j]?=some u->(w.alloc (.cells #[a,b,c,d] t)).cell? ((⟨w.heap.size,0,none⟩:Addr).add j)=some u:=by
 intro j u hj
 match j,hj with
 | 0,hj=>simp at hj;subst hj;simp[Addr.add]
 | 1,hj=>simp at hj;subst hj;simp[Addr.add]
 | 2,hj=>simp at hj;subst hj;simp[Addr.add]
 | 3,hj=>simp at hj;subst hj;simp[Addr.add]
 | _+4,hj=>simp at hj
theorem zero_one:∀ u∈[Value.string ⟨#[]⟩,.slice none 0 0,.string ⟨#[]⟩,.slice none 0 0],u.oneCell'=true:=by
 intro u hu
 simp at hu
 rcases hu with rfl | rfl | rfl | rfl <;> rfl
def PutEnd (w w':World) (B base go oc:Nat) (pa bv x y:Value) (init:List (Nd × Value × Value)) (nd:Nd) (av kv:Value) (k:List (Nd × Value × Value)) (nm tx:ByteArray) (ap:Option Addr) (am ac:Nat) (cp:Option Addr) (cm cc:Nat) (kv':Value):Prop :=
 BB w' B (.slice (some ⟨go,0,none⟩) (init.length+1) oc) pa bv x y/\w'.ownsRow base 80 4 (.slice (some ⟨go,0,none⟩) (init.length+1) oc) (init.length+1) (ndCells (init++[(nd,av,kv')])) /\
 w'.ownsRow base 80 4 kv' (k.length+1) (ndCells k++[.string nm,.slice ap am ac,.string tx,.slice cp cm cc])/\(kv'.ownBlock=kv.ownBlock\/kv'.ownBlock=some w.heap.size)/\Stays w w' (go :: blk kv)/\Below base w w'
theorem set_four (a:List Value) (z0 z1 z2 z3 v0 v1 v2 v3:Value):((((a++[z0,z1,z2,z3]).set a.length v0).set (a.length+1) v1).set (a.length+2) v2).set (a.length+3) v3=a++[v0,v1,v2,v3]:=by
 induction a with
 | nil=>rfl
 | cons c t ih=>simp
theorem set_kids (init:List (Nd × Value × Value)) (nd:Nd) (av kv kv':Value):(ndCells (init++[(nd,av,kv)])).set (init.length*4+3) kv'=ndCells (init++[(nd,av,kv')]):=by
 rw[ndCells_app,ndCells_app,<-ndCells_len,List.set_append_right _ _ (Nat.le_add_right _ _),Nat.add_sub_cancel_left]
 rfl
theorem put_facts {w w5:World}{B base go oc:Nat}{pa bv x y:Value}{init:List (Nd × Value × Value)}{nd:Nd}{av v':Value}{kp:Option Addr}{km kc:Nat}{k:List (Nd × Value × Value)}
  {n0:Nat}{xs0:List Value}(hro:w.ownsRow base 80 4 (.slice (some ⟨go,0,none⟩) (init.length+1) oc) (init.length+1) (ndCells (init++[(nd,av,.slice kp km kc)])))(hrk:w.ownsRow base 80 4 (.slice kp km kc) n0 xs0)(h:BB w B (.slice (some ⟨go,0,none⟩) (init.length+1) oc) pa bv x y)
  (hown:w5.ownsRow base 80 4 v' (k.length+1) (ndCells k++[.string ⟨#[]⟩,.slice none 0 0,.string ⟨#[]⟩,.slice none 0 0]))(hgr:w.grownBy w5 (Value.slice kp km kc).ownBlock)(hfr:v'.ownBlock=(Value.slice kp km kc).ownBlock\/v'.ownBlock=some w.heap.size)
  (hne:(Value.slice kp km kc).ownBlock≠some go)(hgo:go < w.heap.size) (nm tx:ByteArray) (ap:Option Addr) (am ac:Nat) (cp:Option Addr) (cm cc:Nat) :
  ∃ g2 c2,v'=.slice (some ⟨g2,0,none⟩) (k.length+1) c2/\(g2≠go /\
   w5.cell? ⟨g2,k.length*4,none⟩=some (.string ⟨#[]⟩)/\w5.cell? ⟨g2,k.length*4+1,none⟩=some (.slice none 0 0)/\w5.cell? ⟨g2,k.length*4+2,none⟩=some (.string ⟨#[]⟩)/\w5.cell? ⟨g2,k.length*4+3,none⟩=some (.slice none 0 0) /\
   w5.frozen? ⟨g2,k.length*4,none⟩=false/\w5.frozen? ⟨g2,k.length*4+1,none⟩=false/\w5.frozen? ⟨g2,k.length*4+2,none⟩=false/\w5.frozen? ⟨g2,k.length*4+3,none⟩=false /\
   w5.cell? ⟨go,init.length*4+3,none⟩=some (.slice kp km kc)/\w5.frozen? ⟨go,init.length*4+3,none⟩=false /\
   PutEnd w (((((w5.setCell ⟨g2,k.length*4,none⟩ (.string nm)).setCell ⟨g2,k.length*4+1,none⟩ (.slice ap am ac)).setCell ⟨g2,k.length*4+2,none⟩ (.string tx)).setCell ⟨g2,k.length*4+3,none⟩ (.slice cp cm cc)).setCell ⟨go,init.length*4+3,none⟩ (.slice (some ⟨g2,0,none⟩) (k.length+1) c2)) B base go oc pa bv x y init nd av (.slice kp km kc) k nm tx ap am ac cp cm cc (.slice (some ⟨g2,0,none⟩) (k.length+1) c2) /\
   PutEnd w (((((w5.setCell ⟨go,init.length*4+3,none⟩ (.slice (some ⟨g2,0,none⟩) (k.length+1) c2)).setCell ⟨g2,k.length*4,none⟩ (.string nm)).setCell ⟨g2,k.length*4+1,none⟩ (.slice ap am ac)).setCell ⟨g2,k.length*4+2,none⟩ (.string tx)).setCell ⟨g2,k.length*4+3,none⟩ (.slice cp cm cc)) B base go oc pa bv x y init nd av (.slice kp km kc) k nm tx ap am ac cp cm cc (.slice (some ⟨g2,0,none⟩) (k.length+1) c2)):=by
 obtain⟨g2,c2,rfl,hcell⟩:=own_at hown (by omega)
 have hgg:g2≠go:=by
  rintro rfl
  rcases hfr with e | e
  ·exact hne e.symm
  ·have:g2=w.heap.size:=by simpa [Value.ownBlock] using e
   omega
 have hlen:=ndCells_len k
 have hat:∀ j,j < 4->w5.cell? ⟨g2,k.length*4+j,none⟩=[Value.string ⟨#[]⟩,.slice none 0 0,.string ⟨#[]⟩,.slice none 0 0][j]?:=by
  intro j hj
  rw[hcell _ (by omega),List.getElem?_append_right (by omega),hlen,Nat.add_sub_cancel_left]
 have hfrz:∀ (g:Nat) (n cap:Nat) (xs:List Value),w5.ownsRow base 80 4 (.slice (some ⟨g,0,none⟩) n cap) n xs->∀ j,w5.frozen? ⟨g,j,none⟩=false:=by
  intro g n cap xs ho j
  obtain⟨_,⟨e,_⟩ | ⟨g',cap',cur,e,_,hg,_⟩⟩:=ho
  ·cases e
  ·cases e
   exact tag_free hg j
 have hro5:w5.ownsRow base 80 4 (.slice (some ⟨go,0,none⟩) (init.length+1) oc) (init.length+1) (ndCells (init++[(nd,av,.slice kp km kc)])):=hro.kept hgr (.inr (fun e=>hne e.symm))
 have hBne:∀ (g n cap:Nat) (xs:List Value) (w:World),w.ownsRow base 80 4 (.slice (some ⟨g,0,none⟩) n cap) n xs->w.heap[B]?=some (.cells #[.slice (some ⟨go,0,none⟩) (init.length+1) oc,pa,bv,x,y] 75 (0,0))->g≠B:=by
  intro g n cap xs w ho hB e
  exact own_apart ho hB (by decide) (by rw[e];rfl)
 have hkB:(Value.slice kp km kc).ownBlock≠some B:=own_apart hrk h (by decide)
 have hB5:BB w5 B (.slice (some ⟨go,0,none⟩) (init.length+1) oc) pa bv x y:=(hgr.block _ (lt_of_block h) (fun e=>hkB e.symm)).trans h
 have n1:=hBne _ _ _ _ _ hro5 hB5
 have n2:=hBne _ _ _ _ _ hown hB5
 have o3:w5.cell? ⟨go,init.length*4+3,none⟩=some (.slice kp km kc):=by
  rw[hro5.cellAt (init.length*4+3) (by omega),ndCells_at _ init.length _ (by rw[List.getElem?_append_right (Nat.le_refl _),Nat.sub_self];rfl) 3 (by decide)]
  rfl
 have hog:(Value.slice (some ⟨go,0,none⟩) (init.length+1) oc).ownBlock≠some g2:=by
  intro e
  exact hgg (by simpa [Value.ownBlock] using e.symm)
 have hgo2:(Value.slice (some ⟨g2,0,none⟩) (k.length+1) c2).ownBlock≠some go:=by
  intro e
  exact hgg (by simpa [Value.ownBlock] using e)
 have hg2b:base<=g2:=(hown.lt g2 rfl).1
 have hgob:base<=go:=(hro.lt go rfl).1
 have hbel:Below base w w5:=(Below.refl base w).grown hgr (Nat.le_trans hgob (Nat.le_of_lt hgo)) (fun j hj=>(hrk.lt j hj).1)
 have hattr:∀ j∈go :: blk (.slice kp km kc),∀ cs fz,w.heap[j]?≠some (.cells cs 108 fz):=by
  intro j hj cs fz e
  rcases List.mem_cons.1 hj with rfl | hj
  ·exact own_apart hro e (by decide) rfl
  ·exact own_apart hrk e (by decide) (by unfold blk at hj;simpa using hj)
 have hout:∀ j,j < w.heap.size->j ∉ go :: blk (.slice kp km kc)->j≠go/\j≠g2/\w5.heap[j]?=w.heap[j]?:=by
  intro j hj hS
  have j1:j≠go:=fun e=>hS (by rw[e];exact List.mem_cons_self ..)
  have j2:(Value.slice kp km kc).ownBlock≠some j:=fun e=>hS (List.mem_cons_of_mem _ (by unfold blk;rw[e];simp))
  refine⟨j1,?_,hgr.block j hj (fun e=>j2 e.symm)⟩
  rintro rfl
  rcases hfr with e | e
  ·exact j2 e.symm
  ·have:j=w.heap.size:=by simpa [Value.ownBlock] using e
   omega
 refine⟨g2,c2,rfl,hgg,hat 0 (by decide),hat 1 (by decide),hat 2 (by decide),hat 3 (by decide),hfrz _ _ _ _ hown _,hfrz _ _ _ _ hown _,hfrz _ _ _ _ hown _,hfrz _ _ _ _ hown _,o3,hfrz _ _ _ _ hro5 _,?_,?_⟩
 ·refine⟨?_,?_,?_,hfr,⟨?_,?_,hattr⟩,?_⟩
  ·unfold BB
   rw[Below.heap_setCell _ _ _ _ (by simpa using Ne.symm n1),Below.heap_setCell _ _ _ _ (by simpa using Ne.symm n2),Below.heap_setCell _ _ _ _ (by simpa using Ne.symm n2),Below.heap_setCell _ _ _ _ (by simpa using Ne.symm n2),Below.heap_setCell _ _ _ _ (by simpa using Ne.symm n2)]
   exact hB5
  ·rw[<-set_kids init nd av (.slice kp km kc)]
   exact own_put (ownsRow_setCell_other (ownsRow_setCell_other (ownsRow_setCell_other (ownsRow_setCell_other hro5 (a:=⟨g2,k.length*4,none⟩) hog _) (a:=⟨g2,k.length*4+1,none⟩) hog _) (a:=⟨g2,k.length*4+2,none⟩) hog _) (a:=⟨g2,k.length*4+3,none⟩) hog _) _ _
  ·rw[<-set_four (ndCells k) (.string ⟨#[]⟩) (.slice none 0 0) (.string ⟨#[]⟩) (.slice none 0 0),hlen]
   exact ownsRow_setCell_other (own_put (own_put (own_put (own_put hown _ _) _ _) _ _) _ _) (a:=⟨go,init.length*4+3,none⟩) hgo2 _
  ·simpa using hgr.size
  ·intro j hj hS
   obtain⟨j1,j2,j3⟩:=hout j hj hS
   rw[Below.heap_setCell _ _ _ _ (by simpa using j1),Below.heap_setCell _ _ _ _ (by simpa using j2),Below.heap_setCell _ _ _ _ (by simpa using j2),Below.heap_setCell _ _ _ _ (by simpa using j2),Below.heap_setCell _ _ _ _ (by simpa using j2)]
   exact j3
  ·exact ((((hbel.setCell (p:=⟨g2,k.length*4,none⟩) hg2b _).setCell (p:=⟨g2,k.length*4+1,none⟩) hg2b _).setCell (p:=⟨g2,k.length*4+2,none⟩) hg2b _).setCell (p:=⟨g2,k.length*4+3,none⟩) hg2b _).setCell (p:=⟨go,init.length*4+3,none⟩) hgob _
 ·refine⟨?_,?_,?_,hfr,⟨?_,?_,hattr⟩,?_⟩
  ·unfold BB
   rw[Below.heap_setCell _ _ _ _ (by simpa using Ne.symm n2),Below.heap_setCell _ _ _ _ (by simpa using Ne.symm n2),Below.heap_setCell _ _ _ _ (by simpa using Ne.symm n2),Below.heap_setCell _ _ _ _ (by simpa using Ne.symm n2),Below.heap_setCell _ _ _ _ (by simpa using Ne.symm n1)]
   exact hB5
  ·rw[<-set_kids init nd av (.slice kp km kc)]
   exact ownsRow_setCell_other (ownsRow_setCell_other (ownsRow_setCell_other (ownsRow_setCell_other (own_put hro5 _ _) (a:=⟨g2,k.length*4,none⟩) hog _) (a:=⟨g2,k.length*4+1,none⟩) hog _) (a:=⟨g2,k.length*4+2,none⟩) hog _) (a:=⟨g2,k.length*4+3,none⟩) hog _
  ·rw[<-set_four (ndCells k) (.string ⟨#[]⟩) (.slice none 0 0) (.string ⟨#[]⟩) (.slice none 0 0),hlen]
   exact own_put (own_put (own_put (own_put (ownsRow_setCell_other hown (a:=⟨go,init.length*4+3,none⟩) hgo2 _) _ _) _ _) _ _) _ _
  ·simpa using hgr.size
  ·intro j hj hS
   obtain⟨j1,j2,j3⟩:=hout j hj hS
   rw[Below.heap_setCell _ _ _ _ (by simpa using j2),Below.heap_setCell _ _ _ _ (by simpa using j2),Below.heap_setCell _ _ _ _ (by simpa using j2),Below.heap_setCell _ _ _ _ (by simpa using j2),Below.heap_setCell _ _ _ _ (by simpa using j1)]
   exact j3
  ·exact ((((hbel.setCell (p:=⟨go,init.length*4+3,none⟩) hgob _).setCell (p:=⟨g2,k.length*4,none⟩) hg2b _).setCell (p:=⟨g2,k.length*4+1,none⟩) hg2b _).setCell (p:=⟨g2,k.length*4+2,none⟩) hg2b _).setCell (p:=⟨g2,k.length*4+3,none⟩) hg2b _
set_option maxRecDepth 100000 in
set_option maxHeartbeats 16000000 in
theorem put_any (w:World) (B base go oc:Nat) (pa bv x y:Value) (init:List (Nd × Value × Value)) (nd:Nd) (av:Value) (kp:Option Addr) (km kc:Nat) (k:List (Nd × Value × Value)) (nm tx:ByteArray) (ap:Option Addr) (am ac:Nat) (cp:Option Addr) (cm cc:Nat)
  (h:BB w B (.slice (some ⟨go,0,none⟩) (init.length+1) oc) pa bv x y)(hro:w.ownsRow base 80 4 (.slice (some ⟨go,0,none⟩) (init.length+1) oc) (init.length+1) (ndCells (init++[(nd,av,.slice kp km kc)])))
  (hrk:w.ownsRow base 80 4 (.slice kp km kc) k.length (ndCells k))(hne:(Value.slice kp km kc).ownBlock≠some go)(hk:k.length<=100000)(hil:init.length<=100000)(hbB:base<=B)(hbw:base<=w.heap.size) :
  Calls Tryz.prog 81 #[.pointer (some ⟨B,0,none⟩),.agg #[.string nm,.slice ap am ac,.string tx,.slice cp cm cc]] w fun e w'=>e=.returned (.tuple #[])/\∃ kv',BB w' B (.slice (some ⟨go,0,none⟩) (init.length+1) oc) pa bv x y /\
   w'.ownsRow base 80 4 (.slice (some ⟨go,0,none⟩) (init.length+1) oc) (init.length+1) (ndCells (init++[(nd,av,kv')]))/\w'.ownsRow base 80 4 kv' (k.length+1) (ndCells k++[.string nm,.slice ap am ac,.string tx,.slice cp cm cc]) /\
   (kv'.ownBlock=(Value.slice kp km kc).ownBlock\/∃ g,kv'.ownBlock=some g/\w.heap.size<=g)/\Stays w w' (go :: blk (.slice kp km kc))/\Below base w w':=by
 have hBl:B < w.heap.size:=lt_of_block h
 have hgl:go < w.heap.size:=(own_lt hro go (by simp[blk,Value.ownBlock])).2
 have hkm:km=k.length:=by
  obtain⟨_,_,e⟩:=own_len hrk
  injection e
 subst hkm
 obtain⟨w1,hw1⟩:∃ w1,w1=w.alloc (.cells #[.string nm,.slice ap am ac,.string tx,.slice cp cm cc] 80):=⟨_,rfl⟩
 have hb1:Below w.heap.size w w1:=by
  rw[hw1]
  exact (Below.refl _ _).alloc (Nat.le_refl _) _
 have b0:w1.cell? ⟨B,0,none⟩=some (.slice (some ⟨go,0,none⟩) (init.length+1) oc):=cell_keep (tag_cell h 0 _ rfl) hb1
 have n0:w1.cell? ⟨w.heap.size,0,none⟩=some (.string nm):=by rw[hw1];simp
 have n1:w1.cell? ⟨w.heap.size,1,none⟩=some (.slice ap am ac):=by rw[hw1];simp
 have n2:w1.cell? ⟨w.heap.size,2,none⟩=some (.string tx):=by rw[hw1];simp
 have n3:w1.cell? ⟨w.heap.size,3,none⟩=some (.slice cp cm cc):=by rw[hw1];simp
 have hro1:=own_below hro hb1
 have hrk1:=own_below hrk hb1
 have h1:BB w1 B (.slice (some ⟨go,0,none⟩) (init.length+1) oc) pa bv x y:=(hb1.block _ hBl).trans h
 have o3:w1.cell? ⟨go,init.length*4+3,none⟩=some (.slice kp k.length kc):=by
  rw[hro1.cellAt (init.length*4+3) (by omega),ndCells_at _ init.length _ (by rw[List.getElem?_append_right (Nat.le_refl _),Nat.sub_self];rfl) 3 (by decide)]
  rfl
 have HS1:Hid (Below w.heap.size w w1/\w1.heap.size=w.heap.size+1):=hide ⟨hb1,by rw[hw1];simp⟩
 have HR:=hide (And.intro hro1 (And.intro hrk1 h1))
 clear h hro hrk hb1 hro1 hrk1 h1
 go_enter Tryz.func81,Tryz.ntmps81
 go_wp2_with fail
 rw[<-hw1]
 clear hw1
 go_quiet (fail)
 go_wp2_with fail
 obtain⟨i0,hi,hz0,hz1,hz2⟩:=info_parts infoNode
 obtain⟨wd,hwd⟩:∃ wd,wd=(w1.drewN nq).drew:=⟨_,rfl⟩
 have o3:wd.cell? ⟨go,init.length*4+3,none⟩=some (.slice kp k.length kc):=by rw[hwd];exact o3
 have n0:wd.cell? ⟨w.heap.size,0,none⟩=some (.string nm):=by rw[hwd];exact n0
 have n1:wd.cell? ⟨w.heap.size,1,none⟩=some (.slice ap am ac):=by rw[hwd];exact n1
 have n2:wd.cell? ⟨w.heap.size,2,none⟩=some (.string tx):=by rw[hwd];exact n2
 have n3:wd.cell? ⟨w.heap.size,3,none⟩=some (.slice cp cm cc):=by rw[hwd];exact n3
 have HSD:Hid (Below w.heap.size w wd/\wd.heap.size=w.heap.size+1):=hide (by
  rw[hwd]
  exact⟨bel2 (bel2 HS1.out.1 (bel_drewN w1 nq)) (bel_one _),HS1.out.2⟩)
 obtain⟨wz,hwz⟩:∃ wz,wz=wd.alloc (.cells #[.string ⟨#[]⟩,.slice none 0 0,.string ⟨#[]⟩,.slice none 0 0] 80):=⟨_,rfl⟩
 have hbz:Below wd.heap.size wd wz:=by
  rw[hwz]
  exact (Below.refl _ _).alloc (Nat.le_refl _) _
 have o3z:=cell_keep o3 hbz
 have n0z:=cell_keep n0 hbz
 have n1z:=cell_keep n1 hbz
 have n2z:=cell_keep n2 hbz
 have n3z:=cell_keep n3 hbz
 have HRZ:Hid (_/\_/\BB wz B (.slice (some ⟨go,0,none⟩) (init.length+1) oc) pa bv x y):=hide (by
  have hd:=HR.out
  have hbd:Below w1.heap.size w1 wd:=by
   rw[hwd]
   exact bel2 (bel_drewN w1 nq) (bel_one _)
  exact⟨own_below (own_below hd.1 hbd) hbz,own_below (own_below hd.2.1 hbd) hbz,(hbz.block _ (by have:=HSD.out.2;omega)).trans ((hbd.block _ (by have:=HS1.out.2;omega)).trans hd.2.2)⟩)
 have HNZ:=hide (four_new wd (.string ⟨#[]⟩) (.slice none 0 0) (.string ⟨#[]⟩) (.slice none 0 0) 80)
 rw[<-hwz] at HNZ
 have HSZ:Hid (base<=wz.heap.size/\go < wz.heap.size):=hide (by
  have h1:=HSD.out.2
  have h2:=hbz.size
  omega)
 have HEND:Hid (∀ (w':World) (kv':Value),PutEnd wz w' B base go oc pa bv x y init nd av (.slice kp k.length kc) k nm tx ap am ac cp cm cc kv'->∃ kv',BB w' B (.slice (some ⟨go,0,none⟩) (init.length+1) oc) pa bv x y /\
   w'.ownsRow base 80 4 (.slice (some ⟨go,0,none⟩) (init.length+1) oc) (init.length+1) (ndCells (init++[(nd,av,kv')]))/\w'.ownsRow base 80 4 kv' (k.length+1) (ndCells k++[.string nm,.slice ap am ac,.string tx,.slice cp cm cc]) /\
   (kv'.ownBlock=(Value.slice kp k.length kc).ownBlock\/∃ g,kv'.ownBlock=some g/\w.heap.size<=g)/\Stays w w' (go :: blk (.slice kp k.length kc))/\Below base w w'):=hide (by
  intro w' kv' hp
  obtain⟨p1,p2,p3,p4,p5,p6⟩:=hp
  have hwz2:Below w.heap.size w wz:=bel2 HSD.out.1 hbz
  refine⟨kv',p1,p2,p3,p4.imp id (fun e=>⟨_,e,hwz2.size⟩),⟨Nat.le_trans hwz2.size p5.size,fun k hk hS=>(p5.block k (Nat.lt_of_lt_of_le hk hwz2.size) hS).trans (hwz2.block k hk),fun k hk cs fz e=>?_⟩,(hwz2.mono hbw).trans p6⟩
  refine p5.attr k hk cs fz ?_
  rw[hwz2.block k (Array.getElem?_eq_some_iff.1 e).1]
  exact e)
 have HWZ:=hide hwz
 clear hwz hbz HR HS1 HSD
 refine wp_region_any (by kernel_rfl) ?_
 try (change wpAny _ _ _ _ _ _ _ (World.drew _))
 rw[<-hwd]
 clear hwd
 refine wpAny_to (i:=0) (v:=.pointer (some ⟨go,init.length*4,none⟩)) (a':=?ax0q1) rfl (by kernel_rfl) (by kernel_rfl) (by kernel_rfl) (fun _ _ _ h=>h) (Or.inl ⟨by rfl,?yi⟩) ?ha ?_
 case yi=>intro w;go_simp;try omega
 case ha=>go_simp;exact rfl
 refine wpAny_to (i:=1) (v:=.pointer (some ⟨go,init.length*4,none⟩)) (a':=?ax1q2) rfl (by kernel_rfl) (by kernel_rfl) (by kernel_rfl) (fun _ _ _ h=>h) (Or.inl ⟨by rfl,?yi⟩) ?ha ?_
 case yi=>intro w;go_simp;try omega
 case ha=>go_simp;exact rfl
 refine wpAny_to (i:=2) (v:=.pointer (some ⟨go,init.length*4+3,none⟩)) (a':=?ax2q3) rfl (by kernel_rfl) (by kernel_rfl) (by kernel_rfl) (fun _ _ _ h=>h) (Or.inl ⟨by rfl,?yi⟩) ?ha ?_
 case yi=>intro w;go_simp;try omega
 case ha=>go_simp;exact rfl
 refine wpAny_ready (rs:=[3,4,6]) (by kernel_rfl) (by simp) ?_
 refine AllReady.cons rfl (fun K hK=>?_) (AllReady.cons rfl (fun K hK=>?_) (AllReady.cons rfl (fun K hK=>?_) AllReady.nil))
 ·go_simp
  go_wp2_with fail
  refine wpAny_to (i:=5) (v:=.int .i64 (k.length:Int)) (a':=?ax5q4) rfl (by kernel_rfl) (by kernel_rfl) (by kernel_rfl) (fun _ _ _ h=>h) (Or.inl ⟨by rfl,?yi⟩) ?ha ?_
  case yi=>intro w;go_simp;try omega
  case ha=>go_simp;exact rfl
  refine wpAny_ready (rs:=[4,6]) (by kernel_rfl) (by simp) ?_
  refine AllReady.cons rfl (fun K hK=>?_) (AllReady.cons rfl (fun K hK=>?_) AllReady.nil)
  ·go_simp
   go_wp2_with fail
   refine wpAny_ready (rs:=[6]) (by kernel_rfl) (by simp) ?_
   refine AllReady.cons rfl (fun K hK=>?_) AllReady.nil
   go_simp
   go_wp2_with fail
   rw[<-HWZ.out]
   refine wpAny_ready (rs:=[7]) (by kernel_rfl) (by simp) ?_
   refine AllReady.cons rfl (fun K hK=>?_) AllReady.nil
   rw[if_pos (by rfl)]
   refine wp_append_new (.tmp 19) (.tmp 22) 32 rfl base 80 i0 _ 4 80 Tryz.underlying32 hi hz0 hz1 hz2 rfl (by decide) (.slice kp k.length kc) k.length (ndCells k) rfl HRZ.out.2.1 ⟨wd.heap.size,0,none⟩ 1 1 [.string ⟨#[]⟩,.slice none 0 0,.string ⟨#[]⟩,.slice none 0 0] rfl rfl HNZ.out zero_one (by unfold maxLen;omega) (by omega) (by have:=HSZ.out;omega) (by decide) ?_
   intro v' w5 hown5 hgr5 hfr5
   obtain⟨g2,c2,rfl,HP⟩:=put_facts HRZ.out.1 HRZ.out.2.1 HRZ.out.2.2 hown5 hgr5 hfr5 hne HSZ.out.2 nm tx ap am ac cp cm cc
   obtain⟨hgg,q0,q1,q2,q3,r0,r1,r2,r3,q4,r4,hfa,hfb⟩:=HP
   have HFA:=hide hfa
   have HFB:=hide hfb
   have hgg2:go≠g2:=Ne.symm hgg
   clear hown5 hgr5 hfr5 hfa hfb
   refine hK _ _ ?_
   clear hK K
   refine wpAny_to (i:=8) (v:=.pointer (some ⟨g2,k.length*4,none⟩)) (a':=?ax8q5) rfl (by kernel_rfl) (by kernel_rfl) (by kernel_rfl) (fun _ _ _ h=>h) (Or.inl ⟨by rfl,?yi⟩) ?ha ?_
   case yi=>intro w;go_simp;try omega
   case ha=>go_simp;exact rfl
   refine wpAny_to (i:=10) (v:=.pointer (some ⟨go,init.length*4,none⟩)) (a':=?ax10q6) rfl (by kernel_rfl) (by kernel_rfl) (by kernel_rfl) (fun _ _ _ h=>h) (Or.inl ⟨by rfl,?yi⟩) ?ha ?_
   case yi=>intro w;go_simp;try omega
   case ha=>go_simp;exact rfl
   refine wpAny_to (i:=11) (v:=.pointer (some ⟨go,init.length*4+3,none⟩)) (a':=?ax11q7) rfl (by kernel_rfl) (by kernel_rfl) (by kernel_rfl) (fun _ _ _ h=>h) (Or.inl ⟨by rfl,?yi⟩) ?ha ?_
   case yi=>intro w;go_simp;try omega
   case ha=>go_simp;exact rfl
   refine wpAny_ready (rs:=[9,12]) (by kernel_rfl) (by simp) ?_
   refine AllReady.cons rfl (fun K hK=>?_) (AllReady.cons rfl (fun K hK=>?_) AllReady.nil)
   ·go_simp
    go_wp2_with fail
    refine wpAny_ready (rs:=[12]) (by kernel_rfl) (by simp) ?_
    refine AllReady.cons rfl (fun K hK=>?_) AllReady.nil
    go_simp
    go_wp2_with fail
    refine wpAny_done (by kernel_rfl) ?_ _
    go_wp2_with fail
    go_end0
    exact⟨rfl,HEND.out _ _ HFA.out⟩
   ·go_simp
    go_wp2_with fail
    refine wpAny_ready (rs:=[9]) (by kernel_rfl) (by simp) ?_
    refine AllReady.cons rfl (fun K hK=>?_) AllReady.nil
    go_simp
    go_wp2_with fail
    refine wpAny_done (by kernel_rfl) ?_ _
    go_wp2_with fail
    go_end0
    exact⟨rfl,HEND.out _ _ HFB.out⟩
  ·go_simp
   go_wp2_with fail
   rw[<-HWZ.out]
   refine wpAny_ready (rs:=[4]) (by kernel_rfl) (by simp) ?_
   refine AllReady.cons rfl (fun K hK=>?_) AllReady.nil
   go_simp
   go_wp2_with fail
   refine wpAny_ready (rs:=[7]) (by kernel_rfl) (by simp) ?_
   refine AllReady.cons rfl (fun K hK=>?_) AllReady.nil
   rw[if_pos (by rfl)]
   refine wp_append_new (.tmp 19) (.tmp 22) 32 rfl base 80 i0 _ 4 80 Tryz.underlying32 hi hz0 hz1 hz2 rfl (by decide) (.slice kp k.length kc) k.length (ndCells k) rfl HRZ.out.2.1 ⟨wd.heap.size,0,none⟩ 1 1 [.string ⟨#[]⟩,.slice none 0 0,.string ⟨#[]⟩,.slice none 0 0] rfl rfl HNZ.out zero_one (by unfold maxLen;omega) (by omega) (by have:=HSZ.out;omega) (by decide) ?_
   intro v' w5 hown5 hgr5 hfr5
   obtain⟨g2,c2,rfl,HP⟩:=put_facts HRZ.out.1 HRZ.out.2.1 HRZ.out.2.2 hown5 hgr5 hfr5 hne HSZ.out.2 nm tx ap am ac cp cm cc
   obtain⟨hgg,q0,q1,q2,q3,r0,r1,r2,r3,q4,r4,hfa,hfb⟩:=HP
   have HFA:=hide hfa
   have HFB:=hide hfb
   have hgg2:go≠g2:=Ne.symm hgg
   clear hown5 hgr5 hfr5 hfa hfb
   refine hK _ _ ?_
   clear hK K
   refine wpAny_to (i:=8) (v:=.pointer (some ⟨g2,k.length*4,none⟩)) (a':=?ax8q8) rfl (by kernel_rfl) (by kernel_rfl) (by kernel_rfl) (fun _ _ _ h=>h) (Or.inl ⟨by rfl,?yi⟩) ?ha ?_
   case yi=>intro w;go_simp;try omega
   case ha=>go_simp;exact rfl
   refine wpAny_to (i:=10) (v:=.pointer (some ⟨go,init.length*4,none⟩)) (a':=?ax10q9) rfl (by kernel_rfl) (by kernel_rfl) (by kernel_rfl) (fun _ _ _ h=>h) (Or.inl ⟨by rfl,?yi⟩) ?ha ?_
   case yi=>intro w;go_simp;try omega
   case ha=>go_simp;exact rfl
   refine wpAny_to (i:=11) (v:=.pointer (some ⟨go,init.length*4+3,none⟩)) (a':=?ax11q10) rfl (by kernel_rfl) (by kernel_rfl) (by kernel_rfl) (fun _ _ _ h=>h) (Or.inl ⟨by rfl,?yi⟩) ?ha ?_
   case yi=>intro w;go_simp;try omega
   case ha=>go_simp;exact rfl
   refine wpAny_ready (rs:=[9,12]) (by kernel_rfl) (by simp) ?_
   refine AllReady.cons rfl (fun K hK=>?_) (AllReady.cons rfl (fun K hK=>?_) AllReady.nil)
   ·go_simp
    go_wp2_with fail
    refine wpAny_ready (rs:=[12]) (by kernel_rfl) (by simp) ?_
    refine AllReady.cons rfl (fun K hK=>?_) AllReady.nil
    go_simp
    go_wp2_with fail
    refine wpAny_done (by kernel_rfl) ?_ _
    go_wp2_with fail
    go_end0
    exact⟨rfl,HEND.out _ _ HFA.out⟩
   ·go_simp
    go_wp2_with fail
    refine wpAny_ready (rs:=[9]) (by kernel_rfl) (by simp) ?_
    refine AllReady.cons rfl (fun K hK=>?_) AllReady.nil
    go_simp
    go_wp2_with fail
    refine wpAny_done (by kernel_rfl) ?_ _
    go_wp2_with fail
    go_end0
    exact⟨rfl,HEND.out _ _ HFB.out⟩
 ·go_simp
  go_wp2_with fail
  refine wpAny_ready (rs:=[3,6]) (by kernel_rfl) (by simp) ?_
  refine AllReady.cons rfl (fun K hK=>?_) (AllReady.cons rfl (fun K hK=>?_) AllReady.nil)
  ·go_simp
   go_wp2_with fail
   refine wpAny_to (i:=5) (v:=.int .i64 (k.length:Int)) (a':=?ax5q11) rfl (by kernel_rfl) (by kernel_rfl) (by kernel_rfl) (fun _ _ _ h=>h) (Or.inl ⟨by rfl,?yi⟩) ?ha ?_
   case yi=>intro w;go_simp;try omega
   case ha=>go_simp;exact rfl
   refine wpAny_ready (rs:=[6]) (by kernel_rfl) (by simp) ?_
   refine AllReady.cons rfl (fun K hK=>?_) AllReady.nil
   go_simp
   go_wp2_with fail
   rw[<-HWZ.out]
   refine wpAny_ready (rs:=[7]) (by kernel_rfl) (by simp) ?_
   refine AllReady.cons rfl (fun K hK=>?_) AllReady.nil
   rw[if_pos (by rfl)]
   refine wp_append_new (.tmp 19) (.tmp 22) 32 rfl base 80 i0 _ 4 80 Tryz.underlying32 hi hz0 hz1 hz2 rfl (by decide) (.slice kp k.length kc) k.length (ndCells k) rfl HRZ.out.2.1 ⟨wd.heap.size,0,none⟩ 1 1 [.string ⟨#[]⟩,.slice none 0 0,.string ⟨#[]⟩,.slice none 0 0] rfl rfl HNZ.out zero_one (by unfold maxLen;omega) (by omega) (by have:=HSZ.out;omega) (by decide) ?_
   intro v' w5 hown5 hgr5 hfr5
   obtain⟨g2,c2,rfl,HP⟩:=put_facts HRZ.out.1 HRZ.out.2.1 HRZ.out.2.2 hown5 hgr5 hfr5 hne HSZ.out.2 nm tx ap am ac cp cm cc
   obtain⟨hgg,q0,q1,q2,q3,r0,r1,r2,r3,q4,r4,hfa,hfb⟩:=HP
   have HFA:=hide hfa
   have HFB:=hide hfb
   have hgg2:go≠g2:=Ne.symm hgg
   clear hown5 hgr5 hfr5 hfa hfb
   refine hK _ _ ?_
   clear hK K
   refine wpAny_to (i:=8) (v:=.pointer (some ⟨g2,k.length*4,none⟩)) (a':=?ax8q12) rfl (by kernel_rfl) (by kernel_rfl) (by kernel_rfl) (fun _ _ _ h=>h) (Or.inl ⟨by rfl,?yi⟩) ?ha ?_
   case yi=>intro w;go_simp;try omega
   case ha=>go_simp;exact rfl
   refine wpAny_to (i:=10) (v:=.pointer (some ⟨go,init.length*4,none⟩)) (a':=?ax10q13) rfl (by kernel_rfl) (by kernel_rfl) (by kernel_rfl) (fun _ _ _ h=>h) (Or.inl ⟨by rfl,?yi⟩) ?ha ?_
   case yi=>intro w;go_simp;try omega
   case ha=>go_simp;exact rfl
   refine wpAny_to (i:=11) (v:=.pointer (some ⟨go,init.length*4+3,none⟩)) (a':=?ax11q14) rfl (by kernel_rfl) (by kernel_rfl) (by kernel_rfl) (fun _ _ _ h=>h) (Or.inl ⟨by rfl,?yi⟩) ?ha ?_
   case yi=>intro w;go_simp;try omega
   case ha=>go_simp;exact rfl
   refine wpAny_ready (rs:=[9,12]) (by kernel_rfl) (by simp) ?_
   refine AllReady.cons rfl (fun K hK=>?_) (AllReady.cons rfl (fun K hK=>?_) AllReady.nil)
   ·go_simp
    go_wp2_with fail
    refine wpAny_ready (rs:=[12]) (by kernel_rfl) (by simp) ?_
    refine AllReady.cons rfl (fun K hK=>?_) AllReady.nil
    go_simp
    go_wp2_with fail
    refine wpAny_done (by kernel_rfl) ?_ _
    go_wp2_with fail
    go_end0
    exact⟨rfl,HEND.out _ _ HFA.out⟩
   ·go_simp
    go_wp2_with fail
    refine wpAny_ready (rs:=[9]) (by kernel_rfl) (by simp) ?_
    refine AllReady.cons rfl (fun K hK=>?_) AllReady.nil
    go_simp
    go_wp2_with fail
    refine wpAny_done (by kernel_rfl) ?_ _
    go_wp2_with fail
    go_end0
    exact⟨rfl,HEND.out _ _ HFB.out⟩
  ·go_simp
   go_wp2_with fail
   rw[<-HWZ.out]
   refine wpAny_ready (rs:=[3]) (by kernel_rfl) (by simp) ?_
   refine AllReady.cons rfl (fun K hK=>?_) AllReady.nil
   go_simp
   go_wp2_with fail
   refine wpAny_to (i:=5) (v:=.int .i64 (k.length:Int)) (a':=?ax5q15) rfl (by kernel_rfl) (by kernel_rfl) (by kernel_rfl) (fun _ _ _ h=>h) (Or.inl ⟨by rfl,?yi⟩) ?ha ?_
   case yi=>intro w;go_simp;try omega
   case ha=>go_simp;exact rfl
   refine wpAny_ready (rs:=[7]) (by kernel_rfl) (by simp) ?_
   refine AllReady.cons rfl (fun K hK=>?_) AllReady.nil
   rw[if_pos (by rfl)]
   refine wp_append_new (.tmp 19) (.tmp 22) 32 rfl base 80 i0 _ 4 80 Tryz.underlying32 hi hz0 hz1 hz2 rfl (by decide) (.slice kp k.length kc) k.length (ndCells k) rfl HRZ.out.2.1 ⟨wd.heap.size,0,none⟩ 1 1 [.string ⟨#[]⟩,.slice none 0 0,.string ⟨#[]⟩,.slice none 0 0] rfl rfl HNZ.out zero_one (by unfold maxLen;omega) (by omega) (by have:=HSZ.out;omega) (by decide) ?_
   intro v' w5 hown5 hgr5 hfr5
   obtain⟨g2,c2,rfl,HP⟩:=put_facts HRZ.out.1 HRZ.out.2.1 HRZ.out.2.2 hown5 hgr5 hfr5 hne HSZ.out.2 nm tx ap am ac cp cm cc
   obtain⟨hgg,q0,q1,q2,q3,r0,r1,r2,r3,q4,r4,hfa,hfb⟩:=HP
   have HFA:=hide hfa
   have HFB:=hide hfb
   have hgg2:go≠g2:=Ne.symm hgg
   clear hown5 hgr5 hfr5 hfa hfb
   refine hK _ _ ?_
   clear hK K
   refine wpAny_to (i:=8) (v:=.pointer (some ⟨g2,k.length*4,none⟩)) (a':=?ax8q16) rfl (by kernel_rfl) (by kernel_rfl) (by kernel_rfl) (fun _ _ _ h=>h) (Or.inl ⟨by rfl,?yi⟩) ?ha ?_
   case yi=>intro w;go_simp;try omega
   case ha=>go_simp;exact rfl
   refine wpAny_to (i:=10) (v:=.pointer (some ⟨go,init.length*4,none⟩)) (a':=?ax10q17) rfl (by kernel_rfl) (by kernel_rfl) (by kernel_rfl) (fun _ _ _ h=>h) (Or.inl ⟨by rfl,?yi⟩) ?ha ?_
   case yi=>intro w;go_simp;try omega
   case ha=>go_simp;exact rfl
   refine wpAny_to (i:=11) (v:=.pointer (some ⟨go,init.length*4+3,none⟩)) (a':=?ax11q18) rfl (by kernel_rfl) (by kernel_rfl) (by kernel_rfl) (fun _ _ _ h=>h) (Or.inl ⟨by rfl,?yi⟩) ?ha ?_
   case yi=>intro w;go_simp;try omega
   case ha=>go_simp;exact rfl
   refine wpAny_ready (rs:=[9,12]) (by kernel_rfl) (by simp) ?_
   refine AllReady.cons rfl (fun K hK=>?_) (AllReady.cons rfl (fun K hK=>?_) AllReady.nil)
   ·go_simp
    go_wp2_with fail
    refine wpAny_ready (rs:=[12]) (by kernel_rfl) (by simp) ?_
    refine AllReady.cons rfl (fun K hK=>?_) AllReady.nil
    go_simp
    go_wp2_with fail
    refine wpAny_done (by kernel_rfl) ?_ _
    go_wp2_with fail
    go_end0
    exact⟨rfl,HEND.out _ _ HFA.out⟩
   ·go_simp
    go_wp2_with fail
    refine wpAny_ready (rs:=[9]) (by kernel_rfl) (by simp) ?_
    refine AllReady.cons rfl (fun K hK=>?_) AllReady.nil
    go_simp
    go_wp2_with fail
    refine wpAny_done (by kernel_rfl) ?_ _
    go_wp2_with fail
    go_end0
    exact⟨rfl,HEND.out _ _ HFB.out⟩
 ·go_simp
  go_wp2_with fail
  rw[<-HWZ.out]
  refine wpAny_ready (rs:=[3,4]) (by kernel_rfl) (by simp) ?_
  refine AllReady.cons rfl (fun K hK=>?_) (AllReady.cons rfl (fun K hK=>?_) AllReady.nil)
  ·go_simp
   go_wp2_with fail
   refine wpAny_to (i:=5) (v:=.int .i64 (k.length:Int)) (a':=?ax5q19) rfl (by kernel_rfl) (by kernel_rfl) (by kernel_rfl) (fun _ _ _ h=>h) (Or.inl ⟨by rfl,?yi⟩) ?ha ?_
   case yi=>intro w;go_simp;try omega
   case ha=>go_simp;exact rfl
   refine wpAny_ready (rs:=[4]) (by kernel_rfl) (by simp) ?_
   refine AllReady.cons rfl (fun K hK=>?_) AllReady.nil
   go_simp
   go_wp2_with fail
   refine wpAny_ready (rs:=[7]) (by kernel_rfl) (by simp) ?_
   refine AllReady.cons rfl (fun K hK=>?_) AllReady.nil
   rw[if_pos (by rfl)]
   refine wp_append_new (.tmp 19) (.tmp 22) 32 rfl base 80 i0 _ 4 80 Tryz.underlying32 hi hz0 hz1 hz2 rfl (by decide) (.slice kp k.length kc) k.length (ndCells k) rfl HRZ.out.2.1 ⟨wd.heap.size,0,none⟩ 1 1 [.string ⟨#[]⟩,.slice none 0 0,.string ⟨#[]⟩,.slice none 0 0] rfl rfl HNZ.out zero_one (by unfold maxLen;omega) (by omega) (by have:=HSZ.out;omega) (by decide) ?_
   intro v' w5 hown5 hgr5 hfr5
   obtain⟨g2,c2,rfl,HP⟩:=put_facts HRZ.out.1 HRZ.out.2.1 HRZ.out.2.2 hown5 hgr5 hfr5 hne HSZ.out.2 nm tx ap am ac cp cm cc
   obtain⟨hgg,q0,q1,q2,q3,r0,r1,r2,r3,q4,r4,hfa,hfb⟩:=HP
   have HFA:=hide hfa
   have HFB:=hide hfb
   have hgg2:go≠g2:=Ne.symm hgg
   clear hown5 hgr5 hfr5 hfa hfb
   refine hK _ _ ?_
   clear hK K
   refine wpAny_to (i:=8) (v:=.pointer (some ⟨g2,k.length*4,none⟩)) (a':=?ax8q20) rfl (by kernel_rfl) (by kernel_rfl) (by kernel_rfl) (fun _ _ _ h=>h) (Or.inl ⟨by rfl,?yi⟩) ?ha ?_
   case yi=>intro w;go_simp;try omega
   case ha=>go_simp;exact rfl
   refine wpAny_to (i:=10) (v:=.pointer (some ⟨go,init.length*4,none⟩)) (a':=?ax10q21) rfl (by kernel_rfl) (by kernel_rfl) (by kernel_rfl) (fun _ _ _ h=>h) (Or.inl ⟨by rfl,?yi⟩) ?ha ?_
   case yi=>intro w;go_simp;try omega
   case ha=>go_simp;exact rfl
   refine wpAny_to (i:=11) (v:=.pointer (some ⟨go,init.length*4+3,none⟩)) (a':=?ax11q22) rfl (by kernel_rfl) (by kernel_rfl) (by kernel_rfl) (fun _ _ _ h=>h) (Or.inl ⟨by rfl,?yi⟩) ?ha ?_
   case yi=>intro w;go_simp;try omega
   case ha=>go_simp;exact rfl
   refine wpAny_ready (rs:=[9,12]) (by kernel_rfl) (by simp) ?_
   refine AllReady.cons rfl (fun K hK=>?_) (AllReady.cons rfl (fun K hK=>?_) AllReady.nil)
   ·go_simp
    go_wp2_with fail
    refine wpAny_ready (rs:=[12]) (by kernel_rfl) (by simp) ?_
    refine AllReady.cons rfl (fun K hK=>?_) AllReady.nil
    go_simp
    go_wp2_with fail
    refine wpAny_done (by kernel_rfl) ?_ _
    go_wp2_with fail
    go_end0
    exact⟨rfl,HEND.out _ _ HFA.out⟩
   ·go_simp
    go_wp2_with fail
    refine wpAny_ready (rs:=[9]) (by kernel_rfl) (by simp) ?_
    refine AllReady.cons rfl (fun K hK=>?_) AllReady.nil
    go_simp
    go_wp2_with fail
    refine wpAny_done (by kernel_rfl) ?_ _
    go_wp2_with fail
    go_end0
    exact⟨rfl,HEND.out _ _ HFB.out⟩
  ·go_simp
   go_wp2_with fail
   refine wpAny_ready (rs:=[3]) (by kernel_rfl) (by simp) ?_
   refine AllReady.cons rfl (fun K hK=>?_) AllReady.nil
   go_simp
   go_wp2_with fail
   refine wpAny_to (i:=5) (v:=.int .i64 (k.length:Int)) (a':=?ax5q23) rfl (by kernel_rfl) (by kernel_rfl) (by kernel_rfl) (fun _ _ _ h=>h) (Or.inl ⟨by rfl,?yi⟩) ?ha ?_
   case yi=>intro w;go_simp;try omega
   case ha=>go_simp;exact rfl
   refine wpAny_ready (rs:=[7]) (by kernel_rfl) (by simp) ?_
   refine AllReady.cons rfl (fun K hK=>?_) AllReady.nil
   rw[if_pos (by rfl)]
   refine wp_append_new (.tmp 19) (.tmp 22) 32 rfl base 80 i0 _ 4 80 Tryz.underlying32 hi hz0 hz1 hz2 rfl (by decide) (.slice kp k.length kc) k.length (ndCells k) rfl HRZ.out.2.1 ⟨wd.heap.size,0,none⟩ 1 1 [.string ⟨#[]⟩,.slice none 0 0,.string ⟨#[]⟩,.slice none 0 0] rfl rfl HNZ.out zero_one (by unfold maxLen;omega) (by omega) (by have:=HSZ.out;omega) (by decide) ?_
   intro v' w5 hown5 hgr5 hfr5
   obtain⟨g2,c2,rfl,HP⟩:=put_facts HRZ.out.1 HRZ.out.2.1 HRZ.out.2.2 hown5 hgr5 hfr5 hne HSZ.out.2 nm tx ap am ac cp cm cc
   obtain⟨hgg,q0,q1,q2,q3,r0,r1,r2,r3,q4,r4,hfa,hfb⟩:=HP
   have HFA:=hide hfa
   have HFB:=hide hfb
   have hgg2:go≠g2:=Ne.symm hgg
   clear hown5 hgr5 hfr5 hfa hfb
   refine hK _ _ ?_
   clear hK K
   refine wpAny_to (i:=8) (v:=.pointer (some ⟨g2,k.length*4,none⟩)) (a':=?ax8q24) rfl (by kernel_rfl) (by kernel_rfl) (by kernel_rfl) (fun _ _ _ h=>h) (Or.inl ⟨by rfl,?yi⟩) ?ha ?_
   case yi=>intro w;go_simp;try omega
   case ha=>go_simp;exact rfl
   refine wpAny_to (i:=10) (v:=.pointer (some ⟨go,init.length*4,none⟩)) (a':=?ax10q25) rfl (by kernel_rfl) (by kernel_rfl) (by kernel_rfl) (fun _ _ _ h=>h) (Or.inl ⟨by rfl,?yi⟩) ?ha ?_
   case yi=>intro w;go_simp;try omega
   case ha=>go_simp;exact rfl
   refine wpAny_to (i:=11) (v:=.pointer (some ⟨go,init.length*4+3,none⟩)) (a':=?ax11q26) rfl (by kernel_rfl) (by kernel_rfl) (by kernel_rfl) (fun _ _ _ h=>h) (Or.inl ⟨by rfl,?yi⟩) ?ha ?_
   case yi=>intro w;go_simp;try omega
   case ha=>go_simp;exact rfl
   refine wpAny_ready (rs:=[9,12]) (by kernel_rfl) (by simp) ?_
   refine AllReady.cons rfl (fun K hK=>?_) (AllReady.cons rfl (fun K hK=>?_) AllReady.nil)
   ·go_simp
    go_wp2_with fail
    refine wpAny_ready (rs:=[12]) (by kernel_rfl) (by simp) ?_
    refine AllReady.cons rfl (fun K hK=>?_) AllReady.nil
    go_simp
    go_wp2_with fail
    refine wpAny_done (by kernel_rfl) ?_ _
    go_wp2_with fail
    go_end0
    exact⟨rfl,HEND.out _ _ HFA.out⟩
   ·go_simp
    go_wp2_with fail
    refine wpAny_ready (rs:=[9]) (by kernel_rfl) (by simp) ?_
    refine AllReady.cons rfl (fun K hK=>?_) AllReady.nil
    go_simp
    go_wp2_with fail
    refine wpAny_done (by kernel_rfl) ?_ _
    go_wp2_with fail
    go_end0
    exact⟨rfl,HEND.out _ _ HFB.out⟩
end Go.Proofs.YtkiofbikkhhdfabGreatDoor.Dm
namespace Go.Proofs.YtkiofbikkhhdfabGreatDoor.Dm
open Go.RowKit
open Utf1
def St0 (w:World) (base B:Nat) (os:List Nd) (pa bv:Value) (o n:Nat):Prop :=
 base<=B/\base<=w.heap.size/\∃ (ov:Value) (l:List (Nd × Value × Value)) (fp:List Nat),l.map Prod.fst=os/\BB w B ov pa bv (.int .i64 (o:Int)) (.int .i64 (n:Int))/\w.ownsRow base 80 4 ov l.length (ndCells l)/\KAll w base l fp/\(blk ov++fp).Nodup
def St (w:World) (base B:Nat) (os:List Nd) (t:List UInt8) (o n:Nat):Prop:=∃ pa bv,St0 w base B os pa bv o n/\Wait w base B pa bv t
def addKid (nd:Nd) (x:Nd):Nd:=.mk nd.name nd.attrs nd.text (nd.kids++[x])
theorem kall_split {w:World}{base:Nat}:∀ {a b:List (Nd × Value × Value)}{fp:List Nat},KAll w base (a++b) fp->∃ fa fb,fp=fa++fb/\KAll w base a fa/\KAll w base b fb
 | [],b,fp,h=>⟨[],fp,rfl,.nil,h⟩
 | (n,av,kv) :: a,b,_,.cons _ _ _ _ f fps ha hk hl=>by
  obtain⟨fa,fb,rfl,h1,h2⟩:=kall_split hl
  exact⟨f++fa,fb,by rw[List.append_assoc],.cons n av kv a f fa ha hk h1,h2⟩
theorem kall_one {w:World}{base:Nat}{n:Nd}{av kv:Value}{fp:List Nat}(h:KAll w base [(n,av,kv)] fp):w.ownsRow base 108 2 av n.attrs.length (attrCells n.attrs)/\KAt w base kv n.kids fp:=by
 generalize hl:[(n,av,kv)]=l at h
 cases h with
 | nil=>cases hl
 | cons n' av' kv' l f fps ha hk hl' =>
  cases hl
  cases hl'
  rw[List.append_nil]
  exact⟨ha,hk⟩
theorem kat_inv {w:World}{base:Nat}{v:Value}{ns:List Nd}{fp:List Nat}(h:KAt w base v ns fp):∃ l f,ns=l.map Prod.fst/\fp=blk v++f/\w.ownsRow base 80 4 v l.length (ndCells l)/\KAll w base l f:=by
 cases h with
 | mk v l f row all=>exact⟨l,f,rfl,rfl,row,all⟩
theorem nodup_put {ko:List Nat}{fi bk fk f2 bk':List Nat}{N:Nat}(h:(ko++(fi++(bk++fk))).Nodup)(h2:f2.Nodup)(hd:∀ k∈f2,k ∉ ko++(fi++(bk++fk)))(hlt:∀ k∈ko++(fi++(bk++fk)),k < N)(hlt2:∀ k∈f2,k < N)
  (hb:bk'=bk\/∃ g,bk'=[g]/\N<=g):(ko++(fi++(bk'++(fk++f2)))).Nodup:=by
 have key:∀ b:List Nat,(∀ k∈b,k ∉ ko/\k ∉ fi/\k ∉ fk/\k ∉ f2)->b.Nodup->(ko++(fi++(b++(fk++f2)))).Nodup:=by
  intro b h1 h3
  simp only[List.nodup_append,List.mem_append] at h hd ⊢
  refine⟨h.1,⟨h.2.1.1,⟨h3,⟨h.2.1.2.1.2.1,h2,?_⟩,?_⟩,?_⟩,?_⟩
  ·intro a ha c hc e
   subst e
   exact hd a hc (.inr (.inr (.inr ha)))
  ·rintro a ha c (hc | hc) e <;> subst e
   ·exact (h1 a ha).2.2.1 hc
   ·exact (h1 a ha).2.2.2 hc
  ·rintro a ha c (hc | hc | hc) e <;> subst e
   ·exact (h1 a hc).2.1 ha
   ·exact h.2.1.2.2 a ha a (.inr hc) rfl
   ·exact hd a hc (.inr (.inl ha))
  ·rintro a ha c (hc | hc | hc | hc) e <;> subst e
   ·exact h.2.2 a ha a (.inl hc) rfl
   ·exact (h1 a hc).1 ha
   ·exact h.2.2 a ha a (.inr (.inr hc)) rfl
   ·exact hd a hc (.inl ha)
 rcases hb with rfl | ⟨g,rfl,hgN⟩
 ·refine key _ ?_ ?_
  ·intro k hk
   simp only[List.nodup_append,List.mem_append] at h hd
   refine⟨fun e=>h.2.2 k e k (.inr (.inl hk)) rfl,fun e=>h.2.1.2.2 k e k (.inl hk) rfl,fun e=>h.2.1.2.1.2.2 k hk k e rfl,fun e=>hd k e (.inr (.inr (.inl hk)))⟩
  ·simp only[List.nodup_append] at h
   exact h.2.1.2.1.1
 ·refine key _ ?_ (by simp)
  intro k hk
  have hk:k=g:=by simpa using hk
  subst hk
  refine⟨fun e=>?_,fun e=>?_,fun e=>?_,fun e=>?_⟩
  ·have:=hlt k (List.mem_append_left _ e);omega
  ·have:=hlt k (List.mem_append_right _ (List.mem_append_left _ e));omega
  ·have:=hlt k (List.mem_append_right _ (List.mem_append_right _ (List.mem_append_right _ e)));omega
  ·have:=hlt2 k e;omega
def StX (w:World) (base B:Nat) (os:List Nd) (pa bv:Value) (o n:Nat) (x:Nd) (av2 kv2:Value):Prop :=
 base<=B/\base<=w.heap.size/\∃ (ov:Value) (l:List (Nd × Value × Value)) (fp f2:List Nat),l.map Prod.fst=os/\BB w B ov pa bv (.int .i64 (o:Int)) (.int .i64 (n:Int))/\w.ownsRow base 80 4 ov l.length (ndCells l)/\KAll w base l fp/\(blk ov++fp).Nodup /\
  w.ownsRow base 108 2 av2 x.attrs.length (attrCells x.attrs)/\KAt w base kv2 x.kids f2/\f2.Nodup/\∀ k∈f2,k ∉ blk ov++fp
theorem map_snoc {l:List (Nd × Value × Value)}{i:List Nd}{nd:Nd}(h:l.map Prod.fst=i++[nd]):∃ li av kv,l=li++[(nd,av,kv)]/\li.map Prod.fst=i:=by
 obtain⟨l1,l2,rfl,h1,h2⟩:=List.map_eq_append_iff.1 h
 match l2,h2 with
 | [(n,av,kv)],h2 =>
  have:n=nd:=by simpa using h2
  subst this
  exact⟨l1,av,kv,rfl,h1⟩
theorem own_two_ne {w:World}{base base':Nat}{e e':TypeId}{size size':Nat}{v v':Value}{n n':Nat}{xs xs':List Value}(h:w.ownsRow base e size v n xs)(h':w.ownsRow base' e' size' v' n' xs')(hne:e≠e') {k:Nat}(hv:v.ownBlock=some k)(hv':v'.ownBlock=some k):False:=by
 rcases own_two h h' hne with e1 | e1
 ·rw[hv] at e1
  cases e1
 ·exact e1 (hv.trans hv'.symm)
theorem nd_one (l:List (Nd × Value × Value)) (x:Nd) (av kv:Value):ndCells (l++[(x,av,kv)])=ndCells l++[.string ⟨x.name.toArray⟩,av,.string ⟨x.text.toArray⟩,kv]:=by
 rw[ndCells_app]
 rfl
theorem nd_same (l:List (Nd × Value × Value)) (nd x:Nd) (av kv:Value):ndCells (l++[(nd,av,kv)])=ndCells (l++[(addKid nd x,av,kv)]):=by
 rw[nd_one,nd_one]
 cases nd
 rfl
theorem put_st (w:World) (base B:Nat) (i:List Nd) (nd:Nd) (pa bv:Value) (o n:Nat) (x:Nd) (ap:Option Addr) (am ac:Nat) (cp:Option Addr) (cm cc:Nat)(h:StX w base B (i++[nd]) pa bv o n x (.slice ap am ac) (.slice cp cm cc))(hi:i.length<=100000)(hk:nd.kids.length<=100000) :
  Calls Tryz.prog 81 #[.pointer (some ⟨B,0,none⟩),.agg #[.string ⟨x.name.toArray⟩,.slice ap am ac,.string ⟨x.text.toArray⟩,.slice cp cm cc]] w fun e w'=>e=.returned (.tuple #[])/\St0 w' base B (i++[addKid nd x]) pa bv o n/\Below base w w'/\∀ (b:Nat) (v:Value) (m:Nat) (xs:List Value),w.ownsRow b 5 1 v m xs->w'.ownsRow b 5 1 v m xs:=by
 obtain⟨hbB,hbw,ov,l,fp,f2,hl,hBB,hro,hall,hnd,hxa,hxk,hf2,hdis⟩:=h
 obtain⟨li,av,kv,rfl,hli⟩:=map_snoc hl
 obtain⟨fi,fb,rfl,hki,hk1⟩:=kall_split hall
 obtain⟨hav,hkv⟩:=kall_one hk1
 obtain⟨k,fk,hkk,rfl,hrk,hkall⟩:=kat_inv hkv
 have hlen:(li++[(nd,av,kv)]).length=li.length+1:=by simp
 rw[hlen] at hro
 obtain⟨go,oc,rfl,-⟩:=own_at hro (by omega)
 obtain⟨kp,km,kc,rfl⟩:=own_slice hrk
 have hlt:∀ j∈blk (.slice (some ⟨go,0,none⟩) (li.length+1) oc)++(fi++(blk (.slice kp km kc)++fk)),j < w.heap.size:=by
  intro j hj
  rcases List.mem_append.1 hj with hj | hj
  ·exact (own_lt hro j hj).2
  ·exact (hall.lt j hj).2
 have hlt2:∀ j∈f2,j < w.heap.size:=fun j hj=>(hxk.lt j hj).2
 have hgo:∀ j∈fi++(blk (.slice kp km kc)++fk),j≠go:=by
  intro j hj e
  subst e
  exact (List.nodup_append.1 hnd).2.2 j (by simp[blk,Value.ownBlock]) j hj rfl
 have hne:(Value.slice kp km kc).ownBlock≠some go:=by
  intro e
  exact hgo go (List.mem_append_right _ (List.mem_append_left _ (by unfold blk;rw[e];simp))) rfl
 have hil:li.length<=100000:=by
  have:=congrArg List.length hli
  rw[List.length_map] at this
  omega
 have hkl:k.length<=100000:=by
  have:=congrArg List.length hkk
  rw[List.length_map] at this
  omega
 refine (put_any w B base go oc pa bv _ _ li nd av kp km kc k ⟨x.name.toArray⟩ ⟨x.text.toArray⟩ ap am ac cp cm cc hBB hro hrk hne hkl hil hbB hbw).mono ?_
 rintro e w' ⟨rfl,kv',p1,p2,p3,p4,p5,p6⟩
 have hnd':=hnd
 simp only[List.nodup_append,List.mem_append] at hnd'
 have hS1:∀ j∈fi,j ∉ go :: blk (.slice kp km kc):=by
  intro j hj hm
  rcases List.mem_cons.1 hm with e | hm
  ·exact hgo j (List.mem_append_left _ hj) e
  ·exact hnd'.2.1.2.2 j hj j (.inl hm) rfl
 have hS2:∀ j∈fk,j ∉ go :: blk (.slice kp km kc):=by
  intro j hj hm
  rcases List.mem_cons.1 hm with e | hm
  ·exact hgo j (List.mem_append_right _ (List.mem_append_right _ hj)) e
  ·exact hnd'.2.1.2.1.2.2 j hm j hj rfl
 have hS3:∀ j∈f2,j ∉ go :: blk (.slice kp km kc):=by
  intro j hj hm
  refine hdis j hj ?_
  rcases List.mem_cons.1 hm with e | hm
  ·subst e
   exact List.mem_append_left _ (by simp[blk,Value.ownBlock])
  ·exact List.mem_append_right _ (List.mem_append_right _ (List.mem_append_left _ hm))
 refine⟨rfl,⟨hbB,Nat.le_trans hbw p6.size,_,li++[(addKid nd x,av,kv')],fi++(blk kv'++(fk++f2)),?_,p1,?_,?_,?_⟩,p6,?_⟩
 ·rw[List.map_append,hli]
  rfl
 ·rw[<-nd_same,List.length_append]
  exact p2
 ·refine (hki.stays p5 hS1).app ?_
  have hat:w'.ownsRow base 108 2 av (addKid nd x).attrs.length (attrCells (addKid nd x).attrs):=by
   have:=attr_stays hav p5
   cases nd
   exact this
  have hkids:KAt w' base kv' (addKid nd x).kids (blk kv'++(fk++f2)):=by
   have h1:=KAt.mk kv' (k++[(x,.slice ap am ac,.slice cp cm cc)]) (fk++f2) (by rw[nd_one,List.length_append];exact p3) ((hkall.stays p5 hS2).app (by
    have:=KAll.cons x _ _ [] f2 [] (attr_stays hxa p5) (hxk.stays p5 hS3) .nil
    rw[List.append_nil] at this
    exact this))
   have h2:(addKid nd x).kids=(k++[(x,Value.slice ap am ac,Value.slice cp cm cc)]).map Prod.fst:=by
    rw[List.map_append,<-hkk]
    cases nd
    rfl
   rw[h2]
   exact h1
  have:=KAll.cons (addKid nd x) av kv' [] _ [] hat hkids .nil
  rw[List.append_nil] at this
  exact this
 ·refine nodup_put hnd hf2 hdis hlt hlt2 ?_
  rcases p4 with e | ⟨g,e,hg⟩
  ·exact .inl (by unfold blk;rw[e])
  ·exact .inr ⟨g,by unfold blk;rw[e];rfl,hg⟩
 ·intro b v m xs ho
  refine own_stays ho p5.block ?_
  intro j hj hm
  rcases List.mem_cons.1 hm with rfl | hm
  ·exact own_two_ne ho hro (by decide) hj rfl
  ·exact own_two_ne ho hrk (by decide) hj (by unfold blk at hm;simpa using hm)
theorem row_typed {w:World}{base:Nat}{e:TypeId}{size:Nat}{v:Value}{n:Nat}{xs:List Value}(h:w.ownsRow base e size v n xs):∀ k∈blk v,∃ cs fz,w.heap[k]?=some (.cells cs e fz):=by
 intro k hk
 unfold blk at hk
 obtain⟨_,⟨rfl,_⟩ | ⟨g,cap,cur,rfl,hb,hg,_⟩⟩:=h
 ·simp[Value.ownBlock] at hk
 ·have:k=g:=by simpa [Value.ownBlock] using hk
  subst this
  exact⟨_,_,hg⟩
mutual
theorem node_typed {w:World}{base:Nat}{v:Value}{ns:List Nd}{fp:List Nat}(h:KAt w base v ns fp):∀ k∈fp,∃ cs fz,w.heap[k]?=some (.cells cs 80 fz) :=
 match h with
 | .mk v l fp row all=>fun k hk=>(List.mem_append.1 hk).elim (row_typed row k) (nodes_typed all k)
theorem nodes_typed {w:World}{base:Nat}{l:List (Nd × Value × Value)}{fp:List Nat}(h:KAll w base l fp):∀ k∈fp,∃ cs fz,w.heap[k]?=some (.cells cs 80 fz) :=
 match h with
 | .nil=>fun k hk=>by cases hk
 | .cons n av kv l fp fps ha hk hl=>fun k hk'=>(List.mem_append.1 hk').elim (node_typed hk k) (nodes_typed hl k)
end
theorem stx_text {w:World}{base B:Nat}{os:List Nd}{pa bv:Value}{o n:Nat}(h:St0 w base B os pa bv o n) (t:List UInt8):StX w base B os pa bv o n (.mk [] [] t []) (.slice none 0 0) (.slice none 0 0):=by
 obtain⟨h1,h2,ov,l,fp,h3,h4,h5,h6,h7⟩:=h
 exact⟨h1,h2,ov,l,fp,[],h3,h4,h5,h6,h7,World.ownsRow_nil _ _ _ _,KAt.empty _ _,List.nodup_nil,fun _ hk=>by cases hk⟩
theorem St0.stays {w w':World}{base B:Nat}{os:List Nd}{pa bv pa' bv':Value}{o n o' n':Nat}{S:List Nat}(h:St0 w base B os pa bv o n)(hS:Stays w w' S)(hN:∀ k∈S,∀ cs fz,w.heap[k]?≠some (.cells cs 80 fz))
  (hb:∀ ov,BB w B ov pa bv (.int .i64 (o:Int)) (.int .i64 (n:Int))->BB w' B ov pa' bv' (.int .i64 (o':Int)) (.int .i64 (n':Int))):St0 w' base B os pa' bv' o' n':=by
 obtain⟨h1,h2,ov,l,fp,h3,h4,h5,h6,h7⟩:=h
 have key:∀ k∈blk ov++fp,k ∉ S:=by
  intro k hk hkS
  obtain⟨cs,fz,e⟩:=node_typed (KAt.mk ov l fp h5 h6) k hk
  exact hN k hkS cs fz e
 refine⟨h1,Nat.le_trans h2 hS.size,ov,l,fp,h3,hb ov h4,own_stays h5 hS.block (fun k hk=>key k (List.mem_append_left _ (by unfold blk;rw[hk];simp))),h6.stays hS (fun k hk=>key k (List.mem_append_right _ hk)),h7⟩
end Go.Proofs.YtkiofbikkhhdfabGreatDoor.Dm
namespace Go.Proofs.YtkiofbikkhhdfabGreatDoor.Dm
open Go.RowKit
open Utf1
def textIn (nd:Nd) (t:List UInt8):Nd:=if t=[] then nd else addKid nd (.mk [] [] t [])
theorem St0.bb {w:World}{base B:Nat}{os:List Nd}{pa bv:Value}{o n:Nat}(h:St0 w base B os pa bv o n):∃ ov,BB w B ov pa bv (.int .i64 (o:Int)) (.int .i64 (n:Int)):=by
 obtain⟨_,_,ov,_,_,_,h4,_⟩:=h
 exact⟨ov,h4⟩
theorem bytes_no_node {w:World}{base B:Nat}{pa bv:Value}{t:List UInt8}(h:Wait w base B pa bv t):∀ k∈blk bv,∀ cs fz,w.heap[k]?≠some (.cells cs 80 fz):=by
 intro k hk cs fz e
 exact own_apart h.2 e (by decide) (by unfold blk at hk;simpa using hk)
theorem bb_no_node {w:World}{B:Nat}{ov pa bv x y:Value}(h:BB w B ov pa bv x y):∀ k∈[B],∀ cs fz,w.heap[k]?≠some (.cells cs 80 fz):=by
 intro k hk cs fz e
 have:k=B:=by simpa using hk
 subst this
 unfold BB at h
 rw[h] at e
 simp at e
set_option maxHeartbeats 4000000 in
theorem endText_st (w:World) (base B:Nat) (i:List Nd) (nd:Nd) (t:List UInt8) (o n:Nat)(h:St w base B (i++[nd]) t o n)(hi:i.length<=100000)(hk:nd.kids.length<=100000)(ht:t.length<=100000000) :
  Calls Tryz.prog 47 #[.pointer (some ⟨B,0,none⟩)] w fun e w'=>e=.returned (.tuple #[])/\St w' base B (i++[textIn nd t]) [] o n/\Below base w w':=by
 obtain⟨pa,bv,h0,hw⟩:=h
 obtain⟨ov,hB⟩:=h0.bb
 obtain⟨bp,bm,bc,rfl⟩:=own_slice hw.2
 have hbm:bm=t.length:=by
  obtain⟨_,_,e⟩:=own_len hw.2
  injection e with _ e2 _
  rw[byte_len] at e2
  exact e2
 subst hbm
 have HL:=hide (blen_any w B ov pa bp t.length bc _ _ hB)
 have hBl:B < w.heap.size:=lt_of_block hB
 by_cases ht0:t=[]
 ·subst ht0
  have HE:Hid (St w base B (i++[textIn nd []]) [] o n):=hide ⟨pa,_,by unfold textIn;rw[if_pos rfl];exact h0,hw⟩
  clear h0 hw hB
  go_enter Tryz.func47,Tryz.ntmps47
  go_wp2_with fail
  refine HL.out.mono ?_
  rintro e w1 ⟨rfl,rfl⟩
  clear HL
  go_wp2_with fail
  go_end0
  exact⟨rfl,HE.out,Below.refl _ _⟩
 ·have hpos:0 < t.length:=List.length_pos_iff.2 ht0
  have hd:decide ((0:Int) < (t.length:Int))=true:=decide_eq_true (by omega)
  have HST:=hide (bstring_any w B base ov pa (.slice bp t.length bc) _ _ t hB hw ht0)
  have HH:=hide (And.intro h0 hw)
  clear h0 hw
  go_enter Tryz.func47,Tryz.ntmps47
  go_wp2_with fail
  refine HL.out.mono ?_
  rintro e w1 ⟨rfl,rfl⟩
  clear HL
  go_wp2_with fail
  refine HST.out.mono ?_
  rintro e w2 ⟨rfl,hB2,hs2,hb2⟩
  have h2:St0 w2 base B (i++[nd]) pa (.slice bp t.length bc) o n:=HH.out.1.stays hs2 (bytes_no_node HH.out.2) (fun ov' hB'=>by
   have e:BB w1 B ov pa (.slice bp t.length bc) (.int .i64 (o:Int)) (.int .i64 (n:Int)):=hB
   unfold BB at hB' e
   rw[e] at hB'
   simp at hB'
   subst hB'
   exact hB2)
  have HP:=hide (put_st w2 base B i nd pa (.slice bp t.length bc) o n (.mk [] [] t []) none 0 0 none 0 0 (stx_text h2 t) hi hk)
  have HB2:=hide hb2
  clear HST h2 hs2 hb2 hB2
  go_wp2_with fail
  refine HP.out.mono ?_
  rintro e w3 ⟨rfl,h3,hb3,-⟩
  obtain⟨ov3,hB3⟩:=h3.bb
  have HR:=hide (breset_any w3 B ov3 pa (.slice bp t.length bc) _ _ hB3)
  have HE:Hid (St ((w3.setCell ⟨B,1,none⟩ (.pointer none)).setCell ⟨B,2,none⟩ (.slice none 0 0)) base B (i++[textIn nd t]) [] o n/\Below base w1 ((w3.setCell ⟨B,1,none⟩ (.pointer none)).setCell ⟨B,2,none⟩ (.slice none 0 0))):=hide (by
   have hbB:=h3.1
   refine⟨⟨.pointer none,.slice none 0 0,?_,.inl rfl,World.ownsRow_nil _ _ _ _⟩,(((HB2.out.trans hb3).setCell (p:=⟨B,1,none⟩) hbB _).setCell (p:=⟨B,2,none⟩) hbB _)⟩
   have e1:i++[textIn nd t]=i++[addKid nd (.mk [] [] t [])]:=by
    unfold textIn
    rw[if_neg ht0]
   rw[e1]
   have s1:=stays_set hB3 1 (.pointer none)
   have hB4:=(bb_set hB3 (.pointer none)).1
   have s2:=stays_set hB4 2 (.slice none 0 0)
   have q1:St0 (w3.setCell ⟨B,1,none⟩ (.pointer none)) base B (i++[addKid nd (.mk [] [] t [])]) (.pointer none) (.slice bp t.length bc) o n:=h3.stays s1 (bb_no_node hB3) (fun ov' hb=>(bb_set hb _).1)
   exact q1.stays s2 (bb_no_node hB4) (fun ov' hb=>(bb_set hb _).2))
  clear HP h3 hb3 hB3
  go_wp2_with fail
  refine HR.out.mono ?_
  rintro e w4 ⟨rfl,rfl⟩
  clear HR
  go_wp2_with fail
  go_end0
  exact⟨rfl,HE.out⟩
end Go.Proofs.YtkiofbikkhhdfabGreatDoor.Dm
namespace Utf1
mutual
def cntN:Nd->Nat
 | .mk _ _ _ k=>1+cntL k
def cntL:List Nd->Nat
 | []=>0
 | n :: r=>cntN n+cntL r
end
theorem cntL_app:∀ a b:List Nd,cntL (a++b)=cntL a+cntL b
 | [],b=>by simp[cntL]
 | n :: a,b=>by
  rw[List.cons_append,cntL,cntL,cntL_app a b]
  omega
theorem cntN_kids (n:Nd):cntN n=1+cntL n.kids:=by
 cases n
 rw[cntN]
 rfl
theorem len_cnt:∀ l:List Nd,l.length<=cntL l
 | []=>Nat.le_refl _
 | n :: r=>by
  have:=len_cnt r
  have h1:=cntN_kids n
  rw[cntL,List.length_cons]
  omega
end Utf1
namespace Go.Proofs.YtkiofbikkhhdfabGreatDoor.Dm
open Go.RowKit
open Utf1
def tx (t:List UInt8):Nat:=if t=[] then 0 else 1
theorem cnt_add (nd x:Nd):cntN (addKid nd x)=cntN nd+cntN x:=by
 rw[cntN_kids,cntN_kids nd]
 show 1+cntL (nd.kids++[x])=_
 rw[cntL_app]
 simp only[cntL]
 omega
theorem cnt_text (nd:Nd) (t:List UInt8):cntN (textIn nd t)=cntN nd+tx t:=by
 unfold textIn tx
 split
 ·rfl
 ·rw[cnt_add,cntN]
  rfl
def closeR:Nat->List Nd->List UInt8->List Nd × List UInt8
 | n+1,nd :: p :: r,t=>closeR n (addKid p (textIn nd t) :: r) []
 | _,r,t=>(r,t)
theorem own_pop {w:World}{base:Nat}{e:TypeId}{size g n cap:Nat}{xs ys:List Value}(h:w.ownsRow base e size (.slice (some ⟨g,0,none⟩) (n+1) cap) (n+1) (xs++ys))(hy:ys.length=size):w.ownsRow base e size (.slice (some ⟨g,0,none⟩) n cap) n xs:=by
 obtain⟨h1,⟨e1,_⟩ | ⟨g',cap',cur,e1,h2,h3,h4,h5,h6,h7⟩⟩:=h
 ·cases e1
 ·cases e1
  have hx:xs.length=n*size:=by
   rw[List.length_append,hy,Nat.add_mul,Nat.one_mul] at h1
   omega
  refine⟨hx,.inr ⟨g,cap,cur,rfl,h2,h3,by omega,h5,h6,?_⟩⟩
  have:=congrArg (List.take (n*size)) h7
  rw[List.take_take,Nat.min_eq_left (Nat.mul_le_mul_right _ (Nat.le_succ n)),<-hx,List.take_left] at this
  rw[<-hx]
  exact this
theorem pop_facts {w:World}{base B:Nat}{i:List Nd}{nd:Nd}{pa bv:Value}{o n:Nat}(h:St0 w base B (i++[nd]) pa bv o n):∃ (go oc:Nat) (ap:Option Addr) (am ac:Nat) (cp:Option Addr) (cm cc:Nat),
  BB w B (.slice (some ⟨go,0,none⟩) (i.length+1) oc) pa bv (.int .i64 (o:Int)) (.int .i64 (n:Int)) /\
  w.cell? ⟨go,i.length*4,none⟩=some (.string ⟨nd.name.toArray⟩)/\w.cell? ⟨go,i.length*4+1,none⟩=some (.slice ap am ac)/\w.cell? ⟨go,i.length*4+2,none⟩=some (.string ⟨nd.text.toArray⟩)/\w.cell? ⟨go,i.length*4+3,none⟩=some (.slice cp cm cc)/\i.length+1<=oc /\
  ∀ w',Below w.heap.size w w'->StX (w'.setCell ⟨B,0,none⟩ (.slice (some ⟨go,0,none⟩) i.length oc)) base B i pa bv o n nd (.slice ap am ac) (.slice cp cm cc):=by
 obtain⟨hbB,hbw,ov,l,fp,hl,hB,hro,hall,hnd⟩:=h
 obtain⟨li,av,kv,rfl,hli⟩:=map_snoc hl
 obtain⟨fi,fb,rfl,hki,hk1⟩:=kall_split hall
 obtain⟨hav,hkv⟩:=kall_one hk1
 have hll:li.length=i.length:=by
  have:=congrArg List.length hli
  rwa [List.length_map] at this
 have hlen:(li++[(nd,av,kv)]).length=i.length+1:=by simp[hll]
 rw[hlen] at hro
 obtain⟨go,oc,rfl,hcell⟩:=own_at hro (by omega)
 obtain⟨ap,am,ac,rfl⟩:=own_slice hav
 obtain⟨k,fk,hkk,rfl,hrk,hkall⟩:=kat_inv hkv
 obtain⟨cp,cm,cc,rfl⟩:=own_slice hrk
 have hat:∀ j,j < 4->w.cell? ⟨go,i.length*4+j,none⟩=(ndCells1 nd (.slice ap am ac) (.slice cp cm cc))[j]?:=by
  intro j hj
  rw[hcell _ (by omega),ndCells_at _ i.length _ (by rw[<-hll,List.getElem?_append_right (Nat.le_refl _),Nat.sub_self];rfl) j hj]
 have hoc:i.length+1<=oc:=by
  obtain⟨_,⟨e1,_⟩ | ⟨g',cap',cur,e1,_,_,h4,_⟩⟩:=hro
  ·cases e1
  ·cases e1
   exact h4
 refine⟨go,oc,ap,am,ac,cp,cm,cc,hB,hat 0 (by decide),hat 1 (by decide),hat 2 (by decide),hat 3 (by decide),hoc,?_⟩
 intro w' hb
 have hB':BB w' B (.slice (some ⟨go,0,none⟩) (i.length+1) oc) pa bv (.int .i64 (o:Int)) (.int .i64 (n:Int)):=(hb.block _ (lt_of_block hB)).trans hB
 have hs:=stays_set hB' 0 (.slice (some ⟨go,0,none⟩) i.length oc)
 have hnB:∀ j∈blk (.slice (some ⟨go,0,none⟩) (i.length+1) oc)++(fi++(blk (.slice cp cm cc)++fk)),j ∉ [B]:=by
  intro j hj hm
  obtain⟨cs,fz,e⟩:=node_typed ((KAt.mk _ _ _ (by rw[hlen];exact hro) hall).under hb) j hj
  exact bb_no_node hB' j hm cs fz e
 have hsz:(w'.setCell ⟨B,0,none⟩ (.slice (some ⟨go,0,none⟩) i.length oc)).heap.size=w'.heap.size:=by simp
 have hnd':=List.nodup_append.1 hnd
 have hnd2:=List.nodup_append.1 hnd'.2.1
 have hro2:w'.ownsRow base 80 4 (.slice (some ⟨go,0,none⟩) i.length oc) i.length (ndCells li):=own_pop (by have:=own_below hro hb;rw[nd_one] at this;exact this) rfl
 refine⟨hbB,by rw[hsz];exact Nat.le_trans hbw hb.size,.slice (some ⟨go,0,none⟩) i.length oc,li,fi,blk (.slice cp cm cc)++fk,hli,tok_set hB' 0 _,?_,?_,?_,?_,?_,?_,?_⟩
 ·rw[hll]
  exact own_stays hro2 hs.block (fun j hj=>hnB j (List.mem_append_left _ (by have:(Value.slice (some ⟨go,0,none⟩) (i.length+1) oc).ownBlock=some j:=hj;unfold blk;rw[this];simp)))
 ·exact (hki.under hb).stays hs (fun j hj=>hnB j (List.mem_append_right _ (List.mem_append_left _ hj)))
 ·exact List.nodup_append.2 ⟨hnd'.1,hnd2.1,fun a ha c hc=>hnd'.2.2 a ha c (List.mem_append_left _ hc)⟩
 ·exact attr_stays (own_below hav hb) hs
 ·rw[hkk]
  exact KAt.stays ((KAt.mk _ k fk hrk hkall).under hb) hs (fun j hj=>hnB j (List.mem_append_right _ (List.mem_append_right _ hj)))
 ·exact hnd2.2.1
 ·intro j hj hm
  rcases List.mem_append.1 hm with hm | hm
  ·exact hnd'.2.2 j hm j (List.mem_append_right _ hj) rfl
  ·exact hnd2.2.2 j hm j hj rfl
end Go.Proofs.YtkiofbikkhhdfabGreatDoor.Dm
namespace Go.Proofs.YtkiofbikkhhdfabGreatDoor.Dm
open Go.RowKit
open Utf1
theorem St0.len {w:World}{base B:Nat}{os:List Nd}{pa bv:Value}{o n:Nat}(h:St0 w base B os pa bv o n):∃ p c,BB w B (.slice p os.length c) pa bv (.int .i64 (o:Int)) (.int .i64 (n:Int)):=by
 obtain⟨_,_,ov,l,fp,hl,hB,hro,_⟩:=h
 obtain⟨p,c,rfl⟩:=own_len hro
 have:l.length=os.length:=by
  have:=congrArg List.length hl
  rwa [List.length_map] at this
 rw[this] at hB
 exact⟨p,c,hB⟩
set_option maxRecDepth 100000 in
set_option maxHeartbeats 8000000 in
theorem closeFrom_st (w:World) (base B at':Nat) (r:List Nd) (t:List UInt8) (o n:Nat)(h:St w base B r.reverse t o n)(h1:1<=at')(hle:at'<=r.length)(hM:cntL r+tx t<=100000)(ht:t.length<=100000000) :
  Calls Tryz.prog 46 #[.pointer (some ⟨B,0,none⟩),.int .i64 (at':Int)] w fun e w'=>e=.returned (.tuple #[])/\St w' base B (closeR (r.length - at') r t).1.reverse (closeR (r.length - at') r t).2 o n/\Below base w w':=by
 obtain⟨R,hR⟩:∃ R,R=closeR (r.length - at') r t:=⟨_,rfl⟩
 rw[<-hR]
 have HR:=hide hR
 have HS:=hide h
 have hrl:=len_cnt r
 clear hR h
 go_enter Tryz.func46,Tryz.ntmps46
 go_wp2_with fail
 go_loopg [4] (r.length - at') (fun g v wr=>∃ (q:List Nd) (t':List UInt8),q.length=at'+g/\Hid (St wr base B q.reverse t' o n)/\Hid (Below base w wr)/\cntL q+tx t'<=100000/\t'.length<=100000000/\Hid (R=closeR g q t'))
 case atStart=>exact⟨r,t,by omega,HS,hide (Below.refl _ _),hM,ht,HR⟩
 case round =>
  obtain⟨q,t',hqg,HS1,HB1,hM1,ht1,HR1⟩:=hrel
  clear HS HR
  have hql:=len_cnt q
  match gk,q,hqg,HS1,hM1,HR1,hql with
  | 0,q,hqg,HS1,hM1,HR1,hql =>
   obtain⟨pa,bv,h0,hw⟩:=HS1.out
   obtain⟨p,c,hB⟩:=h0.len
   rw[List.length_reverse,hqg,Nat.add_zero] at hB
   have c0:wr.cell? ⟨B,0,none⟩=some (.slice p at' c):=tag_cell hB 0 _ rfl
   have HE:Hid (St wr base B R.1.reverse R.2 o n):=hide (by
    rw[HR1.out]
    have:closeR 0 q t'=(q,t'):=by
     cases q <;> rfl
    rw[this]
    exact HS1.out)
   clear h0 hw hB HS1 HR1
   go_wp2_with fail
   go_end0
   exact⟨rfl,HE.out,HB1.out⟩
  | g+1,[],hqg,_,_,_,_=>simp only[List.length_nil] at hqg;omega
  | g+1,[_],hqg,_,_,_,_=>simp only[List.length_cons,List.length_nil] at hqg;omega
  | g+1,nd :: p :: q',hqg,HS1,hM1,HR1,hql =>
   obtain⟨pa,bv,h0,hw⟩:=HS1.out
   obtain⟨op,oc,hB⟩:=h0.len
   have hlen:(nd :: p :: q').reverse.length=q'.length+2:=by simp
   rw[hlen] at hB
   have c0:wr.cell? ⟨B,0,none⟩=some (.slice op (q'.length+2) oc):=tag_cell hB 0 _ rfl
   have HQ2:Hid (q'.length+1=at'+g):=hide (by simp only[List.length_cons] at hqg;omega)
   have hq2:at' < q'.length+2:=by have:=HQ2.out;omega
   clear hqg
   have hd:decide ((at':Int) < (q'.length:Int)+2)=true:=decide_eq_true (by omega)
   have hcn:cntN nd+(cntN p+cntL q')+tx t'<=100000:=by
    have:=hM1
    simp only[cntL] at this
    exact this
   have hkn:=cntN_kids nd
   have hkp:=cntN_kids p
   have hlk:=len_cnt nd.kids
   have hlp:=len_cnt p.kids
   have hlq:=len_cnt q'
   have hrev:(nd :: p :: q').reverse=(p :: q').reverse++[nd]:=by simp
   have HET:=hide (endText_st wr base B (p :: q').reverse nd t' o n (by rw[<-hrev];exact HS1.out) (by simp;omega) (by omega) ht1)
   have HR2:Hid (R=closeR g (addKid p (textIn nd t') :: q') []):=hide HR1.out
   clear h0 hw hB HS1 HR1 hrev hlen
   go_wp2_with fail
   refine HET.out.mono ?_
   rintro e w2 ⟨rfl,hs2,hb2⟩
   obtain⟨pa2,bv2,h02,hw2⟩:=hs2
   have hbB:=h02.1
   have hbw:=h02.2.1
   obtain⟨go,oc2,ap,am,ac,cp,cm,cc,hB2,x0,x1,x2,x3,hoc,hstx⟩:=pop_facts h02
   have hl2:(p :: q').reverse.length=q'.length+1:=by simp
   rw[hl2] at hB2 x0 x1 x2 x3 hoc hstx
   have d0:w2.cell? ⟨B,0,none⟩=some (.slice (some ⟨go,0,none⟩) (q'.length+2) oc2):=tag_cell hB2 0 _ rfl
   have f0:=tag_free hB2 0
   have hBl:B < w2.heap.size:=lt_of_block hB2
   have HB2:=hide (HB1.out.trans hb2)
   obtain⟨XN,hXN⟩:∃ X:ByteArray,X=⟨(textIn nd t').name.toArray⟩:=⟨_,rfl⟩
   obtain⟨XT,hXT⟩:∃ X:ByteArray,X=⟨(textIn nd t').text.toArray⟩:=⟨_,rfl⟩
   rw[<-hXN] at x0
   rw[<-hXT] at x2
   obtain⟨w3,hw3⟩:∃ w3,w3=w2.alloc (.cells #[.string XN,.slice ap am ac,.string XT,.slice cp cm cc] 80):=⟨_,rfl⟩
   have hb3:Below w2.heap.size w2 w3:=by
    rw[hw3]
    exact (Below.refl _ _).alloc (Nat.le_refl _) _
   have e0:=cell_keep d0 hb3
   have g0:w3.frozen? ⟨B,0,none⟩=false:=tag_free ((hb3.block _ hBl).trans hB2) 0
   have y0:w3.cell? ⟨w2.heap.size,0,none⟩=some (.string XN):=by rw[hw3];simp
   have y1:w3.cell? ⟨w2.heap.size,1,none⟩=some (.slice ap am ac):=by rw[hw3];simp
   have y2:w3.cell? ⟨w2.heap.size,2,none⟩=some (.string XT):=by rw[hw3];simp
   have y3:w3.cell? ⟨w2.heap.size,3,none⟩=some (.slice cp cm cc):=by rw[hw3];simp
   have hneB:w2.heap.size≠B:=by omega
   have HSX:=hide (hstx w3 hb3)
   have HPUT:Hid (Calls Tryz.prog 81 #[.pointer (some ⟨B,0,none⟩),.agg #[.string XN,.slice ap am ac,.string XT,.slice cp cm cc]] (w3.setCell ⟨B,0,none⟩ (.slice (some ⟨go,0,none⟩) (q'.length+1) oc2)) fun e w'=>e=.returned (.tuple #[])/\St w' base B (addKid p (textIn nd t') :: q').reverse [] o n/\Below base w w'):=hide (by
    have hrev:(p :: q').reverse=q'.reverse++[p]:=by simp
    rw[hrev] at hstx
    rw[hXN,hXT]
    refine (put_st _ base B q'.reverse p pa2 bv2 o n (textIn nd t') ap am ac cp cm cc (hstx w3 hb3) (by simp;omega) (by omega)).mono ?_
    rintro e w5 ⟨rfl,p1,p2,p3⟩
    refine⟨rfl,⟨pa2,bv2,by simpa using p1,hw2.1,p3 _ _ _ _ (own_set (own_below hw2.2 hb3) ((hb3.block _ hBl).trans hB2) (by decide) 0 _)⟩,?_⟩
    exact ((HB2.out.trans (hb3.mono hbw)).setCell (p:=⟨B,0,none⟩) hbB _).trans p2)
   have hcn2:cntL (addKid p (textIn nd t') :: q')+tx []<=100000:=by
    simp only[cntL]
    rw[cnt_add,cnt_text]
    show _+0<=_
    omega
   clear h02 hw2 hstx hb2 hB2 HSX hXN hXT HET
   go_upto_region 4 with fail
   rw[<-hw3]
   clear hw3
   go_wp2_with fail
   refine HPUT.out.mono ?_
   rintro e w5 ⟨rfl,q1,q2⟩
   have HQ:=hide q1
   have HQB:=hide q2
   clear q1 q2 HPUT
   go_wp2_with fail
   go_roundg g
   case measure=>omega
   case rel=>exact⟨addKid p (textIn nd t') :: q',[],by have:=HQ2.out;simp only[List.length_cons];omega,HQ,HQB,hcn2,by simp,HR2⟩
end Go.Proofs.YtkiofbikkhhdfabGreatDoor.Dm
namespace Go.Proofs.YtkiofbikkhhdfabGreatDoor.Dm
open Go.RowKit
open Utf1
def innerR (ns:List (List UInt8)):List Nd->Nat
 | []=>0
 | nd :: rest=>if rest=[] then 0 else if nd.name∈ns then rest.length else innerR ns rest
theorem St0.name_at {w:World}{base B:Nat}{os:List Nd}{pa bv:Value}{o n:Nat}(h:St0 w base B os pa bv o n)(h1:1<=os.length):∃ go oc,BB w B (.slice (some ⟨go,0,none⟩) os.length oc) pa bv (.int .i64 (o:Int)) (.int .i64 (n:Int))/\∀ j nd,os[j]?=some nd->w.cell? ⟨go,j*4,none⟩=some (.string ⟨nd.name.toArray⟩):=by
 obtain⟨_,_,ov,l,fp,hl,hB,hro,_⟩:=h
 have hll:l.length=os.length:=by
  have:=congrArg List.length hl
  rwa [List.length_map] at this
 rw[hll] at hro
 obtain⟨go,oc,rfl,hcell⟩:=own_at hro (by omega)
 refine⟨go,oc,hB,?_⟩
 intro j nd hj
 have hjl:j < os.length:=(List.getElem?_eq_some_iff.1 hj).1
 rw[<-hl,List.getElem?_map] at hj
 cases hp:l[j]? with
 | none=>rw[hp] at hj;cases hj
 | some p =>
  rw[hp] at hj
  have e:p.1=nd:=by simpa using hj
  have:=ndCells_at l j p hp 0 (by decide)
  rw[Nat.add_zero] at this
  rw[hcell (j*4) (by omega),this,<-e]
  rfl
set_option maxRecDepth 100000 in
set_option maxHeartbeats 8000000 in
theorem innermost_st (w:World) (base B:Nat) (r:List Nd) (pa bv:Value) (o n:Nat) (names:List ByteArray) (g cap:Nat)(h:St0 w base B r.reverse pa bv o n)(h1:1<=r.length)(hl:r.length<=100000)(hnl:names.length<=100000)(hc:∀ i x,names[i]?=some x->w.cell? ⟨g,i,none⟩=some (.string x)) :
  Calls Tryz.prog 112 #[.pointer (some ⟨B,0,none⟩),.slice (some ⟨g,0,none⟩) names.length cap] w fun e w'=>e=.returned (.int .i64 (innerR (names.map bl) r:Int))/\w'=w:=by
 obtain⟨go,oc,hB,hname⟩:=h.name_at (by rw[List.length_reverse];exact h1)
 rw[List.length_reverse] at hB
 have b0:w.cell? ⟨B,0,none⟩=some (.slice (some ⟨go,0,none⟩) r.length oc):=tag_cell hB 0 _ rfl
 have HNM:Hid (∀ (d:List Nd) (nd:Nd) (q:List Nd),r=d++nd :: q->w.cell? ⟨go,q.length*4,none⟩=some (.string ⟨nd.name.toArray⟩)):=hide (by
  intro d nd q e
  refine hname q.length nd ?_
  rw[e,List.reverse_append,List.reverse_cons,List.append_assoc,List.getElem?_append_right (by simp),List.length_reverse,Nat.sub_self]
  rfl)
 obtain⟨R,hR⟩:∃ R,R=innerR (names.map bl) r:=⟨_,rfl⟩
 rw[<-hR]
 have HR:=hide hR
 have HC:=hide hc
 obtain⟨N,hN⟩:∃ N,N=names.length:=⟨_,rfl⟩
 rw[<-hN] at hnl ⊢
 have HN:=hide hN
 obtain⟨M,hM⟩:∃ M,M=r.length:=⟨_,rfl⟩
 rw[<-hM] at b0 h1 hl
 have HM:=hide hM
 clear h hB hname hR hc hN hM
 go_enter Tryz.func112,Tryz.ntmps112
 go_wp2_with fail
 go_step3
 go_wp2_with fail
 go_step3
 go_wp2_with fail
 go_loopg [5] (M - 1) (fun k v wr=>∃ (d:List Nd) (nd:Nd) (q:List Nd),q.length=k/\v=.int .i64 (q.length:Int)/\wr=w/\Hid (r=d++nd :: q)/\Hid (R=innerR (names.map bl) (nd :: q)))
 case atStart =>
  have hm:=HM.out
  match r,hm,HR with
  | [],hm,HR=>simp at hm;omega
  | nd :: q,hm,HR =>
   refine⟨[],nd,q,by simp only[List.length_cons] at hm;omega,?_,rfl,hide rfl,HR⟩
   have:(M:Int) - 1=(q.length:Int):=by simp only[List.length_cons] at hm;omega
   first | (rw[this];rfl) | (rw[this]) | simp[this]
 case round =>
  obtain⟨d,nd,q,rfl,rfl,rfl,HD,HRR⟩:=hrel
  clear HR
  have hql:q.length<=100000:=by
   have h1:=congrArg List.length HD.out
   rw[List.length_append,List.length_cons,<-HM.out] at h1
   omega
  have hqM:q.length < M:=by
   have h1:=congrArg List.length HD.out
   rw[List.length_append,List.length_cons,<-HM.out] at h1
   omega
  by_cases hq:q=[]
  ·subst hq
   have hR0:R=0:=by
    rw[HRR.out]
    unfold innerR
    rw[if_pos rfl]
   subst hR0
   clear HRR HD
   go_wp2_with fail
   try rw[Exit.noGoto_ret]
   go_ret
   exact⟨rfl,rfl⟩
  ·have c0:=HNM.out d nd q HD.out
   have hqne:q≠[]:=hq
   obtain⟨nd2,q2,hq⟩:=List.exists_cons_of_ne_nil hqne
   have hqp:0 < q.length:=List.length_pos_iff.2 hqne
   have HIN:Hid (nd.name∈names.map bl->R=q.length):=hide (by
    intro h
    rw[HRR.out]
    unfold innerR
    rw[if_neg hqne,if_pos h])
   have HOUT:Hid (nd.name ∉ names.map bl->R=innerR (names.map bl) q):=hide (by
    intro h
    rw[HRR.out]
    conv=>lhs;unfold innerR
    rw[if_neg hqne,if_neg h])
   have HQ:=hide hq
   obtain⟨X,hX⟩:∃ X:ByteArray,X=⟨nd.name.toArray⟩:=⟨_,rfl⟩
   rw[<-hX] at c0
   have HX:Hid (bl X=nd.name):=hide (by rw[hX])
   clear hq HRR hX hqne
   go_wp2_with fail
   go_loopg [20] N (fun k v wx=>∃ j:Nat,j+k=N/\v=.int .i64 (j:Int)/\wx=wr/\Hid (∀ x∈(names.take j),bl x≠nd.name))
   case atStart=>exact⟨0,by omega,rfl,rfl,hide (by simp)⟩
   case round =>
    obtain⟨j,hjg,rfl,rfl,HJ⟩:=hrel
    by_cases hjl:j < N
    ·have hj:j < names.length:=by rw[<-HN.out];exact hjl
     have hge:names[j]?=some names[j]:=List.getElem?_eq_getElem hj
     have y0:=HC.out j _ hge
     have hm:names[j]∈names:=List.getElem_mem hj
     generalize names[j]=x at hge y0 hm
     by_cases hx:bl x=nd.name
     ·have e0:(X.toList==x.toList)=true:=beq_same (by rw[HX.out,hx])
      have hRq:=HIN.out (List.mem_map.2 ⟨x,hm,hx⟩)
      subst hRq
      clear hge hm hx HJ hj
      go_wp2_with fail
      try rw[Exit.noGoto_ret]
      go_ret
      exact⟨rfl,rfl⟩
     ·have e0:(X.toList==x.toList)=false:=beq_ne (by rw[HX.out];exact Ne.symm hx)
      have HJ2:Hid (∀ x∈(names.take (j+1)),bl x≠nd.name):=hide (by
       intro z hz
       rw[List.take_add_one,hge] at hz
       rcases List.mem_append.1 hz with hz | hz
       ·exact HJ.out z hz
       ·have:z=x:=by simpa using hz
        rw[this]
        exact hx)
      clear hge hm hx HJ hj
      go_wp2_with fail
      go_roundg (gk - 1)
      case measure=>omega
      case rel=>exact⟨j+1,by omega,by first | rfl | (rw[wrap64_in _ ⟨by omega,by omega⟩];rfl) | simp,rfl,HJ2⟩
    ·have HR2:=hide (HOUT.out (by
      intro h
      obtain⟨x,hx,e⟩:=List.mem_map.1 h
      have:=HJ.out x (by rw[List.take_of_length_le (by rw[<-HN.out];omega)];exact hx)
      exact this e))
     clear HJ
     have hq2l:(q.length:Int) - 1=(q2.length:Int):=by
      have:=congrArg List.length HQ.out
      rw[List.length_cons] at this
      omega
     have HL2:Hid (q2.length < q.length):=hide (by
      have:=congrArg List.length HQ.out
      rw[List.length_cons] at this
      omega)
     go_wp2_with fail
     go_roundg q2.length
     case measure=>have:=HL2.out;omega
     case rel =>
      refine⟨d++[nd],nd2,q2,rfl,?_,rfl,hide ?_,?_⟩
      ·first | rfl | simp
      ·rw[HD.out,HQ.out]
       simp
      ·rw[<-HQ.out]
       exact HR2
end Go.Proofs.YtkiofbikkhhdfabGreatDoor.Dm
namespace Go.Proofs.YtkiofbikkhhdfabGreatDoor.Dm
open Go.RowKit
open Utf1
theorem bb_cnt {w:World}{B:Nat}{ov pa bv x y:Value}(h:BB w B ov pa bv x y) (v:Value):BB (w.setCell ⟨B,3,none⟩ v) B ov pa bv v y/\BB (w.setCell ⟨B,4,none⟩ v) B ov pa bv x v:=⟨tok_set h 3 v,tok_set h 4 v⟩
theorem wait_set {w:World}{base B:Nat}{ov pa bv x y:Value}{t:List UInt8}(hB:BB w B ov pa bv x y)(h:Wait w base B pa bv t) (j:Nat) (v:Value):Wait (w.setCell ⟨B,j,none⟩ v) base B pa bv t:=⟨h.1,own_set h.2 hB (by decide) j v⟩
def newT (t s:List UInt8):Nat:=if t=[]/\s≠[] then 1 else 0
set_option maxHeartbeats 4000000 in
theorem write_st (w:World) (base B:Nat) (os:List Nd) (t:List UInt8) (o n:Nat) (s:ByteArray)(h:St w base B os t o n)(hl:t.length+s.size<=100000000) :
  Calls Tryz.prog 59 #[.pointer (some ⟨B,1,none⟩),.string s] w fun e w'=>e=.returned (.tuple #[.int .i64 (s.size:Int),.nilIface])/\St w' base B os (t++bl s) o n/\Below base w w':=by
 obtain⟨pa,bv,h0,hw⟩:=h
 obtain⟨ov,hB⟩:=h0.bb
 refine (bwrite_any w B base ov pa bv _ _ t s hB hw hl h0.1).mono ?_
 rintro e w' ⟨rfl,pa',bv',h1,h2,h3,h4⟩
 refine⟨rfl,⟨pa',bv',h0.stays h3 ?_ ?_,h2⟩,h4⟩
 ·intro k hk cs fz e
  rcases List.mem_cons.1 hk with rfl | hk
  ·exact bb_no_node hB k (by simp) cs fz e
  ·exact bytes_no_node hw k hk cs fz e
 ·intro ov' hB'
  unfold BB at hB hB'
  rw[hB] at hB'
  simp at hB'
  subst hB'
  exact h1
set_option maxHeartbeats 4000000 in
theorem addText_st (w:World) (base B:Nat) (os:List Nd) (t:List UInt8) (o n:Nat) (s:ByteArray)(h:St w base B os t o n)(hl:t.length+s.size<=100000000)(hn:n<=100000) :
  Calls Tryz.prog 78 #[.pointer (some ⟨B,0,none⟩),.string s] w fun e w'=>e=.returned (.tuple #[])/\St w' base B os (t++bl s) o (n+newT t (bl s))/\Below base w w':=by
 have HH:=hide h
 obtain⟨pa,bv,h0,hw⟩:=h
 obtain⟨ov,hB⟩:=h0.bb
 obtain⟨bp,bm,bc,rfl⟩:=own_slice hw.2
 have hbm:bm=t.length:=by
  obtain⟨_,_,e⟩:=own_len hw.2
  injection e with _ e2 _
  rw[byte_len] at e2
  exact e2
 subst hbm
 have HL:=hide (blen_any w B ov pa bp t.length bc _ _ hB)
 have hBl:B < w.heap.size:=lt_of_block hB
 have q0:(s.toList != [])=!decide (bl s=[]):=by
  rw[ByteArray.toList_eq]
  by_cases h:bl s=[]
  ·rw[decide_eq_true h]
   show (bl s != [])=_
   rw[h]
   rfl
  ·rw[decide_eq_false h]
   exact bne_iff_ne.2 h
 by_cases hnew:t=[]/\bl s≠[]
 ·obtain⟨rfl,hs⟩:=hnew
  rw[decide_eq_false hs] at q0
  have q0:(s.toList != [])=true:=q0
  have q1:s.toList.isEmpty=false:=by
   cases hh:s.toList with
   | nil=>rw[hh] at q0;cases q0
   | cons=>rfl
  have c4:w.cell? ⟨B,4,none⟩=some (.int .i64 (n:Int)):=tag_cell hB 4 _ rfl
  have f4:=tag_free hB 4
  have h4:St (w.setCell ⟨B,4,none⟩ (.int .i64 ((n+1:Nat):Int))) base B os [] o (n+1):=⟨pa,_,h0.stays (stays_set hB 4 _) (bb_no_node hB) (fun ov' hb=>(bb_cnt hb _).2),wait_set hB hw 4 _⟩
  have HW:Hid (Calls Tryz.prog 59 #[.pointer (some ⟨B,1,none⟩),.string s] (w.setCell ⟨B,4,none⟩ (.int .i64 ((n:Int)+1))) fun e w'=>e=.returned (.tuple #[.int .i64 (s.size:Int),.nilIface])/\St w' base B os ([]++bl s) o (n+newT [] (bl s))/\Below base w w'):=hide (by
   refine (write_st _ base B os [] o (n+1) s h4 hl).mono ?_
   rintro e w' ⟨rfl,h5,h6⟩
   refine⟨rfl,?_,((Below.refl base w).setCell (p:=⟨B,4,none⟩) h0.1 _).trans h6⟩
   have:newT [] (bl s)=1:=by
    unfold newT
    rw[if_pos ⟨rfl,hs⟩]
   rw[this]
   exact h5)
  clear h0 hw hB h4 hs HH
  go_enter Tryz.func78,Tryz.ntmps78
  go_wp2_with fail
  refine HL.out.mono ?_
  rintro e w1 ⟨rfl,rfl⟩
  clear HL
  go_wp2_with fail
  refine HW.out.mono ?_
  rintro e w2 ⟨rfl,h2,h3⟩
  have HE:=hide (And.intro h2 h3)
  clear h2 h3 HW
  go_wp2_with fail
  go_end0
  exact⟨rfl,HE.out⟩
 ·have HW:Hid (Calls Tryz.prog 59 #[.pointer (some ⟨B,1,none⟩),.string s] w fun e w'=>e=.returned (.tuple #[.int .i64 (s.size:Int),.nilIface])/\St w' base B os (t++bl s) o (n+newT t (bl s))/\Below base w w'):=hide (by
   have:newT t (bl s)=0:=by
    unfold newT
    rw[if_neg hnew]
   rw[this]
   exact write_st w base B os t o n s HH.out hl)
  by_cases ht:t=[]
  ·have hs:bl s=[]:=Classical.byContradiction fun h=>hnew ⟨ht,h⟩
   rw[decide_eq_true hs] at q0
   have q0:(s.toList != [])=false:=q0
   have q1:s.toList.isEmpty=true:=by
    cases hh:s.toList with
    | nil=>rfl
    | cons=>rw[hh] at q0;cases q0
   have hd:((t.length:Int)==0)=true:=by rw[ht];rfl
   have HT:=hide ht
   clear h0 hw hB hs hnew HH ht
   go_enter Tryz.func78,Tryz.ntmps78
   go_wp2_with fail
   refine HL.out.mono ?_
   rintro e w1 ⟨rfl,rfl⟩
   clear HL
   go_wp2_with fail
   refine HW.out.mono ?_
   rintro e w2 ⟨rfl,h2,h3⟩
   have HE:=hide (And.intro h2 h3)
   clear h2 h3 HW
   go_wp2_with fail
   go_end0
   exact⟨rfl,HE.out⟩
  ·have hd:((t.length:Int)==0)=false:=beq_eq_false_iff_ne.2 (by have:=List.length_pos_iff.2 ht;omega)
   clear h0 hw hB hnew HH ht
   go_enter Tryz.func78,Tryz.ntmps78
   go_wp2_with fail
   refine HL.out.mono ?_
   rintro e w1 ⟨rfl,rfl⟩
   clear HL
   go_wp2_with fail
   refine HW.out.mono ?_
   rintro e w2 ⟨rfl,h2,h3⟩
   have HE:=hide (And.intro h2 h3)
   clear h2 h3 HW
   go_wp2_with fail
   go_end0
   exact⟨rfl,HE.out⟩
end Go.Proofs.YtkiofbikkhhdfabGreatDoor.Dm
namespace Go.Proofs.YtkiofbikkhhdfabGreatDoor.Dm
open Go.RowKit
open Utf1
theorem closeR_all:∀ (n:Nat) (r:List Nd) (t:List UInt8),n < r.length->(closeR n r t).1.length=r.length - n/\cntL (closeR n r t).1+tx (closeR n r t).2=cntL r+tx t/\(closeR n r t).2.length<=t.length
 | 0,r,t,_=>by
  have:closeR 0 r t=(r,t):=by cases r <;> rfl
  rw[this]
  exact⟨rfl,rfl,Nat.le_refl _⟩
 | n+1,[],t,h=>by simp at h
 | n+1,[_],t,h=>by simp at h
 | n+1,nd :: p :: r,t,h=>by
  have ih:=closeR_all n (addKid p (textIn nd t) :: r) [] (by simp only[List.length_cons] at h ⊢;omega)
  show (closeR n (addKid p (textIn nd t) :: r) []).1.length=_/\_
  refine⟨?_,?_,?_⟩
  ·rw[ih.1]
   simp only[List.length_cons]
   omega
  ·show cntL (closeR n (addKid p (textIn nd t) :: r) []).1+tx (closeR n (addKid p (textIn nd t) :: r) []).2=_
   rw[ih.2.1]
   simp only[cntL]
   rw[cnt_add,cnt_text]
   show _+0=_
   omega
  ·show (closeR n (addKid p (textIn nd t) :: r) []).2.length<=_
   have:=ih.2.2
   simp only[List.length_nil] at this
   omega
theorem innerR_lt (ns:List (List UInt8)):∀ r:List Nd,r≠[]->innerR ns r < r.length
 | [],h=>absurd rfl h
 | nd :: rest,_=>by
  unfold innerR
  split
  ·simp
  ·rename_i hr
   split
   ·simp
   ·have:=innerR_lt ns rest hr
    simp only[List.length_cons]
    omega
def closeIn (ns:List (List UInt8)) (r:List Nd) (t:List UInt8):List Nd × List UInt8:=if 0 < innerR ns r then closeR (r.length - innerR ns r) r t else (r,t)
theorem closeIn_all (ns:List (List UInt8)) (r:List Nd) (t:List UInt8)(hr:r≠[]):1<=(closeIn ns r t).1.length/\(closeIn ns r t).1.length<=r.length/\cntL (closeIn ns r t).1+tx (closeIn ns r t).2=cntL r+tx t/\(closeIn ns r t).2.length<=t.length:=by
 have hl:=innerR_lt ns r hr
 unfold closeIn
 split
 ·rename_i h
  have:=closeR_all (r.length - innerR ns r) r t (by omega)
  refine⟨by omega,by omega,this.2.1,this.2.2⟩
 ·exact⟨Nat.lt_of_le_of_lt (Nat.zero_le _) hl,Nat.le_refl _,rfl,Nat.le_refl _⟩
theorem St.under {w w':World}{base B:Nat}{os:List Nd}{t:List UInt8}{o n:Nat}(h:St w base B os t o n)(hb:Below w.heap.size w w'):St w' base B os t o n:=by
 obtain⟨pa,bv,h0,hw⟩:=h
 refine⟨pa,bv,h0.stays (below_stays hb) (fun k hk=>by cases hk) (fun ov hB=>(hb.block _ (lt_of_block hB)).trans hB),hw.1,own_below hw.2 hb⟩
def wayR (name:List UInt8) (r:List Nd) (t:List UInt8):List Nd × List UInt8 :=
 if name∈blocks then
  (if name=[108,105] then
   (if ((closeIn [[112]] r t).1.reverse[innerR [[108,105],[117,108],[111,108]] (closeIn [[112]] r t).1]?.map Nd.name)=some [108,105] then closeR ((closeIn [[112]] r t).1.length - innerR [[108,105],[117,108],[111,108]] (closeIn [[112]] r t).1) (closeIn [[112]] r t).1 (closeIn [[112]] r t).2 else closeIn [[112]] r t)
  else closeIn [[112]] r t)
 else (r,t)
theorem inner_lit (w:World) (base B:Nat) (r:List Nd) (t:List UInt8) (o n:Nat) (names:List ByteArray) (A:Array Value) (ty:TypeId)(hA:A=(names.map Value.string).toArray)(h:St w base B r.reverse t o n)(h1:1<=r.length)(hl:r.length<=100000)(hnl:names.length<=100000) :
  Calls Tryz.prog 112 #[.pointer (some ⟨B,0,none⟩),.slice (some ⟨w.heap.size,0,none⟩) names.length names.length] (w.alloc (.cells A ty)) fun e w'=>e=.returned (.int .i64 (innerR (names.map bl) r:Int))/\w'=w.alloc (.cells A ty):=by
 obtain⟨pa,bv,h0,hw⟩:=h.under ((Below.refl _ _).alloc (Nat.le_refl _) (.cells A ty))
 refine innermost_st _ base B r pa bv o n names w.heap.size names.length h0 h1 hl hnl ?_
 intro i x hx
 rw[new_cell,hA]
 simp[hx]
end Go.Proofs.YtkiofbikkhhdfabGreatDoor.Dm
