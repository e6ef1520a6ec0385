import PyProof.Rows.All
import Wide.All
import OpenK.AllK
import Wide.FinOn
import Lean
import PyProof.EqAt
import PyProof.EqKinds
import PyProof.TupleCall
import PySem.Challenge.RW_broadrow_k40_truths_told_widely
set_option Elab.async false
set_option linter.all false
set_option maxRecDepth 100000
namespace L2
open PySem PySem.Spec PyProof.Rows
abbrev Key:=Sum Int Str
def tQ:Key -> Value -> Bool
 | .inl k,v=>Value.isInt k v
 | .inr x,v=>Value.isStrOf x v
def BH (w:World):Key -> Int
 | .inl k=>hashInt k
 | .inr x=>hashStr w x
theorem aI:∀ {k:Key} {v:Value},tQ k v = true -> (∃ i t,k = Sum.inl i /\ v = Value.int i t) \/ (∃ x t,k = Sum.inr x /\ v = Value.str x t)
 | .inl i,v,h=>by
  obtain ⟨t,e⟩:=Value.isInt_shape (k:=i) (v:=v) h
  exact .inl ⟨i,t,rfl,e⟩
 | .inr x,v,h=>by
  obtain ⟨t,e⟩:=Value.isStrOf_shape (x:=x) (v:=v) h
  exact .inr ⟨x,t,rfl,e⟩
theorem xq (a b:Int):decide ((Sum.inl a:Key) = Sum.inl b) = (a == b):=by
 by_cases e:a = b
 ·subst e; simp
 ·have h:¬ (Sum.inl a:Key) = Sum.inl b:=fun q=>e (Sum.inl.inj q)
  rw [decide_eq_false h]
  exact (beq_eq_false_iff_ne.mpr e).symm
theorem xX (a b:Str):decide ((Sum.inr a:Key) = Sum.inr b) = decide (a = b):=by
 by_cases e:a = b
 ·subst e; simp
 ·have h:¬ (Sum.inr a:Key) = Sum.inr b:=fun q=>e (Sum.inr.inj q)
  rw [decide_eq_false h,decide_eq_false e]
theorem uW (a:Int) (b:Str):decide ((Sum.inl a:Key) = Sum.inr b) = false:=decide_eq_false (fun q=>nomatch q)
theorem wu (a:Str) (b:Int):decide ((Sum.inr a:Key) = Sum.inl b) = false:=decide_eq_false (fun q=>nomatch q)
def fY (prog:Program) (w:World):PySem.KeyKind prog w Key where
 is:=tQ
 hash:=BH w
 inj:=fun v a b ha hb=>by
  rcases aI ha with ⟨i,t,rfl,rfl⟩ | ⟨x,t,rfl,rfl⟩
  ·rcases aI hb with ⟨j,u,rfl,e⟩ | ⟨y,u,rfl,e⟩
   ·injection e with e1 _; rw [e1]
   ·exact nomatch e
  ·rcases aI hb with ⟨j,u,rfl,e⟩ | ⟨y,u,rfl,e⟩
   ·exact nomatch e
   ·injection e with e1 _; rw [e1]
 byValue:=fun k v h=>by
  rcases aI h with ⟨i,t,rfl,rfl⟩ | ⟨x,t,rfl,rfl⟩ <;> rfl
 pyHash:=fun hv h=>by
  rcases aI hv with ⟨i,t,rfl,rfl⟩ | ⟨x,t,rfl,rfl⟩
  ·exact wpAny_pyHash_int h
  ·exact wpAny_pyHash_str h
 eqBool:=fun hu hv h=>by
  rcases aI hu with ⟨i,t,rfl,rfl⟩ | ⟨x,t,rfl,rfl⟩
  ·rcases aI hv with ⟨j,u,rfl,rfl⟩ | ⟨y,u,rfl,rfl⟩
   ·rw [xq] at h; exact wpAny_eqBool_int h
   ·rw [uW] at h; exact SeqAt.EqAt.int_str i t y u _ _ _ _ h
  ·rcases aI hv with ⟨j,u,rfl,rfl⟩ | ⟨y,u,rfl,rfl⟩
   ·rw [wu] at h; exact SeqAt.EqAt.str_int x t j u _ _ _ _ h
   ·rw [xX] at h; exact wpAny_eqBool_str h
 «strs»:=fun k x t v h=>by
  rcases aI h with ⟨i,u,rfl,e⟩ | ⟨y,u,rfl,e⟩
  ·exact nomatch e
  ·injection e with e1 _
   subst e1
   cases v <;> rfl
end L2
namespace L2
open PySem PySem.Spec PyProof.Rows
inductive V where
 | non | bl (b:Bool) | int (i:Int) | str (x:Str) | byt (b:Array UInt8) | flt (b:UInt64) | ref (a:Addr) | ty (n:String)
 deriving DecidableEq
def RelV:V -> Value -> Prop
 | .non,u=>u = Value.none
 | .bl b,u=>u = Value.bool b
 | .int i,u=>∃ t,u = Value.int i t
 | .str x,u=>∃ t,u = Value.str x t
 | .byt b,u=>∃ t,u = Value.bytes b t
 | .flt b,u=>∃ t,u = Value.float b t
 | .ref a,u=>u = Value.ref a
 | .ty n,u=>u = Value.type n
abbrev Vals:List V -> List Value -> Prop:=Paired RelV
theorem Vals.length {xs:List V} {us:List Value} (r:Vals xs us):xs.length = us.length:=Paired.length r
theorem Vals.get:∀ {xs:List V} {us:List Value} {i:Nat} {x:V},Vals xs us -> xs[i]? = some x -> ∃ u,us[i]? = some u /\ RelV x u
 | _,_,_,_,.nil,e=>by simp at e
 | _,_,0,_,.cons r _,e=>by simp at e; subst e; exact ⟨_,rfl,r⟩
 | _,_,i + 1,x,.cons _ t,e=>by
  obtain ⟨u,h1,h2⟩:=Vals.get (i:=i) (x:=x) t (by simpa using e)
  exact ⟨u,by simpa using h1,h2⟩
theorem Vals.set {x:V} {u:Value} (r:RelV x u):∀ {xs:List V} {us:List Value} (i:Nat),Vals xs us -> Vals (xs.set i x) (us.set i u)
 | _,_,_,.nil=>.nil
 | _,_,0,.cons _ t=>.cons r t
 | _,_,i + 1,.cons q t=>.cons q (Vals.set r i t)
theorem Vals.append:∀ {xs ys:List V} {us ws:List Value},Vals xs us -> Vals ys ws -> Vals (xs ++ ys) (us ++ ws)
 | _,_,_,_,.nil,s=>s
 | _,_,_,_,.cons r t,s=>.cons r (Vals.append t s)
theorem Vals.take:∀ {xs:List V} {us:List Value} (n:Nat),Vals xs us -> Vals (xs.take n) (us.take n)
 | _,_,0,_=>.nil
 | _,_,_ + 1,.nil=>.nil
 | _,_,n + 1,.cons r t=>.cons r (Vals.take n t)
theorem Vals.drop:∀ {xs:List V} {us:List Value} (n:Nat),Vals xs us -> Vals (xs.drop n) (us.drop n)
 | _,_,0,r=>r
 | _,_,_ + 1,.nil=>.nil
 | _,_,n + 1,.cons _ t=>Vals.drop n t
def RelO:Option V -> Option Value -> Prop
 | some v,some u=>RelV v u
 | none,none=>True
 | _,_=>False
def KV {κ:Type}:List (κ × V) -> List (κ × Value) -> Prop:=Paired fun (p:κ × V) (q:κ × Value)=>p.1 = q.1 /\ RelV p.2 q.2
def kV:Key -> V
 | .inl i=>.int i
 | .inr x=>.str x
inductive HO where
 | lst (xs:List V)
 | tup (xs:List V)
 | dK (kvs:List (Key × V)) | dT (kvs:List (List Key × V))
 | set (S:Int -> Bool) (n:Nat)
 | ins (C dx:Addr) (fs:List (Str × V))
 | own (x:Addr)
 | xd (fs:List (Str × V))
 | met (f x:Addr)
 | rng (lo hi:Int)
 | frz (o:Obj) (u:HO)
 | tbl (ps:Array Value)
 | ext (φ:Heap -> Prop)
abbrev Hp:=Addr -> Option HO
def upd (H:Hp) (a:Addr) (o:HO):Hp:=fun b=>if b = a then some o else H b
theorem af {H:Hp} {a:Addr} {o:HO}:upd H a o a = some o:=by unfold upd; rw [if_pos rfl]
theorem ab {H:Hp} {a b:Addr} {o:HO} (h:b ≠ a):upd H a o b = H b:=by unfold upd; rw [if_neg h]
theorem aG {H:Hp} {a b:Addr} {o:HO} (h:H a = some o) (h':H b = none):a ≠ b:=by
 intro e; subst e; rw [h] at h'; cases h'
section
variable (P:Program) (w:World)
def ObjOk (H:Hp) (h:Heap) (a:Addr):HO -> Prop
 | .lst xs=>xs.length <= sizeLine /\ ∃ (its:List Value) (n:Nat),Vals xs its /\ h.get? a = some { cls:=.type "list",data:=.seq its.toArray n }
 | .tup xs=>xs.length <= sizeLine /\ ∃ its:List Value,Vals xs its /\ IsTup h a its.toArray
 | .dK kvs=>kvs.length <= sizeLine /\ (a == sysModules) = false /\ ∃ vs,KV kvs vs /\ h.DictOf (fY P w) a vs
 | .dT kvs=>kvs.length <= sizeLine /\ (a == sysModules) = false /\ ∃ xs:List (List Key × Addr × Value),
   Paired (fun (p:List Key × V) (q:List Key × Addr × Value)=>p.1 = q.1 /\ H q.2.1 = some (.tup (p.1.map kV)) /\ RelV p.2 q.2.2) kvs xs /\
   ∃ o es ep,h.get? a = some o /\ o.ExactDict /\ o.data = .dict es ep /\ es.toList = xs.map (entryOfKey (tupleKind (fY P w))) /\ (xs.map (·.1)).Nodup
 | .set S n=>h.SetOf (intKind P w) a S n
 | .ins C dx fs=>H dx = some (.own a) /\ fs.length <= 1000 /\ dx ≠ a /\ h.get? a = some (PySem.W.instObj C dx) /\
   ∃ mA,h.Ns1 dx mA /\ (∀ f,RelO (fs.lookup f) (mA f)) /\ PySem.Within mA (fs.map (·.1))
 | .own _=>∃ o,h.get? a = some o
 | .xd fs=>∃ mA,h.Ns1 a mA /\ ∀ f,RelO (fs.lookup f) (mA f)
 | .rng lo hi=>∃ t u v,h.get? a = some { cls:=.type "range",data:=.fields #[.int lo t,.int hi u,.int 1 v] }
 | .frz o u=>h.get? a = some o /\ ObjOk H h a u
 | .tbl ps=>h.get? a = some { cls:=.none,data:=.fields ps }
 | .met f x=>h.get? a = some (PySem.W.methodObj (.ref f) (.ref x))
 | .ext φ=>φ h /\ (∃ o,h.get? a = some o) /\ ∀ h1 h2:Heap,φ h1 -> (∀ o,h1.get? a = some o -> h2.get? a = some o) -> φ h2
def HOk (H:Hp) (h:Heap):Prop:=∀ a o,H a = some o -> ObjOk P w H h a o
end
section
variable {P:Program} {w:World} {H H':Hp} {h h':Heap} {a:Addr} {o:HO}
theorem ObjOk.lt (x:ObjOk P w H h a o):a < h.objs.size:=by
 cases o with
 | lst xs=>obtain ⟨_,_,_,_,e⟩:=x; exact Heap.lt_size e
 | tup xs=>obtain ⟨_,_,_,p⟩:=x; exact p.lt
 | dK kvs=>obtain ⟨_,_,_,_,o,_,_,e,_⟩:=x; exact Heap.lt_size e
 | dT kvs=>obtain ⟨_,_,_,_,o,_,_,e,_⟩:=x; exact Heap.lt_size e
 | set S n=>obtain ⟨o,_,_,_,e,_⟩:=x; exact Heap.lt_size e
 | ins C dx fs=>obtain ⟨_,_,_,e,_⟩:=x; exact Heap.lt_size e
 | own y=>obtain ⟨_,e⟩:=x; exact Heap.lt_size e
 | xd fs=>obtain ⟨_,⟨_,_,_,e,_⟩,_⟩:=x; exact Heap.lt_size e
 | rng lo hi=>obtain ⟨_,_,_,e⟩:=x; exact Heap.lt_size e
 | frz ob u=>obtain ⟨e,_⟩:=x; exact Heap.lt_size e
 | tbl ps=>exact Heap.lt_size (show h.get? a = some _ from x)
 | met f y=>exact Heap.lt_size (show h.get? a = some _ from x)
 | ext φ=>obtain ⟨_,⟨_,e⟩,_⟩:=x; exact Heap.lt_size e
theorem Paired.mapP {α β:Type} {F G:α -> β -> Prop}:∀ {l₁:List α} {l₂:List β},Paired F l₁ l₂ -> (∀ a b,F a b -> G a b) -> Paired G l₁ l₂
 | _,_,.nil,_=>.nil
 | _,_,.cons r t,f=>.cons (f _ _ r) (Paired.mapP t f)
theorem ObjOk.stay (x:ObjOk P w H h a o) (k:∀ b u,(b = a \/ H b = some (.own a)) -> h.get? b = some u -> h'.get? b = some u)
  (ho:∀ b,H b = some (.own a) -> H' b = some (.own a)) (ht:∀ b xs,H b = some (.tup xs) -> H' b = some (.tup xs)):ObjOk P w H' h' a o:=by
 induction o with
 | lst xs=>obtain ⟨z,its,n,r,e⟩:=x; exact ⟨z,its,n,r,k _ _ (.inl rfl) e⟩
 | tup xs=>obtain ⟨z,its,r,ob,e,c⟩:=x; exact ⟨z,its,r,ob,k _ _ (.inl rfl) e,c⟩
 | dK kvs=>obtain ⟨z,y,vs,r,ob,es,ep,e,c⟩:=x; exact ⟨z,y,vs,r,ob,es,ep,k _ _ (.inl rfl) e,c⟩
 | dT kvs =>
  obtain ⟨z,y,xs,r,ob,es,ep,e,c⟩:=x
  exact ⟨z,y,xs,Paired.mapP r fun p q z=>⟨z.1,ht _ _ z.2.1,z.2.2⟩,ob,es,ep,k _ _ (.inl rfl) e,c⟩
 | set S n=>obtain ⟨ob,es,ep,t,e,c⟩:=x; exact ⟨ob,es,ep,t,k _ _ (.inl rfl) e,c⟩
 | ins C dx fs =>
  obtain ⟨d,z,ne,e,mA,⟨od,es,ep,e2,c⟩,r⟩:=x
  exact ⟨ho _ d,z,ne,k _ _ (.inl rfl) e,mA,⟨od,es,ep,k _ _ (.inr d) e2,c⟩,r⟩
 | own y=>obtain ⟨ob,e⟩:=x; exact ⟨ob,k _ _ (.inl rfl) e⟩
 | xd fs=>obtain ⟨mA,⟨od,es,ep,e,c⟩,r⟩:=x; exact ⟨mA,⟨od,es,ep,k _ _ (.inl rfl) e,c⟩,r⟩
 | rng lo hi=>obtain ⟨t,u,v,e⟩:=x; exact ⟨t,u,v,k _ _ (.inl rfl) e⟩
 | frz ob u ih=>obtain ⟨e,q⟩:=x; exact ⟨k _ _ (.inl rfl) e,ih q⟩
 | tbl ps =>
  have e:h.get? a = some { cls:=.none,data:=.fields ps }:=x
  show h'.get? a = some { cls:=.none,data:=.fields ps }
  exact k a _ (.inl rfl) e
 | met f y =>
  have e:h.get? a = some (PySem.W.methodObj (.ref f) (.ref y)):=x
  show h'.get? a = some (PySem.W.methodObj (.ref f) (.ref y))
  exact k a _ (.inl rfl) e
 | ext φ=>obtain ⟨p,⟨o,e⟩,st⟩:=x; exact ⟨st _ _ p fun o q=>k _ _ (.inl rfl) q,⟨o,k _ _ (.inl rfl) e⟩,st⟩
theorem HOk.lt (x:HOk P w H h) (e:H a = some o):a < h.objs.size:=(x a o e).lt
theorem HOk.fresh (x:HOk P w H h) (e:h.objs.size <= a):H a = none:=by
 cases q:H a with
 | none=>rfl
 | some u=>exact absurd (Nat.lt_of_lt_of_le (x.lt q) e) (Nat.lt_irrefl _)
theorem HOk.kept (x:HOk P w H h) (k:∀ b u,h.get? b = some u -> h'.get? b = some u):HOk P w H h':=fun a o e =>
 (x a o e).stay (fun b u _ q=>k b u q) (fun _ q=>q) fun _ _ q=>q
theorem HOk.laid (x:HOk P w H h) (k:∀ b u,h.get? b = some u -> h'.get? b = some u) (hp:h.objs.size <= a) (new:ObjOk P w (upd H a o) h' a o):HOk P w (upd H a o) h':=fun b u e=>by
 have hn:=x.fresh hp
 by_cases hb:b = a
 ·subst hb; rw [af] at e; cases e; exact new
 ·rw [ab hb] at e
  exact (x b u e).stay (fun c v _ q=>k c v q) (fun c q=>by rw [ab (aG q hn)]; exact q) fun c xs q=>by rw [ab (aG q hn)]; exact q
end
def Rd (H:Hp) (a:Addr) (u:HO):Prop:=H a = some u \/ ∃ o,H a = some (.frz o u)
theorem Rd.ok {P:Program} {w:World} {H:Hp} {h:Heap} {a:Addr} {u:HO} (r:Rd H a u) (x:HOk P w H h):ObjOk P w H h a u:=by
 rcases r with r | ⟨o,r⟩
 ·exact x a u r
 ·obtain ⟨_,q⟩:=x a _ r
  exact q
def Mut:Option HO -> Prop
 | some (.lst _)=>True
 | some (.dK _)=>True
 | some (.dT _)=>True
 | some (.set _ _)=>True
 | some (.ins _ _ _)=>True
 | some (.ext _)=>True
 | _=>False
section
variable {P:Program} {w:World} {H:Hp} {h h':Heap} {x e:Addr} {o':HO}
theorem HOk.write (ok:HOk P w H h) (mu:Mut (H x)) (he:e = x \/ H e = some (.own x)) (k:∀ b u,b ≠ e -> h.get? b = some u -> h'.get? b = some u) (heo:∃ u,h'.get? e = some u)
  (new:ObjOk P w (upd H x o') h' x o'):HOk P w (upd H x o') h':=fun b u q=>by
 have nown:∀ c y,H c = some (.own y) -> c ≠ x:=fun c y r z=>by subst z; rw [r] at mu; exact mu
 have ntup:∀ c xs,H c = some (.tup xs) -> c ≠ x:=fun c xs r z=>by subst z; rw [r] at mu; exact mu
 by_cases hb:b = x
 ·subst hb; rw [af] at q; cases q; exact new
 ·rw [ab hb] at q
  by_cases hbe:b = e
  ·have q':H b = some (.own x):=by
    rcases he with z | z
    ·exact absurd (hbe.trans z) hb
    ·rw [hbe]; exact z
   rw [q] at q'; cases q'
   obtain ⟨v,hv⟩:=heo
   exact ⟨v,by rw [hbe]; exact hv⟩
  ·refine (ok b u q).stay (fun c v hc r=>k c v ?_ r) (fun c r=>by rw [ab (nown c b r)]; exact r) fun c xs r=>by rw [ab (ntup c xs r)]; exact r
   rcases hc with rfl | hc
   ·exact hbe
   ·rintro rfl
    rcases he with z | z
    ·exact nown c b hc z
    ·rw [hc] at z; cases z; exact hb rfl
end
structure Un (fs ex:List Addr) (H H':Hp) (h h':Heap):Prop where
 keep:∀ b o,h.get? b = some o -> H b = none -> b ∉ fs -> b ∉ ex -> h'.get? b = some o
 slot:∀ b o,h.get? b = some o -> H b = none -> b ∈ fs -> b ∉ ex -> ∃ sl,h'.get? b = some { o with slots:=sl }
 free:∀ b o,h.get? b = some o -> H b = none -> b ∉ ex -> H' b = none
 there:∀ b o,h.get? b = some o -> b ∉ ex -> ∃ o',h'.get? b = some o'
 tups:∀ b xs,H b = some (.tup xs) -> H' b = some (.tup xs)
 frzs:∀ b o u,H b = some (.frz o u) -> H' b = some (.frz o u)
 tbls:∀ b ps,H b = some (.tbl ps) -> ∃ more,H' b = some (.tbl (ps ++ more))
section
variable {fs fs' ex ex':List Addr} {H H1 H2:Hp} {h h1 h2 h':Heap} {a x e:Addr} {o:HO}
theorem Un.any (u:Un fs ex H H1 h h1) {b:Addr} {ob:Obj} (q:h.get? b = some ob) (n:H b = none) (hx:b ∉ ex):∃ sl,h1.get? b = some { ob with slots:=sl }:=by
 by_cases hb:b ∈ fs
 ·exact u.slot b ob q n hb hx
 ·exact ⟨ob.slots,u.keep b ob q n hb hx⟩
theorem Un.kept (k:∀ b u,h.get? b = some u -> h'.get? b = some u):Un fs ex H H h h' :=
 ⟨fun b ob q _ _ _=>k b ob q,fun b ob q _ _ _=>⟨ob.slots,k b ob q⟩,fun _ _ _ n _=>n,fun b ob q _=>⟨ob,k b ob q⟩,fun _ _ q=>q,fun _ _ _ q=>q,fun _ ps q=>⟨#[],by rw [q]; simp⟩⟩
theorem Un.refl:Un fs ex H H h h:=Un.kept fun _ _ q=>q
theorem Un.laid (k:∀ b u,h.get? b = some u -> h'.get? b = some u) (hp:h.objs.size <= a) (hn:H a = none):Un fs ex H (upd H a o) h h' where
 keep:=fun b u q _ _ _=>k b u q
 slot:=fun b u q _ _ _=>⟨u.slots,k b u q⟩
 free:=fun b u q n _=>by rw [ab (Nat.ne_of_lt (Nat.lt_of_lt_of_le (Heap.lt_size q) hp))]; exact n
 there:=fun b u q _=>⟨u,k b u q⟩
 tups:=fun b xs q=>by rw [ab (aG q hn)]; exact q
 frzs:=fun b u xs q=>by rw [ab (aG q hn)]; exact q
 tbls:=fun b ps q=>⟨#[],by rw [ab (aG q hn),q]; simp⟩
theorem Un.write (mu:Mut (H x)) (he:e = x \/ H e = some (.own x)) (k:∀ b u,b ≠ e -> h.get? b = some u -> h'.get? b = some u) (heo:∃ u,h'.get? e = some u):Un fs ex H (upd H x o) h h':=by
 have hx:∀ b,H b = none -> b ≠ x:=fun b n z=>by subst z; rw [n] at mu; exact mu
 have hb:∀ b,H b = none -> b ≠ e:=fun b n z=>by
  subst z
  rcases he with r | r
  ·exact hx b n r
  ·rw [n] at r; cases r
 have hm:∀ b u,H b = some u -> ¬ Mut (some u) -> b ≠ x:=fun b u q nm z=>by subst z; rw [q] at mu; exact nm mu
 refine ⟨fun b u q n _ _=>k b u (hb b n) q,fun b u q n _ _=>⟨u.slots,k b u (hb b n) q⟩,fun b u q n _=>by rw [ab (hx b n)]; exact n,fun b u q _=>?_,
  fun b xs q=>by rw [ab (hm b _ q fun z=>z)]; exact q,fun b u xs q=>by rw [ab (hm b _ q fun z=>z)]; exact q,fun b ps q=>⟨#[],by rw [ab (hm b _ q fun z=>z),q]; simp⟩⟩
 by_cases hbe:b = e
 ·subst hbe; exact heo
 ·exact ⟨u,k b u hbe q⟩
end
def trk (h:Heap) (H:Hp):List Addr:=(List.range h.objs.size).filter fun a=>(H a).isSome
def gG (h:Heap) (H:Hp):Heap:=PySem.W.hideAll h (trk h H)
theorem lA (h:Heap) (H:Hp):(gG h H).objs.size = h.objs.size:=PySem.W.hideAll_size _ _
theorem m7 {h:Heap} {H:Hp} {b:Addr} {o:Obj} (e:h.get? b = some o) (n:H b = none):(gG h H).get? b = some o :=
 PySem.W.hideAll_get _ e fun hm=>by
  have q:(H b).isSome = true:=(List.mem_filter.mp hm).2
  rw [n] at q; simp at q
theorem qq {h:Heap} {H:Hp} {b:Addr} {o:Obj} (e:(gG h H).get? b = some o):h.get? b = some o /\ H b = none:=by
 have e':h.get? b = some o:=PySem.W.of_hideAll (trk h H) e
 refine ⟨e',?_⟩
 cases q:H b with
 | none=>rfl
 | some x =>
  have hm:b ∈ trk h H:=List.mem_filter.mpr ⟨List.mem_range.mpr (Heap.lt_size e'),by simp [q]⟩
  have z:(gG h H).get? b = none:=PySem.W.hideAll_none (trk h H) hm
  rw [z] at e; cases e
def qR (g h:Heap) (L:Addr):List (Addr × Obj):=(List.range h.objs.size).filterMap fun a=>if a = L \/ (g.get? a).isSome = true then none else (h.get? a).map fun o=>(a,o)
def rest (g h:Heap) (L d:Addr):List (Addr × Obj):=(qR g h L).filter fun p=>decide (p.1 ≠ d)
end L2
namespace L2
open PySem PySem.Spec PyProof.Rows
structure Mod (K:PySem.W.Frag) (mg:Str -> Option Value) (base:Heap):Prop where
 kin:K.In base
 glob:base.Ns mainGlobals mg
 blt:∃ mb,base.Ns builtinsNs mb /\ ∀ x:Str,x ≠ "__name__" -> mb x = bootBuiltins x
 nolimit:base.NoLimit
structure Cx where
 prog:Program
 w:World
 K:PySem.W.Frag
 mg:Str -> Option Value
 base:Heap
 A:Around
 N:List Str
 s₀:Shared
 H₀:Hp
 env:Env
 outer:List Env
 stack:List Env
 ex:List Addr
 fn:Str -> Bool
 calm:Bool
 pn:List (Addr × Obj)
 xe:Value -> Shared -> Prop
def frs (l:List Env):List Addr:=l.filterMap (·.frame)
abbrev Cx.fs (X:Cx):List Addr:=frs X.outer
def Vis (sc:Scope) (x:Str):Prop:=sc.names.lookup x = some .local \/ sc.names.lookup x = some .cell \/ sc.names.lookup x = some .free
def Loc (sc:Scope) (x:Str):Prop:=sc.names.lookup x = some .local \/ sc.names.lookup x = some .cell
def Bu (env:Env) (h:Heap) (m:Str -> Option Value) (x:Str) (u:Value):Prop :=
 (env.kindOf x = some .local /\ m x = some u) \/ ((env.kindOf x = some .cell \/ env.kindOf x = some .free) /\ ∃ c,env.cells.lookup x = some c /\ h.IsCell c (some u))
structure Cx.Ok (X:Cx):Prop where
 mod:Mod X.K X.mg X.base
 kind:X.env.scope.kind = .function
 glob:X.env.globals = mainGlobals
 blt:X.env.builtins = builtinsNs
 above:X.s₀.heap.objs.size <= X.env.locals
 inj:∀ x y c,X.env.cells.lookup x = some c -> X.env.cells.lookup y = some c -> x = y
 has:∀ x,(X.env.kindOf x = some .cell \/ X.env.kindOf x = some .free) -> ∃ c,X.env.cells.lookup x = some c
 cab:∀ x c,X.fn x = true -> X.env.cells.lookup x = some c -> X.s₀.heap.objs.size <= c
 hd:X.calm = true -> X.A.handled = none
 frames:X.A.frames = some X.stack
 stk:X.stack = X.outer \/ (X.stack = X.env :: X.outer /\ X.env.frame = some X.env.locals)
 exf:∀ b ∈ X.ex,b ≠ X.env.locals /\ ∀ x c,X.env.cells.lookup x = some c -> c ≠ b
 bs:∀ b o,X.base.get? b = some o -> X.s₀.heap.get? b = some o /\ X.H₀ b = none
 bsz:X.base.objs.size <= X.s₀.heap.objs.size
 noex:∀ b o,X.base.get? b = some o -> b ∉ X.ex
 exfs:∀ b ∈ X.ex,b ∉ X.fs
 funs:X.s₀.heap.FunFrames X.base X.outer
 frf:∀ b ∈ X.fs,X.H₀ b = none
structure Inv (X:Cx) (pins:List (Addr × Obj)) (σ:List (Option V)) (H:Hp) (s:Shared):Prop where
 ok:X.Ok
 os:s.os = X.s₀.os
 bare:AllBare s.gens
 base:Un X.fs X.ex X.H₀ H X.s₀.heap s.heap
 loc:∃ m,s.heap.Ns X.env.locals m /\ ∀ (i:Nat) (x:Str) (v:V),X.N[i]? = some x -> σ[i]? = some (some v) -> Vis X.env.scope x -> ∃ u,RelV v u /\ Bu X.env s.heap m x u
 cell:∀ x c,X.env.cells.lookup x = some c -> ∃ v,s.heap.IsCell c v
 free:H X.env.locals = none
 freeC:∀ x c,X.env.cells.lookup x = some c -> H c = none
 pin:∀ p ∈ X.pn ++ pins,s.heap.get? p.1 = some p.2 /\ H p.1 = none /\ p.1 ≠ X.env.locals /\ p.1 ∉ X.fs /\ ∀ v,p.2.data ≠ .cell v
 hok:HOk X.prog X.w H s.heap
 len:σ.length = X.N.length
section
variable {X:Cx} {pins:List (Addr × Obj)} {σ:List (Option V)} {H H':Hp} {s:Shared} {h':Heap}
theorem Cx.Ok.nofr (ok:X.Ok) {b:Addr} {o:Obj} (e:X.base.get? b = some o):b ∉ X.fs:=fun hb=>by
 have:=(ok.funs.mem hb).1
 rw [e] at this; cases this
theorem Inv.bs (I:Inv X pins σ H s):∀ b o,X.base.get? b = some o -> s.heap.get? b = some o /\ H b = none:=fun b o e =>
 ⟨I.base.keep b o (I.ok.bs b o e).1 (I.ok.bs b o e).2 (I.ok.nofr e) (I.ok.noex b o e),I.base.free b o (I.ok.bs b o e).1 (I.ok.bs b o e).2 (I.ok.noex b o e)⟩
theorem Inv.bk (I:Inv X pins σ H s):∀ b o,X.base.get? b = some o -> s.heap.get? b = some o:=fun b o e=>(I.bs b o e).1
theorem Inv.mod (I:Inv X pins σ H s):Mod X.K X.mg X.base:=I.ok.mod
theorem Inv.kIn (I:Inv X pins σ H s):X.K.In s.heap:=I.ok.mod.kin.keeps I.bk
theorem Inv.fr (I:Inv X pins σ H s):∃ m,Fr X.base X.env.locals s.heap m :=
 let ⟨m,hn,_⟩:=I.loc
 ⟨m,hn,I.bk,Nat.le_trans I.ok.bsz I.ok.above⟩
theorem Inv.lt (I:Inv X pins σ H s):X.env.locals < s.heap.objs.size:=let ⟨_,hn,_⟩:=I.loc; hn.lt
theorem Inv.sz (I:Inv X pins σ H s):X.s₀.heap.objs.size <= s.heap.objs.size:=Nat.le_trans I.ok.above (Nat.le_of_lt I.lt)
theorem Inv.nofs (I:Inv X pins σ H s) {a:Addr} (h:s.heap.objs.size <= a):a ∉ X.fs:=fun hb=>by
 obtain ⟨_,o,ho,_⟩:=I.ok.funs.mem hb
 exact absurd (Nat.lt_of_lt_of_le (Heap.lt_size ho) (Nat.le_trans I.sz h)) (Nat.lt_irrefl _)
theorem Inv.cne (I:Inv X pins σ H s):∀ x c,X.env.cells.lookup x = some c -> c ≠ X.env.locals:=fun x c e z=>by
 obtain ⟨v,o,ho,hd⟩:=I.cell x c e
 obtain ⟨m,⟨o',es,ep,ho',hd',_⟩,_⟩:=I.loc
 rw [z,ho'] at ho; cases ho; rw [hd'] at hd; cases hd
theorem Inv.funs (I:Inv X pins σ H s):s.heap.FunFrames X.base X.outer:=by
 have all:∀ (l:List Env),(∀ b ∈ frs l,b ∈ X.fs) -> X.s₀.heap.FunFrames X.base l -> s.heap.FunFrames X.base l:=by
  intro l
  induction l with
  | nil=>intro _ _; trivial
  | cons env r ih =>
   intro hs hl
   obtain ⟨hk,⟨L,o,hf,hn,ho,hd⟩,hr⟩:=hl
   have hL:L ∈ X.fs:=hs L (by unfold frs; rw [List.filterMap_cons,hf]; exact List.mem_cons_self)
   obtain ⟨sl,e⟩:=I.base.slot L o ho (I.ok.frf L hL) hL fun z=>I.ok.exfs L z hL
   exact ⟨hk,⟨L,_,hf,hn,e,hd⟩,ih (fun b hb=>hs b (by unfold frs; rw [List.filterMap_cons,hf]; exact List.mem_cons_of_mem _ hb)) hr⟩
 exact all X.outer (fun _ hb=>hb) I.ok.funs
theorem Inv.stack (I:Inv X pins σ H s):s.heap.FunFrames X.base X.stack:=by
 rcases I.ok.stk with e | ⟨e,hf⟩
 ·rw [e]; exact I.funs
 ·rw [e]
  obtain ⟨m,hn,_⟩:=I.loc
  refine .cons (by rw [I.ok.kind]; decide) hf hn ?_ I.funs
  exact Heap.get?_none_of_le (Nat.le_trans I.ok.bsz I.ok.above)
theorem Inv.stkSub (I:Inv X pins σ H s):∀ b ∈ frs X.stack,b ∈ X.env.locals :: X.fs:=fun b hb=>by
 rcases I.ok.stk with e | ⟨e,hf⟩
 ·rw [e] at hb; exact List.mem_cons_of_mem _ hb
 ·rw [e] at hb
  unfold frs at hb
  rw [List.filterMap_cons,hf] at hb
  exact hb
theorem Inv.stkFree (I:Inv X pins σ H s):∀ b ∈ frs X.stack,H b = none:=fun b hb=>by
 rcases List.mem_cons.mp (I.stkSub b hb) with e | hb
 ·rw [e]; exact I.free
 ·obtain ⟨_,o,ho,_⟩:=I.ok.funs.mem hb
  exact I.base.free b o ho (I.ok.frf b hb) fun z=>I.ok.exfs b z hb
theorem Inv.step {g':Array GenState} {t':Nat} {d':Drawn} {ch:List Addr} (I:Inv X pins σ H s)
  (hch:∀ b ∈ ch,(b ∈ X.ex \/ X.s₀.heap.objs.size <= b) /\ b ≠ X.env.locals /\ (∀ x c,X.env.cells.lookup x = some c -> c ≠ b) /\ ∀ p ∈ X.pn ++ pins,p.1 ≠ b)
  (keep:∀ b o,b ≠ X.env.locals -> b ∉ X.fs -> b ∉ ch -> s.heap.get? b = some o -> H b = none -> h'.get? b = some o)
  (slot:∀ b o,b ≠ X.env.locals -> b ∈ X.fs -> b ∉ ch -> s.heap.get? b = some o -> H b = none -> ∃ sl,h'.get? b = some { o with slots:=sl }) (free:∀ b o,b ∉ ch -> s.heap.get? b = some o -> H b = none -> H' b = none)
  (there:∀ b o,b ∉ ch -> s.heap.get? b = some o -> ∃ o',h'.get? b = some o')
  (tups:∀ b xs,H b = some (.tup xs) -> H' b = some (.tup xs)) (frzs:∀ b o u,H b = some (.frz o u) -> H' b = some (.frz o u)) (tbls:∀ b ps,H b = some (.tbl ps) -> ∃ more,H' b = some (.tbl (ps ++ more)))
  (ns:∀ m,s.heap.Ns X.env.locals m -> h'.Ns X.env.locals m) (hok:HOk X.prog X.w H' h') (hg:AllBare g') :
  Inv X pins σ H' { s with heap:=h',gens:=g',drawn:=d',toks:=t' }:=by
 have neL:∀ b o,X.s₀.heap.get? b = some o -> b ≠ X.env.locals:=fun b o e=>Nat.ne_of_lt (Nat.lt_of_lt_of_le (Heap.lt_size e) I.ok.above)
 have neC:∀ b o,X.s₀.heap.get? b = some o -> b ∉ X.ex -> b ∉ ch:=fun b o e hx hb=>by
  rcases (hch b hb).1 with z | z
  ·exact hx z
  ·exact absurd (Nat.lt_of_lt_of_le (Heap.lt_size e) z) (Nat.lt_irrefl _)
 have cellK:∀ x c,X.env.cells.lookup x = some c -> ∀ v,s.heap.IsCell c v -> h'.IsCell c v:=fun x c e v ⟨o,ho,hd⟩=>by
  have nch:c ∉ ch:=fun z=>(hch c z).2.2.1 x c e rfl
  by_cases hc:c ∈ X.fs
  ·obtain ⟨sl,q⟩:=slot c o (I.cne x c e) hc nch ho (I.freeC x c e)
   exact ⟨_,q,hd⟩
  ·exact ⟨o,keep c o (I.cne x c e) hc nch ho (I.freeC x c e),hd⟩
 refine ⟨I.ok,I.os,hg,⟨fun b o e n hb hx=>?_,fun b o e n hb hx=>?_,fun b o e n hx=>?_,fun b o e hx=>?_,fun b xs e=>tups b xs (I.base.tups b xs e),fun b o xs e=>frzs b o xs (I.base.frzs b o xs e),fun b ps e=>?_⟩,?_,fun x c e=>?_,?_,fun x c e=>?_,fun p hp=>?_,hok,I.len⟩
 ·exact keep b o (neL b o e) hb (neC b o e hx) (I.base.keep b o e n hb hx) (I.base.free b o e n hx)
 ·obtain ⟨sl,e1⟩:=I.base.slot b o e n hb hx
  obtain ⟨sl',e2⟩:=slot b _ (neL b o e) hb (neC b o e hx) e1 (I.base.free b o e n hx)
  exact ⟨sl',e2⟩
 ·obtain ⟨o',e1⟩:=I.base.there b o e hx
  exact free b o' (neC b o e hx) e1 (I.base.free b o e n hx)
 ·obtain ⟨o',e1⟩:=I.base.there b o e hx
  exact there b o' (neC b o e hx) e1
 ·obtain ⟨m1,e1⟩:=I.base.tbls b ps e
  obtain ⟨m2,e2⟩:=tbls b _ e1
  exact ⟨m1 ++ m2,by rw [e2,Array.append_assoc]⟩
 ·obtain ⟨m,hn,hl⟩:=I.loc
  refine ⟨m,ns m hn,fun i x v e1 e2 e3=>?_⟩
  obtain ⟨u,r,l⟩:=hl i x v e1 e2 e3
  refine ⟨u,r,?_⟩
  rcases l with l | ⟨k,c,e,z⟩
  ·exact .inl l
  ·exact .inr ⟨k,c,e,cellK x c e _ z⟩
 ·obtain ⟨v,z⟩:=I.cell x c e
  exact ⟨v,cellK x c e v z⟩
 ·obtain ⟨m,⟨o,_,_,ho,_⟩,_⟩:=I.loc
  exact free _ o (fun z=>(hch _ z).2.1 rfl) ho I.free
 ·obtain ⟨v,o,ho,hd⟩:=I.cell x c e
  exact free c o (fun z=>(hch c z).2.2.1 x c e rfl) ho (I.freeC x c e)
 ·obtain ⟨e,n,ne,nf,d⟩:=I.pin p hp
  have nch:p.1 ∉ ch:=fun z=>(hch p.1 z).2.2.2 p hp rfl
  exact ⟨keep p.1 p.2 ne nf nch e n,free p.1 p.2 nch e n,ne,nf,d⟩
theorem Inv.un {t':Nat} (I:Inv X pins σ H s) (u:Un X.fs [] H H' s.heap h') (hok:HOk X.prog X.w H' h'):Inv X pins σ H' { s with heap:=h',toks:=t' }:=by
 obtain ⟨m,⟨o,es,ep,ho,r⟩,_⟩:=id I.loc
 obtain ⟨sl,hL⟩:=u.any ho I.free (by simp)
 exact I.step (g':=s.gens) (d':=s.drawn) (ch:=[]) (fun _ z=>nomatch z) (fun b o _ hb _ e n=>u.keep b o e n hb (by simp)) (fun b o _ hb _ e n=>u.slot b o e n hb (by simp)) (fun b o _ e n=>u.free b o e n (by simp)) (fun b o _ e=>u.there b o e (by simp)) u.tups u.frzs u.tbls (fun m' hm=>by
  obtain ⟨o',es',ep',ho',r'⟩:=hm
  rw [ho] at ho'; cases ho'
  exact ⟨_,es',ep',hL,r'⟩) hok I.bare
theorem Inv.call {g':Array GenState} {t':Nat} {d':Drawn} {ch:List Addr} (I:Inv X pins σ H s) (u:Un (frs X.stack) ch H H' s.heap h') (hok:HOk X.prog X.w H' h') (hg:AllBare g')
  (hch:∀ b ∈ ch,(b ∈ X.ex \/ X.s₀.heap.objs.size <= b) /\ b ≠ X.env.locals /\ (∀ x c,X.env.cells.lookup x = some c -> c ≠ b) /\ ∀ p ∈ X.pn ++ pins,p.1 ≠ b) :
  Inv X pins σ H' { s with heap:=h',gens:=g',drawn:=d',toks:=t' }:=by
 obtain ⟨m,⟨o,es,ep,ho,r⟩,_⟩:=id I.loc
 obtain ⟨sl,hL⟩:=u.any ho I.free fun z=>(hch _ z).2.1 rfl
 exact I.step (ch:=ch) hch (fun b o hL hb hc e n=>u.keep b o e n (fun z=>(List.mem_cons.mp (I.stkSub b z)).elim hL hb) hc) (fun b o _ _ hc e n=>u.any e n hc) (fun b o hc e n=>u.free b o e n hc) (fun b o hc e=>u.there b o e hc) u.tups u.frzs u.tbls (fun m' hm=>by
  obtain ⟨o',es',ep',ho',r'⟩:=hm
  rw [ho] at ho'; cases ho'
  exact ⟨_,es',ep',hL,r'⟩) hok hg
theorem Inv.turned {t':Nat} {it:Addr} (I:Inv X pins σ H s) (k:∀ b o,b ≠ it -> s.heap.get? b = some o -> h'.get? b = some o) (hn:H it = none) (hL:it ≠ X.env.locals)
  (h1:it ∈ X.ex \/ X.s₀.heap.objs.size <= it) (h2:∀ x c,X.env.cells.lookup x = some c -> c ≠ it) (h3:∀ p ∈ X.pn ++ pins,p.1 ≠ it):Inv X pins σ H { s with heap:=h',toks:=t' }:=by
 have nit:∀ b u,H b = some u -> b ≠ it:=fun b u e z=>by rw [z,hn] at e; cases e
 refine I.step (g':=s.gens) (d':=s.drawn) (ch:=[it]) (fun b hb=>?_) (fun b o _ _ hc e _=>k b o (fun z=>hc (by simp [z])) e) (fun b o _ _ hc e _=>⟨o.slots,k b o (fun z=>hc (by simp [z])) e⟩) (fun _ _ _ _ n=>n)
  (fun b o hc e=>⟨o,k b o (fun z=>hc (by simp [z])) e⟩) (fun _ _ e=>e) (fun _ _ _ e=>e) (fun b ps e=>⟨#[],by rw [e]; simp⟩) (fun m hm=>?_) (fun b u e=>?_) I.bare
 ·have e:b = it:=by simpa using hb
  subst e
  exact ⟨h1,hL,h2,h3⟩
 ·obtain ⟨o,es,ep,ho,r⟩:=hm
  exact ⟨o,es,ep,k _ o (Ne.symm hL) ho,r⟩
 ·refine (I.hok b u e).stay (fun c v hc q=>k c v ?_ q) (fun _ q=>q) fun _ _ q=>q
  rcases hc with z | z
  ·rw [z]; exact nit b u e
  ·exact nit c _ z
theorem Inv.tok (I:Inv X pins σ H s) (t:Nat):Inv X pins σ H { s with toks:=t }:=I.un (h':=s.heap) (t':=t) Un.refl I.hok
theorem Inv.kept {t':Nat} (I:Inv X pins σ H s) (k:∀ b u,s.heap.get? b = some u -> h'.get? b = some u):Inv X pins σ H { s with heap:=h',toks:=t' }:=I.un (Un.kept k) (I.hok.kept k)
theorem Inv.laid {a:Addr} {o:HO} {t':Nat} (I:Inv X pins σ H s) (k:∀ b u,s.heap.get? b = some u -> h'.get? b = some u) (hp:s.heap.objs.size <= a) (new:ObjOk X.prog X.w (upd H a o) h' a o) :
  Inv X pins σ (upd H a o) { s with heap:=h',toks:=t' }:=I.un (Un.laid k hp (I.hok.fresh hp)) (I.hok.laid k hp new)
theorem Inv.write {x e:Addr} {o:HO} {t':Nat} (I:Inv X pins σ H s) (mu:Mut (H x)) (he:e = x \/ H e = some (.own x)) (k:∀ b u,b ≠ e -> s.heap.get? b = some u -> h'.get? b = some u) (heo:∃ u,h'.get? e = some u)
  (new:ObjOk X.prog X.w (upd H x o) h' x o):Inv X pins σ (upd H x o) { s with heap:=h',toks:=t' }:=I.un (Un.write mu he k heo) (I.hok.write mu he k heo new)
theorem Inv.weak {σ':List (Option V)} (I:Inv X pins σ H s) (hl:σ'.length = σ.length) (w:∀ (i:Nat) v,σ'[i]? = some (some v) -> σ[i]? = some (some v)):Inv X pins σ' H s :=
 ⟨I.ok,I.os,I.bare,I.base,let ⟨m,hn,hl'⟩:=I.loc; ⟨m,hn,fun i x v e1 e2 e3=>hl' i x v e1 (w i v e2) e3⟩,I.cell,I.free,I.freeC,I.pin,I.hok,hl.trans I.len⟩
theorem Inv.pins_of {pins':List (Addr × Obj)} (I:Inv X pins σ H s) (h:∀ p ∈ pins',s.heap.get? p.1 = some p.2 /\ H p.1 = none /\ p.1 ≠ X.env.locals /\ p.1 ∉ X.fs /\ ∀ v,p.2.data ≠ .cell v):Inv X pins' σ H s :=
 ⟨I.ok,I.os,I.bare,I.base,I.loc,I.cell,I.free,I.freeC,fun p hp=>(List.mem_append.mp hp).elim (fun z=>I.pin p (List.mem_append_left _ z)) (h p),I.hok,I.len⟩
theorem hZ {N:List Str} (hN:N.Nodup) {i j:Nat} {x:Str} (a:N[i]? = some x) (b:N[j]? = some x):i = j:=by
 obtain ⟨h1,e1⟩:=List.getElem?_eq_some_iff.mp a
 obtain ⟨h2,e2⟩:=List.getElem?_eq_some_iff.mp b
 exact (List.getElem_inj hN).mp (e1.trans e2.symm)
theorem fE {M:Model} {A:Around} {E:Value -> Shared -> Prop} {i:Nat} {x:Str} {v:V} {u:Value} {Q:Unit -> Shared -> Prop} (I:Inv X pins σ H s) (hN:X.N.Nodup) (hi:X.N[i]? = some x) (hx:Loc X.env.scope x) (r:RelV v u)
  (h:∀ s',Inv X pins (σ.set i (some v)) H s' -> (∃ a,Heap.SameBut a s.heap s'.heap /\ (a = X.env.locals \/ X.env.cells.lookup x = some a)) -> Q () s') (hf:X.fn x = true \/ X.env.scope.names.lookup x = some .local:=by first | exact .inl rfl | exact .inr rfl | assumption):wpAny M A (storeName X.env x u) Q E s:=by
 obtain ⟨m,hn,hl⟩:=id I.loc
 have hcls:(X.env.scope.kind == .class || (X.env.scope.kind == .module && X.env.locals != X.env.globals)) = false:=by rw [I.ok.kind]; rfl
 have hiσ:i < σ.length:=by rw [I.len]; exact (List.getElem?_eq_some_iff.mp hi).1
 have cne:=I.cne
 have tracked:∀ {a:Addr} {h':Heap},(∃ o,s.heap.get? a = some o /\ H a = none) -> Heap.SameBut a s.heap h' -> HOk X.prog X.w H h':=fun {a h'} ha hs b ob e=>by
  obtain ⟨_,_,hfree⟩:=ha
  refine (I.hok b ob e).stay (fun c w' hc q=>(hs.2 c ?_).trans q) (fun _ q=>q) fun _ _ q=>q
  rintro rfl
  rcases hc with rfl | hc
  ·rw [hfree] at e; cases e
  ·rw [hfree] at hc; cases hc
 rcases hx with hk | hk
 ·refine wpAny_storeName_local hk hn (fun h' hn' hs=>?_) hcls
  obtain ⟨oL,_,_,hoL,_⟩:=id hn
  refine h _ ⟨I.ok,I.os,I.bare,⟨fun b o e n hb hx=>?_,fun b o e n hb hx=>?_,I.base.free,fun b o e hx=>?_,I.base.tups,I.base.frzs,I.base.tbls⟩,⟨_,hn',fun j y v' e1 e2 e3=>?_⟩,fun y c e=>?_,I.free,I.freeC,fun p hp=>?_,tracked ⟨oL,hoL,I.free⟩ hs,by simpa using I.len⟩ ⟨_,hs,.inl rfl⟩
  ·exact (hs.2 b (Nat.ne_of_lt (Nat.lt_of_lt_of_le (Heap.lt_size e) I.ok.above))).trans (I.base.keep b o e n hb hx)
  ·obtain ⟨sl,e1⟩:=I.base.slot b o e n hb hx
   exact ⟨sl,(hs.2 b (Nat.ne_of_lt (Nat.lt_of_lt_of_le (Heap.lt_size e) I.ok.above))).trans e1⟩
  ·obtain ⟨o',e1⟩:=I.base.there b o e hx
   exact ⟨o',(hs.2 b (Nat.ne_of_lt (Nat.lt_of_lt_of_le (Heap.lt_size e) I.ok.above))).trans e1⟩
  ·by_cases hj:j = i
   ·subst hj
    rw [hi] at e1; cases e1
    rw [List.getElem?_set_self hiσ] at e2
    cases e2
    exact ⟨u,r,.inl ⟨hk,by simp⟩⟩
   ·rw [List.getElem?_set_ne (Ne.symm hj)] at e2
    obtain ⟨u',r',q⟩:=hl j y v' e1 e2 e3
    refine ⟨u',r',?_⟩
    rcases q with ⟨k,e⟩ | ⟨k,c,e,z⟩
    ·refine .inl ⟨k,?_⟩
     have:y ≠ x:=fun e=>hj (hZ hN e1 (e ▸ hi))
     simp [this,e]
    ·exact .inr ⟨k,c,e,z.sameBut hs (cne y c e)⟩
  ·obtain ⟨w',z⟩:=I.cell y c e
   exact ⟨w',z.sameBut hs (cne y c e)⟩
  ·obtain ⟨e,n,ne,nf,d⟩:=I.pin p hp
   exact ⟨(hs.2 p.1 ne).trans e,n,ne,nf,d⟩
 ·have hfn:X.fn x = true:=by
   rcases hf with z | z
   ·exact z
   ·rw [z] at hk; cases hk
  obtain ⟨c,hc⟩:=I.ok.has x (.inl hk)
  obtain ⟨w',z⟩:=I.cell x c hc
  refine wpAny_storeName_cell I.ok.kind hk hc z (fun h' hc' hs=>?_)
  obtain ⟨oc,hoc,hocd⟩:=id z
  refine h { s with heap:=h' } ⟨I.ok,I.os,I.bare,⟨fun b o e n hb hx=>?_,fun b o e n hb hx=>?_,I.base.free,fun b o e hx=>?_,I.base.tups,I.base.frzs,I.base.tbls⟩,⟨m,hn.sameBut hs (Ne.symm (cne x c hc)),fun j y v' e1 e2 e3=>?_⟩,fun y c' e=>?_,I.free,I.freeC,fun p hp=>?_,tracked ⟨oc,hoc,I.freeC x c hc⟩ hs,by simpa using I.len⟩ ⟨c,hs,.inr hc⟩
  ·exact (hs.2 b (Nat.ne_of_lt (Nat.lt_of_lt_of_le (Heap.lt_size e) (I.ok.cab x c hfn hc)))).trans (I.base.keep b o e n hb hx)
  ·obtain ⟨sl,e1⟩:=I.base.slot b o e n hb hx
   exact ⟨sl,(hs.2 b (Nat.ne_of_lt (Nat.lt_of_lt_of_le (Heap.lt_size e) (I.ok.cab x c hfn hc)))).trans e1⟩
  ·obtain ⟨o',e1⟩:=I.base.there b o e hx
   exact ⟨o',(hs.2 b (Nat.ne_of_lt (Nat.lt_of_lt_of_le (Heap.lt_size e) (I.ok.cab x c hfn hc)))).trans e1⟩
  ·by_cases hj:j = i
   ·subst hj
    rw [hi] at e1; cases e1
    rw [List.getElem?_set_self hiσ] at e2
    cases e2
    exact ⟨u,r,.inr ⟨.inl hk,c,hc,hc'⟩⟩
   ·rw [List.getElem?_set_ne (Ne.symm hj)] at e2
    obtain ⟨u',r',q⟩:=hl j y v' e1 e2 e3
    refine ⟨u',r',?_⟩
    rcases q with q | ⟨k,c',e,z'⟩
    ·exact .inl q
    ·refine .inr ⟨k,c',e,z'.sameBut hs ?_⟩
     rintro rfl
     exact hj (hZ hN e1 (I.ok.inj _ _ _ e hc ▸ hi))
  ·by_cases hcc:c' = c
   ·subst hcc; exact ⟨_,hc'⟩
   ·obtain ⟨w2,z2⟩:=I.cell y c' e
    exact ⟨w2,z2.sameBut hs hcc⟩
  ·obtain ⟨e,n,ne,nf,d⟩:=I.pin p hp
   refine ⟨(hs.2 p.1 ?_).trans e,n,ne,nf,d⟩
   intro q
   rw [q,hoc] at e
   have q':oc = p.2:=Option.some.inj e
   exact d w' (by rw [<- q']; exact hocd)
theorem iy {M:Model} {A:Around} {E:Value -> Shared -> Prop} {i:Nat} {x:Str} {v:V} {u:Value} {Q:Unit -> Shared -> Prop} (I:Inv X pins σ H s) (hN:X.N.Nodup) (hi:X.N[i]? = some x) (hx:Loc X.env.scope x) (r:RelV v u)
  (h:∀ s',Inv X pins (σ.set i (some v)) H s' -> Q () s') (hf:X.fn x = true \/ X.env.scope.names.lookup x = some .local:=by first | exact .inl rfl | exact .inr rfl | assumption):wpAny M A (storeName X.env x u) Q E s :=
 fE I hN hi hx r (fun s' I' _=>h s' I') hf
theorem Inv.call' {s':Shared} {ch:List Addr} (I:Inv X pins σ H s) (ho:s'.os = s.os) (u:Un (frs X.stack) ch H H' s.heap s'.heap) (hok:HOk X.prog X.w H' s'.heap) (hg:AllBare s'.gens)
  (hch:∀ b ∈ ch,(b ∈ X.ex \/ X.s₀.heap.objs.size <= b) /\ b ≠ X.env.locals /\ (∀ x c,X.env.cells.lookup x = some c -> c ≠ b) /\ ∀ p ∈ X.pn ++ pins,p.1 ≠ b):Inv X pins σ H' s':=by
 obtain ⟨h',g',d',t',o'⟩:=s'
 have e:o' = s.os:=ho
 subst e
 exact I.call (g':=g') (t':=t') (d':=d') u hok hg hch
end
abbrev XK:=Value -> Option Addr -> Hp -> Prop
abbrev St:=List (Option V)
abbrev VK:=V -> Hp -> Prop
abbrev TE:=St -> Hp -> VK -> Prop
abbrev TT:=St -> Hp -> (Bool -> Hp -> Prop) -> Prop
abbrev TA:=St -> Hp -> (List V -> Hp -> Prop) -> Prop
structure br where
 nx:St -> Hp -> Prop
 rt:VK
 bk:St -> Hp -> Prop:=fun _ _=>False
 ct:St -> Hp -> Prop:=fun _ _=>False
abbrev TS:=br -> St -> Hp -> Prop
def EP (X:Cx) (pins:List (Addr × Obj)) (σ:St) (Q:VK) (u:Value) (s':Shared):Prop:=∃ v H',Inv X pins σ H' s' /\ RelV v u /\ Q v H'
def TP (X:Cx) (pins:List (Addr × Obj)) (σ:St) (Q:Bool -> Hp -> Prop) (b:Bool) (s':Shared):Prop:=∃ H',Inv X pins σ H' s' /\ Q b H'
def AP (X:Cx) (pins:List (Addr × Obj)) (σ:St) (Q:List V -> Hp -> Prop) (us:List Value) (s':Shared):Prop:=∃ vs H',Inv X pins σ H' s' /\ Vals vs us /\ Q vs H'
def SP (X:Cx) (pins:List (Addr × Obj)) (D:br) (f:Flow) (s':Shared):Prop :=
 match f with
 | .next=>∃ σ' H',Inv X pins σ' H' s' /\ D.nx σ' H'
 | .brk=>∃ σ' H',Inv X pins σ' H' s' /\ D.bk σ' H'
 | .cont=>∃ σ' H',Inv X pins σ' H' s' /\ D.ct σ' H'
 | .ret u=>∃ v σ' H',Inv X pins σ' H' s' /\ RelV v u /\ D.rt v H'
def PE (X:Cx) (e:Expr) (t:TE):Prop :=
 ∀ (pins:List (Addr × Obj)) (s:Shared) (σ:St) (H:Hp) (Q:VK),Inv X pins σ H s -> t σ H Q -> wpAny (model X.prog X.w) X.A (eval e X.env) (EP X pins σ Q) X.xe s
def PT (X:Cx) (e:Expr) (t:TT):Prop :=
 ∀ (pins:List (Addr × Obj)) (s:Shared) (σ:St) (H:Hp) (Q:Bool -> Hp -> Prop),Inv X pins σ H s -> t σ H Q -> wpAny (model X.prog X.w) X.A (isTrue e X.env (eval e X.env)) (TP X pins σ Q) X.xe s
def PW (X:Cx) (e:Expr) (t:TT):Prop :=
 ∀ (whole:Sem Value) (pins:List (Addr × Obj)) (s:Shared) (σ:St) (H:Hp) (Q:Bool -> Hp -> Prop),Inv X pins σ H s -> t σ H Q -> wpAny (model X.prog X.w) X.A (isTrue e X.env whole) (TP X pins σ Q) X.xe s
theorem PW.pt {X:Cx} {e:Expr} {t:TT} (h:PW X e t):PT X e t:=h _
def PA (X:Cx) (es:List Expr) (t:TA):Prop :=
 ∀ (pos:Pos) (pins:List (Addr × Obj)) (s:Shared) (σ:St) (H:Hp) (Q:List V -> Hp -> Prop),Inv X pins σ H s -> t σ H Q -> wpAny (model X.prog X.w) X.A (spliced (backTo pos (starEach es X.env))) (AP X pins σ Q) X.xe s
def PS (X:Cx) (st:Stmt) (t:TS):Prop :=
 ∀ (pins:List (Addr × Obj)) (s:Shared) (σ:St) (H:Hp) (D:br),Inv X pins σ H s -> t D σ H -> wpAny (model X.prog X.w) X.A (exec st X.env) (SP X pins D) X.xe s
def PSs (X:Cx) (st:List Stmt) (t:TS):Prop :=
 ∀ (pins:List (Addr × Obj)) (s:Shared) (σ:St) (H:Hp) (D:br),Inv X pins σ H s -> t D σ H -> wpAny (model X.prog X.w) X.A (execs st X.env) (SP X pins D) X.xe s
theorem thn {α:Type} {t:Sem α} {Q Q':α -> Shared -> Prop} {M:Model} {A:Around} {E:Value -> Shared -> Prop} {s:Shared} (h:wpAny M A t Q E s) (hQ:∀ a s,Q a s -> Q' a s):wpAny M A t Q' E s:=wpAny_mono h hQ fun _ _ x=>x
end L2
namespace L2
open PySem PySem.Spec PyProof.Rows
section
variable {X:Cx}
theorem bin {a b:Expr} {ta tb:TE} (ha:PE X a ta) (hb:PE X b tb) {pins:List (Addr × Obj)} {s:Shared} {σ:St} {H:Hp} {R:V -> V -> Hp -> Prop} (I:Inv X pins σ H s) (h:ta σ H fun x H1=>tb σ H1 fun y H2=>R x y H2)
  {α:Type} {Q:α -> Shared -> Prop} {f:Value -> Value -> Sem α}
  (hf:∀ v u s2 x y H2,Inv X pins σ H2 s2 -> RelV x v -> RelV y u -> R x y H2 -> wpAny (model X.prog X.w) X.A (f v u) Q X.xe s2) :
  wpAny (model X.prog X.w) X.A (eval a X.env) (fun v s₁=>wpAny (model X.prog X.w) X.A (eval b X.env) (fun u s₂=>wpAny (model X.prog X.w) X.A (f v u) Q X.xe s₂) X.xe s₁) X.xe s:=by
 refine thn (ha pins s σ H _ I h) fun v s1 ⟨x,H1,I1,r1,q1⟩=>?_
 refine thn (hb pins s1 σ H1 _ I1 q1) fun u s2 ⟨y,H2,I2,r2,q2⟩=>?_
 exact hf v u s2 x y H2 I2 r1 r2 q2
def lq (i:Nat):TE:=fun σ H Q=>∃ v,σ[i]? = some (some v) /\ Q v H
def tC (v:V):TE:=fun _ H Q=>Q v H
theorem cj {i:Nat} {x:Str} {pos:Pos} (hN:X.N[i]? = some x) (hv:Vis X.env.scope x) (hd:(x == ("__debug__":Str)) = false:=by decide) (hcd:(x == ("__classdict__":Str)) = false:=by decide):PE X (.Name x pos) (lq i):=by
 intro pins s σ H Q I h
 obtain ⟨v,e,h⟩:=h
 obtain ⟨m,hn,hl⟩:=I.loc
 obtain ⟨u,r,l⟩:=hl i x v hN e hv
 have fin:EP X pins σ Q u s:=⟨v,H,I,r,h⟩
 rcases l with ⟨hk,hm⟩ | ⟨hk,c,hc,hcell⟩
 ·exact wpAny_Name (wpAny_loadName_local I.ok.kind hk hn hm fin) hd
 ·rcases hk with hk | hk
  ·exact wpAny_Name (wpAny_loadName_cell I.ok.kind hk hc hcell fin) hd
  ·exact wpAny_Name (wpAny_loadName_free I.ok.kind hk hc hcell fin hcd) hd
theorem i8 {i j pos}:PE X (.Constant (.int i) j pos) (tC (.int i)):=fun _ _ _ H _ I h=>wpAny_Constant_int ⟨.int i,H,I.tok _,⟨_,rfl⟩,h⟩
theorem zS {b j pos}:PE X (.Constant (.bool b) j pos) (tC (.bl b)):=fun _ _ _ H _ I h=>Constant_bool ⟨.bl b,H,I,rfl,h⟩
theorem uY {j pos}:PE X (.Constant .none j pos) (tC .non):=fun _ _ _ H _ I h=>Constant_none ⟨.non,H,I,rfl,h⟩
theorem u0 {x j pos}:PE X (.Constant (.str x) j pos) (tC (.str x)):=fun _ _ _ H _ I h=>Calls.Constant_str ⟨.str x,H,I.tok _,⟨_,rfl⟩,h⟩
def Gl (X:Cx) (x:Str):Prop:=X.env.kindOf x = some .globalImplicit
theorem km {E:Value -> Shared -> Prop} {pins:List (Addr × Obj)} {s:Shared} {σ:St} {H:Hp} {x:Str} {u:Value} {pos:Pos} {Q:Value -> Shared -> Prop} (I:Inv X pins σ H s) (hg:Gl X x) (hm:X.mg x = some u) (h:Q u s)
  (hd:(x == ("__debug__":Str)) = false:=by decide):wpAny (model X.prog X.w) X.A (eval (.Name x pos) X.env) Q E s :=
 Calls.Name_function_global I.ok.kind hg (Calls.loadGlobal_global (by rw [I.ok.glob]; exact I.mod.glob.keeps I.bk) hm h) hd
theorem cf {E:Value -> Shared -> Prop} {pins:List (Addr × Obj)} {s:Shared} {σ:St} {H:Hp} {x:Str} {u:Value} {pos:Pos} {Q:Value -> Shared -> Prop} (I:Inv X pins σ H s) (hg:Gl X x) (hm:X.mg x = none) (hv:bootBuiltins x = some u) (h:Q u s)
  (hn:x ≠ "__name__":=by decide) (hd:(x == ("__debug__":Str)) = false:=by decide):wpAny (model X.prog X.w) X.A (eval (.Name x pos) X.env) Q E s:=by
 obtain ⟨mb,h1,h2⟩:=I.mod.blt
 exact Calls.Name_function_global I.ok.kind hg (Calls.loadGlobal_builtin (by rw [I.ok.glob]; exact I.mod.glob.keeps I.bk) hm (by rw [I.ok.blt]; exact h1.keeps I.bk) ((h2 x hn).trans hv) h) hd
theorem qV {x:Str} {v:V} {u:Value} {pos:Pos} (hg:Gl X x) (hm:X.mg x = some u) (r:RelV v u) (hd:(x == ("__debug__":Str)) = false:=by decide):PE X (.Name x pos) (tC v) :=
 fun _ _ _ H _ I h=>km I hg hm ⟨v,H,I,r,h⟩ hd
theorem rG {x:Str} {v:V} {u:Value} {pos:Pos} (hg:Gl X x) (hm:X.mg x = none) (hv:bootBuiltins x = some u) (r:RelV v u) (hn:x ≠ "__name__":=by decide) (hd:(x == ("__debug__":Str)) = false:=by decide):PE X (.Name x pos) (tC v) :=
 fun _ _ _ H _ I h=>cf I hg hm hv ⟨v,H,I,r,h⟩ hn hd
def t2I (ta tb:TE) (k:Int -> Int -> Hp -> Prop):St -> Hp -> Prop:=fun σ H=>ta σ H fun x H1=>tb σ H1 fun y H2=>∃ i j,x = .int i /\ y = .int j /\ k i j H2
def Cv (ta tb:TE):TE:=fun σ H Q=>t2I ta tb (fun i j H2=>Q (.int (i + j)) H2) σ H
def Cz (ta tb:TE):TE:=fun σ H Q=>t2I ta tb (fun i j H2=>Q (.int (i - j)) H2) σ H
def Cn (ta tb:TE):TE:=fun σ H Q=>t2I ta tb (fun i j H2=>(-(2 ^ 64) < i /\ i < 2 ^ 64) /\ Q (.int (i * j)) H2) σ H
variable {a b:Expr} {ta tb:TE} {pos:Pos}
def PC (X:Cx) (op:CmpOp) (a b:Expr) (t:TE):Prop :=
 ∀ (pins:List (Addr × Obj)) (s:Shared) (σ:St) (H:Hp) (Q:VK),Inv X pins σ H s -> t σ H Q ->
  wpAny (model X.prog X.w) X.A (eval a X.env) (fun v s₁=>wpAny (model X.prog X.w) X.A (eval b X.env) (fun u s₂=>wpAny (model X.prog X.w) X.A (compareOp op v u) (EP X pins σ Q) X.xe s₂) X.xe s₁) X.xe s
def kJ (p:Int -> Int -> Bool) (ta tb:TE):TE:=fun σ H Q=>t2I ta tb (fun i j H2=>Q (.bl (p i j)) H2) σ H
abbrev tLt:TE -> TE -> TE:=kJ fun i j=>decide (i < j)
abbrev tLe:TE -> TE -> TE:=kJ fun i j=>decide (i <= j)
abbrev tGt:TE -> TE -> TE:=kJ fun i j=>decide (j < i)
abbrev tGe:TE -> TE -> TE:=kJ fun i j=>decide (j <= i)
abbrev Co:TE -> TE -> TE:=kJ fun i j=>decide (i = j)
abbrev CG:TE -> TE -> TE:=kJ fun i j=>!decide (i = j)
def Cu (ta:TE):TE:=fun σ H Q=>ta σ H fun x H1=>Q (.bl (decide (x = .non))) H1
def BX (ta:TE):TE:=fun σ H Q=>ta σ H fun x H1=>Q (.bl (!decide (x = .non))) H1
def tB (t:TE):TT:=fun σ H Q=>t σ H fun x H1=>∃ c,x = .bl c /\ Q c H1
theorem AY {op:CmpOp} {t:TE} (h:PC X op a b t) (h1:behindInMarks op b = false:=by first | exact nobehind _ (by decide) (by decide) | rfl):PT X (.Compare a [op] [b] pos) (tB t):=by
 intro pins s σ H Q I hw
 refine wpAny_isTrue_Compare1 (thn (h pins s σ H _ I hw) fun v s1 h1=>thn h1 fun u s2 h2=>thn h2 fun c s3 ⟨x,H1,I1,r1,q1⟩=>?_) h1
 obtain ⟨d,rfl,q⟩:=q1
 cases r1
 exact wpAny_truthy_bool ⟨H1,I1,q⟩
theorem mj {e:Expr} {t:TE} (h:PE X e t) (he:∀ whole,isTrue e X.env whole = (do let v <- whole; standAt e.pos; holding [v] (truthy v)):=by intro _; rfl):PT X e (tB t):=by
 intro pins s σ H Q I hw
 refine isTrue_plain (thn (h pins s σ H _ I hw) fun v s1 ⟨x,H1,I1,r1,q1⟩=>?_) (he _)
 obtain ⟨d,rfl,q⟩:=q1
 cases r1
 exact wpAny_truthy_bool ⟨H1,I1,q⟩
variable {tA tB':TT} {rest:List Expr}
def zO (t u:TT):TT:=fun σ H Q=>t σ H fun c H1=>if c = true then u σ H1 Q else Q false H1
def tOr (t u:TT):TT:=fun σ H Q=>t σ H fun c H1=>if c = true then Q true H1 else u σ H1 Q
def zk (t:TT):TT:=fun σ H Q=>t σ H fun c H1=>Q (!c) H1
theorem qF (ha:PT X a tA):PW X (.BoolOp .And [a] pos) tA:=by
 intro wh pins s σ H Q I h
 refine isTrue_and (thn (ha pins s σ H Q I h) fun c s1 e=>?_)
 cases c with
 | true=>exact isTrue_and_nil e
 | false=>exact e
theorem vM (ha:PT X a tA):PW X (.BoolOp .Or [a] pos) tA:=by
 intro wh pins s σ H Q I h
 refine isTrue_or (thn (ha pins s σ H Q I h) fun c s1 e=>?_)
 cases c with
 | false=>exact isTrue_or_nil e
 | true=>exact e
theorem vg (ha:PT X a tA) (hb:PW X (.BoolOp .And (b :: rest) pos) tB'):PW X (.BoolOp .And (a :: b :: rest) pos) (zO tA tB'):=by
 intro wh pins s σ H Q I h
 refine isTrue_and (thn (ha pins s σ H _ I h) fun c s1 ⟨H1,I1,q1⟩=>?_)
 cases c with
 | true=>exact hb wh pins s1 σ H1 Q I1 q1
 | false=>exact ⟨H1,I1,q1⟩
theorem zJ (ha:PT X a tA) (hb:PW X (.BoolOp .Or (b :: rest) pos) tB'):PW X (.BoolOp .Or (a :: b :: rest) pos) (tOr tA tB'):=by
 intro wh pins s σ H Q I h
 refine isTrue_or (thn (ha pins s σ H _ I h) fun c s1 ⟨H1,I1,q1⟩=>?_)
 cases c with
 | true=>exact ⟨H1,I1,q1⟩
 | false=>exact hb wh pins s1 σ H1 Q I1 q1
theorem vE (ha:PT X a tA):PT X (.UnaryOp .Not a pos) (zk tA):=by
 intro pins s σ H Q I h
 exact isTrue_not (ha pins s σ H (fun c H1=>Q (!c) H1) I h)
def BY (ta tb:TE):TE:=fun σ H Q=>ta σ H fun x H1=>∃ c,x = .bl c /\ if c = true then tb σ H1 Q else Q (.bl false) H1
def CC (ta tb:TE):TE:=fun σ H Q=>ta σ H fun x H1=>∃ c,x = .bl c /\ if c = true then Q (.bl true) H1 else tb σ H1 Q
def BS (ta:TE):TE:=fun σ H Q=>ta σ H fun x H1=>∃ c,x = .bl c /\ Q (.bl (!c)) H1
theorem uD {op} {t:TE} (h:PE X a t):PE X (.BoolOp op [a] pos) t:=fun pins s σ H Q I hw=>BoolOp_one (h pins s σ H Q I hw)
def tIf (t:TT) (ta tb:TE):TE:=fun σ H Q=>t σ H fun c H1=>if c = true then ta σ H1 Q else tb σ H1 Q
theorem nC {c:Expr} (hc:PT X c tA) (ha:PE X a ta) (hb:PE X b tb):PE X (.IfExp c a b pos) (tIf tA ta tb):=by
 intro pins s σ H Q I h
 refine wpAny_IfExp (thn (hc pins s σ H _ I h) fun d s1 ⟨H1,I1,q1⟩=>?_)
 cases d with
 | true=>exact ha pins s1 σ H1 Q I1 q1
 | false=>exact hb pins s1 σ H1 Q I1 q1
end
end L2
namespace L2
open PySem PySem.Spec PyProof.Rows
def SqL (K:PySem.W.Frag) (H:Hp) (a:Addr) (xs:List V):Prop :=
 Rd H a (.lst xs) \/
  ∃ (o:Obj) (its:Array Value) (n:Nat),K.lookup a = some o /\ o.cls = .type "list" /\ o.dict = none /\ o.data = .seq its n /\ its.size <= sizeLine /\ Vals xs its.toList
def SqT (K:PySem.W.Frag) (H:Hp) (a:Addr) (xs:List V):Prop :=
 Rd H a (.tup xs) \/
  ∃ (o:Obj) (its:Array Value) (n:Nat),K.lookup a = some o /\ o.cls = .type "tuple" /\ o.data = .seq its n /\ its.size <= sizeLine /\ Vals xs its.toList
def Bj:Value -> Option V
 | .none=>some .non
 | .bool b=>some (.bl b)
 | .int i _=>some (.int i)
 | .str x _=>some (.str x)
 | .bytes b _=>some (.byt b)
 | .float b _=>some (.flt b)
 | .ref a=>some (.ref a)
 | .type n=>some (.ty n)
 | _=>none
theorem RelV.abs {x:V} {u:Value} (r:RelV x u):Bj u = some x:=by
 cases x with
 | non=>cases r; rfl
 | bl _=>cases r; rfl
 | int _=>obtain ⟨t,rfl⟩:=r; rfl
 | str _=>obtain ⟨t,rfl⟩:=r; rfl
 | byt _=>obtain ⟨t,rfl⟩:=r; rfl
 | flt _=>obtain ⟨t,rfl⟩:=r; rfl
 | ref _=>cases r; rfl
 | ty _=>cases r; rfl
theorem RelV.inj {x y:V} {u:Value} (r:RelV x u) (q:RelV y u):x = y:=Option.some.inj (r.abs.symm.trans q.abs)
theorem Vals.inj:∀ {xs ys:List V} {us:List Value},Vals xs us -> Vals ys us -> xs = ys
 | _,_,_,.nil,.nil=>rfl
 | _,_,_,.cons r t,.cons r' t'=>by rw [r.inj r',Vals.inj t t']
section
variable {X:Cx} {pins:List (Addr × Obj)} {σ:St} {H:Hp} {s:Shared} {a:Addr} {xs ys:List V}
theorem SqL.of {K:PySem.W.Frag} (h:H a = some (.lst xs)):SqL K H a xs:=.inl (.inl h)
theorem SqT.of {K:PySem.W.Frag} (h:H a = some (.tup xs)):SqT K H a xs:=.inl (.inl h)
theorem Inv.list (I:Inv X pins σ H s) (h:SqL X.K H a xs):∃ its:List Value,Vals xs its /\ PlainL s.heap a its.toArray /\ xs.length <= sizeLine:=by
 rcases h with h | ⟨o,its,n,hk,hc,hd,hs,hz,r⟩
 ·obtain ⟨z,its,n,r,e⟩:=h.ok I.hok
  exact ⟨its,r,⟨_,n,e,rfl,rfl,rfl⟩,z⟩
 ·refine ⟨its.toList,r,⟨o,n,I.kIn a o hk,hc,hd,by simpa using hs⟩,?_⟩
  have e:=r.length
  simp only [Array.length_toList] at e
  omega
theorem Inv.tuple (I:Inv X pins σ H s) (h:SqT X.K H a xs):∃ its:List Value,Vals xs its /\ IsTup s.heap a its.toArray /\ xs.length <= sizeLine:=by
 rcases h with h | ⟨o,its,n,hk,hc,hs,hz,r⟩
 ·obtain ⟨z,its,r,p⟩:=h.ok I.hok
  exact ⟨its,r,p,z⟩
 ·refine ⟨its.toList,r,⟨o,I.kIn a o hk,hc,n,by simpa using hs⟩,?_⟩
  have e:=r.length
  simp only [Array.length_toList] at e
  omega
theorem Inv.list_inj (I:Inv X pins σ H s) (h:SqL X.K H a xs) (h':SqL X.K H a ys):xs = ys:=by
 obtain ⟨its,r,⟨o,n,e,_,_,d⟩,_⟩:=I.list h
 obtain ⟨its',r',⟨o',n',e',_,_,d'⟩,_⟩:=I.list h'
 rw [e] at e'; cases e'
 rw [d] at d'
 injection d' with d1 _
 have:its = its':=by simpa using congrArg Array.toList d1
 subst this
 exact r.inj r'
theorem Inv.tuple_inj (I:Inv X pins σ H s) (h:SqT X.K H a xs) (h':SqT X.K H a ys):xs = ys:=by
 obtain ⟨its,r,⟨o,e,_,n,d⟩,_⟩:=I.tuple h
 obtain ⟨its',r',⟨o',e',_,n',d'⟩,_⟩:=I.tuple h'
 rw [e] at e'; cases e'
 rw [d] at d'
 injection d' with d1 _
 have:its = its':=by simpa using congrArg Array.toList d1
 subst this
 exact r.inj r'
end
abbrev Cx.wish (X:Cx) (E:Value -> Shared -> Prop):Cx:={ X with xe:=E }
abbrev Cx.nox (X:Cx):Cx:=X.wish fun _ _=>False
theorem Cx.Ok.wish {X:Cx} (ok:X.Ok) (E:Value -> Shared -> Prop):(X.wish E).Ok :=
 ⟨ok.mod,ok.kind,ok.glob,ok.blt,ok.above,ok.inj,ok.has,ok.cab,ok.hd,ok.frames,ok.stk,ok.exf,ok.bs,ok.bsz,ok.noex,ok.exfs,ok.funs,ok.frf⟩
theorem Cx.Ok.unwish {X:Cx} {E:Value -> Shared -> Prop} (ok:(X.wish E).Ok):X.Ok :=
 ⟨ok.mod,ok.kind,ok.glob,ok.blt,ok.above,ok.inj,ok.has,ok.cab,ok.hd,ok.frames,ok.stk,ok.exf,ok.bs,ok.bsz,ok.noex,ok.exfs,ok.funs,ok.frf⟩
section
variable {X:Cx} {pins:List (Addr × Obj)} {σ:St} {H:Hp} {s:Shared} {E:Value -> Shared -> Prop}
theorem Inv.wish (I:Inv X pins σ H s) (E:Value -> Shared -> Prop):Inv (X.wish E) pins σ H s:=⟨I.ok.wish E,I.os,I.bare,I.base,I.loc,I.cell,I.free,I.freeC,I.pin,I.hok,I.len⟩
theorem Inv.unwish (I:Inv (X.wish E) pins σ H s):Inv X pins σ H s:=⟨I.ok.unwish,I.os,I.bare,I.base,I.loc,I.cell,I.free,I.freeC,I.pin,I.hok,I.len⟩
theorem SP.unwish {D:br} {f:Flow} {s':Shared} (h:SP (X.wish E) pins D f s'):SP X pins D f s':=by
 cases f with
 | next=>obtain ⟨σ',H',I,q⟩:=h; exact ⟨σ',H',I.unwish,q⟩
 | brk=>obtain ⟨σ',H',I,q⟩:=h; exact ⟨σ',H',I.unwish,q⟩
 | cont=>obtain ⟨σ',H',I,q⟩:=h; exact ⟨σ',H',I.unwish,q⟩
 | ret u=>obtain ⟨v,σ',H',I,r,q⟩:=h; exact ⟨v,σ',H',I.unwish,r,q⟩
theorem PSs.nox {st:List Stmt} {t:TS} (h:PSs X.nox st t):PSs X st t:=fun pins s σ H D I hw =>
 wpAny_mono (h pins s σ H D (I.wish _) hw) (fun _ _ q=>q.unwish) fun _ _ z=>False.elim z
end
section
variable {X:Cx} {st:Stmt} {rest:List Stmt} {t u:TS} {e:Expr} {te:TE} {pos:Pos}
def tY:TS:=fun D σ H=>D.nx σ H
def zE (t u:TS):TS:=fun D σ H=>t { D with nx:=u D } σ H
theorem gw:PSs X [] tY:=fun _ _ σ H _ I h=>wpAny_execs_nil ⟨σ,H,I,h⟩
theorem iC (h1:PS X st t) (h2:PSs X rest u):PSs X (st :: rest) (zE t u):=by
 intro pins s σ H D I h
 refine wpAny_execs_cons (thn (h1 pins s σ H { D with nx:=u D } I h) fun f s1 q=>?_)
 cases f with
 | next =>
  obtain ⟨σ',H',I',q⟩:=q
  exact h2 pins s1 σ' H' D I' q
 | ret v=>exact q
 | brk=>exact q
 | cont=>exact q
theorem cZ (h1:PS X st t):PSs X [st] t:=by
 intro pins s σ H D I h
 refine wpAny_execs_cons (thn (h1 pins s σ H D I h) fun f s1 q=>?_)
 cases f with
 | next=>exact wpAny_execs_nil q
 | ret v=>exact q
 | brk=>exact q
 | cont=>exact q
def oM:TS:=fun D σ H=>D.bk σ H
def Cg:TS:=fun D σ H=>D.ct σ H
theorem oI:PS X (.Break pos) oM:=fun _ _ σ H _ I h=>wpAny_Break ⟨σ,H,I,h⟩
theorem Inv.quiet {pins:List (Addr × Obj)} {σ:St} {H:Hp} {s:Shared} (I:Inv X pins σ H s):interactive X.env = false:=by simp [interactive,I.ok.kind]
def ug (te:TE):TS:=fun D σ H=>te σ H fun _ H1=>D.nx σ H1
theorem cQ (he:PE X e te) (hs:swapsWith e none pos.line X.env = pure false:=by rfl):PS X (.Expr e pos) (ug te):=by
 intro pins s σ H D I h
 exact wpAny_Expr_any (thn (he pins s σ H _ I h) fun v s1 ⟨x,H1,I1,r1,q1⟩=>⟨σ,H1,I1,q1⟩) I.quiet hs
def Ak (te:TE):TS:=fun D σ H=>te σ H D.rt
theorem vo (he:PE X e te):PS X (.Return (some e) pos) (Ak te):=by
 intro pins s σ H D I h
 exact wpAny_Return_some (thn (he pins s σ H _ I h) fun v s1 ⟨x,H1,I1,r1,q1⟩=>⟨x,σ,H1,I1,r1,q1⟩)
def B8:TS:=fun D _ H=>D.rt .non H
def zR (c:TT) (t u:TS):TS:=fun D σ H=>c σ H fun b H1=>if b = true then t D σ H1 else u D σ H1
theorem nB {c:Expr} {a b:List Stmt} {tc:TT} (hc:PT X c tc) (ha:PSs X a t) (hb:PSs X b u):PS X (.If c a b pos) (zR tc t u):=by
 intro pins s σ H D I h
 refine wpAny_If (thn (hc pins s σ H _ I h) fun d s1 ⟨H1,I1,q1⟩=>?_)
 cases d with
 | true=>exact ha pins s1 σ H1 D I1 q1
 | false=>exact hb pins s1 σ H1 D I1 q1
def BD:TS:=fun _ _ _=>False
end
abbrev TG:=V -> St -> Hp -> (St -> Hp -> Prop) -> Prop
abbrev TGs:=List V -> St -> Hp -> (St -> Hp -> Prop) -> Prop
def PG (X:Cx) (target:Expr) (t:TG):Prop :=
 ∀ (pins:List (Addr × Obj)) (s:Shared) (σ:St) (H:Hp) (v:V) (u:Value) (Q:St -> Hp -> Prop),Inv X pins σ H s -> RelV v u -> t v σ H Q ->
  wpAny (model X.prog X.w) X.A (assign target X.env u) (fun _ s'=>∃ σ' H',Inv X pins σ' H' s' /\ Q σ' H') X.xe s
def PGs (X:Cx) (ts:List Expr) (t:TGs):Prop :=
 ∀ (pins:List (Addr × Obj)) (s:Shared) (σ:St) (H:Hp) (vs:List V) (us:List Value) (Q:St -> Hp -> Prop),Inv X pins σ H s -> Vals vs us -> t vs σ H Q ->
  wpAny (model X.prog X.w) X.A (assignInOrder ((assignEach ts X.env).map (·.2)) us) (fun _ s'=>∃ σ' H',Inv X pins σ' H' s' /\ Q σ' H') X.xe s
abbrev rg:=V -> V -> V -> Hp -> (Hp -> Prop) -> Prop
def zF (X:Cx) (t:rg):Prop :=
 ∀ (pins:List (Addr × Obj)) (s:Shared) (σ:St) (H:Hp) (o i v:V) (ov iv u:Value) (Q:Hp -> Prop),Inv X pins σ H s -> RelV o ov -> RelV i iv -> RelV v u -> t o i v H Q ->
  wpAny (model X.prog X.w) X.A (setItem ov iv u) (fun _ s'=>∃ H',Inv X pins σ H' s' /\ Q H') X.xe s
abbrev TIp:=V -> V -> Hp -> VK -> Prop
def PIp (X:Cx) (op:Operator) (t:TIp):Prop :=
 ∀ (pins:List (Addr × Obj)) (s:Shared) (σ:St) (H:Hp) (x y:V) (v u:Value) (Q:VK),Inv X pins σ H s -> RelV x v -> RelV y u -> t x y H Q ->
  wpAny (model X.prog X.w) X.A (inplaceOp op v u) (EP X pins σ Q) X.xe s
section
variable {X:Cx} {pos:Pos}
def bJ (i:Nat):TG:=fun v σ H Q=>Q (σ.set i (some v)) H
theorem bF {i:Nat} {x:Str} (hN:X.N.Nodup) (hi:X.N[i]? = some x) (hx:Loc X.env.scope x) (hf:X.fn x = true \/ X.env.scope.names.lookup x = some .local:=by first | exact .inl rfl | exact .inr rfl | assumption):PG X (.Name x pos) (bJ i):=by
 intro pins s σ H v u Q I r h
 exact wpAny_assign_Name (iy I hN hi hx r (fun s' I'=>⟨_,H,I',h⟩) hf)
def sD:TGs:=fun vs σ H Q=>vs = [] /\ Q σ H
def dD (t:TG) (u:TGs):TGs:=fun vs σ H Q=>∃ v r,vs = v :: r /\ t v σ H fun σ' H'=>u r σ' H' Q
theorem kh:PGs X [] sD:=by
 intro pins s σ H vs us Q I r h
 obtain ⟨e,h⟩:=h
 subst e
 cases r
 exact assignInOrder_nil ⟨σ,H,I,h⟩
theorem b8 {e:Expr} {es:List Expr} {t:TG} {u:TGs} (h1:PG X e t) (h2:PGs X es u)
  (hs:(assignEach (e :: es) X.env).map (·.2) = assign e X.env :: (assignEach es X.env).map (·.2):=by rfl):PGs X (e :: es) (dD t u):=by
 intro pins s σ H vs us Q I r h
 obtain ⟨v,vr,e1,h⟩:=h
 subst e1
 cases r with
 | cons r rr =>
  rw [hs]
  refine assignInOrder_cons (thn (h1 pins s σ H _ _ _ I r h) fun _ s1 ⟨σ1,H1,I1,q1⟩=>?_)
  exact h2 pins s1 σ1 H1 _ _ Q I1 rr q1
def sZ (K:PySem.W.Frag) (n:Nat) (t:TGs):TG:=fun v σ H Q=>∃ a xs,v = .ref a /\ SqT K H a xs /\ xs.length = n /\ t xs σ H Q
theorem oV {es:List Expr} {k:Nat} {t:TGs} {n:Nat} (hc:X.calm = true) (h:PGs X es t)
  (hn:(assignEach es X.env).length = n:=by rfl) (hst:(assignEach es X.env).findIdx? (·.1) = none:=by rfl):PG X (.Tuple es k pos) (sZ X.K n t):=by
 intro pins s σ H v u Q I r hw
 obtain ⟨a,xs,e1,hq,hl,hw⟩:=hw
 subst e1
 cases r
 obtain ⟨its,rv,ht,hz⟩:=I.tuple hq
 refine assign_Tuple_tuple (I.ok.hd hc) ht (by simp [hn,<- hl,rv.length]) hst fun h' hx=>?_
 have I1:Inv X pins σ H { s with heap:=h' }:=I.kept (t':=s.toks) fun b o e=>hx b o (Nat.ne_of_lt (Heap.lt_size e)) e
 exact h pins _ σ H xs _ Q I1 (by simpa using rv) hw
def AI (to ti:TE) (t:rg):TG:=fun v σ H Q=>to σ H fun o H1=>ti σ H1 fun i H2=>t o i v H2 fun H3=>Q σ H3
theorem vO {o i:Expr} {to ti:TE} {t:rg} (ho:PE X o to) (hi:PE X i ti) (hs:zF X t)
  (ha:∀ v,assign (.Subscript o i pos) X.env v = (do
   let ov <- holding [v] (eval o X.env)
   let iv <- holding [v,ov] (eval i X.env)
   standAt pos
   holding [v,ov,iv] (setItem ov iv v)
   release [v,ov,iv] []):=by intro _; rfl):PG X (.Subscript o i pos) (AI to ti t):=by
 intro pins s σ H v u Q I r h
 rw [ha]
 refine wpAny_bind (wpAny_holding (thn (ho pins s σ H _ I h) fun ov s1 ⟨x,H1,I1,r1,q1⟩=>?_))
 refine wpAny_bind (wpAny_holding (thn (hi pins s1 σ H1 _ I1 q1) fun iv s2 ⟨y,H2,I2,r2,q2⟩=>?_))
 refine wpAny_bind (wpAny_standAt (wpAny_bind (wpAny_holding (thn (hs pins s2 σ H2 x y v ov iv u _ I2 r1 r2 r q2) fun _ s3 ⟨H3,I3,q3⟩=>?_))))
 exact wpAny_release ⟨σ,H3,I3,q3⟩
def ng (te:TE) (g:TG):TS:=fun D σ H=>te σ H fun x H1=>g x σ H1 D.nx
theorem xa {tg e:Expr} {te:TE} {g:TG} (he:PE X e te) (hg:PG X tg g) (hs:swapsWithSole [tg] e pos.line X.env = pure false:=by rfl) (hw:swappedStores [tg] e X.env = pure none:=by rfl)
  (h1:(assignEach [tg] X.env).map (·.2) = [assign tg X.env]:=by rfl):PS X (.Assign [tg] e pos) (ng te g):=by
 intro pins s σ H D I h
 refine wpAny_Assign_stores (thn (he pins s σ H _ I h) fun v s1 ⟨x,H1,I1,r1,q1⟩=>?_) hs hw
 rw [h1]
 exact thn (hg pins s1 σ H1 x v _ I1 r1 q1) fun _ s2 q=>q
theorem vt {i:Nat} {x:Str} {e:Expr} {te:TE} {pos':Pos} (hN:X.N.Nodup) (hi:X.N[i]? = some x) (hx:Loc X.env.scope x) (he:PE X e te) (hs:swapsWith e (some (.Name x pos')) pos.line X.env = pure false:=by rfl) (hf:X.fn x = true \/ X.env.scope.names.lookup x = some .local:=by first | exact .inl rfl | exact .inr rfl | assumption) :
  PS X (.Assign [.Name x pos'] e pos) (ng te (bJ i)):=by
 intro pins s σ H D I h
 refine wpAny_Assign_Name (thn (he pins s σ H _ I h) fun v s1 ⟨y,H1,I1,r1,q1⟩=>?_) hs
 exact iy I1 hN hi hx r1 (fun s2 I2=>⟨_,H1,I2,q1⟩) hf
def Cm (i j:Nat) (ta:TA):TS:=fun D σ H=>ta σ H fun vs H1=>∃ v w,vs = [v,w] /\ D.nx ((σ.set i (some v)).set j (some w)) H1
def Ct (i:Nat) (te:TE) (ti:TIp):TS:=fun D σ H=>∃ x,σ[i]? = some (some x) /\ te σ H fun y H1=>ti x y H1 fun z H2=>D.nx (σ.set i (some z)) H2
def Cc (to ti te:TE) (tget:V -> V -> Hp -> VK -> Prop) (tip:TIp) (tset:rg):TS:=fun D σ H=>to σ H fun o H1=>ti σ H1 fun i H2=>tget o i H2 fun x H3=>te σ H3 fun y H4=>tip x y H4 fun z H5=>tset o i z H5 fun H6=>D.nx σ H6
def CD (X:Cx) (t:V -> V -> Hp -> VK -> Prop):Prop :=
 ∀ (pins:List (Addr × Obj)) (s:Shared) (σ:St) (H:Hp) (o i:V) (ov iv:Value) (Q:VK),Inv X pins σ H s -> RelV o ov -> RelV i iv -> t o i H Q ->
  wpAny (model X.prog X.w) X.A (getItem ov iv) (EP X pins σ Q) X.xe s
def ipI (f:Int -> Int -> Int):TIp:=fun x y H Q=>∃ i j,x = .int i /\ y = .int j /\ Q (.int (f i j)) H
end
section
variable {X:Cx} {pos:Pos}
def AH (c:TT) (tb:TS):TS:=fun D σ H=>∃ W:Nat -> St -> Hp -> Prop,(∃ m,W m σ H) /\ ∀ m σ H,W m σ H ->
 c σ H fun b H1=>if b = true then ∃ N:St -> Hp -> Prop,(∀ σ' H',N σ' H' -> ∃ m',m' < m /\ W m' σ' H') /\ tb { D with nx:=N,ct:=N,bk:=D.nx } σ H1 else D.nx σ H1
end
structure It where
 go:Nat -> Hp -> Prop
 yld:Nat -> Hp -> V -> Hp -> Prop
 stop:Nat -> Hp -> Prop
def eS (X:Cx) (pins:List (Addr × Obj)) (H:Hp) (b:Addr):Prop :=
 H b = none /\ b ≠ X.env.locals /\ b ∉ X.fs /\ (b ∈ X.ex \/ X.s₀.heap.objs.size <= b) /\ (∀ x c,X.env.cells.lookup x = some c -> c ≠ b) /\ ∀ p ∈ X.pn ++ pins,p.1 ≠ b
theorem Inv.fpOk {X:Cx} {pins:List (Addr × Obj)} {σ:St} {H H':Hp} {s:Shared} {b:Addr} (I:Inv X pins σ H s) (hb:s.heap.objs.size <= b) (hn:H' b = none):eS X pins H' b:=by
 refine ⟨hn,Nat.ne_of_gt (Nat.lt_of_lt_of_le I.lt hb),I.nofs hb,.inr (Nat.le_trans I.sz hb),fun x c e z=>?_,fun p hp z=>?_⟩
 ·obtain ⟨v,q⟩:=I.cell x c e
  exact absurd (Nat.lt_of_lt_of_le q.lt (by rw [z]; exact hb)) (Nat.lt_irrefl _)
 ·exact absurd (Nat.lt_of_lt_of_le (Heap.lt_size (I.pin p hp).1) (by rw [z]; exact hb)) (Nat.lt_irrefl _)
structure ly (P:Program) (w:World) (K:PySem.W.Frag) (tg:Expr) (J:It) (fp:List Addr) (it:Addr) (tn:Nat -> Heap -> Prop):Prop where
 mem:it ∈ fp
 obj:∀ i h,tn i h -> ∀ b ∈ fp,∃ o,h.get? b = some o /\ ∀ v,o.data ≠ .cell v
 keep:∀ i h h',tn i h -> (∀ b ∈ fp,∀ o,h.get? b = some o -> h'.get? b = some o) -> tn i h'
 item:∀ (X:Cx),X.prog = P -> X.w = w -> X.K = K -> X.calm = true -> ∀ (i:Nat) (pins:List (Addr × Obj)) (s:Shared) (σ:St) (H:Hp) (E:Value -> Shared -> Prop),Inv X pins σ H s -> (∀ b ∈ fp,eS X pins H b) -> tn i s.heap -> J.go i H ->
  wpAny (model P w) X.A (pyNext (.ref it)) (fun r s1=>∃ u,r = some u /\
   wpAny (model P w) X.A (letOwnedTupleGo tg (.ref it) u) (fun _ s2=>∃ x H',Inv X pins σ H' s2 /\ RelV x u /\ J.yld i H x H' /\ tn (i + 1) s2.heap /\ ∀ b ∈ fp,H' b = none) E s1) E s
 done:∀ (X:Cx),X.prog = P -> X.w = w -> X.K = K -> X.calm = true -> ∀ (i:Nat) (pins:List (Addr × Obj)) (s:Shared) (σ:St) (H:Hp) (E:Value -> Shared -> Prop),Inv X pins σ H s -> (∀ b ∈ fp,eS X pins H b) -> tn i s.heap -> J.stop i H ->
  wpAny (model P w) X.A (pyNext (.ref it)) (fun r s1=>r = none /\ Inv X pins σ H s1) E s
 self:∀ (A:Around) (i:Nat) (s:Shared) (Q:Value -> Shared -> Prop) (E:Value -> Shared -> Prop),tn i s.heap -> Q (.ref it) s -> wpAny (model P w) A (pyIter (.ref it)) Q E s
abbrev TI:=St -> Hp -> (It -> Hp -> Prop) -> Prop
def PIE (X:Cx) (pins:List (Addr × Obj)) (σ:St) (tg:Expr) (R:It -> Hp -> Prop) (itv:Value) (s2:Shared):Prop :=
 ∃ (it:Addr) (fp:List Addr) (tn:Nat -> Heap -> Prop) (J:It) (H':Hp),itv = .ref it /\ Inv X pins σ H' s2 /\ ly X.prog X.w X.K tg J fp it tn /\ tn 0 s2.heap /\ (∀ b ∈ fp,eS X pins H' b) /\ R J H'
def PI (X:Cx) (tg iter:Expr) (wi:TI):Prop :=
 ∀ (pins:List (Addr × Obj)) (s:Shared) (σ:St) (H:Hp) (R:It -> Hp -> Prop),Inv X pins σ H s -> wi σ H R ->
  wpAny (model X.prog X.w) X.A (eval iter X.env) (fun v s1=>wpAny (model X.prog X.w) X.A (pyIter v) (PIE X pins σ tg R) X.xe s1) X.xe s
theorem nT {M:Model} {A:Around} {E:Value -> Shared -> Prop} {s:Shared} {tg:Expr} {it:Addr} {u:Value} {o:Obj} {n:String} {vs:Array Value} {Q:Unit -> Shared -> Prop} (ho:s.heap.get? it = some o) (hc:o.cls = .type n) (hd:o.data = .fields vs)
  (hn:["enumerate","zip","dict_itemiterator","dict_reverseitemiterator","odict_iterator","itertools.zip_longest","itertools.pairwise"].contains n = false) (hQ:Q () s):wpAny M A (letOwnedTupleGo tg (.ref it) u) Q E s:=by
 unfold letOwnedTupleGo
 cases tg <;> first
  | exact wpAny_pure hQ
  | (cases u <;> first
    | exact wpAny_pure hQ
    | (refine wpAny_bind (wpAny_load ho ?_)
       rw [hc,hd]
       show wpAny M A (if (["enumerate","zip","dict_itemiterator","dict_reverseitemiterator","odict_iterator","itertools.zip_longest","itertools.pairwise"].contains n && vs[0]? == some (rawInt _)) = true then _ else _) Q E s
       rw [if_neg (by intro h; rw [hn,Bool.false_and] at h; cases h)]
       exact wpAny_pure hQ))
def Itl (K:PySem.W.Frag) (a:Addr):It :=
 ⟨fun i H=>∃ xs x,SqL K H a xs /\ xs[i]? = some x,fun i H x H'=>H' = H /\ ∀ xs,SqL K H a xs -> xs[i]? = some x,fun i H=>∃ xs,SqL K H a xs /\ xs.length <= i⟩
def Itt (K:PySem.W.Frag) (a:Addr):It :=
 ⟨fun i H=>∃ xs x,SqT K H a xs /\ xs[i]? = some x,fun i H x H'=>H' = H /\ ∀ xs,SqT K H a xs -> xs[i]? = some x,fun i H=>∃ xs,SqT K H a xs /\ xs.length <= i⟩
def Itr (lo:Int) (n:Nat):It:=⟨fun i _=>i < n,fun i H x H'=>H' = H /\ x = .int (lo + i),fun i _=>n <= i⟩
theorem lI {P:Program} {w:World} {K:PySem.W.Frag} {tg:Expr} (a it:Addr):ly P w K tg (Itl K a) [it] it (fun i h=>h.IsListIter it a i) where
 mem:=by simp
 obj:=fun i h st b hb=>by
  have e:b = it:=by simpa using hb
  subst e
  obtain ⟨o,e,c,d⟩:=st
  exact ⟨o,e,fun v z=>by rw [d] at z; cases z⟩
 keep:=fun i h h' st k=>st.at fun o e=>k it (by simp) o e
 item:=by
  intro X hP hw hK hc i pins s σ H E I hf st hg
  subst hP hw hK
  obtain ⟨xs,x,hq,hx⟩:=hg
  obtain ⟨its,rv,p,hz⟩:=I.list hq
  obtain ⟨u,hu,ru⟩:=rv.get hx
  obtain ⟨f0,f1,f2,f3,f4,f5⟩:=hf it (by simp)
  refine wpAny_pyNext_list_item st p.isList (x:=u) (by simpa using hu) fun h' st' sb=>?_
  have I1:Inv X pins σ H { s with heap:=h' }:=I.turned (t':=s.toks) (fun b o hb e=>(sb.2 b hb).trans e) f0 f1 f3 f4 f5
  obtain ⟨o,e,c,d⟩:=id st'
  exact ⟨u,rfl,nT (s:={ s with heap:=h' }) e c d (by decide) ⟨x,H,I1,ru,⟨rfl,fun ys hy=>by rw [I.list_inj hy hq]; exact hx⟩,st',fun b hb=>(hf b hb).1⟩⟩
 done:=by
  intro X hP hw hK hc i pins s σ H E I hf st hg
  subst hP hw hK
  obtain ⟨xs,hq,hx⟩:=hg
  obtain ⟨its,rv,p,hz⟩:=I.list hq
  obtain ⟨f0,f1,f2,f3,f4,f5⟩:=hf it (by simp)
  have hl:=rv.length
  exact wpAny_pyNext_list_end (I.ok.hd hc) st p.isList (by simp; omega) fun h' eb=>⟨rfl,I.turned (t':=s.toks) (fun b o hb e=>eb b o hb e) f0 f1 f3 f4 f5⟩
 self:=fun _ _ _ _ _ st h=>wpAny_pyIter_listiter st h
theorem je {P:Program} {w:World} {K:PySem.W.Frag} {tg:Expr} (a it:Addr):ly P w K tg (Itt K a) [it] it (fun i h=>h.IsTupleIter it a i) where
 mem:=by simp
 obj:=fun i h st b hb=>by
  have e:b = it:=by simpa using hb
  subst e
  obtain ⟨o,e,c,d⟩:=st
  exact ⟨o,e,fun v z=>by rw [d] at z; cases z⟩
 keep:=fun i h h' st k=>st.at fun o e=>k it (by simp) o e
 item:=by
  intro X hP hw hK hc i pins s σ H E I hf st hg
  subst hP hw hK
  obtain ⟨xs,x,hq,hx⟩:=hg
  obtain ⟨its,rv,p,hz⟩:=I.tuple hq
  obtain ⟨u,hu,ru⟩:=rv.get hx
  obtain ⟨f0,f1,f2,f3,f4,f5⟩:=hf it (by simp)
  refine wpAny_pyNext_tuple_item st (show s.heap.IsTuple a its.toArray from p) (x:=u) (by simpa using hu) fun h' st' sb=>?_
  have I1:Inv X pins σ H { s with heap:=h' }:=I.turned (t':=s.toks) (fun b o hb e=>(sb.2 b hb).trans e) f0 f1 f3 f4 f5
  obtain ⟨o,e,c,d⟩:=id st'
  exact ⟨u,rfl,nT (s:={ s with heap:=h' }) e c d (by decide) ⟨x,H,I1,ru,⟨rfl,fun ys hy=>by rw [I.tuple_inj hy hq]; exact hx⟩,st',fun b hb=>(hf b hb).1⟩⟩
 done:=by
  intro X hP hw hK hc i pins s σ H E I hf st hg
  subst hP hw hK
  obtain ⟨xs,hq,hx⟩:=hg
  obtain ⟨its,rv,p,hz⟩:=I.tuple hq
  obtain ⟨f0,f1,f2,f3,f4,f5⟩:=hf it (by simp)
  have hl:=rv.length
  exact wpAny_pyNext_tuple_end (I.ok.hd hc) st (show s.heap.IsTuple a its.toArray from p) (by simp; omega) fun h' eb=>⟨rfl,I.turned (t':=s.toks) (fun b o hb e=>eb b o hb e) f0 f1 f3 f4 f5⟩
 self:=fun _ _ _ _ _ st h=>wpAny_pyIter_tupleiter st h
theorem iO {P:Program} {w:World} {K:PySem.W.Frag} {tg:Expr} (it:Addr) (lo:Int) (n:Nat):ly P w K tg (Itr lo n) [it] it (fun i h=>IsRangeIter h it (lo + (i:Nat) * 1) ((n:Int) - (i:Nat)) 1) where
 mem:=by simp
 obj:=fun i h st b hb=>by
  have e:b = it:=by simpa using hb
  subst e
  exact ⟨_,st,fun v z=>by
   have z':Data.fields _ = Data.cell v:=z
   cases z'⟩
 keep:=fun i h h' st k=>k it (by simp) _ st
 item:=by
  intro X hP hw hK hc i pins s σ H E I hf st hg
  subst hP hw hK
  obtain ⟨f0,f1,f2,f3,f4,f5⟩:=hf it (by simp)
  have W:=Walks.range (prog:=X.prog) (w:=X.w) (I.ok.hd hc) it lo 1 n
  refine W.item i s _ _ hg st fun v h' tk hv st' kk=>?_
  obtain ⟨t,rfl⟩:=hv
  have I1:Inv X pins σ H { s with heap:=h',toks:=tk }:=I.turned (fun b o hb e=>kk b o (by simpa using hb) e) f0 f1 f3 f4 f5
  refine ⟨_,rfl,nT (s:={ s with heap:=h',toks:=tk }) (n:="range_iterator") st' rfl rfl (by decide) ⟨.int (lo + i),H,I1,⟨t,?_⟩,⟨rfl,rfl⟩,st',fun b hb=>(hf b hb).1⟩⟩
  rw [Int.mul_one]
 done:=by
  intro X hP hw hK hc i pins s σ H E I hf st hg
  subst hP hw hK
  obtain ⟨f0,f1,f2,f3,f4,f5⟩:=hf it (by simp)
  exact wpAny_pyNext_range_end (I.ok.hd hc) st (by have:n <= i:=hg; omega) fun h' eb=>⟨rfl,I.turned (t':=s.toks) (fun b o hb e=>eb b o hb e) f0 f1 f3 f4 f5⟩
 self:=fun _ _ _ _ _ st h=>wpAny_pyIter_rangeiter st h
end L2
namespace L2
open PySem PySem.Spec PyProof.Rows
section
variable {X:Cx} {tg:Expr}
def tq (K:PySem.W.Frag) (tl:TE):TI:=fun σ H R=>tl σ H fun x H1=>∃ a,x = .ref a /\ (∃ xs,SqL K H1 a xs) /\ R (Itl K a) H1
def zL (K:PySem.W.Frag) (tl:TE):TI:=fun σ H R=>tl σ H fun x H1=>∃ a,x = .ref a /\ (∃ xs,SqT K H1 a xs) /\ R (Itt K a) H1
theorem jE {l:Expr} {tl:TE} (hl:PE X l tl):PI X tg l (tq X.K tl):=by
 intro pins s σ H R I h
 refine thn (hl pins s σ H _ I h) fun v s1 ⟨x,H1,I1,r1,q1⟩=>?_
 obtain ⟨a,e,⟨xs,hq⟩,q⟩:=q1
 subst e
 cases r1
 obtain ⟨its,rv,p,hz⟩:=I1.list hq
 refine wpAny_pyIter_list p.isList ?_
 refine ⟨s1.heap.objs.size,[s1.heap.objs.size],_,_,H1,rfl,I1.kept (t':=s1.toks) fun b o e=>Heap.get?_push_of_some _ e,lI a _,⟨_,Heap.get?_push_size _ rfl,rfl,rfl⟩,fun b hb=>?_,q⟩
 have e:b = s1.heap.objs.size:=by simpa using hb
 subst e
 exact I1.fpOk (Nat.le_refl _) (I1.hok.fresh (Nat.le_refl _))
theorem v5 {l:Expr} {tl:TE} (hl:PE X l tl):PI X tg l (zL X.K tl):=by
 intro pins s σ H R I h
 refine thn (hl pins s σ H _ I h) fun v s1 ⟨x,H1,I1,r1,q1⟩=>?_
 obtain ⟨a,e,⟨xs,hq⟩,q⟩:=q1
 subst e
 cases r1
 obtain ⟨its,rv,p,hz⟩:=I1.tuple hq
 refine wpAny_pyIter_tuple (show s1.heap.IsTuple a its.toArray from p) ?_
 refine ⟨s1.heap.objs.size,[s1.heap.objs.size],_,_,H1,rfl,I1.kept (t':=s1.toks) fun b o e=>Heap.get?_push_of_some _ e,je a _,⟨_,Heap.get?_push_size _ rfl,rfl,rfl⟩,fun b hb=>?_,q⟩
 have e:b = s1.heap.objs.size:=by simpa using hb
 subst e
 exact I1.fpOk (Nat.le_refl _) (I1.hok.fresh (Nat.le_refl _))
theorem ou {pins:List (Addr × Obj)} {σ:St} {H:Hp} {s:Shared} {R:It -> Hp -> Prop} {E:Value -> Shared -> Prop} {lo hi:Int} {t u v:Tok} {tk:Nat} (I:Inv X pins σ H s) (h1:-(2 ^ 62) <= lo) (h2:lo < 2 ^ 62) (h3:-(2 ^ 62) <= hi) (h4:hi < 2 ^ 62)
  (q:R (Itr lo (hi - lo).toNat) H):wpAny (model X.prog X.w) X.A (pyIter (.ref s.heap.objs.size)) (PIE X pins σ tg R) E { s with heap:=s.heap.push { cls:=.type "range",data:=.fields #[.int lo t,.int hi u,.int 1 v] },toks:=tk }:=by
 refine wpAny_pyIter_range (IsRange.new ..) (small_one h1 h2 h3 h4) ?_
 have I1:Inv X pins σ H { s with heap:=s.heap.push { cls:=.type "range",data:=.fields #[.int lo t,.int hi u,.int 1 v] },toks:=tk }:=I.kept fun b o e=>Heap.get?_push_of_some _ e
 refine ⟨(s.heap.push { cls:=.type "range",data:=.fields #[.int lo t,.int hi u,.int 1 v] }).objs.size,[(s.heap.push { cls:=.type "range",data:=.fields #[.int lo t,.int hi u,.int 1 v] }).objs.size],_,_,H,rfl,
  I1.kept (t':=tk) fun b o e=>Heap.get?_push_of_some _ e,iO _ lo (hi - lo).toNat,?_,fun b hb=>?_,q⟩
 ·have e1:lo + ((0:Nat):Int) * 1 = lo:=by simp
  have e2:(((hi - lo).toNat:Nat):Int) - ((0:Nat):Int) = Builtin.Range.rangeSize lo hi 1:=by rw [rangeSize_one]; split <;> omega
  show IsRangeIter _ _ (lo + ((0:Nat):Int) * 1) ((((hi - lo).toNat:Nat):Int) - ((0:Nat):Int)) 1
  rw [e1,e2]
  exact Heap.get?_push_size _ rfl
 ·have e:b = (s.heap.push { cls:=.type "range",data:=.fields #[.int lo t,.int hi u,.int 1 v] }).objs.size:=by simpa using hb
  subst e
  exact I1.fpOk (Nat.le_refl _) (I1.hok.fresh (Nat.le_refl _))
def ub (ta:TA):TI:=fun σ H R=>ta σ H fun vs H1=>∃ j:Int,vs = [.int j] /\ -(2 ^ 62) <= j /\ j < 2 ^ 62 /\ R (Itr 0 j.toNat) H1
def B9 (ta:TA):TI:=fun σ H R=>ta σ H fun vs H1=>∃ i j:Int,vs = [.int i,.int j] /\ (-(2 ^ 62) <= i /\ i < 2 ^ 62 /\ -(2 ^ 62) <= j /\ j < 2 ^ 62) /\ R (Itr i (j - i).toNat) H1
theorem lD {a:Expr} {ta:TA} {p pos:Pos} (hg:Gl X "range") (hm:X.mg "range" = none) (ha:PA X [a] ta) (hs:starEach [a] X.env = [(false,eval a X.env)]:=by rfl):PI X tg (.Call (.Name "range" p) [a] [] pos) (ub ta):=by
 intro pins s σ H R I h
 refine Call_ (cf I hg hm boot_range (PyProof.Rows.callWith_type1 (thn (ha pos pins s σ H _ I h) fun us s1 ⟨vs,H1,I1,r1,q1⟩=>?_) hs rfl))
 obtain ⟨j,e,q1,q2,q⟩:=q1
 subst e
 cases r1 with
 | cons r rr =>
  cases rr
  obtain ⟨t,rfl⟩:=r
  exact call_range_1 (ou I1 (by omega) (by omega) q1 q2 (by simpa using q))
def uH (wi:TI) (g:TG) (tb:TS):TS:=fun D σ H=>wi σ H fun J H1=>∃ W:Nat -> Nat -> St -> Hp -> Prop,(∃ m,W 0 m σ H1) /\ ∀ i m σ H,W i m σ H ->
 (J.stop i H /\ D.nx σ H) \/ (J.go i H /\ ∃ N:St -> Hp -> Prop,(∀ σ' H',N σ' H' -> ∃ m',m' < m /\ W (i + 1) m' σ' H') /\ ∀ x H',J.yld i H x H' -> g x σ H' fun σ2 H2=>tb { D with nx:=N,ct:=N,bk:=D.nx } σ2 H2)
def eZ (fp:List Addr) (h:Heap):List (Addr × Obj):=fp.filterMap fun b=>(h.get? b).map fun o=>(b,o)
theorem bc {fp:List Addr} {h:Heap} {b:Addr} {o:Obj} (hb:b ∈ fp) (e:h.get? b = some o):(b,o) ∈ eZ fp h:=List.mem_filterMap.mpr ⟨b,hb,by rw [e]; rfl⟩
theorem lh {fp:List Addr} {h:Heap} {p:Addr × Obj} (hp:p ∈ eZ fp h):p.1 ∈ fp /\ h.get? p.1 = some p.2:=by
 obtain ⟨b,hb,e⟩:=List.mem_filterMap.mp hp
 cases q:h.get? b with
 | none=>rw [q] at e; cases e
 | some o =>
  rw [q] at e
  have e':(b,o) = p:=Option.some.inj e
  subst e'
  exact ⟨hb,q⟩
theorem Inv.pinned {pins:List (Addr × Obj)} {σ:St} {H:Hp} {s:Shared} {fp:List Addr} (I:Inv X pins σ H s) (hf:∀ b ∈ fp,eS X pins H b) (ho:∀ b ∈ fp,∃ o,s.heap.get? b = some o /\ ∀ v,o.data ≠ .cell v):Inv X (pins ++ eZ fp s.heap) σ H s :=
 I.pins_of fun p hp=>(List.mem_append.mp hp).elim (fun z=>I.pin p (List.mem_append_right _ z)) fun z=>by
  obtain ⟨hb,e⟩:=lh z
  obtain ⟨f0,f1,f2,_⟩:=hf p.1 hb
  obtain ⟨o,e',d⟩:=ho p.1 hb
  rw [e] at e'; cases e'
  exact ⟨e,f0,f1,f2,d⟩
theorem Inv.unpinned {pins pl:List (Addr × Obj)} {σ:St} {H:Hp} {s:Shared} (I:Inv X (pins ++ pl) σ H s):Inv X pins σ H s:=I.pins_of fun p hp=>I.pin p (List.mem_append_right _ (List.mem_append_left _ hp))
theorem jm {iter:Expr} {body:List Stmt} {wi:TI} {g:TG} {tb:TS} {pos:Pos} (hp:PassesOwn (model X.prog X.w) X.A X.env X.xe) (hc:X.calm = true) (hi:PI X tg iter wi) (hg:PG X tg g) (hb:PSs X body tb)
  (hs:∀ x,foldedSetIterable iter X.env x = pure x:=by intro _; rfl):PS X (.For tg iter body [] pos) (uH wi g tb):=by
 intro pins s σ H D I h
 refine wpAny_For (thn (hi pins s σ H _ I h) fun v s1 h1=>thn h1 fun itv s2 h2=>?_) hs
 obtain ⟨it,fp,tn,J,H2,e,I2,T,st2,f2,W,⟨m0,w0⟩,turn⟩:=h2
 subst e
 -- what stays true of the iterator's objects through the loop
 have stat:∀ {H':Hp},(∀ b ∈ fp,H' b = none) -> ∀ b ∈ fp,eS X pins H' b:=fun hn b hb=>⟨hn b hb,(f2 b hb).2⟩
 refine codeAny_forLoop_any (fun n s'=>∃ i σ' H',Inv X pins σ' H' s' /\ tn i s'.heap /\ (∀ b ∈ fp,H' b = none) /\ W i n σ' H') ?_ m0 ⟨0,σ,H2,I2,st2,fun b hb=>(f2 b hb).1,w0⟩
 rintro n s3 ⟨i,σ3,H3,I3,st3,fr3,w3⟩
 rcases turn i n σ3 H3 w3 with ⟨stop,qn⟩ | ⟨go,N,hN,step⟩
 ·refine wpAny_passesOwn hp (thn (T.done X rfl rfl rfl hc i pins s3 σ3 H3 X.xe I3 (stat fr3) st3 stop) fun r s4 ⟨hr,I4⟩=>?_)
  subst hr
  exact wpAny_execs_nil ⟨σ3,H3,I4,qn⟩
 ·refine wpAny_passesOwn hp (thn (T.item X rfl rfl rfl hc i pins s3 σ3 H3 X.xe I3 (stat fr3) st3 go) fun r s4 ⟨u,hr,h4⟩=>?_)
  subst hr
  refine wpAny_passesOwn hp (thn h4 fun _ s5 ⟨x,H5,I5,r5,y5,st5,fr5⟩=>?_)
  have I5':=I5.pinned (stat fr5) (T.obj _ _ st5)
  refine wpAny_passesOwn hp (thn (hg _ s5 σ3 H5 x u _ I5' r5 (step x H5 y5)) fun _ s6 ⟨σ6,H6,I6,q6⟩=>?_)
  refine wpAny_passesOwn hp (thn (hb _ s6 σ6 H6 _ I6 q6) fun f s7 q7=>?_)
  have again:∀ {σ7:St} {H7:Hp},Inv X (pins ++ eZ fp s5.heap) σ7 H7 s7 -> N σ7 H7 -> ∃ m,m < n /\ ∃ i σ' H',Inv X pins σ' H' s7 /\ tn i s7.heap /\ (∀ b ∈ fp,H' b = none) /\ W i m σ' H':=fun {σ7 H7} I7 n7=>by
   obtain ⟨m',hm,w7⟩:=hN σ7 H7 n7
   refine ⟨m',hm,i + 1,σ7,H7,I7.unpinned,T.keep _ _ _ st5 fun b hb o e=>(I7.pin (b,o) (List.mem_append_right _ (List.mem_append_right _ (bc hb e)))).1,fun b hb=>?_,w7⟩
   obtain ⟨o,e,d⟩:=T.obj _ _ st5 b hb
   exact (I7.pin (b,o) (List.mem_append_right _ (List.mem_append_right _ (bc hb e)))).2.1
  cases f with
  | next=>obtain ⟨σ7,H7,I7,n7⟩:=q7; exact again I7 n7
  | cont=>obtain ⟨σ7,H7,I7,n7⟩:=q7; exact again I7 n7
  | brk=>obtain ⟨σ7,H7,I7,q7⟩:=q7; exact ⟨σ7,H7,I7.unpinned,q7⟩
  | ret v=>obtain ⟨x7,σ7,H7,I7,r7,q7⟩:=q7; exact ⟨x7,σ7,H7,I7.unpinned,r7,q7⟩
end
theorem iA {K:PySem.W.Frag} {a:Addr} {xs:List V} {g:TG} {tb:TS} {D:br} {σ:St} {H:Hp} (Pv:Nat -> St -> Hp -> Prop) (h0:Pv 0 σ H) (hl:∀ i σ H,i <= xs.length -> Pv i σ H -> SqL K H a xs)
  (hs:∀ i x σ H,xs[i]? = some x -> Pv i σ H -> g x σ H fun σ2 H2=>tb { D with nx:=Pv (i + 1),ct:=Pv (i + 1),bk:=D.nx } σ2 H2) (hd:∀ σ H,Pv xs.length σ H -> D.nx σ H) :
  ∃ W:Nat -> Nat -> St -> Hp -> Prop,(∃ m,W 0 m σ H) /\ ∀ i m σ H,W i m σ H ->
   ((Itl K a).stop i H /\ D.nx σ H) \/ ((Itl K a).go i H /\ ∃ N:St -> Hp -> Prop,(∀ σ' H',N σ' H' -> ∃ m',m' < m /\ W (i + 1) m' σ' H') /\ ∀ x H',(Itl K a).yld i H x H' -> g x σ H' fun σ2 H2=>tb { D with nx:=N,ct:=N,bk:=D.nx } σ2 H2):=by
 refine ⟨fun i m σ H=>m = xs.length - i /\ i <= xs.length /\ Pv i σ H,⟨xs.length,by simp,Nat.zero_le _,h0⟩,?_⟩
 rintro i m σ H ⟨rfl,hi,p⟩
 have q:=hl i σ H hi p
 by_cases hlt:i < xs.length
 ·refine .inr ⟨⟨xs,xs[i],q,by simp [hlt]⟩,Pv (i + 1),fun σ' H' p'=>⟨xs.length - (i + 1),by omega,rfl,hlt,p'⟩,fun x H' y=>?_⟩
  obtain ⟨e,y⟩:=y
  subst e
  exact hs i x σ _ (y xs q) p
 ·have e:i = xs.length:=by omega
  subst e
  exact .inl ⟨⟨xs,q,Nat.le_refl _⟩,hd σ H p⟩
end L2
namespace L2
open PySem PySem.Spec PyProof.Rows
abbrev R2:=V -> V -> Hp -> VK -> Prop
def OpR (X:Cx) (f:Value -> Value -> Sem Value) (r:R2):Prop :=
 ∀ (pins:List (Addr × Obj)) (s:Shared) (σ:St) (H:Hp) (x y:V) (v u:Value) (Q:VK),Inv X pins σ H s -> RelV x v -> RelV y u -> r x y H Q ->
  wpAny (model X.prog X.w) X.A (f v u) (EP X pins σ Q) X.xe s
def UnR (X:Cx) (f:Value -> Sem Value) (r:V -> Hp -> VK -> Prop):Prop :=
 ∀ (pins:List (Addr × Obj)) (s:Shared) (σ:St) (H:Hp) (x:V) (v:Value) (Q:VK),Inv X pins σ H s -> RelV x v -> r x H Q ->
  wpAny (model X.prog X.w) X.A (f v) (EP X pins σ Q) X.xe s
def cG (X:Cx) (f:Value) (r:List V -> Hp -> VK -> Prop):Prop :=
 ∀ (pins:List (Addr × Obj)) (s:Shared) (σ:St) (H:Hp) (xs:List V) (us:List Value) (Q:VK),Inv X pins σ H s -> Vals xs us -> r xs H Q ->
  wpAny (model X.prog X.w) X.A (call f us) (EP X pins σ Q) X.xe s
def Bd (X:Cx) (r:V -> Hp -> (Bool -> Hp -> Prop) -> Prop):Prop :=
 ∀ (pins:List (Addr × Obj)) (s:Shared) (σ:St) (H:Hp) (x:V) (v:Value) (Q:Bool -> Hp -> Prop),Inv X pins σ H s -> RelV x v -> r x H Q ->
  wpAny (model X.prog X.w) X.A (truthy v) (TP X pins σ Q) X.xe s
def tOp (r:R2) (ta tb:TE):TE:=fun σ H Q=>ta σ H fun x H1=>tb σ H1 fun y H2=>r x y H2 Q
def tUn (r:V -> Hp -> VK -> Prop) (ta:TE):TE:=fun σ H Q=>ta σ H fun x H1=>r x H1 Q
def rI (C:Int -> Int -> Prop) (g:Int -> Int -> V):R2:=fun x y H Q=>∃ i j,x = .int i /\ y = .int j /\ C i j /\ Q (g i j) H
def rI0 (g:Int -> Int -> V):R2:=fun x y H Q=>∃ i j,x = .int i /\ y = .int j /\ Q (g i j) H
def rU (g:Int -> V):V -> Hp -> VK -> Prop:=fun x H Q=>∃ i,x = .int i /\ Q (g i) H
section
variable {X:Cx} {a b c:Expr} {ta tb tc:TE} {pos:Pos}
theorem wg (ha:PE X a ta) (hb:PE X b tb) {pins:List (Addr × Obj)} {s:Shared} {σ:St} {H:Hp} {R:V -> V -> Hp -> Prop} (I:Inv X pins σ H s)
  (h:ta σ H fun x H1=>tb σ H1 fun y H2=>R x y H2) {Q:Value -> Shared -> Prop} {f:Value -> Value -> Sem Value}
  (hf:∀ v u s2 x y H2,Inv X pins σ H2 s2 -> RelV x v -> RelV y u -> R x y H2 -> wpAny (model X.prog X.w) X.A (f v u) Q X.xe s2) :
  wpAny (model X.prog X.w) X.A (eval a X.env) (fun v s₁=>wpAny (model X.prog X.w) X.A (eval b X.env) (fun u s₂=>wpAny (model X.prog X.w) X.A (f v u) Q X.xe s₂) X.xe s₁) X.xe s:=by
 refine thn (ha pins s σ H _ I h) fun v s1 ⟨x,H1,I1,r1,q1⟩=>?_
 refine thn (hb pins s1 σ H1 _ I1 q1) fun u s2 ⟨y,H2,I2,r2,q2⟩=>?_
 exact hf v u s2 x y H2 I2 r1 r2 q2
theorem fO {op:Operator} {r:R2} (ho:OpR X (binaryOp op) r) (ha:PE X a ta) (hb:PE X b tb):PE X (.BinOp a op b pos) (tOp r ta tb):=by
 intro pins s σ H Q I h
 exact wpAny_BinOp (wg ha hb I h fun v u s2 x y H2 I2 rx ry q=>ho pins s2 σ H2 x y v u Q I2 rx ry q)
theorem opI {f:Value -> Value -> Sem Value} {C:Int -> Int -> Prop} {g:Int -> Int -> Int}
  (rule:∀ (i j:Int) (t u:Tok) (s:Shared) (Q:Value -> Shared -> Prop) (E:Value -> Shared -> Prop),C i j -> Q (.int (g i j) s.toks) { s with toks:=s.toks + 1 } -> wpAny (model X.prog X.w) X.A (f (.int i t) (.int j u)) Q E s) :
  OpR X f (rI C fun i j=>.int (g i j)):=by
 intro pins s σ H x y v u Q I rx ry h
 obtain ⟨i,j,rfl,rfl,hc,q⟩:=h
 obtain ⟨t,rfl⟩:=rx
 obtain ⟨t',rfl⟩:=ry
 exact rule i j t t' s _ _ hc ⟨.int (g i j),H,I.tok _,⟨_,rfl⟩,q⟩
theorem yR {f:Value -> Value -> Sem Value} {g:Int -> Int -> Int}
  (rule:∀ (i j:Int) (t u:Tok) (s:Shared) (Q:Value -> Shared -> Prop) (E:Value -> Shared -> Prop),Q (.int (g i j) s.toks) { s with toks:=s.toks + 1 } -> wpAny (model X.prog X.w) X.A (f (.int i t) (.int j u)) Q E s) :
  OpR X f (rI0 fun i j=>.int (g i j)):=by
 intro pins s σ H x y v u Q I rx ry h
 obtain ⟨i,j,rfl,rfl,q⟩:=h
 obtain ⟨t,rfl⟩:=rx
 obtain ⟨t',rfl⟩:=ry
 exact rule i j t t' s _ _ ⟨.int (g i j),H,I.tok _,⟨_,rfl⟩,q⟩
theorem vh {f:Value -> Value -> Sem Value} {g:Int -> Int -> Bool}
  (rule:∀ (i j:Int) (t u:Tok) (s:Shared) (Q:Value -> Shared -> Prop) (E:Value -> Shared -> Prop),Q (.bool (g i j)) s -> wpAny (model X.prog X.w) X.A (f (.int i t) (.int j u)) Q E s) :
  OpR X f (rI0 fun i j=>.bl (g i j)):=by
 intro pins s σ H x y v u Q I rx ry h
 obtain ⟨i,j,rfl,rfl,q⟩:=h
 obtain ⟨t,rfl⟩:=rx
 obtain ⟨t',rfl⟩:=ry
 exact rule i j t t' s _ _ ⟨.bl (g i j),H,I,rfl,q⟩
def wK (i j:Int):Prop:=0 < j /\ j < 1073741824
def BU (i j:Int):Prop:=j ≠ 0 /\ j.natAbs < 1073741824
def xg (i j:Int):Prop:=0 <= j /\ j <= 1000000 /\ i.natAbs < 2 ^ 64
def CMul (i j:Int):Prop:=(-(2 ^ 64) < i /\ i < 2 ^ 64) \/ (-(2 ^ 64) < j /\ j < 2 ^ 64)
theorem CMul.ok {i j:Int} (h:CMul i j):IntMulOk i j:=by
 rcases h with ⟨h1,h2⟩ | ⟨h1,h2⟩
 ·exact .of_left (intBits_le_64 h1 h2)
 ·exact .of_right (intBits_le_64 h1 h2)
theorem op_add:OpR X (binaryOp .Add) (rI0 fun i j=>.int (i + j)):=yR fun _ _ _ _ _ _ _ q=>add_int q
theorem va:OpR X (binaryOp .Sub) (rI0 fun i j=>.int (i - j)):=yR fun _ _ _ _ _ _ _ q=>sub_int q
theorem op_mul:OpR X (binaryOp .Mult) (rI CMul fun i j=>.int (i * j)):=opI fun _ _ _ _ _ _ _ hc q=>mul_int q hc.ok
theorem rJ:OpR X (binaryOp .FloorDiv) (rI wK fun i j=>.int (i / j)):=opI fun i j _ _ _ _ _ hc q=>by
 have h1:(0:Int) < j:=hc.1
 have h2:j < 1073741824:=hc.2
 exact floordiv_int (by omega) (by rw [Int.fdiv_eq_ediv_of_nonneg i (by omega)]; exact q) (.inl (PyProof.noPylong_small (by omega)))
theorem vB:OpR X (binaryOp .Mod) (rI (fun _ j=>0 < j) fun i j=>.int (i % j)):=opI fun i j _ _ _ _ _ hc q=>by
 have h1:(0:Int) < j:=hc
 exact mod_int' (by omega) (by rw [Int.fmod_eq_emod_of_nonneg i (by omega)]; exact q)
theorem uv:OpR X (binaryOp .Pow) (rI xg fun i j=>.int (i ^ j.toNat)):=opI fun _ _ _ _ _ _ _ hc q=>pow_int_small hc.1 hc.2.1 hc.2.2 q
end
def zY:V -> V -> Bool
 | .non,.non=>true | .non,.int _=>true | .int _,.non=>true | .non,.bl _=>true | .bl _,.non=>true | .non,.str _=>true | .str _,.non=>true
 | .int _,.int _=>true | .bl _,.bl _=>true | .str _,.str _=>true | .byt _,.byt _=>true
 | .int _,.str _=>true | .str _,.int _=>true | .bl _,.str _=>true | .str _,.bl _=>true
 | _,_=>false
def rEq:R2:=fun x y H Q=>zY x y = true /\ Q (.bl (decide (x = y))) H
def rNe:R2:=fun x y H Q=>zY x y = true /\ Q (.bl (!decide (x = y))) H
section
variable {X:Cx} {a b c:Expr} {ta tb tc:TE} {pos:Pos}
theorem nV {pins:List (Addr × Obj)} {σ:St} {H:Hp} {s:Shared} {Q:VK} {k k':Bool} (I:Inv X pins σ H s) (q:Q (.bl k) H) (e:k = k'):EP X pins σ Q (.bool k') s:=by
 subst e
 exact ⟨.bl k,H,I,rfl,q⟩
theorem tF:OpR X (compareOp .Lt) (rI0 fun i j=>.bl (decide (i < j))):=vh fun _ _ _ _ _ _ _ q=>lt_int q
theorem yz:OpR X (compareOp .Gt) (rI0 fun i j=>.bl (decide (j < i))):=vh fun _ _ _ _ _ _ _ q=>gt_int q
theorem Aw:OpR X (compareOp .GtE) (rI0 fun i j=>.bl (decide (j <= i))):=vh fun _ _ _ _ _ _ _ q=>ge_int q
theorem xJ:OpR X (compareOp .Is) (fun x y H Q=>y = .non /\ Q (.bl (decide (x = .non))) H):=by
 intro pins s σ H x y v u Q I rx ry h
 obtain ⟨rfl,q⟩:=h
 cases ry
 refine is_none_gen (nV I q ?_)
 cases x <;> first
  | (cases rx; rfl)
  | (obtain ⟨t,rfl⟩:=rx; rfl)
theorem qP:OpR X (compareOp .IsNot) (fun x y H Q=>y = .non /\ Q (.bl (!decide (x = .non))) H):=by
 intro pins s σ H x y v u Q I rx ry h
 obtain ⟨rfl,q⟩:=h
 cases ry
 refine isnot_none_gen (nV I q ?_)
 cases x <;> first
  | (cases rx; rfl)
  | (obtain ⟨t,rfl⟩:=rx; rfl)
def Ce:HO -> Bool
 | .lst _=>true
 | .ins _ _ _=>true
 | _=>false
theorem OpR.or {f:Value -> Value -> Sem Value} {r r':R2} (h:OpR X f r) (h':OpR X f r'):OpR X f (fun x y H Q=>r x y H Q \/ r' x y H Q):=by
 intro pins s σ H x y v u Q I rx ry q
 rcases q with q | q
 ·exact h pins s σ H x y v u Q I rx ry q
 ·exact h' pins s σ H x y v u Q I rx ry q
theorem bK (b:Expr) {op:CmpOp} (h:op ≠ .In:=by decide) (h2:op ≠ .NotIn:=by decide):behindInMarks op b = false:=by
 have e1:(op == CmpOp.In) = false:=by cases op <;> first | rfl | exact absurd rfl h
 have e2:(op == CmpOp.NotIn) = false:=by cases op <;> first | rfl | exact absurd rfl h2
 cases b <;> simp [behindInMarks,e1,e2]
theorem fW {op:CmpOp} {r:R2} (ho:OpR X (compareOp op) r) (ha:PE X a ta) (hb:PE X b tb) (hm:behindInMarks op b = false):PE X (.Compare a [op] [b] pos) (tOp r ta tb):=by
 intro pins s σ H Q I h
 exact wpAny_Compare1 (wg ha hb I h fun v u s2 x y H2 I2 rx ry q=>ho pins s2 σ H2 x y v u Q I2 rx ry q) hm
def tK (t:TE):TT:=fun σ H Q=>t σ H fun x H'=>∃ k,x = .bl k /\ Q k H'
theorem kb {op:CmpOp} {r:R2} (ho:OpR X (compareOp op) r) (ha:PE X a ta) (hb:PE X b tb) (hm:behindInMarks op b = false):PT X (.Compare a [op] [b] pos) (tK (tOp r ta tb)):=by
 intro pins s σ H Q I h
 refine wpAny_isTrue_Compare1 (thn (ha pins s σ H _ I h) fun v s1 ⟨x,H1,I1,r1,q1⟩=>thn (hb pins s1 σ H1 _ I1 q1) fun u s2 ⟨y,H2,I2,r2,q2⟩ =>
  thn (ho pins s2 σ H2 x y v u _ I2 r1 r2 q2) fun c s3 ⟨z,H3,I3,r3,k,e,q3⟩=>?_) hm
 subst e
 cases r3
 exact wpAny_truthy_bool ⟨H3,I3,q3⟩
def BP (r r':R2) (ta tb tc:TE):TE:=fun σ H Q=>ta σ H fun x H1=>tb σ H1 fun y H2=>r x y H2 fun z H3=>∃ k,z = .bl k /\
 (if k = true then tc σ H3 fun w' H4=>r' y w' H4 Q else Q (.bl false) H3)
def pC (K:PySem.W.Frag) (x:V) (H:Hp) (k:Bool):Prop :=
 match x with
 | .non=>k = false
 | .bl b=>k = b
 | .int i=>k = (i != 0)
 | .str y=>y.length <= sizeLine /\ k = ((y.length:Int) != 0)
 | .byt y=>y.size <= sizeLine /\ k = ((y.size:Int) != 0)
 | .ref p=>(∃ xs,SqL K H p xs /\ k = !xs.isEmpty) \/ (∃ xs,SqT K H p xs /\ k = !xs.isEmpty) \/ ∃ kvs,H p = some (.dK kvs) /\ k = !kvs.isEmpty
 | _=>False
theorem jv {κ:Type} {kvs:List (κ × V)} {vs:List (κ × Value)} (r:KV kvs vs):(!vs.isEmpty) = !kvs.isEmpty:=by
 cases r <;> rfl
theorem d9 {xs:List V} {its:List Value} (r:Vals xs its):(!its.toArray.isEmpty) = !xs.isEmpty:=by
 cases r <;> simp
theorem dk:(sizeLine:Nat) < 2 ^ 63:=by rw [sizeLine_eq]; decide
theorem jB:Bd X (fun x H Q=>∃ k,pC X.K x H k /\ Q k H):=by
 intro pins s σ H x v Q I rx h
 obtain ⟨k,e,q⟩:=h
 have hl:=dk
 have hs:sizeLine = 16777216:=sizeLine_eq
 cases x with
 | non =>
  cases rx
  have e':k = false:=e
  subst e'
  exact truthy_none ⟨H,I,q⟩
 | bl b =>
  cases rx
  have e':k = b:=e
  subst e'
  exact wpAny_truthy_bool ⟨H,I,q⟩
 | int i =>
  obtain ⟨t,rfl⟩:=rx
  have e':k = (i != 0):=e
  subst e'
  exact PySem.P.truthy_int ⟨H,I,q⟩
 | str y =>
  obtain ⟨t,rfl⟩:=rx
  obtain ⟨hy,e'⟩:y.length <= sizeLine /\ k = ((y.length:Int) != 0):=e
  subst e'
  exact PySem.P.truthy_str (by omega) ⟨H,I.tok _,q⟩
 | byt y =>
  obtain ⟨t,rfl⟩:=rx
  obtain ⟨hy,e'⟩:y.size <= sizeLine /\ k = ((y.size:Int) != 0):=e
  subst e'
  exact PySem.W.truthy_bytes (by omega) ⟨H,I.tok _,q⟩
 | ref p =>
  cases rx
  have e':(∃ xs,SqL X.K H p xs /\ k = !xs.isEmpty) \/ (∃ xs,SqT X.K H p xs /\ k = !xs.isEmpty) \/ ∃ kvs,H p = some (.dK kvs) /\ k = !kvs.isEmpty:=e
  rcases e' with ⟨xs,hx,e'⟩ | ⟨xs,hx,e'⟩ | ⟨kvs,hx,e'⟩
  ·subst e'
   obtain ⟨its,r,pl,hz⟩:=I.list hx
   have hlen:=r.length
   exact wpAny_truthy_list pl.isList (by simp only [List.size_toArray]; omega) ⟨H,I.tok _,by rw [d9 r]; exact q⟩
  ·subst e'
   obtain ⟨its,r,pl,hz⟩:=I.tuple hx
   have hlen:=r.length
   exact truthy_tuple pl (by simp only [List.size_toArray]; omega) ⟨H,I.tok _,by rw [d9 r]; exact q⟩
  ·subst e'
   obtain ⟨hz,hS,vs,r,m⟩:kvs.length <= sizeLine /\ (p == sysModules) = false /\ ∃ vs,KV kvs vs /\ s.heap.DictOf (fY X.prog X.w) p vs:=I.hok p _ hx
   have hlen:kvs.length = vs.length:=Paired.length r
   exact wpAny_truthy_dict hS m (by omega) ⟨H,I.tok _,by rw [jv r]; exact q⟩
 | _=>exact (show False from e).elim
theorem mf (ha:PE X a ta) (he:∀ whole,isTrue a X.env whole = (do let v <- whole; standAt a.pos; holding [v] (truthy v))) :
  PT X a (fun σ H Q=>ta σ H fun x H'=>∃ k,pC X.K x H' k /\ Q k H'):=by
 intro pins s σ H Q I h
 exact isTrue_plain (thn (ha pins s σ H _ I h) fun v s1 ⟨x,H1,I1,r1,q1⟩=>jB pins s1 σ H1 x v Q I1 r1 q1) (he _)
theorem op_add_str:OpR X (binaryOp .Add) (fun x y H Q=>∃ i j,x = .str i /\ y = .str j /\ i.length + j.length <= sizeLine /\ Q (.str (i ++ j)) H):=by
 intro pins s σ H x y v u Q I rx ry h
 obtain ⟨i,j,rfl,rfl,hz,q⟩:=h
 obtain ⟨t,rfl⟩:=rx
 obtain ⟨t',rfl⟩:=ry
 exact add_str (fun t' tk=>⟨.str (i ++ j),H,I.tok _,⟨_,rfl⟩,q⟩) hz
def yK (b:Expr):Prop:=∀ o i,subscripted b false o i = operate [o,i] (getItem o i)
theorem ia {x:V} {us:List Value} (r:Vals [x] us):∃ u,us = [u] /\ RelV x u:=by
 cases r with
 | cons r1 r2=>cases r2; exact ⟨_,rfl,r1⟩
theorem fC {x y:V} {us:List Value} (r:Vals [x,y] us):∃ u w',us = [u,w'] /\ RelV x u /\ RelV y w':=by
 cases r with
 | cons r1 r2 =>
  cases r2 with
  | cons r3 r4=>cases r4; exact ⟨_,_,rfl,r1,r3⟩
theorem lO:cG X (.type "int") (fun xs H Q=>(∃ i,xs = [.int i] /\ Q (.int i) H) \/ ∃ k,xs = [.bl k] /\ Q (.int (if k then 1 else 0)) H):=by
 intro pins s σ H xs us Q I r h
 rcases h with ⟨i,rfl,q⟩ | ⟨k,rfl,q⟩
 ·obtain ⟨u,rfl,t,rfl⟩:=ia r
  exact call_int_int ⟨.int i,H,I,⟨_,rfl⟩,q⟩
 ·obtain ⟨u,rfl,r1⟩:=ia r
  cases r1
  exact call_int_bool ⟨.int (if k then 1 else 0),H,I.tok _,⟨_,rfl⟩,q⟩
def Ab (K:PySem.W.Frag) (x:V) (H:Hp) (n:Nat):Prop :=
 match x with
 | .str y=>y.length <= sizeLine /\ n = y.length
 | .byt y=>y.size <= sizeLine /\ n = y.size
 | .ref p=>(∃ xs,SqL K H p xs /\ n = xs.length) \/ ∃ xs,SqT K H p xs /\ n = xs.length
 | _=>False
theorem mq:cG X (.builtin "len") (fun xs H Q=>∃ x n,xs = [x] /\ Ab X.K x H n /\ Q (.int n) H):=by
 intro pins s σ H xs us Q I r h
 obtain ⟨x,n,rfl,e,q⟩:=h
 obtain ⟨u,rfl,rx⟩:=ia r
 have hl:=dk
 have hs:sizeLine = 16777216:=sizeLine_eq
 cases x with
 | str y =>
  obtain ⟨t,rfl⟩:=rx
  obtain ⟨hy,e'⟩:y.length <= sizeLine /\ n = y.length:=e
  subst e'
  exact len_str (by omega) ⟨.int _,H,I.tok _,⟨_,rfl⟩,q⟩
 | byt y =>
  obtain ⟨t,rfl⟩:=rx
  obtain ⟨hy,e'⟩:y.size <= sizeLine /\ n = y.size:=e
  subst e'
  exact PySem.W.len_bytes (by omega) ⟨.int _,H,I.tok _,⟨_,rfl⟩,q⟩
 | ref p =>
  cases rx
  have e':(∃ xs,SqL X.K H p xs /\ n = xs.length) \/ ∃ xs,SqT X.K H p xs /\ n = xs.length:=e
  rcases e' with ⟨xs,hx,e'⟩ | ⟨xs,hx,e'⟩
  ·subst e'
   obtain ⟨its,r',pl,hz⟩:=I.list hx
   have hlen:=r'.length
   exact Calls.call_len_list pl.isList (by simp only [List.size_toArray]; omega) ⟨.int xs.length,H,I.tok _,⟨_,by simp only [List.size_toArray]; rw [hlen]⟩,q⟩
  ·subst e'
   obtain ⟨its,r',pl,hz⟩:=I.tuple hx
   have hlen:=r'.length
   exact len_tuple pl (by simp only [List.size_toArray]; omega) ⟨.int xs.length,H,I.tok _,⟨_,by simp only [List.size_toArray]; rw [hlen]⟩,q⟩
 | _=>exact (show False from e).elim
end
end L2
namespace L2
open PySem PySem.Spec PyProof.Rows
structure ObjM (h:Heap) (x dx C:Addr) (mA:Str -> Option Value):Prop where
 obj:h.get? x = some (PySem.W.instObj C dx)
 ns:h.Ns1 dx mA
 ne:dx ≠ x
theorem kN {h:Heap} {dx:Addr} {mA:Str -> Option Value} (n:h.Ns1 dx mA):∃ od,h.get? dx = some od /\ ∀ name,PySem.W.lookIn name od = some (mA name):=by
 obtain ⟨o,es,ep,ho,hd,hk,_,hm⟩:=n
 refine ⟨o,ho,fun name=>?_⟩
 have e:=hm name
 unfold nsFind findBy at e
 rw [<- Array.find?_toList] at e
 unfold PySem.W.lookIn
 rw [hd]
 dsimp only
 split
 ·rename_i y q
  rw [q] at e
  exact congrArg some e
 ·rename_i q
  rw [q] at e
  have a:es.toList.any (·.refKey) = false:=by
   rw [List.any_eq_false]
   intro y hy
   obtain ⟨z,t,hkey⟩:=hk y (Array.mem_toList_iff.mp hy)
   simp [DictEntry.refKey,hkey]
  have a':¬ es.toList.any (·.refKey) = true:=by rw [a]; exact Bool.false_ne_true
  rw [if_neg a']
  exact congrArg some e
theorem ObjM.look {h:Heap} {x dx C:Addr} {mA:Str -> Option Value} (I:ObjM h x dx C mA):∃ od,PySem.W.InstAt h x (PySem.W.instObj C dx) C (some od) /\ ∀ name,PySem.W.lookIn name od = some (mA name) :=
 let ⟨od,ho,hl⟩:=kN I.ns
 ⟨od,⟨I.obj,rfl,rfl,ho⟩,hl⟩
section
variable {prog:Program} {w:World} {A:Around} {E:Value -> Shared -> Prop} {s:Shared} {K:PySem.W.Frag} {x dx C f:Addr} {mA:Str -> Option Value} {name:Str} {v:Value}
end
def lx (f:Str) (v:V):List (Str × V) -> List (Str × V)
 | []=>[(f,v)]
 | (g,x) :: r=>if g = f then (g,v) :: r else (g,x) :: lx f v r
section
variable {P:Program} {w:World} {H H':Hp} {h h':Heap} {a C dx:Addr} {fs fs':List (Str × V)}
theorem qz (hok:HOk P w H h) (e:H a = some (.ins C dx fs)):∃ mA,ObjM h a dx C mA /\ (∀ f,RelO (fs.lookup f) (mA f)) /\ PySem.Within mA (fs.map (·.1)) /\ fs.length <= 1000 /\ H dx = some (.own a):=by
 obtain ⟨d,z,ne,ob,mA,n,r,q⟩:=(show ObjOk P w H h a (.ins C dx fs) from hok a _ e)
 exact ⟨mA,⟨ob,n,ne⟩,r,q,z,d⟩
end
structure Cls (K:PySem.W.Frag) (C:Addr):Prop where
 pg:PySem.W.plainGet K C Str.empty = true
 hd:PySem.W.hasDictIn K C = true
 po:PySem.W.plainOver K C = true
 sa:PySem.W.findIn K (.ref C) "__setattr__" = some (some (.builtin "object.__setattr__"))
theorem Cls.get {K:PySem.W.Frag} {C:Addr} (c:Cls K C) (f:Str):PySem.W.plainGet K C f = true:=c.pg
def i9 (K:PySem.W.Frag) (C:Addr) (f:Str):Prop:=PySem.W.findIn K (.ref C) f = some none
structure Con (K:PySem.W.Frag) (C:Addr) (f:Str) (v:V) (u:Value):Prop where
 at_:PySem.W.findIn K (.ref C) f = some (some u)
 rel:RelV v u
 get:PySem.W.specialIn K u "__get__" = some none
 cp:PySem.W.copiedNames.contains f = false
structure Cp (K:PySem.W.Frag) (C:Addr) (m:Str) (f:Addr):Prop where
 at_:PySem.W.findIn K (.ref C) m = some (some (.ref f))
 fn:PySem.W.isFn K (.ref f) = true
 kp:PySem.W.keepIn K (.ref f) = true
section
variable {X:Cx} {pins:List (Addr × Obj)} {σ:St} {H:Hp} {s:Shared} {a C dx:Addr} {fs:List (Str × V)} {f:Str} {v:V} {A:Around} {E:Value -> Shared -> Prop}
end
def CJ (K:PySem.W.Frag) (ta:TE) (f:Str):TE:=fun σ H Q=>ta σ H fun x H1=>∃ a C dx fs v,x = .ref a /\ H1 a = some (.ins C dx fs) /\ Cls K C /\ i9 K C f /\ fs.lookup f = some v /\ Q v H1
def Cy (K:PySem.W.Frag) (ta:TE) (f:Str):TE:=fun σ H Q=>ta σ H fun x H1=>∃ a C dx fs v u,x = .ref a /\ H1 a = some (.ins C dx fs) /\ Cls K C /\ Con K C f v u /\ fs.lookup f = none /\ Q v H1
def CB (K:PySem.W.Frag) (ta tv:TE) (f:Str):TS:=fun D σ H=>tv σ H fun y H1=>ta σ H1 fun x H2=>∃ a C dx fs,x = .ref a /\ H2 a = some (.ins C dx fs) /\ Cls K C /\ i9 K C f /\ fs.length < 1000 /\
 D.nx σ (upd H2 a (.ins C dx (lx f y fs)))
def Cw (X:Cx) (op:Operator) (rd:V -> V -> Hp -> VK -> Prop):Prop :=
 ∀ (pins:List (Addr × Obj)) (s:Shared) (σ:St) (H:Hp) (x y:V) (u v:Value) (Q:VK),Inv X pins σ H s -> RelV x u -> RelV y v -> rd x y H Q -> wpAny (model X.prog X.w) X.A (inplaceOp op u v) (EP X pins σ Q) X.xe s
def AA (K:PySem.W.Frag) (ta tv:TE) (rd:V -> V -> Hp -> VK -> Prop) (f:Str):TS:=fun D σ H=>ta σ H fun x H1=>∃ a C dx fs v,x = .ref a /\ H1 a = some (.ins C dx fs) /\ Cls K C /\ i9 K C f /\ fs.lookup f = some v /\
 tv σ H1 fun y H2=>rd v y H2 fun z H3=>∃ dx' fs',H3 a = some (.ins C dx' fs') /\ fs'.length < 1000 /\ D.nx σ (upd H3 a (.ins C dx' (lx f z fs')))
section
variable {X:Cx} {o e value:Expr} {f:Str} {pos pos' tpos:Pos} {ta tv:TE}
def Cq:V -> V -> Hp -> VK -> Prop:=fun x y H Q=>∃ i j,x = .int i /\ y = .int j /\ Q (.int (i + j)) H
def CA:V -> V -> Hp -> VK -> Prop:=fun x y H Q=>∃ i j,x = .int i /\ y = .int j /\ Q (.int (i - j)) H
end
section
variable {X:Cx} {pins:List (Addr × Obj)} {σ:St} {H:Hp} {s:Shared} {A:Around} {E:Value -> Shared -> Prop} {Q:Value -> Shared -> Prop} {c:Value} {b:Bool}
inductive dM (K:PySem.W.Frag) (H:Hp):V -> Value -> Prop where
 | non:dM K H .non (.type "NoneType")
 | bl (x:Bool):dM K H (.bl x) (.type "bool")
 | int (i:Int):dM K H (.int i) (.type "int")
 | str (x:Str):dM K H (.str x) (.type "str")
 | flt (x:UInt64):dM K H (.flt x) (.type "float")
 | lst {a:Addr} {xs:List V} (e:H a = some (.lst xs)):dM K H (.ref a) (.type "list")
 | frz {a:Addr} {o:Obj} {xs:List V} (e:H a = some (.frz o (.lst xs))):dM K H (.ref a) (.type "list")
 | tup {a:Addr} {xs:List V} (e:H a = some (.tup xs)):dM K H (.ref a) (.type "tuple")
 | dK {a:Addr} {kvs:List (Key × V)} (e:H a = some (.dK kvs)):dM K H (.ref a) (.type "dict")
 | dT {a:Addr} {kvs:List (List Key × V)} (e:H a = some (.dT kvs)):dM K H (.ref a) (.type "dict")
 | ins {a C dx:Addr} {fs:List (Str × V)} (e:H a = some (.ins C dx fs)) (cl:Cls K C) (ha:PySem.W.findIn K (.ref C) "__class__" = some (some (.builtin "object.__class__")))
   (hn:PySem.W.specialIn K (.builtin "object.__class__") "__get__" = some (some (.builtin "getset_descriptor.__get__"))) (htk:PySem.W.takesIn K (.builtin "object.__class__") = some true)
   (hm:PySem.W.mroIn K C (.type "object") = some true):dM K H (.ref a) (.ref C)
theorem aY {x:V} {u t:Value} (I:Inv X pins σ H s) (rx:RelV x u) (ty:dM X.K H x t) (e:PySem.W.kitOne X.K t c = some b) (h:∀ tk,Q (.bool b) { s with toks:=tk }) :
  wpAny (model X.prog X.w) A (call (.builtin "isinstance") [u,c]) Q E s:=by
 cases ty with
 | non=>cases (show u = Value.none from rx); exact PySem.W.kia_one PySem.W.kitx_none I.kIn True.intro e (fun z=>nomatch z) h
 | bl y=>cases (show u = Value.bool y from rx); exact PySem.W.kia_one PySem.W.kitx_bool I.kIn True.intro e (fun z=>nomatch z) h
 | int i=>obtain ⟨t,q⟩:=(show ∃ t,u = Value.int i t from rx); cases q; exact PySem.W.kia_one PySem.W.kitx_int I.kIn True.intro e (fun z=>nomatch z) h
 | str y=>obtain ⟨t,q⟩:=(show ∃ t,u = Value.str y t from rx); cases q; exact PySem.W.kia_one PySem.W.kitx_str I.kIn True.intro e (fun z=>nomatch z) h
 | flt y=>obtain ⟨t,q⟩:=(show ∃ t,u = Value.float y t from rx); cases q; exact PySem.W.kia_one PySem.W.kitx_float I.kIn True.intro e (fun z=>nomatch z) h
 | @lst a xs ea =>
  cases (show u = Value.ref a from rx)
  obtain ⟨_,_,n,_,h1⟩:=(show ObjOk X.prog X.w H s.heap a (.lst xs) from I.hok a _ ea)
  exact PySem.W.kia_one PySem.W.kitx_list I.kIn ⟨_,h1,rfl⟩ e (fun z=>nomatch z) h
 | @frz a ob xs ea =>
  cases (show u = Value.ref a from rx)
  obtain ⟨_,_,_,n,_,h1⟩:=(show ObjOk X.prog X.w H s.heap a (.frz ob (.lst xs)) from I.hok a _ ea)
  exact PySem.W.kia_one PySem.W.kitx_list I.kIn ⟨_,h1,rfl⟩ e (fun z=>nomatch z) h
 | @tup a xs ea =>
  cases (show u = Value.ref a from rx)
  obtain ⟨_,_,_,p⟩:=(show ObjOk X.prog X.w H s.heap a (.tup xs) from I.hok a _ ea)
  obtain ⟨o,h1,h2,_⟩:=p
  exact PySem.W.kia_one PySem.W.kitx_tuple I.kIn ⟨o,h1,h2⟩ e (fun z=>nomatch z) h
 | @dK a kvs ea =>
  cases (show u = Value.ref a from rx)
  obtain ⟨_,_,vs,_,p⟩:=(show ObjOk X.prog X.w H s.heap a (.dK kvs) from I.hok a _ ea)
  obtain ⟨o,es,ep,h1,h2,_⟩:=p
  exact PySem.W.kia_one PySem.W.kitx_dict I.kIn ⟨o,h1,h2.1⟩ e (fun z=>nomatch z) h
 | @dT a kvs ea =>
  cases (show u = Value.ref a from rx)
  obtain ⟨_,_,xs,_,o,es,ep,h1,h2,_⟩:=(show ObjOk X.prog X.w H s.heap a (.dT kvs) from I.hok a _ ea)
  exact PySem.W.kia_one PySem.W.kitx_dict I.kIn ⟨o,h1,h2.1⟩ e (fun z=>nomatch z) h
 | @ins a C dx fs ea cl ha hn htk hm =>
  cases (show u = Value.ref a from rx)
  obtain ⟨mA,O,_⟩:=qz I.hok ea
  obtain ⟨od,J,_⟩:=O.look
  exact PySem.W.kia_one (PySem.W.kitx_own (cl.get _) cl.hd ha hn htk hm) I.kIn J e (fun z=>nomatch z) h
end
end L2
namespace L2
open PySem PySem.Spec PyProof.Rows
structure Room (k:Nat) (A:Around):Prop where
 hd:A.handled = none
 dp:A.depth + 3 * k + 5 < recursionLimit
 un:A.units + 16 * k + 200 < cLine
theorem Room.deeper {k:Nat} {A:Around} (r:Room (k + 1) A) (env:Env):Room k (A.deeper env) :=
 ⟨r.hd,by have:=r.dp; show A.depth + 1 + 3 * k + 5 < _; omega,by have:=r.un; show A.units + 3 + 16 * k + 200 < _; omega⟩
theorem Room.depth {k:Nat} {A:Around} (r:Room k A):A.depth < recursionLimit:=by have:=r.dp; omega
theorem Room.units {k:Nat} {A:Around} (r:Room k A):A.units + 64 < cLine:=by have:=r.un; omega
def wc:TA:=fun _ H Q=>Q [] H
def ku (ta:TE) (tr:TA):TA:=fun σ H Q=>ta σ H fun x H1=>tr σ H1 fun xs H2=>Q (x :: xs) H2
section
variable {X:Cx} {e:Expr} {es:List Expr} {te:TE} {t:TA} {pos:Pos}
theorem a9:PA X [] wc:=fun _ _ _ _ H Q I h=>Calls.spliced_nil ⟨[],H,I,.nil,h⟩
theorem az (ha:PE X e te) (hr:PA X es t) (hs:starEach (e :: es) X.env = (false,eval e X.env) :: starEach es X.env:=by rfl):PA X (e :: es) (ku te t):=by
 intro pos pins s σ H Q I h
 rw [hs]
 show wpAny _ _ (spliced ((false,eval e X.env) :: backTo pos (starEach es X.env))) _ _ s
 refine Calls.spliced_cons (thn (ha pins s σ H _ I h) fun u s1 ⟨x,H1,I1,r1,q1⟩=>?_)
 exact thn (hr pos pins s1 σ H1 _ I1 q1) fun us s2 ⟨xs,H2,I2,r2,q2⟩=>⟨x :: xs,H2,I2,.cons r1 r2,q2⟩
def yi (t:TA):TE:=fun σ H Q=>t σ H fun xs H1=>xs.length <= sizeLine /\ ∀ p,H1 p = none -> Q (.ref p) (upd H1 p (.tup xs))
def yP (t:TA):TE:=fun σ H Q=>t σ H fun xs H1=>xs.length <= sizeLine /\ ∀ p,H1 p = none -> Q (.ref p) (upd H1 p (.lst xs))
theorem jg {x1} (h:PA X es t):PE X (.Tuple es x1 pos) (yi t):=by
 intro pins s σ H Q I hq
 refine wpAny_Tuple_spliced (thn (h pos pins s σ H _ I hq) fun us s1 ⟨xs,H1,I1,r,z,q⟩=>⟨by rw [<- r.length]; exact z,?_⟩)
 have hf:H1 s1.heap.objs.size = none:=I1.hok.fresh (Nat.le_refl _)
 refine ⟨.ref s1.heap.objs.size,upd H1 s1.heap.objs.size (.tup xs),I1.laid (t':=s1.toks) (fun b u e=>Heap.get?_push_of_some _ e) (Nat.le_refl _) ?_,rfl,q _ hf⟩
 exact ⟨z,us,r,⟨_,Heap.get?_push_size _ rfl,rfl,_,rfl⟩⟩
theorem vG (h:PA X es t):PE X (.List es pos) (yP t):=by
 intro pins s σ H Q I hq
 refine wpAny_List_spliced (thn (h pos pins s σ H _ I hq) fun us s1 ⟨xs,H1,I1,r,z,q⟩=>⟨by rw [<- r.length]; exact z,?_⟩)
 have hf:H1 s1.heap.objs.size = none:=I1.hok.fresh (Nat.le_refl _)
 refine ⟨.ref s1.heap.objs.size,upd H1 s1.heap.objs.size (.lst xs),I1.laid (t':=s1.toks) (fun b u e=>Heap.get?_push_of_some _ e) (Nat.le_refl _) ?_,rfl,q _ hf⟩
 exact ⟨z,us,0,r,Heap.get?_push_size _ rfl⟩
end
abbrev Sp:=List V -> Hp -> VK -> XK -> Prop
abbrev CXT:=List Env -> Hp -> Shared -> XK -> Value -> Shared -> Prop
structure qN (P:Program) (w:World) (K:PySem.W.Frag) (mg:Str -> Option Value) (base:Heap) (A:Around) (outer:List Env) (s:Shared) (H:Hp):Prop where
 frames:A.frames = some outer
 mod:Mod K mg base
 bs:∀ b o,base.get? b = some o -> s.heap.get? b = some o /\ H b = none
 bsz:base.objs.size <= s.heap.objs.size
 funs:s.heap.FunFrames base outer
 frf:∀ b ∈ frs outer,H b = none
 hok:HOk P w H s.heap
 bare:AllBare s.gens
def CE (outer:List Env) (P:Program) (w:World) (H:Hp) (s:Shared) (Q:VK) (u:Value) (s':Shared):Prop :=
 ∃ v H',s'.os = s.os /\ AllBare s'.gens /\ Un (frs outer) [] H H' s.heap s'.heap /\ HOk P w H' s'.heap /\ RelV v u /\ Q v H'
def CR (CX:CXT) (outer:List Env) (P:Program) (w:World) (H:Hp) (s:Shared) (Q:VK) (E:XK) (r:Result) (s':Shared):Prop :=
 match r with
 | .ok (.ret u)=>CE outer P w H s Q u s'
 | .ok _=>False
 | .error e=>CX outer H s E e s'
structure FnOk (P:Program) (w:World) (K:PySem.W.Frag) (mg:Str -> Option Value) (base:Heap) (CX:CXT) (k:Nat) (f:Addr) (fd:FuncData) (ps:List Str) (sp:Sp):Prop where
 len:∀ vs H Q E,sp vs H Q E -> vs.length = ps.length
 run:∀ (A:Around) (outer:List Env) (s:Shared) (H:Hp) (args:Args) (us:List Value) (vs:List V) (Q:VK) (E:XK),Room k A -> qN P w K mg base A outer s H -> BindsTo s fd args (ps.zip us) -> Vals vs us -> sp vs H Q E ->
  codeAny (model P w) A (.call (.ref f) args) (CR CX outer P w H s Q E) s
theorem FnOk.imp {P:Program} {w:World} {K:PySem.W.Frag} {mg:Str -> Option Value} {base:Heap} {CX:CXT} {k:Nat} {f:Addr} {fd:FuncData} {ps:List Str} {sp sp':Sp} (F:FnOk P w K mg base CX k f fd ps sp)
  (h:∀ vs H Q E,sp' vs H Q E -> sp vs H Q E):FnOk P w K mg base CX k f fd ps sp' :=
 ⟨fun vs H Q E q=>F.len vs H Q E (h _ _ _ _ q),fun A outer s H args us vs Q E hr he hb hv hs=>F.run A outer s H args us vs Q E hr he hb hv (h _ _ _ _ hs)⟩
section
variable {X:Cx} {pins:List (Addr × Obj)} {σ:St} {H:Hp} {s s':Shared}
theorem Inv.env0 (I:Inv X pins σ H s):qN X.prog X.w X.K X.mg X.base X.A X.stack s H :=
 ⟨I.ok.frames,I.ok.mod,I.bs,Nat.le_trans I.ok.bsz I.sz,I.stack,I.stkFree,I.hok,I.bare⟩
theorem Inv.after {Q:VK} {u:Value} (I:Inv X pins σ H s) (h:CE X.stack X.prog X.w H s Q u s'):EP X pins σ Q u s':=by
 obtain ⟨v,H',os,bare,un,hok,r,q⟩:=h
 obtain ⟨hh,g,d,t,os'⟩:=s'
 obtain rfl:os' = s.os:=os
 exact ⟨v,H',I.call (h':=hh) (g':=g) (d':=d) (t':=t) (ch:=[]) un hok bare (fun b z=>absurd z (by simp)),r,q⟩
end
def zT (sp:Sp) (dvs:List V) (E:XK) (t:TA):TE:=fun σ H Q=>t σ H fun vs H1=>sp (vs ++ dvs) H1 Q E
def Cj (C:Addr) (m:Str) (sp:Sp) (dvs:List V) (E:XK) (ta:TE) (t:TA):TE:=fun σ H Q=>ta σ H fun x H1=>∃ a dx fs,x = .ref a /\ H1 a = some (.ins C dx fs) /\ fs.lookup m = none /\
 t σ H1 fun vs H2=>sp (x :: (vs ++ dvs)) H2 Q E
def Cd (C:Addr) (sp:Sp) (dvs:List V) (E:XK) (t:TA):TE:=fun σ H Q=>t σ H fun vs H1=>∀ x dx,H1 x = none -> H1 dx = none -> dx ≠ x ->
 sp (.ref x :: (vs ++ dvs)) (upd (upd H1 dx (.own x)) x (.ins C dx [])) (fun v H2=>v = .non /\ Q (.ref x) H2) E
def Binds (K:PySem.W.Frag) (fd:FuncData) (ps:List Str) (ds:List Value):Prop :=
 ∀ (s:Shared) (us:List Value),K.In s.heap -> (us ++ ds).length = ps.length -> BindsTo s fd ⟨us,[]⟩ (ps.zip (us ++ ds))
theorem Binds.all {K:PySem.W.Frag} {fd:FuncData} {ps:List Str} (h:∀ us:List Value,us.length = ps.length -> bindArgs fd ⟨us,[]⟩ = pure (ps.zip us)):Binds K fd ps []:=fun s us _ hl=>by
 rw [List.append_nil] at hl ⊢
 exact .of_eq (h us hl)
def jn (CX:CXT) (X:Cx) (E:XK):Prop:=∀ (pins:List (Addr × Obj)) (σ:St) (H:Hp) (s:Shared) (e:Value) (s':Shared),Inv X pins σ H s -> CX X.stack H s E e s' -> X.xe e s'
section
variable {X:Cx} {CX:CXT} {k:Nat} {f C:Addr} {fd:FuncData} {ps:List Str} {sp:Sp} {dvs:List V} {ds:List Value} {E:XK} {x m:Str} {p pos apos:Pos} {e o:Expr} {es:List Expr} {ta:TE} {t:TA}
theorem lY {pins:List (Addr × Obj)} {σ:St} {H:Hp} {s:Shared} {Q:VK} {us:List Value} {vs:List V} (F:FnOk X.prog X.w X.K X.mg X.base CX k f fd ps sp) (hr:Room k X.A) (hb:Binds X.K fd ps ds) (hd:Vals dvs ds) (hx:jn CX X E)
  (I:Inv X pins σ H s) (r:Vals vs us) (h:sp (vs ++ dvs) H Q E):wpAny (model X.prog X.w) X.A (call (.ref f) us) (EP X pins σ Q) X.xe s:=by
 have r2:Vals (vs ++ dvs) (us ++ ds):=r.append hd
 have hl:(us ++ ds).length = ps.length:=by rw [<- r2.length]; exact F.len _ _ _ _ h
 refine wpAny_call (codeAny_mono (F.run X.A X.stack s H ⟨us,[]⟩ (us ++ ds) (vs ++ dvs) Q E hr I.env0 (hb s us I.kIn hl) r2 h) fun r s' hq=>?_)
 cases r with
 | error e=>exact hx pins σ H s e s' I hq
 | ok fl =>
  cases fl with
  | ret u=>exact I.after hq
  | next=>exact False.elim hq
  | brk=>exact False.elim hq
  | cont=>exact False.elim hq
theorem kz (F:FnOk X.prog X.w X.K X.mg X.base CX k f fd ps sp) (hr:Room k X.A) (hg:Gl X x) (hm:X.mg x = some (.ref f)) (hk:PySem.W.keepIn X.K (.ref f) = true) (hb:Binds X.K fd ps ds) (hd:Vals dvs ds) (hx:jn CX X E)
  (ha:PA X (e :: es) t) (hdb:(x == ("__debug__":Str)) = false:=by decide) (he:starEach (e :: es) X.env = (false,eval e X.env) :: starEach es X.env:=by rfl) (hpl:(backTo pos (starEach es X.env)).any (·.1) = false:=by rfl) :
  PE X (.Call (.Name x p) (e :: es) [] pos) (zT sp dvs E t):=by
 intro pins s σ H Q I h
 refine wpAny_Call_Name_kw (km I hg hm ?_ hdb)
 refine PySem.W.callWith_K (h₀:=X.base) I.ok.mod.kin hk (thn (ha pos pins s σ H _ I h) fun us s1 ⟨vs,H1,I1,r,q⟩=>⟨I1.kIn,?_⟩) he hpl
 exact lY F hr hb hd hx I1 r q
structure Mk (K:PySem.W.Frag) (C f:Addr):Prop where
 makes:PySem.W.makesIn K C = true
 init:PySem.W.findIn K (.ref C) "__init__" = some (some (.ref f))
 fn:PySem.W.isFn K (.ref f) = true
 kp:PySem.W.keepIn K (.ref C) = true
end
def PK (X:Cx) (kws:List Keyword) (t:TA):Prop :=
 ∀ (pos:Pos) (pins:List (Addr × Obj)) (s:Shared) (σ:St) (H:Hp) (Q:List V -> Hp -> Prop),Inv X pins σ H s -> t σ H Q -> wpAny (model X.prog X.w) X.A (evalAll ((backToKw pos (keywordEach kws X.env)).map (·.2))) (AP X pins σ Q) X.xe s
section
variable {X:Cx} {CX:CXT} {k:Nat} {f C:Addr} {fd:FuncData} {ps ks:List Str} {sp:Sp} {E:XK} {x m:Str} {p pos apos kpos:Pos} {e o:Expr} {es:List Expr} {kws:List Keyword} {te ta:TE} {t tk:TA} {nm:Option Str}
structure Bg (K:PySem.W.Frag) (fd:FuncData) (ps ks:List Str) (g:List Value -> List Value -> List Value) (gV:List V -> List V -> List V):Prop where
 to:∀ (s:Shared) (us ws:List Value),K.In s.heap -> (g us ws).length = ps.length -> BindsTo s fd ⟨us,ks.zip ws⟩ (ps.zip (g us ws))
 rel:∀ {vs:List V} {us:List Value} {zs:List V} {ws:List Value},Vals vs us -> Vals zs ws -> Vals (gV vs zs) (g us ws)
def AW (sp:Sp) (gV:List V -> List V -> List V) (E:XK) (t tk:TA):TE:=fun σ H Q=>t σ H fun vs H1=>tk σ H1 fun zs H2=>sp (gV vs zs) H2 Q E
variable {g:List Value -> List Value -> List Value} {gV:List V -> List V -> List V}
end
structure ax (N P:List Str) (sc:Scope):Prop where
 kind:sc.kind = .function
 co:sc.isCoroutine = false
 gen:sc.isGenerator = false
 nd:N.Nodup
 pre:N.take P.length = P
 par:∀ x ∈ P,sc.names.lookup x = some .local \/ sc.names.lookup x = some .cell
 nofree:∀ y ∈ sc.names,y.2 ≠ .free
theorem fu {kindOf:Str -> Option NameKind} {x:Str}:∀ {binds:List (Str × Value)} {m:Str -> Option Value},(∀ v,(x,v) ∉ binds) -> bindL kindOf binds m x = m x
 | [],_,_=>rfl
 | (n,v) :: r,m,h=>by
  unfold bindL
  rw [fu fun w hw=>h w (List.mem_cons_of_mem _ hw)]
  split
  ·have:x ≠ n:=by rintro rfl; exact h v List.mem_cons_self
   simp [this]
  ·rfl
theorem fo {kindOf:Str -> Option NameKind} {x:Str}:∀ {binds:List (Str × Value)} {m:Str -> Option Value},(∀ v,(x,v) ∉ binds) -> bindC kindOf binds m x = m x
 | [],_,_=>rfl
 | (n,v) :: r,m,h=>by
  unfold bindC
  rw [fo fun w hw=>h w (List.mem_cons_of_mem _ hw)]
  split
  ·rfl
  ·have:x ≠ n:=by rintro rfl; exact h v List.mem_cons_self
   simp [this]
theorem fN {kindOf:Str -> Option NameKind} {x:Str} {v:Value}:∀ {P:List Str} {vs:List Value} {i:Nat} {m:Str -> Option Value},P.Nodup -> P[i]? = some x -> vs[i]? = some v -> kindOf x = some .local ->
  bindL kindOf (P.zip vs) m x = some v
 | [],_,_,_,_,h,_,_=>by simp at h
 | _ :: _,[],_,_,_,_,h,_=>by simp at h
 | p :: P,w :: vs,0,m,nd,h1,h2,hk=>by
  simp at h1 h2; subst h1; subst h2
  show bindL kindOf ((p,w) :: P.zip vs) m p = _
  unfold bindL
  rw [fu fun v hv=>(List.nodup_cons.mp nd).1 (List.of_mem_zip hv).1,if_pos hk]
  simp
 | p :: P,w :: vs,i + 1,m,nd,h1,h2,hk=>by
  show bindL kindOf ((p,w) :: P.zip vs) m x = _
  unfold bindL
  exact fN (i:=i) (List.nodup_cons.mp nd).2 (by simpa using h1) (by simpa using h2) hk
theorem fy {kindOf:Str -> Option NameKind} {x:Str} {v:Value}:∀ {P:List Str} {vs:List Value} {i:Nat} {m:Str -> Option Value},P.Nodup -> P[i]? = some x -> vs[i]? = some v -> kindOf x ≠ some .local ->
  bindC kindOf (P.zip vs) m x = some v
 | [],_,_,_,_,h,_,_=>by simp at h
 | _ :: _,[],_,_,_,_,h,_=>by simp at h
 | p :: P,w :: vs,0,m,nd,h1,h2,hk=>by
  simp at h1 h2; subst h1; subst h2
  show bindC kindOf ((p,w) :: P.zip vs) m p = _
  unfold bindC
  rw [fo fun v hv=>(List.nodup_cons.mp nd).1 (List.of_mem_zip hv).1,if_neg hk]
  simp
 | p :: P,w :: vs,i + 1,m,nd,h1,h2,hk=>by
  show bindC kindOf ((p,w) :: P.zip vs) m x = _
  unfold bindC
  exact fy (i:=i) (List.nodup_cons.mp nd).2 (by simpa using h1) (by simpa using h2) hk
def start (N:List Str) (vs:List V):St:=vs.map some ++ List.replicate (N.length - vs.length) none
def f6 (CX:CXT) (P:Program) (w:World) (K:PySem.W.Frag) (mg:Str -> Option Value) (base:Heap) (N:List Str) (qual:Str) (scope:Scope) (f:Addr) (cd:Value) (A:Around) (outer:List Env) (s:Shared) (H:Hp) (E:XK):Cx where
 prog:=P
 w:=w
 K:=K
 mg:=mg
 base:=base
 A:=A.deeper (envOfC qual scope s.heap.objs.size f cd)
 N:=N
 s₀:=s
 H₀:=H
 env:=envOfC qual scope s.heap.objs.size f cd
 outer:=outer
 stack:=envOfC qual scope s.heap.objs.size f cd :: outer
 ex:=[]
 calm:=true
 fn:=fun _=>true
 pn:=[]
 xe:=fun e s'=>wpAny (model P w) (A.deeper (envOfC qual scope s.heap.objs.size f cd)) (leaving (envOfC qual scope s.heap.objs.size f cd) e) (fun _ s''=>CX outer H s E e s'') (fun e' s''=>CX outer H s E e' s'') s'
theorem gI {sc:Scope} {n:Nat} {x:Str} (h:sc.names.lookup x = some .cell):∃ c,(cellsFrom n sc.names []).lookup x = some c:=by
 have q:=PySem.W.cellsFrom_some sc.names n [] (.inl h)
 exact Option.isSome_iff_exists.mp q
theorem kY {CX:CXT} {P:Program} {w:World} {K:PySem.W.Frag} {mg:Str -> Option Value} {base:Heap} {N ps:List Str} {qual:Str} {scope:Scope} {f:Addr} {cd:Value} {A:Around} {outer:List Env} {s s1:Shared} {H:Hp} {E:XK} {us:List Value} {vs:List V}
  (S:ax N ps scope) (hd:A.handled = none) (e0:qN P w K mg base A outer s H) (hl:vs.length = ps.length) (r:Vals vs us)
  (x:InCallC s s.heap.objs.size (bindL (envOfC qual scope s.heap.objs.size f cd).kindOf (ps.zip us) fun _=>none) (cellsFrom (s.heap.objs.size + 1) scope.names []) (bindC (envOfC qual scope s.heap.objs.size f cd).kindOf (ps.zip us) fun _=>none) s1) :
  Inv (f6 CX P w K mg base N qual scope f cd A outer s H E) [] (start N vs) H s1:=by
 have hpl:ps.length <= N.length:=by have:=congrArg List.length S.pre; rw [List.length_take] at this; omega
 obtain ⟨h1,tk,rfl,hk⟩:=x.done
 have noA:∀ b:Addr,b ∉ (f6 CX P w K mg base N qual scope f cd A outer s H E).ex:=fun b z=>absurd (show b ∈ ([]:List Addr) from z) (by simp)
 refine ⟨⟨e0.mod,S.kind,rfl,rfl,Nat.le_refl _,fun y z c h1 h2=>?_,fun y hy=>?_,fun y c _ h=>?_,fun _=>hd,Around.frames_deeper e0.frames,.inr ⟨rfl,rfl⟩,fun b z=>absurd z (noA b),e0.bs,e0.bsz,fun b _ _=>noA b,fun b z=>absurd z (noA b),e0.funs,e0.frf⟩,
  rfl,e0.bare,Un.kept hk,⟨_,x.toInCall.ns,fun i y v h1 h2 h3=>?_⟩,fun y c h=>⟨_,x.cell y c h⟩,e0.hok.fresh (Nat.le_refl _),fun y c h=>?_,fun p hp=>absurd (show p ∈ ([]:List (Addr × Obj)) from hp) (by simp),e0.hok.kept hk,?_⟩
 ·exact name_of_addr x.apart (PySem.mem_of_lookup h1) (PySem.mem_of_lookup h2)
 ·have hy:scope.names.lookup y = some .cell \/ scope.names.lookup y = some .free:=hy
  rcases hy with hy | hy
  ·exact gI hy
  ·exact absurd rfl (S.nofree _ (PySem.mem_of_lookup hy))
 ·exact Nat.le_of_lt (x.above y c (PySem.mem_of_lookup h))
 ·have hi:i < vs.length:=by
   unfold start at h2
   by_cases hi:i < vs.length
   ·exact hi
   ·rw [List.getElem?_append_right (by simpa using hi)] at h2
    rw [List.getElem?_replicate] at h2
    split at h2 <;> cases h2
  have ha:vs[i]? = some v:=by
   unfold start at h2
   rw [List.getElem?_append_left (by simpa using hi),List.getElem?_map] at h2
   cases e:vs[i]? with
   | none=>rw [e] at h2; cases h2
   | some a=>rw [e] at h2; cases h2; rfl
  obtain ⟨u,hu,rv⟩:=r.get ha
  have hp:ps[i]? = some y:=by
   rw [<- S.pre,List.getElem?_take_of_lt (by omega)]; exact h1
  have ndP:ps.Nodup:=by rw [<- S.pre]; exact S.nd.sublist (List.take_sublist _ _)
  refine ⟨u,rv,?_⟩
  rcases S.par y (List.mem_of_getElem? hp) with k | k
  ·exact .inl ⟨k,fN ndP hp hu k⟩
  ·obtain ⟨c,e⟩:=gI (n:=s.heap.objs.size + 1) k
   refine .inr ⟨.inl k,c,e,?_⟩
   have q:=x.cell y c e
   rw [fy ndP hp hu (by show scope.names.lookup y ≠ _; rw [k]; decide)] at q
   exact q
 ·exact e0.hok.fresh (Nat.le_of_lt (x.above y c (PySem.mem_of_lookup h)))
 ·unfold start
  show _ = N.length
  rw [List.length_append,List.length_map,List.length_replicate]
  omega
theorem yd {CX:CXT} {P:Program} {w:World} {K:PySem.W.Frag} {mg:Str -> Option Value} {base:Heap} {k:Nat} {f:Addr} {name qual:Str} {params:Arguments} {body:List Stmt} {scope:Scope} {dV kV doc pm cdv ct oc:Value} {an od:Option Addr}
  {osl:Array (Option Value)} {N ps:List Str} {sp:Sp} (lk:K.lookup f = some ⟨oc,od,.func (PySem.W.fnOf name qual params body scope dV kV doc pm an cdv ct),osl⟩) (hcd:PySem.W.codeIn K cdv qual = true) (S:ax N ps scope)
  (len:∀ vs H Q E,sp vs H Q E -> vs.length = ps.length)
  (hbody:∀ (A:Around) (outer:List Env) (s:Shared) (H:Hp) (vs:List V) (Q:VK) (E:XK),Room k (A.deeper (envOfC qual scope s.heap.objs.size f cdv)) -> sp vs H Q E ->
   ∃ t,PSs (f6 CX P w K mg base N qual scope f cdv A outer s H E) body t /\ t { nx:=fun _ H'=>Q .non H',rt:=Q } (start N vs) H) :
  FnOk P w K mg base CX (k + 1) f (PySem.W.fnOf name qual params body scope dV kV doc pm an cdv ct) ps sp:=by
 refine ⟨len,fun A outer s H args us vs Q E hr e0 hb r hsp=>?_⟩
 have hl:=len _ _ _ _ hsp
 have KX:K.In s.heap:=e0.mod.kin.keeps fun b o e=>(e0.bs b o e).1
 have lim:s.heap.NoLimit:=e0.mod.nolimit.keeps fun b o e=>(e0.bs b o e).1
 have hkind:∀ y ∈ ps.zip us,scope.names.lookup y.1 = some .local \/ (scope.names.lookup y.1 = some .cell /\ ((cellsFrom (s.heap.objs.size + 1) scope.names []).lookup y.1).isSome = true):=fun ⟨n,v⟩ hy=>by
  rcases S.par n (List.of_mem_zip hy).1 with q | q
  ·exact .inl q
  ·exact .inr ⟨q,PySem.W.cellsFrom_some _ _ _ (.inl q)⟩
 refine codeAny_call_function hr.depth (KX _ _ lk) rfl S.co S.gen rfl (PySem.W.codeRec_of KX hcd) (hb _ _ _ _ ?_)
 refine wpAny_newFunctionEnv_cells S.kind hkind fun env he s1 x=>?_
 subst he
 refine ⟨lim.keeps x.toInCall.keep,codeAny_func ?_⟩
 obtain ⟨t,ht,hq⟩:=hbody A outer s H vs Q E (hr.deeper _) hsp
 have I:Inv (f6 CX P w K mg base N qual scope f cdv A outer s H E) [] (start N vs) H s1:=kY S hr.hd e0 hl r x
 refine wpAny_mono (ht [] s1 (start N vs) H _ I hq) (fun fl s' hs=>?_) fun e s' hs=>hs
 have fin:∀ {σ':St} {H':Hp} {v:V} {u:Value},Inv (f6 CX P w K mg base N qual scope f cdv A outer s H E) [] σ' H' s' -> RelV v u -> Q v H' -> CE outer P w H s Q u s' :=
  fun {σ' H' v u} J rv q=>⟨v,H',J.os,J.bare,J.base,J.hok,rv,q⟩
 cases fl with
 | ret u =>
  obtain ⟨v,σ',H',J,rv,q⟩:=hs
  exact fin J rv q
 | next =>
  obtain ⟨σ',H',J,q⟩:=hs
  exact fin (v:=V.non) (u:=Value.none) J rfl q
 | brk =>
  obtain ⟨_,_,_,q⟩:=hs
  exact False.elim q
 | cont =>
  obtain ⟨_,_,_,q⟩:=hs
  exact False.elim q
end L2
namespace L2
open PySem PySem.Spec PyProof.Rows
section
variable {X:Cx} {x:Str} {p pos:Pos} {e:Expr} {es:List Expr} {t:TA} {id T:String} {r:List V -> Hp -> VK -> Prop}
def tCB (r:List V -> Hp -> VK -> Prop) (t:TA):TE:=fun σ H Q=>t σ H fun vs H1=>r vs H1 Q
theorem bO (hc:cG X (.builtin id) r) (hg:Gl X x) (hm:X.mg x = none) (hv:bootBuiltins x = some (.builtin id)) (ha:PA X (e :: es) t) (hn:x ≠ "__name__":=by decide) (hdb:(x == ("__debug__":Str)) = false:=by decide)
  (he:starEach (e :: es) X.env = (false,eval e X.env) :: starEach es X.env:=by rfl) (hpl:(backTo pos (starEach es X.env)).any (·.1) = false:=by rfl):PE X (.Call (.Name x p) (e :: es) [] pos) (tCB r t):=by
 intro pins s σ H Q I h
 refine wpAny_Call_Name_kw (cf I hg hm hv ?_ hn hdb)
 exact PyProof.Rows.callWith_builtin1 (thn (ha pos pins s σ H _ I h) fun us s1 ⟨vs,H1,I1,r1,q1⟩=>hc pins s1 σ H1 vs us Q I1 r1 q1) he hpl
theorem dB (hc:cG X (.type T) r) (hg:Gl X x) (hm:X.mg x = none) (hv:bootBuiltins x = some (.type T)) (ha:PA X (e :: es) t) (hn:x ≠ "__name__":=by decide) (hdb:(x == ("__debug__":Str)) = false:=by decide)
  (he:starEach (e :: es) X.env = (false,eval e X.env) :: starEach es X.env:=by rfl) (hpl:(backTo pos (starEach es X.env)).any (·.1) = false:=by rfl):PE X (.Call (.Name x p) (e :: es) [] pos) (tCB r t):=by
 intro pins s σ H Q I h
 refine wpAny_Call_Name_kw (cf I hg hm hv ?_ hn hdb)
 exact PyProof.Rows.callWith_type1 (thn (ha pos pins s σ H _ I h) fun us s1 ⟨vs,H1,I1,r1,q1⟩=>hc pins s1 σ H1 vs us Q I1 r1 q1) he hpl
end
end L2
namespace HT
open PySem PyProof.Rows
def lexLt:List Int -> List Int -> Bool
 | [],[]=>false
 | [],_ :: _=>true
 | _ :: _,[]=>false
 | x :: xs,y :: ys=>if x = y then lexLt xs ys else decide (x < y)
section
open PySem.SeqAt
open PySem.AutoSeq1 (wpAny_loadPart')
open PySem.MeetsSeq PySem.MeetsSeq2 PySem.MeetsSeq3
end
section
variable {prog:Program} {w:World} {A:Around} {E:Value -> Shared -> Prop} {s:Shared}
theorem cat_tup {t b:Addr} {vs ws:List Value} {Q:Value -> Shared -> Prop} (ht:IsTup s.heap t vs.toArray) (hb:IsTup s.heap b ws.toArray) (hv:vs ≠ [])
  (h1:ws = [] -> Q (.ref t) s) (h2:ws ≠ [] -> Q (.ref s.heap.objs.size) { s with heap:=s.heap.push { cls:=.type "tuple",data:=.seq (vs ++ ws).toArray } })
  (hsz:vs.length + ws.length <= sizeLine):wpAny (model prog w) A (binaryOp .Add (.ref t) (.ref b)) Q E s:=by
 obtain ⟨⟨cls,dd,data,sl⟩,ho,hc,n,hd⟩:=id ht
 obtain ⟨⟨cls2,dd2,data2,sl2⟩,ho2,hc2,n2,hd2⟩:=id hb
 simp only at hc hd hc2 hd2
 subst hc hd hc2 hd2
 have e:vs.toArray ++ ws.toArray = (vs ++ ws).toArray:=by simp
 by_cases hw:ws = []
 ·exact concat_meets ⟨_,ho,rfl⟩ ⟨_,ho2,rfl⟩ noFill_tuple_add seq_tuple_add PySem.F.slot_tuple_add PySem.F.entry_tuple_add (PySem.F.args_tuple_add_2 _ _)
   (tuple_addW1 t b vs.toArray ws.toArray n n2 dd dd2 sl sl2 (by simpa using hv) (by simp [hw])) ⟨ho,ho2,h1 hw⟩
 ·refine concat_meets ⟨_,ho,rfl⟩ ⟨_,ho2,rfl⟩ noFill_tuple_add seq_tuple_add PySem.F.slot_tuple_add PySem.F.entry_tuple_add (PySem.F.args_tuple_add_2 _ _)
   (tuple_addW2 t b vs.toArray ws.toArray n n2 dd dd2 sl sl2 (by simpa using hv) (by simpa using hw) (by rw [List.size_toArray,List.size_toArray]; exact hsz)) ⟨ho,ho2,?_⟩
  rw [e]
  exact h2 hw
def sIx (n d:Nat):Option Int -> Nat
 | none=>d
 | some v=>if v < 0 then (v + (n:Int)).toNat else min v.toNat n
theorem xn (n d:Nat) (hd:d <= n) (o:Option Int):sIx n d o <= n:=by
 cases o with
 | none=>exact hd
 | some v =>
  show (if v < 0 then (v + (n:Int)).toNat else min v.toNat n) <= n
  by_cases hv:v < 0
  ·rw [if_pos hv]; omega
  ·rw [if_neg hv]; exact Nat.min_le_right _ _
theorem kg (v:Int) (n d:Nat):(if v < 0 then max (v + (n:Int)) 0 else min v (n:Int)) = ((sIx n d (some v):Nat):Int):=by
 show (if v < 0 then max (v + (n:Int)) 0 else min v (n:Int)) = (((if v < 0 then (v + (n:Int)).toNat else min v.toNat n):Nat):Int)
 by_cases hv:v < 0
 ·simp only [if_pos hv]; omega
 ·simp only [if_neg hv]; omega
theorem iN (lo hi:Option Int) (n:Nat):Builtin.Slice.sliceAdjust lo hi 1 (n:Int) = (((sIx n 0 lo:Nat):Int),((sIx n n hi:Nat):Int)):=by
 have h1:¬ ((1:Int) < 0):=by omega
 unfold Builtin.Slice.sliceAdjust
 simp only [h1,if_false]
 refine Prod.ext ?_ ?_
 ·cases lo with
  | none=>rfl
  | some v=>exact kg v n 0
 ·cases hi with
  | none=>rfl
  | some v=>exact kg v n n
theorem jw (i j:Nat):Builtin.Slice.slicePlaces (i:Int) (j:Int) 1 = j - i:=by
 unfold Builtin.Slice.slicePlaces
 have h1:(1:Int) > 0:=by omega
 simp only [h1,if_true,Int.ediv_one]
 split <;> omega
theorem er {v:Value} {o:Option Int} {Q:Option Int -> Shared -> Prop} (p:IsPart v o) (h:Q o s):wpAny (model prog w) A (Builtin.Slice.slicePartIndex v) Q E s:=by
 cases p with
 | none=>exact slicePart_none h
 | int i t=>exact slicePart_int h
theorem sliceApplied_gen {sl:Addr} {vl vu:Value} {lo hi:Option Int} {n:Nat} {Q:Int × Int × Nat -> Shared -> Prop} (hs:s.heap.IsSliceOf sl vl vu .none) (pl:IsPart vl lo) (pu:IsPart vu hi)
  (h:Q (((sIx n 0 lo:Nat):Int),1,sIx n n hi - sIx n 0 lo) s):wpAny (model prog w) A (Builtin.Slice.sliceApplied (.ref sl) (pure (n:Int))) Q E s:=by
 obtain ⟨os,hos,hcs,hds⟩:=id hs
 unfold Builtin.Slice.sliceApplied Builtin.Slice.sliceFields
 refine wpAny_bind (wpAny_bind (wpAny_field hos hds (x:=vl) rfl (wpAny_bind (wpAny_field hos hds (x:=vu) rfl (wpAny_bind (wpAny_field hos hds (x:=.none) rfl (wpAny_pure ?_)))))))
 refine wpAny_bind (slicePart_none ?_)
 show wpAny _ _ (if ((1:Int) == 0) = true then _ else _) _ _ s
 rw [if_neg (by decide)]
 refine wpAny_bind (er pl (wpAny_bind (er pu (wpAny_bind (wpAny_pure ?_)))))
 show wpAny _ _ (match Builtin.Slice.sliceAdjust lo hi 1 (n:Int) with | (lo,hi)=>pure (lo,(1:Int),Builtin.Slice.slicePlaces lo hi 1)) _ _ s
 rw [iN lo hi n]
 show wpAny _ _ (pure (((sIx n 0 lo:Nat):Int),(1:Int),Builtin.Slice.slicePlaces ((sIx n 0 lo:Nat):Int) ((sIx n n hi:Nat):Int) 1)) _ _ s
 rw [jw]
 exact wpAny_pure h
theorem lZ (xs:Array Value) (i k:Nat):((List.range k).filterMap fun (m:Nat)=>xs[((i:Int) + (m:Int) * 1).toNat]?).toArray = ((xs.toList.drop i).take k).toArray:=by
 have e:(fun (m:Nat)=>xs[((i:Int) + (m:Int) * 1).toNat]?) = fun m=>xs[i + m]?:=by
  funext m
  have:((i:Int) + (m:Int) * 1).toNat = i + m:=by omega
  rw [this]
 rw [e]
 have:=pick_run xs i k
 rw [List.filterMap_map] at this
 have e2:((fun x=>xs[x]?) ∘ fun x=>i + x) = fun m=>xs[i + m]?:=rfl
 rw [e2] at this
 rw [this]
theorem getItem_tuple_cut {t sl:Addr} {items:Array Value} {vl vu:Value} {lo hi:Option Int} {Q:Value -> Shared -> Prop} (ht:IsTup s.heap t items) (hs:s.heap.IsSliceOf sl vl vu .none) (pl:IsPart vl lo) (pu:IsPart vu hi)
  (hw:¬ (sIx items.size 0 lo = 0 /\ sIx items.size items.size hi = items.size))
  (h:Q (.ref s.heap.objs.size) { s with heap:=s.heap.push { cls:=.type "tuple",data:=.seq ((items.toList.drop (sIx items.size 0 lo)).take (sIx items.size items.size hi - sIx items.size 0 lo)).toArray } })
  (hsz:items.size <= sizeLine):wpAny (model prog w) A (getItem (.ref t) (.ref sl)) Q E s:=by
 have htake:sizeOk (.seq ((items.toList.drop (sIx items.size 0 lo)).take (sIx items.size items.size hi - sIx items.size 0 lo)).toArray):=by
  show ((items.toList.drop (sIx items.size 0 lo)).take (sIx items.size items.size hi - sIx items.size 0 lo)).toArray.size <= sizeLine
  rw [List.size_toArray,List.length_take,List.length_drop,Array.length_toList]
  omega
 have hj:sIx items.size items.size hi <= items.size:=xn _ _ (Nat.le_refl _) hi
 obtain ⟨os,hos,hcs,hds⟩:=id hs
 have hTs:s.TypeIs (.ref sl) "slice":=⟨os,hos,hcs⟩
 unfold getItem
 try with_reducible refine wpAny_holding ?_
 first | refine wpAny_bind (wpAny_pure ?_) | skip
 refine wpAny_bind (wpAny_sequenceKey ht.typeIs (by decide) ?_)
 refine wpAny_bind (wpAny_callSpecial?_slot (name:=Str.ofString "__getitem__") ht.typeIs PyProof.Rows.slot_tuple_getitem
  (wpAny_call_entry PyProof.Rows.slot_tuple_getitem ht.typeIs entry_tuple_getitem ?_ (args_tuple_getitem _ _)))
 show wpAny _ _ (Builtin.Tuple.tupleItemsOf (.ref t) >>= _) _ _ s
 refine wpAny_bind (tupleItemsOf_ ht ?_)
 refine wpAny_bind (wpAny_typeOf hTs ?_)
 rw [if_pos (by decide)]
 refine wpAny_bind (sliceApplied_gen hs pl pu ?_)
 have hno:¬ ((((sIx items.size 0 lo:Nat):Int) == 0 && (1:Int) == 1 && (sIx items.size items.size hi - sIx items.size 0 lo) == items.size) = true):=by
  intro q
  rw [Bool.and_eq_true,Bool.and_eq_true] at q
  have q1:((sIx items.size 0 lo:Nat):Int) = 0:=eq_of_beq q.1.1
  have q2:sIx items.size items.size hi - sIx items.size 0 lo = items.size:=eq_of_beq q.2
  exact hw ⟨by omega,by omega⟩
 show wpAny _ _ (if (((sIx items.size 0 lo:Nat):Int) == 0 && (1:Int) == 1 && (sIx items.size items.size hi - sIx items.size 0 lo) == items.size) = true then _ else _) _ _ s
 rw [if_neg hno,lZ]
 first
  | exact wpAny_bind (m:=Builtin.Tuple.tupleExact _) (wpAny_newObj_type (wpAny_pure ⟨_,rfl,wpAny_pure h⟩) htake)
  | exact wpAny_bind (m:=Builtin.Tuple.tupleExact _) (wpAny_newObj_type (wpAny_bind (wpAny_pure (wpAny_pure ⟨_,rfl,wpAny_pure h⟩))) htake)
  | exact wpAny_bind (wpAny_bind (m:=Builtin.Tuple.tupleExact _) (wpAny_newObj_type (wpAny_pure (wpAny_pure ⟨_,rfl,wpAny_pure h⟩)) htake))
  | exact wpAny_bind (wpAny_bind (m:=Builtin.Tuple.tupleExact _) (wpAny_newObj_type (wpAny_pure ⟨_,rfl,wpAny_pure h⟩) htake))
end
end HT
namespace L2
open PySem PySem.Spec PyProof.Rows
abbrev TO:=St -> Hp -> (Option Int -> Hp -> Prop) -> Prop
def PO (X:Cx) (e:Option Expr) (t:TO):Prop :=
 ∀ (pins:List (Addr × Obj)) (s:Shared) (σ:St) (H:Hp) (Q:Option Int -> Hp -> Prop),Inv X pins σ H s -> t σ H Q ->
  wpAny (model X.prog X.w) X.A (evalPart e X.env) (fun u s'=>∃ o H',Inv X pins σ H' s' /\ IsPart u o /\ Q o H') X.xe s
def qg:TO:=fun _ H Q=>Q none H
def yZ (t:TE):TO:=fun σ H Q=>t σ H fun x H1=>∃ i,x = .int i /\ Q (some i) H1
section
variable {X:Cx} {e:Expr} {te:TE} {lo hi:Option Expr} {tl th:TO} {pos p2:Pos}
theorem sk:PO X none qg:=by
 intro pins s σ H Q I h
 rw [evalPart_none]
 exact wpAny_pure ⟨none,H,I,.none,h⟩
theorem sX (h:PE X e te):PO X (some e) (yZ te):=by
 intro pins s σ H Q I hw
 rw [evalPart_some]
 refine thn (h pins s σ H _ I hw) fun u s1 ⟨x,H1,I1,r1,q1⟩=>?_
 obtain ⟨i,rfl,q⟩:=q1
 obtain ⟨t,rfl⟩:=r1
 exact ⟨some i,H1,I1,.int i t,q⟩
def SlR (X:Cx) (r:V -> Option Int -> Option Int -> Hp -> VK -> Prop):Prop :=
 ∀ (pins:List (Addr × Obj)) (s:Shared) (σ:St) (H:Hp) (x:V) (v vl vu:Value) (lo hi:Option Int) (sl:Addr) (Q:VK),Inv X pins σ H s -> RelV x v -> s.heap.IsSliceOf sl vl vu .none -> IsPart vl lo -> IsPart vu hi -> r x lo hi H Q ->
  ∃ T id,typeLookup (.type T) "__getitem__" = pure (some (.builtin id)) /\ s.TypeIs v T /\ wpAny (model X.prog X.w) X.A (getItem v (.ref sl)) (EP X pins σ Q) X.xe s
theorem SlR.or {r r':V -> Option Int -> Option Int -> Hp -> VK -> Prop} (h:SlR X r) (h':SlR X r'):SlR X (fun x lo hi H Q=>r x lo hi H Q \/ r' x lo hi H Q):=by
 intro pins s σ H x v vl vu lo hi sl Q I rx hs pl pu q
 rcases q with q | q
 ·exact h pins s σ H x v vl vu lo hi sl Q I rx hs pl pu q
 ·exact h' pins s σ H x v vl vu lo hi sl Q I rx hs pl pu q
def tSl (r:V -> Option Int -> Option Int -> Hp -> VK -> Prop) (te:TE) (tl th:TO):TE:=fun σ H Q=>te σ H fun x H1=>tl σ H1 fun l H2=>th σ H2 fun u H3=>r x l u H3 Q
theorem pB {r:V -> Option Int -> Option Int -> Hp -> VK -> Prop} (hr:SlR X r) (he:PE X e te) (hl:PO X lo tl) (hu:PO X hi th):PE X (.Subscript e (.Slice lo hi none p2) pos) (tSl r te tl th):=by
 intro pins s σ H Q I h
 refine Subscript_ (thn (he pins s σ H _ I h) fun v s1 ⟨x,H1,I1,r1,q1⟩=>?_)
 refine wpAny_Slice (thn (hl pins s1 σ H1 _ I1 q1) fun vl s2 ⟨l,H2,I2,pl,q2⟩=>thn (hu pins s2 σ H2 _ I2 q2) fun vu s3 ⟨u,H3,I3,pu,q3⟩=>?_)
 rw [evalPart_none]
 refine wpAny_pure ?_
 have I4:Inv X pins σ H3 { s3 with heap:=s3.heap.push { cls:=.type "slice",data:=.fields #[vl,vu,.none] } }:=I3.kept (t':=s3.toks) fun b ob q=>Heap.get?_push_of_some _ q
 obtain ⟨T,id,hT,ht,hg⟩:=hr pins { s3 with heap:=s3.heap.push { cls:=.type "slice",data:=.fields #[vl,vu,.none] } } σ H3 x v vl vu l u s3.heap.objs.size Q I4 r1 (Heap.IsSliceOf.new ..) pl pu q3
 show wpAny (model X.prog X.w) X.A (subscriptTail e (.Slice lo hi none p2) v (.ref s3.heap.objs.size)) (EP X pins σ Q) X.xe { s3 with heap:=s3.heap.push { cls:=.type "slice",data:=.fields #[vl,vu,.none] } }
 exact tail_any (ops:=[.ref s3.heap.objs.size,v]) ht hT hg (by with_unfolding_all rfl)
def de (xs:List V) (lo hi:Option Int):List V:=(xs.drop (HT.sIx xs.length 0 lo)).take (HT.sIx xs.length xs.length hi - HT.sIx xs.length 0 lo)
theorem bB (xs:List V) (lo hi:Option Int):(de xs lo hi).length <= xs.length:=by
 unfold de
 rw [List.length_take,List.length_drop]
 omega
def AS (K:PySem.W.Frag):V -> Option Int -> Option Int -> Hp -> VK -> Prop:=fun x lo hi H Q=>∃ a xs,x = .ref a /\ SqT K H a xs /\
 ¬ (HT.sIx xs.length 0 lo = 0 /\ HT.sIx xs.length xs.length hi = xs.length) /\ ∀ p,H p = none -> Q (.ref p) (upd H p (.tup (de xs lo hi)))
theorem xU:SlR X (AS X.K):=by
 intro pins s σ H x v vl vu lo hi sl Q I rx hs pl pu h
 obtain ⟨a,xs,rfl,hx,hw,q⟩:=h
 cases rx
 obtain ⟨its,r,ht,hz⟩:=I.tuple hx
 have hlen:its.toArray.size = xs.length:=by rw [List.size_toArray]; exact r.length.symm
 refine ⟨"tuple",_,PyProof.Rows.slot_tuple_getitem.lookup,ht.typeIs,?_⟩
 refine HT.getItem_tuple_cut ht hs pl pu (by rw [hlen]; exact hw) ?_ (by rw [hlen]; exact hz)
 rw [hlen]
 refine ⟨.ref s.heap.objs.size,_,I.laid (t':=s.toks) (o:=.tup (de xs lo hi)) (fun b ob q=>Heap.get?_push_of_some _ q) (Nat.le_refl _) ?_,rfl,q _ (I.hok.fresh (Nat.le_refl _))⟩
 exact ⟨Nat.le_trans (bB xs lo hi) hz,_,(r.drop (HT.sIx xs.length 0 lo)).take (HT.sIx xs.length xs.length hi - HT.sIx xs.length 0 lo),IsTup.new _ _⟩
def CF (K:PySem.W.Frag):R2:=fun x y H Q=>∃ a b ns ms,x = .ref a /\ y = .ref b /\ SqT K H a (ns.map V.int) /\ SqT K H b (ms.map V.int) /\ Q (.bl (HT.lexLt ns ms)) H
def Ac (K:PySem.W.Frag):R2:=fun x y H Q=>∃ a b xs ys,x = .ref a /\ y = .ref b /\ SqT K H a xs /\ SqT K H b ys /\ xs ≠ [] /\ xs.length + ys.length <= sizeLine /\
 (ys = [] -> Q (.ref a) H) /\ (ys ≠ [] -> ∀ p,H p = none -> Q (.ref p) (upd H p (.tup (xs ++ ys))))
theorem Vals.nil_iff {xs:List V} {us:List Value} (r:Vals xs us):us = [] ↔ xs = []:=by
 cases r with
 | nil=>simp
 | cons _ _=>simp
theorem su:OpR X (binaryOp .Add) (Ac X.K):=by
 intro pins s σ H x y v u Q I rx ry h
 obtain ⟨a,b,xs,ys,rfl,rfl,ha,hb,hx,hz,q1,q2⟩:=h
 cases rx
 cases ry
 obtain ⟨its,r1,p1,_⟩:=I.tuple ha
 obtain ⟨its2,r2,p2,_⟩:=I.tuple hb
 refine HT.cat_tup p1 p2 (fun z=>hx (r1.nil_iff.mp z)) (fun z=>⟨.ref a,H,I,rfl,q1 (r2.nil_iff.mp z)⟩) (fun z=>?_) (by rw [<- r1.length,<- r2.length]; exact hz)
 refine ⟨.ref s.heap.objs.size,_,I.laid (t':=s.toks) (o:=.tup (xs ++ ys)) (fun b ob q=>Heap.get?_push_of_some _ q) (Nat.le_refl _) ?_,rfl,q2 (fun w=>z (r2.nil_iff.mpr w)) _ (I.hok.fresh (Nat.le_refl _))⟩
 exact ⟨by rw [List.length_append]; exact hz,_,r1.append r2,IsTup.new _ _⟩
end
end L2
namespace L2
open PySem PySem.Spec PyProof.Rows
def ixN (n:Nat) (i:Int):Option Nat:=if 0 <= i then (if i < n then some i.toNat else none) else if -(n:Int) <= i then some (i + n).toNat else none
def atI {α:Type} (xs:List α) (i:Int):Option α:=(ixN xs.length i).bind fun j=>xs[j]?
theorem kc {n:Nat} {i:Int} {j:Nat} (h:ixN n i = some j):seqIndex? i n = some j /\ j < n /\ -(n:Int) <= i /\ i < n:=by
 unfold ixN at h
 by_cases h0:0 <= i
 ·rw [if_pos h0] at h
  by_cases h1:i < n
  ·rw [if_pos h1] at h
   have e:i.toNat = j:=Option.some.inj h
   exact ⟨by rw [seqIndex_of h0 h1,e],by omega,by omega,h1⟩
  ·rw [if_neg h1] at h; cases h
 ·rw [if_neg h0] at h
  by_cases h1:-(n:Int) <= i
  ·rw [if_pos h1] at h
   have e:(i + n).toNat = j:=Option.some.inj h
   exact ⟨by rw [seqIndex_neg (by omega) h1,e],by omega,h1,by omega⟩
  ·rw [if_neg h1] at h; cases h
theorem fX {α:Type} {xs:List α} {i:Int} {v:α} (h:atI xs i = some v):∃ j,seqIndex? i xs.length = some j /\ xs[j]? = some v /\ j < xs.length /\ -(xs.length:Int) <= i /\ i < xs.length:=by
 unfold atI at h
 cases e:ixN xs.length i with
 | none=>rw [e] at h; cases h
 | some j =>
  rw [e] at h
  obtain ⟨h1,h2,h3,h4⟩:=kc e
  exact ⟨j,h1,h,h2,h3,h4⟩
theorem atI_nat {α:Type} {xs:List α} {j:Nat} {v:α} (h:xs[j]? = some v):atI xs (j:Int) = some v:=by
 have hj:j < xs.length:=(List.getElem?_eq_some_iff.mp h).1
 have e:ixN xs.length (j:Int) = some j:=by
  unfold ixN
  rw [if_pos (by omega),if_pos (by omega)]; simp
 unfold atI; rw [e]; exact h
def cy (b:Expr):Prop:=∀ o i,subscripted b false o i = operate [o,i] (getItem o i)
def IxR (X:Cx) (r:R2):Prop :=
 ∀ (value slice:Expr) (pins:List (Addr × Obj)) (s:Shared) (σ:St) (H:Hp) (x y:V) (v u:Value) (Q:VK),Inv X pins σ H s -> RelV x v -> RelV y u -> r x y H Q ->
  subscripted slice false v u = operate [v,u] (getItem v u) -> wpAny (model X.prog X.w) X.A (subscriptTail value slice v u) (EP X pins σ Q) X.xe s
def MtR (X:Cx) (id:String) (r:V -> List V -> Hp -> VK -> Prop):Prop :=
 ∀ (pins:List (Addr × Obj)) (s:Shared) (σ:St) (H:Hp) (x:V) (xs:List V) (v:Value) (us:List Value) (Q:VK),Inv X pins σ H s -> RelV x v -> Vals xs us -> r x xs H Q ->
  wpAny (model X.prog X.w) X.A (call (.builtin id) (v :: us)) (EP X pins σ Q) X.xe s
section
variable {X:Cx} {a b:Expr} {ta tb:TE} {pos:Pos}
theorem IxR.or {r r':R2} (h:IxR X r) (h':IxR X r'):IxR X (fun x y H Q=>r x y H Q \/ r' x y H Q):=by
 intro value slice pins s σ H x y v u Q I rx ry q hs
 rcases q with q | q
 ·exact h value slice pins s σ H x y v u Q I rx ry q hs
 ·exact h' value slice pins s σ H x y v u Q I rx ry q hs
theorem ko {r:R2} (hr:IxR X r) (ha:PE X a ta) (hb:PE X b tb) (hs:cy b):PE X (.Subscript a b pos) (tOp r ta tb):=by
 intro pins s σ H Q I h
 exact Subscript_ (wg ha hb I h fun v u s2 x y H2 I2 rx ry q=>hr a b pins s2 σ H2 x y v u Q I2 rx ry q (hs _ _))
def yA (K:PySem.W.Frag):R2:=fun x y H Q=>∃ p xs i v,x = .ref p /\ y = .int i /\ SqL K H p xs /\ atI xs i = some v /\ Q v H
def yf (K:PySem.W.Frag):R2:=fun x y H Q=>∃ p xs i v,x = .ref p /\ y = .int i /\ SqT K H p xs /\ atI xs i = some v /\ Q v H
def yo:R2:=fun x y H Q=>∃ z i c,x = .str z /\ y = .int i /\ z.length <= sizeLine /\ atI z.cps.toList i = some c /\ Q (.str ⟨#[c]⟩) H
theorem rH:IxR X (yA X.K):=by
 intro value slice pins s σ H x y v u Q I rx ry h hs
 obtain ⟨p,xs,i,z,rfl,rfl,hq,he,q⟩:=h
 cases rx
 obtain ⟨t,rfl⟩:=ry
 obtain ⟨its,r,pl,hz⟩:=I.list hq
 obtain ⟨j,h1,h2,h3,h4,h5⟩:=fX he
 obtain ⟨w,ew,rw'⟩:=r.get h2
 have hl:=r.length
 have hn:=dk
 have fin:EP X pins σ Q w s:=⟨z,H,I,rw',q⟩
 by_cases h0:0 <= i
 ·have hj:i.toNat = j:=by
   rw [seqIndex_of h0 h5] at h1
   exact Option.some.inj h1
  exact item_listR pl.isList h0 (by omega) (by rw [hj]; simpa using ew) fin hs
 ·have hj:(i + (its.toArray.size:Int)).toNat = j:=by
   rw [seqIndex_neg (by omega) h4] at h1
   rw [List.size_toArray,<- hl]
   exact Option.some.inj h1
  exact subscriptTail_builtinR (x:=w) pl.isList.typeIs slot_list_getitem.lookup
   (wpAny_getItem_list_neg (Q:=fun r s'=>r = w /\ EP X pins σ Q r s') pl.isList (by omega) (by rw [List.size_toArray] <;> omega) (by omega) (by rw [hj]; simpa using ew) ⟨rfl,fin⟩) hs
theorem uA:IxR X (yf X.K):=by
 intro value slice pins s σ H x y v u Q I rx ry h hs
 obtain ⟨p,xs,i,z,rfl,rfl,hq,he,q⟩:=h
 cases rx
 obtain ⟨t,rfl⟩:=ry
 obtain ⟨its,r,pl,hz⟩:=I.tuple hq
 obtain ⟨j,h1,h2,h3,h4,h5⟩:=fX he
 obtain ⟨w,ew,rw'⟩:=r.get h2
 have hl:=r.length
 have hn:=dk
 have fin:EP X pins σ Q w s:=⟨z,H,I,rw',q⟩
 exact subscriptTail_builtinR (x:=w) pl.typeIs slot_tuple_getitem.lookup
  (getItem_tuple (j:=j) (Q:=fun r s'=>r = w /\ EP X pins σ Q r s') pl (by omega) (by omega) (by rw [List.size_toArray,<- hl]; exact h1) (by simpa using ew) ⟨rfl,fin⟩) hs
theorem uB:IxR X yo:=by
 intro value slice pins s σ H x y v u Q I rx ry h hs
 obtain ⟨z,i,c,rfl,rfl,hz,he,q⟩:=h
 obtain ⟨t,rfl⟩:=rx
 obtain ⟨t',rfl⟩:=ry
 obtain ⟨j,h1,h2,h3,h4,h5⟩:=fX he
 have hl:z.cps.toList.length = z.length:=by simp [Str.length]
 rw [hl] at h1 h4 h5
 have hn:=dk
 exact tail_any (typeIs_str s z t) slot_str_getitem.lookup (getItem_str (c:=c) (by
  have e1:decide (i < -(2 ^ 63:Int)) = false:=decide_eq_false (by omega)
  have e2:decide (i >= 2 ^ 63) = false:=decide_eq_false (by omega)
  rw [e1,e2,Bool.or_false]) (by rw [h1]; simpa using h2) ⟨.str ⟨#[c]⟩,H,I.tok _,⟨_,rfl⟩,q⟩) hs
def rIx (K:PySem.W.Frag):R2:=fun x y H Q=>yA K x y H Q \/ yf K x y H Q \/ yo x y H Q
theorem jt (its:List Value) (n j:Nat) (u:Value):Obj.mapSeq (·.setIfInBounds j u) { cls:=.type "list",data:=.seq its.toArray n } = { cls:=.type "list",data:=.seq (its.set j u).toArray n }:=by
 simp [Obj.mapSeq]
theorem Inv.lst {pins:List (Addr × Obj)} {σ:St} {H:Hp} {s:Shared} {p:Addr} {xs:List V} (I:Inv X pins σ H s) (h:H p = some (.lst xs)) :
  ∃ (its:List Value) (n:Nat),Vals xs its /\ s.heap.get? p = some { cls:=.type "list",data:=.seq its.toArray n } /\ xs.length <= sizeLine:=by
 obtain ⟨z,its,n,r,e⟩:=I.hok p _ h
 exact ⟨its,n,r,e,z⟩
theorem Inv.lstUpd {pins:List (Addr × Obj)} {σ:St} {H:Hp} {s:Shared} {p:Addr} {xs ys:List V} {its its':List Value} {n n':Nat} {f:Obj -> Obj} (I:Inv X pins σ H s) (h:H p = some (.lst xs))
  (ho:s.heap.get? p = some { cls:=.type "list",data:=.seq its.toArray n }) (hf:f { cls:=.type "list",data:=.seq its.toArray n } = { cls:=.type "list",data:=.seq its'.toArray n' }) (r:Vals ys its') (hz:ys.length <= sizeLine) (t:Nat) :
  Inv X pins σ (upd H p (.lst ys)) { s with heap:=s.heap.update p f,toks:=t }:=by
 have e:(s.heap.update p f).get? p = some { cls:=.type "list",data:=.seq its'.toArray n' }:=by
  rw [Heap.get?_update_self f ho (by rw [hf] <;> rfl),hf]
 refine I.write (x:=p) (e:=p) (by rw [h]; trivial) (.inl rfl) (fun b u hb q=>(Heap.get?_update_other _ _ (Ne.symm hb)).trans q) ⟨_,e⟩ ?_
 exact ⟨hz,its',n',r,e⟩
def yn:V -> V -> V -> Hp -> (Hp -> Prop) -> Prop:=fun o i v H Q=>∃ p xs k j,o = .ref p /\ i = .int k /\ H p = some (.lst xs) /\ ixN xs.length k = some j /\ Q (upd H p (.lst (xs.set j v)))
theorem nW:zF X yn:=by
 intro pins s σ H o i v ov iv u Q I ro ri rv h
 obtain ⟨p,xs,k,j,rfl,rfl,hp,hj,q⟩:=h
 cases ro
 obtain ⟨t,rfl⟩:=ri
 obtain ⟨its,n,r,ho,hz⟩:=I.lst hp
 obtain ⟨h1,h2,h3,h4⟩:=kc hj
 have hl:=r.length
 have hn:=dk
 have I':Inv X pins σ (upd H p (.lst (xs.set j v))) { s with heap:=s.heap.update p (Obj.mapSeq (·.setIfInBounds j u)) } :=
  I.lstUpd hp ho (jt its n j u) (r.set rv j) (by rw [List.length_set]; exact hz) s.toks
 by_cases h0:0 <= k
 ·have hk:k.toNat = j:=by
   rw [seqIndex_of h0 h4] at h1
   exact Option.some.inj h1
  exact PySem.W.ki_setAt ho h0 (by omega) (by rw [List.size_toArray,<- hl]; exact h4) (by rw [hk]; exact ⟨_,I',q⟩)
 ·have hk:(k + (its.toArray.size:Int)).toNat = j:=by
   rw [seqIndex_neg (by omega) h3] at h1
   rw [List.size_toArray,<- hl]
   exact Option.some.inj h1
  exact PySem.W.ki_setBack ho (by omega) (by rw [List.size_toArray,<- hl]; exact h3) (by omega) (by rw [hk]; exact ⟨_,I',q⟩)
theorem fR (lo hi:Option Int) (n:Nat):(sliceBounds lo hi none n).1 = ((HT.sIx n 0 lo:Nat):Int) /\ (sliceBounds lo hi none n).2.1 = ((HT.sIx n n hi:Nat):Int) /\ (sliceBounds lo hi none n).2.2 = 1:=by
 refine ⟨?_,?_,rfl⟩
 ·cases lo with
  | none=>simp [sliceBounds,HT.sIx]
  | some i =>
   simp only [sliceBounds,HT.sIx,Option.getD_none,show (1:Int) > 0 by decide,if_true]
   by_cases h:i < 0
   ·simp only [h,if_true] <;> omega
   ·simp only [h,if_false] <;> omega
 ·cases hi with
  | none=>simp [sliceBounds,HT.sIx]
  | some i =>
   simp only [sliceBounds,HT.sIx,Option.getD_none,show (1:Int) > 0 by decide,if_true]
   by_cases h:i < 0
   ·simp only [h,if_true] <;> omega
   ·simp only [h,if_false] <;> omega
theorem fg (its:List Value) (lo hi:Option Int):slicePick its.toArray lo hi none = ((its.drop (HT.sIx its.length 0 lo)).take (HT.sIx its.length its.length hi - HT.sIx its.length 0 lo)).toArray:=by
 obtain ⟨h1,h2,h3⟩:=fR lo hi its.toArray.size
 unfold slicePick
 rw [h1,h2,h3]
 simp only [sliceRange_one,pick_run,List.size_toArray] <;> rfl
def vP (K:PySem.W.Frag):V -> Option Int -> Option Int -> Hp -> VK -> Prop:=fun x lo hi H Q=>∃ a xs,x = .ref a /\ SqL K H a xs /\ ∀ p,H p = none -> Q (.ref p) (upd H p (.lst (de xs lo hi)))
theorem sl_list:SlR X (vP X.K):=by
 intro pins s σ H x v vl vu lo hi sl Q I rx hs pl pu h
 obtain ⟨a,xs,rfl,hx,q⟩:=h
 cases rx
 obtain ⟨its,r,ht,hz⟩:=I.list hx
 have hlen:=r.length
 refine ⟨"list",_,slot_list_getitem.lookup,ht.isList.typeIs,?_⟩
 refine wpAny_getItem_list_slice ht.isList hs pl pu .none (by simp) ?_ (by rw [List.size_toArray] <;> omega)
 rw [fg,<- hlen]
 refine ⟨.ref s.heap.objs.size,_,I.laid (t':=s.toks) (o:=.lst (de xs lo hi)) (fun b ob q=>Heap.get?_push_of_some _ q) (Nat.le_refl _) ?_,rfl,q _ (I.hok.fresh (Nat.le_refl _))⟩
 exact ⟨Nat.le_trans (bB xs lo hi) hz,_,0,(r.drop (HT.sIx xs.length 0 lo)).take (HT.sIx xs.length xs.length hi - HT.sIx xs.length 0 lo),Heap.get?_push_size _ rfl⟩
def tJ:V -> Bool
 | .non=>true
 | .bl _=>true
 | .int _=>true
 | .str _=>true
 | _=>false
def eqV:V -> V -> Bool
 | .non,.non=>true
 | .bl a,.bl b=>a == b
 | .bl a,.int b=>(if a then 1 else 0) == b
 | .int a,.bl b=>a == (if b then 1 else 0)
 | .int a,.int b=>a == b
 | .str a,.str b=>a == b
 | _,_=>false
def eqU (x:V) (u:Value):Bool:=match u with
 | .none=>eqV .non x
 | .bool b=>eqV (.bl b) x
 | .int i _=>eqV (.int i) x
 | .str z _=>eqV (.str z) x
 | _=>false
def inV (x:V) (xs:List V):Bool:=xs.any fun y=>eqV y x
def rIn (K:PySem.W.Frag) (neg:Bool):R2:=fun x y H Q=>∃ p xs,y = .ref p /\ (SqL K H p xs \/ SqT K H p xs) /\ tJ x = true /\ xs.all tJ = true /\ Q (.bl (if neg then !inV x xs else inV x xs)) H
theorem cY:cG X (.type "list") (fun xs H Q=>∃ p ys,xs = [.ref p] /\ (SqL X.K H p ys \/ SqT X.K H p ys) /\ ∀ l,H l = none -> Q (.ref l) (upd H l (.lst ys))):=by
 intro pins s σ H xs us Q I r h
 obtain ⟨p,ys,rfl,hq,q⟩:=h
 obtain ⟨u,rfl,rx⟩:=ia r
 cases rx
 have fin:∀ (its:List Value),Vals ys its -> ys.length <= sizeLine -> ∀ (h':Heap) (c':Nat),(∀ b o',s.heap.get? b = some o' -> h'.get? b = some o') ->
   h'.get? s.heap.objs.size = some { cls:=.type "list",dict:=none,data:=.seq its.toArray c',slots:=#[] } -> EP X pins σ Q (.ref s.heap.objs.size) { s with heap:=h' }:=fun its r' hz h' c' kp e =>
  ⟨.ref s.heap.objs.size,_,I.laid (t':=s.toks) kp (Nat.le_refl _) (show ObjOk X.prog X.w _ h' _ (.lst ys) from ⟨hz,its,c',r',e⟩),rfl,q _ (I.hok.fresh (Nat.le_refl _))⟩
 rcases hq with hq | hq
 ·obtain ⟨its,r',pl,hz⟩:=I.list hq
  have hlen:=r'.length
  obtain ⟨o,ho,hc,n,hd⟩:=pl.isList
  exact call_list_seq p (.inl rfl) ho hc hd (fun h' c' kp e=>fin its r' hz h' c' kp e) (by simp only [List.size_toArray] <;> omega)
 ·obtain ⟨its,r',pl,hz⟩:=I.tuple hq
  have hlen:=r'.length
  obtain ⟨o,ho,hc,n,hd⟩:=pl
  exact call_list_seq p (.inr rfl) ho hc hd (fun h' c' kp e=>fin its r' hz h' c' kp e) (by simp only [List.size_toArray] <;> omega)
def tyV (K:PySem.W.Frag) (T:String) (x:V) (H:Hp):Prop:=match x with
 | .str _=>T = "str"
 | .int _=>T = "int"
 | .ref p=>(T = "list" /\ ∃ xs,SqL K H p xs) \/ (T = "tuple" /\ ∃ o,K.lookup p = some o /\ o.cls = .type "tuple" /\ o.dict = none) \/
   (T = "dict" /\ ((∃ kvs,H p = some (.dK kvs)) \/ ∃ kvs,H p = some (.dT kvs))) \/ (T = "set" /\ ∃ S n,H p = some (.set S n))
 | _=>False
theorem wz {pins:List (Addr × Obj)} {σ:St} {H:Hp} {s:Shared} {T:String} {x:V} {v:Value} (I:Inv X pins σ H s) (r:RelV x v) (ty:tyV X.K T x H) :
  s.TypeIs v T /\ ∀ a,v = .ref a -> ∃ ob,s.heap.get? a = some ob /\ ob.dict = none:=by
 cases x with
 | str z =>
  obtain ⟨t,rfl⟩:=r
  cases (show T = "str" from ty)
  exact ⟨typeIs_str s z t,fun _ e=>nomatch e⟩
 | int i =>
  obtain ⟨t,rfl⟩:=r
  cases (show T = "int" from ty)
  exact ⟨typeIs_int s i t,fun _ e=>nomatch e⟩
 | ref p =>
  cases r
  rcases ty with ⟨rfl,xs,hq⟩ | ⟨rfl,o,hk,hc,hd⟩ | ⟨rfl,hk⟩ | ⟨rfl,S,n,hk⟩
  ·obtain ⟨its,_,pl,_⟩:=I.list hq
   refine ⟨pl.isList.typeIs,fun a e=>?_⟩
   cases e
   obtain ⟨o,n,e,c,hd,_⟩:=pl
   exact ⟨o,e,hd⟩
  ·refine ⟨⟨o,I.kIn p o hk,hc⟩,fun a e=>?_⟩
   cases e
   exact ⟨o,I.kIn _ o hk,hd⟩
  ·have z:∃ o,s.heap.get? p = some o /\ o.ExactDict:=by
    rcases hk with ⟨kvs,hk⟩ | ⟨kvs,hk⟩
    ·obtain ⟨_,_,_,_,o,_,_,e,ex,_⟩:=I.hok p _ hk
     exact ⟨o,e,ex⟩
    ·obtain ⟨_,_,_,_,o,_,_,e,ex,_⟩:=I.hok p _ hk
     exact ⟨o,e,ex⟩
   obtain ⟨o,e,ex⟩:=z
   refine ⟨⟨o,e,ex.1⟩,fun a e2=>?_⟩
   cases e2
   exact ⟨o,e,ex.2.1⟩
  ·obtain ⟨o,_,_,_,e,ex,_⟩:=I.hok p _ hk
   refine ⟨⟨o,e,ex.1⟩,fun a e2=>?_⟩
   cases e2
   exact ⟨o,e,ex.2.1⟩
 | _=>exact False.elim ty
def Ck (K:PySem.W.Frag) (T:String) (r:V -> List V -> Hp -> VK -> Prop) (to:TE):TE:=fun σ H Q=>to σ H fun x H1=>tyV K T x H1 /\ r x [] H1 Q
def tBM (K:PySem.W.Frag) (T:String) (r:V -> List V -> Hp -> VK -> Prop) (to:TE) (t:TA):TE:=fun σ H Q=>to σ H fun x H1=>tyV K T x H1 /\ t σ H1 fun xs H2=>r x xs H2 Q
variable {o e:Expr} {es:List Expr} {to:TE} {t:TA} {name:Str} {apos cpos:Pos} {T id:String} {r:V -> List V -> Hp -> VK -> Prop}
theorem oD (pa:PlainAttrs T) (slot:Slot T name id) (hty:typeOf (.builtin id) = pure (.type "method_descriptor")) (hm:MtR X id r) (ho:PE X o to) (ha:PA X (e :: es) t)
  (hbase:attributeBase o name X.env (eval o X.env) = eval o X.env:=by rfl)
  (hfew:((backTo cpos (starEach (e :: es) X.env)).all (fun x=>!x.1) && (backToKw cpos (keywordEach [] X.env)).all (fun x=>x.1.isSome)
   && decide ((e :: es).length + ([]:List Keyword).length + (if ([]:List Keyword).isEmpty then 0 else 1) < 30)) = true:=by rfl)
  (hline:(apos.endLine == cpos.line) = true:=by rfl) (hs:starEach (e :: es) X.env = (false,eval e X.env) :: starEach es X.env:=by rfl) (hplain:(backTo cpos (starEach es X.env)).any (·.1) = false:=by rfl) :
  PE X (.Call (.Attribute o name apos) (e :: es) [] cpos) (tBM X.K T r to t):=by
 intro pins s σ H Q I h
 refine wpAny_Call_method_late hbase hfew hline rfl (thn (ho pins s σ H _ I h) fun v s1 ⟨x,H1,I1,r1,ty,q1⟩=>?_)
 obtain ⟨h1,h2⟩:=wz I1 r1 ty
 refine ⟨T,id,pa,slot,hty,h1,h2,?_⟩
 have hA:=ha cpos pins s1 σ H1 _ I1 q1
 rw [hs] at hA ⊢
 refine Calls.callWith_builtin (by show (false || (backTo cpos (starEach es X.env)).any (·.1)) = false; rw [hplain] <;> rfl) (Calls.evalArgs_plain ?_)
 exact thn hA fun us s2 ⟨vs,H2,I2,r2,q2⟩=>hm pins s2 σ H2 x vs v us Q I2 r1 r2 q2
end
end L2
namespace L2
open PySem PySem.Spec PyProof.Rows
def MtM (X:Cx) (id:String) (r:V -> List V -> Hp -> VK -> Prop):Prop :=
 ∀ (pins:List (Addr × Obj)) (s:Shared) (σ:St) (H:Hp) (x:V) (xs:List V) (v:Value) (us:List Value) (Q:VK),Inv X pins σ H s -> RelV x v -> Vals xs us -> r x xs H Q ->
  wpAny (model X.prog X.w) X.A (call (.builtin id) (v :: us)) (EP X pins σ Q) X.xe s
theorem Vals.one:∀ {x:V} {us:List Value},Vals [x] us -> ∃ u,us = [u] /\ RelV x u
 | _,_,.cons r .nil=>⟨_,rfl,r⟩
theorem Vals.rep {xs:List V} {us:List Value} (h:Vals xs us):∀ k:Nat,Vals (List.replicate k xs).flatten (List.replicate k us).flatten
 | 0=>.nil
 | k + 1=>by
  rw [List.replicate_succ,List.replicate_succ,List.flatten_cons,List.flatten_cons]
  exact Vals.append h (Vals.rep h k)
theorem fx (its:List Value):∀ (k:Nat) (acc:List Value),
  List.foldl (fun x1 x2=>x1 ++ x2) acc.toArray (List.replicate k its.toArray) = (acc ++ (List.replicate k its).flatten).toArray
 | 0,acc=>by simp
 | k + 1,acc=>by
  have e:acc.toArray ++ its.toArray = (acc ++ its).toArray:=by simp
  have e2:(acc ++ its) ++ (List.replicate k its).flatten = acc ++ (List.replicate (k + 1) its).flatten:=by
   rw [List.replicate_succ,List.flatten_cons,List.append_assoc]
  rw [<- e2,<- fx its k (acc ++ its),<- e,List.replicate_succ,List.foldl_cons]
section
variable {X:Cx} {pins:List (Addr × Obj)} {σ:St} {H:Hp} {s:Shared} {l b:Addr} {xs ys zs:List V}
theorem Inv.lset {its its':List Value} {n:Nat} {f:Array Value -> Array Value} {t':Nat} (I:Inv X pins σ H s) (hH:H l = some (.lst xs))
  (e:s.heap.get? l = some { cls:=.type "list",data:=.seq its.toArray n }) (hf:f its.toArray = its'.toArray) (hv:Vals ys its') (hz:ys.length <= sizeLine) :
  Inv X pins σ (upd H l (.lst ys)) { s with heap:=s.heap.update l (Obj.mapSeq f),toks:=t' }:=by
 have q:=PySem.IsL.update e f
 rw [hf] at q
 refine I.write (x:=l) (e:=l) (by rw [hH]; exact trivial) (.inl rfl) (fun b' u hb hu=>(Heap.get?_update_other s.heap (Obj.mapSeq f) (Ne.symm hb)).trans hu) ⟨_,q⟩ ?_
 exact ⟨hz,its',_,hv,q⟩
theorem Inv.lnew {its:List Value} {t':Nat} (I:Inv X pins σ H s) (hv:Vals ys its) (hz:ys.length <= sizeLine) :
  Inv X pins σ (upd H s.heap.objs.size (.lst ys)) { s with heap:=s.heap.push { cls:=.type "list",data:=.seq its.toArray },toks:=t' } :=
 I.laid (fun _ _ q=>Heap.get?_push_of_some _ q) (Nat.le_refl _) ⟨hz,its,0,hv,Heap.get?_push_size _ rfl⟩
theorem Inv.fresh (I:Inv X pins σ H s):H s.heap.objs.size = none:=I.hok.fresh (Nat.le_refl _)
theorem Inv.lstM (I:Inv X pins σ H s) (hH:H l = some (.lst xs)):xs.length <= sizeLine /\ ∃ (its:List Value) (n:Nat),Vals xs its /\ xs.length = its.length /\ s.heap.get? l = some { cls:=.type "list",data:=.seq its.toArray n }:=by
 obtain ⟨z,its,n,r,e⟩:=I.hok l _ hH
 exact ⟨z,its,n,r,r.length,e⟩
theorem gH {n:Nat} (h:n <= sizeLine):Builtin.List.listTooLong n = false:=by
 unfold Builtin.List.listTooLong
 exact decide_eq_false (by omega)
end
section
variable {X:Cx}
def pP:V -> List V -> Hp -> VK -> Prop:=fun x vs H Q=>∃ l xs y,x = .ref l /\ vs = [y] /\ H l = some (.lst xs) /\ xs.length < sizeLine /\ Q .non (upd H l (.lst (xs ++ [y])))
theorem fF:MtM X "list.append" pP:=by
 intro pins s σ H x vs v us Q I rx rv h
 obtain ⟨l,xs,y,rfl,rfl,hH,hz,q⟩:=h
 cases rx
 obtain ⟨u,rfl,ru⟩:=rv.one
 obtain ⟨z,its,n,r,hl,e⟩:=I.lstM hH
 refine call_meets F.slot_list_append ⟨_,e,rfl⟩ F.entry_list_append (F.args_list_append_2 _ _) (PySem.list_append l its.toArray n u (by rw [List.size_toArray]; omega)) ⟨e,?_⟩
 refine ⟨.non,_,I.lset (its':=its ++ [u]) hH e (by simp) (r.append (.cons ru .nil)) ?_,rfl,q⟩
 rw [List.length_append,List.length_singleton]
 omega
def rh:V -> List V -> Hp -> VK -> Prop:=fun x vs H Q=>∃ l b xs zs,x = .ref l /\ vs = [.ref b] /\ H l = some (.lst xs) /\ H b = some (.lst zs) /\ xs.length + zs.length <= sizeLine /\ Q .non (upd H l (.lst (xs ++ zs)))
theorem kQ:MtM X "list.extend" rh:=by
 intro pins s σ H x vs v us Q I rx rv h
 obtain ⟨l,b,xs,zs,rfl,rfl,hH,hB,hz,q⟩:=h
 cases rx
 obtain ⟨u,rfl,ru⟩:=rv.one
 cases ru
 obtain ⟨z,its,n,r,hl,e⟩:=I.lstM hH
 obtain ⟨z2,its2,n2,r2,hl2,e2⟩:=I.lstM hB
 have hsz:its.toArray.size + its2.toArray.size <= sizeLine:=by rw [List.size_toArray,List.size_toArray]; omega
 have hlong:¬ (!its.toArray.isEmpty && Builtin.List.listTooLong (its.toArray.size + its2.toArray.size)) = true:=by
  rw [gH hsz,Bool.and_false]
  exact Bool.false_ne_true
 refine call_meets F.slot_list_extend ⟨_,e,rfl⟩ F.entry_list_extend (F.args_list_extend_2 _ _)
  (AutoSeq1.list_extend_list_list_0 l its.toArray n b its2.toArray n2 hlong (by rw [List.size_toArray]; omega) (by omega)) ⟨e,e2,?_⟩
 refine ⟨.non,_,I.lset (its':=its ++ its2) hH e (by simp) (r.append r2) ?_,rfl,q⟩
 rw [List.length_append]
 omega
def Cr:V -> List V -> Hp -> VK -> Prop:=fun x vs H Q=>∃ l xs y,x = .ref l /\ vs = [] /\ H l = some (.lst xs) /\ xs[xs.length - 1]? = some y /\ Q y (upd H l (.lst xs.dropLast))
def Br:V -> List V -> Hp -> VK -> Prop:=fun x vs H Q=>∃ l xs i k y,x = .ref l /\ vs = [.int i] /\ H l = some (.lst xs) /\ -(2 ^ 63) <= i /\ i < 2 ^ 63 /\ seqIndex? i xs.length = some k /\ xs[k]? = some y /\ Q y (upd H l (.lst (xs.eraseIdx k)))
def zV:V -> List V -> Hp -> VK -> Prop:=fun x vs H Q=>∃ l xs,x = .ref l /\ vs = [] /\ H l = some (.lst xs) /\ Q .non (upd H l (.lst xs.reverse))
def AR:V -> List V -> Hp -> VK -> Prop:=fun x vs H Q=>∃ l xs,x = .ref l /\ vs = [] /\ H l = some (.lst xs) /\ Q .non (upd H l (.lst []))
def Av:R2:=fun x y H Q=>∃ l b xs zs,x = .ref l /\ y = .ref b /\ H l = some (.lst xs) /\ H b = some (.lst zs) /\ xs.length + zs.length <= sizeLine /\ ∀ p,H p = none -> Q (.ref p) (upd H p (.lst (xs ++ zs)))
theorem op_cat:OpR X (binaryOp .Add) Av:=by
 intro pins s σ H x y v u Q I rx ry h
 obtain ⟨l,b,xs,zs,rfl,rfl,hH,hB,hz,q⟩:=h
 cases rx
 cases ry
 obtain ⟨z,its,n,r,hl,e⟩:=I.lstM hH
 obtain ⟨z2,its2,n2,r2,hl2,e2⟩:=I.lstM hB
 refine PySem.P.add_list e e2 ?_ (by rw [List.size_toArray,List.size_toArray]; omega)
 have ea:its.toArray ++ its2.toArray = (its ++ its2).toArray:=by simp
 rw [ea]
 exact ⟨.ref _,_,I.lnew (t':=s.toks) (r.append r2) (by rw [List.length_append]; omega),rfl,q _ I.fresh⟩
def Ag:R2:=fun x y H Q=>∃ l k xs,x = .ref l /\ y = .int k /\ H l = some (.lst xs) /\ -(2 ^ 63) <= k /\ k < 2 ^ 63 /\ xs.length * k.toNat <= sizeLine /\
 ∀ p,H p = none -> Q (.ref p) (upd H p (.lst (List.replicate k.toNat xs).flatten))
theorem qh {α:Type} (xs:List α) (k:Nat):(List.replicate k xs).flatten.length = k * xs.length:=by
 induction k with
 | zero=>simp
 | succ k ih=>rw [List.replicate_succ,List.flatten_cons,List.length_append,ih,Nat.succ_mul,Nat.add_comm]
theorem xZ:OpR X (binaryOp .Mult) Ag:=by
 intro pins s σ H x y v u Q I rx ry h
 obtain ⟨l,k,xs,rfl,rfl,hH,h1,h2,hz,q⟩:=h
 cases rx
 obtain ⟨t,rfl⟩:=ry
 obtain ⟨z,its,n,r,hl,e⟩:=I.lstM hH
 have hlen:its.toArray.size * k.toNat <= sizeLine:=by rw [List.size_toArray,<- hl]; exact hz
 have hcap:¬ its.toArray.size * k.toNat > (2 ^ 63 - 1) / 8:=by
  have:(sizeLine:Nat) <= (2 ^ 63 - 1) / 8:=by decide
  omega
 have hfit:¬ (!Builtin.List.listFitsIndex k) = true:=by
  rw [fitsIndex_both h1 h2]
  exact Bool.false_ne_true
 have hlong:¬ Builtin.List.listTooLong (its.toArray.size * k.toNat) = true:=by
  rw [gH hlen]
  exact Bool.false_ne_true
 have hnew:List.foldl (fun x1 x2=>x1 ++ x2) #[] (List.replicate (if its.toArray.isEmpty = true then 0 else k.toNat) its.toArray) = (List.replicate k.toNat its).flatten.toArray:=by
  have f0:∀ m:Nat,List.foldl (fun x1 x2=>x1 ++ x2) #[] (List.replicate m its.toArray) = (List.replicate m its).flatten.toArray:=fun m=>by
   have:=fx its m []
   rw [List.nil_append] at this
   exact this
  rw [f0]
  cases its with
  | nil=>simp
  | cons a r'=>rw [if_neg (by simp)]
 refine wpAny_binaryOp_repeat_ref (T:="list") (U:="int") (by decide) ⟨_,e,rfl⟩ (fun s'=>typeIs_int s' k t) noFill_list_mul F.fills_int_mul F.slot_int_rmul repeat_list F.slot_int_index.lookup
  (call_meets F.slot_int_rmul (typeIs_int s k t) F.entry_int_rmul (F.args_int_rmul_2 _ _) (int___rmul___int_list k t l its.toArray n)
   ⟨e,rfl,⟨_,e,rfl⟩,call_meets F.slot_list_mul ⟨_,e,rfl⟩ F.entry_list_mul (F.args_list_mul_2 _ _) (AutoListH.list___mul___list_int_3 l its.toArray n k t hfit hcap hlong) ⟨e,?_⟩⟩)
 rw [hnew]
 exact ⟨.ref _,_,I.lnew (t':=s.toks) (r.rep k.toNat) (by rw [qh,Nat.mul_comm]; exact hz),rfl,q _ I.fresh⟩
end
section
variable {prog:Program} {w:World} {A:Around} {E:Value -> Shared -> Prop} {s:Shared}
set_option maxRecDepth 100000 in
end
section
variable {X:Cx}
end
end L2
namespace Att
open PySem PySem.W PySem.Calls PyProof.Rows
theorem dH {P:Params} {h:Heap}:∀ (ns:List Int) (vs:List Value),WellAll P h vs (ns.map WData.int) -> IntsAre vs ns:=by
 intro ns
 induction ns with
 | nil =>
  intro vs w
  rw [List.map_nil] at w
  cases w
  exact .nil
 | cons n ns ih =>
  intro vs w
  rw [List.map_cons] at w
  cases w with
  | cons a b =>
   cases a
   exact .cons _ _ (ih _ b)
theorem lW {l:OpenLaw} {n:Nat} (hn:l.most = some n) {P:Params} {h:Heap} {args:List WData} {vals:List Value}
  (hpre:l.row.toRowW.claim.pre args = true) (hwl:WellAll P h vals args) :
  ∃ a vs ns,vals = [Value.ref a] /\ args = [WData.list (ns.map WData.int)] /\ h.get? a = some { cls:=.type "list",data:=.seq vs.toArray } /\ IntsAre vs ns /\ ns.length <= n:=by
 have hsh:WShape.hasAll [] args [.list .int] = true:=(pre_splitW hpre).1
 have hc:l.pre.holds [] { args:=args } = true:=(pre_splitW hpre).2
 obtain ⟨d,r,rfl,h1,h2⟩:=hasAllW_cons hsh
 obtain rfl:=hasAllW_nil h2
 obtain ⟨xs,rfl,h3⟩:=hasW_list h1
 obtain ⟨ns,rfl⟩:=items_int h3
 have hlen:ns.length <= n:=by
  unfold OpenLaw.pre at hc
  have h4:(WTm.not (.lt (.lit (.int (n:Int))) (.len (.arg 0)))).holds [] { args:=[.list (ns.map .int)] } = true:=by
   have h4:=(holds_andW hc).1
   rw [hn] at h4
   exact h4
  have h5:=condW_of h4 (w_not (w_lt w_lit (w_len_list (w_arg rfl))))
  rw [List.length_map] at h5
  refine Nat.le_of_not_lt fun q=>?_
  have q':(n:Int) < ((ns.length:Nat):Int):=by omega
  first
   | (rw [decide_eq_true q'] at h5; exact absurd h5 (by decide))
   | (simp at h5; omega)
 cases hwl with
 | cons w1 w2 =>
  cases w2
  cases w1 with
  | list ho hall=>exact ⟨_,_,ns,rfl,rfl,ho,dH ns _ hall,hlen⟩
theorem kM (l:OpenLaw) (args:List WData):l.row.toRowW.claim.post args (.bool true) args = true :=
 postW_of (r:=l.row.toRowW) (X:=(true == true))
  (show WShape.has [] (.bool true) .bool = true by first | rfl | decide | simp [WShape.has,WShape.arms,WShape.armsAll])
  (show (WTm.eq .res (.lit (.bool true))).value [] { args:=args,res:=some (.bool true),after:=args } = some (.bool (true == true)) from w_eq_bool (w_res rfl) w_lit) rfl
theorem attach_call {l:OpenLaw} {n:Nat} {q:Program} {loose:List Str} {XP:(Str -> Option Value) -> Heap -> Prop} {YP:World -> Heap -> Prop} {d:DefRec}
  (hn:l.most = some n) (hdf:d.params.defaults = [])
  (call:∀ (w:World) (s₀ s₁:Shared) (mg mb:Str -> Option Value) (fa:Addr) (o:Obj) (pm cd doc:Value) (a:Addr) (vs:List Value) (ns:List Int),
   Ground q loose [] XP w s₀ mg mb s₁.heap -> YP w s₁.heap ->
   s₁.heap.get? fa = some o -> o.data = .func (docDef d.name d.params d.body d.scope pm cd doc) -> s₁.heap.CodeRec cd d.name -> mg d.name = some (.ref fa) ->
   s₁.heap.get? a = some { cls:=.type "list",data:=.seq vs.toArray } -> IntsAre vs ns -> ns.length <= n -> s₁.gens = #[] ->
   codeAny (model l.prog w) callerA (.call (.ref fa) ⟨[.ref a],[]⟩) (fun r s'=>r = .ok (.ret (.bool true)) /\ OldK s₁.heap s'.heap /\ s'.os = s₁.os /\ AllBare s'.gens) s₁) :
  WalkO q loose XP YP l.row.toRowW d [] (fun f vs=>PySem.call f vs):=by
 intro w s₀ s₁ mg mb G Y fa o pm cd doc dV kV ho hd hcd hD hmg hg args vals as hpre hlay hrd hwl hlo
 obtain rfl:dV = .none:=Dflts.none hD hdf
 obtain rfl:kV = .none:=Dflts.noKw hD
 obtain ⟨a,vs,ns,rfl,rfl,hobj,hints,hlen⟩:=lW hn hpre hwl
 refine enter_call (codeAny_mono (call w s₀ s₁ mg mb fa o pm cd doc a vs ns G Y ho (fd_plain hd) hcd hmg hobj hints hlen hg) fun r s' hq=>?_)
 obtain ⟨rfl,h2,h3,h4⟩:=hq
 exact ⟨.inl ⟨.bool true,.bool true,[],rfl,fun _=>rfl,.bool true,kM l _,fun _=>⟨List.Pairwise.nil,fun _ hm=>(nomatch hm)⟩⟩,h2,h3,h4⟩
section
variable {prog:Program} {w:World} {A:Around} {E:Value -> Shared -> Prop} {s:Shared} {K:Frag}
def Bo (h:Heap):Heap:={ h with objs:=#[] }
def AE (h:Heap) (L d:Addr):List (Addr × Obj):=(List.range h.objs.size).filterMap fun a=>if a = L \/ a = d then none else (h.get? a).map fun o=>(a,o)
end
end Att
namespace L2
open PySem PySem.Spec PyProof.Rows
theorem cA:∀ {vs:List Value} {ns:List Int},IntsAre vs ns -> Vals (ns.map V.int) vs
 | _,_,.nil=>.nil
 | _,_,.cons n t h=>.cons ⟨t,rfl⟩ (cA h)
def nR (H:Hp):Prop:=∀ b,H b = none \/ ∃ o xs,H b = some (.frz o (.lst xs))
theorem mE {P:Program} {w:World} {K:PySem.W.Frag} {mg mb:Str -> Option Value} {CX:CXT} {k:Nat} {fa a:Addr} {fd:FuncData} {x:Str} {sp:Sp} {s₁:Shared} {vs:List Value} {ns:List Int}
  (KX:K.In s₁.heap) (hns:s₁.heap.Ns mainGlobals mg) (hb:s₁.heap.Ns builtinsNs mb) (hbb:∀ x:Str,x ≠ "__name__" -> mb x = bootBuiltins x) (hlim:s₁.heap.NoLimit) (hg:s₁.gens = #[])
  (ha:s₁.heap.get? a = some { cls:=.type "list",data:=.seq vs.toArray }) (hi:IntsAre vs ns) (hl:ns.length <= sizeLine) (hr:Room k callerA)
  (F:∀ base:Heap,K.In base -> base.Ns mainGlobals mg -> FnOk P w K mg base CX k fa fd [x] sp) (hbind:∀ (s:Shared) (u:Value),BindsTo s fd ⟨[u],[]⟩ [(x,u)])
  (hsp:∀ H:Hp,nR H -> SqL K H a (ns.map V.int) -> sp [.ref a] H (fun v _=>v = .bl true) fun _ _ _=>False)
  (hCX:∀ H e s',CX [] H s₁ (fun _ _ _=>False) e s' -> False) :
  codeAny (model P w) callerA (.call (.ref fa) ⟨[.ref a],[]⟩) (fun r s'=>r = .ok (.ret (.bool true)) /\ OldK s₁.heap s'.heap /\ s'.os = s₁.os /\ AllBare s'.gens) s₁:=by
 have rv:=cA hi
 have lenV:=hi.length
 -- from an abstract heap in which nothing but the script may be tracked
 have core:∀ H:Hp,nR H -> SqL K H a (ns.map V.int) -> HOk P w H s₁.heap -> (∀ b,H b ≠ none -> b = a) -> (H a ≠ none -> K.lookup a = none) ->
   codeAny (model P w) callerA (.call (.ref fa) ⟨[.ref a],[]⟩) (fun r s'=>r = .ok (.ret (.bool true)) /\ OldK s₁.heap s'.heap /\ s'.os = s₁.os /\ AllBare s'.gens) s₁:=by
  intro H hO hS hok hA hK
  have base_of:∀ {b:Addr} {o:Obj},s₁.heap.get? b = some o -> H b = none -> (gG s₁.heap H).get? b = some o:=fun e n=>m7 e n
  have noA:∀ {b:Addr} {o:Obj} {es:Array DictEntry} {ep:Nat},s₁.heap.get? b = some o -> o.data = .dict es ep -> H b = none:=fun {b o es ep} e d=>by
   cases q:H b with
   | none=>rfl
   | some u =>
    have e':b = a:=hA b (by rw [q]; simp)
    subst e'
    rw [ha] at e; cases e
    have d':Data.seq vs.toArray _ = Data.dict es ep:=d
    cases d'
  have nsK:∀ {b:Addr} {m:Str -> Option Value},s₁.heap.Ns b m -> (gG s₁.heap H).Ns b m:=fun {b m} ⟨o,es,ep,e,d,r⟩=>⟨o,es,ep,base_of e (noA e d),d,r⟩
  have hKb:K.In (gG s₁.heap H):=fun b o e=>base_of (KX b o e) (by
   cases q:H b with
   | none=>rfl
   | some u =>
    have e':b = a:=hA b (by rw [q]; simp)
    subst e'
    rw [hK (by rw [q]; simp)] at e; cases e)
  have hM:Mod K mg (gG s₁.heap H):=⟨hKb,nsK hns,⟨mb,nsK hb,hbb⟩,let ⟨mc,h1,h2⟩:=hlim; ⟨mc,nsK h1,h2⟩⟩
  have e0:qN P w K mg (gG s₁.heap H) callerA [] s₁ H:=⟨rfl,hM,fun b o e=>qq e,Nat.le_of_eq (lA _ _),trivial,fun b hb=>absurd (show b ∈ ([]:List Addr) from hb) (by simp),hok,.of_eq hg⟩
  refine codeAny_mono ((F _ hKb (nsK hns)).run callerA [] s₁ H ⟨[.ref a],[]⟩ [.ref a] [.ref a] _ _ hr e0 (hbind s₁ (.ref a)) (.cons rfl .nil) (hsp H hO hS)) fun r s' h=>?_
  cases r with
  | error e=>exact (hCX H e s' h).elim
  | ok fl =>
   cases fl with
   | next=>exact False.elim h
   | brk=>exact False.elim h
   | cont=>exact False.elim h
   | ret u =>
    obtain ⟨v,H',os,bare,un,hok',r',q⟩:=h
    have q':v = .bl true:=q
    subst q'
    obtain rfl:u = Value.bool true:=r'
    refine ⟨rfl,OldK.of_keep fun b o e=>?_,os,bare⟩
    cases q:H b with
    | none=>exact un.keep b o e q (by intro z; exact absurd (show b ∈ ([]:List Addr) from z) (by simp)) (by simp)
    | some u =>
     rcases hO b with z | ⟨ob,xs,z⟩
     ·rw [q] at z; cases z
     ·have z2:=un.frzs b ob _ z
      obtain ⟨e1,_⟩:=hok b _ z
      obtain ⟨e2,_⟩:=hok' b _ z2
      rw [e] at e1; cases e1
      exact e2
 cases hk:K.lookup a with
 | some o =>
  -- the script is one of the module's own objects
  have e:=KX a o hk
  rw [ha] at e
  cases e
  refine core (fun _=>none) (fun _=>.inl rfl) (.inr ⟨_,vs.toArray,_,hk,rfl,rfl,rfl,by rw [List.size_toArray,lenV]; exact hl,by simpa using rv⟩) (fun b u z=>by have z':(none:Option HO) = some u:=z; cases z') (fun b z=>absurd rfl z) fun z=>absurd rfl z
 | none =>
  refine core (fun b=>if b = a then some (.frz { cls:=.type "list",data:=.seq vs.toArray } (.lst (ns.map V.int))) else none) (fun b=>?_) (.inl (.inr ⟨{ cls:=.type "list",data:=.seq vs.toArray },if_pos rfl⟩)) (fun b u z=>?_) (fun b z=>?_) fun _=>hk
  ·by_cases hb:b = a
   ·exact .inr ⟨_,_,if_pos hb⟩
   ·exact .inl (if_neg hb)
  ·by_cases hb:b = a
   ·have z':=(if_pos hb).symm.trans z
    cases z'
    subst hb
    exact ⟨ha,by rw [List.length_map]; exact hl,vs,_,rv,ha⟩
   ·have z':=(if_neg hb).symm.trans z
    cases z'
  ·by_cases hb:b = a
   ·exact hb
   ·exact absurd (if_neg hb) z
end L2
namespace L2
open PySem PySem.Spec PyProof.Rows
abbrev KOf {K:PySem.W.Frag} {h:Heap} (_:K.In h):PySem.W.Frag:=K
theorem walk_of {l:PySem.W.OpenLaw} {n k:Nat} {q:Program} {loose:List Str} {XP:(Str -> Option Value) -> Heap -> Prop} {YP:World -> Heap -> Prop} {d:DefRec} {K:Params -> PySem.W.Frag} {CX:World -> CXT} {sp:World -> Sp} {x:Str}
  (hn:l.most = some n) (hn2:n <= sizeLine) (hdf:d.params.defaults = []) (hr:Room k callerA)
  (hY:∀ (w:World) (h:Heap),YP w h -> (K w.params).In h)
  (F:∀ (w:World) (mg:Str -> Option Value) (fa:Addr) (h:Heap),(K w.params).In h -> h.Ns mainGlobals mg -> mg d.name = some (.ref fa) ->
   ∃ fd:FuncData,(∀ (s:Shared) (u:Value),BindsTo s fd ⟨[u],[]⟩ [(x,u)]) /\
    ∀ base:Heap,(K w.params).In base -> base.Ns mainGlobals mg -> FnOk l.prog w (K w.params) mg base (CX w) k fa fd [x] (sp w))
  (hsp:∀ (w:World) (H:Hp) (a:Addr) (ns:List Int),ns.length <= n -> nR H -> SqL (K w.params) H a (ns.map V.int) -> sp w [.ref a] H (fun v _=>v = .bl true) fun _ _ _=>False)
  (hCX:∀ (w:World) (H:Hp) (s:Shared) (e:Value) (s':Shared),CX w [] H s (fun _ _ _=>False) e s' -> False) :
  PySem.W.WalkO q loose XP YP l.row.toRowW d [] (fun f vs=>PySem.call f vs):=by
 refine Att.attach_call hn hdf fun w s₀ s₁ mg mb fa o pm cd doc a vs ns G Y ho hd hcd hmg hobj hints hlen hg=>?_
 have KX:=hY w _ Y
 obtain ⟨fd,hb,hF⟩:=F w mg fa _ KX G.T.g hmg
 exact mE KX G.T.g G.T.b G.T.builtins G.T.nolimit hg hobj hints (Nat.le_trans hlen hn2) hr hF hb (fun H hO hS=>hsp w H a ns hlen hO hS) fun H e s'=>hCX w H s₁ e s'
end L2
namespace L2
open PySem PySem.Spec PyProof.Rows
def Ay (s:Stmt) (j:Nat):Stmt:=match s with
 | .ClassDef _ _ _ body _ _ _ _ _ _ _=>body.getD j (.Pass ⟨0,0,0,0⟩)
 | _=>.Pass ⟨0,0,0,0⟩
def defArgs (s:Stmt):Arguments:=match s with
 | .FunctionDef _ a _ _ _ _ _ _ _ _=>a
 | _=>{ posonlyargs:=[],args:=[],vararg:=none,kwonlyargs:=[],kw_defaults:=[],kwarg:=none,defaults:=[] }
def defBody (s:Stmt):List Stmt:=match s with
 | .FunctionDef _ _ b _ _ _ _ _ _ _=>b
 | _=>[]
def defScope (s:Stmt):Scope:=match s with
 | .FunctionDef _ _ _ _ _ _ sc _ _ _=>sc
 | _=>{ kind:=.function,names:=[],isGenerator:=false,isCoroutine:=false }
abbrev CX0:CXT:=fun _ _ _ _ _ _=>False
abbrev E0:XK:=fun _ _ _=>False
theorem nD {X:Cx}:jn CX0 X E0:=fun _ _ _ _ _ _ _ h=>h.elim
structure Fun (K:PySem.W.Frag) (x qual:Str) (st:Stmt) (f:Addr) (fd:FuncData):Prop where
 ex:∃ (oc:Value) (od:Option Addr) (kV doc pm:Value) (an:Option Addr) (cdv ct:Value) (osl:Array (Option Value)),
  fd = PySem.W.fnOf x qual (defArgs st) (defBody st) (defScope st) .none kV doc pm an cdv ct /\ K.lookup f = some ⟨oc,od,.func fd,osl⟩ /\ PySem.W.codeIn K cdv qual = true
 kp:PySem.W.keepIn K (.ref f) = true
section
variable {P:Program} {w:World} {K:PySem.W.Frag} {mg:Str -> Option Value} {base:Heap}
theorem Fun.ok {x qual:Str} {st:Stmt} {f:Addr} {fd:FuncData} {N ps:List Str} {k:Nat} {sp:Sp} (F:Fun K x qual st f fd) (S:ax N ps (defScope st)) (len:∀ vs H Q E,sp vs H Q E -> vs.length = ps.length)
  (hbody:∀ (cdv:Value) (A:Around) (outer:List Env) (s:Shared) (H:Hp) (vs:List V) (Q:VK) (E:XK),Room k (A.deeper (envOfC qual (defScope st) s.heap.objs.size f cdv)) -> sp vs H Q E ->
   ∃ t,PSs (f6 CX0 P w K mg base N qual (defScope st) f cdv A outer s H E).nox (defBody st) t /\ t { nx:=fun _ H'=>Q .non H',rt:=Q } (start N vs) H):FnOk P w K mg base CX0 (k + 1) f fd ps sp:=by
 obtain ⟨oc,od,kV,doc,pm,an,cdv,ct,osl,rfl,lk,hcd⟩:=F.ex
 refine yd lk hcd S len fun A outer s H vs Q E hr hsp=>?_
 obtain ⟨t,h,q⟩:=hbody cdv A outer s H vs Q E hr hsp
 exact ⟨t,h.nox,q⟩
theorem Fun.binds {x qual:Str} {st:Stmt} {f:Addr} {fd:FuncData} {ps:List Str} (F:Fun K x qual st f fd)
  (h:∀ (kV doc pm:Value) (an:Option Addr) (cdv ct:Value) (us:List Value),us.length = ps.length -> bindArgs (PySem.W.fnOf x qual (defArgs st) (defBody st) (defScope st) .none kV doc pm an cdv ct) ⟨us,[]⟩ = pure (ps.zip us)):Binds K fd ps []:=by
 obtain ⟨oc,od,kV,doc,pm,an,cdv,ct,osl,rfl,lk,hcd⟩:=F.ex
 exact .all (h kV doc pm an cdv ct)
theorem nL {x qual:Str} {st:Stmt} {f:Addr} {oc:Value} {od an:Option Addr} {osl:Array (Option Value)} {kV doc pm cdv ct:Value} (l:K.lookup f = some ⟨oc,od,.func (PySem.W.fnOf x qual (defArgs st) (defBody st) (defScope st) .none kV doc pm an cdv ct),osl⟩)
  (c:PySem.W.codeIn K cdv qual = true) (k:PySem.W.keepIn K (.ref f) = true):Fun K x qual st f (PySem.W.fnOf x qual (defArgs st) (defBody st) (defScope st) .none kV doc pm an cdv ct):=⟨⟨oc,od,kV,doc,pm,an,cdv,ct,osl,rfl,l,c⟩,k⟩
end
section
variable {X:Cx}
theorem pv (i:Nat) {x:Str} {pos:Pos} (hN:X.N[i]? = some x:=by rfl) (hv:Vis X.env.scope x:=by first | exact Or.inl rfl | exact Or.inr (Or.inl rfl) | exact Or.inr (Or.inr rfl)) (hd:(x == ("__debug__":Str)) = false:=by decide)
  (hcd:(x == ("__classdict__":Str)) = false:=by decide):PE X (.Name x pos) (lq i):=cj hN hv hd hcd
end
theorem gy {A B:Prop} (h:B):if false = true then A else B:=by
 rw [if_neg Bool.false_ne_true]
 exact h
theorem vy {A B:Prop} (h:A):if true = true then A else B:=by
 rw [if_pos rfl]
 exact h
def Same (H H':Hp):Prop:=∀ b o,H b = some o -> H' b = some o
theorem Same.refl (H:Hp):Same H H:=fun _ _ h=>h
theorem Same.trans {H H1 H2:Hp} (a:Same H H1) (b:Same H1 H2):Same H H2:=fun c o h=>b c o (a c o h)
end L2
namespace L2
open PySem PySem.Spec PyProof.Rows
section
variable {κ:Type} [DecidableEq κ]
def lN (kvs:List (κ × V)) (k:κ):Option V:=(kvs.find? fun kv=>decide (kv.1 = k)).map (·.2)
def xH (kvs:List (κ × V)) (k:κ) (v:V):List (κ × V) :=
 if (kvs.any fun kv=>decide (kv.1 = k)) = true then kvs.map (fun kv=>if kv.1 = k then (kv.1,v) else kv) else kvs ++ [(k,v)]
def mU (kvs:List (κ × V)) (k:κ):List (κ × V):=kvs.filter fun kv=>decide (kv.1 ≠ k)
end
abbrev KT (H:Hp):List (List Key × V) -> List (List Key × Addr × Value) -> Prop:=Paired fun p q=>p.1 = q.1 /\ H q.2.1 = some (.tup (p.1.map kV)) /\ RelV p.2 q.2.2
section
variable {P:Program} {w:World} {H:Hp} {h:Heap} {a:Addr}
end
def lM (H:Hp) (a:Addr) (y:V) (r:Option V):Prop :=
 (∃ kvs k,Rd H a (.dK kvs) /\ y = kV k /\ r = lN kvs k) \/ ∃ kvs k b,Rd H a (.dT kvs) /\ y = .ref b /\ H b = some (.tup (k.map kV)) /\ r = lN kvs k
def yt (H:Hp) (a:Addr) (y v:V) (H':Hp):Prop :=
 (∃ kvs k,H a = some (.dK kvs) /\ y = kV k /\ kvs.length < sizeLine /\ H' = upd H a (.dK (xH kvs k v))) \/
 ∃ kvs k b,H a = some (.dT kvs) /\ y = .ref b /\ H b = some (.tup (k.map kV)) /\ kvs.length < sizeLine /\ H' = upd H a (.dT (xH kvs k v))
section
variable {X:Cx} {pins:List (Addr × Obj)} {σ:St} {H:Hp} {s:Shared} {a:Addr} {y v:V} {u r:Value} {o:Option V} {A:Around} {E:Value -> Shared -> Prop}
end
section
variable {X:Cx} {pins:List (Addr × Obj)} {σ:St} {H:Hp} {s:Shared} {a:Addr} {kvs:List (Key × V)} {k:Key} {u:Value} {A:Around} {E:Value -> Shared -> Prop}
end
def CI (i:Expr):Prop:=∀ ov iv,subscripted i false ov iv = operate [ov,iv] (getItem ov iv)
def B6 (td ty:TE):TE:=fun σ H Q=>td σ H fun x H1=>ty σ H1 fun y H2=>∃ a v,x = .ref a /\ lM H2 a y (some v) /\ Q v H2
def Cs (ty td:TE):TE:=fun σ H Q=>ty σ H fun y H1=>td σ H1 fun x H2=>∃ a o,x = .ref a /\ lM H2 a y o /\ Q (.bl o.isSome) H2
def AB (ty td:TE):TE:=fun σ H Q=>ty σ H fun y H1=>td σ H1 fun x H2=>∃ a o,x = .ref a /\ lM H2 a y o /\ Q (.bl (!o.isSome)) H2
def B7 (td ty tv:TE):TS:=fun D σ H=>tv σ H fun v H1=>td σ H1 fun x H2=>ty σ H2 fun y H3=>∃ a H4,x = .ref a /\ yt H3 a y v H4 /\ D.nx σ H4
def BR (td ty tv:TE) (rd:V -> V -> Hp -> VK -> Prop):TS:=fun D σ H=>td σ H fun x H1=>ty σ H1 fun y H2=>∃ a v,x = .ref a /\ lM H2 a y (some v) /\
 tv σ H2 fun y2 H3=>rd v y2 H3 fun z H4=>∃ H5,yt H4 a y z H5 /\ D.nx σ H5
def Cb (td ty:TE):TS:=fun D σ H=>td σ H fun x H1=>ty σ H1 fun y H2=>∃ a kvs k,x = .ref a /\ H2 a = some (.dK kvs) /\ y = kV k /\ (lN kvs k).isSome = true /\ D.nx σ (upd H2 a (.dK (mU kvs k)))
section
variable {X:Cx} {o i e value:Expr} {pos pos' tpos:Pos} {td ty tv:TE}
end
def BG:TE:=fun _ H Q=>∀ p,H p = none -> Q (.ref p) (upd H p (.dK []))
def AV:TE:=fun _ H Q=>∀ p,H p = none -> Q (.ref p) (upd H p (.dT []))
section
variable {X:Cx} {pos:Pos}
end
def iS:List (TE × TE) -> St -> Hp -> (List (V × V) -> Hp -> Prop) -> Prop
 | [],_,H,Q=>Q [] H
 | (tk,tv) :: r,σ,H,Q=>tk σ H fun x H1=>tv σ H1 fun y H2=>iS r σ H2 fun ps H3=>Q ((x,y) :: ps) H3
abbrev VV:List (V × V) -> List (Value × Value) -> Prop:=Paired fun p q=>RelV p.1 q.1 /\ RelV p.2 q.2
def PPs (X:Cx) (pos:Pos) (keys:List (Option Expr)) (values:List Expr) (trs:List (TE × TE)):Prop :=
 ∀ (pins:List (Addr × Obj)) (s:Shared) (σ:St) (H:Hp) (Q:List (V × V) -> Hp -> Prop),Inv X pins σ H s -> iS trs σ H Q ->
  wpAny (model X.prog X.w) X.A (evalPairs (pairTrees keys values X.env pos)) (fun vs s'=>∃ ps H',Inv X pins σ H' s' /\ VV ps vs /\ Q ps H') X.xe s
def wo (kvs more:List (Key × V)):List (Key × V):=more.foldl (fun acc kv=>xH acc kv.1 kv.2) kvs
def Ci (trs:List (TE × TE)):TE:=fun σ H Q=>∀ p,H p = none -> iS trs σ (upd H p (.dK [])) fun ps H2=>H2 p = some (.dK []) /\ ∃ kvs:List (Key × V),ps = kvs.map (fun kv=>(kV kv.1,kv.2)) /\ kvs.length <= 15 /\ Q (.ref p) (upd H2 p (.dK (wo [] kvs)))
structure M1 (X:Cx) (o:Expr) (m:Str) (apos:Pos) (e:Expr) (cpos:Pos):Prop where
 base:attributeBase o m X.env (eval o X.env) = eval o X.env
 few:((backTo cpos (starEach [e] X.env)).all (fun x=>!x.1) && (backToKw cpos (keywordEach [] X.env)).all (fun x=>x.1.isSome)
  && decide (([e]:List Expr).length + ([]:List Keyword).length + (if ([]:List Keyword).isEmpty then 0 else 1) < 30)) = true
 line:(apos.endLine == cpos.line) = true
 aJ:backTo cpos (starEach [e] X.env) = [(false,eval e X.env)]
structure M2 (X:Cx) (o:Expr) (m:Str) (apos:Pos) (e f:Expr) (cpos:Pos):Prop where
 base:attributeBase o m X.env (eval o X.env) = eval o X.env
 few:((backTo cpos (starEach [e,f] X.env)).all (fun x=>!x.1) && (backToKw cpos (keywordEach [] X.env)).all (fun x=>x.1.isSome)
  && decide (([e,f]:List Expr).length + ([]:List Keyword).length + (if ([]:List Keyword).isEmpty then 0 else 1) < 30)) = true
 line:(apos.endLine == cpos.line) = true
 aJ:backTo cpos (starEach [e,f] X.env) = [(false,eval e X.env),(false,eval f X.env)]
def IsD (H:Hp) (a:Addr):Prop:=(∃ kvs,Rd H a (.dK kvs)) \/ ∃ kvs,Rd H a (.dT kvs)
section
variable {X:Cx} {pins:List (Addr × Obj)} {σ:St} {H:Hp} {s:Shared} {a:Addr} {y d:V} {u r:Value} {o:Option V} {A:Around} {E:Value -> Shared -> Prop}
end
def AM (td ty:TE):TE:=fun σ H Q=>td σ H fun x H1=>∃ a,x = .ref a /\ IsD H1 a /\ ty σ H1 fun y H2=>∃ o,lM H2 a y o /\ Q (o.getD .non) H2
def Bx (td ty tx:TE):TE:=fun σ H Q=>td σ H fun x H1=>∃ a,x = .ref a /\ IsD H1 a /\ ty σ H1 fun y H2=>tx σ H2 fun z H3=>∃ o,lM H3 a y o /\ Q (o.getD z) H3
def Bq (td ty:TE):TE:=fun σ H Q=>td σ H fun x H1=>∃ a,x = .ref a /\ IsD H1 a /\ ty σ H1 fun y H2=>∃ kvs k v,H2 a = some (.dK kvs) /\ y = kV k /\ lN kvs k = some v /\ Q v (upd H2 a (.dK (mU kvs k)))
def AQ (td ty tx:TE):TE:=fun σ H Q=>td σ H fun x H1=>∃ a,x = .ref a /\ IsD H1 a /\ ty σ H1 fun y H2=>tx σ H2 fun z H3=>∃ kvs k,H3 a = some (.dK kvs) /\ y = kV k /\
 (∀ v,lN kvs k = some v -> Q v (upd H3 a (.dK (mU kvs k)))) /\ (lN kvs k = none -> Q z H3)
section
variable {X:Cx} {o e f:Expr} {apos cpos:Pos} {td ty tx:TE}
end
section
variable {X:Cx} {pins:List (Addr × Obj)} {σ:St} {H:Hp} {s:Shared} {a:Addr} {kvs:List (Key × V)} {A:Around} {E:Value -> Shared -> Prop}
end
section
variable {X:Cx} {pins:List (Addr × Obj)} {σ:St} {H:Hp} {s:Shared} {a:Addr} {y:V} {u:Value} {A:Around} {E:Value -> Shared -> Prop}
end
end L2
namespace L2
open PySem PySem.Spec PyProof.Rows
section
variable {κ:Type} [DecidableEq κ]
end
end L2

set_option Elab.async false
set_option linter.all false
set_option maxRecDepth 100000
set_option maxHeartbeats 4000000
namespace L3
open PySem PySem.Spec PyProof.Rows L2
abbrev noX:Value -> Shared -> Prop:=fun _ _=>False
theorem fI {P:Program} {w:World} {H:Hp} {h:Heap} {a:Addr} {o:HO} (x:HOk P w H h) (hn:H a = none) (new:ObjOk P w (upd H a o) h a o):HOk P w (upd H a o) h:=by
 intro b u e
 by_cases hb:b = a
 ·subst hb
  rw [af] at e
  cases e
  exact new
 ·rw [ab hb] at e
  refine (x b u e).stay (fun c v _ q=>q) (fun c q=>?_) (fun c xs q=>?_)
  ·rw [ab (aG q hn)]; exact q
  ·rw [ab (aG q hn)]; exact q
section
variable {prog:Program} {w:World} {A:Around} {R:Result -> Shared -> Prop} {s:Shared}
theorem iP {elt tg iter:Expr} {scope:Scope} {pos:Pos} {it acc:Value} {env:Env} (J:Nat -> Shared -> Prop)
  (turn:∀ n s,J n s -> wpAny (model prog w) A (pyNext it) (fun r s₁=>match r with
   | none=>R (.ok .next) s₁
   | some v=>wpAny (model prog w) A (letOwnedTupleGo tg it v) (fun _ s₂=>wpAny (model prog w) A (assign tg env v) (fun _ s₃ =>
     wpAny (model prog w) A (eval elt env) (fun y s₄=>wpAny (model prog w) A (call (.builtin "list.append") [acc,y]) (fun _ s₅=>∃ m,m < n /\ J m s₅) noX s₄) noX s₃) noX s₂) noX s₁) noX s)
  (n:Nat) (h:J n s):codeAny (model prog w) A (.compLoop (.ListComp elt [⟨tg,iter,[],0⟩] scope pos) 0 it acc env) R s:=by
 refine codeAny_loop rfl J (fun n s hJ=>?_) n h
 show wpAny _ A ((compTurn (.ListComp elt [⟨tg,iter,[],0⟩] scope pos) 0 it acc env).onRaise (fun x=>do noteFrame x env; theTreesLotGoes x)) _ _ s
 refine wpAny_noted ?_
 rw [compTurn_list]
 refine wpAny_bind (wpAny_standAt (wpAny_bind (wpAny_mono (turn n s hJ) (fun r s₁ h₁=>?_) fun _ _ z=>z.elim)))
 cases r with
 | none=>exact wpAny_pure h₁
 | some v =>
  refine wpAny_bind (wpAny_mono h₁ (fun _ s₂ h₂=>?_) fun _ _ z=>z.elim)
  refine wpAny_bind (wpAny_mono h₂ (fun _ s₃ h₃=>?_) fun _ _ z=>z.elim)
  refine wpAny_bind (wpAny_tests_nil ?_)
  exact wpAny_bind (wpAny_bind (wpAny_mono h₃ (fun y s₄ h₄=>wpAny_bind (wpAny_mono h₄ (fun _ s₅ h₅=>wpAny_pure (wpAny_pure ⟨rfl,h₅⟩)) fun _ _ z=>z.elim)) fun _ _ z=>z.elim))
end
def aj (X:Cx) (N:List Str) (scope:Scope) (cl:List (Str × Addr)) (C:Addr) (s:Shared) (H:Hp) (fp:List Addr):Cx where
 prog:=X.prog
 w:=X.w
 K:=X.K
 mg:=X.mg
 base:=X.base
 A:=X.A
 N:=N
 s₀:=s
 H₀:=H
 env:=compEnvC scope cl C X.env
 outer:=X.stack
 stack:=X.stack
 ex:=fp
 fn:=fun _=>false
 calm:=X.calm
 pn:=X.pn
 xe:=noX
structure kS (x:Str) (ys:List Str) (scope:Scope):Prop where
 kind:scope.kind = .function
 cell:∀ y ∈ scope.names,y.2 ≠ .cell
 nm:∀ y ∈ scope.names,y.2 = .local -> scope.names.lookup y.1 = some .local
 loc:scope.names.lookup x = some .local
 nd:(x :: ys).Nodup
inductive Clo (X:Cx):List (Str × Addr) -> Prop
 | nil:Clo X []
 | cons {y:Str} {c:Addr} {cl:List (Str × Addr)}:X.env.cells.lookup y = some c -> Clo X cl -> Clo X ((y,c) :: cl)
theorem Clo.get {X:Cx} {cl:List (Str × Addr)} (h:Clo X cl):∀ {y:Str} {c:Addr},cl.lookup y = some c -> X.env.cells.lookup y = some c:=by
 induction h with
 | nil=>intro y c e; cases e
 | @cons z d cl' hz _ ih =>
  intro y c e
  cases q:y == z with
  | true =>
   simp only [List.lookup_cons,q] at e
   cases e
   rw [eq_of_beq q]; exact hz
  | false =>
   simp only [List.lookup_cons,q] at e
   exact ih e
inductive Frees (X:Cx) (scope:Scope) (cl:List (Str × Addr)):List Str -> List Nat -> Prop
 | nil:Frees X scope cl [] []
 | cons {y:Str} {ys:List Str} {i:Nat} {is:List Nat} {c:Addr}:X.N[i]? = some y -> Vis X.env.scope y -> (X.env.kindOf y = some .cell \/ X.env.kindOf y = some .free) -> X.env.cells.lookup y = some c -> cl.lookup y = some c ->
   ((relabel scope X.env).names.lookup y = some .cell \/ (relabel scope X.env).names.lookup y = some .free) -> Frees X scope cl ys is -> Frees X scope cl (y :: ys) (i :: is)
theorem Frees.len {X:Cx} {scope:Scope} {cl:List (Str × Addr)} {ys:List Str} {is:List Nat} (F:Frees X scope cl ys is):is.length = ys.length:=by
 induction F with
 | nil=>rfl
 | cons _ _ _ _ _ _ _ ih=>rw [List.length_cons,List.length_cons,ih]
def a7 (σ:L2.St) (is:List Nat):L2.St:=is.map fun i=>(σ[i]?).join
theorem Frees.get {X:Cx} {scope:Scope} {cl:List (Str × Addr)} {ys:List Str} {is:List Nat} {σ:L2.St} (F:Frees X scope cl ys is):∀ {j:Nat} {y:Str} {v:V},ys[j]? = some y -> (a7 σ is)[j]? = some (some v) ->
  ∃ (i:Nat) (c:Addr),X.N[i]? = some y /\ σ[i]? = some (some v) /\ Vis X.env.scope y /\ (X.env.kindOf y = some .cell \/ X.env.kindOf y = some .free) /\ X.env.cells.lookup y = some c /\ cl.lookup y = some c /\
   ((relabel scope X.env).names.lookup y = some .cell \/ (relabel scope X.env).names.lookup y = some .free):=by
 induction F with
 | nil=>intro j y v e; simp at e
 | @cons z zs i is c h1 h2 h3 h4 h5 h6 _ ih =>
  intro j y v e1 e2
  unfold a7 at e2
  rw [List.map_cons] at e2
  cases j with
  | zero =>
   rw [List.getElem?_cons_zero] at e1 e2
   cases e1
   cases q:σ[i]? with
   | none=>rw [q] at e2; cases e2
   | some o =>
    rw [q] at e2
    have e3:o = some v:=Option.some.inj e2
    subst e3
    exact ⟨i,c,h1,q,h2,h3,h4,h5,h6⟩
  | succ j =>
   rw [List.getElem?_cons_succ] at e1 e2
   exact ih e1 e2
theorem iE {X:Cx} {pins:List (Addr × Obj)} {σ:L2.St} {H:Hp} {s:Shared} {x:Str} {ys:List Str} {is:List Nat} {scope:Scope} {cl:List (Str × Addr)} {fp:List Addr} {C:Addr} {h1:Heap} {t1:Nat} {m1:Str -> Option Value}
  (I:Inv X pins σ H s) (hf:∀ b ∈ fp,eS X pins H b) (hfo:∀ b ∈ fp,b < s.heap.objs.size) (S:kS x ys scope) (hcl:Clo X cl)
  (hfr:(scope.names.all fun p=>p.2 != .free || (cl.lookup p.1).isSome) = true) (fr:Frees X scope cl ys is)
  (hC:s.heap.objs.size <= C) (old:∀ b o,s.heap.get? b = some o -> h1.get? b = some o) (hn:h1.Ns C m1) :
  Inv (aj X (x :: ys) scope cl C s H fp) pins (none :: a7 σ is) H { s with heap:=h1,toks:=t1 }:=by
 have stk:∀ b,b ≠ X.env.locals -> b ∉ X.fs -> b ∉ frs X.stack:=fun b q1 q2 hb=>(List.mem_cons.mp (I.stkSub b hb)).elim q1 q2
 have key:∀ a k,(relabel scope X.env).names.lookup a = some k -> (k = .cell \/ k = .free) -> ∃ c,cl.lookup a = some c:=fun a k e hk=>by
  have hm:=PySem.mem_of_lookup e
  obtain ⟨⟨n,k0⟩,hp,ep⟩:=List.mem_map.mp hm
  have hk0:k0 = .free /\ n = a:=by
   dsimp only at ep
   split at ep
   ·rename_i hc
    simp only [Bool.and_eq_true] at hc
    exact ⟨eq_of_beq hc.1.1,(Prod.mk.inj ep).1⟩
   ·obtain ⟨e1,e2⟩:=Prod.mk.inj ep
    subst e2
    rcases hk with z | z
    ·exact absurd z (S.cell _ hp)
    ·exact ⟨z,e1⟩
  obtain ⟨z1,z2⟩:=hk0
  subst z1 z2
  have q:=List.all_eq_true.mp hfr _ hp
  have q2:(cl.lookup n).isSome = true:=by simpa using q
  exact Option.isSome_iff_exists.mp q2
 refine ⟨⟨I.ok.mod,S.kind,I.ok.glob,I.ok.blt,hC,fun a b c e1 e2=>I.ok.inj a b c (hcl.get e1) (hcl.get e2),fun a ha=>?_,fun a c e=>absurd e Bool.false_ne_true,I.ok.hd,I.ok.frames,.inl rfl,
   fun b hb=>⟨Nat.ne_of_lt (Nat.lt_of_lt_of_le (hfo b hb) hC),fun a c e=>(hf b hb).2.2.2.2.1 a c (hcl.get e)⟩,I.bs,Nat.le_trans I.ok.bsz I.sz,fun b o e hb=>?_,fun b hb=>stk b (hf b hb).2.1 (hf b hb).2.2.1,I.stack,I.stkFree⟩,
  rfl,I.bare,Un.kept old,⟨m1,hn,fun j y v e1 e2 e3=>?_⟩,fun a c e=>?_,I.hok.fresh hC,fun a c e=>I.freeC a c (hcl.get e),fun p hp=>?_,I.hok.kept old,?_⟩
 ·rcases ha with e | e
  ·exact key a _ e (.inl rfl)
  ·exact key a _ e (.inr rfl)
 ·rcases (hf b hb).2.2.2.1 with z | z
  ·exact I.ok.noex b o e z
  ·exact absurd (Nat.lt_of_lt_of_le (Heap.lt_size (I.ok.bs b o e).1) z) (Nat.lt_irrefl _)
 ·cases j with
  | zero =>
   have z:(none:Option V) = some v:=Option.some.inj e2
   cases z
  | succ j =>
   obtain ⟨i,c,g1,g2,g3,g4,g5,g6,g7⟩:=fr.get (σ:=σ) (show ys[j]? = some y from e1) (show (a7 σ is)[j]? = some (some v) from e2)
   obtain ⟨m0,hn0,hl0⟩:=I.loc
   obtain ⟨u,r,l⟩:=hl0 i y v g1 g2 g3
   rcases l with ⟨k,_⟩ | ⟨_,c',e',z⟩
   ·rcases g4 with q | q
    ·rw [k] at q; cases q
    ·rw [k] at q; cases q
   ·rw [g5] at e'
    cases e'
    obtain ⟨o,ho,hd⟩:=z
    exact ⟨u,r,.inr ⟨g7,c,g6,⟨o,old _ _ ho,hd⟩⟩⟩
 ·obtain ⟨v,o,ho,hd⟩:=I.cell a c (hcl.get e)
  exact ⟨v,o,old _ _ ho,hd⟩
 ·obtain ⟨e,n,ne,nf,d⟩:=I.pin p hp
  exact ⟨old _ _ e,n,Nat.ne_of_lt (Nat.lt_of_lt_of_le (Heap.lt_size e) hC),stk _ ne nf,d⟩
 ·show (none :: a7 σ is).length = (x :: ys).length
  unfold a7
  rw [List.length_cons,List.length_cons,List.length_map,fr.len]
abbrev gm (its:List Value):Obj:={ cls:=.type "list",data:=.seq its.toArray its.length }
def vp (J:It) (te:TE) (σ':L2.St) (H1:Hp) (Q:VK):Prop:=∃ W:Nat -> Nat -> List V -> Hp -> Prop,(∃ m,W 0 m [] H1) /\ ∀ i m ys H,W i m ys H ->
 (J.stop i H /\ ys.length <= sizeLine /\ ∀ p,H p = none -> Q (.ref p) (upd H p (.lst ys))) \/
 (J.go i H /\ ys.length < sizeLine /\ ∀ x H',J.yld i H x H' -> te (some x :: σ') H' fun y H2=>∃ m',m' < m /\ W (i + 1) m' (ys ++ [y]) H2)
def BW (wi:TI) (is:List Nat) (te:TE):TE:=fun σ H Q=>wi σ H fun J H1=>vp J te (a7 σ is) H1 Q
theorem kB {X:Cx} (hc:X.calm = true):cG X (.builtin "all") (fun xs H Q=>∃ (a:Addr) (bs:List Bool),xs = [.ref a] /\ SqL X.K H a (bs.map V.bl) /\ Q (.bl (bs.all id)) H):=by
 intro pins s σ H xs us Q I r h
 obtain ⟨a,bs,rfl,hS,q⟩:=h
 obtain ⟨u,rfl,ru⟩:=ia r
 cases ru
 obtain ⟨its,rv,p,hz⟩:=I.list hS
 have hlen:its.toArray.size = bs.length:=by rw [List.size_toArray,<- rv.length,List.length_map]
 have hlt:a < s.heap.objs.size:=by obtain ⟨o,e,_⟩:=p.isList; exact Heap.lt_size e
 refine call_all_walk (wpAny_pyIter_list p.isList ?_)
 refine ⟨s.heap.objs.size,_,_,_,_,_,fun i=>bs.getD i true,rfl,Walks.list (A:=X.A.in1) (show X.A.in1.handled = none from I.ok.hd hc) s.heap.objs.size a (Nat.ne_of_lt hlt) its.toArray,⟨⟨_,Heap.get?_push_size _ rfl,rfl,rfl⟩,p.isList.push _⟩,fun i v s' Q' E' hv hQ=>?_,fun h' tk k=>?_⟩
 ·have hv':its[i]? = some v:=by simpa using hv
  have hi:i < its.length:=(List.getElem?_eq_some_iff.mp hv').1
  have hib:i < bs.length:=by have:=rv.length; rw [List.length_map] at this; omega
  obtain ⟨w',e1,e2⟩:=rv.get (i:=i) (x:=.bl bs[i]) (by rw [List.getElem?_map,List.getElem?_eq_getElem hib]; rfl)
  rw [hv'] at e1
  cases e1
  cases e2
  refine wpAny_truthy_bool ?_
  have e3:bs.getD i true = bs[i]:=by rw [List.getD_eq_getElem?_getD,List.getElem?_eq_getElem hib]; rfl
  rw [<- e3]; exact hQ
 ·have e:(List.range its.toArray.size).all (fun i=>bs.getD i true) = bs.all id:=by
   rw [hlen,Bool.eq_iff_iff,List.all_eq_true,List.all_eq_true]
   constructor
   ·intro z b hb
    obtain ⟨i,hi,e⟩:=List.getElem_of_mem hb
    have:=z i (List.mem_range.mpr hi)
    rw [List.getD_eq_getElem?_getD,List.getElem?_eq_getElem hi] at this
    simpa [e] using this
   ·intro z i hi
    have hi':=List.mem_range.mp hi
    rw [List.getD_eq_getElem?_getD,List.getElem?_eq_getElem hi']
    exact z _ (List.getElem_mem hi')
  rw [e]
  exact ⟨.bl (bs.all id),H,I.kept (fun b o eo=>k b o (fun hm=>by
   have:b = s.heap.objs.size:=by simpa using hm
   exact absurd (this ▸ Heap.lt_size eo) (Nat.lt_irrefl _)) (Heap.get?_push_of_some _ eo)),rfl,q⟩
inductive Th where
 | non | bl (b:Bool) | int (i:Int) | str (x:Str) | tup (ts:List Th) | lst (ts:List Th)
mutual
def Has (K:PySem.W.Frag) (H:Hp):Th -> V -> Prop
 | .non,v=>v = .non
 | .bl b,v=>v = .bl b
 | .int i,v=>v = .int i
 | .str x,v=>v = .str x
 | .tup ts,v=>∃ a vs,v = .ref a /\ SqT K H a vs /\ HasL K H ts vs
 | .lst ts,v=>∃ a vs,v = .ref a /\ H a = some (.lst vs) /\ HasL K H ts vs
def HasL (K:PySem.W.Frag) (H:Hp):List Th -> List V -> Prop
 | [],vs=>vs = []
 | t :: ts,vs=>∃ v r,vs = v :: r /\ Has K H t v /\ HasL K H ts r
end
theorem Same.sqt {K:PySem.W.Frag} {H H':Hp} {a:Addr} {xs:List V} (e:Same H H') (h:SqT K H a xs):SqT K H' a xs:=by
 rcases h with (h | ⟨o,h⟩) | h
 ·exact .inl (.inl (e _ _ h))
 ·exact .inl (.inr ⟨o,e _ _ h⟩)
 ·exact .inr h
mutual
theorem Has.mono {K:PySem.W.Frag} {H H':Hp} (s:Same H H'):∀ {t:Th} {v:V},Has K H t v -> Has K H' t v
 | .non,_,h=>h
 | .bl _,_,h=>h
 | .int _,_,h=>h
 | .str _,_,h=>h
 | .tup _,_,⟨a,vs,e,q,r⟩=>⟨a,vs,e,Same.sqt s q,HasL.mono s r⟩
 | .lst _,_,⟨a,vs,e,q,r⟩=>⟨a,vs,e,s _ _ q,HasL.mono s r⟩
theorem HasL.mono {K:PySem.W.Frag} {H H':Hp} (s:Same H H'):∀ {ts:List Th} {vs:List V},HasL K H ts vs -> HasL K H' ts vs
 | [],_,h=>h
 | _ :: _,_,⟨v,r,e,q,z⟩=>⟨v,r,e,Has.mono s q,HasL.mono s z⟩
end
theorem HasL.length {K:PySem.W.Frag} {H:Hp}:∀ {ts:List Th} {vs:List V},HasL K H ts vs -> vs.length = ts.length
 | [],_,h=>by
  have h':_ = []:=h
  rw [h']
  all_goals rfl
 | _ :: _,_,⟨v,r,e,_,z⟩=>by rw [e,List.length_cons,List.length_cons,HasL.length z]
def Th.ty:Th -> String
 | .non=>"NoneType" | .bl _=>"bool" | .int _=>"int" | .str _=>"str" | .tup _=>"tuple" | .lst _=>"list"
def isI (c:String) (t:Th):Bool:=t.ty == c || (t.ty == "bool" && c == "int")
theorem kit_type {K:PySem.W.Frag} {A B:String}:PySem.W.kitOne K (.type A) (.type B) = PySem.W.kitOne [] (.type A) (.type B):=by
 unfold PySem.W.kitOne PySem.W.kitCls PySem.W.subIn
 rfl
theorem xA:∀ c ∈ ["tuple","str","bool","int","list"],∀ n ∈ ["NoneType","bool","int","str","tuple","list"],PySem.W.kitOne [] (.type n) (.type c) = some (n == c || (n == "bool" && c == "int")):=by decide +kernel
theorem uZ (t:Th):t.ty ∈ ["NoneType","bool","int","str","tuple","list"]:=by cases t <;> simp [Th.ty]
theorem dy {c:String} (hc:c ∈ ["tuple","str","bool","int","list"]) (t:Th):PySem.W.kitOne [] (.type t.ty) (.type c) = some (isI c t):=xA c hc t.ty (uZ t)
theorem yk {X:Cx} {c:String} (hc:c ∈ ["tuple","str","bool","int","list"]):cG X (.builtin "isinstance") (fun xs H Q=>∃ x t,xs = [x,.ty c] /\ Has X.K H t x /\ Q (.bl (isI c t)) H):=by
 intro pins s σ H xs us Q I r h
 obtain ⟨x,t,rfl,ht,q⟩:=h
 obtain ⟨u,w',rfl,ru,rw'⟩:=fC r
 cases rw'
 have e:PySem.W.kitOne X.K (.type t.ty) (.type c) = some (isI c t):=kit_type.trans (dy hc t)
 have fin:∀ tk,EP X pins σ Q (.bool (isI c t)) { s with toks:=tk }:=fun tk=>⟨.bl (isI c t),H,I.tok tk,rfl,q⟩
 cases t with
 | non =>
  obtain rfl:x = .non:=ht
  exact aY I ru .non e fin
 | bl b =>
  obtain rfl:x = .bl b:=ht
  exact aY I ru (.bl b) e fin
 | int i =>
  obtain rfl:x = .int i:=ht
  exact aY I ru (.int i) e fin
 | str z =>
  obtain rfl:x = .str z:=ht
  exact aY I ru (.str z) e fin
 | tup ts =>
  obtain ⟨a,vs,rfl,hS,_⟩:=ht
  cases ru
  obtain ⟨its,_,p,_⟩:=I.tuple hS
  obtain ⟨o,h1,h2,_⟩:=p
  exact PySem.W.kia_one PySem.W.kitx_tuple I.kIn ⟨o,h1,h2⟩ e (fun z=>nomatch z) fin
 | lst ts =>
  obtain ⟨a,vs,rfl,hS,_⟩:=ht
  cases ru
  obtain ⟨its,_,p,_⟩:=I.list (SqL.of hS)
  obtain ⟨o,n,h1,h2,_⟩:=p
  exact PySem.W.kia_one PySem.W.kitx_list I.kIn ⟨o,h1,h2⟩ e (fun z=>nomatch z) fin
structure DTab (K:PySem.W.Frag) (w:World) (a:Addr) (T:List (Str × V)):Prop where
 ex:∃ es n,K.lookup a = some ⟨.type "dict",none,.dict es n,#[]⟩ /\ PySem.W.KeysLit w.params es.toList /\ Paired (fun (p:Str × V) (e:DictEntry)=>(∃ t,e.key = .str p.1 t) /\ RelV p.2 e.val) T es.toList
 lo:(a == sysModules) = false
theorem gY {x:Str}:∀ {T:List (Str × V)} {l:List DictEntry},Paired (fun (p:Str × V) (e:DictEntry)=>(∃ t,e.key = .str p.1 t) /\ RelV p.2 e.val) T l -> RelO (T.lookup x) ((l.find? fun d=>Value.isStrOf x d.key).map (·.val))
 | _,_,.nil=>trivial
 | (k,v) :: T,e :: l,.cons ⟨⟨t,h1⟩,h2⟩ r=>by
  have ih:=gY (x:=x) r
  have q:Value.isStrOf x e.key = (x == k):=by
   have h1':e.key = .str k t:=h1
   rw [h1']
   show (k == x) = (x == k)
   by_cases z:x = k
   ·subst z; rfl
   ·rw [beq_false_of_ne z,beq_false_of_ne (Ne.symm z)]
  rw [List.find?_cons,q,List.lookup_cons]
  cases x == k with
  | true=>exact h2
  | false=>exact ih
theorem DTab.map {K:PySem.W.Frag} {w:World} {a:Addr} {T:List (Str × V)} {P:Program} {h:Heap} (D:DTab K w a T) (X:K.In h):∃ f:Str -> Option Value,h.MapOf (strKind P w) a f /\ ∀ x,RelO (T.lookup x) (f x):=by
 obtain ⟨es,n,h1,h2,h3⟩:=D.ex
 refine ⟨_,PySem.W.mapOf_K (prog:=P) X h1 h2,fun x=>?_⟩
 have q:=gY (x:=x) h3
 have e:findBy Value.isStrOf es x = (es.toList.find? fun d=>Value.isStrOf x d.key).map (·.val):=by
  unfold findBy
  rw [<- Array.find?_toList]
 rw [e]; exact q
theorem RelO.some_is {v:V} {o:Option Value} (r:RelO (some v) o):∃ u,o = some u /\ RelV v u:=by
 cases o with
 | none=>exact r.elim
 | some u=>exact ⟨u,rfl,r⟩
theorem RelO.same_some {o:Option V} {u:Option Value} (r:RelO o u):u.isSome = o.isSome:=by
 cases o with
 | none =>
  cases u with
  | none=>rfl
  | some u=>exact r.elim
 | some v =>
  obtain ⟨u,rfl,_⟩:=RelO.some_is r
  rfl
section
variable {X:Cx}
theorem oW:OpR X (compareOp .In) (fun x y H Q=>∃ z a T,x = .str z /\ y = .ref a /\ DTab X.K X.w a T /\ Q (.bl (T.lookup z).isSome) H):=by
 intro pins s σ H x y v u Q I rx ry h
 obtain ⟨z,a,T,rfl,rfl,D,q⟩:=h
 obtain ⟨t,rfl⟩:=rx
 cases ry
 obtain ⟨f,hm,hf⟩:=D.map (P:=X.prog) I.kIn
 refine wpAny_in_of (strKind_is X.prog X.w z t) D.lo hm ?_
 rw [RelO.same_some (hf z)]
 exact ⟨.bl (T.lookup z).isSome,H,I.tok _,rfl,q⟩
theorem pw:IxR X (fun x y H Q=>∃ a z T v,x = .ref a /\ y = .str z /\ DTab X.K X.w a T /\ T.lookup z = some v /\ Q v H):=by
 intro value slice pins s σ H x y v u Q I rx ry h hs
 obtain ⟨a,z,T,r,rfl,rfl,D,l,q⟩:=h
 cases rx
 obtain ⟨t,rfl⟩:=ry
 obtain ⟨f,hm,hf⟩:=D.map (P:=X.prog) I.kIn
 have e:=hf z
 rw [l] at e
 obtain ⟨w',e1,e2⟩:=RelO.some_is e
 exact tail_any hm.typeIs PySem.F.slot_dict_getitem.lookup (wpAny_getItem_of (strKind_is X.prog X.w z t) hm e1 ⟨r,H,I.tok _,e2,q⟩) hs
end
theorem cw {H:Hp} {p:Addr} (h:H p = none) (o:HO):Same H (upd H p o):=fun b u q=>by rw [ab (aG q h)]; exact q
def tH (K:PySem.W.Frag):R2:=fun x y H Q=>∃ a b xs ys,x = .ref a /\ y = .ref b /\ SqT K H a xs /\ SqT K H b ys /\ xs ≠ [] /\ xs.length + ys.length <= sizeLine /\ ∀ v H',Same H H' -> (∃ c,v = .ref c /\ SqT K H' c (xs ++ ys)) -> Q v H'
theorem sQ {X:Cx}:OpR X (binaryOp .Add) (tH X.K):=fun pins s σ H x y v u Q I rx ry h=>by
 obtain ⟨a,b,xs,ys,e1,e2,h1,h2,hx,hz,q⟩:=h
 exact su pins s σ H x y v u Q I rx ry ⟨a,b,xs,ys,e1,e2,h1,h2,hx,hz,fun z=>q _ _ (Same.refl _) ⟨a,rfl,by rw [z,List.append_nil]; exact h1⟩,fun _ p hp=>q _ _ (cw hp _) ⟨p,rfl,SqT.of af⟩⟩
theorem fQ {X:Cx} {x:Str} {T:String} {pos:Pos} (hg:Gl X x) (hm:X.mg x = none) (hv:bootBuiltins x = some (.type T)) (hn:x ≠ "__name__":=by decide) (hd:(x == ("__debug__":Str)) = false:=by decide):PE X (.Name x pos) (tC (.ty T)):=rG (v:=.ty T) hg hm hv rfl hn hd
theorem ji {X:Cx} {x:Str} {a:Addr} {pos:Pos} (hg:Gl X x) (hm:X.mg x = some (.ref a)) (hd:(x == ("__debug__":Str)) = false:=by decide):PE X (.Name x pos) (tC (.ref a)):=qV (v:=.ref a) hg hm rfl hd
mutual
def toD:Th -> PyData
 | .non=>.none
 | .bl b=>.bool b
 | .int i=>.int i
 | .str x=>.str x
 | .tup ts=>.tuple (dN ts)
 | .lst ts=>.list (dN ts)
def dN:List Th -> List PyData
 | []=>[]
 | t :: ts=>toD t :: dN ts
end
section
variable {X:Cx} {pins:List (Addr × Obj)} {σ:L2.St} {H:Hp} {s:Shared}
mutual
theorem Has.reads (I:Inv X pins σ H s):∀ {t:Th} {v:V} {u:Value},Has X.K H t v -> RelV v u -> ∃ as,Reads s.heap u (toD t) as
 | .non,_,u,h,r=>by
  obtain rfl:_ = V.non:=h
  obtain rfl:u = Value.none:=r
  exact ⟨_,.none⟩
 | .bl b,_,u,h,r=>by
  obtain rfl:_ = V.bl b:=h
  obtain rfl:u = Value.bool b:=r
  exact ⟨_,.bool b⟩
 | .int i,_,u,h,r=>by
  obtain rfl:_ = V.int i:=h
  obtain ⟨t,rfl⟩:∃ t,u = Value.int i t:=r
  exact ⟨_,.int i t⟩
 | .str x,_,u,h,r=>by
  obtain rfl:_ = V.str x:=h
  obtain ⟨t,rfl⟩:∃ t,u = Value.str x t:=r
  exact ⟨_,.str x t⟩
 | .tup ts,_,u,⟨a,vs,e,hS,hL⟩,r=>by
  subst e
  obtain rfl:u = Value.ref a:=r
  obtain ⟨its,rv,⟨o,h1,h2,n,h3⟩,_⟩:=I.tuple hS
  obtain ⟨as,ra⟩:=HasL.reads I hL rv
  exact ⟨_,.tuple h1 h2 h3 (by simpa using ra)⟩
 | .lst ts,_,u,⟨a,vs,e,hS,hL⟩,r=>by
  subst e
  obtain rfl:u = Value.ref a:=r
  obtain ⟨its,rv,⟨o,n,h1,h2,_,h3⟩,_⟩:=I.list (SqL.of hS)
  obtain ⟨as,ra⟩:=HasL.reads I hL rv
  exact ⟨_,.list h1 h2 h3 (by simpa using ra)⟩
theorem HasL.reads (I:Inv X pins σ H s):∀ {ts:List Th} {vs:List V} {us:List Value},HasL X.K H ts vs -> Vals vs us -> ∃ as,ReadsAll s.heap us (dN ts) as
 | [],vs,us,h,r=>by
  obtain rfl:vs = []:=h
  cases r
  exact ⟨_,.nil⟩
 | t :: ts,vs,us,⟨v,w',e,h1,h2⟩,r=>by
  subst e
  cases r with
  | cons r1 r2 =>
   obtain ⟨as,ra⟩:=Has.reads I h1 r1
   obtain ⟨bs,rb⟩:=HasL.reads I h2 r2
   exact ⟨_,.cons ra rb⟩
end
end
abbrev fV (t:Th):Prop:=SeqAt.shaped (toD t) = true
theorem jP {X:Cx} (hu:X.A.units + 64 < cLine):OpR X (compareOp .Eq) (fun x y H Q=>∃ t t',Has X.K H t x /\ Has X.K H t' y /\ fV t /\ fV t' /\ Q (.bl (PyData.eqv (toD t) (toD t'))) H):=by
 intro pins s σ H x y v u Q I rx ry h
 obtain ⟨t,t',h1,h2,o1,o2,q⟩:=h
 obtain ⟨as,ra⟩:=Has.reads I h1 rx
 obtain ⟨bs,rb⟩:=Has.reads I h2 ry
 exact PyProof.Rows.eq_dataH ra rb o1 o2 hu ⟨.bl _,H,I,rfl,q⟩
theorem jX {X:Cx} (hu:X.A.units + 64 < cLine):OpR X (compareOp .NotEq) (fun x y H Q=>∃ t t',Has X.K H t x /\ Has X.K H t' y /\ fV t /\ fV t' /\ Q (.bl (!PyData.eqv (toD t) (toD t'))) H):=by
 intro pins s σ H x y v u Q I rx ry h
 obtain ⟨t,t',h1,h2,o1,o2,q⟩:=h
 obtain ⟨as,ra⟩:=Has.reads I h1 rx
 obtain ⟨bs,rb⟩:=Has.reads I h2 ry
 exact PyProof.Rows.ne_dataH ra rb o1 o2 hu ⟨.bl _,H,I,rfl,q⟩
theorem sR {X:Cx} {c1 c2:String} (h1:c1 ∈ ["tuple","str","bool","int","list"]) (h2:c2 ∈ ["tuple","str","bool","int","list"]) :
  cG X (.builtin "isinstance") (fun xs H Q=>∃ x t p,xs = [x,.ref p] /\ SqT X.K H p [.ty c1,.ty c2] /\ Has X.K H t x /\ Q (.bl (isI c1 t || isI c2 t)) H):=by
 intro pins s σ H xs us Q I r h
 obtain ⟨x,t,p,rfl,hp,ht,q⟩:=h
 obtain ⟨u,w',rfl,ru,rw'⟩:=fC r
 cases rw'
 obtain ⟨its,rv,pt,_⟩:=I.tuple hp
 obtain ⟨y1,y2,rfl,r1,r2⟩:=fC rv
 cases r1
 cases r2
 obtain ⟨⟨oc,od,odt,osl⟩,g1,g2,n,g3⟩:=pt
 have g2':oc = .type "tuple":=g2
 have g3':odt = .seq _ n:=g3
 subst g2' g3'
 have e1:PySem.W.kitOne X.K (.type t.ty) (.type c1) = some (isI c1 t):=kit_type.trans (dy h1 t)
 have e2:PySem.W.kitOne X.K (.type t.ty) (.type c2) = some (isI c2 t):=kit_type.trans (dy h2 t)
 have e:PySem.W.kitAny X.K (.type t.ty) [.type c1,.type c2] = some (isI c1 t || isI c2 t):=by
  unfold PySem.W.kitAny
  rw [e1]
  cases isI c1 t with
  | true=>rfl
  | false =>
   unfold PySem.W.kitAny
   rw [e2]
   cases isI c2 t <;> rfl
 have fin:∀ tk,EP X pins σ Q (.bool (isI c1 t || isI c2 t)) { s with toks:=tk }:=fun tk=>⟨.bl _,H,I.tok tk,rfl,q⟩
 cases t with
 | non =>
  obtain rfl:x = .non:=ht
  cases ru
  exact PySem.W.kia_tup PySem.W.kitx_none I.kIn True.intro g1 e (fun z=>nomatch z) fin
 | bl b =>
  obtain rfl:x = .bl b:=ht
  cases ru
  exact PySem.W.kia_tup PySem.W.kitx_bool I.kIn True.intro g1 e (fun z=>nomatch z) fin
 | int i =>
  obtain rfl:x = .int i:=ht
  obtain ⟨t,rfl⟩:=ru
  exact PySem.W.kia_tup PySem.W.kitx_int I.kIn True.intro g1 e (fun z=>nomatch z) fin
 | str z =>
  obtain rfl:x = .str z:=ht
  obtain ⟨t,rfl⟩:=ru
  exact PySem.W.kia_tup PySem.W.kitx_str I.kIn True.intro g1 e (fun z=>nomatch z) fin
 | tup ts =>
  obtain ⟨a,vs,rfl,hS,_⟩:=ht
  cases ru
  obtain ⟨its,_,⟨o,q1,q2,_⟩,_⟩:=I.tuple hS
  exact PySem.W.kia_tup PySem.W.kitx_tuple I.kIn ⟨o,q1,q2⟩ g1 e (fun z=>nomatch z) fin
 | lst ts =>
  obtain ⟨a,vs,rfl,hS,_⟩:=ht
  cases ru
  obtain ⟨its,_,⟨o,n,q1,q2,_⟩,_⟩:=I.list (SqL.of hS)
  exact PySem.W.kia_tup PySem.W.kitx_list I.kIn ⟨o,q1,q2⟩ g1 e (fun z=>nomatch z) fin
section
variable {prog:Program} {w:World} {A:Around} {E:Value -> Shared -> Prop} {s:Shared}
theorem dh {t sl:Addr} {items:Array Value} {vl vu:Value} {lo hi:Option Int} {Q:Value -> Shared -> Prop} (ht:IsTup s.heap t items) (hs:s.heap.IsSliceOf sl vl vu .none) (pl:IsPart vl lo) (pu:IsPart vu hi)
  (hw:HT.sIx items.size 0 lo = 0 /\ HT.sIx items.size items.size hi = items.size) (h:Q (.ref t) s):wpAny (model prog w) A (getItem (.ref t) (.ref sl)) Q E s:=by
 obtain ⟨os,hos,hcs,hds⟩:=id hs
 have hTs:s.TypeIs (.ref sl) "slice":=⟨os,hos,hcs⟩
 unfold getItem
 try with_reducible refine wpAny_holding ?_
 first | refine wpAny_bind (wpAny_pure ?_) | skip
 refine wpAny_bind (wpAny_sequenceKey ht.typeIs (by decide) ?_)
 refine wpAny_bind (wpAny_callSpecial?_slot (name:=Str.ofString "__getitem__") ht.typeIs PyProof.Rows.slot_tuple_getitem
  (wpAny_call_entry PyProof.Rows.slot_tuple_getitem ht.typeIs entry_tuple_getitem ?_ (args_tuple_getitem _ _)))
 show wpAny _ _ (Builtin.Tuple.tupleItemsOf (.ref t) >>= _) _ _ s
 refine wpAny_bind (tupleItemsOf_ ht ?_)
 refine wpAny_bind (wpAny_typeOf hTs ?_)
 rw [if_pos (by decide)]
 refine wpAny_bind (HT.sliceApplied_gen hs pl pu ?_)
 have hyes:(((HT.sIx items.size 0 lo:Nat):Int) == 0 && (1:Int) == 1 && (HT.sIx items.size items.size hi - HT.sIx items.size 0 lo) == items.size) = true:=by
  rw [hw.1,hw.2]
  simp
 show wpAny _ _ (if (((HT.sIx items.size 0 lo:Nat):Int) == 0 && (1:Int) == 1 && (HT.sIx items.size items.size hi - HT.sIx items.size 0 lo) == items.size) = true then _ else _) _ _ s
 rw [if_pos hyes]
 unfold Builtin.Tuple.tupleIsExact
 refine wpAny_bind (wpAny_bind (wpAny_typeOf ht.typeIs (wpAny_pure ?_)))
 rw [if_pos (by decide)]
 first
  | exact wpAny_bind (wpAny_rule (wpAny_pure ⟨_,rfl,wpAny_pure h⟩))
  | exact wpAny_bind (wpAny_rule (wpAny_bind (wpAny_pure (wpAny_pure ⟨_,rfl,wpAny_pure h⟩))))
end
section
variable {X:Cx}
def vn (K:PySem.W.Frag):V -> Option Int -> Option Int -> Hp -> VK -> Prop:=fun x lo hi H Q=>∃ a xs,x = .ref a /\ SqT K H a xs /\ ∀ v H',Same H H' -> (∃ c,v = .ref c /\ SqT K H' c (de xs lo hi)) -> Q v H'
theorem pS:SlR X (vn X.K):=by
 intro pins s σ H x v vl vu lo hi sl Q I rx hs pl pu h
 obtain ⟨a,xs,rfl,hx,q⟩:=h
 by_cases hw:HT.sIx xs.length 0 lo = 0 /\ HT.sIx xs.length xs.length hi = xs.length
 ·cases rx
  obtain ⟨its,r,ht,hz⟩:=I.tuple hx
  have hlen:its.toArray.size = xs.length:=by rw [List.size_toArray]; exact r.length.symm
  refine ⟨"tuple",_,PyProof.Rows.slot_tuple_getitem.lookup,ht.typeIs,?_⟩
  refine dh ht hs pl pu (by rw [hlen]; exact hw) ⟨.ref a,H,I,rfl,q _ _ (Same.refl H) ⟨a,rfl,?_⟩⟩
  have e:de xs lo hi = xs:=by
   unfold de
   rw [hw.1,hw.2]
   simp
  rw [e]
  exact hx
 ·exact xU pins s σ H _ v vl vu lo hi sl Q I rx hs pl pu ⟨a,xs,rfl,hx,hw,fun p hp=>q _ _ (cw hp _) ⟨p,rfl,SqT.of af⟩⟩
def CH:V -> Option Int -> Option Int -> Hp -> VK -> Prop:=fun x lo hi H Q=>∃ z,x = .str z /\ ((Builtin.Str.strSliceIndices lo hi 1 z.length).length == z.length) = true /\ Q (.str z) H
end
def AN (K:PySem.W.Frag) (H:Hp) (F:Addr -> Prop) (a:Addr) (xs:List V):Prop:=(Rd H a (.tup xs) /\ F a) \/
 ∃ (o:Obj) (its:Array Value) (n:Nat),K.lookup a = some o /\ o.cls = .type "tuple" /\ o.data = .seq its n /\ its.size <= sizeLine /\ Vals xs its.toList
mutual
def A8 (K:PySem.W.Frag) (H:Hp) (F:Addr -> Prop):Th -> V -> Prop
 | .non,v=>v = .non
 | .bl b,v=>v = .bl b
 | .int i,v=>v = .int i
 | .str x,v=>v = .str x
 | .tup ts,v=>∃ a vs,v = .ref a /\ AN K H F a vs /\ mY K H F ts vs
 | .lst ts,v=>∃ a vs,v = .ref a /\ (H a = some (.lst vs) /\ F a) /\ mY K H F ts vs
def mY (K:PySem.W.Frag) (H:Hp) (F:Addr -> Prop):List Th -> List V -> Prop
 | [],vs=>vs = []
 | t :: ts,vs=>∃ v r,vs = v :: r /\ A8 K H F t v /\ mY K H F ts r
end
section
variable {K:PySem.W.Frag} {H H':Hp} {F F':Addr -> Prop}
end
def AG (K:PySem.W.Frag):R2:=fun x y H Q=>∃ p xs i v,x = .ref p /\ y = .int i /\ (SqL K H p xs \/ SqT K H p xs) /\ atI xs i = some v /\ Q v H
theorem ix_any {X:Cx}:IxR X (AG X.K):=fun value slice pins s σ H x y v u Q I rx ry h hs=>by
 obtain ⟨p,xs,i,z,e1,e2,hq,ha,q⟩:=h
 rcases hq with hq | hq
 ·exact rH value slice pins s σ H x y v u Q I rx ry ⟨p,xs,i,z,e1,e2,hq,ha,q⟩ hs
 ·exact uA value slice pins s σ H x y v u Q I rx ry ⟨p,xs,i,z,e1,e2,hq,ha,q⟩ hs
def CL (K:PySem.W.Frag):V -> Option Int -> Option Int -> Hp -> VK -> Prop:=fun x lo hi H Q=>∃ a xs,x = .ref a /\ SqT K H a xs /\ (HT.sIx xs.length 0 lo = 0 /\ HT.sIx xs.length xs.length hi = xs.length) /\ Q (.ref a) H
section
variable {K:PySem.W.Frag} {H:Hp} {F:Addr -> Prop}
end
end L3

set_option Elab.async false
set_option linter.all false
set_option maxRecDepth 100000
set_option maxHeartbeats 4000000
namespace L3
open PySem PySem.Spec PySem.Builtin PySem.Builtin.Str PyProof.Rows L2
section
variable {X:Cx}
def BV (K:PySem.W.Frag):V -> List V -> Hp -> VK -> Prop:=fun x vs H Q=>∃ z p ts,x = .str z /\ vs = [.ref p] /\ SqL K H p (ts.map V.str) /\ JoinOk z ts = true /\ Q (.str (PySem.Str.join z ts)) H
def AO:V -> List V -> Hp -> VK -> Prop:=fun x vs H Q=>∃ z y,x = .str z /\ vs = [.str y] /\ (y.length == 0) = false /\ z.length + 2 <= sizeLine /\ ∀ p,H p = none -> Q (.ref p) (upd H p (.lst ((Txt.split z y).map V.str)))
end
end L3

set_option Elab.async false
set_option linter.all false
set_option maxRecDepth 100000
set_option maxHeartbeats 4000000
namespace L3
open PySem PySem.Spec PyProof.Rows L2
def SqO (h:Heap):Bool -> Addr -> Array Value -> Prop
 | true,a,xs=>h.IsTuple a xs
 | false,a,xs=>h.IsList a xs
def ItO (h:Heap):Bool -> Addr -> Addr -> Nat -> Prop
 | true,it,a,n=>h.IsTupleIter it a n
 | false,it,a,n=>h.IsListIter it a n
theorem SqO.at {h h':Heap} {k:Bool} {a:Addr} {xs:Array Value} (x:SqO h k a xs) (e:∀ o,h.get? a = some o -> h'.get? a = some o):SqO h' k a xs:=by
 cases k <;> (obtain ⟨o,ho,r⟩:=x; exact ⟨o,e o ho,r⟩)
theorem ItO.at {h h':Heap} {k:Bool} {it a:Addr} {n:Nat} (x:ItO h k it a n) (e:∀ o,h.get? it = some o -> h'.get? it = some o):ItO h' k it a n:=by
 cases k <;> (obtain ⟨o,ho,r⟩:=x; exact ⟨o,e o ho,r⟩)
theorem ItO.obj {h:Heap} {k:Bool} {it a:Addr} {n:Nat} (x:ItO h k it a n):∃ o,h.get? it = some o /\ ∀ v,o.data ≠ .cell v:=by
 cases k <;> (obtain ⟨o,ho,_,d⟩:=x; exact ⟨o,ho,fun v z=>by rw [d] at z; cases z⟩)
theorem SqO.lt {h:Heap} {k:Bool} {a:Addr} {xs:Array Value} (x:SqO h k a xs):a < h.objs.size:=by
 cases k <;> (obtain ⟨o,ho,_⟩:=x; exact Heap.lt_size ho)
section
variable {prog:Program} {w:World} {A:Around} {E:Value -> Shared -> Prop} {s:Shared}
theorem ju {it t:Addr} {i:Nat} {xs:Array Value} {x:Value} {Q:Value -> Shared -> Prop} (hit:s.heap.IsTupleIter it t i) (ht:s.heap.IsTuple t xs) (hx:xs[i]? = some x)
  (q:∀ h',h'.IsTupleIter it t (i + 1) -> Heap.SameBut it s.heap h' -> Q x { s with heap:=h' }):wpAny (model prog w) A (Builtin.SmallTypes.nextOf (.ref it)) Q E s:=by
 obtain ⟨u,hu,cu,du⟩:=id hit; obtain ⟨v,hv,_,nv,dv⟩:=ht
 unfold Builtin.SmallTypes.nextOf
 refine wpAny_bind (wpAny_callSpecial?_slot (name:=Str.ofString "__next__") hit.typeIs F.slot_tuple_iterator_next (wpAny_call_entry F.slot_tuple_iterator_next hit.typeIs F.entry_tuple_iterator_next ?_ (F.args_tuple_iterator_next_1 _)))
 show wpAny _ _ (field (.ref it) 0 >>= _) _ _ _; refine wpAny_bind (wpAny_field hu du (x:=.ref t) rfl ?_)
 show wpAny _ _ (if (Value.ref t == Value.none) = true then _ else _) _ _ _; rw [if_neg (by intro z; cases z)]
 show wpAny _ _ (field (.ref it) 1 >>= _) _ _ _; refine wpAny_bind (wpAny_field hu du (x:=.int i 0) rfl ?_)
 show wpAny _ _ (seqItems? (.ref t) >>= _) _ _ _; refine wpAny_bind (wpAny_seqItems hv dv ?_)
 simp only [hx,Int.toNat_natCast]
 exact wpAny_bind (wpAny_setField hu du (by simp) (wpAny_pure ⟨x,rfl,wpAny_pure (q _ ⟨_,Heap.get?_update_self _ hu (Obj.isFreed_of_fields (Obj.data_mapFields du _)),(Obj.cls_mapFields ..).trans cu,by rw [Obj.data_mapFields du]; simp [rawInt]⟩ (Heap.SameBut.update ..))⟩))
theorem kU {it t:Addr} {i:Nat} {xs:Array Value} {Q:Value -> Shared -> Prop} (hh:A.handled = none) (hit:s.heap.IsTupleIter it t i) (ht:s.heap.IsTuple t xs) (hx:xs[i]? = none)
  (q:∀ h' e,Heap.ExtBut it s.heap h' -> (∃ o,h'.get? e = some o /\ o.cls = .type "StopIteration") -> E (.ref e) { s with heap:=h' }):wpAny (model prog w) A (Builtin.SmallTypes.nextOf (.ref it)) Q E s:=by
 obtain ⟨u,hu,cu,du⟩:=id hit; obtain ⟨v,hv,_,nv,dv⟩:=ht
 unfold Builtin.SmallTypes.nextOf
 refine wpAny_bind (wpAny_callSpecial?_slot (name:=Str.ofString "__next__") hit.typeIs F.slot_tuple_iterator_next (wpAny_call_entry F.slot_tuple_iterator_next hit.typeIs F.entry_tuple_iterator_next ?_ (F.args_tuple_iterator_next_1 _)))
 show wpAny _ _ (field (.ref it) 0 >>= _) _ _ _; refine wpAny_bind (wpAny_field hu du (x:=.ref t) rfl ?_)
 show wpAny _ _ (if (Value.ref t == Value.none) = true then _ else _) _ _ _; rw [if_neg (by intro z; cases z)]
 show wpAny _ _ (field (.ref it) 1 >>= _) _ _ _; refine wpAny_bind (wpAny_field hu du (x:=.int i 0) rfl ?_)
 show wpAny _ _ (seqItems? (.ref t) >>= _) _ _ _; refine wpAny_bind (wpAny_seqItems hv dv ?_)
 simp only [hx,Int.toNat_natCast]
 refine wpAny_bind (wpAny_rule (wpAny_bind (wpAny_setField hu du (by simp) ?_))); show wpAny _ _ (newExc (.type "StopIteration") [] >>= _) _ _ _
 refine wpAny_bind ?_; simp only [newTuple,newExc]
 refine wpAny_bind (wpAny_newObj_type ?_ (by size_fits)); refine wpAny_bind (m:=firstArgMember _ _) (wpAny_of_eq (a:=Value.none) (by first | rfl | (simp only [firstArgMember]; rfl)) (wpAny_newObj_type ?_ (by size_fits)))
 simp only [raiseNew]
 refine wpAny_bind (wpAny_handled ?_); first | rw [hh] | rw [show A.in1.handled = none from hh]
 exact wpAny_bind (wpAny_pure (wpAny_throw (q _ _ (((Heap.SameBut.update ..).extBut.push _).push _) ⟨_,Heap.get?_push_size _ rfl,rfl⟩)))
theorem aF {k:Bool} {it t:Addr} {i:Nat} {xs:Array Value} {x:Value} {Q:Value -> Shared -> Prop} (hit:ItO s.heap k it t i) (ht:SqO s.heap k t xs) (hx:xs[i]? = some x)
  (q:∀ h',ItO h' k it t (i + 1) -> Heap.SameBut it s.heap h' -> Q x { s with heap:=h' }):wpAny (model prog w) A (Builtin.SmallTypes.nextOf (.ref it)) Q E s:=by
 cases k with
 | false=>exact wpAny_nextOf_list_item (show s.heap.IsListIter it t i from hit) (show s.heap.IsList t xs from ht) hx q
 | true=>exact ju hit ht hx q
theorem a8 {k:Bool} {it t:Addr} {i:Nat} {xs:Array Value} {Q:Value -> Shared -> Prop} (hh:A.handled = none) (hit:ItO s.heap k it t i) (ht:SqO s.heap k t xs) (hx:xs[i]? = none)
  (q:∀ h' e,Heap.ExtBut it s.heap h' -> (∃ o,h'.get? e = some o /\ o.cls = .type "StopIteration") -> E (.ref e) { s with heap:=h' }):wpAny (model prog w) A (Builtin.SmallTypes.nextOf (.ref it)) Q E s:=by
 cases k with
 | false=>exact wpAny_nextOf_list_end hh (show s.heap.IsListIter it t i from hit) (show s.heap.IsList t xs from ht) hx q
 | true=>exact kU hh hit ht hx q
theorem lV {z TI TO i1 i2 a1 a2:Addr} {k1 k2:Bool} {n m:Nat} {xs ys:Array Value} {x y a b:Value} {Q:Value -> Shared -> Prop} (D:ZipApart z TI TO i1 i2 a1 a2)
  (hz:IsZip s.heap z TI TO .none) (hI:IsPair s.heap TI (.ref i1) (.ref i2)) (hO:IsPair s.heap TO a b) (h1:ItO s.heap k1 i1 a1 n) (h2:ItO s.heap k2 i2 a2 m) (q1:SqO s.heap k1 a1 xs) (q2:SqO s.heap k2 a2 ys) (hx:xs[n]? = some x) (hy:ys[m]? = some y)
  (q:∀ h',IsZip h' z TI TO (rawInt s.heap.objs.size) -> IsPair h' TO x y -> ItO h' k1 i1 a1 (n + 1) -> ItO h' k2 i2 a2 (m + 1) -> IsPair h' s.heap.objs.size x y -> h'.objs.size = s.heap.objs.size + 1 ->
   (∀ c o,c ≠ z -> c ≠ TO -> c ≠ i1 -> c ≠ i2 -> s.heap.get? c = some o -> h'.get? c = some o) -> Q (.ref s.heap.objs.size) { s with heap:=h' }) :
  wpAny (model prog w) A (Builtin.«zip.__next__» ⟨[.ref z],[]⟩) (fun fin s'=>∃ v,fin = .done (.ret v) /\ Q v s') E s:=by
 show wpAny _ _ (field (.ref z) 2 >>= _) _ _ _; refine wpAny_bind (wpAny_field hz rfl (x:=.bool false) rfl ?_)
 show wpAny _ _ (field (.ref z) 3 >>= _) _ _ _; refine wpAny_bind (wpAny_field hz rfl (x:=.ref TI) rfl (wpAny_bind (wpAny_seqItems hI rfl ?_)))
 show wpAny _ _ (Builtin.SmallTypes.ownedTupleIsFree (.ref z) >>= _) _ _ _; refine wpAny_bind ?_
 unfold Builtin.SmallTypes.ownedTupleIsFree
 refine wpAny_bind (wpAny_field hz rfl (x:=.none) rfl (wpAny_pure ?_)); simp only [if_true]
 refine wpAny_bind (wpAny_rule (wpAny_bind (wpAny_field hz rfl (x:=.ref TO) rfl (wpAny_bind (wpAny_setField_rec hz (by simp) fun g1 z1 s1=>?_)))))
 replace z1:IsZip g1 z TI TO .ellipsis:=z1
 refine wpAny_bind ?_; simp only [List.forIn_cons,List.forIn_nil,List.zipIdx_cons,List.zipIdx_nil]
 refine wpAny_bind (wpAny_bind (wpAny_onRaise ?_)); show wpAny _ _ (Builtin.SmallTypes.nextOf (.ref i1) >>= _) _ _ _
 refine wpAny_bind (aF (h1.at fun o e=>s1.extBut _ _ D.i1z e) (q1.at fun o e=>s1.extBut _ _ D.l1z e) hx fun g2 r2 s2=>wpAny_pure ?_)
 have p2:IsPair g2 TO a b:=s2.extBut _ _ D.TOi1 (s1.extBut _ _ D.TOz hO)
 refine wpAny_bind (wpAny_seqItems p2 rfl (wpAny_bind (wpAny_updateSeq_pair p2 fun g3 p3 s3=>wpAny_bind (wpAny_letGo (wpAny_pure ?_)))))
 replace p3:IsPair g3 TO x b:=p3
 refine wpAny_bind (wpAny_bind (wpAny_onRaise ?_)); show wpAny _ _ (Builtin.SmallTypes.nextOf (.ref i2) >>= _) _ _ _
 refine wpAny_bind (aF (h2.at fun o e=>s3.extBut _ _ D.TOi2.symm (s2.extBut _ _ D.i12.symm (s1.extBut _ _ D.i2z e))) (q2.at fun o e=>s3.extBut _ _ D.l2TO (s2.extBut _ _ D.l2i1 (s1.extBut _ _ D.l2z e))) hy fun g4 r4 s4=>wpAny_pure ?_)
 have p4:IsPair g4 TO x b:=s4.extBut _ _ D.TOi2 p3
 refine wpAny_bind (wpAny_seqItems p4 rfl (wpAny_bind (wpAny_updateSeq_pair p4 fun g5 p5 s5=>wpAny_bind (wpAny_letGo (wpAny_pure (wpAny_pure ?_))))))
 replace p5:IsPair g5 TO x y:=p5
 refine wpAny_bind (wpAny_seqItems p5 rfl (wpAny_bind (wpAny_newTuple ?_)))
 have sz:g5.objs.size = s.heap.objs.size:=by rw [s5.1,s4.1,s3.1,s2.1,s1.1]
 have z5:IsZip g5 z TI TO .ellipsis:=s5.extBut _ _ D.TOz.symm (s4.extBut _ _ D.i2z.symm (s3.extBut _ _ D.TOz.symm (s2.extBut _ _ D.i1z.symm z1)))
 have k5:∀ c o,c ≠ z -> c ≠ TO -> c ≠ i1 -> c ≠ i2 -> s.heap.get? c = some o -> g5.get? c = some o:=fun c o n1 n2 n3 n4 e=>s5.extBut _ _ n2 (s4.extBut _ _ n4 (s3.extBut _ _ n2 (s2.extBut _ _ n3 (s1.extBut _ _ n1 e))))
 have r5:ItO g5 k1 i1 a1 (n + 1):=r2.at fun o e=>s5.extBut _ _ D.TOi1.symm (s4.extBut _ _ D.i12 (s3.extBut _ _ D.TOi1.symm e))
 have t5:ItO g5 k2 i2 a2 (m + 1):=r4.at fun o e=>s5.extBut _ _ D.TOi2.symm e
 have zlt:z < g5.objs.size:=Heap.lt_size z5
 show wpAny _ _ (Builtin.SmallTypes.ownedTupleHandOut (.ref z) (.ref g5.objs.size) >>= _) _ _ _; refine wpAny_bind ?_
 unfold Builtin.SmallTypes.ownedTupleHandOut
 have z6:IsZip (g5.push { cls:=.type "tuple",data:=.seq #[x,y] }) z TI TO .ellipsis:=Heap.get?_push_of_some _ z5
 refine wpAny_bind (wpAny_setField_rec z6 (by simp) fun g7 z7 s7=>?_)
 replace z7:IsZip g7 z TI TO (rawInt g5.objs.size):=z7
 refine wpAny_setField_rec z7 (by simp) fun g8 z8 s8=>?_
 replace z8:IsZip g8 z TI TO (rawInt g5.objs.size):=z8
 have up:∀ c o,c ≠ z -> g5.get? c = some o -> g8.get? c = some o:=fun c o n1 e=>s8.extBut _ _ n1 (s7.extBut _ _ n1 (Heap.get?_push_of_some _ e))
 have p8:IsPair g8 g5.objs.size x y:=s8.extBut _ _ (Nat.ne_of_gt zlt) (s7.extBut _ _ (Nat.ne_of_gt zlt) (Heap.get?_push_size _ rfl))
 have e8:g8.objs.size = g5.objs.size + 1:=by rw [s8.1,s7.1,Heap.size_push]
 rw [sz] at z8 p8 e8
 refine wpAny_pure ⟨_,rfl,?_⟩
 show Q (.ref g5.objs.size) _
 rw [sz]
 exact q g8 z8 (up _ _ D.TOz p5) (r5.at fun o e=>up _ o D.i1z e) (t5.at fun o e=>up _ o D.i2z e) p8 e8 fun c o n1 n2 n3 n4 e=>up c o n1 (k5 c o n1 n2 n3 n4 e)
theorem mn {z TI TO i1 i2 a1 a2:Addr} {k1 k2:Bool} {n m:Nat} {xs ys:Array Value} {a b:Value} {Q:Fin -> Shared -> Prop} (hh:A.handled = none) (D:ZipApart z TI TO i1 i2 a1 a2)
  (hz:IsZip s.heap z TI TO .none) (hI:IsPair s.heap TI (.ref i1) (.ref i2)) (hO:IsPair s.heap TO a b) (h1:ItO s.heap k1 i1 a1 n) (h2:ItO s.heap k2 i2 a2 m) (q1:SqO s.heap k1 a1 xs) (q2:SqO s.heap k2 a2 ys) (hend:xs[n]? = none \/ ys[m]? = none)
  (q:∀ h' e,(∀ c o,c ≠ z -> c ≠ TO -> c ≠ i1 -> c ≠ i2 -> s.heap.get? c = some o -> h'.get? c = some o) -> (∃ o,h'.get? e = some o /\ o.cls = .type "StopIteration") -> E (.ref e) { s with heap:=h' }) :
  wpAny (model prog w) A (Builtin.«zip.__next__» ⟨[.ref z],[]⟩) Q E s:=by
 show wpAny _ _ (field (.ref z) 2 >>= _) _ _ _; refine wpAny_bind (wpAny_field hz rfl (x:=.bool false) rfl ?_)
 show wpAny _ _ (field (.ref z) 3 >>= _) _ _ _; refine wpAny_bind (wpAny_field hz rfl (x:=.ref TI) rfl (wpAny_bind (wpAny_seqItems hI rfl ?_)))
 show wpAny _ _ (Builtin.SmallTypes.ownedTupleIsFree (.ref z) >>= _) _ _ _; refine wpAny_bind ?_
 unfold Builtin.SmallTypes.ownedTupleIsFree
 refine wpAny_bind (wpAny_field hz rfl (x:=.none) rfl (wpAny_pure ?_)); simp only [if_true]
 refine wpAny_bind (wpAny_rule (wpAny_bind (wpAny_field hz rfl (x:=.ref TO) rfl (wpAny_bind (wpAny_setField_rec hz (by simp) fun g1 z1 s1=>?_)))))
 replace z1:IsZip g1 z TI TO .ellipsis:=z1
 refine wpAny_bind ?_; simp only [List.forIn_cons,List.forIn_nil,List.zipIdx_cons,List.zipIdx_nil]
 refine wpAny_bind (wpAny_bind (wpAny_onRaise ?_)); show wpAny _ _ (Builtin.SmallTypes.nextOf (.ref i1) >>= _) _ _ _
 cases hx:xs[n]? with
 | none =>
  refine wpAny_bind (a8 hh (h1.at fun o e=>s1.extBut _ _ D.i1z e) (q1.at fun o e=>s1.extBut _ _ D.l1z e) hx fun g2 e s2 he=>?_)
  obtain ⟨oe,ho,ce⟩:=he
  have z2:IsZip g2 z TI TO .ellipsis:=s2 _ _ D.i1z.symm z1
  have ez:e ≠ z:=fun y=>by subst y; rw [z2] at ho; cases ho; simp at ce
  exact wpAny_setField_rec z2 (by simp) fun g3 _ s3=>q g3 e (fun c o n1 _ n3 _ y=>s3.extBut _ _ n1 (s2 _ _ n3 (s1.extBut _ _ n1 y))) ⟨oe,s3.extBut _ _ ez ho,ce⟩
 | some x =>
  have hy:ys[m]? = none:=hend.elim (fun y=>by rw [hx] at y; cases y) id
  refine wpAny_bind (aF (h1.at fun o e=>s1.extBut _ _ D.i1z e) (q1.at fun o e=>s1.extBut _ _ D.l1z e) hx fun g2 r2 s2=>wpAny_pure ?_)
  have p2:IsPair g2 TO a b:=s2.extBut _ _ D.TOi1 (s1.extBut _ _ D.TOz hO)
  refine wpAny_bind (wpAny_seqItems p2 rfl (wpAny_bind (wpAny_updateSeq_pair p2 fun g3 p3 s3=>wpAny_bind (wpAny_letGo (wpAny_pure ?_)))))
  refine wpAny_bind (wpAny_bind (wpAny_onRaise ?_)); show wpAny _ _ (Builtin.SmallTypes.nextOf (.ref i2) >>= _) _ _ _
  refine wpAny_bind (a8 hh (h2.at fun o e=>s3.extBut _ _ D.TOi2.symm (s2.extBut _ _ D.i12.symm (s1.extBut _ _ D.i2z e))) (q2.at fun o e=>s3.extBut _ _ D.l2TO (s2.extBut _ _ D.l2i1 (s1.extBut _ _ D.l2z e))) hy fun g4 e s4 he=>?_)
  obtain ⟨oe,ho,ce⟩:=he
  have z4:IsZip g4 z TI TO .ellipsis:=s4 _ _ D.i2z.symm (s3.extBut _ _ D.TOz.symm (s2.extBut _ _ D.i1z.symm z1))
  have ez:e ≠ z:=fun y=>by subst y; rw [z4] at ho; cases ho; simp at ce
  exact wpAny_setField_rec z4 (by simp) fun g5 _ s5=>q g5 e (fun c o n1 n2 n3 n4 y=>s5.extBut _ _ n1 (s4 _ _ n4 (s3.extBut _ _ n2 (s2.extBut _ _ n3 (s1.extBut _ _ n1 y))))) ⟨oe,s5.extBut _ _ ez ho,ce⟩
theorem eL {z TI TO i1 i2 a1 a2:Addr} {k1 k2:Bool} {n m:Nat} {xs ys:Array Value} {x y a b:Value} {Q:Option Value -> Shared -> Prop} (D:ZipApart z TI TO i1 i2 a1 a2)
  (hz:IsZip s.heap z TI TO .none) (hI:IsPair s.heap TI (.ref i1) (.ref i2)) (hO:IsPair s.heap TO a b) (h1:ItO s.heap k1 i1 a1 n) (h2:ItO s.heap k2 i2 a2 m) (q1:SqO s.heap k1 a1 xs) (q2:SqO s.heap k2 a2 ys) (hx:xs[n]? = some x) (hy:ys[m]? = some y)
  (q:∀ h',IsZip h' z TI TO (rawInt s.heap.objs.size) -> IsPair h' TO x y -> ItO h' k1 i1 a1 (n + 1) -> ItO h' k2 i2 a2 (m + 1) -> IsPair h' s.heap.objs.size x y -> h'.objs.size = s.heap.objs.size + 1 ->
   (∀ c o,c ≠ z -> c ≠ TO -> c ≠ i1 -> c ≠ i2 -> s.heap.get? c = some o -> h'.get? c = some o) -> Q (some (.ref s.heap.objs.size)) { s with heap:=h' }):wpAny (model prog w) A (pyNext (.ref z)) Q E s:=by
 have hT:s.TypeIs (.ref z) "zip":=⟨_,hz,rfl⟩
 unfold pyNext
 exact wpAny_bind (wpAny_attempt (wpAny_callSpecial?_slot (name:=Str.ofString "__next__") hT F.slot_zip_next (wpAny_call_entry F.slot_zip_next hT F.entry_zip_next (lV D hz hI hO h1 h2 q1 q2 hx hy fun h' y1 y2 y3 y4 y5 y6 y7=>wpAny_pure (q h' y1 y2 y3 y4 y5 y6 y7)) (F.args_zip_next_1 _))))
theorem fK {z TI TO i1 i2 a1 a2:Addr} {k1 k2:Bool} {n m:Nat} {xs ys:Array Value} {a b:Value} {Q:Option Value -> Shared -> Prop} (hh:A.handled = none) (D:ZipApart z TI TO i1 i2 a1 a2)
  (hz:IsZip s.heap z TI TO .none) (hI:IsPair s.heap TI (.ref i1) (.ref i2)) (hO:IsPair s.heap TO a b) (h1:ItO s.heap k1 i1 a1 n) (h2:ItO s.heap k2 i2 a2 m) (q1:SqO s.heap k1 a1 xs) (q2:SqO s.heap k2 a2 ys) (hend:xs[n]? = none \/ ys[m]? = none)
  (q:∀ h',(∀ c o,c ≠ z -> c ≠ TO -> c ≠ i1 -> c ≠ i2 -> s.heap.get? c = some o -> h'.get? c = some o) -> Q none { s with heap:=h' }):wpAny (model prog w) A (pyNext (.ref z)) Q E s:=by
 have hT:s.TypeIs (.ref z) "zip":=⟨_,hz,rfl⟩
 unfold pyNext
 refine wpAny_bind (wpAny_attempt (wpAny_callSpecial?_slot (name:=Str.ofString "__next__") hT F.slot_zip_next (wpAny_call_entry F.slot_zip_next hT F.entry_zip_next (mn hh D hz hI hO h1 h2 q1 q2 hend fun h' e hk he=>?_) (F.args_zip_next_1 _))))
 obtain ⟨o,ho,hc⟩:=he
 exact wpAny_bind (wpAny_isInstance (T:="StopIteration") (b:=true) ⟨o,ho,hc⟩ isSubtype_stop (wpAny_pure (q _ hk)))
end
def dG (k:Bool) (a:Addr):Obj:=match k with
 | true=>{ cls:=.type "tuple_iterator",data:=.fields #[.ref a,.int 0 0] }
 | false=>{ cls:=.type "list_iterator",data:=.fields #[.ref a,.int 0 0] }
abbrev zO1 (h:Heap) (k1:Bool) (a1:Addr):Heap:=h.push (dG k1 a1)
abbrev zO2 (h:Heap) (k1 k2:Bool) (a1 a2:Addr):Heap:=(zO1 h k1 a1).push (dG k2 a2)
abbrev zO3 (h:Heap) (k1 k2:Bool) (a1 a2:Addr):Heap:=(zO2 h k1 k2 a1 a2).push { cls:=.type "tuple",data:=.seq #[.ref h.objs.size,.ref (zO1 h k1 a1).objs.size] }
abbrev zO4 (h:Heap) (k1 k2:Bool) (a1 a2:Addr):Heap:=(zO3 h k1 k2 a1 a2).push { cls:=.type "tuple",data:=.seq #[.none,.none] }
abbrev zO5 (h:Heap) (k1 k2:Bool) (a1 a2:Addr):Heap:=(zO4 h k1 k2 a1 a2).push { cls:=.type "zip",data:=.fields #[.none,.bool false,.bool false,.ref (zO2 h k1 k2 a1 a2).objs.size,.ref (zO3 h k1 k2 a1 a2).objs.size] }
theorem jq (k1 k2:Bool) (a1 a2:Addr) (xs ys:Array Value) :
  Meets (Builtin.«zip.__new__» ⟨[.type "zip",.ref a1,.ref a2],[]⟩) (fun _ R s=>SqO s.heap k1 a1 xs /\ SqO s.heap k2 a2 ys /\ R (.ok (.ret (.ref (zO4 s.heap k1 k2 a1 a2).objs.size))) { s with heap:=zO5 s.heap k1 k2 a1 a2 }) :=
 .of_wp fun prog w A R s h=>by
  obtain ⟨hp,g,d,tk,os⟩:=s; obtain ⟨q1,q2,h⟩:=h
  have hsub:=sub_zip
  cases k1 <;> cases k2
  ·have e1:Heap.IsList (Shared.heap ⟨hp,g,d,tk,os⟩) a1 xs:=q1
   have e2:Heap.IsList (Shared.heap ⟨hp.push { cls:=.type "list_iterator",data:=.fields #[.ref a1,.int 0 0] },g,d,tk,os⟩) a2 ys:=Heap.IsList.push q2 _
   wp_walk using wpAny_pyIter_list e1,wpAny_pyIter_list e2
   exact ⟨_,rfl,h⟩
  ·have e1:Heap.IsList (Shared.heap ⟨hp,g,d,tk,os⟩) a1 xs:=q1
   have e2:Heap.IsTuple (Shared.heap ⟨hp.push { cls:=.type "list_iterator",data:=.fields #[.ref a1,.int 0 0] },g,d,tk,os⟩) a2 ys:=Heap.IsTuple.push q2 _
   wp_walk using wpAny_pyIter_list e1,wpAny_pyIter_tuple e2
   exact ⟨_,rfl,h⟩
  ·have e1:Heap.IsTuple (Shared.heap ⟨hp,g,d,tk,os⟩) a1 xs:=q1
   have e2:Heap.IsList (Shared.heap ⟨hp.push { cls:=.type "tuple_iterator",data:=.fields #[.ref a1,.int 0 0] },g,d,tk,os⟩) a2 ys:=Heap.IsList.push q2 _
   wp_walk using wpAny_pyIter_tuple e1,wpAny_pyIter_list e2
   exact ⟨_,rfl,h⟩
  ·have e1:Heap.IsTuple (Shared.heap ⟨hp,g,d,tk,os⟩) a1 xs:=q1
   have e2:Heap.IsTuple (Shared.heap ⟨hp.push { cls:=.type "tuple_iterator",data:=.fields #[.ref a1,.int 0 0] },g,d,tk,os⟩) a2 ys:=Heap.IsTuple.push q2 _
   wp_walk using wpAny_pyIter_tuple e1,wpAny_pyIter_tuple e2
   exact ⟨_,rfl,h⟩
theorem c8 {h:Heap} {k:Bool} {it a:Addr} (e:h.get? it = some (dG k a)):ItO h k it a 0:=by
 cases k <;> exact ⟨_,e,rfl,rfl⟩
theorem bW (k:Bool) (a:Addr):(dG k a).isFreed = false:=by cases k <;> rfl
section
variable {prog:Program} {w:World} {A:Around} {E:Value -> Shared -> Prop} {s:Shared}
theorem jI {k1 k2:Bool} {a1 a2:Addr} {xs ys:Array Value} {Q:Value -> Shared -> Prop} (q1:SqO s.heap k1 a1 xs) (q2:SqO s.heap k2 a2 ys)
  (h:∀ h',IsZip h' (s.heap.objs.size + 4) (s.heap.objs.size + 2) (s.heap.objs.size + 3) .none -> IsPair h' (s.heap.objs.size + 2) (.ref s.heap.objs.size) (.ref (s.heap.objs.size + 1)) ->
   IsPair h' (s.heap.objs.size + 3) .none .none -> ItO h' k1 s.heap.objs.size a1 0 -> ItO h' k2 (s.heap.objs.size + 1) a2 0 -> (∀ c o,s.heap.get? c = some o -> h'.get? c = some o) -> Q (.ref (s.heap.objs.size + 4)) { s with heap:=h' }) :
  wpAny (model prog w) A (call (.type "zip") [.ref a1,.ref a2]) Q E s:=by
 refine callType_new F.called_zip (by decide) (F.typeCall_zip_2 _ _) (F.newCall_zip_2 _ _) (fun obj=>F.args_object_init_3 obj _ _) F.entry_zip_new (jq k1 k2 a1 a2 xs ys) ⟨q1,q2,?_⟩
 have e1:(zO1 s.heap k1 a1).objs.size = s.heap.objs.size + 1:=Heap.size_push ..
 have e2:(zO2 s.heap k1 k2 a1 a2).objs.size = s.heap.objs.size + 2:=by rw [Heap.size_push,e1]
 have e3:(zO3 s.heap k1 k2 a1 a2).objs.size = s.heap.objs.size + 3:=by rw [Heap.size_push,e2]
 have e4:(zO4 s.heap k1 k2 a1 a2).objs.size = s.heap.objs.size + 4:=by rw [Heap.size_push,e3]
 have g5:(zO5 s.heap k1 k2 a1 a2).get? (zO4 s.heap k1 k2 a1 a2).objs.size = some _:=Heap.get?_push_size _ rfl
 have g4:(zO5 s.heap k1 k2 a1 a2).get? (zO3 s.heap k1 k2 a1 a2).objs.size = some _:=Heap.get?_push_of_some _ (Heap.get?_push_size _ rfl)
 have g3:(zO5 s.heap k1 k2 a1 a2).get? (zO2 s.heap k1 k2 a1 a2).objs.size = some _:=Heap.get?_push_of_some _ (Heap.get?_push_of_some _ (Heap.get?_push_size _ rfl))
 have g2:(zO5 s.heap k1 k2 a1 a2).get? (zO1 s.heap k1 a1).objs.size = some (dG k2 a2):=Heap.get?_push_of_some _ (Heap.get?_push_of_some _ (Heap.get?_push_of_some _ (Heap.get?_push_size _ (bW k2 a2))))
 have g1:(zO5 s.heap k1 k2 a1 a2).get? s.heap.objs.size = some (dG k1 a1):=Heap.get?_push_of_some _ (Heap.get?_push_of_some _ (Heap.get?_push_of_some _ (Heap.get?_push_of_some _ (Heap.get?_push_size _ (bW k1 a1)))))
 show _ /\ _
 rw [e2,e3,e4] at g5
 rw [e1,e2] at g3
 rw [e3] at g4
 rw [e1] at g2
 rw [e4]
 exact ⟨⟨_,g5,rfl⟩,h _ g5 g3 g4 (c8 g1) (c8 g2) fun c o x=>Heap.get?_push_of_some _ (Heap.get?_push_of_some _ (Heap.get?_push_of_some _ (Heap.get?_push_of_some _ (Heap.get?_push_of_some _ x))))⟩
end
end L3
namespace L3
open PySem PySem.Spec PyProof.Rows L2
def Sq (K:PySem.W.Frag) (H:Hp):Bool -> Addr -> List V -> Prop
 | true,a,xs=>SqT K H a xs
 | false,a,xs=>SqL K H a xs
section
variable {X:Cx} {pins:List (Addr × Obj)} {σ:L2.St} {H:Hp} {s:Shared}
theorem hX (I:Inv X pins σ H s) {k:Bool} {a:Addr} {xs:List V} (h:Sq X.K H k a xs):∃ its:List Value,Vals xs its /\ SqO s.heap k a its.toArray /\ xs.length <= sizeLine:=by
 cases k with
 | true=>obtain ⟨its,r,p,z⟩:=I.tuple h; exact ⟨its,r,p,z⟩
 | false=>obtain ⟨its,r,p,z⟩:=I.list h; exact ⟨its,r,p.isList,z⟩
theorem kx (I:Inv X pins σ H s) {k:Bool} {a:Addr} {xs ys:List V} (h:Sq X.K H k a xs) (h':Sq X.K H k a ys):xs = ys:=by
 cases k with
 | true=>exact I.tuple_inj h h'
 | false=>exact I.list_inj h h'
theorem ff {h':Heap} {ch:List Addr} (I:Inv X pins σ H s) (hf:∀ b ∈ ch,H b = none) (k:∀ b o,b ∉ ch -> s.heap.get? b = some o -> h'.get? b = some o):HOk X.prog X.w H h':=fun b u e=>by
 have nit:∀ b u,H b = some u -> b ∉ ch:=fun b u e z=>by rw [hf b z] at e; cases e
 refine (I.hok b u e).stay (fun c v hc q=>k c v ?_ q) (fun _ q=>q) fun _ _ q=>q
 rcases hc with z | z
 ·rw [z]; exact nit b u e
 ·exact nit c _ z
theorem eg {h':Heap} {t':Nat} {ch:List Addr} (I:Inv X pins σ H s) (hf:∀ b ∈ ch,eS X pins H b) (k:∀ b o,b ∉ ch -> s.heap.get? b = some o -> h'.get? b = some o):Inv X pins σ H { s with heap:=h',toks:=t' }:=by
 refine I.step (g':=s.gens) (d':=s.drawn) (ch:=ch) (fun b hb=>⟨(hf b hb).2.2.2.1,(hf b hb).2.1,(hf b hb).2.2.2.2.1,(hf b hb).2.2.2.2.2⟩) (fun b o _ _ hc e _=>k b o hc e) (fun b o _ _ hc e _=>⟨o.slots,k b o hc e⟩) (fun _ _ _ _ n=>n)
  (fun b o hc e=>⟨o,k b o hc e⟩) (fun _ _ e=>e) (fun _ _ _ e=>e) (fun b ps e=>⟨#[],by rw [e]; simp⟩) (fun m hm=>?_) (ff I (fun b hb=>(hf b hb).1) k) I.bare
 obtain ⟨o,es,ep,ho,r⟩:=hm
 exact ⟨o,es,ep,k _ o (fun z=>(hf _ z).2.1 rfl) ho,r⟩
theorem b9 {h':Heap} {t':Nat} {ch:List Addr} {a:Addr} {ys:List V} {its:List Value} (I:Inv X pins σ H s) (hf:∀ b ∈ ch,eS X pins H b) (k:∀ b o,b ∉ ch -> s.heap.get? b = some o -> h'.get? b = some o)
  (ha:s.heap.objs.size <= a) (hz:ys.length <= sizeLine) (hv:Vals ys its) (ht:IsTup h' a its.toArray):Inv X pins σ (upd H a (.tup ys)) { s with heap:=h',toks:=t' }:=by
 have fr:H a = none:=I.hok.fresh ha
 have na:∀ b o,s.heap.get? b = some o -> b ≠ a:=fun b o e=>Nat.ne_of_lt (Nat.lt_of_lt_of_le (Heap.lt_size e) ha)
 refine I.step (g':=s.gens) (d':=s.drawn) (ch:=ch) (fun b hb=>⟨(hf b hb).2.2.2.1,(hf b hb).2.1,(hf b hb).2.2.2.2.1,(hf b hb).2.2.2.2.2⟩) (fun b o _ _ hc e _=>k b o hc e) (fun b o _ _ hc e _=>⟨o.slots,k b o hc e⟩) (fun b o _ e n=>by rw [ab (na b o e)]; exact n)
  (fun b o hc e=>⟨o,k b o hc e⟩) (fun b u e=>by rw [ab (aG e fr)]; exact e) (fun b o u e=>by rw [ab (aG e fr)]; exact e) (fun b ps e=>⟨#[],by rw [ab (aG e fr),e]; simp⟩) (fun m hm=>?_)
  (fI (ff I (fun b hb=>(hf b hb).1) k) fr ⟨hz,its,hv,ht⟩) I.bare
 obtain ⟨o,es,ep,ho,r⟩:=hm
 exact ⟨o,es,ep,k _ o (fun z=>(hf _ z).2.1 rfl) ho,r⟩
end
def Itz (K:PySem.W.Frag) (k1 k2:Bool) (a1 a2:Addr):It :=
 ⟨fun i H=>∃ xs ys x y,Sq K H k1 a1 xs /\ Sq K H k2 a2 ys /\ xs[i]? = some x /\ ys[i]? = some y,
  fun i H v H'=>∃ p x y,v = .ref p /\ H p = none /\ H' = upd H p (.tup [x,y]) /\ (∀ xs,Sq K H k1 a1 xs -> xs[i]? = some x) /\ ∀ ys,Sq K H k2 a2 ys -> ys[i]? = some y,
  fun i H=>∃ xs ys,Sq K H k1 a1 xs /\ Sq K H k2 a2 ys /\ (xs.length <= i \/ ys.length <= i)⟩
def ZSt (z TI TO i1 i2:Addr) (k1 k2:Bool) (a1 a2:Addr) (i:Nat) (h:Heap):Prop :=
 IsZip h z TI TO .none /\ IsPair h TI (.ref i1) (.ref i2) /\ (∃ a b,IsPair h TO a b) /\ ItO h k1 i1 a1 i /\ ItO h k2 i2 a2 i
theorem oq {P:Program} {w:World} {K:PySem.W.Frag} {es:List Expr} {kt:Nat} {pt:Pos} {z TI TO i1 i2 a1 a2:Addr} {k1 k2:Bool} (D:ZipApart z TI TO i1 i2 a1 a2) :
  ly P w K (.Tuple es kt pt) (Itz K k1 k2 a1 a2) [z,TI,TO,i1,i2] z (ZSt z TI TO i1 i2 k1 k2 a1 a2) where
 mem:=by simp
 obj:=fun i h st b hb=>by
  obtain ⟨q1,q2,⟨a,c,q3⟩,q4,q5⟩:=st
  simp only [List.mem_cons,List.not_mem_nil,or_false] at hb
  rcases hb with rfl | rfl | rfl | rfl | rfl
  ·exact ⟨_,q1,fun v y=>by cases y⟩
  ·exact ⟨_,q2,fun v y=>by cases y⟩
  ·exact ⟨_,q3,fun v y=>by cases y⟩
  ·exact q4.obj
  ·exact q5.obj
 keep:=fun i h h' st k=>by
  obtain ⟨q1,q2,⟨a,c,q3⟩,q4,q5⟩:=st
  exact ⟨k z (by simp) _ q1,k TI (by simp) _ q2,⟨a,c,k TO (by simp) _ q3⟩,q4.at fun o e=>k i1 (by simp) o e,q5.at fun o e=>k i2 (by simp) o e⟩
 item:=by
  intro X hP hw hK hc i pins s σ H E I hf st hg
  subst hP hw hK
  obtain ⟨xs,ys,x,y,s1,s2,hx,hy⟩:=hg
  obtain ⟨q1,q2,⟨a,c,q3⟩,q4,q5⟩:=st
  obtain ⟨its1,v1,o1,z1⟩:=hX I s1
  obtain ⟨its2,v2,o2,z2⟩:=hX I s2
  obtain ⟨u1,e1,r1⟩:=v1.get hx
  obtain ⟨u2,e2,r2⟩:=v2.get hy
  have lt:∀ b ∈ [z,TI,TO,i1,i2],b < s.heap.objs.size:=fun b hb=>by
   simp only [List.mem_cons,List.not_mem_nil,or_false] at hb
   rcases hb with rfl | rfl | rfl | rfl | rfl
   ·exact Heap.lt_size q1
   ·exact Heap.lt_size q2
   ·exact Heap.lt_size q3
   ·obtain ⟨o,e,_⟩:=q4.obj; exact Heap.lt_size e
   ·obtain ⟨o,e,_⟩:=q5.obj; exact Heap.lt_size e
  refine eL D q1 q2 q3 q4 q5 o1 o2 (x:=u1) (y:=u2) (by simpa using e1) (by simpa using e2) fun h' y1 y2 y3 y4 y5 y6 y7=>⟨_,rfl,?_⟩
  refine wpAny_letOwnedTupleGo_zip (s:={ s with heap:=h' }) y1 fun h2 w1 sb=>?_
  have sb':Heap.SameBut z h' h2:=sb
  have nz:s.heap.objs.size ≠ z:=Nat.ne_of_gt (lt z (by simp))
  have kk:∀ b o,b ∉ [z,TI,TO,i1,i2] -> s.heap.get? b = some o -> h2.get? b = some o:=fun b o hb e=>by
   simp only [List.mem_cons,List.not_mem_nil,or_false,not_or] at hb
   exact (sb'.2 b hb.1).trans (y7 b o hb.1 hb.2.2.1 hb.2.2.2.1 hb.2.2.2.2 e)
  have tp:IsTup h2 s.heap.objs.size [u1,u2].toArray:=⟨_,(sb'.2 _ nz).trans y5,rfl,_,rfl⟩
  refine ⟨.ref s.heap.objs.size,upd H s.heap.objs.size (.tup [x,y]),b9 (s:=s) (t':=s.toks) I hf kk (Nat.le_refl _) (by show 2 <= sizeLine; decide) (.cons r1 (.cons r2 .nil)) tp,rfl,
   ⟨_,x,y,rfl,I.fresh,rfl,fun zs hz=>by rw [kx I hz s1]; exact hx,fun zs hz=>by rw [kx I hz s2]; exact hy⟩,?_,fun b hb=>?_⟩
  ·exact ⟨w1,(sb'.2 _ D.TIz).trans (y7 _ _ D.TIz D.TITO D.TIi1 D.TIi2 q2),⟨_,_,(sb'.2 _ D.TOz).trans y2⟩,y3.at fun o e=>(sb'.2 _ D.i1z).trans e,y4.at fun o e=>(sb'.2 _ D.i2z).trans e⟩
  ·rw [ab (Nat.ne_of_lt (lt b hb))]; exact (hf b hb).1
 done:=by
  intro X hP hw hK hc i pins s σ H E I hf st hg
  subst hP hw hK
  obtain ⟨xs,ys,s1,s2,hl⟩:=hg
  obtain ⟨q1,q2,⟨a,c,q3⟩,q4,q5⟩:=st
  obtain ⟨its1,v1,o1,z1⟩:=hX I s1
  obtain ⟨its2,v2,o2,z2⟩:=hX I s2
  have l1:=v1.length
  have l2:=v2.length
  refine fK (I.ok.hd hc) D q1 q2 q3 q4 q5 o1 o2 (hl.imp (fun q=>by simp; omega) fun q=>by simp; omega) fun h' hk=>⟨rfl,eg (t':=s.toks) I hf fun b o hb e=>?_⟩
  simp only [List.mem_cons,List.not_mem_nil,or_false,not_or] at hb
  exact hk b o hb.1 hb.2.2.1 hb.2.2.2.1 hb.2.2.2.2 e
 self:=fun _ _ _ _ _ st h=>wpAny_pyIter_zip st.1 h
section
variable {X:Cx}
def zu (K:PySem.W.Frag) (ta:TA):TI:=fun σ H R=>ta σ H fun vs H1=>∃ k1 k2 a1 a2,vs = [.ref a1,.ref a2] /\ (∃ xs,Sq K H1 k1 a1 xs) /\ (∃ ys,Sq K H1 k2 a2 ys) /\ R (Itz K k1 k2 a1 a2) H1
theorem wV {a b:Expr} {ta:TA} {p pos pt:Pos} {es:List Expr} {kt:Nat} (hg:Gl X "zip") (hm:X.mg "zip" = none) (ha:PA X [a,b] ta) (hs:starEach [a,b] X.env = [(false,eval a X.env),(false,eval b X.env)]:=by rfl) (hs2:starEach [b] X.env = [(false,eval b X.env)]:=by rfl) :
  PI X (.Tuple es kt pt) (.Call (.Name "zip" p) [a,b] [] pos) (zu X.K ta):=by
 intro pins s σ H R I h
 refine Call_ (cf I hg hm boot_zip (PyProof.Rows.callWith_type1 (thn (ha pos pins s σ H _ I h) fun us s1 ⟨vs,H1,I1,r1,q1⟩=>?_) (by rw [hs,hs2]) (by rw [hs2]; rfl)))
 obtain ⟨k1,k2,a1,a2,rfl,⟨xs,s1'⟩,⟨ys,s2'⟩,q⟩:=q1
 cases r1 with
 | cons r rr =>
  cases rr with
  | cons r' rr =>
   cases rr
   cases r
   cases r'
   obtain ⟨its1,v1,o1,z1⟩:=hX I1 s1'
   obtain ⟨its2,v2,o2,z2⟩:=hX I1 s2'
   refine jI o1 o2 fun h' q1 q2 q3 q4 q5 kk=>?_
   refine wpAny_pyIter_zip (s:={ s1 with heap:=h' }) q1 ?_
   refine ⟨_,_,_,_,H1,rfl,I1.kept (t':=s1.toks) kk,oq (zipApart_new o1.lt o2.lt),⟨q1,q2,⟨_,_,q3⟩,q4,q5⟩,fun b hb=>?_,q⟩
   have hle:s1.heap.objs.size <= b:=by
    simp only [List.mem_cons,List.not_mem_nil,or_false] at hb
    rcases hb with e | e | e | e | e <;> (rw [e]; first | exact Nat.le_add_right _ _ | exact Nat.le_refl _)
   exact I1.fpOk hle (I1.hok.fresh hle)
end
structure aw (pre ys:List Str) (scope:Scope):Prop where
 kind:scope.kind = .function
 cell:∀ y ∈ scope.names,y.2 ≠ .cell
 nm:∀ y ∈ scope.names,y.2 = .local -> scope.names.lookup y.1 = some .local
 loc:∀ x ∈ pre,scope.names.lookup x = some .local
 nd:(pre ++ ys).Nodup
theorem oF {pre:List Str} {τ:L2.St} {j:Nat} {v:V} (e:(List.replicate pre.length none ++ τ)[j]? = some (some v)):∃ i,j = pre.length + i /\ τ[i]? = some (some v):=by
 by_cases hj:j < pre.length
 ·rw [List.getElem?_append_left (by rw [List.length_replicate]; exact hj),List.getElem?_replicate,if_pos hj] at e
  cases Option.some.inj e
 ·refine ⟨j - pre.length,by omega,?_⟩
  rw [List.getElem?_append_right (by rw [List.length_replicate]; omega),List.length_replicate] at e
  exact e
theorem lg {X:Cx} {pins:List (Addr × Obj)} {σ:L2.St} {H:Hp} {s:Shared} {pre ys:List Str} {is:List Nat} {scope:Scope} {cl:List (Str × Addr)} {fp:List Addr} {C:Addr} {h1:Heap} {t1:Nat} {m1:Str -> Option Value}
  (I:Inv X pins σ H s) (hf:∀ b ∈ fp,eS X pins H b) (hfo:∀ b ∈ fp,b < s.heap.objs.size) (S:aw pre ys scope) (hcl:Clo X cl)
  (hfr:(scope.names.all fun p=>p.2 != .free || (cl.lookup p.1).isSome) = true) (fr:Frees X scope cl ys is)
  (hC:s.heap.objs.size <= C) (old:∀ b o,s.heap.get? b = some o -> h1.get? b = some o) (hn:h1.Ns C m1) :
  Inv (aj X (pre ++ ys) scope cl C s H fp) pins (List.replicate pre.length none ++ a7 σ is) H { s with heap:=h1,toks:=t1 }:=by
 have stk:∀ b,b ≠ X.env.locals -> b ∉ X.fs -> b ∉ frs X.stack:=fun b q1 q2 hb=>(List.mem_cons.mp (I.stkSub b hb)).elim q1 q2
 have key:∀ a k,(relabel scope X.env).names.lookup a = some k -> (k = .cell \/ k = .free) -> ∃ c,cl.lookup a = some c:=fun a k e hk=>by
  have hm:=PySem.mem_of_lookup e
  obtain ⟨⟨n,k0⟩,hp,ep⟩:=List.mem_map.mp hm
  have hk0:k0 = .free /\ n = a:=by
   dsimp only at ep
   split at ep
   ·rename_i hc
    simp only [Bool.and_eq_true] at hc
    exact ⟨eq_of_beq hc.1.1,(Prod.mk.inj ep).1⟩
   ·obtain ⟨e1,e2⟩:=Prod.mk.inj ep
    subst e2
    rcases hk with z | z
    ·exact absurd z (S.cell _ hp)
    ·exact ⟨z,e1⟩
  obtain ⟨z1,z2⟩:=hk0
  subst z1 z2
  have q:=List.all_eq_true.mp hfr _ hp
  have q2:(cl.lookup n).isSome = true:=by simpa using q
  exact Option.isSome_iff_exists.mp q2
 refine ⟨⟨I.ok.mod,S.kind,I.ok.glob,I.ok.blt,hC,fun a b c e1 e2=>I.ok.inj a b c (hcl.get e1) (hcl.get e2),fun a ha=>?_,fun a c e=>absurd e Bool.false_ne_true,I.ok.hd,I.ok.frames,.inl rfl,
   fun b hb=>⟨Nat.ne_of_lt (Nat.lt_of_lt_of_le (hfo b hb) hC),fun a c e=>(hf b hb).2.2.2.2.1 a c (hcl.get e)⟩,I.bs,Nat.le_trans I.ok.bsz I.sz,fun b o e hb=>?_,fun b hb=>stk b (hf b hb).2.1 (hf b hb).2.2.1,I.stack,I.stkFree⟩,
  rfl,I.bare,Un.kept old,⟨m1,hn,fun j y v e1 e2 e3=>?_⟩,fun a c e=>?_,I.hok.fresh hC,fun a c e=>I.freeC a c (hcl.get e),fun p hp=>?_,I.hok.kept old,?_⟩
 ·rcases ha with e | e
  ·exact key a _ e (.inl rfl)
  ·exact key a _ e (.inr rfl)
 ·rcases (hf b hb).2.2.2.1 with z | z
  ·exact I.ok.noex b o e z
  ·exact absurd (Nat.lt_of_lt_of_le (Heap.lt_size (I.ok.bs b o e).1) z) (Nat.lt_irrefl _)
 ·obtain ⟨k,rfl,e2'⟩:=oF e2
  have e1':ys[k]? = some y:=by
   have e1'':(pre ++ ys)[pre.length + k]? = some y:=e1
   rw [List.getElem?_append_right (by omega),Nat.add_sub_cancel_left] at e1''
   exact e1''
  obtain ⟨i,c,g1,g2,g3,g4,g5,g6,g7⟩:=fr.get (σ:=σ) e1' e2'
  obtain ⟨m0,hn0,hl0⟩:=I.loc
  obtain ⟨u,r,l⟩:=hl0 i y v g1 g2 g3
  rcases l with ⟨k,_⟩ | ⟨_,c',e',z⟩
  ·rcases g4 with q | q
   ·rw [k] at q; cases q
   ·rw [k] at q; cases q
  ·rw [g5] at e'
   cases e'
   obtain ⟨o,ho,hd⟩:=z
   exact ⟨u,r,.inr ⟨g7,c,g6,⟨o,old _ _ ho,hd⟩⟩⟩
 ·obtain ⟨v,o,ho,hd⟩:=I.cell a c (hcl.get e)
  exact ⟨v,o,old _ _ ho,hd⟩
 ·obtain ⟨e,n,ne,nf,d⟩:=I.pin p hp
  exact ⟨old _ _ e,n,Nat.ne_of_lt (Nat.lt_of_lt_of_le (Heap.lt_size e) hC),stk _ ne nf,d⟩
 ·show (List.replicate pre.length none ++ a7 σ is).length = (pre ++ ys).length
  unfold a7
  rw [List.length_append,List.length_append,List.length_replicate,List.length_map,fr.len]
def rD (K:PySem.W.Frag) (J:It) (te:TE) (σ':L2.St) (H1:Hp) (Q:VK):Prop:=∃ W:Nat -> Nat -> List V -> Hp -> Prop,(∃ m,W 0 m [] H1) /\ ∀ i m ys H,W i m ys H ->
 (J.stop i H /\ ys.length <= sizeLine /\ ∀ p,H p = none -> Q (.ref p) (upd H p (.lst ys))) \/
 (J.go i H /\ ys.length < sizeLine /\ ∀ v H',J.yld i H v H' -> ∃ p a b,v = .ref p /\ SqT K H' p [a,b] /\ te (some a :: some b :: σ') H' fun y H2=>∃ m',m' < m /\ W (i + 1) m' (ys ++ [y]) H2)
def BQ (K:PySem.W.Frag) (wi:TI) (is:List Nat) (te:TE):TE:=fun σ H Q=>wi σ H fun J H1=>rD K J te (a7 σ is) H1 Q
end L3
namespace L3
open PySem PySem.Spec PyProof.Rows L2
end L3
namespace L3
open PySem PySem.Spec PyProof.Rows L2
structure Bs (K:PySem.W.Frag) (x qual:Str) (st:Stmt) (f:Addr) (fd:FuncData) (dV:Value):Prop where
 ex:∃ (oc:Value) (od:Option Addr) (kV doc pm:Value) (an:Option Addr) (cdv ct:Value) (osl:Array (Option Value)),
  fd = PySem.W.fnOf x qual (defArgs st) (defBody st) (defScope st) dV kV doc pm an cdv ct /\ K.lookup f = some ⟨oc,od,.func fd,osl⟩ /\ PySem.W.codeIn K cdv qual = true
 kp:PySem.W.keepIn K (.ref f) = true
section
variable {P:Program} {w:World} {K:PySem.W.Frag} {mg:Str -> Option Value} {base:Heap}
end
end L3
namespace L3
open PySem PySem.Spec PyProof.Rows L2
section
variable {X:Cx}
end
end L3
namespace L3
open PySem PySem.Spec PyProof.Rows L2
def Ite (K:PySem.W.Frag) (a:Addr):It :=
 ⟨fun i H=>∃ xs x,SqL K H a xs /\ xs[i]? = some x,
  fun i H v H'=>∃ p x,v = .ref p /\ H p = none /\ H' = upd H p (.tup [.int (i:Int),x]) /\ ∀ xs,SqL K H a xs -> xs[i]? = some x,
  fun i H=>∃ xs,SqL K H a xs /\ xs.length <= i⟩
section
variable {X:Cx}
def BZ (K:PySem.W.Frag) (ta:TA):TI:=fun σ H R=>ta σ H fun vs H1=>∃ a,vs = [.ref a] /\ (∃ xs,SqL K H1 a xs) /\ R (Ite K a) H1
end
end L3
namespace L3
open PySem PySem.Spec PyProof.Rows L2
section
variable {prog:Program} {w:World} {A:Around} {R:Result -> Shared -> Prop} {s:Shared}
theorem iz {elt tg iter cnd:Expr} {scope:Scope} {pos:Pos} {it acc:Value} {env:Env} (J:Nat -> Shared -> Prop)
  (turn:∀ n s,J n s -> wpAny (model prog w) A (pyNext it) (fun r s₁=>match r with
   | none=>R (.ok .next) s₁
   | some v=>wpAny (model prog w) A (letOwnedTupleGo tg it v) (fun _ s₂=>wpAny (model prog w) A (assign tg env v) (fun _ s₃=>wpAny (model prog w) A (isTrue cnd env (eval cnd env)) (fun ok s₄=>if ok = true then
     wpAny (model prog w) A (eval elt env) (fun y s₅=>wpAny (model prog w) A (call (.builtin "list.append") [acc,y]) (fun _ s₆=>∃ m,m < n /\ J m s₆) noX s₅) noX s₄ else ∃ m,m < n /\ J m s₄) noX s₃) noX s₂) noX s₁) noX s)
  (n:Nat) (h:J n s):codeAny (model prog w) A (.compLoop (.ListComp elt [⟨tg,iter,[cnd],0⟩] scope pos) 0 it acc env) R s:=by
 refine codeAny_loop rfl J (fun n s hJ=>?_) n h
 show wpAny _ A ((compTurn (.ListComp elt [⟨tg,iter,[cnd],0⟩] scope pos) 0 it acc env).onRaise (fun x=>do noteFrame x env; theTreesLotGoes x)) _ _ s
 refine wpAny_noted ?_
 rw [compTurn_list]
 refine wpAny_bind (wpAny_standAt (wpAny_bind (wpAny_mono (turn n s hJ) (fun r s₁ h₁=>?_) fun _ _ z=>z.elim)))
 cases r with
 | none=>exact wpAny_pure h₁
 | some v =>
  refine wpAny_bind (wpAny_mono h₁ (fun _ s₂ h₂=>?_) fun _ _ z=>z.elim)
  refine wpAny_bind (wpAny_mono h₂ (fun _ s₃ h₃=>?_) fun _ _ z=>z.elim)
  refine wpAny_bind (wpAny_tests_one (wpAny_mono h₃ (fun ok s₄ h₄=>?_) fun _ _ z=>z.elim))
  cases ok with
  | true=>exact wpAny_bind (wpAny_bind (wpAny_mono h₄ (fun y s₅ h₅=>wpAny_bind (wpAny_mono h₅ (fun _ s₆ h₆=>wpAny_pure (wpAny_pure ⟨rfl,h₆⟩)) fun _ _ z=>z.elim)) fun _ _ z=>z.elim))
  | false=>exact wpAny_bind (wpAny_pure (wpAny_pure ⟨rfl,h₄⟩))
end
def mM (K:PySem.W.Frag) (J:It) (tc:TT) (te:TE) (σ':L2.St) (H1:Hp) (Q:VK):Prop:=∃ W:Nat -> Nat -> List V -> Hp -> Prop,(∃ m,W 0 m [] H1) /\ ∀ i m ys H,W i m ys H ->
 (J.stop i H /\ ys.length <= sizeLine /\ ∀ p,H p = none -> Q (.ref p) (upd H p (.lst ys))) \/
 (J.go i H /\ ys.length < sizeLine /\ ∀ v H',J.yld i H v H' -> ∃ p a b,v = .ref p /\ SqT K H' p [a,b] /\ tc (some a :: some b :: σ') H' fun ok H2=>if ok = true then te (some a :: some b :: σ') H2 fun y H3=>∃ m',m' < m /\ W (i + 1) m' (ys ++ [y]) H3 else ∃ m',m' < m /\ W (i + 1) m' ys H2)
def Ax (K:PySem.W.Frag) (wi:TI) (is:List Nat) (tc:TT) (te:TE):TE:=fun σ H Q=>wi σ H fun J H1=>mM K J tc te (a7 σ is) H1 Q
end L3

set_option Elab.async false
set_option linter.all false
set_option maxRecDepth 100000
set_option maxHeartbeats 4000000
namespace L3
open PySem PySem.Spec PyProof.Rows L2
def sU (n:Nat) (J:It) (g:TG) (tc:TT) (te:TE) (σ':L2.St) (H1:Hp) (Q:VK):Prop:=∃ W:Nat -> Nat -> List V -> Hp -> Prop,(∃ m,W 0 m [] H1) /\ ∀ i m ys H,W i m ys H ->
 (J.stop i H /\ ys.length <= sizeLine /\ ∀ p,H p = none -> Q (.ref p) (upd H p (.lst ys))) \/
 (J.go i H /\ ys.length < sizeLine /\ ∀ x H',J.yld i H x H' -> g x (List.replicate n none ++ σ') H' fun σ2 H2=>(σ2.length = n + σ'.length /\ σ2.drop n = σ') /\ tc σ2 H2 fun ok H3=>if ok = true then te σ2 H3 fun y H4=>∃ m',m' < m /\ W (i + 1) m' (ys ++ [y]) H4 else ∃ m',m' < m /\ W (i + 1) m' ys H3)
def sH (n:Nat) (J:It) (g:TG) (te:TE) (σ':L2.St) (H1:Hp) (Q:VK):Prop:=∃ W:Nat -> Nat -> List V -> Hp -> Prop,(∃ m,W 0 m [] H1) /\ ∀ i m ys H,W i m ys H ->
 (J.stop i H /\ ys.length <= sizeLine /\ ∀ p,H p = none -> Q (.ref p) (upd H p (.lst ys))) \/
 (J.go i H /\ ys.length < sizeLine /\ ∀ x H',J.yld i H x H' -> g x (List.replicate n none ++ σ') H' fun σ2 H2=>(σ2.length = n + σ'.length /\ σ2.drop n = σ') /\ te σ2 H2 fun y H4=>∃ m',m' < m /\ W (i + 1) m' (ys ++ [y]) H4)
def gj (n:Nat) (wi:TI) (is:List Nat) (g:TG) (tc:TT) (te:TE):TE:=fun σ H Q=>wi σ H fun J H1=>sU n J g tc te (a7 σ is) H1 Q
def gh (n:Nat) (wi:TI) (is:List Nat) (g:TG) (te:TE):TE:=fun σ H Q=>wi σ H fun J H1=>sH n J g te (a7 σ is) H1 Q
theorem om {n:Nat} {σ2 σ':L2.St} (h:σ2.drop n = σ') {j:Nat} {w:V} (e:(List.replicate n none ++ σ')[j]? = some (some w)):σ2[j]? = some (some w):=by
 by_cases hj:j < n
 ·rw [List.getElem?_append_left (by simpa using hj),List.getElem?_replicate,if_pos hj] at e
  cases Option.some.inj e
 ·rw [List.getElem?_append_right (by simpa using hj),List.length_replicate,<- h,List.getElem?_drop,Nat.add_sub_cancel' (by omega)] at e
  exact e
def CW (X:Cx) (cs:List Expr) (k:Bool -> Shared -> Prop) (s:Shared):Prop:=match cs with
 | []=>k true s
 | [c]=>wpAny (model X.prog X.w) X.A (isTrue c X.env (eval c X.env)) k noX s
 | _=>False
def PC (X:Cx) (cs:List Expr) (tc:TT):Prop:=∀ (pins:List (Addr × Obj)) (s:Shared) (σ:L2.St) (H:Hp) (Q:Bool -> Hp -> Prop),Inv X pins σ H s -> tc σ H Q -> CW X cs (fun ok s'=>∃ H',Inv X pins σ H' s' /\ Q ok H') s
theorem CW.mono {X:Cx} {cs:List Expr} {k k':Bool -> Shared -> Prop} {s:Shared} (h:CW X cs k s) (w:∀ b s,k b s -> k' b s):CW X cs k' s:=by
 match cs,h with
 | [],h=>exact w _ _ h
 | [c],h=>exact wpAny_mono h w fun _ _ z=>z
theorem ig {X:Cx} {elt tg iter:Expr} {cs:List Expr} {scope:Scope} {pos:Pos} {it acc:Value} {R:Result -> Shared -> Prop} {s:Shared} (J:Nat -> Shared -> Prop)
  (turn:∀ n s,J n s -> wpAny (model X.prog X.w) X.A (pyNext it) (fun r s₁=>match r with
   | none=>R (.ok .next) s₁
   | some v=>wpAny (model X.prog X.w) X.A (letOwnedTupleGo tg it v) (fun _ s₂=>wpAny (model X.prog X.w) X.A (assign tg X.env v) (fun _ s₃=>CW X cs (fun ok s₄=>if ok = true then
     wpAny (model X.prog X.w) X.A (eval elt X.env) (fun y s₅=>wpAny (model X.prog X.w) X.A (call (.builtin "list.append") [acc,y]) (fun _ s₆=>∃ m,m < n /\ J m s₆) noX s₅) noX s₄ else ∃ m,m < n /\ J m s₄) s₃) noX s₂) noX s₁) noX s)
  (n:Nat) (h:J n s) (hcs:cs.length <= 1):codeAny (model X.prog X.w) X.A (.compLoop (.ListComp elt [⟨tg,iter,cs,0⟩] scope pos) 0 it acc X.env) R s:=by
 match cs,hcs with
 | [],_=>exact iP J turn n h
 | [c],_=>exact iz J turn n h
theorem gR {X:Cx} {elt iter tg:Expr} {cs:List Expr} {pre:List Str} {pos:Pos} {scope:Scope} {cl:List (Str × Addr)} {ys:List Str} {is:List Nat} {wi:TI} {g:TG} {te:TE} {tc:TT} {use:Option (Value -> Sem Unit)} {Q:VK} {Qp:Value -> Shared -> Prop} {pins:List (Addr × Obj)} {s:Shared} {σ:L2.St} {H:Hp} {ip:Pos}
  (hc:X.calm = true) (hi:PI X tg iter wi) (hg:∀ C s H fp,PG (aj X (pre ++ ys) scope cl C s H fp) tg g) (he:∀ C s H fp,PE (aj X (pre ++ ys) scope cl C s H fp) elt te) (hcd:∀ C s H fp,PC (aj X (pre ++ ys) scope cl C s H fp) cs tc) (hcs:cs.length <= 1)
  (hclos:closureFor scope X.env = pure cl) (S:aw pre ys scope) (hcl:Clo X cl) (hfr:(scope.names.all fun p=>p.2 != .free || (cl.lookup p.1).isSome) = true) (fr:Frees X scope cl ys is) (hs:∀ v,foldedSetIterable iter X.env v = pure v)
  (fin:∀ (s4:Shared) (Hn:Hp) (D L:Addr) (m4:Str -> Option Value),Inv X pins σ Hn s4 -> s4.heap.Ns L m4 -> L ≠ X.env.locals -> (∀ a c,X.env.cells.lookup a = some c -> c ≠ L) -> Hn L = none -> X.s₀.heap.objs.size <= L -> (∀ p ∈ X.pn ++ pins,p.1 ≠ L) -> Q (.ref D) Hn -> compPost (model X.prog X.w) X.A X.xe use Qp (.ref D) L (.ok .next) s4)
  (I:Inv X pins σ H s) (h:gj pre.length wi is g tc te σ H Q) :
  wpAny (model X.prog X.w) X.A (comprehension (.ListComp elt [⟨tg,iter,cs,0⟩] scope pos) scope X.env ip (newList []) false (eval iter X.env) use) Qp X.xe s:=by
 refine wpAny_comprehension_free (use:=use) rfl hs hclos S.kind S.nm (thn (hi pins s σ H _ I h) fun xv s1 h1=>thn h1 fun itv s2 h2=>?_)
 obtain ⟨it,fp,tn,J,H2,rfl,I2,T,st2,f2,W,⟨m0,w0⟩,turn⟩:=h2
 have fpo:∀ b ∈ fp,b < s2.heap.objs.size:=fun b hb=>by
  obtain ⟨o,e,_⟩:=T.obj _ _ st2 b hb
  exact Heap.lt_size e
 refine wpAny_newObj_type (wpAny_newFunctionEnv S.cell (fun y hy=>by cases hy) (fun g' hns hsb=>?_) S.kind)
 dsimp only at hns hsb ⊢
 generalize hP2:s2.heap.push { cls:=.type "list",dict:=none,data:=.seq ([]:List Value).toArray } = P2 at hns hsb ⊢
 have hCs:P2.objs.size = s2.heap.objs.size + 1:=by rw [<- hP2,Heap.size_push]
 have hDC:s2.heap.objs.size ≠ P2.objs.size:=by omega
 have hle:s2.heap.objs.size <= P2.objs.size:=by omega
 have nc:∀ b o,s2.heap.get? b = some o -> b ≠ P2.objs.size:=fun b o e=>Nat.ne_of_lt (Nat.lt_of_lt_of_le (Heap.lt_size e) hle)
 have nd:∀ b o,s2.heap.get? b = some o -> b ≠ s2.heap.objs.size:=fun b o e=>Nat.ne_of_lt (Heap.lt_size e)
 have ndH:∀ b u,H2 b = some u -> b ≠ s2.heap.objs.size:=fun b u e=>Nat.ne_of_lt (I2.hok.lt e)
 have old:∀ b o,s2.heap.get? b = some o -> g'.get? b = some o:=fun b o e=>hsb.extBut b o (nc b o e) (Heap.get?_push_of_some _ (hP2 ▸ Heap.get?_push_of_some _ e))
 have accD:g'.get? s2.heap.objs.size = some (gm []):=hsb.extBut _ _ hDC (Heap.get?_push_of_some _ (hP2 ▸ Heap.get?_push_size _ rfl))
 have stkD:s2.heap.objs.size ∉ frs X.stack:=fun hb=>(List.mem_cons.mp (I2.stkSub _ hb)).elim (fun z=>absurd z (Nat.ne_of_gt I2.lt)) (I2.nofs (Nat.le_refl _))
 generalize hσ':a7 σ is = σ' at turn
 have I3:Inv (aj X (pre ++ ys) scope cl P2.objs.size s2 H2 fp) pins (List.replicate pre.length none ++ σ') H2 { s2 with heap:=g',toks:=s2.toks + ([]:List (Str × Value)).length }:=by rw [<- hσ']; exact lg (pre:=pre) I2 f2 fpo S hcl hfr fr hle old hns
 have stat:∀ {H':Hp} {o:Obj},(∀ b ∈ fp,H' b = none) -> ∀ b ∈ fp,eS (aj X (pre ++ ys) scope cl P2.objs.size s2 H2 fp) (pins ++ [(s2.heap.objs.size,o)]) H' b:=fun {H' o} hn b hb=>by
  refine ⟨hn b hb,Nat.ne_of_lt (Nat.lt_of_lt_of_le (fpo b hb) hle),fun z=>(List.mem_cons.mp (I2.stkSub _ z)).elim (f2 b hb).2.1 (f2 b hb).2.2.1,.inl hb,fun a c e=>(f2 b hb).2.2.2.2.1 a c (hcl.get e),fun p hp=>?_⟩
  rcases List.mem_append.mp hp with z | z
  ·exact (f2 b hb).2.2.2.2.2 p (List.mem_append_left _ z)
  ·rcases List.mem_append.mp z with z | z
   ·exact (f2 b hb).2.2.2.2.2 p (List.mem_append_right _ z)
   ·rw [List.mem_singleton.mp z]
    exact Nat.ne_of_gt (fpo b hb)
 have loop:codeAny (model X.prog X.w) X.A (.compLoop (.ListComp elt [⟨tg,iter,cs,0⟩] scope pos) 0 (.ref it) (.ref s2.heap.objs.size) (compEnvC scope cl P2.objs.size X.env))
   (compPost (model X.prog X.w) X.A X.xe use Qp (.ref s2.heap.objs.size) P2.objs.size) { s2 with heap:=g',toks:=s2.toks + ([]:List (Str × Value)).length }:=by
  refine ig (X:=aj X (pre ++ ys) scope cl P2.objs.size s2 H2 fp) (fun n s'=>∃ i zs its H',Inv (aj X (pre ++ ys) scope cl P2.objs.size s2 H2 fp) pins (List.replicate pre.length none ++ σ') H' s' /\ tn i s'.heap /\ (∀ b ∈ fp,H' b = none) /\ s'.heap.get? s2.heap.objs.size = some (gm its) /\ Vals zs its /\ H' s2.heap.objs.size = none /\ W i n zs H')
   ?_ m0 ⟨0,[],[],H2,I3,T.keep _ _ _ st2 (fun b _ o e=>old b o e),fun b hb=>(f2 b hb).1,accD,.nil,I2.hok.fresh (Nat.le_refl _),w0⟩ hcs
  rintro n s3 ⟨i,zs,its,H3,J3,st3,fr3,d3,rv3,nd3,w3⟩
  have hzl:=rv3.length
  have J3':Inv (aj X (pre ++ ys) scope cl P2.objs.size s2 H2 fp) (pins ++ [(s2.heap.objs.size,gm its)]) (List.replicate pre.length none ++ σ') H3 s3:=J3.pins_of fun p hp=>by
   rcases List.mem_append.mp hp with z | z
   ·exact J3.pin p (List.mem_append_right _ z)
   ·rw [List.mem_singleton.mp z]
    exact ⟨d3,nd3,hDC,stkD,fun v q=>by cases q⟩
  rcases turn i n zs H3 w3 with ⟨stop,hz,q⟩ | ⟨go,hz,step⟩
  ·refine wpAny_mono (T.done (aj X (pre ++ ys) scope cl P2.objs.size s2 H2 fp) rfl rfl rfl hc i _ s3 _ H3 noX J3' (stat fr3) st3 stop) (fun r s4 h4=>?_) fun _ _ z=>z.elim
   obtain ⟨hr,I4⟩:=h4
   subst hr
   obtain ⟨m4,hn4,_⟩:=id I4.loc
   have f4:H3 P2.objs.size = none:=I4.free
   have d4:s4.heap.get? s2.heap.objs.size = some (gm its):=(I4.pin (s2.heap.objs.size,gm its) (List.mem_append_right _ (List.mem_append_right _ (List.mem_singleton.mpr rfl)))).1
   have u4:Un (frs X.stack) fp H2 H3 s2.heap s4.heap:=I4.base
   have un:Un (frs X.stack) fp H2 (upd H3 s2.heap.objs.size (.lst zs)) s2.heap s4.heap :=
    ⟨u4.keep,u4.slot,fun b o e n hx=>by rw [ab (nd b o e)]; exact u4.free b o e n hx,u4.there,
     fun b xs q=>by rw [ab (ndH b _ q)]; exact u4.tups b xs q,fun b o u q=>by rw [ab (ndH b _ q)]; exact u4.frzs b o u q,fun b ps q=>by rw [ab (ndH b _ q)]; exact u4.tbls b ps q⟩
   have IX:Inv X pins σ (upd H3 s2.heap.objs.size (.lst zs)) s4:=I2.call' (s':=s4) (ch:=fp) I4.os un (fI I4.hok nd3 ⟨hz,its,its.length,rv3,d4⟩) I4.bare
    (fun b hb=>⟨(f2 b hb).2.2.2.1,(f2 b hb).2.1,(f2 b hb).2.2.2.2.1,(f2 b hb).2.2.2.2.2⟩)
   have cL:P2.objs.size ≠ X.env.locals:=Nat.ne_of_gt (Nat.lt_of_lt_of_le I2.lt hle)
   have cC:∀ a c,X.env.cells.lookup a = some c -> c ≠ P2.objs.size:=fun a c e=>by
    obtain ⟨v',o',ho',_⟩:=I2.cell a c e
    exact nc c o' ho'
   exact fin s4 _ s2.heap.objs.size P2.objs.size m4 IX hn4 cL cC (by rw [ab (Ne.symm hDC)]; exact f4) (Nat.le_trans I2.sz hle) (fun p hp=>nc p.1 _ (I2.pin p hp).1) (q _ nd3)
  ·refine wpAny_mono (T.item (aj X (pre ++ ys) scope cl P2.objs.size s2 H2 fp) rfl rfl rfl hc i _ s3 _ H3 noX J3' (stat fr3) st3 go) (fun r s4 h4=>?_) fun _ _ z=>z.elim
   obtain ⟨u,hr,h4⟩:=h4
   subst hr
   refine wpAny_mono h4 (fun _ s5 h5=>?_) fun _ _ z=>z.elim
   obtain ⟨v,H5,I5,r5,y5,st5,fr5⟩:=h5
   have I5':=I5.pinned (stat fr5) (T.obj _ _ st5)
   refine wpAny_mono (hg P2.objs.size s2 H2 fp _ s5 _ H5 v u _ I5' r5 (step v H5 y5)) (fun _ s6 h6=>?_) fun _ _ z=>z.elim
   obtain ⟨σ6,H6,I6,⟨hl6,hd6⟩,step'⟩:=h6
   have back:∀ {H7:Hp} {s7:Shared},Inv (aj X (pre ++ ys) scope cl P2.objs.size s2 H2 fp) ((pins ++ [(s2.heap.objs.size,gm its)]) ++ eZ fp s5.heap) σ6 H7 s7 -> Inv (aj X (pre ++ ys) scope cl P2.objs.size s2 H2 fp) pins (List.replicate pre.length none ++ σ') H7 s7:=fun I7=>I7.unpinned.unpinned.weak (by rw [hl6,List.length_append,List.length_replicate]) fun j w' e=>om hd6 e
   refine CW.mono (hcd P2.objs.size s2 H2 fp _ s6 _ H6 _ I6 step') fun ok s6' h6'=>?_
   obtain ⟨H6',I6',q6⟩:=h6'
   cases ok with
   | false =>
    rw [if_neg Bool.false_ne_true] at q6
    obtain ⟨m',hm',w7⟩:=q6
    have pinD:=I6'.pin (s2.heap.objs.size,gm its) (List.mem_append_right _ (List.mem_append_left _ (List.mem_append_right _ (List.mem_singleton.mpr rfl))))
    rw [if_neg Bool.false_ne_true]
    refine ⟨m',hm',i + 1,zs,its,H6',back I6',T.keep _ _ _ st5 fun b hb o e=>?_,fun b hb=>?_,pinD.1,rv3,pinD.2.1,w7⟩
    ·exact (I6'.pin (b,o) (List.mem_append_right _ (List.mem_append_right _ (bc hb e)))).1
    ·obtain ⟨o,e,_⟩:=T.obj _ _ st5 b hb
     exact (I6'.pin (b,o) (List.mem_append_right _ (List.mem_append_right _ (bc hb e)))).2.1
   | true =>
    rw [if_pos rfl] at q6 ⊢
    refine wpAny_mono (he P2.objs.size s2 H2 fp _ s6' _ H6' _ I6' q6) (fun yv s7 h7=>?_) fun _ _ z=>z.elim
    obtain ⟨y',H7,I7,r7,m',hm',w7⟩:=h7
    have pinD:=I7.pin (s2.heap.objs.size,gm its) (List.mem_append_right _ (List.mem_append_left _ (List.mem_append_right _ (List.mem_singleton.mpr rfl))))
    refine append_at (hsz:=by show its.toArray.size <= sizeLine; rw [List.size_toArray]; omega) pinD.1 fun h8 sb8 hD8=>?_
    have I8:Inv (aj X (pre ++ ys) scope cl P2.objs.size s2 H2 fp) pins (List.replicate pre.length none ++ σ') H7 { s7 with heap:=h8 }:=(back I7).turned (t':=s7.toks) (it:=s2.heap.objs.size) (fun b o hb e=>(sb8.2 b hb).trans e) pinD.2.1 hDC (.inr (Nat.le_refl _))
     (fun a c e z=>by
      obtain ⟨v',o',ho',_⟩:=I2.cell a c (hcl.get e)
      exact nd c o' ho' z)
     (fun p hp=>nd p.1 _ (I2.pin p hp).1)
    refine ⟨m',hm',i + 1,zs ++ [y'],its ++ [yv],H7,I8,T.keep _ _ _ st5 fun b hb o e=>?_,fun b hb=>?_,?_,rv3.append (.cons r7 .nil),pinD.2.1,w7⟩
    ·exact (sb8.2 b (Nat.ne_of_lt (fpo b hb))).trans (I7.pin (b,o) (List.mem_append_right _ (List.mem_append_right _ (bc hb e)))).1
    ·obtain ⟨o,e,_⟩:=T.obj _ _ st5 b hb
     exact (I7.pin (b,o) (List.mem_append_right _ (List.mem_append_right _ (bc hb e)))).2.1
    ·show h8.get? s2.heap.objs.size = _
     rw [hD8]
     simp [gm]
 exact codeAny_compStart_list loop (T.self X.A 0 _ _ _ (T.keep _ _ _ st2 (fun b _ o e=>old b o e)) loop)
section
variable {X:Cx} {elt iter tg cnd:Expr} {pre:List Str} {pos spos pz:Pos} {z:Str} {jz:Nat} {scope:Scope} {cl:List (Str × Addr)} {ys:List Str} {is:List Nat} {wi:TI} {g:TG} {te:TE} {tc:TT}
def tT:TT:=fun _ H Q=>Q true H
theorem pcN:PC X [] tT:=fun pins s σ H Q I q=>⟨H,I,q⟩
theorem goN {n:Nat} {σ:L2.St} {H:Hp} {Q:VK} (h:gh n wi is g te σ H Q):gj n wi is g tT te σ H Q:=h
theorem oH {cs:List Expr} (hc:X.calm = true) (hi:PI X tg iter wi) (hg:∀ C s H fp,PG (aj X (pre ++ ys) scope cl C s H fp) tg g) (he:∀ C s H fp,PE (aj X (pre ++ ys) scope cl C s H fp) elt te) (hcd:∀ C s H fp,PC (aj X (pre ++ ys) scope cl C s H fp) cs tc) (hcs:cs.length <= 1)
  (hclos:closureFor scope X.env = pure cl) (S:aw pre ys scope) (hcl:Clo X cl) (hfr:(scope.names.all fun p=>p.2 != .free || (cl.lookup p.1).isSome) = true) (fr:Frees X scope cl ys is) (hs:∀ v,foldedSetIterable iter X.env v = pure v) :
  PE X (.ListComp elt [⟨tg,iter,cs,0⟩] scope pos) (gj pre.length wi is g tc te):=by
 intro pins s σ H Q I h
 rw [eval_ListComp]
 show wpAny _ _ (comprehension _ scope X.env _ (newList []) false (eval iter X.env) none) _ _ s
 refine gR hc hi hg he hcd hcs hclos S hcl hfr fr hs (fun s4 Hn D L m4 IX hn cL cC hL hz hp q=>?_) I h
 exact ⟨m4,hn,fun h' sb=>⟨.ref D,_,IX.turned (t':=s4.toks) (it:=L) (fun b o hb e=>(sb.2 b hb).trans e) hL cL (.inr hz) cC hp,rfl,q⟩⟩
theorem mS {cs:List Expr} (hN:X.N.Nodup) (hj:X.N[jz]? = some z) (hzLoc:Loc X.env.scope z) (hsw:swapsWith (.ListComp elt [⟨tg,iter,cs,0⟩] scope pos) (some (.Name z pz)) spos.line X.env = pure true) (hc:X.calm = true) (hi:PI X tg iter wi) (hg:∀ C s H fp,PG (aj X (pre ++ ys) scope cl C s H fp) tg g) (he:∀ C s H fp,PE (aj X (pre ++ ys) scope cl C s H fp) elt te) (hcd:∀ C s H fp,PC (aj X (pre ++ ys) scope cl C s H fp) cs tc) (hcs:cs.length <= 1)
  (hclos:closureFor scope X.env = pure cl) (S:aw pre ys scope) (hcl:Clo X cl) (hfr:(scope.names.all fun p=>p.2 != .free || (cl.lookup p.1).isSome) = true) (fr:Frees X scope cl ys is) (hs:∀ v,foldedSetIterable iter X.env v = pure v) (hfn:X.fn z = true \/ X.env.scope.names.lookup z = some .local) :
  PS X (.Assign [.Name z pz] (.ListComp elt [⟨tg,iter,cs,0⟩] scope pos) spos) (ng (gj pre.length wi is g tc te) (bJ jz)):=by
 intro pins s σ H D I h
 rw [exec_Assign_Name_used _ _ _ _ hsw]
 refine wpAny_bind (wpAny_standAt (wpAny_bind ?_)); show wpAny _ _ (do let _ <- comprehension (.ListComp elt [⟨tg,iter,cs,0⟩] scope pos) scope X.env _ (newList []) false (eval iter X.env) (some (assign (.Name z pz) X.env))) _ _ s
 refine wpAny_bind (thn (gR (use:=some (assign (.Name z pz) X.env)) (Qp:=fun _ s'=>SP X pins D .next s') hc hi hg he hcd hcs hclos S hcl hfr fr hs (fun s4 Hn d L m4 IX hn cL cC hL hz hp q=>?_) I h) fun _ s' hq=>wpAny_pure (wpAny_pure hq))
 show wpAny _ _ (assign (.Name z pz) X.env (.ref d)) _ _ s4
 refine wpAny_assign_Name (fE IX hN hj hzLoc (v:=.ref d) rfl (fun s5 I5 h5=>?_) hfn)
 obtain ⟨a5,sb5,ha5⟩:=h5
 have na:L ≠ a5:=ha5.elim (fun e=>by rw [e]; exact cL) fun e=>Ne.symm (cC _ _ e)
 exact ⟨m4,hn.sameBut sb5 na,fun h' sb=>⟨_,_,I5.turned (t':=s5.toks) (it:=L) (fun b o hb e=>(sb.2 b hb).trans e) hL cL (.inr hz) cC hp,q⟩⟩
theorem fG (hc:X.calm = true) (hi:PI X tg iter wi) (hg:∀ C s H fp,PG (aj X (pre ++ ys) scope cl C s H fp) tg g) (he:∀ C s H fp,PE (aj X (pre ++ ys) scope cl C s H fp) elt te)
  (hclos:closureFor scope X.env = pure cl) (S:aw pre ys scope) (hcl:Clo X cl) (hfr:(scope.names.all fun p=>p.2 != .free || (cl.lookup p.1).isSome) = true) (fr:Frees X scope cl ys is) (hs:∀ v,foldedSetIterable iter X.env v = pure v:=by intro _; rfl) :
  PE X (.ListComp elt [⟨tg,iter,[],0⟩] scope pos) (gh pre.length wi is g te):=fun pins s σ H Q I h=>oH hc hi hg he (fun _ _ _ _=>pcN) (Nat.zero_le _) hclos S hcl hfr fr hs pins s σ H Q I (goN h)
theorem fP (hN:X.N.Nodup) (hj:X.N[jz]? = some z) (hzLoc:Loc X.env.scope z) (hsw:swapsWith (.ListComp elt [⟨tg,iter,[],0⟩] scope pos) (some (.Name z pz)) spos.line X.env = pure true) (hc:X.calm = true) (hi:PI X tg iter wi) (hg:∀ C s H fp,PG (aj X (pre ++ ys) scope cl C s H fp) tg g) (he:∀ C s H fp,PE (aj X (pre ++ ys) scope cl C s H fp) elt te)
  (hclos:closureFor scope X.env = pure cl) (S:aw pre ys scope) (hcl:Clo X cl) (hfr:(scope.names.all fun p=>p.2 != .free || (cl.lookup p.1).isSome) = true) (fr:Frees X scope cl ys is) (hs:∀ v,foldedSetIterable iter X.env v = pure v:=by intro _; rfl) (hfn:X.fn z = true \/ X.env.scope.names.lookup z = some .local:=by first | exact .inl rfl | exact .inr rfl | assumption) :
  PS X (.Assign [.Name z pz] (.ListComp elt [⟨tg,iter,[],0⟩] scope pos) spos) (ng (gh pre.length wi is g te) (bJ jz)):=fun pins s σ H D I h=>mS hN hj hzLoc hsw hc hi hg he (fun _ _ _ _=>pcN) (Nat.zero_le _) hclos S hcl hfr fr hs hfn pins s σ H D I (goN h)
end
end L3

set_option Elab.async false
set_option linter.all false
set_option maxRecDepth 100000
set_option maxHeartbeats 4000000
namespace L3
open PySem PySem.Spec PyProof.Rows L2
abbrev bZ (h:Heap) (z TI TO p:Addr) (f:Bool):Prop:=h.get? z = some { cls:=.type "zip",dict:=none,data:=.fields #[rawInt p,.bool f,.bool false,.ref TI,.ref TO],slots:=#[] }
section
variable {prog:Program} {w:World} {A:Around} {E:Value -> Shared -> Prop} {s:Shared}
theorem ml {a : Addr} {o : Obj} {Q : Option Obj → Shared → Prop} (ho : s.heap.get? a = some o) (h : Q (some o) s) : wpAny (model prog w) A (loadIfAlive a) Q E s :=
  fun _ _ _ => (ho ▸ h : Q (s.heap.get? a) s)
theorem Al {z TI TO p:Addr} {f:Bool} {op:Obj} {Q:Bool -> Shared -> Prop} (hz:bZ s.heap z TI TO p f) (hp:s.heap.get? p = some op)
  (q:∀ h',bZ h' z TI TO p true -> Heap.SameBut z s.heap h' -> Q false { s with heap:=h' }):wpAny (model prog w) A (Builtin.SmallTypes.ownedTupleIsFree (.ref z)) Q E s:=by
 unfold Builtin.SmallTypes.ownedTupleIsFree
 refine wpAny_bind (wpAny_field hz rfl (x:=rawInt p) rfl ?_)
 show wpAny _ _ (loadIfAlive ((p:Int).toNat) >>= _) _ _ _
 rw [Int.toNat_natCast]
 refine wpAny_bind (ml hp ?_)
 rw [if_neg (by simp)]
 refine wpAny_bind (wpAny_field hz rfl (x := .bool f) rfl ?_)
 by_cases hf : f = true
 · subst hf
   rw [if_neg (by decide)]
   exact wpAny_pure (q s.heap hz (Heap.SameBut.refl _ _))
 · rw [Bool.not_eq_true] at hf
   subst hf
   rw [if_pos (by decide)]
   exact wpAny_bind (wpAny_setField_rec hz (by simp) fun g hg sg => wpAny_pure (q g hg sg))
theorem ll {z TI TO i1 i2 a1 a2 p:Addr} {f:Bool} {op:Obj} {k1 k2:Bool} {n m:Nat} {xs ys:Array Value} {x y:Value} {Q:Value -> Shared -> Prop} (D:ZipApart z TI TO i1 i2 a1 a2)
  (hz:bZ s.heap z TI TO p f) (hp:s.heap.get? p = some op) (hI:IsPair s.heap TI (.ref i1) (.ref i2)) (h1:ItO s.heap k1 i1 a1 n) (h2:ItO s.heap k2 i2 a2 m) (q1:SqO s.heap k1 a1 xs) (q2:SqO s.heap k2 a2 ys) (hx:xs[n]? = some x) (hy:ys[m]? = some y)
  (q:∀ h',bZ h' z TI TO p true -> ItO h' k1 i1 a1 (n + 1) -> ItO h' k2 i2 a2 (m + 1) -> IsPair h' s.heap.objs.size x y -> h'.objs.size = s.heap.objs.size + 1 ->
   (∀ c o,c ≠ z -> c ≠ i1 -> c ≠ i2 -> s.heap.get? c = some o -> h'.get? c = some o) -> Q (.ref s.heap.objs.size) { s with heap:=h' }) :
  wpAny (model prog w) A (Builtin.«zip.__next__» ⟨[.ref z],[]⟩) (fun fin s'=>∃ v,fin = .done (.ret v) /\ Q v s') E s:=by
 show wpAny _ _ (field (.ref z) 2 >>= _) _ _ _; refine wpAny_bind (wpAny_field hz rfl (x:=.bool false) rfl ?_)
 show wpAny _ _ (field (.ref z) 3 >>= _) _ _ _; refine wpAny_bind (wpAny_field hz rfl (x:=.ref TI) rfl (wpAny_bind (wpAny_seqItems hI rfl ?_)))
 show wpAny _ _ (Builtin.SmallTypes.ownedTupleIsFree (.ref z) >>= _) _ _ _; refine wpAny_bind (Al hz hp fun g1 z1 s1=>?_)
 have s1':Heap.SameBut z s.heap g1:=s1
 simp only [Bool.false_eq_true,if_false]
 refine wpAny_bind ?_
 simp only [List.forIn_toArray,List.forIn_cons,List.forIn_nil]
 refine wpAny_bind (wpAny_bind (wpAny_holding ?_)); show wpAny _ _ (Builtin.SmallTypes.nextOf (.ref i1) >>= _) _ _ _
 refine wpAny_bind (aF (s:={ s with heap:=g1 }) (h1.at fun o e=>s1'.extBut _ _ D.i1z e) (q1.at fun o e=>s1'.extBut _ _ D.l1z e) hx fun g2 r2 s2=>wpAny_pure ?_)
 have s2':Heap.SameBut i1 g1 g2:=s2
 refine wpAny_pure ?_
 refine wpAny_bind (wpAny_bind (wpAny_holding ?_)); show wpAny _ _ (Builtin.SmallTypes.nextOf (.ref i2) >>= _) _ _ _
 refine wpAny_bind (aF (s:={ s with heap:=g2 }) (h2.at fun o e=>s2'.extBut _ _ D.i12.symm (s1'.extBut _ _ D.i2z e)) (q2.at fun o e=>s2'.extBut _ _ D.l2i1 (s1'.extBut _ _ D.l2z e)) hy fun g4 r4 s4=>wpAny_pure ?_)
 have s4':Heap.SameBut i2 g2 g4:=s4
 refine wpAny_pure (wpAny_pure ?_)
 refine wpAny_bind (wpAny_newTuple (hsz:=by show (2:Nat) <= sizeLine; decide) ?_)
 have sz:g4.objs.size = s.heap.objs.size:=by rw [s4'.1,s2'.1,s1'.1]
 refine wpAny_pure ⟨_,rfl,?_⟩
 show Q (.ref g4.objs.size) _
 have k4:∀ c o,c ≠ z -> c ≠ i1 -> c ≠ i2 -> s.heap.get? c = some o -> g4.get? c = some o:=fun c o n1 n3 n4 e=>s4'.extBut _ _ n4 (s2'.extBut _ _ n3 (s1'.extBut _ _ n1 e))
 rw [sz]
 refine q _ (Heap.get?_push_of_some _ (s4'.extBut _ _ D.i2z.symm (s2'.extBut _ _ D.i1z.symm z1))) (r2.at fun o e=>Heap.get?_push_of_some _ (s4'.extBut _ _ D.i12 e)) (r4.at fun o e=>Heap.get?_push_of_some _ e) ?_ ?_ fun c o n1 n3 n4 e=>Heap.get?_push_of_some _ (k4 c o n1 n3 n4 e)
 ·rw [<- sz]; exact Heap.get?_push_size _ rfl
 ·rw [Heap.size_push,sz]
theorem ma {z TI TO i1 i2 a1 a2 p:Addr} {f:Bool} {op:Obj} {k1 k2:Bool} {n m:Nat} {xs ys:Array Value} {Q:Fin -> Shared -> Prop} (hh:A.handled = none) (D:ZipApart z TI TO i1 i2 a1 a2)
  (hz:bZ s.heap z TI TO p f) (hp:s.heap.get? p = some op) (hI:IsPair s.heap TI (.ref i1) (.ref i2)) (h1:ItO s.heap k1 i1 a1 n) (h2:ItO s.heap k2 i2 a2 m) (q1:SqO s.heap k1 a1 xs) (q2:SqO s.heap k2 a2 ys) (hend:xs[n]? = none \/ ys[m]? = none)
  (q:∀ h' e,(∀ c o,c ≠ z -> c ≠ i1 -> c ≠ i2 -> s.heap.get? c = some o -> h'.get? c = some o) -> (∃ o,h'.get? e = some o /\ o.cls = .type "StopIteration") -> E (.ref e) { s with heap:=h' }) :
  wpAny (model prog w) A (Builtin.«zip.__next__» ⟨[.ref z],[]⟩) Q E s:=by
 show wpAny _ _ (field (.ref z) 2 >>= _) _ _ _; refine wpAny_bind (wpAny_field hz rfl (x:=.bool false) rfl ?_)
 show wpAny _ _ (field (.ref z) 3 >>= _) _ _ _; refine wpAny_bind (wpAny_field hz rfl (x:=.ref TI) rfl (wpAny_bind (wpAny_seqItems hI rfl ?_)))
 show wpAny _ _ (Builtin.SmallTypes.ownedTupleIsFree (.ref z) >>= _) _ _ _; refine wpAny_bind (Al hz hp fun g1 z1 s1=>?_)
 have s1':Heap.SameBut z s.heap g1:=s1
 simp only [Bool.false_eq_true,if_false]
 refine wpAny_bind ?_
 simp only [List.forIn_toArray,List.forIn_cons,List.forIn_nil]
 refine wpAny_bind (wpAny_bind (wpAny_holding ?_)); show wpAny _ _ (Builtin.SmallTypes.nextOf (.ref i1) >>= _) _ _ _
 cases hx:xs[n]? with
 | none =>
  refine wpAny_bind (a8 (s:={ s with heap:=g1 }) hh (h1.at fun o e=>s1'.extBut _ _ D.i1z e) (q1.at fun o e=>s1'.extBut _ _ D.l1z e) hx fun g2 e s2 he=>?_)
  exact q g2 e (fun c o n1 n3 _ y=>s2 _ _ n3 (s1'.extBut _ _ n1 y)) he
 | some x =>
  have hy:ys[m]? = none:=hend.elim (fun y=>by rw [hx] at y; cases y) id
  refine wpAny_bind (aF (s:={ s with heap:=g1 }) (h1.at fun o e=>s1'.extBut _ _ D.i1z e) (q1.at fun o e=>s1'.extBut _ _ D.l1z e) hx fun g2 r2 s2=>wpAny_pure ?_)
  have s2':Heap.SameBut i1 g1 g2:=s2
  refine wpAny_pure ?_
  refine wpAny_bind (wpAny_bind (wpAny_holding ?_)); show wpAny _ _ (Builtin.SmallTypes.nextOf (.ref i2) >>= _) _ _ _
  refine wpAny_bind (a8 (s:={ s with heap:=g2 }) hh (h2.at fun o e=>s2'.extBut _ _ D.i12.symm (s1'.extBut _ _ D.i2z e)) (q2.at fun o e=>s2'.extBut _ _ D.l2i1 (s1'.extBut _ _ D.l2z e)) hy fun g4 e s4 he=>?_)
  exact q g4 e (fun c o n1 n3 n4 y=>s4 _ _ n4 (s2'.extBut _ _ n3 (s1'.extBut _ _ n1 y))) he
theorem jy {z TI TO i1 i2 a1 a2 p:Addr} {f:Bool} {op:Obj} {k1 k2:Bool} {n m:Nat} {xs ys:Array Value} {x y:Value} {Q:Option Value -> Shared -> Prop} (D:ZipApart z TI TO i1 i2 a1 a2)
  (hz:bZ s.heap z TI TO p f) (hp:s.heap.get? p = some op) (hI:IsPair s.heap TI (.ref i1) (.ref i2)) (h1:ItO s.heap k1 i1 a1 n) (h2:ItO s.heap k2 i2 a2 m) (q1:SqO s.heap k1 a1 xs) (q2:SqO s.heap k2 a2 ys) (hx:xs[n]? = some x) (hy:ys[m]? = some y)
  (q:∀ h',bZ h' z TI TO p true -> ItO h' k1 i1 a1 (n + 1) -> ItO h' k2 i2 a2 (m + 1) -> IsPair h' s.heap.objs.size x y -> h'.objs.size = s.heap.objs.size + 1 ->
   (∀ c o,c ≠ z -> c ≠ i1 -> c ≠ i2 -> s.heap.get? c = some o -> h'.get? c = some o) -> Q (some (.ref s.heap.objs.size)) { s with heap:=h' }):wpAny (model prog w) A (pyNext (.ref z)) Q E s:=by
 have hT:s.TypeIs (.ref z) "zip":=⟨_,hz,rfl⟩
 unfold pyNext
 exact wpAny_bind (wpAny_attempt (wpAny_callSpecial?_slot (name:=Str.ofString "__next__") hT F.slot_zip_next (wpAny_call_entry F.slot_zip_next hT F.entry_zip_next (ll D hz hp hI h1 h2 q1 q2 hx hy fun h' y1 y3 y4 y5 y6 y7=>wpAny_pure (q h' y1 y3 y4 y5 y6 y7)) (F.args_zip_next_1 _))))
theorem kF {z TI TO i1 i2 a1 a2 p:Addr} {f:Bool} {op:Obj} {k1 k2:Bool} {n m:Nat} {xs ys:Array Value} {Q:Option Value -> Shared -> Prop} (hh:A.handled = none) (D:ZipApart z TI TO i1 i2 a1 a2)
  (hz:bZ s.heap z TI TO p f) (hp:s.heap.get? p = some op) (hI:IsPair s.heap TI (.ref i1) (.ref i2)) (h1:ItO s.heap k1 i1 a1 n) (h2:ItO s.heap k2 i2 a2 m) (q1:SqO s.heap k1 a1 xs) (q2:SqO s.heap k2 a2 ys) (hend:xs[n]? = none \/ ys[m]? = none)
  (q:∀ h',(∀ c o,c ≠ z -> c ≠ i1 -> c ≠ i2 -> s.heap.get? c = some o -> h'.get? c = some o) -> Q none { s with heap:=h' }):wpAny (model prog w) A (pyNext (.ref z)) Q E s:=by
 have hT:s.TypeIs (.ref z) "zip":=⟨_,hz,rfl⟩
 unfold pyNext
 refine wpAny_bind (wpAny_attempt (wpAny_callSpecial?_slot (name:=Str.ofString "__next__") hT F.slot_zip_next (wpAny_call_entry F.slot_zip_next hT F.entry_zip_next (ma hh D hz hp hI h1 h2 q1 q2 hend fun h' e hk he=>?_) (F.args_zip_next_1 _))))
 obtain ⟨o,ho,hc⟩:=he
 exact wpAny_bind (wpAny_isInstance (T:="StopIteration") (b:=true) ⟨o,ho,hc⟩ isSubtype_stop (wpAny_pure (q _ hk)))
end
end L3
namespace L3
open PySem PySem.Spec PyProof.Rows L2
theorem iM:typeLookup (.type "zip") "__len__" = pure none:=by rw [typeLookup_type,builtinLookup_eq_fast]; kernel_rfl
theorem iL:typeLookup (.type "zip") "__length_hint__" = pure none:=by rw [typeLookup_type,builtinLookup_eq_fast]; kernel_rfl
def ZX (z TI TO i1 i2:Addr) (k1 k2:Bool) (a1 a2 S:Addr) (i:Nat) (h:Heap):Prop :=
 IsPair h TI (.ref i1) (.ref i2) /\ ItO h k1 i1 a1 i /\ ItO h k2 i2 a2 i /\ ((IsZip h z TI TO .none /\ ∃ a b,IsPair h TO a b) \/ ∃ p f op,bZ h z TI TO p f /\ h.get? p = some op /\ S < p)
structure ZG (xs ys:Array Value) (S:Addr) (h:Heap) (as:List Addr):Prop where
 rise:as.Pairwise (· < ·)
 above:∀ a ∈ as,S < a
 pairs:∀ (j:Nat) (a:Addr),as[j]? = some a -> ∃ x y,xs[j]? = some x /\ ys[j]? = some y /\ IsPair h a x y
theorem ZG.there {xs ys : Array Value} {S : Addr} {h : Heap} {as : List Addr} (g : ZG xs ys S h as) {a : Addr} (ha : a ∈ as) : a < h.objs.size := by
 obtain ⟨j, hj⟩ := List.getElem?_of_mem ha
 obtain ⟨_, _, _, _, e⟩ := g.pairs j a hj
 exact Heap.lt_size e
theorem ZG.snoc {xs ys : Array Value} {S n : Addr} {h h' : Heap} {as : List Addr} {x y : Value} (g : ZG xs ys S h as) (hx : xs[as.length]? = some x) (hy : ys[as.length]? = some y) (hp : IsPair h' n x y) (hn : S < n) (hl : h.objs.size ≤ n)
  (up : ∀ a o, S < a → h.get? a = some o → h'.get? a = some o) : ZG xs ys S h' (as ++ [n]) where
 rise := by
  simp only [List.pairwise_append, List.pairwise_cons, List.mem_cons, List.not_mem_nil]
  exact ⟨g.rise, by simp, fun a ha b hb => hb.elim (fun e => e ▸ Nat.lt_of_lt_of_le (g.there ha) hl) False.elim⟩
 above := fun a ha => by
  simp only [List.mem_append, List.mem_cons, List.not_mem_nil, or_false] at ha
  exact ha.elim (g.above a) fun e => e ▸ hn
 pairs := fun j a e => by
  rw [List.getElem?_append] at e
  split at e
  ·obtain ⟨u, v, e1, e2, e3⟩ := g.pairs j a e
   exact ⟨u, v, e1, e2, up a _ (g.above a (List.mem_of_getElem? e)) e3⟩
  ·have hj : j - as.length = 0 := by
    by_cases hz : j - as.length = 0
    ·exact hz
    ·rw [List.getElem?_eq_none (by simp; omega)] at e; cases e
   have hj' : j = as.length := by omega
   rw [hj] at e
   cases e
   exact ⟨x, y, hj' ▸ hx, hj' ▸ hy, hp⟩
abbrev lObj_g (xs : List Value) (c : Nat) : Obj := { cls := .type "list", data := .seq xs.toArray c }
def keepB (S : Addr) (h h' : Heap) : Prop := ∀ b o, b ≠ S → h.get? b = some o → h'.get? b = some o
section
variable {prog : Program} {w : World} {A : Around} {E : Value → Shared → Prop} {s : Shared} {S it : Addr} {xs : List Value} {c : Nat}
theorem putL_g {f : Array Value → Array Value} {Q : Unit → Shared → Prop} (hS : s.heap.get? S = some (lObj_g xs c)) (h1 : xs.length ≤ sizeLine) (h2 : (f xs.toArray).size ≤ sizeLine + 1)
  (q : ∀ h' c', h'.get? S = some (lObj_g (f xs.toArray).toList c') → keepB S s.heap h' → Q () { s with heap := h' }) : wpAny (model prog w) A (updateSeq S f) Q E s :=
 wpAny_updateSeq hS rfl (q _ _ (Heap.get?_update_self (Obj.mapSeq f) hS rfl) fun _ _ hb e => by rw [Heap.get?_update_other _ _ hb.symm]; exact e) h1 h2
theorem grow_g {J J' : List Value → Heap → Prop} {N : Nat} {R : Result → Shared → Prop} {res : Value} (hN : N ≤ sizeLine) (keep : ∀ vs h h', J vs h → keepB S h h' → J vs h')
  (next : ∀ vs (h : Heap) (Q : Option Value → Shared → Prop) (E : Value → Shared → Prop), J vs h → vs.length < N → S < h.objs.size → (∀ v h', J (vs ++ [v]) h' → (∀ o, h.get? S = some o → h'.get? S = some o) → Q (some v) { s with heap := h' }) → wpAny (model prog w) A.in1 (pyNext (.ref it)) Q E { s with heap := h })
  (stop : ∀ vs (h : Heap) (Q : Option Value → Shared → Prop) (E : Value → Shared → Prop), J vs h → vs.length = N → (∀ h', J' vs h' → (∀ o, h.get? S = some o → h'.get? S = some o) → Q none { s with heap := h' }) → wpAny (model prog w) A.in1 (pyNext (.ref it)) Q E { s with heap := h })
  (hR : ∀ vs h c, vs.length = N → J' vs h → h.get? S = some (lObj_g vs c) → R (.ok (.ret res)) { s with heap := h }) (vs : List Value) (h : Heap) (c : Nat) (hl : vs.length ≤ N) (j : J vs h) (hS : h.get? S = some (lObj_g vs c)) :
  codeAny (model prog w) A (.builtin "list.extend.loop" ⟨[.ref S, .ref it, res], []⟩) R { s with heap := h } := by
 apply codeAny_builtin PySem.F.entry_extend_loop
 rw [Around.under_plainId PySem.F.plain_extend_loop]
 by_cases hn : vs.length = N
 ·exact wpAny_bind (stop vs h _ _ j hn fun g j' e => wpAny_pure (hR vs g c hn j' (e _ hS)))
 ·refine wpAny_bind (next vs h _ _ j (by omega) (Heap.lt_size hS) fun v g j' e => wpAny_bind (putL_g (f := (·.push v)) (s := { s with heap := g }) (e _ hS) (by omega) (by simp; omega) fun g' c' hg kg => wpAny_pure ⟨plainId_quiet PySem.F.plain_extend_loop _, ?_⟩))
  rw [show (vs.toArray.push v).toList = vs ++ [v] by simp] at hg
  exact grow_g hN keep next stop hR (vs ++ [v]) g' c' (by simp; omega) (keep _ _ _ j' kg) hg
termination_by N - vs.length
decreasing_by simp; omega
theorem gather_g {T : String} {room : Bool} {Q : Value → Shared → Prop} (hT : s.TypeIs (.ref it) T) (hl : (Value.type T == Value.type "list") = false) (ht : (Value.type T == Value.type "tuple") = false)
  (self : ∀ (h : Heap) (Q : Value → Shared → Prop) (E : Value → Shared → Prop), (∀ o, s.heap.get? it = some o → h.get? it = some o) → Q (.ref it) { s with heap := h } → wpAny (model prog w) A.in1.in1 (pyIter (.ref it)) Q E { s with heap := h })
  (look : ∀ (h : Heap) (Q : Bool → Shared → Prop) (E : Value → Shared → Prop), (∀ o, s.heap.get? it = some o → h.get? it = some o) → Q room { s with heap := h } → wpAny (model prog w) A.in1.in1 (Builtin.List.listLengthHint (.ref it)) Q E { s with heap := h })
  (go : ∀ (h : Heap) (c : Nat), (∀ b o, s.heap.get? b = some o → h.get? b = some o) → h.get? s.heap.objs.size = some (lObj_g [] c) →
   codeAny (model prog w) A.in1 (.builtin "list.extend.loop" ⟨[.ref s.heap.objs.size, .ref it, .none], []⟩) (wants (fun r s' => r = .none ∧ Q (.ref s.heap.objs.size) s') E) { s with heap := h }) :
  wpAny (model prog w) A (call (.type "list") [.ref it]) Q E s := by
 obtain ⟨oi, hi, ci⟩ := hT
 have lt : it < s.heap.objs.size := Heap.lt_size hi
 apply callType_codes (Q₁ := fun v s' => v = .ref s.heap.objs.size ∧ s' = { s with heap := s.heap.push (lObj_g [] 0) }) PySem.F.called_list (PySem.F.typeCall_list_1 _) PySem.F.entry_list_init (code_list_new _ ⟨rfl, rfl⟩)
 rintro _ _ ⟨rfl, rfl⟩
 have new : (s.heap.push (lObj_g [] 0)).get? s.heap.objs.size = some (lObj_g [] 0) := Heap.get?_push_size _ rfl
 have old : ∀ b o, s.heap.get? b = some o → (s.heap.push (lObj_g [] 0)).get? b = some o := fun b o e => Heap.get?_push_of_some _ e
 refine ⟨⟨_, new, rfl⟩, PySem.F.args_list_init_2 _ _, wpAny_bind (wpAny_bind (wpAny_seqItems new rfl (wpAny_pure ?_)))⟩
 refine wpAny_bind (putL_g (s := { s with heap := s.heap.push (lObj_g [] 0) }) (f := fun _ => #[]) new (Nat.zero_le _) (Nat.zero_le _) fun g c1 n1 k1 => wpAny_bind (wpAny_letGo ?_))
 have old1 : ∀ b o, s.heap.get? b = some o → g.get? b = some o := fun b o e => k1 b o (Nat.ne_of_lt (Heap.lt_size e)) (old b o e)
 refine wpAny_bind (wpAny_typeOf (T := T) ⟨oi, old1 _ _ hi, ci⟩ ?_)
 rw [if_neg (by simp [Builtin.List.listSameRef, hl, ht]; exact fun e => absurd e (Nat.ne_of_gt lt))]
 refine wpAny_bind (self g _ _ (old1 it) (wpAny_bind (wpAny_holding (look g _ _ (old1 it) ?_))))
 have last : ∀ h c, keepB s.heap.objs.size g h → h.get? s.heap.objs.size = some (lObj_g [] c) → codeAny (model prog w) A.in1 (.builtin "list.extend.loop" ⟨[.ref s.heap.objs.size, .ref it, .none], []⟩) (wants (fun r s' => r = .none ∧ Q (.ref s.heap.objs.size) s') E) { s with heap := h } :=
  fun h c k n => go h c (fun b o e => k b o (Nat.ne_of_lt (Heap.lt_size e)) (old1 b o e)) n
 have fin : ∀ h c, keepB s.heap.objs.size g h → h.get? s.heap.objs.size = some (lObj_g [] c) → wpAny (model prog w) A.in1.in1 (again (.builtin "list.extend.loop" ⟨[.ref s.heap.objs.size, .ref it, .none], []⟩))
   (fun fin s' => match fin with | .done f => wants (fun r s' => r = .none ∧ Q (.ref s.heap.objs.size) s') E (.ok f) s' | .again c' => c'.quiet = true ∧ codeAny (model prog w) A.in1 c' (wants (fun r s' => r = .none ∧ Q (.ref s.heap.objs.size) s') E) s')
   (fun e s' => wants (fun r s' => r = .none ∧ Q (.ref s.heap.objs.size) s') E (.error e) s') { s with heap := h } := fun h c k n => wpAny_pure ⟨plainId_quiet PySem.F.plain_extend_loop _, last h c k n⟩
 refine wpAny_ite_split (fun _ => wpAny_bind (wpAny_rule (wpAny_bind (wpAny_bind (putL_g (s := { s with heap := g }) (f := (·.push .none)) n1 (Nat.zero_le _) (by simp) fun g2 c2 n2 k2 => ?_))))) fun _ => fin g c1 (fun _ _ _ e => e) n1
 refine putL_g (s := { s with heap := g2 }) (f := (·.pop)) n2 (show 1 ≤ sizeLine by decide) (by simp) fun g3 c3 n3 k3 => ?_
 exact fin g3 c3 (fun b o hb e => k3 b o hb (k2 b o hb e)) n3
end
section
variable {prog:Program} {w:World} {A:Around} {E:Value -> Shared -> Prop} {s:Shared} {z TI TO i1 i2 a1 a2 S:Addr} {k1 k2:Bool} {xs ys:Array Value}
theorem rq {i:Nat} {x y:Value} {Q:Option Value -> Shared -> Prop} (D:ZipApart z TI TO i1 i2 a1 a2) (hb:∀ b ∈ [z,TI,TO,i1,i2,a1,a2],b < S) (hS:S < s.heap.objs.size) (st:ZX z TI TO i1 i2 k1 k2 a1 a2 S i s.heap) (q1:SqO s.heap k1 a1 xs) (q2:SqO s.heap k2 a2 ys) (hx:xs[i]? = some x) (hy:ys[i]? = some y)
  (q:∀ h',ZX z TI TO i1 i2 k1 k2 a1 a2 S (i + 1) h' -> IsPair h' s.heap.objs.size x y -> h'.objs.size = s.heap.objs.size + 1 -> (∀ c o,c ∉ [z,TO,i1,i2] -> s.heap.get? c = some o -> h'.get? c = some o) -> Q (some (.ref s.heap.objs.size)) { s with heap:=h' }) :
  wpAny (model prog w) A (pyNext (.ref z)) Q E s:=by
 obtain ⟨hI,h1,h2,hz⟩:=st
 rcases hz with ⟨hz,a,b,hO⟩ | ⟨p,f,op,hz,hp,hSp⟩
 ·refine eL D hz hI hO h1 h2 q1 q2 hx hy fun h' y1 y2 y3 y4 y5 y6 y7=>?_
  refine q h' ⟨y7 _ _ D.TIz D.TITO D.TIi1 D.TIi2 hI,y3,y4,.inr ⟨_,false,_,y1,y5,hS⟩⟩ y5 y6 fun c o hc e=>?_
  simp only [List.mem_cons,List.not_mem_nil,or_false,not_or] at hc
  exact y7 c o hc.1 hc.2.1 hc.2.2.1 hc.2.2.2 e
 ·have pz:∀ b ∈ [z,TI,TO,i1,i2,a1,a2],p ≠ b:=fun b h=>Nat.ne_of_gt (Nat.lt_trans (hb b h) hSp)
  refine jy D hz hp hI h1 h2 q1 q2 hx hy fun h' y1 y3 y4 y5 y6 y7=>?_
  refine q h' ⟨y7 _ _ D.TIz D.TIi1 D.TIi2 hI,y3,y4,.inr ⟨p,true,op,y1,y7 p op (pz _ (by simp)) (pz _ (by simp)) (pz _ (by simp)) hp,hSp⟩⟩ y5 y6 fun c o hc e=>?_
  simp only [List.mem_cons,List.not_mem_nil,or_false,not_or] at hc
  exact y7 c o hc.1 hc.2.2.1 hc.2.2.2 e
theorem qW {i:Nat} {Q:Option Value -> Shared -> Prop} (hh:A.handled = none) (D:ZipApart z TI TO i1 i2 a1 a2) (st:ZX z TI TO i1 i2 k1 k2 a1 a2 S i s.heap) (q1:SqO s.heap k1 a1 xs) (q2:SqO s.heap k2 a2 ys) (hend:xs[i]? = none \/ ys[i]? = none)
  (q:∀ h',(∀ c o,c ∉ [z,TO,i1,i2] -> s.heap.get? c = some o -> h'.get? c = some o) -> Q none { s with heap:=h' }):wpAny (model prog w) A (pyNext (.ref z)) Q E s:=by
 obtain ⟨hI,h1,h2,hz⟩:=st
 rcases hz with ⟨hz,a,b,hO⟩ | ⟨p,f,op,hz,hp,hSp⟩
 ·refine fK hh D hz hI hO h1 h2 q1 q2 hend fun h' y7=>q h' fun c o hc e=>?_
  simp only [List.mem_cons,List.not_mem_nil,or_false,not_or] at hc
  exact y7 c o hc.1 hc.2.1 hc.2.2.1 hc.2.2.2 e
 ·refine kF hh D hz hp hI h1 h2 q1 q2 hend fun h' y7=>q h' fun c o hc e=>?_
  simp only [List.mem_cons,List.not_mem_nil,or_false,not_or] at hc
  exact y7 c o hc.1 hc.2.2.1 hc.2.2.2 e
theorem ZX.keep {i : Nat} {h h' : Heap} (st : ZX z TI TO i1 i2 k1 k2 a1 a2 S i h) (hb : ∀ b ∈ [z, TI, TO, i1, i2, a1, a2], b < S) (hk : keepB S h h') : ZX z TI TO i1 i2 k1 k2 a1 a2 S i h' := by
 have pz : ∀ b ∈ [z, TI, TO, i1, i2, a1, a2], ∀ o, h.get? b = some o → h'.get? b = some o := fun b m o e => hk b o (Nat.ne_of_lt (hb b m)) e
 obtain ⟨hI, h1, h2, hz⟩ := st
 refine ⟨pz _ (by simp) _ hI, h1.at fun o e => pz _ (by simp) o e, h2.at fun o e => pz _ (by simp) o e, hz.imp ?_ ?_⟩
 ·rintro ⟨hz, a, b, hO⟩
  exact ⟨pz _ (by simp) _ hz, a, b, pz _ (by simp) _ hO⟩
 ·rintro ⟨p, f, op, hz, hp, hSp⟩
  exact ⟨p, f, op, pz _ (by simp) _ hz, hk _ _ (Nat.ne_of_gt hSp) hp, hSp⟩
def ZJ_g (z TI TO i1 i2 : Addr) (k1 k2 : Bool) (a1 a2 S : Addr) (xs ys : Array Value) (h₁ : Heap) (vs : List Value) (h : Heap) : Prop :=
 ∃ as, vs = as.map Value.ref ∧ ZX z TI TO i1 i2 k1 k2 a1 a2 S as.length h ∧ SqO h k1 a1 xs ∧ SqO h k2 a2 ys ∧ ZG xs ys S h as ∧ ∀ b o, b ≠ S → b ∉ [z, TO, i1, i2] → h₁.get? b = some o → h.get? b = some o
def ZE_g (z TO i1 i2 S : Addr) (xs ys : Array Value) (h₁ : Heap) (vs : List Value) (h : Heap) : Prop :=
 ∃ as, vs = as.map Value.ref ∧ ZG xs ys S h as ∧ ∀ b o, b ≠ S → b ∉ [z, TO, i1, i2] → h₁.get? b = some o → h.get? b = some o
theorem sY {Q : Value → Shared → Prop} (hh : A.handled = none) (D : ZipApart z TI TO i1 i2 a1 a2) (hb : ∀ b ∈ [z, TI, TO, i1, i2, a1, a2], b < s.heap.objs.size) (hn : min xs.size ys.size ≤ sizeLine)
  (hz : IsZip s.heap z TI TO .none) (hI : IsPair s.heap TI (.ref i1) (.ref i2)) (hO : ∃ a b, IsPair s.heap TO a b) (h1 : ItO s.heap k1 i1 a1 0) (h2 : ItO s.heap k2 i2 a2 0) (q1 : SqO s.heap k1 a1 xs) (q2 : SqO s.heap k2 a2 ys)
  (hQ : ∀ h' tk acc c as, (∀ b o, b ∉ [z, TO, i1, i2] → s.heap.get? b = some o → h'.get? b = some o) → h'.get? s.heap.objs.size = some { cls := .type "list", dict := none, data := .seq acc c, slots := #[] } → as.length = min xs.size ys.size → ZG xs ys s.heap.objs.size h' as →
   acc.toList = as.map Value.ref → Q (.ref s.heap.objs.size) { s with heap := h', toks := tk }) :
  wpAny (model prog w) A (call (.type "list") [.ref z]) Q E s := by
 obtain ⟨ta, tb, hO⟩ := hO
 have zt : ∀ h : Heap, (∀ o, s.heap.get? z = some o → h.get? z = some o) → ({ s with heap := h } : Shared).TypeIs (.ref z) "zip" := fun h k => ⟨_, k _ hz, rfl⟩
 have sub : ∀ b, b ∈ [z, TO, i1, i2] → b < s.heap.objs.size := fun b m => hb b (by simp only [List.mem_cons] at m ⊢; rcases m with e | e | e | e | e <;> simp_all)
 have nS : s.heap.objs.size ∉ [z, TO, i1, i2] := fun m => Nat.lt_irrefl _ (sub _ m)
 have nP : ∀ b, s.heap.objs.size < b → b ∉ [z, TO, i1, i2] := fun b g m => Nat.lt_asymm g (sub b m)
 have n1 : a1 ∉ [z, TO, i1, i2] := by simp [D.l1z, D.l1TO, D.l1i1, D.l1i2]
 have n2 : a2 ∉ [z, TO, i1, i2] := by simp [D.l2z, D.l2TO, D.l2i1, D.l2i2]
 have kS : ∀ {h h' : Heap}, (∀ c o, c ∉ [z, TO, i1, i2] → h.get? c = some o → h'.get? c = some o) → ∀ o, h.get? s.heap.objs.size = some o → h'.get? s.heap.objs.size = some o := fun k o e => k _ o nS e
 refine gather_g (T := "zip") (room := true) (zt _ fun _ e => e) (by decide) (by decide) (fun h Q' E' k q' => wpAny_pyIter_zip (k _ hz) q') (fun h Q' E' k q' => ?_) fun h c k hl => ?_
 ·unfold Builtin.List.listLengthHint
  exact wpAny_bind (wpAny_specialOf (zt h k) iM (wpAny_bind (wpAny_specialOf (zt h k) iL (wpAny_pure q'))))
 ·refine grow_g (N := min xs.size ys.size) (J := ZJ_g z TI TO i1 i2 k1 k2 a1 a2 s.heap.objs.size xs ys s.heap) (J' := ZE_g z TO i1 i2 s.heap.objs.size xs ys s.heap) hn ?_ ?_ ?_ ?_ [] h c (Nat.zero_le _) ?_ hl
  ·rintro vs g g' ⟨as, e, st, p1, p2, zg, r⟩ kp
   refine ⟨as, e, st.keep hb kp, p1.at fun o e => kp _ o (Nat.ne_of_lt (hb _ (by simp))) e, p2.at fun o e => kp _ o (Nat.ne_of_lt (hb _ (by simp))) e, ⟨zg.rise, zg.above, fun j a hj => ?_⟩, fun b o nb nm e => kp b o nb (r b o nb nm e)⟩
   obtain ⟨x, y, e1, e2, e3⟩ := zg.pairs j a hj
   exact ⟨x, y, e1, e2, kp a _ (Nat.ne_of_gt (zg.above a (List.mem_of_getElem? hj))) e3⟩
  ·rintro vs g Q' E' ⟨as, rfl, st, p1, p2, zg, r⟩ lt hs q'
   rw [List.length_map] at lt
   obtain ⟨x, hx⟩ : ∃ x, xs[as.length]? = some x := ⟨_, Array.getElem?_eq_getElem (by omega)⟩
   obtain ⟨y, hy⟩ : ∃ y, ys[as.length]? = some y := ⟨_, Array.getElem?_eq_getElem (by omega)⟩
   refine rq (s := { s with heap := g }) (S := s.heap.objs.size) D hb hs st p1 p2 hx hy fun g' st' pr sz kk => q' (.ref g.objs.size) g' ⟨as ++ [g.objs.size], by simp, ?_, p1.at fun o e => kk _ o n1 e, p2.at fun o e => kk _ o n2 e, ?_, fun b o nb nm e => kk b o nm (r b o nb nm e)⟩ (kS kk)
   ·rw [List.length_append]; exact st'
   ·exact zg.snoc hx hy pr hs (Nat.le_refl _) fun a o la e => kk a o (nP a la) e
  ·rintro vs g Q' E' ⟨as, rfl, st, p1, p2, zg, r⟩ eq q'
   rw [List.length_map] at eq
   refine qW (s := { s with heap := g }) (A := A.in1.in1) (S := s.heap.objs.size) hh D st p1 p2 (by rw [Array.getElem?_eq_none_iff, Array.getElem?_eq_none_iff]; omega) fun g' kk => q' g' ⟨as, rfl, ⟨zg.rise, zg.above, fun j a hj => ?_⟩, fun b o nb nm e => kk b o nm (r b o nb nm e)⟩ (kS kk)
   obtain ⟨x, y, e1, e2, e3⟩ := zg.pairs j a hj
   exact ⟨x, y, e1, e2, kk a _ (nP a (zg.above a (List.mem_of_getElem? hj))) e3⟩
  ·rintro vs g c' len ⟨as, rfl, zg, r⟩ hS
   exact ⟨rfl, hQ g s.toks _ c' as (fun b o nb e => r b o (Nat.ne_of_lt (Heap.lt_size e)) nb e) hS (by simpa using len) zg (by simp)⟩
  ·exact ⟨[], rfl, ⟨k _ _ hI, h1.at fun o e => k _ o e, h2.at fun o e => k _ o e, .inl ⟨k _ _ hz, ta, tb, k _ _ hO⟩⟩, q1.at fun o e => k _ o e, q2.at fun o e => k _ o e, ⟨.nil, by simp, by simp⟩, fun b o _ _ e => k b o e⟩
end
end L3
namespace L3
open PySem PySem.Spec PyProof.Rows L2
section
variable {X:Cx} {pins:List (Addr × Obj)} {σ:L2.St} {H H':Hp} {s:Shared} {h':Heap}
theorem oh {t':Nat} (I:Inv X pins σ H s) (k:∀ b u,s.heap.get? b = some u -> h'.get? b = some u) (hm:∀ b o,H b = some o -> H' b = some o) (hn:∀ b,H b = none -> b < s.heap.objs.size -> H' b = none)
  (hok:∀ b u,H b = none -> H' b = some u -> ObjOk X.prog X.w H' h' b u):Inv X pins σ H' { s with heap:=h',toks:=t' }:=by
 refine I.un ⟨fun b ob q _ _ _=>k b ob q,fun b ob q _ _ _=>⟨ob.slots,k b ob q⟩,fun b o q n _=>hn b n (Heap.lt_size q),fun b ob q _=>⟨ob,k b ob q⟩,fun b xs q=>hm b _ q,fun b o u q=>hm b _ q,fun b ps q=>⟨#[],by rw [hm b _ q]; simp⟩⟩ fun b u e=>?_
 cases hb:H b with
 | none=>exact hok b u hb e
 | some o =>
  rw [hm b o hb] at e
  cases e
  exact (I.hok b _ hb).stay (fun c v _ q=>k c v q) (fun c q=>hm c _ q) fun c xs q=>hm c _ q
def dI:Hp -> List Addr -> List V -> List V -> Hp
 | H,p :: ps,x :: xs,y :: ys=>dI (upd H p (.tup [x,y])) ps xs ys
 | H,_,_,_=>H
theorem bP:∀ {ps:List Addr} {xs ys:List V} {H:Hp} {b:Addr},b ∉ ps -> dI H ps xs ys b = H b
 | [],_,_,_,_,_=>by simp [dI]
 | p :: ps,[],_,_,_,_=>by simp [dI]
 | p :: ps,_ :: _,[],_,_,_=>by simp [dI]
 | p :: ps,x :: xs,y :: ys,H,b,hb=>by
  rw [List.mem_cons,not_or] at hb
  show dI (upd H p (.tup [x,y])) ps xs ys b = _
  rw [bP hb.2,ab hb.1]
theorem fU:∀ {ps:List Addr} {xs ys:List V} {H:Hp} {j:Nat} {p:Addr},ps.Pairwise (· < ·) -> ps.length <= xs.length -> ps.length <= ys.length -> ps[j]? = some p -> ∃ x y,xs[j]? = some x /\ ys[j]? = some y /\ dI H ps xs ys p = some (.tup [x,y])
 | [],_,_,_,_,_,_,_,_,h=>by simp at h
 | p :: ps,[],_,_,_,_,_,h1,_,_=>by simp at h1
 | p :: ps,_ :: _,[],_,_,_,_,_,h1,_=>by simp at h1
 | p :: ps,x :: xs,y :: ys,H,0,q,hp,_,_,h=>by
  cases h
  refine ⟨x,y,rfl,rfl,?_⟩
  show dI (upd H p (.tup [x,y])) ps xs ys p = _
  rw [bP (fun hm=>Nat.lt_irrefl _ ((List.pairwise_cons.mp hp).1 p hm)),af]
 | p :: ps,x :: xs,y :: ys,H,j + 1,q,hp,h1,h2,h=>by
  obtain ⟨x',y',e1,e2,e3⟩:=fU (H:=upd H p (.tup [x,y])) (List.pairwise_cons.mp hp).2 (Nat.le_of_succ_le_succ h1) (Nat.le_of_succ_le_succ h2) (show ps[j]? = some q from h)
  exact ⟨x',y',e1,e2,e3⟩
def tLZ (K:PySem.W.Frag) (ta:TA):TE:=fun σ H Q=>ta σ H fun vs H1=>∃ k1 k2 a1 a2 xs ys,vs = [.ref a1,.ref a2] /\ Sq K H1 k1 a1 xs /\ Sq K H1 k2 a2 ys /\ ∀ l ps,ps.length = min xs.length ys.length -> ps.Pairwise (· < ·) -> (∀ p ∈ ps,H1 p = none /\ l < p) -> H1 l = none -> Q (.ref l) (upd (dI H1 ps xs ys) l (.lst (ps.map V.ref)))
theorem fq:∀ ps:List Addr,Vals (ps.map V.ref) (ps.map Value.ref)
 | []=>.nil
 | _ :: ps=>.cons rfl (fq ps)
theorem y0 {a b:Expr} {ta:TA} {p p2 pos pos2:Pos} (hc:X.calm = true) (hgl:Gl X "list") (hml:X.mg "list" = none) (hg:Gl X "zip") (hm:X.mg "zip" = none) (ha:PA X [a,b] ta)
  (hs:starEach [a,b] X.env = [(false,eval a X.env),(false,eval b X.env)]:=by rfl) (hs2:starEach [b] X.env = [(false,eval b X.env)]:=by rfl)
  (he:starEach [.Call (.Name "zip" p2) [a,b] [] pos2] X.env = (false,eval (.Call (.Name "zip" p2) [a,b] [] pos2) X.env) :: starEach [] X.env:=by rfl) :
  PE X (.Call (.Name "list" p) [.Call (.Name "zip" p2) [a,b] [] pos2] [] pos) (tLZ X.K ta):=by
 intro pins s σ H Q I h
 refine wpAny_Call_Name_kw (cf I hgl hml PyProof.Rows.boot_list ?_ (by decide) (by decide))
 refine PyProof.Rows.callWith_type1 ?_ he rfl
 rw [he]
 refine Calls.spliced_cons ?_
 refine Call_ (cf I hg hm boot_zip (PyProof.Rows.callWith_type1 (thn (ha pos2 pins s σ H _ I h) fun us s1 ⟨vs,H1,I1,r1,q1⟩=>?_) (by rw [hs,hs2]) (by rw [hs2]; rfl)))
 obtain ⟨k1,k2,a1,a2,xs,ys,rfl,s1',s2',q⟩:=q1
 cases r1 with
 | cons r rr =>
  cases rr with
  | cons r' rr =>
   cases rr
   cases r
   cases r'
   obtain ⟨its1,v1,o1,z1⟩:=hX I1 s1'
   obtain ⟨its2,v2,o2,z2⟩:=hX I1 s2'
   refine jI o1 o2 fun h1 q1 q2 q3 q4 q5 kk=>Calls.spliced_nil ?_
   have D:=zipApart_new o1.lt o2.lt
   have lt1:=o1.lt
   have lt2:=o2.lt
   have zlt:s1.heap.objs.size + 4 < h1.objs.size:=Heap.lt_size q1
   have l1:=v1.length
   have l2:=v2.length
   refine sY (s:={ s1 with heap:=h1 }) (I.ok.hd hc) D (fun b hb=>?_) ?_ q1 q2 ⟨_,_,q3⟩ q4 q5 (o1.at fun o e=>kk _ o e) (o2.at fun o e=>kk _ o e) fun h' tk acc c as hk hS hl hG hacc=>?_
   ·simp only [List.mem_cons,List.not_mem_nil,or_false] at hb
    rcases hb with e | e | e | e | e | e | e <;> rw [e]
    ·exact zlt
    ·exact Nat.lt_of_le_of_lt (Nat.add_le_add_left (by decide) _) zlt
    ·exact Nat.lt_of_le_of_lt (Nat.add_le_add_left (by decide) _) zlt
    ·exact Nat.lt_of_le_of_lt (Nat.le_add_right _ _) zlt
    ·exact Nat.lt_of_le_of_lt (Nat.add_le_add_left (by decide) _) zlt
    ·exact Nat.lt_of_lt_of_le lt1 (Nat.le_trans (Nat.le_add_right _ _) (Nat.le_of_lt zlt))
    ·exact Nat.lt_of_lt_of_le lt2 (Nat.le_trans (Nat.le_add_right _ _) (Nat.le_of_lt zlt))
   ·simp; omega
   ·have hl':as.length = min xs.length ys.length:=by rw [hl]; simp; omega
    have kall:∀ b u,s1.heap.get? b = some u -> h'.get? b = some u:=fun b u e=>by
     have hlt:b < s1.heap.objs.size:=Heap.lt_size e
     refine hk b u (fun hm=>?_) (kk b u e)
     simp only [List.mem_cons,List.not_mem_nil,or_false] at hm
     rcases hm with z | z | z | z
     ·rw [z] at hlt; exact absurd (Nat.le_add_right _ 4) (Nat.not_le_of_lt hlt)
     ·rw [z] at hlt; exact absurd (Nat.le_add_right _ 3) (Nat.not_le_of_lt hlt)
     ·rw [z] at hlt; exact Nat.lt_irrefl _ hlt
     ·rw [z] at hlt; exact absurd (Nat.le_add_right _ 1) (Nat.not_le_of_lt hlt)
    have hge:s1.heap.objs.size <= h1.objs.size:=Nat.le_trans (Nat.le_add_right _ _) (Nat.le_of_lt zlt)
    have fre:∀ b,h1.objs.size <= b -> H1 b = none:=fun b hb=>I1.hok.fresh (Nat.le_trans hge hb)
    have hl1:h1.objs.size ∉ as:=fun hm=>Nat.lt_irrefl _ (hG.above _ hm)
    refine ⟨.ref h1.objs.size,upd (dI H1 as xs ys) h1.objs.size (.lst (as.map V.ref)),oh (s:=s1) I1 (t':=tk) kall (fun b o e=>?_) (fun b e hlt=>?_) (fun b u e e'=>?_),rfl,q _ as hl' hG.rise (fun p hp=>⟨fre p (Nat.le_of_lt (hG.above p hp)),hG.above p hp⟩) (fre _ (Nat.le_refl _))⟩
    ·have hb:b ∉ as:=fun hm=>by rw [fre b (Nat.le_of_lt (hG.above b hm))] at e; cases e
     rw [ab (fun z=>by rw [z,fre _ (Nat.le_refl _)] at e; cases e),bP hb]; exact e
    ·have hb:b ∉ as:=fun hm=>Nat.lt_irrefl _ (Nat.lt_trans (Nat.lt_of_lt_of_le hlt hge) (hG.above b hm))
     rw [ab (Nat.ne_of_lt (Nat.lt_of_lt_of_le hlt hge)),bP hb]; exact e
    ·by_cases hb:b = h1.objs.size
     ·subst hb
      rw [af] at e'
      cases e'
      refine ⟨?_,acc.toList,c,by rw [hacc]; exact fq as,by rw [Array.toArray_toList]; exact hS⟩
      rw [List.length_map,hl']; omega
     ·rw [ab hb] at e'
      by_cases hm:b ∈ as
      ·obtain ⟨j,hj⟩:=List.mem_iff_getElem?.mp hm
       obtain ⟨x,y,e1,e2,e3⟩:=fU (H:=H1) (xs:=xs) (ys:=ys) hG.rise (by omega) (by omega) hj
       rw [e3] at e'
       cases e'
       obtain ⟨u1,u2,f1,f2,f3⟩:=hG.pairs j b hj
       obtain ⟨w1,g1,t1⟩:=v1.get e1
       obtain ⟨w2,g2,t2⟩:=v2.get e2
       have g1':its1.toArray[j]? = some w1:=by simpa using g1
       have g2':its2.toArray[j]? = some w2:=by simpa using g2
       rw [g1'] at f1
       rw [g2'] at f2
       cases f1
       cases f2
       exact ⟨by show 2 <= sizeLine; decide,[_,_],.cons t1 (.cons t2 .nil),⟨_,f3,rfl,_,rfl⟩⟩
      ·rw [bP hm,e] at e'; cases e'
end
end L3

set_option Elab.async false
set_option linter.all false
set_option maxRecDepth 100000
set_option maxHeartbeats 4000000
namespace L3
open PySem PySem.Spec PyProof.Rows L2
theorem cA:∀ {ns:List Int} {us:List Value},Vals (ns.map V.int) us -> IntsAre us ns
 | [],_,.nil=>.nil
 | n :: ns,_,.cons ⟨t,e⟩ r=>by cases e; exact .cons n t (cA r)
theorem eG (a b c:Value):checkTypeCall "zip" ⟨[a,b,c],[]⟩ = pure ():=by kernel_rfl
theorem fh (a b c:Value):checkBuiltinCall "zip.__new__" ⟨[.type "zip",a,b,c],[]⟩ = pure ():=by kernel_rfl
end L3
namespace L3
open PySem PySem.Spec PyProof.Rows L2
abbrev aK (h:Heap) (T:Addr) (a b c:Value):Prop:=h.get? T = some { cls:=.type "tuple",data:=.seq #[a,b,c] }
theorem gW (a b c d:Value):argsOk "object.__init__" ⟨[a,b,c,d],[]⟩:=by
 first | exact PySem.F.args_object_init_any _ | (show checkBuiltinCall "object.__init__" _ = pure (); kernel_rfl) | kernel_rfl
section
variable {prog:Program} {w:World} {A:Around} {E:Value -> Shared -> Prop} {s:Shared}
theorem df {T:Addr} {a b c x:Value} {k:Nat} {Q:Unit -> Shared -> Prop} (hT:aK s.heap T a b c)
  (h:∀ h',h'.get? T = some { cls:=.type "tuple",data:=.seq ((#[a,b,c]:Array Value).setIfInBounds k x) } -> Heap.SameBut T s.heap h' -> Q () { s with heap:=h' }) :
  wpAny (model prog w) A (updateSeq T (·.setIfInBounds k x)) Q E s:=by
 refine wpAny_updateSeq hT rfl (h _ ?_ (Heap.SameBut.update ..))
 rw [Heap.get?_update_self _ hT rfl]
 simp [Obj.mapSeq]
theorem aH {a b:Nat} (h:a ≠ b):@Ne Addr a b:=h
theorem lu {n a1 a2 a3:Nat} {k1 k2 k3:Bool} {j:Nat} {xs ys zs:Array Value} {x y u a b c:Value} {Q:Value -> Shared -> Prop} (l1:a1 < n) (l2:a2 < n) (l3:a3 < n)
  (hz:IsZip s.heap (n + 5) (n + 3) (n + 4) .none) (hI:aK s.heap (n + 3) (.ref n) (.ref (n + 1)) (.ref (n + 2))) (hO:aK s.heap (n + 4) a b c) (h1:ItO s.heap k1 n a1 j) (h2:ItO s.heap k2 (n + 1) a2 j) (h3:ItO s.heap k3 (n + 2) a3 j)
  (q1:SqO s.heap k1 a1 xs) (q2:SqO s.heap k2 a2 ys) (q3:SqO s.heap k3 a3 zs) (hx:xs[j]? = some x) (hy:ys[j]? = some y) (hu:zs[j]? = some u)
  (q:∀ h',IsZip h' (n + 5) (n + 3) (n + 4) (rawInt s.heap.objs.size) -> aK h' (n + 4) x y u -> ItO h' k1 n a1 (j + 1) -> ItO h' k2 (n + 1) a2 (j + 1) -> ItO h' k3 (n + 2) a3 (j + 1) -> aK h' s.heap.objs.size x y u -> h'.objs.size = s.heap.objs.size + 1 ->
   (∀ (c:Nat) o,c ≠ n + 5 -> c ≠ n + 4 -> c ≠ n -> c ≠ n + 1 -> c ≠ n + 2 -> s.heap.get? c = some o -> h'.get? c = some o) -> Q (.ref s.heap.objs.size) { s with heap:=h' }) :
  wpAny (model prog w) A (Builtin.«zip.__next__» ⟨[.ref (n + 5)],[]⟩) (fun fin s'=>∃ v,fin = .done (.ret v) /\ Q v s') E s:=by
 show wpAny _ _ (field (.ref (n + 5)) 2 >>= _) _ _ _; refine wpAny_bind (wpAny_field hz rfl (x:=.bool false) rfl ?_)
 show wpAny _ _ (field (.ref (n + 5)) 3 >>= _) _ _ _; refine wpAny_bind (wpAny_field hz rfl (x:=.ref (n + 3)) rfl (wpAny_bind (wpAny_seqItems hI rfl ?_)))
 show wpAny _ _ (Builtin.SmallTypes.ownedTupleIsFree (.ref (n + 5)) >>= _) _ _ _; refine wpAny_bind ?_
 unfold Builtin.SmallTypes.ownedTupleIsFree
 refine wpAny_bind (wpAny_field hz rfl (x:=.none) rfl (wpAny_pure ?_)); simp only [if_true]
 refine wpAny_bind (wpAny_rule (wpAny_bind (wpAny_field hz rfl (x:=.ref (n + 4)) rfl (wpAny_bind (wpAny_setField_rec hz (by simp) fun g1 z1 s1=>?_)))))
 replace z1:IsZip g1 (n + 5) (n + 3) (n + 4) .ellipsis:=z1
 refine wpAny_bind ?_; simp only [List.forIn_cons,List.forIn_nil,List.zipIdx_cons,List.zipIdx_nil]
 refine wpAny_bind (wpAny_bind (wpAny_onRaise ?_)); show wpAny _ _ (Builtin.SmallTypes.nextOf (.ref n) >>= _) _ _ _
 refine wpAny_bind (aF (h1.at fun o e=>s1.extBut _ _ (aH (by omega)) e) (q1.at fun o e=>s1.extBut _ _ (aH (by omega)) e) hx fun g2 r2 s2=>wpAny_pure ?_)
 have p2:aK g2 (n + 4) a b c:=s2.extBut _ _ (aH (by omega)) (s1.extBut _ _ (aH (by omega)) hO)
 refine wpAny_bind (wpAny_seqItems p2 rfl (wpAny_bind (df p2 fun g3 p3 s3=>wpAny_bind (wpAny_letGo (wpAny_pure ?_)))))
 replace p3:aK g3 (n + 4) x b c:=p3
 refine wpAny_bind (wpAny_bind (wpAny_onRaise ?_)); show wpAny _ _ (Builtin.SmallTypes.nextOf (.ref (n + 1)) >>= _) _ _ _
 refine wpAny_bind (aF (h2.at fun o e=>s3.extBut _ _ (aH (by omega)) (s2.extBut _ _ (aH (by omega)) (s1.extBut _ _ (aH (by omega)) e))) (q2.at fun o e=>s3.extBut _ _ (aH (by omega)) (s2.extBut _ _ (aH (by omega)) (s1.extBut _ _ (aH (by omega)) e))) hy fun g4 r4 s4=>wpAny_pure ?_)
 have p4:aK g4 (n + 4) x b c:=s4.extBut _ _ (aH (by omega)) p3
 refine wpAny_bind (wpAny_seqItems p4 rfl (wpAny_bind (df p4 fun g5 p5 s5=>wpAny_bind (wpAny_letGo (wpAny_pure ?_)))))
 replace p5:aK g5 (n + 4) x y c:=p5
 have up5:∀ (d:Nat) o,d ≠ n + 5 -> d ≠ n + 4 -> d ≠ n -> d ≠ n + 1 -> s.heap.get? d = some o -> g5.get? d = some o:=fun d o n1 n2 n3 n4 e=>s5.extBut _ _ n2 (s4.extBut _ _ n4 (s3.extBut _ _ n2 (s2.extBut _ _ n3 (s1.extBut _ _ n1 e))))
 refine wpAny_bind (wpAny_bind (wpAny_onRaise ?_)); show wpAny _ _ (Builtin.SmallTypes.nextOf (.ref (n + 2)) >>= _) _ _ _
 refine wpAny_bind (aF (h3.at fun o e=>up5 _ o (by omega) (by omega) (by omega) (by omega) e) (q3.at fun o e=>up5 _ o (by omega) (by omega) (by omega) (by omega) e) hu fun g6 r6 s6=>wpAny_pure ?_)
 have p6:aK g6 (n + 4) x y c:=s6.extBut _ _ (aH (by omega)) p5
 refine wpAny_bind (wpAny_seqItems p6 rfl (wpAny_bind (df p6 fun g7 p7 s7=>wpAny_bind (wpAny_letGo (wpAny_pure (wpAny_pure ?_))))))
 replace p7:aK g7 (n + 4) x y u:=p7
 refine wpAny_bind (wpAny_seqItems p7 rfl (wpAny_bind (wpAny_newTuple ?_)))
 have sz:g7.objs.size = s.heap.objs.size:=by rw [s7.1,s6.1,s5.1,s4.1,s3.1,s2.1,s1.1]
 have z7:IsZip g7 (n + 5) (n + 3) (n + 4) .ellipsis:=s7.extBut _ _ (aH (by omega)) (s6.extBut _ _ (aH (by omega)) (s5.extBut _ _ (aH (by omega)) (s4.extBut _ _ (aH (by omega)) (s3.extBut _ _ (aH (by omega)) (s2.extBut _ _ (aH (by omega)) z1)))))
 have k7:∀ (d:Nat) o,d ≠ n + 5 -> d ≠ n + 4 -> d ≠ n -> d ≠ n + 1 -> d ≠ n + 2 -> s.heap.get? d = some o -> g7.get? d = some o:=fun d o n1 n2 n3 n4 n5 e=>s7.extBut _ _ n2 (s6.extBut _ _ n5 (up5 d o n1 n2 n3 n4 e))
 have r7:ItO g7 k1 n a1 (j + 1):=r2.at fun o e=>s7.extBut _ _ (aH (by omega)) (s6.extBut _ _ (aH (by omega)) (s5.extBut _ _ (aH (by omega)) (s4.extBut _ _ (aH (by omega)) (s3.extBut _ _ (aH (by omega)) e))))
 have t7:ItO g7 k2 (n + 1) a2 (j + 1):=r4.at fun o e=>s7.extBut _ _ (aH (by omega)) (s6.extBut _ _ (aH (by omega)) (s5.extBut _ _ (aH (by omega)) e))
 have v7:ItO g7 k3 (n + 2) a3 (j + 1):=r6.at fun o e=>s7.extBut _ _ (aH (by omega)) e
 have zlt:n + 5 < g7.objs.size:=Heap.lt_size z7
 show wpAny _ _ (Builtin.SmallTypes.ownedTupleHandOut (.ref (n + 5)) (.ref g7.objs.size) >>= _) _ _ _; refine wpAny_bind ?_
 unfold Builtin.SmallTypes.ownedTupleHandOut
 have z8:IsZip (g7.push { cls:=.type "tuple",data:=.seq #[x,y,u] }) (n + 5) (n + 3) (n + 4) .ellipsis:=Heap.get?_push_of_some _ z7
 refine wpAny_bind (wpAny_setField_rec z8 (by simp) fun g9 z9 s9=>?_)
 replace z9:IsZip g9 (n + 5) (n + 3) (n + 4) (rawInt g7.objs.size):=z9
 refine wpAny_setField_rec z9 (by simp) fun g10 z10 s10=>?_
 replace z10:IsZip g10 (n + 5) (n + 3) (n + 4) (rawInt g7.objs.size):=z10
 have up:∀ (d:Nat) o,d ≠ n + 5 -> g7.get? d = some o -> g10.get? d = some o:=fun d o n1 e=>s10.extBut _ _ n1 (s9.extBut _ _ n1 (Heap.get?_push_of_some _ e))
 have p10:aK g10 g7.objs.size x y u:=s10.extBut _ _ (Nat.ne_of_gt zlt) (s9.extBut _ _ (Nat.ne_of_gt zlt) (Heap.get?_push_size _ rfl))
 have e10:g10.objs.size = g7.objs.size + 1:=by rw [s10.1,s9.1,Heap.size_push]
 rw [sz] at z10 p10 e10
 refine wpAny_pure ⟨_,rfl,?_⟩
 show Q (.ref g7.objs.size) _
 rw [sz]
 exact q g10 z10 (up _ _ (by omega) p7) (r7.at fun o e=>up _ o (by omega) e) (t7.at fun o e=>up _ o (by omega) e) (v7.at fun o e=>up _ o (by omega) e) p10 e10 fun d o n1 n2 n3 n4 n5 e=>up d o n1 (k7 d o n1 n2 n3 n4 n5 e)
theorem pb {n a1 a2 a3:Nat} {k1 k2 k3:Bool} {j:Nat} {xs ys zs:Array Value} {a b c:Value} {Q:Fin -> Shared -> Prop} (hh:A.handled = none) (l1:a1 < n) (l2:a2 < n) (l3:a3 < n)
  (hz:IsZip s.heap (n + 5) (n + 3) (n + 4) .none) (hI:aK s.heap (n + 3) (.ref n) (.ref (n + 1)) (.ref (n + 2))) (hO:aK s.heap (n + 4) a b c) (h1:ItO s.heap k1 n a1 j) (h2:ItO s.heap k2 (n + 1) a2 j) (h3:ItO s.heap k3 (n + 2) a3 j)
  (q1:SqO s.heap k1 a1 xs) (q2:SqO s.heap k2 a2 ys) (q3:SqO s.heap k3 a3 zs) (hend:xs[j]? = none \/ ys[j]? = none \/ zs[j]? = none)
  (q:∀ h' e,(∀ (c:Nat) o,c ≠ n + 5 -> c ≠ n + 4 -> c ≠ n -> c ≠ n + 1 -> c ≠ n + 2 -> s.heap.get? c = some o -> h'.get? c = some o) -> (∃ o,h'.get? e = some o /\ o.cls = .type "StopIteration") -> E (.ref e) { s with heap:=h' }) :
  wpAny (model prog w) A (Builtin.«zip.__next__» ⟨[.ref (n + 5)],[]⟩) Q E s:=by
 show wpAny _ _ (field (.ref (n + 5)) 2 >>= _) _ _ _; refine wpAny_bind (wpAny_field hz rfl (x:=.bool false) rfl ?_)
 show wpAny _ _ (field (.ref (n + 5)) 3 >>= _) _ _ _; refine wpAny_bind (wpAny_field hz rfl (x:=.ref (n + 3)) rfl (wpAny_bind (wpAny_seqItems hI rfl ?_)))
 show wpAny _ _ (Builtin.SmallTypes.ownedTupleIsFree (.ref (n + 5)) >>= _) _ _ _; refine wpAny_bind ?_
 unfold Builtin.SmallTypes.ownedTupleIsFree
 refine wpAny_bind (wpAny_field hz rfl (x:=.none) rfl (wpAny_pure ?_)); simp only [if_true]
 refine wpAny_bind (wpAny_rule (wpAny_bind (wpAny_field hz rfl (x:=.ref (n + 4)) rfl (wpAny_bind (wpAny_setField_rec hz (by simp) fun g1 z1 s1=>?_)))))
 replace z1:IsZip g1 (n + 5) (n + 3) (n + 4) .ellipsis:=z1
 refine wpAny_bind ?_; simp only [List.forIn_cons,List.forIn_nil,List.zipIdx_cons,List.zipIdx_nil]
 refine wpAny_bind (wpAny_bind (wpAny_onRaise ?_)); show wpAny _ _ (Builtin.SmallTypes.nextOf (.ref n) >>= _) _ _ _
 cases hx:xs[j]? with
 | none =>
  refine wpAny_bind (a8 hh (h1.at fun o e=>s1.extBut _ _ (aH (by omega)) e) (q1.at fun o e=>s1.extBut _ _ (aH (by omega)) e) hx fun g2 e s2 he=>?_)
  obtain ⟨oe,ho,ce⟩:=he
  have z2:IsZip g2 (n + 5) (n + 3) (n + 4) .ellipsis:=s2 _ _ (aH (by omega)) z1
  have ez:e ≠ n + 5:=fun y=>by subst y; rw [z2] at ho; cases ho; simp at ce
  exact wpAny_setField_rec z2 (by simp) fun g3 _ s3=>q g3 e (fun d o n1 _ n3 _ _ y=>s3.extBut _ _ n1 (s2 _ _ n3 (s1.extBut _ _ n1 y))) ⟨oe,s3.extBut _ _ ez ho,ce⟩
 | some x =>
  refine wpAny_bind (aF (h1.at fun o e=>s1.extBut _ _ (aH (by omega)) e) (q1.at fun o e=>s1.extBut _ _ (aH (by omega)) e) hx fun g2 r2 s2=>wpAny_pure ?_)
  have p2:aK g2 (n + 4) a b c:=s2.extBut _ _ (aH (by omega)) (s1.extBut _ _ (aH (by omega)) hO)
  refine wpAny_bind (wpAny_seqItems p2 rfl (wpAny_bind (df p2 fun g3 p3 s3=>wpAny_bind (wpAny_letGo (wpAny_pure ?_)))))
  replace p3:aK g3 (n + 4) x b c:=p3
  have z3:IsZip g3 (n + 5) (n + 3) (n + 4) .ellipsis:=s3.extBut _ _ (aH (by omega)) (s2.extBut _ _ (aH (by omega)) z1)
  have up3:∀ (d:Nat) o,d ≠ n + 5 -> d ≠ n + 4 -> d ≠ n -> s.heap.get? d = some o -> g3.get? d = some o:=fun d o n1 n2 n3 e=>s3.extBut _ _ n2 (s2.extBut _ _ n3 (s1.extBut _ _ n1 e))
  refine wpAny_bind (wpAny_bind (wpAny_onRaise ?_)); show wpAny _ _ (Builtin.SmallTypes.nextOf (.ref (n + 1)) >>= _) _ _ _
  cases hy:ys[j]? with
  | none =>
   refine wpAny_bind (a8 hh (h2.at fun o e=>up3 _ o (by omega) (by omega) (by omega) e) (q2.at fun o e=>up3 _ o (by omega) (by omega) (by omega) e) hy fun g4 e s4 he=>?_)
   obtain ⟨oe,ho,ce⟩:=he
   have z4:IsZip g4 (n + 5) (n + 3) (n + 4) .ellipsis:=s4 _ _ (aH (by omega)) z3
   have ez:e ≠ n + 5:=fun y=>by subst y; rw [z4] at ho; cases ho; simp at ce
   exact wpAny_setField_rec z4 (by simp) fun g5 _ s5=>q g5 e (fun d o n1 n2 n3 n4 _ y=>s5.extBut _ _ n1 (s4 _ _ n4 (up3 d o n1 n2 n3 y))) ⟨oe,s5.extBut _ _ ez ho,ce⟩
  | some y =>
   have hu:zs[j]? = none:=(hend.resolve_left (by rw [hx]; simp)).resolve_left (by rw [hy]; simp)
   refine wpAny_bind (aF (h2.at fun o e=>up3 _ o (by omega) (by omega) (by omega) e) (q2.at fun o e=>up3 _ o (by omega) (by omega) (by omega) e) hy fun g4 r4 s4=>wpAny_pure ?_)
   have p4:aK g4 (n + 4) x b c:=s4.extBut _ _ (aH (by omega)) p3
   refine wpAny_bind (wpAny_seqItems p4 rfl (wpAny_bind (df p4 fun g5 p5 s5=>wpAny_bind (wpAny_letGo (wpAny_pure ?_)))))
   have up5:∀ (d:Nat) o,d ≠ n + 5 -> d ≠ n + 4 -> d ≠ n -> d ≠ n + 1 -> s.heap.get? d = some o -> g5.get? d = some o:=fun d o n1 n2 n3 n4 e=>s5.extBut _ _ n2 (s4.extBut _ _ n4 (up3 d o n1 n2 n3 e))
   have z5:IsZip g5 (n + 5) (n + 3) (n + 4) .ellipsis:=s5.extBut _ _ (aH (by omega)) (s4.extBut _ _ (aH (by omega)) z3)
   refine wpAny_bind (wpAny_bind (wpAny_onRaise ?_)); show wpAny _ _ (Builtin.SmallTypes.nextOf (.ref (n + 2)) >>= _) _ _ _
   refine wpAny_bind (a8 hh (h3.at fun o e=>up5 _ o (by omega) (by omega) (by omega) (by omega) e) (q3.at fun o e=>up5 _ o (by omega) (by omega) (by omega) (by omega) e) hu fun g6 e s6 he=>?_)
   obtain ⟨oe,ho,ce⟩:=he
   have z6:IsZip g6 (n + 5) (n + 3) (n + 4) .ellipsis:=s6 _ _ (aH (by omega)) z5
   have ez:e ≠ n + 5:=fun y=>by subst y; rw [z6] at ho; cases ho; simp at ce
   exact wpAny_setField_rec z6 (by simp) fun g7 _ s7=>q g7 e (fun d o n1 n2 n3 n4 n5 y=>s7.extBut _ _ n1 (s6 _ _ n5 (up5 d o n1 n2 n3 n4 y))) ⟨oe,s7.extBut _ _ ez ho,ce⟩
end
end L3
namespace L3
open PySem PySem.Spec PyProof.Rows L2
section
variable {prog:Program} {w:World} {A:Around} {E:Value -> Shared -> Prop} {s:Shared}
theorem iu {n a1 a2 a3:Nat} {k1 k2 k3:Bool} {j:Nat} {xs ys zs:Array Value} {x y u a b c:Value} {Q:Option Value -> Shared -> Prop} (l1:a1 < n) (l2:a2 < n) (l3:a3 < n)
  (hz:IsZip s.heap (n + 5) (n + 3) (n + 4) .none) (hI:aK s.heap (n + 3) (.ref n) (.ref (n + 1)) (.ref (n + 2))) (hO:aK s.heap (n + 4) a b c) (h1:ItO s.heap k1 n a1 j) (h2:ItO s.heap k2 (n + 1) a2 j) (h3:ItO s.heap k3 (n + 2) a3 j)
  (q1:SqO s.heap k1 a1 xs) (q2:SqO s.heap k2 a2 ys) (q3:SqO s.heap k3 a3 zs) (hx:xs[j]? = some x) (hy:ys[j]? = some y) (hu:zs[j]? = some u)
  (q:∀ h',IsZip h' (n + 5) (n + 3) (n + 4) (rawInt s.heap.objs.size) -> aK h' (n + 4) x y u -> ItO h' k1 n a1 (j + 1) -> ItO h' k2 (n + 1) a2 (j + 1) -> ItO h' k3 (n + 2) a3 (j + 1) -> aK h' s.heap.objs.size x y u -> h'.objs.size = s.heap.objs.size + 1 ->
   (∀ (c:Nat) o,c ≠ n + 5 -> c ≠ n + 4 -> c ≠ n -> c ≠ n + 1 -> c ≠ n + 2 -> s.heap.get? c = some o -> h'.get? c = some o) -> Q (some (.ref s.heap.objs.size)) { s with heap:=h' }):wpAny (model prog w) A (pyNext (.ref (n + 5))) Q E s:=by
 have hT:s.TypeIs (.ref (n + 5)) "zip":=⟨_,hz,rfl⟩
 unfold pyNext
 exact wpAny_bind (wpAny_attempt (wpAny_callSpecial?_slot (name:=Str.ofString "__next__") hT F.slot_zip_next (wpAny_call_entry F.slot_zip_next hT F.entry_zip_next (lu l1 l2 l3 hz hI hO h1 h2 h3 q1 q2 q3 hx hy hu fun h' y1 y2 y3 y4 y5 y6 y7 y8=>wpAny_pure (q h' y1 y2 y3 y4 y5 y6 y7 y8)) (F.args_zip_next_1 _))))
theorem iU {n a1 a2 a3:Nat} {k1 k2 k3:Bool} {j:Nat} {xs ys zs:Array Value} {a b c:Value} {Q:Option Value -> Shared -> Prop} (hh:A.handled = none) (l1:a1 < n) (l2:a2 < n) (l3:a3 < n)
  (hz:IsZip s.heap (n + 5) (n + 3) (n + 4) .none) (hI:aK s.heap (n + 3) (.ref n) (.ref (n + 1)) (.ref (n + 2))) (hO:aK s.heap (n + 4) a b c) (h1:ItO s.heap k1 n a1 j) (h2:ItO s.heap k2 (n + 1) a2 j) (h3:ItO s.heap k3 (n + 2) a3 j)
  (q1:SqO s.heap k1 a1 xs) (q2:SqO s.heap k2 a2 ys) (q3:SqO s.heap k3 a3 zs) (hend:xs[j]? = none \/ ys[j]? = none \/ zs[j]? = none)
  (q:∀ h',(∀ (c:Nat) o,c ≠ n + 5 -> c ≠ n + 4 -> c ≠ n -> c ≠ n + 1 -> c ≠ n + 2 -> s.heap.get? c = some o -> h'.get? c = some o) -> Q none { s with heap:=h' }):wpAny (model prog w) A (pyNext (.ref (n + 5))) Q E s:=by
 have hT:s.TypeIs (.ref (n + 5)) "zip":=⟨_,hz,rfl⟩
 unfold pyNext
 refine wpAny_bind (wpAny_attempt (wpAny_callSpecial?_slot (name:=Str.ofString "__next__") hT F.slot_zip_next (wpAny_call_entry F.slot_zip_next hT F.entry_zip_next (pb hh l1 l2 l3 hz hI hO h1 h2 h3 q1 q2 q3 hend fun h' e hk he=>?_) (F.args_zip_next_1 _))))
 obtain ⟨o,ho,hc⟩:=he
 exact wpAny_bind (wpAny_isInstance (T:="StopIteration") (b:=true) ⟨o,ho,hc⟩ isSubtype_stop (wpAny_pure (q _ hk)))
end
abbrev zP1 (h:Heap) (a1:Addr):Heap:=h.push (dG false a1)
abbrev zP2 (h:Heap) (a1 a2:Addr):Heap:=(zP1 h a1).push (dG false a2)
abbrev zP3 (h:Heap) (a1 a2 a3:Addr):Heap:=(zP2 h a1 a2).push (dG false a3)
abbrev zP4 (h:Heap) (a1 a2 a3:Addr):Heap:=(zP3 h a1 a2 a3).push { cls:=.type "tuple",data:=.seq #[.ref h.objs.size,.ref (zP1 h a1).objs.size,.ref (zP2 h a1 a2).objs.size] }
abbrev zP5 (h:Heap) (a1 a2 a3:Addr):Heap:=(zP4 h a1 a2 a3).push { cls:=.type "tuple",data:=.seq #[.none,.none,.none] }
abbrev zP6 (h:Heap) (a1 a2 a3:Addr):Heap:=(zP5 h a1 a2 a3).push { cls:=.type "zip",data:=.fields #[.none,.bool false,.bool false,.ref (zP3 h a1 a2 a3).objs.size,.ref (zP4 h a1 a2 a3).objs.size] }
theorem iT (a1 a2 a3:Addr) (xs ys zs:Array Value) :
  Meets (Builtin.«zip.__new__» ⟨[.type "zip",.ref a1,.ref a2,.ref a3],[]⟩) (fun _ R s=>s.heap.IsList a1 xs /\ s.heap.IsList a2 ys /\ s.heap.IsList a3 zs /\ R (.ok (.ret (.ref (zP5 s.heap a1 a2 a3).objs.size))) { s with heap:=zP6 s.heap a1 a2 a3 }) :=
 .of_wp fun prog w A R s h=>by
  obtain ⟨hp,g,d,tk,os⟩:=s; obtain ⟨q1,q2,q3,h⟩:=h
  have hsub:=sub_zip
  have e1:Heap.IsList (Shared.heap ⟨hp,g,d,tk,os⟩) a1 xs:=q1
  have e2:Heap.IsList (Shared.heap ⟨hp.push { cls:=.type "list_iterator",data:=.fields #[.ref a1,.int 0 0] },g,d,tk,os⟩) a2 ys:=Heap.IsList.push q2 _
  have e3:Heap.IsList (Shared.heap ⟨(hp.push { cls:=.type "list_iterator",data:=.fields #[.ref a1,.int 0 0] }).push { cls:=.type "list_iterator",data:=.fields #[.ref a2,.int 0 0] },g,d,tk,os⟩) a3 zs:=Heap.IsList.push (Heap.IsList.push q3 _) _
  wp_walk using wpAny_pyIter_list e1,wpAny_pyIter_list e2,wpAny_pyIter_list e3
  exact ⟨_,rfl,h⟩
section
variable {prog:Program} {w:World} {A:Around} {E:Value -> Shared -> Prop} {s:Shared}
theorem rf {a1 a2 a3:Addr} {xs ys zs:Array Value} {Q:Value -> Shared -> Prop} (q1:s.heap.IsList a1 xs) (q2:s.heap.IsList a2 ys) (q3:s.heap.IsList a3 zs)
  (h:∀ h',IsZip h' (s.heap.objs.size + 5) (s.heap.objs.size + 3) (s.heap.objs.size + 4) .none -> aK h' (s.heap.objs.size + 3) (.ref s.heap.objs.size) (.ref (s.heap.objs.size + 1)) (.ref (s.heap.objs.size + 2)) ->
   aK h' (s.heap.objs.size + 4) .none .none .none -> ItO h' false s.heap.objs.size a1 0 -> ItO h' false (s.heap.objs.size + 1) a2 0 -> ItO h' false (s.heap.objs.size + 2) a3 0 -> (∀ c o,s.heap.get? c = some o -> h'.get? c = some o) -> Q (.ref (s.heap.objs.size + 5)) { s with heap:=h' }) :
  wpAny (model prog w) A (call (.type "zip") [.ref a1,.ref a2,.ref a3]) Q E s:=by
 refine callType_new F.called_zip (by decide) (eG _ _ _) (fh _ _ _) (fun obj=>gW obj _ _ _) F.entry_zip_new (iT a1 a2 a3 xs ys zs) ⟨q1,q2,q3,?_⟩
 have e1:(zP1 s.heap a1).objs.size = s.heap.objs.size + 1:=Heap.size_push ..
 have e2:(zP2 s.heap a1 a2).objs.size = s.heap.objs.size + 2:=by rw [Heap.size_push,e1]
 have e3:(zP3 s.heap a1 a2 a3).objs.size = s.heap.objs.size + 3:=by rw [Heap.size_push,e2]
 have e4:(zP4 s.heap a1 a2 a3).objs.size = s.heap.objs.size + 4:=by rw [Heap.size_push,e3]
 have e5:(zP5 s.heap a1 a2 a3).objs.size = s.heap.objs.size + 5:=by rw [Heap.size_push,e4]
 have g6:(zP6 s.heap a1 a2 a3).get? (zP5 s.heap a1 a2 a3).objs.size = some _:=Heap.get?_push_size _ rfl
 have g5:(zP6 s.heap a1 a2 a3).get? (zP4 s.heap a1 a2 a3).objs.size = some _:=Heap.get?_push_of_some _ (Heap.get?_push_size _ rfl)
 have g4:(zP6 s.heap a1 a2 a3).get? (zP3 s.heap a1 a2 a3).objs.size = some _:=Heap.get?_push_of_some _ (Heap.get?_push_of_some _ (Heap.get?_push_size _ rfl))
 have g3:(zP6 s.heap a1 a2 a3).get? (zP2 s.heap a1 a2).objs.size = some (dG false a3):=Heap.get?_push_of_some _ (Heap.get?_push_of_some _ (Heap.get?_push_of_some _ (Heap.get?_push_size _ (bW false a3))))
 have g2:(zP6 s.heap a1 a2 a3).get? (zP1 s.heap a1).objs.size = some (dG false a2):=Heap.get?_push_of_some _ (Heap.get?_push_of_some _ (Heap.get?_push_of_some _ (Heap.get?_push_of_some _ (Heap.get?_push_size _ (bW false a2)))))
 have g1:(zP6 s.heap a1 a2 a3).get? s.heap.objs.size = some (dG false a1):=Heap.get?_push_of_some _ (Heap.get?_push_of_some _ (Heap.get?_push_of_some _ (Heap.get?_push_of_some _ (Heap.get?_push_of_some _ (Heap.get?_push_size _ (bW false a1))))))
 show _ /\ _
 rw [e3,e4,e5] at g6
 rw [e1,e2,e3] at g4
 rw [e4] at g5
 rw [e2] at g3
 rw [e1] at g2
 rw [e5]
 exact ⟨⟨_,g6,rfl⟩,h _ g6 g4 g5 (c8 g1) (c8 g2) (c8 g3) fun c o x=>Heap.get?_push_of_some _ (Heap.get?_push_of_some _ (Heap.get?_push_of_some _ (Heap.get?_push_of_some _ (Heap.get?_push_of_some _ (Heap.get?_push_of_some _ x)))))⟩
end
def zo (K:PySem.W.Frag) (a1 a2 a3:Addr):It :=
 ⟨fun i H=>∃ xs ys zs x y z,SqL K H a1 xs /\ SqL K H a2 ys /\ SqL K H a3 zs /\ xs[i]? = some x /\ ys[i]? = some y /\ zs[i]? = some z,
  fun i H v H'=>∃ p x y z,v = .ref p /\ H p = none /\ H' = upd H p (.tup [x,y,z]) /\ (∀ xs,SqL K H a1 xs -> xs[i]? = some x) /\ (∀ ys,SqL K H a2 ys -> ys[i]? = some y) /\ ∀ zs,SqL K H a3 zs -> zs[i]? = some z,
  fun i H=>∃ xs ys zs,SqL K H a1 xs /\ SqL K H a2 ys /\ SqL K H a3 zs /\ (xs.length <= i \/ ys.length <= i \/ zs.length <= i)⟩
def Z3 (n a1 a2 a3:Nat) (i:Nat) (h:Heap):Prop :=
 IsZip h (n + 5) (n + 3) (n + 4) .none /\ aK h (n + 3) (.ref n) (.ref (n + 1)) (.ref (n + 2)) /\ (∃ a b c,aK h (n + 4) a b c) /\ ItO h false n a1 i /\ ItO h false (n + 1) a2 i /\ ItO h false (n + 2) a3 i
theorem kP {P:Program} {w:World} {K:PySem.W.Frag} {es:List Expr} {kt:Nat} {pt:Pos} {n a1 a2 a3:Nat} (l1:a1 < n) (l2:a2 < n) (l3:a3 < n) :
  ly P w K (.Tuple es kt pt) (zo K a1 a2 a3) [n + 5,n + 3,n + 4,n,n + 1,n + 2] (n + 5) (Z3 n a1 a2 a3) where
 mem:=by simp
 obj:=fun i h st b hb=>by
  obtain ⟨q1,q2,⟨a,c,d,q3⟩,q4,q5,q6⟩:=st
  simp only [List.mem_cons,List.not_mem_nil,or_false] at hb
  rcases hb with rfl | rfl | rfl | rfl | rfl | rfl
  ·exact ⟨_,q1,fun v y=>by cases y⟩
  ·exact ⟨_,q2,fun v y=>by cases y⟩
  ·exact ⟨_,q3,fun v y=>by cases y⟩
  ·exact q4.obj
  ·exact q5.obj
  ·exact q6.obj
 keep:=fun i h h' st k=>by
  obtain ⟨q1,q2,⟨a,c,d,q3⟩,q4,q5,q6⟩:=st
  exact ⟨k _ (by simp) _ q1,k _ (by simp) _ q2,⟨a,c,d,k _ (by simp) _ q3⟩,q4.at fun o e=>k _ (by simp) o e,q5.at fun o e=>k _ (by simp) o e,q6.at fun o e=>k _ (by simp) o e⟩
 item:=by
  intro X hP hw hK hc i pins s σ H E I hf st hg
  subst hP hw hK
  obtain ⟨xs,ys,zs,x,y,z,s1,s2,s3,hx,hy,hz⟩:=hg
  obtain ⟨q1,q2,⟨a,c,d,q3⟩,q4,q5,q6⟩:=st
  obtain ⟨its1,v1,o1,_⟩:=I.list s1
  obtain ⟨its2,v2,o2,_⟩:=I.list s2
  obtain ⟨its3,v3,o3,_⟩:=I.list s3
  obtain ⟨u1,e1,r1⟩:=v1.get hx
  obtain ⟨u2,e2,r2⟩:=v2.get hy
  obtain ⟨u3,e3,r3⟩:=v3.get hz
  have zl:n + 5 < s.heap.objs.size:=Heap.lt_size q1
  have lt:∀ b ∈ [n + 5,n + 3,n + 4,n,n + 1,n + 2],b < s.heap.objs.size:=fun b hb=>by
   simp only [List.mem_cons,List.not_mem_nil,or_false] at hb
   rcases hb with e | e | e | e | e | e <;> (rw [e]; omega)
  refine iu l1 l2 l3 q1 q2 q3 q4 q5 q6 (show SqO _ false _ _ from o1.isList) (show SqO _ false _ _ from o2.isList) (show SqO _ false _ _ from o3.isList) (x:=u1) (y:=u2) (u:=u3) (by simpa using e1) (by simpa using e2) (by simpa using e3) fun h' y1 y2 y3 y4 y5 y6 y7 y8=>⟨_,rfl,?_⟩
  refine wpAny_letOwnedTupleGo_zip (s:={ s with heap:=h' }) y1 fun h2 w1 sb=>?_
  have sb':Heap.SameBut (n + 5) h' h2:=sb
  have nz:s.heap.objs.size ≠ n + 5:=Nat.ne_of_gt zl
  have kk:∀ b o,b ∉ [n + 5,n + 3,n + 4,n,n + 1,n + 2] -> s.heap.get? b = some o -> h2.get? b = some o:=fun b o hb e=>by
   simp only [List.mem_cons,List.not_mem_nil,or_false,not_or] at hb
   exact (sb'.2 b hb.1).trans (y8 b o hb.1 hb.2.2.1 hb.2.2.2.1 hb.2.2.2.2.1 hb.2.2.2.2.2 e)
  have tp:IsTup h2 s.heap.objs.size [u1,u2,u3].toArray:=⟨_,(sb'.2 _ nz).trans y6,rfl,_,rfl⟩
  refine ⟨.ref s.heap.objs.size,upd H s.heap.objs.size (.tup [x,y,z]),b9 (s:=s) (t':=s.toks) I hf kk (Nat.le_refl _) (by show 3 <= sizeLine; decide) (.cons r1 (.cons r2 (.cons r3 .nil))) tp,rfl,
   ⟨_,x,y,z,rfl,I.fresh,rfl,fun zs hz=>by rw [I.list_inj hz s1]; exact hx,fun zs hz=>by rw [I.list_inj hz s2]; exact hy,fun zs hz'=>by rw [I.list_inj hz' s3]; exact hz⟩,?_,fun b hb=>?_⟩
  ·exact ⟨w1,(sb'.2 _ (aH (by omega))).trans (y8 _ _ (by omega) (by omega) (by omega) (by omega) (by omega) q2),⟨_,_,_,(sb'.2 _ (aH (by omega))).trans y2⟩,y3.at fun o e=>(sb'.2 _ (aH (by omega))).trans e,y4.at fun o e=>(sb'.2 _ (aH (by omega))).trans e,y5.at fun o e=>(sb'.2 _ (aH (by omega))).trans e⟩
  ·rw [ab (Nat.ne_of_lt (lt b hb))]; exact (hf b hb).1
 done:=by
  intro X hP hw hK hc i pins s σ H E I hf st hg
  subst hP hw hK
  obtain ⟨xs,ys,zs,s1,s2,s3,hl⟩:=hg
  obtain ⟨q1,q2,⟨a,c,d,q3⟩,q4,q5,q6⟩:=st
  obtain ⟨its1,v1,o1,_⟩:=I.list s1
  obtain ⟨its2,v2,o2,_⟩:=I.list s2
  obtain ⟨its3,v3,o3,_⟩:=I.list s3
  have g1:=v1.length
  have g2:=v2.length
  have g3:=v3.length
  refine iU (I.ok.hd hc) l1 l2 l3 q1 q2 q3 q4 q5 q6 (show SqO _ false _ _ from o1.isList) (show SqO _ false _ _ from o2.isList) (show SqO _ false _ _ from o3.isList) (hl.imp (fun q=>by simp; omega) fun q=>q.imp (fun q=>by simp; omega) fun q=>by simp; omega) fun h' hk=>⟨rfl,eg (t':=s.toks) I hf fun b o hb e=>?_⟩
  simp only [List.mem_cons,List.not_mem_nil,or_false,not_or] at hb
  exact hk b o hb.1 hb.2.2.1 hb.2.2.2.1 hb.2.2.2.2.1 hb.2.2.2.2.2 e
 self:=fun _ _ _ _ _ st h=>wpAny_pyIter_zip st.1 h
section
variable {X:Cx}
def ud (K:PySem.W.Frag) (ta:TA):TI:=fun σ H R=>ta σ H fun vs H1=>∃ a1 a2 a3,vs = [.ref a1,.ref a2,.ref a3] /\ (∃ xs,SqL K H1 a1 xs) /\ (∃ ys,SqL K H1 a2 ys) /\ (∃ zs,SqL K H1 a3 zs) /\ R (zo K a1 a2 a3) H1
theorem qs {a b c:Expr} {ta:TA} {p pos pt:Pos} {es:List Expr} {kt:Nat} (hg:Gl X "zip") (hm:X.mg "zip" = none) (ha:PA X [a,b,c] ta) (hs:starEach [a,b,c] X.env = [(false,eval a X.env),(false,eval b X.env),(false,eval c X.env)]:=by rfl) (hs2:starEach [b,c] X.env = [(false,eval b X.env),(false,eval c X.env)]:=by rfl) :
  PI X (.Tuple es kt pt) (.Call (.Name "zip" p) [a,b,c] [] pos) (ud X.K ta):=by
 intro pins s σ H R I h
 refine Call_ (cf I hg hm boot_zip (PyProof.Rows.callWith_type1 (thn (ha pos pins s σ H _ I h) fun us s1 ⟨vs,H1,I1,r1,q1⟩=>?_) (by rw [hs,hs2]) (by rw [hs2]; rfl)))
 obtain ⟨a1,a2,a3,rfl,⟨xs,s1'⟩,⟨ys,s2'⟩,⟨zs,s3'⟩,q⟩:=q1
 cases r1 with
 | cons r rr =>
  cases rr with
  | cons r' rr =>
   cases rr with
   | cons r'' rr =>
    cases rr
    cases r
    cases r'
    cases r''
    obtain ⟨its1,v1,o1,z1⟩:=I1.list s1'
    obtain ⟨its2,v2,o2,z2⟩:=I1.list s2'
    obtain ⟨its3,v3,o3,z3⟩:=I1.list s3'
    have lt:∀ {a:Addr} {xs:Array Value},s1.heap.IsList a xs -> a < s1.heap.objs.size:=fun ⟨o,e,_⟩=>Heap.lt_size e
    refine rf o1.isList o2.isList o3.isList fun h' q1 q2 q3 q4 q5 q6 kk=>?_
    refine wpAny_pyIter_zip (s:={ s1 with heap:=h' }) q1 ?_
    refine ⟨_,_,_,_,H1,rfl,I1.kept (t':=s1.toks) kk,kP (lt o1.isList) (lt o2.isList) (lt o3.isList),⟨q1,q2,⟨_,_,_,q3⟩,q4,q5,q6⟩,fun b hb=>?_,q⟩
    have hle:s1.heap.objs.size <= b:=by
     simp only [List.mem_cons,List.not_mem_nil,or_false] at hb
     rcases hb with e | e | e | e | e | e <;> (rw [e]; first | exact Nat.le_add_right _ _ | exact Nat.le_refl _)
    exact I1.fpOk hle (I1.hok.fresh hle)
end
end L3

set_option linter.all false
namespace M
open PySem (Str)
inductive T where
 | non | bl (b:Bool) | int (i:Int) | str (x:Str) | tup (ts:List T) | lst (ts:List T) | dct (ks vs:List T) | ins (c:Str) (fs:List Str) (vs:List T)
 | scr (ns:List Int)
 | gone
 deriving Inhabited
inductive Md where
 | s | d | o (m:Md)
 deriving DecidableEq,Inhabited
noncomputable def Md.kid:Md -> Md
 | .s=>.s | .d=>.d | .o m=>m
noncomputable def Md.up:Md -> Md
 | .d=>.d | m=>.o m
noncomputable def Md.meet:Md -> Md -> Md
 | .s,_=>.s | .d,m=>m | .o _,.s=>.s | .o a,.d=>.o a | .o a,.o b=>.o (a.meet b)
noncomputable def Md.le:Md -> Md -> Bool
 | .s,_=>true
 | .o a,.o b=>a.le b
 | .o _,.d=>true
 | .d,.d=>true
 | _,_=>false
noncomputable abbrev W:=Md × T
noncomputable abbrev Env:=List (Option W)
noncomputable def LIM:Nat:=16777215
noncomputable def T.leaf:T -> Bool
 | .non | .bl _ | .int _ | .str _ | .scr _=>true
 | _=>false
noncomputable def T.isG:T -> Bool
 | .gone=>true
 | _=>false
noncomputable def T.isN:T -> Bool
 | .non=>true
 | _=>false
noncomputable def leaves (ts:List T):Bool:=ts.all T.leaf
inductive Op where
 | add | sub | mul | fdiv | mod | pow | neg | eq | ne | lt | le | gt | ge | is | isnot | isin | notin | ix | sl | sl1 | sl2 | sl3
 | len | isI (cs:List String) | max1 | count | fdivN | modN | list | tuple | sum | all | any | max | min | int | str | rng | sorted | join | split | abs | dict | get | lzip | isB | isnB
 deriving DecidableEq,Inhabited
inductive Ik where
 | seq | rng | enm | zip | sq2 | zip3
 deriving DecidableEq,Inhabited
inductive E where
 | var (i:Nat) | mv (i:Nat) | io (i:Nat) | cst (t:T) | glb (x:Str) (t:T)
 | tup (es:List E) | lst (h:Bool) (es:List E) | op (o:Op) (h:Bool) (es:List E) | wk (m:Md) (e:E)
 | and (a b:E) | or (a b:E) | not (a:E) | ifx (c a b:E) | chain (o p:Op) (a b c:E)
 | call (f:Nat) (es:List E) | comp (h:Bool) (k:Ik) (src:List E) (tg:List Nat) (cnd:Option E) (elt:E)
 | pop (i:Nat) (es:List E) | lenV (i:Nat)
 | tupA (es:List E) | qx (vs ls:List Nat) (e:E) | mvP (i:Nat) (p:List Nat)
 | callT (tab:List (Str × Nat)) (k:E) (es:List E) | inT (neg:Bool) (ks:List Str) (e:E) | ixT (tab:List (Str × T)) (e:E) | getT (tab:List (Str × T)) (e:E)
 deriving Inhabited
inductive X where
 | q (vs ls:List Nat) | l (vs:List Nat)
 deriving Inhabited
inductive S where
 | asg (x:X) (i:Nat) (e:E) | asgT (x:X) (is:List Nat) (e:E) | setI (x:X) (i:Nat) (k e:E)
 | exp (x:X) (e:E) | app (x:X) (i:Nat) (e:E) | ext (x:X) (i:Nat) (e:E)
 | ret (vs:List Nat) (e:E) | retN | ite (x:X) (c:E) (a b:List S)
 | forS (vs ls:List Nat) (k:Ik) (src:List E) (tg:List Nat) (body:List S) | whl (x:X) (c:E) (body:List S)
 | brk | pas | stop
 deriving Inhabited
structure Fn where
 ps:Nat
 ns:Nat
 io:List Nat
 body:List S
inductive Res (α:Type) where
 | ok (a:α) | ex (c:Str) (x:List T) | no
noncomputable def Res.bind {α β:Type}:Res α -> (α -> Res β) -> Res β
 | .ok a,f=>f a
 | .ex c x,_=>.ex c x
 | .no,_=>.no
noncomputable def ofO {α:Type}:Option α -> Res α
 | some a=>.ok a
 | none=>.no
inductive Fl where
 | nx (η:Env) | rt (w:W) (η:Env) | bk (η:Env) | ex (c:Str) (x:List T) (η:Env) | no
noncomputable def truth:T -> Option Bool
 | .non=>some false | .bl b=>some b | .int i=>some (i != 0) | .str x=>some (x.cps.size != 0) | .tup ts=>some (!ts.isEmpty) | .lst ts=>some (!ts.isEmpty) | .dct ks _=>some (!ks.isEmpty) | .ins ..=>none | .scr ns=>some (!ns.isEmpty) | .gone=>none
noncomputable def b2i:Bool -> Int
 | true=>1 | false=>0
mutual
noncomputable def eqT:T -> T -> Bool
 | .non,.non=>true
 | .bl a,.bl b=>a == b
 | .bl a,.int i=>b2i a == i
 | .int i,.bl a=>i == b2i a
 | .int i,.int j=>i == j
 | .str x,.str y=>x == y
 | .tup ts,.tup us=>eqTs ts us
 | .lst ts,.lst us=>eqTs ts us
 | _,_=>false
noncomputable def eqTs:List T -> List T -> Bool
 | [],[]=>true
 | t :: ts,u :: us=>eqT t u && eqTs ts us
 | _,_=>false
end
mutual
noncomputable def dp:T -> Nat
 | .tup ts=>dps ts + 1
 | .lst ts=>dps ts + 1
 | .scr _=>1000
 | .dct _ _=>1000
 | .ins _ _ _=>1000
 | .gone=>1000
 | _=>0
noncomputable def dps:List T -> Nat
 | []=>0
 | t :: ts=>max (dp t) (dps ts)
end
noncomputable def sOk (x:Str):Bool:=x.cps.all (· < 0x110000) && decide (x.cps.size <= LIM)
noncomputable def ixN (n:Nat) (i:Int):Option Nat:=if 0 <= i then (if i < n then some i.toNat else none) else if -(n:Int) <= i then some (i + n).toNat else none
noncomputable def atI {α:Type} (xs:List α) (i:Int):Option α:=(ixN xs.length i).bind fun j=>xs[j]?
noncomputable def sIx (n d:Nat):Option Int -> Nat
 | none=>d
 | some i=>if i < 0 then (i + n).toNat else min i.toNat n
noncomputable def cut {α:Type} (xs:List α) (lo hi:Option Int):List α:=(xs.drop (sIx xs.length 0 lo)).take (sIx xs.length xs.length hi - sIx xs.length 0 lo)
noncomputable def T.ty:T -> String
 | .non=>"NoneType" | .bl _=>"bool" | .int _=>"int" | .str _=>"str" | .tup _=>"tuple" | .lst _=>"list" | .dct ..=>"dict" | .ins ..=>"object" | .scr _=>"list" | .gone=>"gone"
noncomputable def isOne (c:String) (t:T):Bool:=t.ty == c || (t.ty == "bool" && c == "int")
noncomputable def gb:List T -> Option (List Int)
 | []=>some []
 | .int i :: ts=>(gb ts).map (i :: ·)
 | _ :: _=>none
noncomputable def aQ:List T -> Option (List Bool)
 | []=>some []
 | .bl b :: ts=>(aQ ts).map (b :: ·)
 | _ :: _=>none
noncomputable def elems:W -> Option (List T)
 | (_,.tup ts)=>some ts
 | (_,.lst ts)=>some ts
 | _=>none
noncomputable def ah:T -> Bool
 | .non | .bl _ | .int _ | .str _=>true
 | _=>false
noncomputable def zp:List Int -> Int
 | []=>0
 | [n]=>n
 | n :: ns=>max n (zp ns)
noncomputable def zipP:List T -> List T -> List T
 | t :: ts,u :: us=>.tup [t,u] :: zipP ts us
 | _,_=>[]
noncomputable def newL (h:Bool) (m:Md) (ts:List T):Option W:=if h then (if leaves ts then some (.d,.lst ts) else none) else some (m.up,.lst ts)
noncomputable def cK (n:Nat):Bool:=decide (n <= LIM)
noncomputable def oSem:Op -> Bool -> List W -> Option W
 | .add,h,[(m,a),(n,b)]=>match a,b with
  | .int i,.int j=>some (.d,.int (i + j))
  | .str x,.str y=>if cK (x.cps.size + y.cps.size) then some (.d,.str (x ++ y)) else none
  | .lst ts,.lst us=>if cK (ts.length + us.length) then newL h (m.kid.meet n.kid) (ts ++ us) else none
  | .tup ts,.tup us=>if cK (ts.length + us.length) && !ts.isEmpty then some (.s,.tup (ts ++ us)) else none
  | _,_=>none
 | .sub,_,[(_,.int i),(_,.int j)]=>some (.d,.int (i - j))
 | .mul,h,[(m,a),(_,b)]=>match a,b with
  | .int i,.int j=>if (decide (i.natAbs < 18446744073709551616)) || (decide (j.natAbs < 18446744073709551616)) then some (.d,.int (i * j)) else none
  | .lst ts,.int k=>if decide (k.natAbs < 4611686018427387904) && cK (ts.length * k.toNat) then newL h .s (List.replicate k.toNat ts).flatten else none
  | _,_=>none
 | .fdiv,_,[(_,.int i),(_,.int j)]=>if decide (0 < j) && decide (j < 1073741824) then some (.d,.int (i / j)) else none
 | .mod,_,[(_,.int i),(_,.int j)]=>if decide (0 < j) then some (.d,.int (i % j)) else none
 | .pow,_,[(_,.int i),(_,.int j)]=>if decide (0 <= j) && decide (j <= 1000000) && decide (i.natAbs < 18446744073709551616) then some (.d,.int (i ^ j.toNat)) else none
 | .fdivN,_,[(_,.int i),(_,.int j)]=>if (j != 0) && decide (j.natAbs < 18446744073709551616) then some (.d,.int (i.fdiv j)) else none
 | .modN,_,[(_,.int i),(_,.int j)]=>if j != 0 then some (.d,.int (i.fmod j)) else none
 | .neg,_,[(_,.int i)]=>some (.d,.int (-i))
 | .eq,_,[(_,a),(_,b)]=>if decide (dp a <= 64) && decide (dp b <= 64) then some (.d,.bl (eqT a b)) else none
 | .ne,_,[(_,a),(_,b)]=>if decide (dp a <= 64) && decide (dp b <= 64) then some (.d,.bl (!eqT a b)) else none
 | .lt,_,[(_,.int i),(_,.int j)]=>some (.d,.bl (decide (i < j)))
 | .le,_,[(_,.int i),(_,.int j)]=>some (.d,.bl (decide (i <= j)))
 | .gt,_,[(_,.int i),(_,.int j)]=>some (.d,.bl (decide (j < i)))
 | .ge,_,[(_,.int i),(_,.int j)]=>some (.d,.bl (decide (j <= i)))
 | .is,_,[(_,a),(_,.non)]=>if a.isG then none else some (.d,.bl a.isN)
 | .isnot,_,[(_,a),(_,.non)]=>if a.isG then none else some (.d,.bl (!a.isN))
 | .ix,_,[(m,a),(_,.int i)]=>match a with
  | .lst ts=>(atI ts i).map fun t=>(m.kid,t)
  | .tup ts=>(atI ts i).map fun t=>(m.kid,t)
  | .str x=>(atI x.cps.toList i).map fun c=>(.d,.str ⟨#[c]⟩)
  | .scr ns=>(atI ns i).map fun n=>(.d,.int n)
  | _=>none
 | .sl,h,[(m,.lst ts)]=>newL h m.kid ts
 | .sl1,h,[(m,.lst ts),(_,.int i)]=>newL h m.kid (cut ts (some i) none)
 | .sl2,h,[(m,.lst ts),(_,.int i)]=>newL h m.kid (cut ts none (some i))
 | .sl3,h,[(m,.lst ts),(_,.int i),(_,.int j)]=>newL h m.kid (cut ts (some i) (some j))
 | .sl2,_,[(_,.scr ns),(_,.int i)]=>some (.d,.lst ((cut ns none (some i)).map T.int))
 | .sl1,_,[(_,.scr ns),(_,.int i)]=>some (.d,.lst ((cut ns (some i) none).map T.int))
 | .sl,_,[(_,.scr ns)]=>some (.d,.lst (ns.map T.int))
 | .sl1,_,[(_,.tup ts),(_,.int i)]=>some (.s,.tup (cut ts (some i) none))
 | .sl2,_,[(_,.tup ts),(_,.int i)]=>some (.s,.tup (cut ts none (some i)))
 | .sl3,_,[(_,.tup ts),(_,.int i),(_,.int j)]=>some (.s,.tup (cut ts (some i) (some j)))
 | .len,_,[(_,a)]=>match a with
  | .lst ts=>some (.d,.int ts.length)
  | .tup ts=>some (.d,.int ts.length)
  | .str x=>some (.d,.int x.cps.size)
  | .scr ns=>some (.d,.int ns.length)
  | .dct ks _=>some (.d,.int ks.length)
  | _=>none
 | .isI cs,_,[(_,a)]=>if a.isG then none else some (.d,.bl (cs.any fun c=>isOne c a))
 | .list,h,[(m,a)]=>match a with
  | .lst ts=>newL h m.kid ts
  | .tup ts=>newL h m.kid ts
  | .scr ns=>some (.d,.lst (ns.map T.int))
  | _=>none
 | .tuple,_,[(m,a)]=>match a with
  | .lst ts=>some (m.kid.up,.tup ts)
  | .tup ts=>some (m,.tup ts)
  | _=>none
 | .sum,_,[(_,.lst ts)]=>(gb ts).map fun ns=>(.d,.int ns.sum)
 | .all,_,[(_,.lst ts)]=>(aQ ts).map fun bs=>(.d,.bl (bs.all id))
 | .any,_,[(_,.lst ts)]=>(aQ ts).map fun bs=>(.d,.bl (bs.any id))
 | .max,_,[(_,.int i),(_,.int j)]=>some (.d,.int (if j > i then j else i))
 | .min,_,[(_,.int i),(_,.int j)]=>some (.d,.int (if j < i then j else i))
 | .rng,_,[(_,.int i),(_,.int j)]=>if decide (i.natAbs < 4611686018427387904) && decide (j.natAbs < 4611686018427387904) && cK (j - i).toNat then some (.d,.lst ((List.range (j - i).toNat).map fun (k:Nat)=>T.int (i + k))) else none
 | .isin,_,[(_,a),(n,b)]=>(elems (n,b)).bind fun ts=>if ah a && ts.all ah then some (.d,.bl (ts.any fun t=>eqT t a)) else none
 | .notin,_,[(_,a),(n,b)]=>(elems (n,b)).bind fun ts=>if ah a && ts.all ah then some (.d,.bl (!ts.any fun t=>eqT t a)) else none
 | .int,_,[(_,.int i)]=>some (.d,.int i)
 | .int,_,[(_,.bl b)]=>some (.d,.int (b2i b))
 | .abs,_,[(_,.int i)]=>some (.d,.int i.natAbs)
 | .max1,_,[(_,.lst ts)]=>(gb ts).bind fun ns=>if ns.isEmpty then none else some (.d,.int (zp ns))
 | .count,_,[(_,.lst ts),(_,.bl b)]=>(aQ ts).map fun bs=>(.d,.int (bs.count b))
 | .isB,_,[(_,.bl a),(_,.bl b)]=>some (.d,.bl (a == b))
 | .isnB,_,[(_,.bl a),(_,.bl b)]=>some (.d,.bl (!(a == b)))
 | .lzip,_,[(m,a),(n,b)]=>(elems (m,a)).bind fun ts=>(elems (n,b)).bind fun us=>some ((m.kid.meet n.kid).up.up,.lst (zipP ts us))
 | _,_,_=>none
noncomputable def rd:Env -> Nat -> Option W
 | [],_=>none
 | o :: _,0=>o
 | _ :: η,i + 1=>rd η i
noncomputable def wr:Env -> Nat -> Option W -> Env
 | [],_,_=>[]
 | _ :: η,0,w=>w :: η
 | o :: η,i + 1,w=>o :: wr η i w
noncomputable abbrev put (η:Env) (i:Nat) (w:W):Env:=wr η i (some w)
noncomputable abbrev del (η:Env) (i:Nat):Env:=wr η i none
noncomputable def look:W -> Option W
 | (.s,t)=>some (.s,t)
 | (_,t)=>if t.leaf = true then some (.d,t) else none
noncomputable def toS:Option W -> Option W
 | some (_,t)=>some (.s,t)
 | none=>none
noncomputable def share:List Nat -> Env -> Env
 | [],η=>η
 | i :: is,η=>share is (wr η i (toS (rd η i)))
noncomputable def lfO:Option W -> Option W
 | some (_,t)=>if t.leaf = true then some (.d,t) else none
 | none=>none
noncomputable def ee:Env -> Env
 | []=>[]
 | _ :: η=>none :: ee η
noncomputable def jA:List Nat -> Env -> Env -> Env
 | [],_,η=>η
 | i :: is,η0,η=>jA is η0 (wr η i (toS (rd η0 i)))
noncomputable def eF:List Nat -> Env -> Env -> Env
 | [],_,η=>η
 | i :: is,η0,η=>eF is η0 (wr η i (lfO (rd η0 i)))
noncomputable def pick (vs ls:List Nat) (η:Env):Env:=eF ls η (jA vs η (ee η))
noncomputable def after (m:Md) (vs:List Nat) (η:Env):Env:=match m with
 | .d=>η
 | _=>share vs η
noncomputable def bindT:List Nat -> List W -> Env -> Option Env
 | [],[],η=>some η
 | i :: is,w :: ws,η=>bindT is ws (put η i w)
 | _,_,_=>none
noncomputable def tf (m:Md):Nat -> List T -> List (List W)
 | _,[]=>[]
 | i,t :: ts=>[(.d,.int i),(m,t)] :: tf m (i + 1) ts
noncomputable def bu (m n:Md):List T -> List T -> List (List W)
 | t :: ts,u :: us=>[(m,t),(n,u)] :: bu m n ts us
 | _,_=>[]
noncomputable def lX:List T -> Option (List (List W))
 | []=>some []
 | .tup [x,y] :: ts=>(lX ts).map ([(.s,x),(.s,y)] :: ·)
 | _ :: _=>none
noncomputable def zipT3:List T -> List T -> List T -> List (List W)
 | t :: ts,u :: us,v :: vs=>[(.s,t),(.s,u),(.s,v)] :: zipT3 ts us vs
 | _,_,_=>[]
noncomputable def turns:Ik -> List W -> Option (List (List W))
 | .seq,[(_,.lst ts)]=>some (ts.map fun t=>[(.s,t)])
 | .seq,[(_,.tup ts)]=>some (ts.map fun t=>[(.s,t)])
 | .seq,[(_,.scr ns)]=>some (ns.map fun n=>[(.d,.int n)])
 | .rng,[(_,.int n)]=>if decide (n.natAbs < 4611686018427387904) && cK n.toNat then some ((List.range n.toNat).map fun (k:Nat)=>[(.d,.int k)]) else none
 | .rng,[(_,.int i),(_,.int j)]=>if decide (i.natAbs < 4611686018427387904) && decide (j.natAbs < 4611686018427387904) && cK (j - i).toNat then some ((List.range (j - i).toNat).map fun (k:Nat)=>[(.d,.int (i + k))]) else none
 | .enm,[(_,.lst ts)]=>some (tf .s 0 ts)
 | .zip,[(m,a),(n,b)]=>(elems (m,a)).bind fun ts=>(elems (n,b)).bind fun us=>some (bu .s .s ts us)
 | .sq2,[(_,.lst ts)]=>lX ts
 | .zip3,[(_,.lst ts),(_,.lst us),(_,.lst vs)]=>some (zipT3 ts us vs)
 | _,_=>none
noncomputable abbrev Call:=Nat -> List W -> Res (W × List W)
noncomputable abbrev RE:=Res (W × Env)
noncomputable def lf (m:Md) (t:T):Md:=if t.leaf = true then .d else m
noncomputable def eD:List W -> Md
 | []=>.d
 | w :: ws=>(lf w.1 w.2).meet (eD ws)
noncomputable def aJ:List W -> List T
 | []=>[]
 | w :: ws=>w.2 :: aJ ws
noncomputable def ag:List Nat -> Env -> Env
 | [],η=>η
 | i :: is,η=>ag is (del η i)
noncomputable def ios:List E -> List Nat
 | []=>[]
 | .io i :: es=>i :: ios es
 | _ :: es=>ios es
noncomputable def putAll:List Nat -> List W -> Env -> Env
 | i :: is,w :: ws,η=>putAll is ws (put η i w)
 | _,_,η=>η
noncomputable def yO:W -> List W -> Option (W × W)
 | (.s,_),_=>none
 | (m,.lst ts),[]=>(ts.getLast?).map fun t=>((m.kid,t),(m,.lst ts.dropLast))
 | (m,.lst (t :: ts)),[(_,.int 0)]=>some ((m.kid,t),(m,.lst ts))
 | _,_=>none
noncomputable def fm:W -> W -> Option W
 | (.s,_),_=>none
 | (m,.lst ts),(n,t)=>if ts.length < LIM then some ((m.kid.meet (lf n t)).up,.lst (ts ++ [t])) else none
 | _,_=>none
noncomputable def fk:W -> W -> Option W
 | (.s,_),_=>none
 | (m,.lst ts),(n,.lst us)=>if ts.length + us.length <= LIM then some ((m.kid.meet n.kid).up,.lst (ts ++ us)) else none
 | _,_=>none
noncomputable def cN:W -> W -> W -> Option W
 | (.s,_),_,_=>none
 | (m,.lst ts),(_,.int j),(n,t)=>(ixN ts.length j).map fun k=>((m.kid.meet (lf n t)).up,.lst (ts.set k t))
 | _,_,_=>none
noncomputable def eR:Option W -> Res Unit
 | some (_,.lst _)=>.ok ()
 | _=>.no
noncomputable def yI:W -> Option (List W)
 | (m,.tup ts)=>some (ts.map fun t=>(m.kid,t))
 | _=>none
noncomputable def ret {α:Type} (η:Env) (o:Option α):Res (α × Env):=match o with
 | some a=>.ok (a,η)
 | none=>.no
noncomputable def onB {α:Type}:T -> (Env -> Res α) -> (Env -> Res α) -> Env -> Res α
 | .bl true,f,_,η=>f η
 | .bl false,_,g,η=>g η
 | _,_,_,_=>.no
noncomputable def onT {α:Type} (f g:Env -> Res α) (p:W × Env):Res α:=match truth p.1.2 with
 | some true=>f p.2
 | some false=>g p.2
 | none=>.no
noncomputable def okW {α:Type} (a:α) (η:Env):Res (α × Env):=.ok (a,η)
noncomputable def i4 (p:List W × Env):RE:=.ok (((eD p.1).up,.tup (aJ p.1)),p.2)
noncomputable def oA (h:Bool) (p:List W × Env):RE:=.ok ((if h then (eD p.1).up else .o .s,.lst (aJ p.1)),p.2)
noncomputable def kWk (m:Md) (p:W × Env):RE:=ret p.2 (if m.le p.1.1 then some (m,p.1.2) else none)
noncomputable def kOp (o:Op) (h:Bool) (p:List W × Env):RE:=ret p.2 (oSem o h p.1)
noncomputable def lP (f:Env -> RE) (p:W × Env):RE:=onT f (okW p.1) p
noncomputable def kOr (f:Env -> RE) (p:W × Env):RE:=onT (okW p.1) f p
noncomputable def lE (p:W × Env):RE:=ret p.2 ((truth p.1.2).map fun b=>(.d,.bl (!b)))
noncomputable def kC3 (q:Op) (y:W) (z:W × Env):RE:=ret z.2 (oSem q false [y,z.1])
noncomputable def ky {α β:Type} (f:Env -> Res (α × Env)) (k:α × Env -> Res β) (η:Env):Res β:=(f η).bind k
noncomputable def kC2 (o q:Op) (fc:Env -> RE) (x:W) (y:W × Env):RE:=(ret y.2 (oSem o false [x,y.1])).bind fun k=>onB k.1.2 (ky fc (kC3 q y.1)) (okW (.d,.bl false)) k.2
noncomputable def kC1 (o q:Op) (fb fc:Env -> RE) (x:W × Env):RE:=(fb x.2).bind (kC2 o q fc x.1)
noncomputable def kBack (is:List Nat) (η:Env) (r:W × List W):RE:=.ok (r.1,putAll is r.2 η)
noncomputable def kCall (C:Call) (f:Nat) (is:List Nat) (p:List W × Env):RE:=(C f p.1).bind (kBack is p.2)
noncomputable def fH (p:W × Env):Res (Option W × Env):=.ok (some p.1,p.2)
noncomputable def bA (f:Env -> RE) (η:Env):Res (Option W × Env):=(f η).bind fH
noncomputable def ox (c f:Env -> RE) (η:Env):Res (Option W × Env):=(c η).bind (onT (bA f) (okW none))
noncomputable def aE (tg:List Nat) (f:Env -> Res (Option W × Env)):List (List W) -> Env -> List W -> Res (List W × Env)
 | [],η,acc=>.ok (acc,η)
 | ws :: r,η,acc=>(ofO (bindT tg ws η)).bind fun η1=>(f η1).bind fun p=>aE tg f r (ag tg p.2) (acc ++ p.1.toList)
noncomputable def okD (w:W):Bool:=w.1 == .d || w.2.leaf
noncomputable def iK (h:Bool) (q:List W × Env):RE:=ret q.2 (if h then (if q.1.all okD then some (.d,.lst (aJ q.1)) else none) else some (.o .s,.lst (aJ q.1)))
noncomputable def cT (h:Bool) (k:Ik) (tg:List Nat) (f:Env -> Res (Option W × Env)) (p:List W × Env):RE:=(ret (ag tg p.2) (turns k p.1)).bind fun t=>(aE tg f t.1 t.2 []).bind (iK h)
noncomputable def n8 (f:Env -> Res (List W × Env)) (η:Env) (k:List W × Env -> RE) (_:Unit):RE:=(f η).bind k
noncomputable def pO (i:Nat) (p:List W × Env):RE:=(ofO ((rd p.2 i).bind fun w=>yO w p.1)).bind fun r=>.ok (r.1,put p.2 i r.2)
noncomputable def jN (w:W) (q:List W × Env):Res (List W × Env):=.ok (w :: q.1,q.2)
noncomputable def aS (f:Env -> Res (List W × Env)) (p:W × Env):Res (List W × Env):=(f p.2).bind (jN p.1)
noncomputable def takeP:List Nat -> Md -> T -> Option (W × T)
 | [],m,t=>some ((m,t),.gone)
 | j :: p,m,.lst ts=>(ts[j]?).bind fun t=>(takeP p m.kid t).map fun r=>(r.1,.lst (ts.set j r.2))
 | j :: p,m,.tup ts=>(ts[j]?).bind fun t=>(takeP p m.kid t).map fun r=>(r.1,.tup (ts.set j r.2))
 | _ :: _,_,_=>none
noncomputable def takeW (p:List Nat) (w:W):Option (W × W):=(takeP p w.1 w.2).map fun r=>(r.1,(w.1,r.2))
noncomputable def kMvP (i:Nat) (η:Env) (r:W × W):RE:=.ok (r.1,put η i r.2)
noncomputable def kTab {α:Type} (tab:List (Str × α)) (f:α -> Env -> RE) (p:W × Env):RE:=match p.1.2 with
 | .str x=>match tab.lookup x with
  | some a=>f a p.2
  | none=>.no
 | _=>.no
noncomputable def kCT (C:Call) (fa:Env -> Res (List W × Env)) (is:List Nat) (j:Nat) (η:Env):RE:=(fa η).bind (kCall C j is)
noncomputable def kIn (neg:Bool) (ks:List Str) (p:W × Env):RE:=match p.1.2 with
 | .str x=>.ok ((.d,.bl (ks.contains x != neg)),p.2)
 | _=>.no
noncomputable def okS (t:T) (η:Env):RE:=.ok ((.s,t),η)
noncomputable def qX (tab:List (Str × T)) (p:W × Env):RE:=match p.1.2 with
 | .str x=>.ok ((.s,(tab.lookup x).getD .non),p.2)
 | _=>.no
noncomputable def kX (vs:List Nat) (η:Env) (p:W × Env):RE:=.ok ((lf p.1.1 p.1.2,p.1.2),after (lf p.1.1 p.1.2) vs η)
noncomputable def kIo (i:Nat) (p:List W × Env):Res (List W × Env):=(ofO (rd p.2 i)).bind fun w=>.ok (w :: p.1,del p.2 i)
section
variable (C:Call)
mutual
noncomputable def evE:E -> Env -> RE
 | .var i,η=>ret η ((rd η i).bind look)
 | .mv i,η=>ret (del η i) (rd η i)
 | .io i,η=>ret (del η i) (rd η i)
 | .cst t,η=>.ok ((.d,t),η)
 | .glb _ t,η=>.ok ((.s,t),η)
 | .tup es,η=>(evL es η).bind i4
 | .lst h es,η=>(evL es η).bind (oA h)
 | .wk m e,η=>(evE e η).bind (kWk m)
 | .op o h es,η=>(evL es η).bind (kOp o h)
 | .and a b,η=>(evE a η).bind (lP (evE b))
 | .or a b,η=>(evE a η).bind (kOr (evE b))
 | .not a,η=>(evE a η).bind lE
 | .ifx c a b,η=>(evE c η).bind (onT (evE a) (evE b))
 | .chain o q a b c,η=>(evE a η).bind (kC1 o q (evE b) (evE c))
 | .call f es,η=>(evA es η).bind (kCall C f (ios es))
 | .comp h k src tg none elt,η=>(evL src η).bind (cT h k tg (bA (evE elt)))
 | .comp h k src tg (some c) elt,η=>(evL src η).bind (cT h k tg (ox (evE c) (evE elt)))
 | .pop i es,η=>(eR (rd η i)).bind (n8 (evL es) η (pO i))
 | .lenV i,η=>ret η ((rd η i).bind fun w=>oSem .len false [w])
 | .tupA es,η=>(evA es η).bind i4
 | .qx vs ls e,η=>(evE e (pick vs ls η)).bind (kX vs η)
 | .mvP i p,η=>(ofO ((rd η i).bind (takeW p))).bind (kMvP i η)
 | .callT tab k es,η=>(evE k η).bind (kTab tab (kCT C (evA es) (ios es)))
 | .inT neg ks e,η=>(evE e η).bind (kIn neg ks)
 | .ixT tab e,η=>(evE e η).bind (kTab tab okS)
 | .getT tab e,η=>(evE e η).bind (qX tab)
noncomputable def evL:List E -> Env -> Res (List W × Env)
 | [],η=>.ok ([],η)
 | e :: es,η=>(evE e η).bind (aS (evL es))
noncomputable def evA:List E -> Env -> Res (List W × Env)
 | [],η=>.ok ([],η)
 | .io i :: es,η=>(evA es η).bind (kIo i)
 | e :: es,η=>(evE e η).bind (aS (evA es))
end
noncomputable def kT (η:Env) (p:W × Env):Res (Bool × Env):=ret η (truth p.1.2)
noncomputable def kT2 (p:W × Env):Res (Bool × Env):=ret p.2 (truth p.1.2)
noncomputable def evX:X -> E -> Env -> RE
 | .q vs ls,e,η=>(evE C e (pick vs ls η)).bind (kX vs η)
 | .l vs,e,η=>evE C e (share vs η)
noncomputable def evT:X -> E -> Env -> Res (Bool × Env)
 | .q vs ls,e,η=>(evE C e (pick vs ls η)).bind (kT η)
 | .l vs,e,η=>(evE C e (share vs η)).bind kT2
noncomputable def Fl.of {α:Type} (η:Env):Res α -> (α -> Fl) -> Fl
 | .ok a,f=>f a
 | .ex c x,_=>.ex c x η
 | .no,_=>.no
noncomputable def Fl.seq:Fl -> (Env -> Fl) -> Fl
 | .nx η,f=>f η
 | z,_=>z
noncomputable def Fl.turn:Fl -> (Env -> Fl) -> Fl
 | .nx η,f=>f η
 | .bk η,_=>.nx η
 | z,_=>z
noncomputable def onF:Bool -> (Env -> Fl) -> (Env -> Fl) -> Env -> Fl
 | true,f,_,η=>f η
 | false,_,g,η=>g η
noncomputable def forL (tg:List Nat) (f:Env -> Fl):List (List W) -> Env -> Fl
 | [],η=>.nx η
 | ws :: r,η=>Fl.of η (ofO (bindT tg ws η)) fun η1=>Fl.turn (f η1) (forL tg f r)
noncomputable def kIf (f g:Env -> Fl) (p:Bool × Env):Fl:=onF p.1 f g p.2
noncomputable def tM (f:Env -> Fl) (g:Env -> Fl) (η:Env):Fl:=Fl.turn (f η) g
noncomputable def uU (c:Env -> Res (Bool × Env)) (f:Env -> Fl):Nat -> Env -> Fl
 | 0,_=>.no
 | n + 1,η=>Fl.of η (c η) (kIf (tM f (uU c f n)) .nx)
noncomputable def As:Nat:=1000000000000
noncomputable def nxO (η:Env):Option Env -> Fl
 | some η=>.nx η
 | none=>.no
noncomputable def rk (i:Nat) (p:W × Env):Fl:=.nx (put p.2 i p.1)
noncomputable def uc (is:List Nat) (p:W × Env):Fl:=nxO p.2 ((yI p.1).bind fun ws=>bindT is ws p.2)
noncomputable def oY (i:Nat) (p:W × Env):Fl:=nxO p.2 (((rd p.2 i).bind fun w=>fm w p.1).map fun w=>put p.2 i w)
noncomputable def pf (i:Nat) (p:W × Env):Fl:=nxO p.2 (((rd p.2 i).bind fun w=>fk w p.1).map fun w=>put p.2 i w)
noncomputable def l5 (i:Nat) (x:W) (q:W × Env):Fl:=nxO q.2 (((rd q.2 i).bind fun w=>cN w q.1 x).map fun w=>put q.2 i w)
noncomputable def qT (i:Nat) (f:Env -> RE) (η:Env) (p:W × Env):Fl:=Fl.of η (f p.2) (l5 i p.1)
noncomputable def jk (f:Env -> RE) (η:Env) (k:W × Env -> Fl) (_:Unit):Fl:=Fl.of η (f η) k
noncomputable def kNx (p:W × Env):Fl:=.nx p.2
noncomputable def kRt (p:W × Env):Fl:=.rt p.1 p.2
noncomputable def kFor2 (tg:List Nat) (f:Env -> Fl) (t:List (List W) × Env):Fl:=forL tg f t.1 t.2
noncomputable def kFor (vs:List Nat) (k:Ik) (tg:List Nat) (f:Env -> Fl) (η:Env) (p:List W × Env):Fl:=Fl.of η (ret (share vs η) (turns k p.1)) (kFor2 tg f)
mutual
noncomputable def evS:S -> Env -> Fl
 | .asg x i e,η=>Fl.of η (evX C x e η) (rk i)
 | .asgT x is e,η=>Fl.of η (evX C x e η) (uc is)
 | .setI x i k e,η=>Fl.of η (evX C x e η) (qT i (evX C x k) η)
 | .exp x e,η=>Fl.of η (evX C x e η) kNx
 | .app x i e,η=>Fl.of η (eR (rd η i)) (jk (evX C x e) η (oY i))
 | .ext x i e,η=>Fl.of η (eR (rd η i)) (jk (evX C x e) η (pf i))
 | .ret vs e,η=>Fl.of η (evE C e (share vs η)) kRt
 | .retN,η=>.rt (.d,.non) η
 | .ite x c a b,η=>Fl.of η (evT C x c η) (kIf (evSs a) (evSs b))
 | .forS vs ls k src tg body,η=>Fl.of η (evL C src (pick vs ls η)) (kFor vs k tg (evSs body) η)
 | .whl x c body,η=>uU (evT C x c) (evSs body) As η
 | .brk,η=>.bk η
 | .pas,η=>.nx η
 | .stop,_=>.no
noncomputable def evSs:List S -> Env -> Fl
 | [],η=>.nx η
 | s :: r,η=>Fl.seq (evS s η) (evSs r)
end
end
noncomputable def backs:List Nat -> Env -> Option (List W)
 | [],_=>some []
 | i :: is,η=>(rd η i).bind fun w=>(backs is η).bind fun ws=>some (w :: ws)
noncomputable def oX (w:W) (b:List W):Res (W × List W):=.ok (w,b)
noncomputable def Fl.out (io:List Nat):Fl -> Res (W × List W)
 | .nx η=>(ofO (backs io η)).bind (oX (.d,.non))
 | .rt w η=>(ofO (backs io η)).bind (oX w)
 | .ex c x _=>.ex c x
 | _=>.no
noncomputable def runF (C:Call) (f:Fn) (ws:List W):Res (W × List W) :=
 if ws.length = f.ps then Fl.out f.io (evSs C f.body (ws.map some ++ List.replicate f.ns none)) else .no
noncomputable abbrev vX:=List Fn
noncomputable def Au (P:vX):Nat -> Call
 | 0=>fun _ _=>.no
 | n + 1=>fun f ws=>(ofO P[f]?).bind fun d=>runF (Au P n) d ws
noncomputable def spoilW (n:Nat):List W -> Res (W × List W)
 | [(m,t)]=>if (lf m t == .d && (decide (dp t <= n) && decide (dp t <= 64))) = true then .ok ((.d,.non),[]) else .no
 | _=>.no
noncomputable def ue:List Nat -> List T -> List T
 | [],_=>[]
 | n :: ns,ts=>.lst (ts.take n) :: ue ns (ts.drop n)
noncomputable def oC:List T -> Option (List Nat)
 | []=>some []
 | .int (.ofNat n) :: ts=>(oC ts).map (n :: ·)
 | _ :: _=>none
noncomputable def zy:List W -> Res (W × List W)
 | [(_,.lst ls),(m,.lst ts)]=>(ofO (oC ls)).bind fun ns=>.ok ((m.kid.up.up,.lst (ue ns ts)),[])
 | _=>.no
noncomputable def callR (P:vX) (s r:Nat):Nat -> Call
 | 0=>fun _ _=>.no
 | n + 1=>fun f ws=>if f = s then spoilW n ws else if f = r then zy ws else (ofO P[f]?).bind fun d=>runF (callR P s r n) d ws
noncomputable def zW (P:vX) (s:Nat):Nat -> Call
 | 0=>fun _ _=>.no
 | n + 1=>fun f ws=>if f = s then spoilW n ws else (ofO P[f]?).bind fun d=>runF (zW P s n) d ws
noncomputable abbrev zf:Fn:={ ps:=0,ns:=0,io:=[],body:=[.stop] }
theorem zf_no (C:Call) (ws:List W):runF C zf ws = .no:=by cases ws <;> rfl
theorem wZ (C:Call) (i:Nat) (η:Env):evE C (.var i) η = ret η ((rd η i).bind look):=rfl
theorem xj (C:Call) (i:Nat) (η:Env):evE C (.mv i) η = ret (del η i) (rd η i):=rfl
theorem wj (C:Call) (i:Nat) (η:Env):evE C (.io i) η = ret (del η i) (rd η i):=rfl
theorem vY (C:Call) (t:T) (η:Env):evE C (.cst t) η = .ok ((.d,t),η):=rfl
theorem xk (C:Call) (es:List E) (η:Env):evE C (.tup es) η = (evL C es η).bind i4:=rfl
theorem vx (C:Call) (h:Bool) (es:List E) (η:Env):evE C (.lst h es) η = (evL C es η).bind (oA h):=rfl
theorem xp (C:Call) (o:Op) (h:Bool) (es:List E) (η:Env):evE C (.op o h es) η = (evL C es η).bind (kOp o h):=rfl
theorem qf (C:Call) (a:E) (b:E) (η:Env):evE C (.and a b) η = (evE C a η).bind (lP (evE C b)):=rfl
theorem rm (C:Call) (a:E) (b:E) (η:Env):evE C (.or a b) η = (evE C a η).bind (kOr (evE C b)):=rfl
theorem rA (C:Call) (a:E) (η:Env):evE C (.not a) η = (evE C a η).bind lE:=rfl
theorem sA (C:Call) (c:E) (a:E) (b:E) (η:Env):evE C (.ifx c a b) η = (evE C c η).bind (onT (evE C a) (evE C b)):=rfl
theorem qG (C:Call) (o:Op) (q:Op) (a:E) (b:E) (c:E) (η:Env):evE C (.chain o q a b c) η = (evE C a η).bind (kC1 o q (evE C b) (evE C c)):=rfl
theorem sy (C:Call) (f:Nat) (es:List E) (η:Env):evE C (.call f es) η = (evA C es η).bind (kCall C f (ios es)):=rfl
theorem sv (C:Call) (h:Bool) (k:Ik) (src:List E) (tg:List Nat) (elt:E) (η:Env):evE C (.comp h k src tg none elt) η = (evL C src η).bind (cT h k tg (bA (evE C elt))):=rfl
theorem qj (C:Call) (h:Bool) (k:Ik) (src:List E) (tg:List Nat) (c:E) (elt:E) (η:Env):evE C (.comp h k src tg (some c) elt) η = (evL C src η).bind (cT h k tg (ox (evE C c) (evE C elt))):=rfl
theorem qB (C:Call) (i:Nat) (es:List E) (η:Env):evE C (.pop i es) η = (eR (rd η i)).bind (n8 (evL C es) η (pO i)):=rfl
theorem kE (C:Call) (i:Nat) (p:List Nat) (η:Env):evE C (.mvP i p) η = (ofO ((rd η i).bind (takeW p))).bind (kMvP i η):=rfl
theorem gO (C:Call) (tab:List (Str × Nat)) (k:E) (es:List E) (η:Env):evE C (.callT tab k es) η = (evE C k η).bind (kTab tab (kCT C (evA C es) (ios es))):=rfl
theorem lj (C:Call) (neg:Bool) (ks:List Str) (e:E) (η:Env):evE C (.inT neg ks e) η = (evE C e η).bind (kIn neg ks):=rfl
theorem k6 (C:Call) (tab:List (Str × T)) (e:E) (η:Env):evE C (.ixT tab e) η = (evE C e η).bind (kTab tab okS):=rfl
theorem lH (C:Call) (i:Nat) (p:List Nat) (es:List E) (η:Env):evA C (.mvP i p :: es) η = (evE C (.mvP i p) η).bind (aS (evA C es)):=rfl
theorem iF (C:Call) (tab:List (Str × Nat)) (k:E) (l:List E) (es:List E) (η:Env):evA C (.callT tab k l :: es) η = (evE C (.callT tab k l) η).bind (aS (evA C es)):=rfl
theorem k9 (C:Call) (neg:Bool) (ks:List Str) (e:E) (es:List E) (η:Env):evA C (.inT neg ks e :: es) η = (evE C (.inT neg ks e) η).bind (aS (evA C es)):=rfl
theorem lS (C:Call) (tab:List (Str × T)) (e:E) (es:List E) (η:Env):evA C (.ixT tab e :: es) η = (evE C (.ixT tab e) η).bind (aS (evA C es)):=rfl
theorem uJ {α:Type} (tab:List (Str × α)) (f:α -> Env -> RE) (m:Md) (x:Str) (η:Env):kTab tab f ((m,.str x),η) = (match tab.lookup x with | some a=>f a η | none=>.no):=rfl
theorem sP (p:List Nat) (m:Md) (t:T):takeW p (m,t) = (takeP p m t).map fun r=>(r.1,(m,r.2)):=rfl
theorem oG (m:Md) (t:T):takeP [] m t = some ((m,t),.gone):=rfl
theorem mi (j:Nat) (p:List Nat) (m:Md) (ts:List T):takeP (j :: p) m (.lst ts) = (ts[j]?).bind fun t=>(takeP p m.kid t).map fun r=>(r.1,.lst (ts.set j r.2)):=rfl
theorem pD (j:Nat) (p:List Nat) (m:Md) (ts:List T):takeP (j :: p) m (.tup ts) = (ts[j]?).bind fun t=>(takeP p m.kid t).map fun r=>(r.1,.tup (ts.set j r.2)):=rfl
theorem wq (h:Bool) (m n:Md) (ts:List T) (i:Int):oSem .sl2 h [(m,.lst ts),(n,.int i)] = newL h m.kid (cut ts none (some i)):=rfl
theorem uX (h:Bool) (m n:Md) (ts:List T) (k:Int):oSem .mul h [(m,.lst ts),(n,.int k)] = if decide (k.natAbs < 4611686018427387904) && cK (ts.length * k.toNat) then newL h .s (List.replicate k.toNat ts).flatten else none:=rfl
theorem qt (m n:Md) (ts us:List T):turns .zip [(m,.lst ts),(n,.lst us)] = some (bu .s .s ts us):=rfl
theorem rK (m n:Md) (ts us:List T):turns .zip [(m,.tup ts),(n,.tup us)] = some (bu .s .s ts us):=rfl
noncomputable def lkM:Md -> Md
 | .s=>.s | _=>.d
theorem BA:lkM .s = .s:=rfl
theorem BL:lkM .d = .d:=rfl
theorem Bf (m:Md):lkM (.o m) = .d:=rfl
theorem yL (m:Md) (i:Int):look (m,.int i) = some (lkM m,.int i):=by cases m <;> rfl
theorem yT (m:Md) (b:Bool):look (m,.bl b) = some (lkM m,.bl b):=by cases m <;> rfl
theorem ze (m:Md) (x:Str):look (m,.str x) = some (lkM m,.str x):=by cases m <;> rfl
theorem zg (m:Md):look (m,.non) = some (lkM m,.non):=by cases m <;> rfl
theorem vj (m n k:Md) (ts us vs:List T):turns .zip3 [(m,.lst ts),(n,.lst us),(k,.lst vs)] = some (zipT3 ts us vs):=rfl
theorem BJ (neg:Bool) (ks:List Str) (m:Md) (x:Str) (η:Env):kIn neg ks ((m,.str x),η) = .ok ((.d,.bl (ks.contains x != neg)),η):=rfl
theorem wO (C:Call) (η:Env):evA C [] η = .ok ([],η):=rfl
theorem wU (C:Call) (i:Nat) (es:List E) (η:Env):evA C (.io i :: es) η = (evA C es η).bind (kIo i):=rfl
theorem lF (C:Call) (i:Nat) (es:List E) (η:Env):evA C (.var i :: es) η = (evE C (.var i) η).bind (aS (evA C es)):=rfl
theorem mx (C:Call) (i:Nat) (es:List E) (η:Env):evA C (.mv i :: es) η = (evE C (.mv i) η).bind (aS (evA C es)):=rfl
theorem lC (C:Call) (t:T) (es:List E) (η:Env):evA C (.cst t :: es) η = (evE C (.cst t) η).bind (aS (evA C es)):=rfl
theorem kH (C:Call) (l:List E) (es:List E) (η:Env):evA C (.tup l :: es) η = (evE C (.tup l) η).bind (aS (evA C es)):=rfl
theorem lz (C:Call) (h:Bool) (l:List E) (es:List E) (η:Env):evA C (.lst h l :: es) η = (evE C (.lst h l) η).bind (aS (evA C es)):=rfl
theorem l8 (C:Call) (o:Op) (h:Bool) (l:List E) (es:List E) (η:Env):evA C (.op o h l :: es) η = (evE C (.op o h l) η).bind (aS (evA C es)):=rfl
theorem k8 (C:Call) (a b:E) (es:List E) (η:Env):evA C (.and a b :: es) η = (evE C (.and a b) η).bind (aS (evA C es)):=rfl
theorem mD (C:Call) (a b:E) (es:List E) (η:Env):evA C (.or a b :: es) η = (evE C (.or a b) η).bind (aS (evA C es)):=rfl
theorem lK (C:Call) (a:E) (es:List E) (η:Env):evA C (.not a :: es) η = (evE C (.not a) η).bind (aS (evA C es)):=rfl
theorem lR (C:Call) (c a b:E) (es:List E) (η:Env):evA C (.ifx c a b :: es) η = (evE C (.ifx c a b) η).bind (aS (evA C es)):=rfl
theorem iQ (C:Call) (f:Nat) (l:List E) (es:List E) (η:Env):evA C (.call f l :: es) η = (evE C (.call f l) η).bind (aS (evA C es)):=rfl
theorem jx (C:Call) (h:Bool) (k:Ik) (src:List E) (tg:List Nat) (cnd:Option E) (elt:E) (es:List E) (η:Env):evA C (.comp h k src tg cnd elt :: es) η = (evE C (.comp h k src tg cnd elt) η).bind (aS (evA C es)):=rfl
theorem uQ {C:Call} {e:E} {es:List E} {η:Env} (he:∀ i,e ≠ .io i):evA C (e :: es) η = (evE C e η).bind (aS (evA C es)):=by
 cases e with
 | io i=>exact absurd rfl (he i)
 | _=>rfl
theorem q9 (C:Call) (η:Env):evL C ([]) η = .ok ([],η):=rfl
theorem rS (C:Call) (e:E) (es:List E) (η:Env):evL C (e :: es) η = (evE C e η).bind (aS (evL C es)):=rfl
theorem qY (C:Call) (x:X) (i:Nat) (e:E) (η:Env):evS C (.asg x i e) η = Fl.of η (evX C x e η) (rk i):=rfl
theorem qc (C:Call) (x:X) (is:List Nat) (e:E) (η:Env):evS C (.asgT x is e) η = Fl.of η (evX C x e η) (uc is):=rfl
theorem qk (C:Call) (x:X) (i:Nat) (k:E) (e:E) (η:Env):evS C (.setI x i k e) η = Fl.of η (evX C x e η) (qT i (evX C x k) η):=rfl
theorem rR (C:Call) (x:X) (e:E) (η:Env):evS C (.exp x e) η = Fl.of η (evX C x e η) kNx:=rfl
theorem qS (C:Call) (x:X) (i:Nat) (e:E) (η:Env):evS C (.app x i e) η = Fl.of η (eR (rd η i)) (jk (evX C x e) η (oY i)):=rfl
theorem qU (C:Call) (x:X) (i:Nat) (e:E) (η:Env):evS C (.ext x i e) η = Fl.of η (eR (rd η i)) (jk (evX C x e) η (pf i)):=rfl
theorem qu (C:Call) (vs:List Nat) (e:E) (η:Env):evS C (.ret vs e) η = Fl.of η (evE C e (share vs η)) kRt:=rfl
theorem rF (C:Call) (η:Env):evS C (.retN) η = .rt (.d,.non) η:=rfl
theorem qK (C:Call) (x:X) (c:E) (a:List S) (b:List S) (η:Env):evS C (.ite x c a b) η = Fl.of η (evT C x c η) (kIf (evSs C a) (evSs C b)):=rfl
theorem qe (C:Call) (vs:List Nat) (ls:List Nat) (k:Ik) (src:List E) (tg:List Nat) (body:List S) (η:Env):evS C (.forS vs ls k src tg body) η = Fl.of η (evL C src (pick vs ls η)) (kFor vs k tg (evSs C body) η):=rfl
theorem rM (C:Call) (x:X) (c:E) (body:List S) (η:Env):evS C (.whl x c body) η = uU (evT C x c) (evSs C body) As η:=rfl
theorem pJ (C:Call) (η:Env):evS C (.brk) η = .bk η:=rfl
theorem qQ (C:Call) (η:Env):evS C (.pas) η = .nx η:=rfl
theorem mR (C:Call) (η:Env):evSs C ([]) η = .nx η:=rfl
theorem nH (C:Call) (s:S) (r:List S) (η:Env):evSs C (s :: r) η = Fl.seq (evS C s η) (evSs C r):=rfl
theorem rW (C:Call) (vs:List Nat) (ls:List Nat) (e:E) (η:Env):evX C (.q vs ls) e η = (evE C e (pick vs ls η)).bind (kX vs η):=rfl
theorem rY (C:Call) (vs:List Nat) (e:E) (η:Env):evX C (.l vs) e η = evE C e (share vs η):=rfl
theorem rZ (C:Call) (vs:List Nat) (ls:List Nat) (e:E) (η:Env):evT C (.q vs ls) e η = (evE C e (pick vs ls η)).bind (kT η):=rfl
theorem rB (C:Call) (vs:List Nat) (e:E) (η:Env):evT C (.l vs) e η = (evE C e (share vs η)).bind kT2:=rfl
theorem xB {α β:Type} (a:α) (f:α -> Res β):(Res.ok a).bind f = f a:=rfl
theorem Bn {α:Type} (η:Env) (a:α) (f:α -> Fl):Fl.of η (.ok a) f = f a:=rfl
theorem uC (η:Env) (f:Env -> Fl):Fl.seq (.nx η) f = f η:=rfl
theorem uV (w:W) (η:Env) (f:Env -> Fl):Fl.seq (.rt w η) f = .rt w η:=rfl
theorem we (η:Env) (f:Env -> Fl):Fl.seq (.bk η) f = .bk η:=rfl
theorem qZ (η:Env) (f:Env -> Fl):Fl.turn (.nx η) f = f η:=rfl
theorem sx (w:W) (η:Env) (f:Env -> Fl):Fl.turn (.rt w η) f = .rt w η:=rfl
theorem qI (η:Env) (f:Env -> Fl):Fl.turn (.bk η) f = .nx η:=rfl
theorem ve {α:Type} (f g:Env -> Res α) (η:Env):onB (.bl true) f g η = f η:=rfl
theorem vR {α:Type} (f g:Env -> Res α) (η:Env):onB (.bl false) f g η = g η:=rfl
theorem vA {α:Type} (f g:Env -> Res α) (m:Md) (b:Bool) (η:Env):onT f g ((m,.bl b),η) = onB (.bl b) f g η:=by cases b <;> rfl
theorem uO {α:Type} (f g:Env -> Res α) (m:Md) (η:Env):onT f g ((m,.bl true),η) = f η:=rfl
theorem vc {α:Type} (f g:Env -> Res α) (m:Md) (η:Env):onT f g ((m,.bl false),η) = g η:=rfl
theorem uG (f g:Env -> Fl) (η:Env):onF true f g η = f η:=rfl
theorem w6 (f g:Env -> Fl) (η:Env):onF false f g η = g η:=rfl
theorem y9 {α:Type} (a:α):ofO (some a) = .ok a:=rfl
theorem yx {α:Type} (η:Env) (a:α):ret η (some a) = .ok (a,η):=rfl
theorem Aq (o:Option W) (η:Env):rd (o :: η) 0 = o:=rfl
theorem ye (o:Option W) (η:Env) (i:Nat):rd (o :: η) (i + 1) = rd η i:=rfl
theorem zv (o w:Option W) (η:Env):wr (o :: η) 0 w = w :: η:=rfl
theorem yC (o w:Option W) (η:Env) (i:Nat):wr (o :: η) (i + 1) w = o :: wr η i w:=rfl
theorem pL (t:T):look (.s,t) = some (.s,t):=rfl
theorem qr (m:Md) (i:Int):(look (.d,.int i)) = some (.d,.int i):=rfl
theorem qD (m:Md) (b:Bool):(look (.d,.bl b)) = some (.d,.bl b):=rfl
theorem sW (x:Str):(look (.d,.str x)) = some (.d,.str x):=rfl
theorem qv:(look (.d,.non)) = some (.d,.non):=rfl
theorem yb (m:Md) (t:T):toS (some (m,t)) = some (.s,t):=rfl
theorem uR:toS none = none:=rfl
theorem mH (η:Env):share [] η = η:=rfl
theorem mJ (i:Nat) (is:List Nat) (η:Env):share (i :: is) η = share is (wr η i (toS (rd η i))):=rfl
theorem nK:ee [] = []:=rfl
theorem nI (o:Option W) (η:Env):ee (o :: η) = none :: ee η:=rfl
theorem u9 (vs ls:List Nat) (η:Env):pick vs ls η = eF ls η (jA vs η (ee η)):=rfl
theorem qA (η0 η:Env):jA [] η0 η = η:=rfl
theorem pY (i:Nat) (is:List Nat) (η0 η:Env):jA (i :: is) η0 η = jA is η0 (wr η i (toS (rd η0 i))):=rfl
theorem nq (η0 η:Env):eF [] η0 η = η:=rfl
theorem pk (i:Nat) (is:List Nat) (η0 η:Env):eF (i :: is) η0 η = eF is η0 (wr η i (lfO (rd η0 i))):=rfl
theorem yJ (m:Md) (i:Int):lfO (some (m,.int i)) = some (.d,.int i):=rfl
theorem yD (m:Md) (b:Bool):lfO (some (m,.bl b)) = some (.d,.bl b):=rfl
theorem zh (m:Md) (x:Str):lfO (some (m,.str x)) = some (.d,.str x):=rfl
theorem ym (m:Md):lfO (some (m,.non)) = some (.d,.non):=rfl
theorem l6 (vs:List Nat) (η:Env):after .d vs η = η:=rfl
theorem mP (vs:List Nat) (η:Env):after .s vs η = share vs η:=rfl
theorem nQ (m:Md) (vs:List Nat) (η:Env):after (.o m) vs η = share vs η:=rfl
theorem xw (m:Md) (i:Int):lf m (.int i) = .d:=rfl
theorem xT (m:Md) (b:Bool):lf m (.bl b) = .d:=rfl
theorem xl (m:Md) (x:Str):lf m (.str x) = .d:=rfl
theorem wY (m:Md):lf m .non = .d:=rfl
theorem xW (m:Md) (ts:List T):lf m (.lst ts) = m:=rfl
theorem v9 (m:Md) (ts:List T):lf m (.tup ts) = m:=rfl
theorem pe (t:T):lf .d t = .d:=by unfold lf; split <;> rfl
theorem vZ (m:Md):Md.s.le m = true:=by cases m <;> rfl
theorem rX:Md.d.le .d = true:=rfl
theorem pK (m:Md):(Md.o m).le .d = true:=rfl
theorem pZ (m n:Md):(Md.o m).le (.o n) = m.le n:=rfl
theorem vV (h:Bool) (m n:Md) (i j:Int):oSem .add h [(m,.int i),(n,.int j)] = some (.d,.int (i + j)):=rfl
theorem oU (h:Bool) (m n:Md) (ts us:List T):oSem .add h [(m,.lst ts),(n,.lst us)] = if cK (ts.length + us.length) then newL h (m.kid.meet n.kid) (ts ++ us) else none:=rfl
theorem oj (h:Bool) (m n:Md) (x y:Str):oSem .add h [(m,.str x),(n,.str y)] = if cK (x.cps.size + y.cps.size) then some (.d,.str (x ++ y)) else none:=rfl
theorem mG (h:Bool) (m n:Md) (ts us:List T):oSem .add h [(m,.tup ts),(n,.tup us)] = if cK (ts.length + us.length) && !ts.isEmpty then some (.s,.tup (ts ++ us)) else none:=rfl
theorem yX (h:Bool) (m n:Md) (i j:Int):oSem .sub h [(m,.int i),(n,.int j)] = some (.d,.int (i - j)):=rfl
theorem mh (h:Bool) (m n:Md) (i j:Int):oSem .mul h [(m,.int i),(n,.int j)] = if (decide (i.natAbs < 18446744073709551616)) || (decide (j.natAbs < 18446744073709551616)) then some (.d,.int (i * j)) else none:=rfl
theorem n6 (h:Bool) (m n:Md) (i j:Int):oSem .fdiv h [(m,.int i),(n,.int j)] = if decide (0 < j) && decide (j < 1073741824) then some (.d,.int (i / j)) else none:=rfl
theorem tw (h:Bool) (m n:Md) (i j:Int):oSem .mod h [(m,.int i),(n,.int j)] = if decide (0 < j) then some (.d,.int (i % j)) else none:=rfl
theorem zN (h:Bool) (m n:Md) (i j:Int):oSem .pow h [(m,.int i),(n,.int j)] = if decide (0 <= j) && decide (j <= 1000000) && decide (i.natAbs < 18446744073709551616) then some (.d,.int (i ^ j.toNat)) else none:=rfl
theorem Bm (h:Bool) (m n:Md) (a b:T) (ha:dp a <= 64) (hb:dp b <= 64):oSem .ne h [(m,a),(n,b)] = some (.d,.bl (!eqT a b)):=by
 show (if _ then _ else _) = _
 rw [decide_eq_true ha,decide_eq_true hb]; rfl
theorem xO (h:Bool) (m n:Md) (i j:Int):oSem .eq h [(m,.int i),(n,.int j)] = some (.d,.bl (i == j)):=rfl
theorem xD (h:Bool) (m n:Md) (x y:Str):oSem .eq h [(m,.str x),(n,.str y)] = some (.d,.bl (x == y)):=rfl
theorem wX (h:Bool) (m n:Md) (a b:Bool):oSem .eq h [(m,.bl a),(n,.bl b)] = some (.d,.bl (a == b)):=rfl
theorem uz (h:Bool) (m n:Md) (i j:Int):oSem .ne h [(m,.int i),(n,.int j)] = some (.d,.bl (!(i == j))):=rfl
theorem xC (h:Bool) (m n:Md) (x y:Str):oSem .ne h [(m,.str x),(n,.str y)] = some (.d,.bl (!(x == y))):=rfl
theorem u7 (h:Bool) (m n:Md) (a b:Bool):oSem .ne h [(m,.bl a),(n,.bl b)] = some (.d,.bl (!(a == b))):=rfl
theorem AJ (h:Bool) (m n:Md) (i j:Int):oSem .lt h [(m,.int i),(n,.int j)] = some (.d,.bl (decide (i < j))):=rfl
theorem Bw (h:Bool) (m n:Md) (i j:Int):oSem .le h [(m,.int i),(n,.int j)] = some (.d,.bl (decide (i <= j))):=rfl
theorem A6 (h:Bool) (m n:Md) (i j:Int):oSem .gt h [(m,.int i),(n,.int j)] = some (.d,.bl (decide (j < i))):=rfl
theorem Bl (h:Bool) (m n:Md) (i j:Int):oSem .ge h [(m,.int i),(n,.int j)] = some (.d,.bl (decide (j <= i))):=rfl
theorem Be (h:Bool) (m n:Md) (a:T):oSem .is h [(m,a),(n,.non)] = if a.isG then none else some (.d,.bl a.isN):=rfl
theorem rO (h:Bool) (m n:Md) (a:T):oSem .isnot h [(m,a),(n,.non)] = if a.isG then none else some (.d,.bl (!a.isN)):=rfl
theorem yG (h:Bool) (m n:Md) (ts:List T) (i:Int):oSem .ix h [(m,.lst ts),(n,.int i)] = (atI ts i).map fun t=>(m.kid,t):=rfl
theorem yg (h:Bool) (m n:Md) (ts:List T) (i:Int):oSem .ix h [(m,.tup ts),(n,.int i)] = (atI ts i).map fun t=>(m.kid,t):=rfl
theorem vb (h:Bool) (m:Md) (ts:List T):oSem .len h [(m,.lst ts)] = some (.d,.int ts.length):=rfl
theorem vU (h:Bool) (m:Md) (ts:List T):oSem .len h [(m,.tup ts)] = some (.d,.int ts.length):=rfl
theorem xR (h:Bool) (m:Md) (ns:List Int):oSem .len h [(m,.scr ns)] = some (.d,.int ns.length):=rfl
theorem x4 (h:Bool) (m n:Md) (ns:List Int) (i:Int):oSem .ix h [(m,.scr ns),(n,.int i)] = (atI ns i).map fun n=>(.d,.int n):=rfl
theorem zX (h:Bool) (m n:Md) (ns:List Int) (i:Int):oSem .sl2 h [(m,.scr ns),(n,.int i)] = some (.d,.lst ((cut ns none (some i)).map T.int)):=rfl
theorem uT (m:Md) (ns:List Int):lf m (.scr ns) = .d:=rfl
theorem yp (m:Md) (ns:List Int):lfO (some (m,.scr ns)) = some (.d,.scr ns):=rfl
theorem q8 (ns:List Int):look (.d,.scr ns) = some (.d,.scr ns):=rfl
theorem xV (h:Bool) (m:Md) (x:Str):oSem .len h [(m,.str x)] = some (.d,.int x.cps.size):=rfl
theorem zQ (cs:List String) (h:Bool) (m:Md) (a:T):oSem (.isI cs) h [(m,a)] = if a.isG then none else some (.d,.bl (cs.any fun c=>isOne c a)):=rfl
theorem zd:T.isG .non = false:=rfl
theorem AZ (b:Bool):T.isG (.bl b) = false:=rfl
theorem An (i:Int):T.isG (.int i) = false:=rfl
theorem yN (x:Str):T.isG (.str x) = false:=rfl
theorem yq (ts:List T):T.isG (.tup ts) = false:=rfl
theorem Af (ts:List T):T.isG (.lst ts) = false:=rfl
theorem Ar (ns:List Int):T.isG (.scr ns) = false:=rfl
theorem x3:T.isN .non = true:=rfl
theorem Bv (b:Bool):T.isN (.bl b) = false:=rfl
theorem zH (i:Int):T.isN (.int i) = false:=rfl
theorem zK (x:Str):T.isN (.str x) = false:=rfl
theorem Aa (ts:List T):T.isN (.tup ts) = false:=rfl
theorem zw (ts:List T):T.isN (.lst ts) = false:=rfl
theorem rP (h:Bool) (m:Md) (ts:List T):oSem .list h [(m,.lst ts)] = newL h m.kid ts:=rfl
theorem pW (h:Bool) (m:Md) (ts:List T):oSem .list h [(m,.tup ts)] = newL h m.kid ts:=rfl
theorem uK (h:Bool) (m:Md) (b:Bool):oSem .int h [(m,.bl b)] = some (.d,.int (b2i b)):=rfl
theorem ux (h:Bool) (m:Md) (i:Int):oSem .int h [(m,.int i)] = some (.d,.int i):=rfl
theorem sF (h:Bool) (m n:Md) (i j:Int):oSem .fdivN h [(m,.int i),(n,.int j)] = if (j != 0) && decide (j.natAbs < 18446744073709551616) then some (.d,.int (i.fdiv j)) else none:=rfl
theorem uM (h:Bool) (m n:Md) (i j:Int):oSem .modN h [(m,.int i),(n,.int j)] = if j != 0 then some (.d,.int (i.fmod j)) else none:=rfl
theorem wy (h:Bool) (m n:Md) (ts us:List T):oSem .lzip h [(m,.lst ts),(n,.lst us)] = some ((m.kid.meet n.kid).up.up,.lst (zipP ts us)):=rfl
theorem zt (h:Bool) (m:Md) (ts:List T):oSem .sum h [(m,.lst ts)] = (gb ts).map fun ns=>(.d,.int ns.sum):=rfl
theorem Ap (h:Bool) (m:Md) (ts:List T):oSem .all h [(m,.lst ts)] = (aQ ts).map fun bs=>(.d,.bl (bs.all id)):=rfl
theorem vI (m:Md) (ts:List T):newL true m ts = if leaves ts then some (.d,.lst ts) else none:=rfl
theorem wF (m:Md) (ts:List T):newL false m ts = some (m.up,.lst ts):=rfl
theorem wt (m:Md) (ts:List T):turns .seq [(m,.lst ts)] = some (ts.map fun t=>[(.s,t)]):=rfl
theorem um (m:Md) (ts:List T):turns .seq [(m,.tup ts)] = some (ts.map fun t=>[(.s,t)]):=rfl
theorem mw (m:Md) (n:Int):turns .rng [(m,.int n)] = if decide (n.natAbs < 4611686018427387904) && cK n.toNat then some ((List.range n.toNat).map fun (k:Nat)=>[(.d,.int k)]) else none:=rfl
theorem l9 (η:Env):bindT [] [] η = some η:=rfl
theorem mW (i:Nat) (is:List Nat) (w:W) (ws:List W) (η:Env):bindT (i :: is) (w :: ws) η = bindT is ws (put η i w):=rfl
theorem yM {α β:Type} (f:α -> β) (a:α):(some a).map f = some (f a):=rfl
theorem oo (b:Bool):truth (.bl b) = some b:=rfl
theorem oS (i:Int):truth (.int i) = some (i != 0):=rfl
theorem pV {α β:Type} (a:α) (f:α -> Option β):(some a).bind f = f a:=rfl
theorem qp:Md.s.kid = .s:=rfl
theorem qE:Md.d.kid = .d:=rfl
theorem qJ (m:Md):(Md.o m).kid = m:=rfl
theorem xt:Md.s.up = .o .s:=rfl
theorem wD:Md.d.up = .d:=rfl
theorem wC (m:Md):(Md.o m).up = .o (.o m):=rfl
theorem pq (m:Md):Md.s.meet m = .s:=by cases m <;> rfl
theorem cO (m:Md):Md.d.meet m = m:=by cases m <;> rfl
theorem lG (m:Md):(Md.o m).meet .s = .s:=rfl
theorem kC (m:Md):(Md.o m).meet .d = .o m:=rfl
theorem lr (m n:Md):(Md.o m).meet (.o n) = .o (m.meet n):=rfl
theorem uw (n:Md) (ts:List T) (t:T):fm (.d,.lst ts) (n,t) = if ts.length < LIM then some ((lf n t).up,.lst (ts ++ [t])) else none:=by show (if _ then some ((Md.d.meet _).up,_) else none) = _; rw [cO]
theorem vS (m n:Md) (ts:List T) (t:T):fm (.o m,.lst ts) (n,t) = if ts.length < LIM then some ((m.meet (lf n t)).up,.lst (ts ++ [t])) else none:=rfl
theorem ur (n:Md) (ts us:List T):fk (.d,.lst ts) (n,.lst us) = if ts.length + us.length <= LIM then some (n.kid.up,.lst (ts ++ us)) else none:=by show (if _ then some ((Md.d.meet _).up,_) else none) = _; rw [cO]
theorem w8 (m n:Md) (ts us:List T):fk (.o m,.lst ts) (n,.lst us) = if ts.length + us.length <= LIM then some ((m.meet n.kid).up,.lst (ts ++ us)) else none:=rfl
theorem xI (l n:Md) (ts:List T) (t:T) (j:Int):cN (.d,.lst ts) (l,.int j) (n,t) = (ixN ts.length j).map fun k=>((lf n t).up,.lst (ts.set k t)):=by show ((ixN ts.length j).map fun k=>((Md.d.meet _).up,_)) = _; rw [cO]
theorem uP (m l n:Md) (ts:List T) (t:T) (j:Int):cN (.o m,.lst ts) (l,.int j) (n,t) = (ixN ts.length j).map fun k=>((m.meet (lf n t)).up,.lst (ts.set k t)):=rfl
theorem vi (m:Md) (ts:List T):eR (some (m,.lst ts)) = .ok ():=rfl
theorem xN (m:Md) (ts:List T):yI (m,.tup ts) = some (ts.map fun t=>(m.kid,t)):=rfl
theorem x8 (η η':Env):nxO η (some η') = .nx η':=rfl
theorem oJ (η:Env):backs [] η = some []:=rfl
theorem mZ (i:Nat) (is:List Nat) (η:Env):backs (i :: is) η = (rd η i).bind fun w=>(backs is η).bind fun ws=>some (w :: ws):=rfl
theorem vm (io:List Nat) (η:Env):Fl.out io (.nx η) = (ofO (backs io η)).bind (oX (.d,.non)):=rfl
theorem xY (io:List Nat) (w:W) (η:Env):Fl.out io (.rt w η) = (ofO (backs io η)).bind (oX w):=rfl
theorem x_run (C:Call) (f:Fn) (ws:List W) (h:ws.length = f.ps):runF C f ws = Fl.out f.io (evSs C f.body (ws.map some ++ List.replicate f.ns none)):=if_pos h
theorem at0 {α:Type} (a:α) (l:List α):atI (a :: l) 0 = some a:=by simp [atI,ixN]
theorem atN {α:Type} {xs:List α} {i:Int} {n:Nat} {a:α} (hi:i = n) (h:xs[n]? = some a):atI xs i = some a:=by
 subst hi
 have:=(List.getElem?_eq_some_iff.mp h).1
 rw [atI,ixN,if_pos (by omega),if_pos (by omega)]
 exact h
theorem at1 {α:Type} (a b:α) (l:List α):atI (a :: b :: l) 1 = some b:=atN (n:=1) rfl rfl
theorem at2 {α:Type} (a b c:α) (l:List α):atI (a :: b :: c :: l) 2 = some c:=atN (n:=2) rfl rfl
theorem at3 {α:Type} (a b c d:α) (l:List α):atI (a :: b :: c :: d :: l) 3 = some d:=atN (n:=3) rfl rfl
theorem at4 {α:Type} (a b c d e:α) (l:List α):atI (a :: b :: c :: d :: e :: l) 4 = some e:=atN (n:=4) rfl rfl
theorem aC {α:Type} {tg:List Nat} {f:Env -> Res (Option W × Env)} {η:Env} {g:α -> List W} (w:α -> W):∀ (ts:List α) (acc:List W),(∀ x ∈ ts,∃ η1 η2,bindT tg (g x) η = some η1 /\ f η1 = .ok (some (w x),η2) /\ ag tg η2 = η) ->
  aE tg f (ts.map g) η acc = .ok (acc ++ ts.map w,η)
 | [],acc,_=>by rw [List.map_nil,List.map_nil,List.append_nil]; rfl
 | x :: ts,acc,h=>by
  obtain ⟨η1,η2,h1,h2,h3⟩:=h x List.mem_cons_self
  rw [List.map_cons,List.map_cons]
  show (ofO (bindT tg (g x) η)).bind _ = _
  rw [h1]
  show (f η1).bind _ = _
  rw [h2]
  show aE tg f (ts.map g) (ag tg η2) (acc ++ [w x]) = _
  rw [h3,aC w ts _ fun y hy=>h y (List.mem_cons_of_mem _ hy),List.append_assoc]
  rfl
theorem j4 {α:Type} {tg:List Nat} {f:Env -> Fl} {g:α -> List W} (st:List α -> Env):∀ (ts pre:List α),(∀ p x r,pre ++ ts = p ++ x :: r -> ∃ η1,bindT tg (g x) (st p) = some η1 /\ f η1 = .nx (st (p ++ [x]))) ->
  forL tg f (ts.map g) (st pre) = .nx (st (pre ++ ts))
 | [],pre,_=>by rw [List.append_nil]; rfl
 | x :: ts,pre,h=>by
  obtain ⟨η1,h1,h2⟩:=h pre x ts rfl
  rw [List.map_cons]
  show Fl.of _ (ofO (bindT tg (g x) (st pre))) _ = _
  rw [h1]
  show Fl.turn (f η1) _ = _
  rw [h2]
  show forL tg f (ts.map g) (st (pre ++ [x])) = _
  rw [j4 st ts (pre ++ [x]) fun p y r e=>h p y r (by rw [<- e,List.append_assoc]; rfl),List.append_assoc]
  rfl
theorem j8 {α:Type} (g:α -> T) (ts:List α):(ts.map fun x=>((Md.d,g x):W)).all okD = true:=by
 rw [List.all_map,List.all_eq_true]; intro x _; rfl
end M

set_option Elab.async false
set_option linter.all false
set_option maxRecDepth 100000
set_option maxHeartbeats 4000000
namespace MR
open L2 L3 M
open PySem (Addr Str sizeLine)
abbrev Fp:=Addr -> Prop
def ScrR (K:PySem.W.Frag) (H:Hp) (a:Addr) (ns:List Int):Prop:=(∃ o,H a = some (.frz o (.lst (ns.map V.int)))) \/ SqL K (fun _=>none) a (ns.map V.int)
theorem ScrR.sq {K:PySem.W.Frag} {H:Hp} {a:Addr} {ns:List Int} (h:ScrR K H a ns):SqL K H a (ns.map V.int):=by
 rcases h with ⟨o,h⟩ | ((h | ⟨o,h⟩) | h)
 ·exact .inl (.inr ⟨o,h⟩)
 ·cases h
 ·cases h
 ·exact .inr h
theorem ScrR.keep {K:PySem.W.Frag} {H H':Hp} {a:Addr} {ns:List Int} (s:∀ a o u,H a = some (.frz o u) -> H' a = some (.frz o u)) (h:ScrR K H a ns):ScrR K H' a ns:=h.imp (fun ⟨o,e⟩=>⟨o,s a o _ e⟩) id
def LstR (K:PySem.W.Frag) (Z:Fp) (H:Hp) (G:Fp) (a:Addr) (xs:List V):Md -> Prop
 | .s=>Z a /\ H a = some (.lst xs)
 | _=>G a /\ H a = some (.lst xs)
mutual
def Rep (K:PySem.W.Frag) (Z:Fp) (H:Hp):Md -> T -> V -> Fp -> Prop
 | _,.non,v,_=>v = .non
 | _,.bl b,v,_=>v = .bl b
 | _,.int i,v,_=>v = .int i
 | _,.str x,v,_=>v = .str x /\ sOk x = true
 | m,.tup ts,v,G=>∃ a xs,v = .ref a /\ SqT K H a xs /\ xs.length <= LIM /\ RepL K Z H m.kid ts xs G
 | m,.lst ts,v,G=>∃ a xs,v = .ref a /\ xs.length <= LIM /\ LstR K Z H G a xs m /\ RepL K Z H m.kid ts xs (fun b=>G b /\ b ≠ a)
 | _,.dct _ _,_,_=>False
 | _,.ins _ _ _,_,_=>False
 | _,.gone,_,_=>True
 | _,.scr ns,v,_=>∃ a,v = .ref a /\ ns.length <= LIM /\ ScrR K H a ns
def RepL (K:PySem.W.Frag) (Z:Fp) (H:Hp):Md -> List T -> List V -> Fp -> Prop
 | _,[],xs,_=>xs = []
 | m,t :: ts,xs,G=>∃ x r G1 G2,xs = x :: r /\ (∀ a,G1 a -> G a) /\ (∀ a,G2 a -> G a) /\ (∀ a,G1 a -> ¬ G2 a) /\ Rep K Z H m t x G1 /\ RepL K Z H m ts r G2
end
section
variable {K:PySem.W.Frag} {Z Z':Fp} {H H':Hp} {m:Md} {t:T} {ts:List T} {v:V} {xs:List V} {G G':Fp}
theorem LstR.mono {a:Addr} (w:∀ a,G a -> G' a) (h:LstR K Z H G a xs m):LstR K Z H G' a xs m:=by
 cases m with
 | s=>exact h
 | d=>exact ⟨w _ h.1,h.2⟩
 | o m=>exact ⟨w _ h.1,h.2⟩
mutual
theorem Rep.mono:∀ {m:Md} {t:T} {v:V} {G G':Fp},(∀ a,G a -> G' a) -> Rep K Z H m t v G -> Rep K Z H m t v G'
 | _,.non,_,_,_,_,h=>h
 | _,.bl _,_,_,_,_,h=>h
 | _,.int _,_,_,_,_,h=>h
 | _,.str _,_,_,_,_,h=>h
 | m,.tup ts,v,G,G',w,⟨a,xs,e,q,l,r⟩=>⟨a,xs,e,q,l,RepL.mono w r⟩
 | m,.lst ts,v,G,G',w,⟨a,xs,e,l,q,r⟩=>⟨a,xs,e,l,q.mono w,RepL.mono (fun b hb=>⟨w b hb.1,hb.2⟩) r⟩
 | _,.dct _ _,_,_,_,_,h=>h.elim
 | _,.ins _ _ _,_,_,_,_,h=>h.elim
 | _,.gone,_,_,_,_,h=>h
 | _,.scr _,_,_,_,_,h=>h
theorem RepL.mono:∀ {m:Md} {ts:List T} {xs:List V} {G G':Fp},(∀ a,G a -> G' a) -> RepL K Z H m ts xs G -> RepL K Z H m ts xs G'
 | _,[],_,_,_,_,h=>h
 | m,t :: ts,xs,G,G',w,⟨x,r,G1,G2,e,h1,h2,hd,p,q⟩=>⟨x,r,G1,G2,e,fun a ha=>w a (h1 a ha),fun a ha=>w a (h2 a ha),hd,p,q⟩
end
def Stay (Z:Fp) (H H':Hp):Prop:=(∀ a o,Z a -> H a = some o -> H' a = some o) /\ (∀ a xs,Rd H a (.tup xs) -> Rd H' a (.tup xs)) /\ ∀ a o u,H a = some (.frz o u) -> H' a = some (.frz o u)
theorem Stay.sqt (s:Stay Z H H') {a:Addr} (h:SqT K H a xs):SqT K H' a xs:=by
 rcases h with h | h
 ·exact .inl (s.2.1 a xs h)
 ·exact .inr h
theorem LstR.keep {a:Addr} (s:Stay Z H H') (z:∀ a,Z a -> Z' a) (g:∀ a o,G a -> H a = some o -> H' a = some o) (h:LstR K Z H G a xs m):LstR K Z' H' G a xs m:=by
 cases m with
 | s=>exact ⟨z _ h.1,s.1 _ _ h.1 h.2⟩
 | d=>exact ⟨h.1,g _ _ h.1 h.2⟩
 | o m=>exact ⟨h.1,g _ _ h.1 h.2⟩
mutual
theorem Rep.keep (s:Stay Z H H') (z:∀ a,Z a -> Z' a):∀ {m:Md} {t:T} {v:V} {G:Fp},(∀ a o,G a -> H a = some o -> H' a = some o) -> Rep K Z H m t v G -> Rep K Z' H' m t v G
 | _,.non,_,_,_,h=>h
 | _,.bl _,_,_,_,h=>h
 | _,.int _,_,_,_,h=>h
 | _,.str _,_,_,_,h=>h
 | m,.tup ts,v,G,g,⟨a,xs,e,q,l,r⟩=>⟨a,xs,e,s.sqt q,l,RepL.keep s z g r⟩
 | m,.lst ts,v,G,g,⟨a,xs,e,l,q,r⟩=>⟨a,xs,e,l,q.keep s z g,RepL.keep s z (fun b o hb=>g b o hb.1) r⟩
 | _,.dct _ _,_,_,_,h=>h.elim
 | _,.ins _ _ _,_,_,_,h=>h.elim
 | _,.gone,_,_,_,h=>h
 | _,.scr _,_,_,_,⟨a,e,l,q⟩=>⟨a,e,l,q.keep s.2.2⟩
theorem RepL.keep (s:Stay Z H H') (z:∀ a,Z a -> Z' a):∀ {m:Md} {ts:List T} {xs:List V} {G:Fp},(∀ a o,G a -> H a = some o -> H' a = some o) -> RepL K Z H m ts xs G -> RepL K Z' H' m ts xs G
 | _,[],_,_,_,h=>h
 | m,t :: ts,xs,G,g,⟨x,r,G1,G2,e,h1,h2,hd,p,q⟩=>⟨x,r,G1,G2,e,h1,h2,hd,Rep.keep s z (fun a o ha=>g a o (h1 a ha)) p,RepL.keep s z (fun a o ha=>g a o (h2 a ha)) q⟩
end
theorem bh (Z:Fp) (H:Hp):Stay Z H H:=⟨fun _ _ _ h=>h,fun _ _ h=>h,fun _ _ _ h=>h⟩
theorem Rep.zmono (z:∀ a,Z a -> Z' a) (h:Rep K Z H m t v G):Rep K Z' H m t v G:=h.keep (bh Z H) z fun _ _ _ q=>q
theorem RepL.zmono (z:∀ a,Z a -> Z' a) (h:RepL K Z H m ts xs G):RepL K Z' H m ts xs G:=h.keep (bh Z H) z fun _ _ _ q=>q
theorem RepL.length:∀ {ts:List T} {xs:List V} {G:Fp},RepL K Z H m ts xs G -> xs.length = ts.length
 | [],_,_,h=>by rw [show _ = [] from h]; rfl
 | _ :: _,_,_,⟨x,r,G1,G2,e,_,_,_,_,q⟩=>by rw [e,List.length_cons,List.length_cons,RepL.length q]
theorem RepL.get:∀ {ts:List T} {xs:List V} {G:Fp} {i:Nat} {t:T},RepL K Z H m ts xs G -> ts[i]? = some t -> ∃ x,xs[i]? = some x /\ Rep K Z H m t x G
 | [],_,_,_,_,_,e=>by simp at e
 | _ :: _,_,_,0,_,⟨x,r,G1,G2,e,h1,_,_,p,_⟩,e2=>by
  rw [List.getElem?_cons_zero] at e2; cases e2
  exact ⟨x,by rw [e]; rfl,p.mono h1⟩
 | _ :: _,_,_,i + 1,_,⟨x,r,G1,G2,e,_,h2,_,_,q⟩,e2=>by
  rw [List.getElem?_cons_succ] at e2
  obtain ⟨y,hy,p⟩:=RepL.get q e2
  exact ⟨y,by rw [e,List.getElem?_cons_succ]; exact hy,p.mono h2⟩
theorem RepL.append:∀ {ts us:List T} {xs ys:List V} {G1 G2 G:Fp},(∀ a,G1 a -> G a) -> (∀ a,G2 a -> G a) -> (∀ a,G1 a -> ¬ G2 a) -> RepL K Z H m ts xs G1 -> RepL K Z H m us ys G2 -> RepL K Z H m (ts ++ us) (xs ++ ys) G
 | [],us,xs,ys,G1,G2,G,w1,w2,d,h,k=>by rw [show xs = [] from h]; exact k.mono w2
 | t :: ts,us,xs,ys,G1,G2,G,w1,w2,d,⟨x,r,A,B,e,h1,h2,hd,p,q⟩,k=>by
  rw [e]
  refine ⟨x,r ++ ys,A,fun a=>B a \/ G2 a,rfl,fun a ha=>w1 a (h1 a ha),fun a ha=>ha.elim (fun z=>w1 a (h2 a z)) (w2 a),fun a ha hb=>hb.elim (hd a ha) (d a (h1 a ha)),p,?_⟩
  exact RepL.append (fun a z=>.inl z) (fun a z=>.inr z) (fun a ha=>d a (h2 a ha)) q k
theorem RepL.one {x:V} (p:Rep K Z H m t x G):RepL K Z H m [t] [x] G:=⟨x,[],G,fun _=>False,rfl,fun _ h=>h,fun _ h=>h.elim,fun _ _ h=>h,p,rfl⟩
theorem RepL.take:∀ {ts:List T} {xs:List V} {G:Fp} (n:Nat),RepL K Z H m ts xs G -> RepL K Z H m (ts.take n) (xs.take n) G
 | [],_,_,n,h=>by rw [show _ = [] from h,List.take_nil,List.take_nil]; rfl
 | _ :: _,_,_,0,h=>rfl
 | _ :: _,_,_,n + 1,⟨x,r,A,B,e,h1,h2,hd,p,q⟩=>by rw [e]; exact ⟨x,r.take n,A,B,rfl,h1,h2,hd,p,RepL.take n q⟩
theorem RepL.drop:∀ {ts:List T} {xs:List V} {G:Fp} (n:Nat),RepL K Z H m ts xs G -> RepL K Z H m (ts.drop n) (xs.drop n) G
 | [],_,_,n,h=>by rw [show _ = [] from h,List.drop_nil,List.drop_nil]; rfl
 | _ :: _,_,_,0,h=>h
 | _ :: _,_,_,n + 1,⟨x,r,A,B,e,h1,h2,hd,p,q⟩=>by rw [e]; exact (RepL.drop n q).mono h2
theorem Rep.leaf {m':Md} (hs:∀ a o u,H a = some (.frz o u) -> H' a = some (.frz o u)) (hl:t.leaf = true) (h:Rep K Z H m t v G):Rep K Z' H' m' t v G':=by
 cases t with
 | non=>exact h
 | bl _=>exact h
 | int _=>exact h
 | str _=>exact h
 | scr _=>obtain ⟨a,e,l,q⟩:=h; exact ⟨a,e,l,q.keep hs⟩
 | _=>cases hl
theorem RepL.leaves {m':Md} (hs:∀ a o u,H a = some (.frz o u) -> H' a = some (.frz o u)):∀ {ts:List T} {xs:List V} {G G':Fp},leaves ts = true -> RepL K Z H m ts xs G -> RepL K Z' H' m' ts xs G'
 | [],_,_,_,_,h=>h
 | t :: ts,_,_,G',hl,⟨x,r,A,B,e,h1,h2,hd,p,q⟩=>by
  have h':(t.leaf && ts.all T.leaf) = true:=hl
  rw [Bool.and_eq_true] at h'
  exact ⟨x,r,fun _=>False,fun _=>False,e,fun _ z=>z.elim,fun _ z=>z.elim,fun _ z=>z.elim,p.leaf hs h'.1,RepL.leaves hs h'.2 q⟩
def no:Fp:=fun _=>False
mutual
theorem Rep.sh:∀ {m:Md} {t:T} {v:V} {G:Fp},Rep K Z H m t v G -> Rep K (fun a=>Z a \/ G a) H .s t v no
 | _,.non,_,_,h=>h
 | _,.bl _,_,_,h=>h
 | _,.int _,_,_,h=>h
 | _,.str _,_,_,h=>h
 | m,.tup ts,v,G,⟨a,xs,e,q,l,r⟩=>⟨a,xs,e,q,l,RepL.sh r⟩
 | m,.lst ts,v,G,⟨a,xs,e,l,q,r⟩=>⟨a,xs,e,l,by
   cases m with
   | s=>exact ⟨.inl q.1,q.2⟩
   | d=>exact ⟨.inr q.1,q.2⟩
   | o m=>exact ⟨.inr q.1,q.2⟩,(RepL.zmono (fun b hb=>hb.elim .inl fun z=>.inr z.1) (RepL.sh r)).mono fun _ z=>z.elim⟩
 | _,.dct _ _,_,_,h=>h.elim
 | _,.ins _ _ _,_,_,h=>h.elim
 | _,.gone,_,_,h=>h
 | _,.scr _,_,_,h=>h
theorem RepL.sh:∀ {m:Md} {ts:List T} {xs:List V} {G:Fp},RepL K Z H m ts xs G -> RepL K (fun a=>Z a \/ G a) H .s ts xs no
 | _,[],_,_,h=>h
 | m,t :: ts,xs,G,⟨x,r,G1,G2,e,h1,h2,hd,p,q⟩=>⟨x,r,no,no,e,fun _ z=>z,fun _ z=>z,fun _ z _=>z,Rep.zmono (fun b hb=>hb.imp id (h1 b)) (Rep.sh p),RepL.zmono (fun b hb=>hb.imp id (h2 b)) (RepL.sh q)⟩
end
theorem BM:∀ a:Md,a.le .d = true
 | .s=>rfl | .d=>rfl | .o _=>rfl
theorem le_refl:∀ a:Md,a.le a = true
 | .s=>rfl | .d=>rfl | .o a=>le_refl a
theorem le_trans:∀ {a b c:Md},a.le b = true -> b.le c = true -> a.le c = true
 | .s,_,.s,_,_=>rfl
 | .s,_,.d,_,_=>rfl
 | .s,_,.o _,_,_=>rfl
 | .o a,.o b,.o c,h,k=>le_trans (a:=a) (b:=b) (c:=c) h k
 | .o a,.o b,.d,h,k=>rfl
 | .o a,.d,.d,h,k=>rfl
 | .d,.d,.d,_,_=>rfl
 | .d,.s,_,h,_=>by cases h
 | .d,.o _,_,h,_=>by cases h
 | .o _,.s,_,h,_=>by cases h
 | .o _,.o _,.s,_,k=>by cases k
 | .o _,.d,.s,_,k=>by cases k
 | .o _,.d,.o _,_,k=>by cases k
 | .d,.d,.s,_,k=>by cases k
 | .d,.d,.o _,_,k=>by cases k
theorem bY:∀ a b:Md,(a.meet b).le a = true /\ (a.meet b).le b = true
 | .s,.s=>⟨rfl,rfl⟩
 | .s,.d=>⟨rfl,rfl⟩
 | .s,.o _=>⟨rfl,rfl⟩
 | .d,.s=>⟨rfl,rfl⟩
 | .d,.d=>⟨rfl,rfl⟩
 | .d,.o b=>⟨rfl,le_refl b⟩
 | .o _,.s=>⟨rfl,rfl⟩
 | .o a,.d=>⟨le_refl a,rfl⟩
 | .o a,.o b=>bY a b
theorem nt:∀ {a b:Md},a.le b = true -> a.kid.le b.kid = true
 | .s,.s,_=>rfl
 | .s,.d,_=>rfl
 | .s,.o _,_=>by first | rfl | exact (by cases ‹Md› <;> rfl)
 | .o a,.o b,h=>h
 | .o a,.d,_=>BM a
 | .d,.d,_=>rfl
 | .d,.s,h=>by cases h
 | .d,.o _,h=>by cases h
 | .o _,.s,h=>by cases h
theorem b7:∀ a:Md,a.up.kid = a
 | .s=>rfl | .d=>rfl | .o _=>rfl
theorem bx (a:Md):a.up ≠ .s:=by cases a <;> intro h <;> cases h
theorem LstR.own {a:Addr} (hm:m ≠ .s):LstR K Z H G a xs m ↔ G a /\ H a = some (.lst xs):=by
 cases m with
 | s=>exact absurd rfl hm
 | d=>exact Iff.rfl
 | o m=>exact Iff.rfl
abbrev bq (Z G G':Fp):Fp:=fun a=>Z a \/ (G a /\ ¬ G' a)
mutual
theorem Rep.weak:∀ {m m':Md} {t:T} {v:V} {G:Fp},m'.le m = true -> Rep K Z H m t v G -> ∃ G',(∀ a,G' a -> G a) /\ Rep K (bq Z G G') H m' t v G'
 | m,m',.non,_,G,_,h=>⟨G,fun _ z=>z,h⟩
 | m,m',.bl _,_,G,_,h=>⟨G,fun _ z=>z,h⟩
 | m,m',.int _,_,G,_,h=>⟨G,fun _ z=>z,h⟩
 | m,m',.str _,_,G,_,h=>⟨G,fun _ z=>z,h⟩
 | m,m',.scr _,_,G,_,h=>⟨G,fun _ z=>z,h⟩
 | m,m',.tup ts,v,G,hm,⟨a,xs,e,q,l,r⟩=>by
  obtain ⟨G',h1,h2⟩:=RepL.weak (nt hm) r
  exact ⟨G',h1,a,xs,e,q,l,h2⟩
 | m,m',.lst ts,v,G,hm,h=>by
  cases m' with
  | s=>exact ⟨no,fun _ z=>z.elim,(Rep.sh h).zmono fun a ha=>ha.imp id fun z=>⟨z,fun q=>q⟩⟩
  | d =>
   cases m with
   | s=>cases hm
   | o _=>cases hm
   | d=>exact ⟨G,fun _ z=>z,h.zmono fun _ z=>.inl z⟩
  | o k =>
   have hne:m ≠ .s:=by rintro rfl; cases hm
   obtain ⟨a,xs,e,l,q,r⟩:=h
   rw [LstR.own hne] at q
   obtain ⟨G',h1,h2⟩:=RepL.weak (nt hm) r
   refine ⟨fun b=>G' b \/ b = a,fun b hb=>hb.elim (fun z=>(h1 b z).1) (fun z=>z ▸ q.1),a,xs,e,l,⟨.inr rfl,q.2⟩,?_⟩
   refine (h2.zmono fun b hb=>?_).mono fun b hb=>⟨.inl hb,(h1 b hb).2⟩
   rcases hb with z | ⟨⟨z1,z2⟩,z3⟩
   ·exact .inl z
   ·exact .inr ⟨z1,fun q=>q.elim z3 z2⟩
 | _,_,.dct _ _,_,_,_,h=>h.elim
 | _,_,.ins _ _ _,_,_,_,h=>h.elim
 | m,m',.gone,_,G,_,h=>⟨G,fun _ z=>z,h⟩
theorem RepL.weak:∀ {m m':Md} {ts:List T} {xs:List V} {G:Fp},m'.le m = true -> RepL K Z H m ts xs G -> ∃ G',(∀ a,G' a -> G a) /\ RepL K (bq Z G G') H m' ts xs G'
 | m,m',[],_,G,_,h=>⟨G,fun _ z=>z,h⟩
 | m,m',t :: ts,xs,G,hm,⟨x,r,G1,G2,e,h1,h2,hd,p,q⟩=>by
  obtain ⟨A,a1,a2⟩:=Rep.weak hm p
  obtain ⟨B,b1,b2⟩:=RepL.weak hm q
  refine ⟨fun b=>A b \/ B b,fun b hb=>hb.elim (fun z=>h1 b (a1 b z)) (fun z=>h2 b (b1 b z)),x,r,A,B,e,fun _ z=>.inl z,fun _ z=>.inr z,fun b za zb=>hd b (a1 b za) (b1 b zb),?_,?_⟩
  ·refine a2.zmono fun b hb=>hb.imp id fun z=>⟨h1 b z.1,fun q=>q.elim z.2 fun w=>hd b z.1 (b1 b w)⟩
  ·refine b2.zmono fun b hb=>hb.imp id fun z=>⟨h2 b z.1,fun q=>q.elim (fun w=>hd b (a1 b w) z.1) z.2⟩
end
def RepW (K:PySem.W.Frag) (Z:Fp) (H:Hp):List W -> List V -> Fp -> Prop
 | [],xs,_=>xs = []
 | w :: ws,xs,G=>∃ x r G1 G2,xs = x :: r /\ (∀ a,G1 a -> G a) /\ (∀ a,G2 a -> G a) /\ (∀ a,G1 a -> ¬ G2 a) /\ Rep K Z H w.1 w.2 x G1 /\ RepW K Z H ws r G2
theorem RepW.length:∀ {ws:List W} {xs:List V} {G:Fp},RepW K Z H ws xs G -> xs.length = ws.length
 | [],_,_,h=>by rw [show _ = [] from h]; rfl
 | _ :: _,_,_,⟨x,r,G1,G2,e,_,_,_,_,q⟩=>by rw [e,List.length_cons,List.length_cons,RepW.length q]
theorem RepW.mono:∀ {ws:List W} {xs:List V} {G G':Fp},(∀ a,G a -> G' a) -> RepW K Z H ws xs G -> RepW K Z H ws xs G'
 | [],_,_,_,_,h=>h
 | _ :: _,_,_,_,w,⟨x,r,G1,G2,e,h1,h2,hd,p,q⟩=>⟨x,r,G1,G2,e,fun a ha=>w a (h1 a ha),fun a ha=>w a (h2 a ha),hd,p,q⟩
theorem RepW.keep (s:Stay Z H H') (z:∀ a,Z a -> Z' a):∀ {ws:List W} {xs:List V} {G:Fp},(∀ a o,G a -> H a = some o -> H' a = some o) -> RepW K Z H ws xs G -> RepW K Z' H' ws xs G
 | [],_,_,_,h=>h
 | _ :: _,_,_,g,⟨x,r,G1,G2,e,h1,h2,hd,p,q⟩=>⟨x,r,G1,G2,e,h1,h2,hd,p.keep s z fun a o ha=>g a o (h1 a ha),RepW.keep s z (fun a o ha=>g a o (h2 a ha)) q⟩
theorem RepW.append:∀ {ws us:List W} {xs ys:List V} {G1 G2 G:Fp},(∀ a,G1 a -> G a) -> (∀ a,G2 a -> G a) -> (∀ a,G1 a -> ¬ G2 a) -> RepW K Z H ws xs G1 -> RepW K Z H us ys G2 -> RepW K Z H (ws ++ us) (xs ++ ys) G
 | [],us,xs,ys,G1,G2,G,w1,w2,d,h,k=>by rw [show xs = [] from h]; exact k.mono w2
 | t :: ts,us,xs,ys,G1,G2,G,w1,w2,d,⟨x,r,A,B,e,h1,h2,hd,p,q⟩,k=>by
  rw [e]
  refine ⟨x,r ++ ys,A,fun a=>B a \/ G2 a,rfl,fun a ha=>w1 a (h1 a ha),fun a ha=>ha.elim (fun z=>w1 a (h2 a z)) (w2 a),fun a ha hb=>hb.elim (hd a ha) (d a (h1 a ha)),p,?_⟩
  exact RepW.append (fun a z=>.inl z) (fun a z=>.inr z) (fun a ha=>d a (h2 a ha)) q k
theorem RepW.one {w:W} {x:V} (p:Rep K Z H w.1 w.2 x G):RepW K Z H [w] [x] G:=⟨x,[],G,no,rfl,fun _ h=>h,fun _ h=>h.elim,fun _ _ h=>h,p,rfl⟩
theorem eV:∀ {ws:List W} {w:W},w ∈ ws -> (eD ws).le (lf w.1 w.2) = true
 | u :: ws,w,h=>by
  rcases List.mem_cons.mp h with z | z
  ·subst z; exact (bY _ _).1
  ·exact le_trans (bY _ _).2 (eV z)
theorem Rep.lf (h:Rep K Z H m t v G):Rep K Z H (M.lf m t) t v G:=by
 unfold M.lf
 split
 ·rename_i hl; exact h.leaf (fun _ _ _ q=>q) hl
 ·exact h
theorem RepW.to {N:Md}:∀ {ws:List W} {xs:List V} {G:Fp},(∀ w ∈ ws,N.le (M.lf w.1 w.2) = true) -> RepW K Z H ws xs G -> ∃ G',(∀ a,G' a -> G a) /\ RepL K (bq Z G G') H N (aJ ws) xs G'
 | [],_,G,_,h=>⟨G,fun _ z=>z,h⟩
 | w :: ws,xs,G,hm,⟨x,r,G1,G2,e,h1,h2,hd,p,q⟩=>by
  obtain ⟨A,a1,a2⟩:=Rep.weak (hm w List.mem_cons_self) p.lf
  obtain ⟨B,b1,b2⟩:=RepW.to (fun u hu=>hm u (List.mem_cons_of_mem _ hu)) q
  refine ⟨fun b=>A b \/ B b,fun b hb=>hb.elim (fun z=>h1 b (a1 b z)) (fun z=>h2 b (b1 b z)),x,r,A,B,e,fun _ z=>.inl z,fun _ z=>.inr z,fun b za zb=>hd b (a1 b za) (b1 b zb),?_,?_⟩
  ·refine a2.zmono fun b hb=>hb.imp id fun z=>⟨h1 b z.1,fun q=>q.elim z.2 fun w=>hd b z.1 (b1 b w)⟩
  ·refine b2.zmono fun b hb=>hb.imp id fun z=>⟨h2 b z.1,fun q=>q.elim (fun w=>hd b (a1 b w) z.1) z.2⟩
end
abbrev VK':=V -> Hp -> Prop
def Own (Z:Fp) (H:Hp) (F:Fp):Prop:=∀ a,F a -> ¬ Z a /\ ∃ xs,H a = some (.lst xs)
structure Step (Z:Fp) (H:Hp) (F:Fp) (Z':Fp) (H':Hp) (F':Fp):Prop where
 keep:∀ a o,H a = some o -> ¬ F a -> H' a = some o
 zm:∀ a,Z a -> Z' a
 zn:∀ a,Z' a -> Z a \/ F a \/ H a = none
 fn:∀ a,F' a -> F a \/ H a = none
 al:∀ a,H a ≠ none -> H' a ≠ none
 za:(∀ a,Z a -> H a ≠ none) -> ∀ a,Z' a -> H' a ≠ none
section
variable {K:PySem.W.Frag} {Z Z1 Z2 Z':Fp} {H H1 H2 H':Hp} {F F1 F2 F' R G:Fp}
theorem Step.refl (Z:Fp) (H:Hp) (F:Fp):Step Z H F Z H F:=⟨fun _ _ h _=>h,fun _ h=>h,fun _ h=>.inl h,fun _ h=>.inl h,fun _ h=>h,fun z=>z⟩
theorem Step.trans (s:Step Z H F Z1 H1 F1) (t:Step Z1 H1 F1 Z2 H2 F2):Step Z H F Z2 H2 F2 where
 keep:=fun a o h n=>t.keep a o (s.keep a o h n) fun q=>(s.fn a q).elim n fun z=>by rw [h] at z; cases z
 zm:=fun a h=>t.zm a (s.zm a h)
 zn:=fun a h=>by
  rcases t.zn a h with q | q | q
  ·exact s.zn a q
  ·exact .inr (s.fn a q)
  ·exact .inr (.inr (by
    cases e:H a with
    | none=>rfl
    | some o=>exact absurd q (s.al a (by rw [e]; simp))))
 fn:=fun a h=>by
  rcases t.fn a h with q | q
  ·exact s.fn a q
  ·exact .inr (by
    cases e:H a with
    | none=>rfl
    | some o=>exact absurd q (s.al a (by rw [e]; simp)))
 al:=fun a h=>t.al a (s.al a h)
 za:=fun z=>t.za (s.za z)
theorem Step.frame (R:Fp) (s:Step Z H F Z' H' F'):Step Z H (fun a=>F a \/ R a) Z' H' (fun a=>F' a \/ R a) where
 keep:=fun a o h n=>s.keep a o h fun q=>n (.inl q)
 zm:=s.zm
 zn:=fun a h=>(s.zn a h).imp id fun q=>q.imp .inl id
 fn:=fun a h=>h.elim (fun q=>(s.fn a q).imp .inl id) fun q=>.inl (.inr q)
 al:=s.al
 za:=s.za
theorem Step.mono (s:Step Z H F Z' H' F') (h1:∀ a,F a -> F1 a) (h2:∀ a,F2 a -> F' a):Step Z H F1 Z' H' F2 where
 keep:=fun a o h n=>s.keep a o h fun q=>n (h1 a q)
 zm:=s.zm
 zn:=fun a h=>(s.zn a h).imp id fun q=>q.imp (h1 a) id
 fn:=fun a h=>(s.fn a (h2 a h)).imp (h1 a) id
 al:=s.al
 za:=s.za
theorem Own.stay (o:Own Z H F) (s:Step Z H F Z' H' F'):Stay Z H H':=by
 refine ⟨fun a u hz h=>s.keep a u h fun q=>(o a q).1 hz,fun a xs h=>?_,fun a u v h=>s.keep a _ h fun q=>?_⟩
 ·rcases h with h | ⟨u,h⟩
  ·refine .inl (s.keep a _ h fun q=>?_)
   obtain ⟨_,ys,e⟩:=o a q
   rw [h] at e; cases e
  ·refine .inr ⟨u,s.keep a _ h fun q=>?_⟩
   obtain ⟨_,ys,e⟩:=o a q
   rw [h] at e; cases e
 ·obtain ⟨_,ys,e⟩:=o a q
  rw [h] at e; cases e
theorem Rep.frame {m:Md} {t:T} {v:V} (o:Own Z H F) (s:Step Z H F Z' H' F') (d:∀ a,G a -> ¬ F a) (h:Rep K Z H m t v G):Rep K Z' H' m t v G:=h.keep (o.stay s) s.zm fun a u ha e=>s.keep a u e (d a ha)
theorem RepW.frame {ws:List W} {xs:List V} (o:Own Z H F) (s:Step Z H F Z' H' F') (d:∀ a,G a -> ¬ F a) (h:RepW K Z H ws xs G):RepW K Z' H' ws xs G:=h.keep (o.stay s) s.zm fun a u ha e=>s.keep a u e (d a ha)
theorem Own.frame (o:Own Z H G) (s:Step Z H F Z' H' F') (d:∀ a,G a -> ¬ F a):Own Z' H' G /\ ∀ a,G a -> ¬ F' a:=by
 refine ⟨fun a ha=>?_,fun a ha q=>?_⟩
 ·obtain ⟨nz,xs,e⟩:=o a ha
  refine ⟨fun q=>?_,xs,s.keep a _ e (d a ha)⟩
  rcases s.zn a q with z | z | z
  ·exact nz z
  ·exact d a ha z
  ·rw [e] at z; cases z
 ·obtain ⟨nz,xs,e⟩:=o a ha
  rcases s.fn a q with z | z
  ·exact d a ha z
  ·rw [e] at z; cases z
end
abbrev Fps:=Nat -> Fp
def tot (Fs:Fps):Fp:=fun a=>∃ i,Fs i a
structure Gd (Z:Fp) (H:Hp) (Fs:Fps):Prop where
 own:Own Z H (tot Fs)
 dis:∀ i j a,Fs i a -> Fs j a -> i = j
 zal:∀ a,Z a -> H a ≠ none
structure Cf where
 sl:Nat -> Option Nat
 pv:Nat -> Option V
def Bh (K:PySem.W.Frag) (sl:Cf) (Z:Fp) (H:Hp) (η:Env) (σ:L2.St) (Fs:Fps):Prop :=
 ∀ i m t,rd η i = some (m,t) -> ∃ v,Rep K Z H m t v (Fs i) /\ (∀ j,sl.sl i = some j -> σ[j]? = some (some v)) /\ ∀ u,sl.pv i = some u -> v = u
structure At (K:PySem.W.Frag) (sl:Cf) (σ:L2.St) (Z:Fp) (H:Hp) (Fs:Fps) (η:Env) (G:Fp):Prop where
 gd:Gd Z H Fs
 env:Bh K sl Z H η σ Fs
 own:Own Z H G
 dis:∀ a,G a -> ¬ tot Fs a
 lk:∀ i u j,sl.pv i = some u -> sl.sl i = some j -> σ[j]? = some (some u)
 ln:∀ i j,sl.sl i = some j -> j < σ.length
section
variable {K:PySem.W.Frag} {sl:Cf} {σ:L2.St} {Z Z':Fp} {H H':Hp} {Fs Fs':Fps} {η η':Env} {G G' R:Fp}
theorem At.frame (a:At K sl σ Z H Fs η R) (b:At K sl σ Z' H' Fs' η' G) (s:Step Z H (tot Fs) Z' H' (fun c=>tot Fs' c \/ G c)) :
  At K sl σ Z' H' Fs' η' (fun c=>R c \/ G c) /\ Step Z H (fun c=>tot Fs c \/ R c) Z' H' (fun c=>tot Fs' c \/ (R c \/ G c)) /\ ∀ c,R c -> ¬ G c:=by
 have o:=a.own.frame s a.dis
 refine ⟨⟨b.gd,b.env,fun c hc=>hc.elim (o.1 c) (b.own c),fun c hc=>hc.elim (fun z q=>o.2 c z (.inl q)) (b.dis c),b.lk,b.ln⟩,(s.frame R).mono (fun _ z=>z) fun c hc=>?_,fun c z q=>o.2 c z (.inr q)⟩
 rcases hc with z | z | z
 ·exact .inl (.inl z)
 ·exact .inr z
 ·exact .inl (.inr z)
end
end MR
namespace MR
open L2 L3 M
open PySem (Addr Str sizeLine)
section
variable {K:PySem.W.Frag} {sl:Cf} {sf:Nat -> Option Nat} {C:Call} {σ:L2.St} {Z Z' Z1:Fp} {H H' H1:Hp} {Fs Fs' Fs1:Fps} {η η' η1:Env} {G G' R F:Fp}
theorem At.mono (a:At K sl σ Z H Fs η G) (h:∀ c,G' c -> G c):At K sl σ Z H Fs η G':=⟨a.gd,a.env,fun c hc=>a.own c (h c hc),fun c hc=>a.dis c (h c hc),a.lk,a.ln⟩
theorem At.bare (a:At K sl σ Z H Fs η G):At K sl σ Z H Fs η no:=a.mono fun _ z=>z.elim
def wE (K:PySem.W.Frag) (sl:Nat -> Option Nat) (C:Call) (e:E):TE:=fun σ H Q=>∃ pv Z Fs η w η',At K ⟨sl,pv⟩ σ Z H Fs η no /\ evE C e η = .ok (w,η') /\
 ∀ v Z' H' Fs' G,At K ⟨sl,pv⟩ σ Z' H' Fs' η' G -> Rep K Z' H' w.1 w.2 v G -> Step Z H (tot Fs) Z' H' (fun a=>tot Fs' a \/ G a) -> Q v H'
def wL (K:PySem.W.Frag) (sl:Nat -> Option Nat) (C:Call) (es:List E):TA:=fun σ H Q=>∃ pv Z Fs η ws η',At K ⟨sl,pv⟩ σ Z H Fs η no /\ evL C es η = .ok (ws,η') /\
 ∀ vs Z' H' Fs' G,At K ⟨sl,pv⟩ σ Z' H' Fs' η' G -> RepW K Z' H' ws vs G -> Step Z H (tot Fs) Z' H' (fun a=>tot Fs' a \/ G a) -> Q vs H'
theorem mL {e:E} {w:W} {Q:VK} (A:At K sl σ Z H Fs η R) (ev:evE C e η = .ok (w,η'))
  (k:∀ v Z' H' Fs' G,At K sl σ Z' H' Fs' η' (fun c=>R c \/ G c) -> Rep K Z' H' w.1 w.2 v G -> (∀ c,R c -> ¬ G c) -> Step Z H (tot Fs) Z' H' (fun a=>tot Fs' a \/ G a) ->
   Step Z H (fun c=>tot Fs c \/ R c) Z' H' (fun c=>tot Fs' c \/ (R c \/ G c)) -> Q v H'):wE K sl.sl C e σ H Q :=
 ⟨sl.pv,Z,Fs,η,w,η',A.bare,ev,fun v Z' H' Fs' G B r s=>by
  obtain ⟨h1,h2,h3⟩:=A.frame B s
  exact k v Z' H' Fs' G h1 r h3 s h2⟩
theorem BN {es:List E} {ws:List W} {Q:List V -> Hp -> Prop} (A:At K sl σ Z H Fs η R) (ev:evL C es η = .ok (ws,η'))
  (k:∀ vs Z' H' Fs' G,At K sl σ Z' H' Fs' η' (fun c=>R c \/ G c) -> RepW K Z' H' ws vs G -> (∀ c,R c -> ¬ G c) -> Step Z H (tot Fs) Z' H' (fun a=>tot Fs' a \/ G a) ->
   Step Z H (fun c=>tot Fs c \/ R c) Z' H' (fun c=>tot Fs' c \/ (R c \/ G c)) -> Q vs H'):wL K sl.sl C es σ H Q :=
 ⟨sl.pv,Z,Fs,η,ws,η',A.bare,ev,fun v Z' H' Fs' G B r s=>by
  obtain ⟨h1,h2,h3⟩:=A.frame B s
  exact k v Z' H' Fs' G h1 r h3 s h2⟩
theorem aa {α β:Type} {r:Res α} {f:α -> Res β} {b:β} (h:r.bind f = .ok b):∃ a,r = .ok a /\ f a = .ok b:=by
 cases r with
 | ok a=>exact ⟨a,rfl,h⟩
 | ex c x=>cases h
 | no=>cases h
theorem aq {α:Type} {η:Env} {o:Option α} {b:α × Env} (h:ret η o = .ok b):∃ a,o = some a /\ b = (a,η):=by
 cases o with
 | none=>cases h
 | some a=>exact ⟨a,rfl,by cases h; rfl⟩
theorem bD {α:Type} {o:Option α} {b:α} (h:ofO o = .ok b):o = some b:=by
 cases o with
 | none=>cases h
 | some a=>cases h; rfl
theorem aB {e:E} {es:List E} {ws:List W} (h:evL C (e :: es) η = .ok (ws,η')):∃ w η1 us,evE C e η = .ok (w,η1) /\ evL C es η1 = .ok (us,η') /\ ws = w :: us:=by
 obtain ⟨⟨w,η1⟩,h1,h2⟩:=aa (show (evE C e η).bind (aS (evL C es)) = _ from h)
 obtain ⟨⟨us,η2⟩,h3,h4⟩:=aa (show (evL C es η1).bind (jN w) = _ from h2)
 cases h4
 exact ⟨w,η1,us,h1,h3,rfl⟩
theorem da {e:E} {es:List E} {ws:List W} (he:∀ i,e ≠ .io i) (h:evA C (e :: es) η = .ok (ws,η')):∃ w η1 us,evE C e η = .ok (w,η1) /\ evA C es η1 = .ok (us,η') /\ ws = w :: us:=by
 rw [uQ he] at h
 obtain ⟨⟨w,η1⟩,h1,h2⟩:=aa h
 obtain ⟨⟨us,η2⟩,h3,h4⟩:=aa (show (evA C es η1).bind (jN w) = _ from h2)
 cases h4
 exact ⟨w,η1,us,h1,h3,rfl⟩
theorem dQ {i:Nat} {es:List E} {ws:List W} (h:evA C (.io i :: es) η = .ok (ws,η')):∃ us η1 w,evA C es η = .ok (us,η1) /\ rd η1 i = some w /\ ws = w :: us /\ η' = del η1 i:=by
 obtain ⟨⟨us,η1⟩,h1,h2⟩:=aa (show (evA C es η).bind (kIo i) = _ from h)
 obtain ⟨w,h3,h4⟩:=aa (show (ofO (rd η1 i)).bind (fun w=>.ok (w :: us,del η1 i)) = _ from h2)
 cases h4
 exact ⟨us,η1,w,h1,bD h3,rfl,rfl⟩
theorem vK (e:E):(∃ i,e = .io i) \/ ∀ i,e ≠ .io i:=by
 cases e with
 | io i=>exact .inl ⟨i,rfl⟩
 | _=>exact .inr fun _ z=>by cases z
theorem j2:∀ {es:List E} {η η':Env} {ws:List W},evA C es η = .ok (ws,η') -> ws.length = es.length
 | [],_,_,_,h=>by cases h; rfl
 | e :: es,_,_,_,h=>by
  rcases vK e with ⟨i,rfl⟩ | he
  ·obtain ⟨us,η1,w,h1,_,rfl,_⟩:=dQ h
   rw [List.length_cons,List.length_cons,j2 h1]
  ·obtain ⟨w,η1,us,_,h2,rfl⟩:=da he h
   rw [List.length_cons,List.length_cons,j2 h2]
theorem se {e:E} {es:List E} (σ:L2.St) (H:Hp) (Q:List V -> Hp -> Prop) (h:wL K sf C (e :: es) σ H Q):ku (wE K sf C e) (wL K sf C es) σ H Q:=by
 obtain ⟨pv,Z,Fs,η,ws,η',A,ev,k⟩:=h
 obtain ⟨w,η1,us,h1,h2,rfl⟩:=aB ev
 refine mL A h1 fun x Z1 H1 Fs1 G1 A1 r1 _ s1 _=>?_
 have A1':=A1.mono (G':=G1) fun _ z=>.inr z
 refine BN A1' h2 fun xs Z2 H2 Fs2 G2 A2 r2 d2 s2 t2=>?_
 refine k (x :: xs) Z2 H2 Fs2 _ A2 ⟨x,xs,G1,G2,rfl,fun _ z=>.inl z,fun _ z=>.inr z,d2,r1.frame A1.gd.own s2 A1'.dis,r2⟩ ?_
 exact s1.trans t2
theorem wB (σ:L2.St) (H:Hp) (Q:List V -> Hp -> Prop) (h:wL K sf C [] σ H Q):wc σ H Q:=by
 obtain ⟨pv,Z,Fs,η,ws,η',A,ev,k⟩:=h
 cases ev
 exact k [] Z H Fs no A rfl ((Step.refl _ _ _).mono (fun _ z=>z) fun a ha=>ha.elim id fun z=>z.elim)
def Out (K:PySem.W.Frag) (Z:Fp) (H:Hp) (G:Fp) (w:W) (Q:VK):Prop:=∀ v Z' H' G',Rep K Z' H' w.1 w.2 v G' -> Own Z' H' G' -> Step Z H G Z' H' G' -> Q v H'
theorem At.op (A:At K sl σ Z H Fs η G) (o:Own Z' H' G') (s:Step Z H G Z' H' G'):At K sl σ Z' H' Fs η G' /\ Step Z H (fun c=>tot Fs c \/ G c) Z' H' (fun c=>tot Fs c \/ G' c):=by
 have d:∀ a,tot Fs a -> ¬ G a:=fun a h q=>A.dis a q h
 have f:=A.gd.own.frame s d
 refine ⟨⟨⟨f.1,A.gd.dis,s.za A.gd.zal⟩,fun i m t e=>?_,o,fun a ha q=>f.2 a q ha,A.lk,A.ln⟩,?_⟩
 ·obtain ⟨v,r,hv⟩:=A.env i m t e
  exact ⟨v,r.frame A.own s fun a ha=>d a ⟨i,ha⟩,hv⟩
 ·refine (s.frame (tot Fs)).mono (fun _ z=>z.symm) fun _ z=>z.symm
theorem ck {w:W} {Q:VK} (A:At K sl σ Z1 H1 Fs1 η1 G) (s:Step Z H F Z1 H1 (fun a=>tot Fs1 a \/ G a))
  (k:∀ v Z' H' Fs' G,At K sl σ Z' H' Fs' η1 G -> Rep K Z' H' w.1 w.2 v G -> Step Z H F Z' H' (fun a=>tot Fs' a \/ G a) -> Q v H'):Out K Z1 H1 G w Q:=fun v Z' H' G' r o t=>by
 obtain ⟨B,u⟩:=A.op o t
 exact k v Z' H' Fs1 G' B r (s.trans u)
def Loc (K:PySem.W.Frag) (n:Nat) (o:Op) (h:Bool) (r:List V -> Hp -> VK -> Prop):Prop:=∀ (ws:List W) (w:W) (xs:List V) (Z:Fp) (H:Hp) (G:Fp) (Q:VK),ws.length = n -> oSem o h ws = some w -> RepW K Z H ws xs G -> Own Z H G -> (∀ a,Z a -> H a ≠ none) -> Out K Z H G w Q -> r xs H Q
theorem dr {o:Op} {h:Bool} {es:List E} {w:W} (e:evE C (.op o h es) η = .ok (w,η')):∃ ws,evL C es η = .ok (ws,η') /\ oSem o h ws = some w:=by
 obtain ⟨⟨ws,η1⟩,h1,h2⟩:=aa (show (evL C es η).bind (kOp o h) = _ from e)
 obtain ⟨a,h3,h4⟩:=aq (show ret η1 (oSem o h ws) = _ from h2)
 cases h4
 exact ⟨ws,h1,h3⟩
theorem dX:∀ {es:List E} {η η':Env} {ws:List W},evL C es η = .ok (ws,η') -> ws.length = es.length
 | [],_,_,_,h=>by cases h; rfl
 | e :: es,_,_,_,h=>by
  obtain ⟨w,η1,us,_,h2,rfl⟩:=aB h
  rw [List.length_cons,List.length_cons,dX h2]
theorem gM {n:Nat} {o:Op} {h:Bool} {es:List E} {r:List V -> Hp -> VK -> Prop} (l:Loc K n o h r) (hn:es.length = n) (σ:L2.St) (H:Hp) (Q:VK) (hw:wE K sf C (.op o h es) σ H Q):tCB r (wL K sf C es) σ H Q:=by
 obtain ⟨pv,Z,Fs,η,w,η',A,ev,k⟩:=hw
 obtain ⟨ws,h1,h2⟩:=dr ev
 exact ⟨pv,Z,Fs,η,ws,η',A,h1,fun vs Z' H' Fs' G B r s=>l ws w vs Z' H' G Q ((dX h1).trans hn) h2 r B.own B.gd.zal (ck B s k)⟩
theorem aN {o:Op} {h:Bool} {a b:E} {r:R2} (l:Loc K 2 o h fun xs H Q=>∀ x y,xs = [x,y] -> r x y H Q) (σ:L2.St) (H:Hp) (Q:VK) (hw:wE K sf C (.op o h [a,b]) σ H Q):tOp r (wE K sf C a) (wE K sf C b) σ H Q:=by
 obtain ⟨pv,Z,Fs,η,w,η',A,ev,k⟩:=hw
 obtain ⟨ws,h1,h2⟩:=dr ev
 obtain ⟨wa,η1,us,e1,e2,rfl⟩:=aB h1
 obtain ⟨wb,η2,us,e3,e4,rfl⟩:=aB e2
 cases e4
 refine mL A e1 fun x Z1 H1 Fs1 G1 A1 r1 _ s1 _=>?_
 have A1':=A1.mono (G':=G1) fun _ z=>.inr z
 refine mL A1' e3 fun y Z2 H2 Fs2 G2 A2 r2 d2 s2 t2=>?_
 exact l [wa,wb] w [x,y] Z2 H2 _ Q rfl h2 ⟨x,[y],G1,G2,rfl,fun _ z=>.inl z,fun _ z=>.inr z,d2,r1.frame A1.gd.own s2 A1'.dis,RepW.one r2⟩ A2.own A2.gd.zal (ck A2 (s1.trans t2) k) x y rfl
theorem bo:Own Z H no:=fun _ z=>z.elim
theorem Step.drop:Step Z H G Z H no:=(Step.refl Z H G).mono (fun _ z=>z) fun _ z=>z.elim
section
variable {Q:VK} {m:Md} {ts:List T} {xs:List V}
theorem aR {i:Int} (k:Out K Z H G (m,.int i) Q):Q (.int i) H:=k _ Z H no rfl bo .drop
theorem bL {b:Bool} (k:Out K Z H G (m,.bl b) Q):Q (.bl b) H:=k _ Z H no rfl bo .drop
theorem jG {x:Str} (k:Out K Z H G (m,.str x) Q) (h:sOk x = true):Q (.str x) H:=k _ Z H no ⟨rfl,h⟩ bo .drop
theorem gU {t:T} {v:V} (o:Own Z H G) (k:Out K Z H G (m,t) Q) (r:Rep K Z H m t v G):Q v H:=k v Z H G r o (.refl _ _ _)
theorem gL {p:Addr} {o:HO} (hp:H p = none):Stay Z H (upd H p o):=by
 have ne:∀ {a u},H a = some u -> a ≠ p:=fun {a u} e z=>by subst z; rw [hp] at e; cases e
 refine ⟨fun a u _ e=>?_,fun a xs e=>?_,fun a u v e=>?_⟩
 ·rw [ab (ne e)]; exact e
 ·rcases e with e | ⟨u,e⟩
  ·exact .inl (by rw [ab (ne e)]; exact e)
  ·exact .inr ⟨u,by rw [ab (ne e)]; exact e⟩
 ·rw [ab (ne e)]; exact e
theorem ic {p:Addr} {o:HO} (hp:H p = none) (ow:Own Z H G) (hg:∀ a,G' a -> G a \/ a = p) (z:Fp) (hz:∀ a,Z a -> z a) (hz':∀ a,z a -> Z a \/ G a):Step Z H G z (upd H p o) G':=by
 have ne:∀ {a u},H a = some u -> a ≠ p:=fun {a u} e q=>by subst q; rw [hp] at e; cases e
 have al:∀ a,H a ≠ none -> upd H p o a ≠ none:=fun a h=>by
  by_cases e:a = p
  ·rw [e,af]; simp
  ·rw [ab e]; exact h
 refine ⟨fun a u e _=>by rw [ab (ne e)]; exact e,hz,fun a h=>(hz' a h).imp id .inl,fun a h=>(hg a h).imp id fun e=>by rw [e]; exact hp,al,fun q a h=>al a ?_⟩
 rcases hz' a h with c | c
 ·exact q a c
 ·obtain ⟨_,xs,e⟩:=ow a c
  rw [e]; simp
theorem bE {p:Addr} (ow:Own Z H G) (za:∀ a,Z a -> H a ≠ none) (hg:∀ a,G' a -> G a) (hl:xs.length <= LIM) (r:RepL K (bq Z G G') H m.kid ts xs G') (hm:m ≠ .s) (k:Out K Z H G (m,.lst ts) Q) (hp:H p = none):Q (.ref p) (upd H p (.lst xs)):=by
 have ne:∀ {a u},H a = some u -> a ≠ p:=fun {a u} e q=>by subst q; rw [hp] at e; cases e
 have np:∀ a,G' a -> a ≠ p:=fun a h=>by obtain ⟨_,ys,e⟩:=ow a (hg a h); exact ne e
 refine k _ (bq Z G G') _ (fun a=>G' a \/ a = p) ⟨p,xs,rfl,hl,(LstR.own hm).mpr ⟨.inr rfl,af⟩,?_⟩ ?_ (ic hp ow (fun a h=>h.imp (hg a) id) _ (fun a h=>.inl h) fun a h=>h.imp id And.left)
 ·refine (r.keep (gL hp) (fun _ z=>z) fun a u _ e=>by rw [ab (ne e)]; exact e).mono fun a h=>⟨.inl h,np a h⟩
 ·rintro a (h | h)
  ·obtain ⟨nz,ys,e⟩:=ow a (hg a h)
   exact ⟨fun z=>z.elim nz fun q=>q.2 h,ys,by rw [ab (ne e)]; exact e⟩
  ·subst h
   refine ⟨fun z=>z.elim (fun q=>za a q hp) fun q=>?_,xs,af⟩
   obtain ⟨_,ys,e⟩:=ow a q.1
   rw [hp] at e; cases e
theorem sJ {p:Addr} (ow:Own Z H G) (hg:∀ a,G' a -> G a) (hl:xs.length <= LIM) (r:RepL K (bq Z G G') H m.kid ts xs G') (k:Out K Z H G (m,.tup ts) Q) (hp:H p = none):Q (.ref p) (upd H p (.tup xs)):=by
 have ne:∀ {a u},H a = some u -> a ≠ p:=fun {a u} e q=>by subst q; rw [hp] at e; cases e
 refine k _ (bq Z G G') _ G' ⟨p,xs,rfl,.inl (.inl af),hl,?_⟩ ?_ (ic hp ow (fun a h=>.inl (hg a h)) _ (fun a h=>.inl h) fun a h=>h.imp id And.left)
 ·exact r.keep (gL hp) (fun _ z=>z) fun a u _ e=>by rw [ab (ne e)]; exact e
 ·intro a h
  obtain ⟨nz,ys,e⟩:=ow a (hg a h)
  exact ⟨fun z=>z.elim nz fun q=>q.2 h,ys,by rw [ab (ne e)]; exact e⟩
theorem gS {v:V} {H':Hp} (ow:Own Z H G) (hg:∀ a,G' a -> G a) (hl:xs.length <= LIM) (r:RepL K (bq Z G G') H m.kid ts xs G') (k:Out K Z H G (m,.tup ts) Q) (same:∀ b o,H b = some o -> H' b = some o) (hv:∃ c,v = .ref c /\ SqT K H' c xs):Q v H':=by
 obtain ⟨c,rfl,hs⟩:=hv
 have al:∀ a,H a ≠ none -> H' a ≠ none:=fun a h=>by
  cases e:H a with
  | none=>exact absurd e h
  | some o=>rw [same a o e]; simp
 refine k _ (bq Z G G') _ G' ⟨c,xs,rfl,hs,hl,?_⟩ (fun a h=>?_) ⟨fun a o e _=>same a o e,fun a h=>.inl h,fun a h=>h.imp id fun q=>.inl q.1,fun a h=>.inl (hg a h),al,fun q a h=>al a ?_⟩
 ·refine r.keep ⟨fun a o _ e=>same a o e,fun a ys e=>?_,fun a o u e=>same a _ e⟩ (fun _ z=>z) fun a u _ e=>same a u e
  rcases e with e | ⟨u,e⟩
  ·exact .inl (same a _ e)
  ·exact .inr ⟨u,same a _ e⟩
 ·obtain ⟨nz,ys,e⟩:=ow a (hg a h)
  exact ⟨fun z=>z.elim nz fun q=>q.2 h,ys,same a _ e⟩
 ·rcases h with h | h
  ·exact q a h
  ·obtain ⟨_,ys,e⟩:=ow a h.1
   rw [e]; simp
theorem cx {p:Addr} {h:Bool} {w:W} (ow:Own Z H G) (za:∀ a,Z a -> H a ≠ none) (hl:xs.length <= LIM) (r:∃ G',(∀ a,G' a -> G a) /\ RepL K (bq Z G G') H m ts xs G') (hn:newL h m ts = some w) (k:Out K Z H G w Q) (hp:H p = none):Q (.ref p) (upd H p (.lst xs)):=by
 obtain ⟨G',hg,r⟩:=r
 unfold newL at hn
 split at hn
 ·split at hn
  ·rename_i hlv
   cases hn
   refine bE (m:=.d) (G':=no) ow za (fun _ z=>z.elim) hl ?_ (by simp) k hp
   exact r.leaves (fun _ _ _ e=>e) hlv
  ·cases hn
 ·cases hn
  exact bE (m:=m.up) ow za hg hl (by rw [b7]; exact r) (bx m) k hp
end
end
end MR
namespace MR
open L2 L3 M
open PySem (Addr Str sizeLine)
section
variable {K:PySem.W.Frag} {h:Bool}
theorem ek {α β:Type} {ws:List α} {x y:β} (e:ws.length = [x,y].length):∃ a b,ws = [a,b]:=by
 match ws,e with
 | [a,b],_=>exact ⟨a,b,rfl⟩
theorem BO {α β:Type} {ws:List α} {x:β} (e:ws.length = [x].length):∃ a,ws = [a]:=by
 match ws,e with
 | [a],_=>exact ⟨a,rfl⟩
theorem b4 {Z:Fp} {H:Hp} {G:Fp} {u w:W} {x y:V} (r:RepW K Z H [u,w] [x,y] G):∃ G1 G2,(∀ a,G1 a -> G a) /\ (∀ a,G2 a -> G a) /\ (∀ a,G1 a -> ¬ G2 a) /\ Rep K Z H u.1 u.2 x G1 /\ Rep K Z H w.1 w.2 y G2:=by
 obtain ⟨x',r',G1,G2,e,h1,h2,d,p,y',r2,G3,G4,e2,h3,h4,d2,q,z⟩:=r
 cases e; cases e2
 exact ⟨G1,G3,h1,fun a ha=>h2 a (h3 a ha),fun a ha hb=>d a ha (h3 a hb),p,q⟩
theorem yQ {Z:Fp} {H:Hp} {G:Fp} {w:W} {x:V} (r:RepW K Z H [w] [x] G):Rep K Z H w.1 w.2 x G:=by
 obtain ⟨x',r',G1,G2,e,h1,h2,d,p,z⟩:=r
 cases e
 exact p.mono h1
theorem cU {ws:List W} {xs:List V} {Z:Fp} {H:Hp} {G:Fp} {w:W} (hw:ws = [w]) (r:RepW K Z H ws xs G):∃ x,xs = [x] /\ Rep K Z H w.1 w.2 x G:=by
 subst hw
 obtain ⟨x,hx⟩:=BO (x:=()) (show xs.length = [()].length from r.length)
 subst hx
 exact ⟨x,rfl,yQ r⟩
theorem jr {n:Nat} (h:n <= LIM):n < sizeLine:=Nat.lt_of_le_of_lt h (by decide)
theorem bz {n:Nat} (h:n <= LIM):n <= sizeLine:=Nat.le_of_lt (jr h)
theorem cF {n:Nat} (h:cK n = true):n <= LIM:=of_decide_eq_true h
theorem mr {o:Op} {C:Int -> Int -> Prop} {g:Int -> Int -> T} (inv:∀ {u v w:W},oSem o h [u,v] = some w -> ∃ m n i j,u = (m,.int i) /\ v = (n,.int j) /\ C i j /\ w = (.d,g i j)) (gv:Int -> Int -> V) (hg:∀ {Z:Fp} {H:Hp} {G:Fp} {Q:VK} {i j:Int},Out K Z H G (.d,g i j) Q -> Q (gv i j) H) :
  Loc K 2 o h fun xs H Q=>∀ x y,xs = [x,y] -> rI C gv x y H Q:=by
 intro ws w xs Z H G Q hn e r ow za k x y hx
 subst hx
 obtain ⟨u,v,rfl⟩:=ek r.length.symm
 obtain ⟨m,n,i,j,rfl,rfl,c,rfl⟩:=inv e
 obtain ⟨G1,G2,_,_,_,r1,r2⟩:=b4 r
 exact ⟨i,j,r1,r2,c,hg k⟩
theorem fS {o:Op} {g:Int -> Int -> T} (inv:∀ {u v w:W},oSem o h [u,v] = some w -> ∃ m n i j,u = (m,.int i) /\ v = (n,.int j) /\ w = (.d,g i j)) (gv:Int -> Int -> V) (hg:∀ {Z:Fp} {H:Hp} {G:Fp} {Q:VK} {i j:Int},Out K Z H G (.d,g i j) Q -> Q (gv i j) H) :
  Loc K 2 o h fun xs H Q=>∀ x y,xs = [x,y] -> rI0 gv x y H Q:=by
 intro ws w xs Z H G Q hn e r ow za k x y hx
 subst hx
 obtain ⟨u,v,rfl⟩:=ek r.length.symm
 obtain ⟨m,n,i,j,rfl,rfl,rfl⟩:=inv e
 obtain ⟨G1,G2,_,_,_,r1,r2⟩:=b4 r
 exact ⟨i,j,r1,r2,hg k⟩
theorem qi {u v w:W} (e:oSem .sub h [u,v] = some w):∃ m n i j,u = (m,.int i) /\ v = (n,.int j) /\ w = (.d,.int (i - j)):=by
 obtain ⟨m,a⟩:=u; obtain ⟨n,b⟩:=v
 cases a <;> first | (cases e; done) | (cases b <;> first | (cases e; exact ⟨_,_,_,_,rfl,rfl,rfl⟩) | cases e)
theorem nU {u v w:W} (e:oSem .lt h [u,v] = some w):∃ m n i j,u = (m,.int i) /\ v = (n,.int j) /\ w = (.d,.bl (decide (i < j))):=by
 obtain ⟨m,a⟩:=u; obtain ⟨n,b⟩:=v
 cases a <;> first | (cases e; done) | (cases b <;> first | (cases e; exact ⟨_,_,_,_,rfl,rfl,rfl⟩) | cases e)
theorem nM {u v w:W} (e:oSem .gt h [u,v] = some w):∃ m n i j,u = (m,.int i) /\ v = (n,.int j) /\ w = (.d,.bl (decide (j < i))):=by
 obtain ⟨m,a⟩:=u; obtain ⟨n,b⟩:=v
 cases a <;> first | (cases e; done) | (cases b <;> first | (cases e; exact ⟨_,_,_,_,rfl,rfl,rfl⟩) | cases e)
theorem oB {u v w:W} (e:oSem .ge h [u,v] = some w):∃ m n i j,u = (m,.int i) /\ v = (n,.int j) /\ w = (.d,.bl (decide (j <= i))):=by
 obtain ⟨m,a⟩:=u; obtain ⟨n,b⟩:=v
 cases a <;> first | (cases e; done) | (cases b <;> first | (cases e; exact ⟨_,_,_,_,rfl,rfl,rfl⟩) | cases e)
theorem mK {u v w:W} (e:oSem .fdiv h [u,v] = some w):∃ m n i j,u = (m,.int i) /\ v = (n,.int j) /\ wK i j /\ w = (.d,.int (i / j)):=by
 obtain ⟨m,a⟩:=u; obtain ⟨n,b⟩:=v
 cases a <;> first | (cases e; done) | (cases b <;> try (cases e; done))
 rename_i i j
 rw [n6] at e
 split at e
 ·rename_i hc
  rw [Bool.and_eq_true,decide_eq_true_eq,decide_eq_true_eq] at hc
  cases e
  exact ⟨_,_,_,_,rfl,rfl,hc,rfl⟩
 ·cases e
theorem sC {u v w:W} (e:oSem .mod h [u,v] = some w):∃ m n i j,u = (m,.int i) /\ v = (n,.int j) /\ (0 < j) /\ w = (.d,.int (i % j)):=by
 obtain ⟨m,a⟩:=u; obtain ⟨n,b⟩:=v
 cases a <;> first | (cases e; done) | (cases b <;> try (cases e; done))
 rename_i i j
 rw [tw] at e
 split at e
 ·rename_i hc
  rw [decide_eq_true_eq] at hc
  cases e
  exact ⟨_,_,_,_,rfl,rfl,hc,rfl⟩
 ·cases e
theorem rL {u v w:W} (e:oSem .pow h [u,v] = some w):∃ m n i j,u = (m,.int i) /\ v = (n,.int j) /\ xg i j /\ w = (.d,.int (i ^ j.toNat)):=by
 obtain ⟨m,a⟩:=u; obtain ⟨n,b⟩:=v
 cases a <;> first | (cases e; done) | (cases b <;> try (cases e; done))
 rename_i i j
 rw [zN] at e
 split at e
 ·rename_i hc
  rw [Bool.and_eq_true,Bool.and_eq_true,decide_eq_true_eq,decide_eq_true_eq,decide_eq_true_eq] at hc
  cases e
  exact ⟨_,_,_,_,rfl,rfl,⟨hc.1.1,hc.1.2,hc.2⟩,rfl⟩
 ·cases e
theorem rn:Loc K 2 .sub h fun xs H Q=>∀ x y,xs = [x,y] -> rI0 (fun i j=>.int (i - j)) x y H Q:=fS qi _ fun k=>aR k
theorem oK:Loc K 2 .lt h fun xs H Q=>∀ x y,xs = [x,y] -> rI0 (fun i j=>.bl (decide (i < j))) x y H Q:=fS nU _ fun k=>bL k
theorem vL:Loc K 2 .gt h fun xs H Q=>∀ x y,xs = [x,y] -> rI0 (fun i j=>.bl (decide (j < i))) x y H Q:=fS nM _ fun k=>bL k
theorem wN:Loc K 2 .ge h fun xs H Q=>∀ x y,xs = [x,y] -> rI0 (fun i j=>.bl (decide (j <= i))) x y H Q:=fS oB _ fun k=>bL k
theorem ph:Loc K 2 .fdiv h fun xs H Q=>∀ x y,xs = [x,y] -> rI wK (fun i j=>.int (i / j)) x y H Q:=mr mK _ fun k=>aR k
theorem so:Loc K 2 .mod h fun xs H Q=>∀ x y,xs = [x,y] -> rI (fun _ j=>0 < j) (fun i j=>.int (i % j)) x y H Q:=mr sC _ fun k=>aR k
theorem pN:Loc K 2 .pow h fun xs H Q=>∀ x y,xs = [x,y] -> rI xg (fun i j=>.int (i ^ j.toNat)) x y H Q:=mr rL _ fun k=>aR k
theorem bp {Z:Fp} {H:Hp} {G:Fp} {m:Md} {ts:List T} {v:V} (r:Rep K Z H m (.lst ts) v G):∃ a xs,v = .ref a /\ H a = some (.lst xs) /\ xs.length <= LIM /\ RepL K Z H m.kid ts xs G:=by
 obtain ⟨a,xs,e,l,q,p⟩:=r
 exact ⟨a,xs,e,by cases m <;> exact q.2,l,p.mono fun _ z=>z.1⟩
theorem cn {Z:Fp} {H:Hp} {G:Fp} {m:Md} {ts:List T} {v:V} (r:Rep K Z H m (.tup ts) v G):∃ a xs,v = .ref a /\ SqT K H a xs /\ xs.length <= LIM /\ RepL K Z H m.kid ts xs G:=r
theorem dg {Z:Fp} {H:Hp} {G G1 G2:Fp} {m n:Md} {ts us:List T} {xs ys:List V} (w1:∀ a,G1 a -> G a) (w2:∀ a,G2 a -> G a) (d:∀ a,G1 a -> ¬ G2 a) (r1:RepL K Z H m ts xs G1) (r2:RepL K Z H n us ys G2) :
  ∃ G',(∀ a,G' a -> G a) /\ RepL K (bq Z G G') H (m.meet n) (ts ++ us) (xs ++ ys) G':=by
 obtain ⟨A,a1,a2⟩:=RepL.weak (bY m n).1 r1
 obtain ⟨B,b1,b2⟩:=RepL.weak (bY m n).2 r2
 refine ⟨fun b=>A b \/ B b,fun b hb=>hb.elim (fun z=>w1 b (a1 b z)) fun z=>w2 b (b1 b z),RepL.append (fun _ z=>.inl z) (fun _ z=>.inr z) (fun b za zb=>d b (a1 b za) (b1 b zb)) (a2.zmono fun b hb=>?_) (b2.zmono fun b hb=>?_)⟩
 ·exact hb.imp id fun z=>⟨w1 b z.1,fun q=>q.elim z.2 fun w=>d b z.1 (b1 b w)⟩
 ·exact hb.imp id fun z=>⟨w2 b z.1,fun q=>q.elim (fun w=>d b (a1 b w) z.1) z.2⟩
theorem rQ {p q:Str} (h1:sOk p = true) (h2:sOk q = true) (hl:p.cps.size + q.cps.size <= LIM):sOk (p ++ q) = true:=by
 unfold sOk at *
 rw [Bool.and_eq_true] at *
 refine ⟨?_,decide_eq_true ?_⟩
 ·show Array.all (p.cps ++ q.cps) _ = true
  rw [Array.all_append,Bool.and_eq_true]
  exact ⟨h1.1,h2.1⟩
 ·show (p.cps ++ q.cps).size <= LIM
  rw [Array.size_append]
  exact hl
theorem rV (rT:R2) (hT:∀ {Z:Fp} {H:Hp} {G:Fp} {Q:VK} {a b:Addr} {xs ys:List V} {ts:List T},SqT K H a xs -> SqT K H b ys -> xs ≠ [] -> xs.length + ys.length <= LIM -> Own Z H G -> (∃ G',(∀ a,G' a -> G a) /\ RepL K (bq Z G G') H .s ts (xs ++ ys) G') -> Out K Z H G (.s,.tup ts) Q -> rT (.ref a) (.ref b) H Q) :
  Loc K 2 .add h fun xs H Q=>∀ x y,xs = [x,y] -> rI0 (fun i j=>.int (i + j)) x y H Q \/ (∃ i j,x = .str i /\ y = .str j /\ i.length + j.length <= sizeLine /\ Q (.str (i ++ j)) H) \/ Av x y H Q \/ rT x y H Q:=by
 intro ws w xs Z H G Q hn e r ow za k x y hx
 subst hx
 obtain ⟨⟨m,a⟩,⟨n,b⟩,rfl⟩:=ek r.length.symm
 obtain ⟨G1,G2,w1,w2,d,r1,r2⟩:=b4 r
 cases a <;> first | (cases e; done) | (cases b <;> try (cases e; done))
 ·cases e
  exact .inl ⟨_,_,r1,r2,aR k⟩
 ·rename_i p q
  rw [oj] at e
  split at e
  ·rename_i hf
   cases e
   refine .inr (.inl ⟨p,q,r1.1,r2.1,bz (cF hf),jG k ?_⟩)
   exact rQ r1.2 r2.2 (cF hf)
  ·cases e
 ·rename_i ts us
  rw [mG] at e
  split at e
  ·rename_i hf
   cases e
   rw [Bool.and_eq_true] at hf
   obtain ⟨a,xs,rfl,hs,hl,p⟩:=cn r1
   obtain ⟨b,ys,rfl,hs2,hl2,p2⟩:=cn r2
   have hlen:=cF hf.1
   have e1:=p.length
   have e2:=p2.length
   refine .inr (.inr (.inr (hT hs hs2 ?_ (by omega) ow ?_ k)))
   ·rintro rfl
    cases ts with
    | nil=>simp at hf
    | cons _ _=>simp at e1
   ·refine ⟨no,fun _ z=>z.elim,RepL.append (G1:=no) (G2:=no) (fun _ z=>z) (fun _ z=>z) (fun _ z _=>z) ((RepL.sh p).zmono fun b hb=>?_) ((RepL.sh p2).zmono fun b hb=>?_)⟩
    ·exact hb.imp id fun z=>⟨w1 b z,fun q=>q⟩
    ·exact hb.imp id fun z=>⟨w2 b z,fun q=>q⟩
  ·cases e
 ·rename_i ts us
  rw [oU] at e
  split at e
  ·rename_i hf
   obtain ⟨a,xs,rfl,hs,hl,p⟩:=bp r1
   obtain ⟨b,ys,rfl,hs2,hl2,p2⟩:=bp r2
   have hlen:=cF hf
   have e1:=p.length
   have e2:=p2.length
   have hl3:(xs ++ ys).length <= LIM:=by rw [List.length_append]; omega
   refine .inr (.inr (.inl ⟨a,b,xs,ys,rfl,rfl,hs,hs2,bz (by omega),fun q hq=>?_⟩))
   exact cx ow za hl3 (dg w1 w2 d p p2) e k hq
  ·cases e
theorem qH:Loc K 2 .mul h fun xs H Q=>∀ x y,xs = [x,y] -> rI CMul (fun i j=>.int (i * j)) x y H Q \/ Ag x y H Q:=by
 intro ws w xs Z H G Q hn e r ow za k x y hx
 subst hx
 obtain ⟨⟨m,a⟩,⟨n,b⟩,rfl⟩:=ek r.length.symm
 obtain ⟨G1,G2,w1,w2,d,r1,r2⟩:=b4 r
 cases a <;> first | (cases e; done) | (cases b <;> try (cases e; done))
 ·rename_i i j
  rw [mh] at e
  split at e
  ·rename_i hc
   cases e
   refine .inl ⟨i,j,r1,r2,?_,aR k⟩
   rw [Bool.or_eq_true,decide_eq_true_eq,decide_eq_true_eq] at hc
   have h64:(2:Int) ^ 64 = 18446744073709551616:=by decide
   unfold CMul
   rw [h64]
   omega
  ·cases e
 ·rename_i ts j
  have e':(if decide (j.natAbs < 4611686018427387904) && cK (ts.length * j.toNat) then newL h .s (List.replicate j.toNat ts).flatten else none) = some w:=e
  split at e'
  ·rename_i hc
   rw [Bool.and_eq_true,decide_eq_true_eq] at hc
   obtain ⟨a,xs,rfl,hs,hl,p⟩:=bp r1
   have hlen:=cF hc.2
   have e1:=p.length
   have hl3:((List.replicate j.toNat xs).flatten).length <= LIM:=by
    rw [List.length_flatten,List.map_replicate,List.sum_replicate_nat,e1,Nat.mul_comm]; exact hlen
   refine .inr ⟨a,j,xs,rfl,r2,hs,by omega,by omega,bz (by rw [e1]; exact hlen),fun q hq=>?_⟩
   refine cx ow za hl3 ⟨no,fun _ z=>z.elim,?_⟩ e' k hq
   have ps:=(RepL.sh p).zmono (Z':=bq Z G no) fun b hb=>hb.imp id fun z=>⟨w1 b z,fun q=>q⟩
   generalize j.toNat = c
   induction c with
   | zero=>exact rfl
   | succ c ih=>exact RepL.append (fun _ z=>z) (fun _ z=>z) (fun _ z _=>z) ps ih
  ·cases e'
theorem l7 {Z:Fp} {H:Hp} {G:Fp} {m:Md} {ts:List T} {xs:List V} {i:Int} {t:T} (p:RepL K Z H m ts xs G) (e:M.atI ts i = some t):∃ x,L2.atI xs i = some x /\ Rep K Z H m t x G:=by
 unfold M.atI at e
 have hn:M.ixN ts.length i = L2.ixN xs.length i:=by rw [p.length]; rfl
 cases e1:M.ixN ts.length i with
 | none=>rw [e1] at e; cases e
 | some j =>
  rw [e1] at e
  obtain ⟨x,hx,r⟩:=p.get (show ts[j]? = some t from e)
  refine ⟨x,?_,r⟩
  unfold L2.atI
  rw [<- hn,e1]
  exact hx
theorem ql {x:Str} {c:Nat} (h:sOk x = true) (hc:c ∈ x.cps.toList):sOk ⟨#[c]⟩ = true:=by
 unfold sOk at *
 rw [Bool.and_eq_true] at *
 refine ⟨?_,rfl⟩
 have h1:=h.1
 rw [Array.all_eq_true'] at h1
 have h2:=h1 c (Array.mem_def.mpr hc)
 rw [Array.all_eq_true']
 intro y hy
 have:y = c:=by simpa using hy
 rw [this]; exact h2
theorem gE {x:Str} (h:sOk x = true):x.cps.size <= LIM:=by
 unfold sOk at h
 rw [Bool.and_eq_true,decide_eq_true_eq] at h
 exact h.2
theorem vH:Loc K 2 .ix h fun xs H Q=>∀ x y,xs = [x,y] -> (∃ p xs i v,x = .ref p /\ y = .int i /\ (SqL K H p xs \/ SqT K H p xs) /\ L2.atI xs i = some v /\ Q v H) \/ (∃ z i c,x = .str z /\ y = .int i /\ z.length <= sizeLine /\ L2.atI z.cps.toList i = some c /\ Q (.str ⟨#[c]⟩) H):=by
 intro ws w xs Z H G Q hn e r ow za k x y hx
 subst hx
 obtain ⟨⟨m,a⟩,⟨n,b⟩,rfl⟩:=ek r.length.symm
 obtain ⟨G1,G2,w1,w2,d,r1,r2⟩:=b4 r
 cases b with
 | int i =>
  cases a with
  | lst ts =>
   obtain ⟨a,xs,rfl,hs,hl,p⟩:=bp r1
   have e':(M.atI ts i).map (fun t=>(m.kid,t)) = some w:=e
   cases e1:M.atI ts i with
   | none=>rw [e1] at e'; cases e'
   | some t =>
    rw [e1] at e'; cases e'
    obtain ⟨v,hv,rv⟩:=l7 p e1
    exact .inl ⟨a,xs,i,v,rfl,r2,.inl (.inl (.inl hs)),hv,gU ow k (rv.mono w1)⟩
  | tup ts =>
   obtain ⟨a,xs,rfl,hs,hl,p⟩:=cn r1
   have e':(M.atI ts i).map (fun t=>(m.kid,t)) = some w:=e
   cases e1:M.atI ts i with
   | none=>rw [e1] at e'; cases e'
   | some t =>
    rw [e1] at e'; cases e'
    obtain ⟨v,hv,rv⟩:=l7 p e1
    exact .inl ⟨a,xs,i,v,rfl,r2,.inr hs,hv,gU ow k (rv.mono w1)⟩
  | str z =>
   have e':(M.atI z.cps.toList i).map (fun c=>((.d,.str ⟨#[c]⟩):W)) = some w:=e
   cases e1:M.atI z.cps.toList i with
   | none=>rw [e1] at e'; cases e'
   | some c =>
    rw [e1] at e'; cases e'
    refine .inr ⟨z,i,c,r1.1,r2,bz (gE r1.2),e1,jG k (ql r1.2 ?_)⟩
    unfold M.atI at e1
    cases e2:M.ixN z.cps.toList.length i with
    | none=>rw [e2] at e1; cases e1
    | some j=>rw [e2] at e1; exact List.mem_of_getElem? e1
  | scr ns =>
   obtain ⟨a,rfl,hL,hs⟩:=r1
   have e':(M.atI ns i).map (fun n=>((.d,.int n):W)) = some w:=e
   cases e1:M.atI ns i with
   | none=>rw [e1] at e'; cases e'
   | some n =>
    rw [e1] at e'; cases e'
    refine .inl ⟨a,_,i,.int n,rfl,r2,.inl hs.sq,?_,aR k⟩
    unfold M.atI at e1
    unfold L2.atI
    rw [List.length_map]
    cases e2:M.ixN ns.length i with
    | none=>rw [e2] at e1; cases e1
    | some j =>
     rw [e2] at e1
     rw [show L2.ixN ns.length i = some j from e2]
     show (ns.map V.int)[j]? = _
     rw [List.getElem?_map,show ns[j]? = some n from e1]
     rfl
  | _=>cases e
 | _=>cases a <;> cases e
theorem pT:Loc K 1 .len h fun xs H Q=>∃ x n,xs = [x] /\ (match x with
  | .str y=>y.length <= sizeLine /\ n = y.length
  | .byt y=>y.size <= sizeLine /\ n = y.size
  | .ref p=>(∃ xs,SqL K H p xs /\ n = xs.length) \/ ∃ xs,SqT K H p xs /\ n = xs.length
  | _=>False) /\ Q (.int (n:Nat)) H:=by
 intro ws w xs Z H G Q hn e r ow za k
 match ws,hn with
 | [(m,a)],_ =>
  obtain ⟨x,rfl,r1⟩:=cU rfl r
  cases a with
  | lst ts =>
   obtain ⟨a,xs,hx,hs,hl,p⟩:=bp r1
   cases e
   refine ⟨x,ts.length,rfl,?_,aR k⟩
   rw [show x = .ref a from hx]
   exact .inl ⟨xs,.inl (.inl hs),p.length.symm⟩
  | tup ts =>
   obtain ⟨a,xs,hx,hs,hl,p⟩:=cn r1
   cases e
   refine ⟨x,ts.length,rfl,?_,aR k⟩
   rw [show x = .ref a from hx]
   exact .inr ⟨xs,hs,p.length.symm⟩
  | str z =>
   cases e
   refine ⟨x,z.length,rfl,?_,aR k⟩
   rw [show x = .str z from r1.1]
   exact ⟨bz (gE r1.2),rfl⟩
  | scr ns =>
   obtain ⟨a,hx,hL,hs⟩:=r1
   cases e
   refine ⟨x,ns.length,rfl,?_,aR k⟩
   rw [show x = .ref a from hx]
   exact .inl ⟨_,hs.sq,by rw [List.length_map]⟩
  | dct ks vs=>exact (show False from r1).elim
  | _=>cases e
theorem jd {Z:Fp} {H:Hp} {G:Fp} {m:Md}:∀ ns:List Int,RepL K Z H m (ns.map T.int) (ns.map V.int) G
 | []=>rfl
 | n :: ns=>⟨.int n,ns.map V.int,no,no,rfl,fun _ z=>z.elim,fun _ z=>z.elim,fun _ z=>z.elim,rfl,jd ns⟩
theorem oP:Loc K 1 .list h fun xs H Q=>∃ p ys,xs = [.ref p] /\ (SqL K H p ys \/ SqT K H p ys) /\ ∀ l,H l = none -> Q (.ref l) (upd H l (.lst ys)):=by
 intro ws w xs Z H G Q hn e r ow za k
 match ws,hn with
 | [(m,a)],_ =>
  obtain ⟨x,rfl,r1⟩:=cU rfl r
  cases a with
  | lst ts =>
   obtain ⟨a,xs,hx,hs,hl,p⟩:=bp r1
   refine ⟨a,xs,by rw [hx],.inl (.inl (.inl hs)),fun q hq=>cx ow za hl ⟨G,fun _ z=>z,p.zmono fun _ z=>.inl z⟩ e k hq⟩
  | tup ts =>
   obtain ⟨a,xs,hx,hs,hl,p⟩:=cn r1
   refine ⟨a,xs,by rw [hx],.inr hs,fun q hq=>cx ow za hl ⟨G,fun _ z=>z,p.zmono fun _ z=>.inl z⟩ e k hq⟩
  | scr ns =>
   obtain ⟨a,hx,hL,hs⟩:=r1
   cases e
   refine ⟨a,_,by rw [hx],.inl hs.sq,fun q hq=>bE (G':=no) ow za (fun _ z=>z.elim) (by rw [List.length_map]; exact hL) (jd ns) (by simp) k hq⟩
  | _=>cases e
theorem kW {Z:Fp} {H:Hp} {G:Fp} {m:Md}:∀ {ts:List T} {ns:List Bool} {xs:List V},aQ ts = some ns -> RepL K Z H m ts xs G -> xs = ns.map V.bl:=by
 intro ts
 induction ts generalizing G with
 | nil=>intro ns xs e r; cases e; exact r
 | cons t ts ih =>
  intro ns xs e r
  obtain ⟨x,r',G1,G2,rfl,_,_,_,p,q⟩:=r
  cases t with
  | bl i =>
   cases e1:aQ ts with
   | none=>simp [aQ,e1] at e
   | some ms =>
    have:ns = i :: ms:=by simpa [aQ,e1] using e.symm
    subst this
    rw [List.map_cons,<- ih e1 q,show x = .bl i from p]
  | _=>cases e
theorem sL:Loc K 1 .all h fun xs H Q=>∃ (a:Addr) (bs:List Bool),xs = [.ref a] /\ SqL K H a (bs.map V.bl) /\ Q (.bl (bs.all id)) H:=by
 intro ws w xs Z H G Q hn e r ow za k
 match ws,hn with
 | [(m,a)],_ =>
  obtain ⟨x,rfl,r1⟩:=cU rfl r
  cases a with
  | lst ts =>
   obtain ⟨a,xs,hx,hs,hl,p⟩:=bp r1
   have e':(aQ ts).map (fun ns=>((.d,.bl (ns.all id)):W)) = some w:=e
   cases e1:aQ ts with
   | none=>rw [e1] at e'; cases e'
   | some ns =>
    rw [e1] at e'; cases e'
    rw [kW e1 p] at hs
    exact ⟨a,ns,by rw [hx],.inl (.inl hs),bL k⟩
  | _=>cases e
end
end MR
namespace MR
open L2 L3 M
open PySem (Addr Str sizeLine)
section
variable {K:PySem.W.Frag} {sl:Cf} {sf:Nat -> Option Nat} {C:Call} {σ:L2.St} {Z Z' Z1:Fp} {H H' H1:Hp} {Fs Fs' Fs1:Fps} {η η' η1:Env} {G G' R F:Fp}
mutual
theorem Rep.sany:∀ {t:T} {v:V} {G G':Fp},Rep K Z H .s t v G -> Rep K Z H .s t v G'
 | .non,_,_,_,h=>h
 | .bl _,_,_,_,h=>h
 | .int _,_,_,_,h=>h
 | .str _,_,_,_,h=>h
 | .scr _,_,_,_,h=>h
 | .tup ts,_,_,_,⟨a,xs,e,q,l,r⟩=>⟨a,xs,e,q,l,RepL.sany r⟩
 | .lst ts,_,_,_,⟨a,xs,e,l,q,r⟩=>⟨a,xs,e,l,q,RepL.sany r⟩
 | .dct _ _,_,_,_,h=>h.elim
 | .ins _ _ _,_,_,_,h=>h.elim
 | .gone,_,_,_,h=>h
theorem RepL.sany:∀ {ts:List T} {xs:List V} {G G':Fp},RepL K Z H .s ts xs G -> RepL K Z H .s ts xs G'
 | [],_,_,_,h=>h
 | t :: ts,xs,_,_,⟨x,r,G1,G2,e,h1,h2,hd,p,q⟩=>⟨x,r,no,no,e,fun _ z=>z.elim,fun _ z=>z.elim,fun _ z=>z.elim,Rep.sany p,RepL.sany q⟩
end
theorem a6:∀ (η:Env) (i j:Nat) (o:Option W),rd (wr η i o) j = if j = i /\ i < η.length then o else rd η j
 | [],i,j,o=>by simp [wr,rd]
 | p :: η,0,0,o=>by simp [wr,rd]
 | p :: η,0,j + 1,o=>by simp [wr,rd]
 | p :: η,i + 1,0,o=>by simp [wr,rd]
 | p :: η,i + 1,j + 1,o=>by
  show rd (wr η i o) j = _
  rw [a6 η i j o]
  simp [rd]
theorem cH:∀ {η:Env} {i:Nat} {w:W},rd η i = some w -> i < η.length
 | [],_,_,h=>by cases h
 | _ :: _,0,_,_=>by simp
 | _ :: η,i + 1,_,h=>by have:=cH (η:=η) (i:=i) h; simp; exact this
theorem cD (h:∀ a,F a -> G a):Step Z H G Z H F:=(Step.refl Z H G).mono (fun _ z=>z) h
theorem xM {i j:Nat} (hs:sf i = some j) (σ:L2.St) (H:Hp) (Q:VK) (h:wE K sf C (.var i) σ H Q):lq j σ H Q:=by
 obtain ⟨pv,Z,Fs,η,w,η',A,ev,k⟩:=h
 obtain ⟨w',e1,e2⟩:=aq (show ret η ((rd η i).bind look) = _ from ev)
 cases e2
 cases e3:rd η i with
 | none=>rw [e3] at e1; cases e1
 | some u =>
  rw [e3] at e1
  obtain ⟨m,t⟩:=u
  obtain ⟨v,r,hv⟩:=A.env i m t e3
  refine ⟨v,hv.1 j hs,k v Z H Fs no A ?_ (cD fun a ha=>ha.elim id fun z=>z.elim)⟩
  cases m with
  | s=>cases e1; exact r.sany
  | d =>
   have e1':(if t.leaf = true then some (Md.d,t) else none) = some w:=e1
   split at e1'
   ·rename_i hl; cases e1'; exact r.leaf (fun _ _ _ q=>q) hl
   ·cases e1'
  | o m =>
   have e1':(if t.leaf = true then some (Md.d,t) else none) = some w:=e1
   split at e1'
   ·rename_i hl; cases e1'; exact r.leaf (fun _ _ _ q=>q) hl
   ·cases e1'
def xo (Fs:Fps) (i:Nat):Fps:=fun j a=>j ≠ i /\ Fs j a
theorem vz {e:E} {i j:Nat} (he:∀ η,evE C e η = ret (del η i) (rd η i)) (hs:sf i = some j) (σ:L2.St) (H:Hp) (Q:VK) (h:wE K sf C e σ H Q):lq j σ H Q:=by
 obtain ⟨pv,Z,Fs,η,w,η',A,ev,k⟩:=h
 rw [he] at ev
 obtain ⟨w',e1,e2⟩:=aq ev
 cases e2
 obtain ⟨m,t⟩:=w
 obtain ⟨v,r,hv⟩:=A.env i m t e1
 refine ⟨v,hv.1 j hs,k v Z H (xo Fs i) (Fs i) ⟨⟨fun a ⟨l,h1,h2⟩=>A.gd.own a ⟨l,h2⟩,fun l l' a h1 h2=>A.gd.dis l l' a h1.2 h2.2,A.gd.zal⟩,fun l m' t' e=>?_,fun a ha=>A.gd.own a ⟨i,ha⟩,fun a ha ⟨l,h1,h2⟩=>h1 (A.gd.dis l i a h2 ha),A.lk,A.ln⟩ r (cD fun a ha=>ha.elim (fun ⟨l,h1,h2⟩=>⟨l,h2⟩) fun z=>⟨i,z⟩)⟩
 rw [a6] at e
 split at e
 ·cases e
 ·rename_i hne
  obtain ⟨v',r',hv'⟩:=A.env l m' t' e
  have hli:l ≠ i:=fun z=>hne ⟨z,cH e1⟩
  exact ⟨v',r'.mono fun a ha=>⟨hli,ha⟩,hv'⟩
theorem gB {t:T} {v:V} (hv:∀ {Z:Fp} {H:Hp},Rep K Z H .d t v no) (σ:L2.St) (H:Hp) (Q:VK) (h:wE K sf C (.cst t) σ H Q):tC v σ H Q:=by
 obtain ⟨pv,Z,Fs,η,w,η',A,ev,k⟩:=h
 cases ev
 exact k v Z H Fs no A hv (cD fun a ha=>ha.elim id fun z=>z.elim)
theorem u5 {es:List E} (hn:es.length <= LIM) (σ:L2.St) (H:Hp) (Q:VK) (h:wE K sf C (.tup es) σ H Q):yi (wL K sf C es) σ H Q:=by
 obtain ⟨pv,Z,Fs,η,w,η',A,ev,k⟩:=h
 obtain ⟨⟨ws,η1⟩,h1,h2⟩:=aa (show (evL C es η).bind i4 = _ from ev)
 cases h2
 refine ⟨pv,Z,Fs,η,ws,_,A,h1,fun vs Z' H' Fs' G B r s=>?_⟩
 have hl:vs.length <= LIM:=by rw [r.length,dX h1]; exact hn
 obtain ⟨G',g1,g2⟩:=RepW.to (fun u hu=>eV hu) r
 refine ⟨bz hl,fun p hp=>sJ (m:=(eD ws).up) B.own g1 hl (by rw [b7]; exact g2) (ck B s k) hp⟩
theorem vT {b:Bool} {es:List E} (hn:es.length <= LIM) (σ:L2.St) (H:Hp) (Q:VK) (h:wE K sf C (.lst b es) σ H Q):yP (wL K sf C es) σ H Q:=by
 obtain ⟨pv,Z,Fs,η,w,η',A,ev,k⟩:=h
 obtain ⟨⟨ws,η1⟩,h1,h2⟩:=aa (show (evL C es η).bind (oA b) = _ from ev)
 cases h2
 refine ⟨pv,Z,Fs,η,ws,_,A,h1,fun vs Z' H' Fs' G B r s=>?_⟩
 have hl:vs.length <= LIM:=by rw [r.length,dX h1]; exact hn
 refine ⟨bz hl,fun p hp=>?_⟩
 cases b with
 | true =>
  obtain ⟨G',g1,g2⟩:=RepW.to (fun u hu=>eV hu) r
  exact bE (m:=(eD ws).up) B.own B.gd.zal g1 hl (by rw [b7]; exact g2) (bx _) (ck B s k) hp
 | false =>
  obtain ⟨G',g1,g2⟩:=RepW.to (N:=.s) (fun u hu=>by cases lf u.1 u.2 <;> rfl) r
  exact bE (m:=.o .s) B.own B.gd.zal g1 hl g2 (by simp) (ck B s k) hp
def wT (K:PySem.W.Frag) (sl:Nat -> Option Nat) (C:Call) (e:E):TT:=fun σ H Q=>∃ pv Z Fs η w η' b,At K ⟨sl,pv⟩ σ Z H Fs η no /\ evE C e η = .ok (w,η') /\ truth w.2 = some b /\
 ∀ Z' H' Fs',At K ⟨sl,pv⟩ σ Z' H' Fs' η' no -> Step Z H (tot Fs) Z' H' (tot Fs') -> Q b H'
def TrV (K:PySem.W.Frag) (x:V) (H:Hp) (k:Bool):Prop :=
 match x with
 | .non=>k = false
 | .bl b=>k = b
 | .int i=>k = (i != 0)
 | .str y=>y.length <= sizeLine /\ k = ((y.length:Int) != 0)
 | .ref p=>(∃ xs,SqL K H p xs /\ k = !xs.isEmpty) \/ (∃ xs,SqT K H p xs /\ k = !xs.isEmpty)
 | _=>False
theorem cc {α β:Type} {xs:List α} {ys:List β} (h:xs.length = ys.length):xs.isEmpty = ys.isEmpty:=by
 cases xs <;> cases ys <;> first | rfl | simp at h
theorem dt {m:Md} {t:T} {v:V} {b:Bool} (e:truth t = some b) (r:Rep K Z H m t v G):TrV K v H b:=by
 cases t with
 | non=>cases e; rw [show v = _ from r]; rfl
 | bl c=>cases e; rw [show v = _ from r]; rfl
 | int i=>cases e; rw [show v = _ from r]; rfl
 | str x =>
  cases e; rw [show v = _ from r.1]
  refine ⟨bz (gE r.2),?_⟩
  show (x.cps.size != 0) = (((x.cps.size:Nat):Int) != 0)
  cases x.cps.size with
  | zero=>rfl
  | succ n=>simp; omega
 | tup ts =>
  obtain ⟨a,xs,rfl,hs,hl,p⟩:=cn r
  cases e
  exact .inr ⟨xs,hs,by rw [cc p.length]⟩
 | lst ts =>
  obtain ⟨a,xs,rfl,hs,hl,p⟩:=bp r
  cases e
  exact .inl ⟨xs,.inl (.inl hs),by rw [cc p.length]⟩
 | scr ns =>
  obtain ⟨a,rfl,hL,hs⟩:=r
  cases e
  exact .inl ⟨_,hs.sq,by rw [cc (List.length_map ..)]⟩
 | dct _ _=>exact r.elim
 | ins _ _ _=>cases e
 | gone=>cases e
theorem lB {e:E} {w:W} {b:Bool} {Q:Bool -> Hp -> Prop} (A:At K sl σ Z H Fs η no) (ev:evE C e η = .ok (w,η')) (ht:truth w.2 = some b) (k:∀ Z' H' Fs',At K sl σ Z' H' Fs' η' no -> Step Z H (tot Fs) Z' H' (tot Fs') -> Q b H'):wT K sl.sl C e σ H Q:=⟨sl.pv,Z,Fs,η,w,η',b,A,ev,ht,k⟩
theorem bH {α:Type} {f g:Env -> Res α} {p:W × Env} {r:α} (h:onT f g p = .ok r):∃ b,truth p.1.2 = some b /\ (if b = true then f p.2 else g p.2) = .ok r:=by
 unfold onT at h
 split at h
 ·rename_i e; exact ⟨true,e,h⟩
 ·rename_i e; exact ⟨false,e,h⟩
 ·cases h
theorem xE {e:E} (σ:L2.St) (H:Hp) (Q:Bool -> Hp -> Prop) (h:wT K sf C (.not e) σ H Q):zk (wT K sf C e) σ H Q:=by
 obtain ⟨pv,Z,Fs,η,w,η',b,A,ev,ht,k⟩:=h
 obtain ⟨⟨u,η1⟩,h1,h2⟩:=aa (show (evE C e η).bind lE = _ from ev)
 obtain ⟨w',e1,e2⟩:=aq (show ret η1 ((truth u.2).map fun b=>((.d,.bl (!b)):W)) = _ from h2)
 cases e2
 cases e3:truth u.2 with
 | none=>rw [e3] at e1; cases e1
 | some c =>
  rw [e3] at e1; cases e1
  have:b = !c:=by cases ht; rfl
  subst this
  exact lB A h1 e3 k
theorem uF {a b:E} (σ:L2.St) (H:Hp) (Q:Bool -> Hp -> Prop) (h:wT K sf C (.and a b) σ H Q):zO (wT K sf C a) (wT K sf C b) σ H Q:=by
 obtain ⟨pv,Z,Fs,η,w,η',c,A,ev,ht,k⟩:=h
 obtain ⟨⟨u,η1⟩,h1,h2⟩:=aa (show (evE C a η).bind (lP (evE C b)) = _ from ev)
 obtain ⟨d,h3,h4⟩:=bH (show onT (evE C b) (okW u) (u,η1) = _ from h2)
 refine lB A h1 h3 fun Z1 H1 Fs1 A1 s1=>?_
 cases d with
 | true=>rw [if_pos rfl] at h4 ⊢; exact lB A1 h4 ht fun Z2 H2 Fs2 A2 s2=>k Z2 H2 Fs2 A2 (s1.trans s2)
 | false =>
  rw [if_neg Bool.false_ne_true] at h4 ⊢
  cases h4
  cases (h3.symm.trans ht)
  exact k Z1 H1 Fs1 A1 s1
theorem yw {a b:E} (σ:L2.St) (H:Hp) (Q:Bool -> Hp -> Prop) (h:wT K sf C (.or a b) σ H Q):tOr (wT K sf C a) (wT K sf C b) σ H Q:=by
 obtain ⟨pv,Z,Fs,η,w,η',c,A,ev,ht,k⟩:=h
 obtain ⟨⟨u,η1⟩,h1,h2⟩:=aa (show (evE C a η).bind (kOr (evE C b)) = _ from ev)
 obtain ⟨d,h3,h4⟩:=bH (show onT (okW u) (evE C b) (u,η1) = _ from h2)
 refine lB A h1 h3 fun Z1 H1 Fs1 A1 s1=>?_
 cases d with
 | false=>rw [if_neg Bool.false_ne_true] at h4 ⊢; exact lB A1 h4 ht fun Z2 H2 Fs2 A2 s2=>k Z2 H2 Fs2 A2 (s1.trans s2)
 | true =>
  rw [if_pos rfl] at h4 ⊢
  cases h4
  cases (h3.symm.trans ht)
  exact k Z1 H1 Fs1 A1 s1
theorem uq {c a b:E} (σ:L2.St) (H:Hp) (Q:VK) (h:wE K sf C (.ifx c a b) σ H Q):tIf (wT K sf C c) (wE K sf C a) (wE K sf C b) σ H Q:=by
 obtain ⟨pv,Z,Fs,η,w,η',A,ev,k⟩:=h
 obtain ⟨⟨u,η1⟩,h1,h2⟩:=aa (show (evE C c η).bind (onT (evE C a) (evE C b)) = _ from ev)
 obtain ⟨d,h3,h4⟩:=bH h2
 refine lB A h1 h3 fun Z1 H1 Fs1 A1 s1=>?_
 cases d with
 | true=>rw [if_pos rfl] at h4 ⊢; exact ⟨pv,Z1,Fs1,η1,w,η',A1,h4,fun v Z' H' Fs' G B r s=>k v Z' H' Fs' G B r (s1.trans s)⟩
 | false=>rw [if_neg Bool.false_ne_true] at h4 ⊢; exact ⟨pv,Z1,Fs1,η1,w,η',A1,h4,fun v Z' H' Fs' G B r s=>k v Z' H' Fs' G B r (s1.trans s)⟩
theorem xP {e:E} (σ:L2.St) (H:Hp) (Q:VK) (h:wE K sf C (.not e) σ H Q):wE K sf C e σ H fun x H1=>∃ k,TrV K x H1 k /\ Q (.bl (!k)) H1:=by
 obtain ⟨pv,Z,Fs,η,w,η',A,ev,k⟩:=h
 obtain ⟨⟨u,η1⟩,h1,h2⟩:=aa (show (evE C e η).bind lE = _ from ev)
 obtain ⟨w',e1,e2⟩:=aq (show ret η1 ((truth u.2).map fun b=>((.d,.bl (!b)):W)) = _ from h2)
 cases e2
 cases e3:truth u.2 with
 | none=>rw [e3] at e1; cases e1
 | some c =>
  rw [e3] at e1; cases e1
  exact ⟨pv,Z,Fs,η,u,_,A,h1,fun v Z' H' Fs' G B r s=>⟨c,dt e3 r,k _ Z' H' Fs' no B.bare rfl (s.mono (fun _ z=>z) fun a ha=>ha.elim .inl fun z=>z.elim)⟩⟩
theorem vQ {a b:E} (σ:L2.St) (H:Hp) (Q:VK) (h:wE K sf C (.and a b) σ H Q):wE K sf C a σ H fun x H1=>∃ k,TrV K x H1 k /\ if k = true then wE K sf C b σ H1 Q else Q x H1:=by
 obtain ⟨pv,Z,Fs,η,w,η',A,ev,k⟩:=h
 obtain ⟨⟨u,η1⟩,h1,h2⟩:=aa (show (evE C a η).bind (lP (evE C b)) = _ from ev)
 obtain ⟨d,h3,h4⟩:=bH (show onT (evE C b) (okW u) (u,η1) = _ from h2)
 refine ⟨pv,Z,Fs,η,u,η1,A,h1,fun v Z1 H1 Fs1 G B r s=>⟨d,dt h3 r,?_⟩⟩
 cases d with
 | true=>rw [if_pos rfl] at h4 ⊢; exact ⟨pv,Z1,Fs1,η1,w,η',B.bare,h4,fun v' Z' H' Fs' G' B' r' s'=>k v' Z' H' Fs' G' B' r' ((s.mono (fun _ z=>z) fun _ z=>.inl z).trans s')⟩
 | false =>
  rw [if_neg Bool.false_ne_true] at h4 ⊢
  cases h4
  exact k v Z1 H1 Fs1 G B r s
end
end MR
namespace MR
open L2 L3 M
open PySem (Addr Str sizeLine)
section
variable {K:PySem.W.Frag} {sl:Cf} {sf:Nat -> Option Nat} {C:Call} {σ:L2.St} {Z Z' Z1:Fp} {H H' H1:Hp} {Fs Fs' Fs1:Fps} {η η' η1:Env} {G G' R F:Fp}
structure Wk (K:PySem.W.Frag) (J:It) (Z:Fp) (H0:Hp) (ts:List (List W)):Prop where
 go:∀ H i,Stay Z H0 H -> i < ts.length -> J.go i H
 stop:∀ H i,Stay Z H0 H -> ts.length <= i -> J.stop i H
 len:ts.length <= LIM
def oQ (K:PySem.W.Frag) (J:It) (Z:Fp) (H0:Hp) (ts:List (List W)):Prop :=
 ∀ H i x H',Stay Z H0 H -> i < ts.length -> J.yld i H x H' -> H' = H /\ ∃ w,ts[i]? = some [w] /\ Rep K Z H w.1 w.2 x no
def AX (K:PySem.W.Frag) (J:It) (Z:Fp) (H0:Hp) (ts:List (List W)):Prop :=
 ∀ H i x H',Stay Z H0 H -> i < ts.length -> J.yld i H x H' -> ∃ p y z u w,x = .ref p /\ (∀ b o,H b = some o -> H' b = some o) /\ SqT K H' p [y,z] /\ ts[i]? = some [u,w] /\ Rep K Z H u.1 u.2 y no /\ Rep K Z H w.1 w.2 z no
theorem eh (same:∀ b o,H b = some o -> H' b = some o):Stay Z H H':=by
 refine ⟨fun a o _ e=>same a o e,fun a ys e=>?_,fun a o u e=>same a _ e⟩
 rcases e with e | ⟨u,e⟩
 ·exact .inl (same a _ e)
 ·exact .inr ⟨u,same a _ e⟩
theorem cP (same:∀ a o,H a = some o -> H' a = some o):Step Z H G Z H' G:=by
 have al:∀ a,H a ≠ none -> H' a ≠ none:=fun a h=>by
  cases e:H a with
  | none=>exact absurd e h
  | some o=>rw [same a o e]; simp
 exact ⟨fun a o h _=>same a o h,fun _ h=>h,fun _ h=>.inl h,fun _ h=>.inl h,al,fun z a h=>al a (z a h)⟩
theorem nN {p:Addr} {o:HO} (hp:H p = none):∀ b u,H b = some u -> upd H p o b = some u:=fun a u e=>by
 have:a ≠ p:=fun q=>by subst q; rw [hp] at e; cases e
 rw [ab this]; exact e
def Yld (K:PySem.W.Frag) (J:It) (Z:Fp) (H0:Hp) (ts:List (List W)):Nat -> Prop
 | 1=>oQ K J Z H0 ts
 | 2=>AX K J Z H0 ts
 | _=>False
def wI (K:PySem.W.Frag) (sl:Nat -> Option Nat) (C:Call) (n:Nat) (k:Ik) (src:List E):TI:=fun σ H R=>∃ pv Z Fs η ws η' ts,At K ⟨sl,pv⟩ σ Z H Fs η no /\ evL C src η = .ok (ws,η') /\ turns k ws = some ts /\
 ∀ J Z' H' Fs',At K ⟨sl,pv⟩ σ Z' H' Fs' η' no -> Step Z H (tot Fs) Z' H' (tot Fs') -> Wk K J Z' H' ts -> Yld K J Z' H' ts n -> R J H'
theorem At.freeze (A:At K sl σ Z H Fs η G):At K sl σ (fun a=>Z a \/ G a) H Fs η no:=by
 refine ⟨⟨fun a ha=>⟨fun z=>z.elim (A.gd.own a ha).1 fun q=>A.dis a q ha,(A.gd.own a ha).2⟩,A.gd.dis,fun a h=>h.elim (A.gd.zal a) fun q=>?_⟩,fun i m t e=>?_,bo,fun _ z=>z.elim,A.lk,A.ln⟩
 ·obtain ⟨_,xs,e⟩:=A.own a q
  rw [e]; simp
 ·obtain ⟨v,r,h⟩:=A.env i m t e
  exact ⟨v,r.zmono fun a h=>.inl h,h⟩
theorem aV (o:Own Z' H' G) (s:Step Z H F Z' H' (fun a=>F' a \/ G a)):Step Z H F (fun a=>Z' a \/ G a) H' F' where
 keep:=s.keep
 zm:=fun a h=>.inl (s.zm a h)
 zn:=fun a h=>h.elim (s.zn a) fun q=>.inr (s.fn a (.inr q))
 fn:=fun a h=>s.fn a (.inl h)
 al:=s.al
 za:=fun z a h=>h.elim (s.za z a) fun q=>by
  obtain ⟨_,xs,e⟩:=o a q
  rw [e]; simp
theorem dU {a:Addr} {xs:List V} {H0:Hp} (s:Stay Z H0 H) (hz:Z a) (h:H0 a = some (.lst xs)):SqL K H a xs:=.inl (.inl (s.1 a _ hz h))
theorem qo {a:Addr} {xs:List V} {ts:List T} (hL:xs.length <= LIM) (hz:Z a) (h:H a = some (.lst xs)) (r:RepL K Z H .s ts xs no):Wk K (Itl K a) Z H (ts.map fun t=>[(.s,t)]) /\ oQ K (Itl K a) Z H (ts.map fun t=>[(.s,t)]):=by
 have hl:=r.length
 refine ⟨⟨fun H' i s hi=>?_,fun H' i s hi=>?_,by rw [List.length_map]; omega⟩,fun H' i x H'' s hi y=>?_⟩
 ·rw [List.length_map] at hi
  exact ⟨xs,xs[i]'(by omega),dU s hz h,by simp⟩
 ·rw [List.length_map] at hi
  exact ⟨xs,dU s hz h,by omega⟩
 ·rw [List.length_map] at hi
  obtain ⟨rfl,y⟩:=y
  have hx:=y xs (dU s hz h)
  obtain ⟨x',hx',rx⟩:=r.get (show ts[i]? = some ts[i] by simp)
  rw [hx] at hx'; cases hx'
  refine ⟨rfl,(.s,ts[i]),by rw [List.getElem?_map,show ts[i]? = some ts[i] by simp]; rfl,rx.keep s (fun _ z=>z) fun _ _ z=>z.elim⟩
theorem wW {a:Addr} {xs:List V} {ts:List T} (hL:xs.length <= LIM) (h:SqT K H a xs) (r:RepL K Z H .s ts xs no):Wk K (Itt K a) Z H (ts.map fun t=>[(.s,t)]) /\ oQ K (Itt K a) Z H (ts.map fun t=>[(.s,t)]):=by
 have hl:=r.length
 refine ⟨⟨fun H' i s hi=>?_,fun H' i s hi=>?_,by rw [List.length_map]; omega⟩,fun H' i x H'' s hi y=>?_⟩
 ·rw [List.length_map] at hi
  exact ⟨xs,xs[i]'(by omega),s.sqt h,by simp⟩
 ·rw [List.length_map] at hi
  exact ⟨xs,s.sqt h,by omega⟩
 ·rw [List.length_map] at hi
  obtain ⟨rfl,y⟩:=y
  have hx:=y xs (s.sqt h)
  obtain ⟨x',hx',rx⟩:=r.get (show ts[i]? = some ts[i] by simp)
  rw [hx] at hx'; cases hx'
  refine ⟨rfl,(.s,ts[i]),by rw [List.getElem?_map,show ts[i]? = some ts[i] by simp]; rfl,rx.keep s (fun _ z=>z) fun _ _ z=>z.elim⟩
theorem xf {lo:Int} {n:Nat} (hL:n <= LIM):Wk K (Itr lo n) Z H ((List.range n).map fun (k:Nat)=>[(.d,.int (lo + k))]) /\ oQ K (Itr lo n) Z H ((List.range n).map fun (k:Nat)=>[(.d,.int (lo + k))]):=by
 refine ⟨⟨fun H' i s hi=>by show i < n; simpa using hi,fun H' i s hi=>by show n <= i; simpa using hi,by simpa using hL⟩,fun H' i x H'' s hi y=>?_⟩
 obtain ⟨rfl,rfl⟩:=y
 refine ⟨rfl,(.d,.int (lo + i)),?_,rfl⟩
 rw [List.length_map,List.length_range] at hi
 rw [List.getElem?_map,List.getElem?_range hi]
 rfl
theorem iX {a:Addr} {ns:List Int} {H0:Hp} (s:Stay Z H0 H) (h:ScrR K H0 a ns):SqL K H a (ns.map V.int):=(h.keep s.2.2).sq
theorem xh {a:Addr} {ns:List Int} (hL:ns.length <= LIM) (h:ScrR K H a ns):Wk K (Itl K a) Z H (ns.map fun n=>[(.d,.int n)]) /\ oQ K (Itl K a) Z H (ns.map fun n=>[(.d,.int n)]):=by
 refine ⟨⟨fun H' i s hi=>?_,fun H' i s hi=>?_,by rw [List.length_map]; exact hL⟩,fun H' i x H'' s hi y=>?_⟩
 ·rw [List.length_map] at hi
  exact ⟨_,(ns.map V.int)[i]'(by rw [List.length_map]; exact hi),iX s h,by simp⟩
 ·rw [List.length_map] at hi
  exact ⟨_,iX s h,by rw [List.length_map]; exact hi⟩
 ·rw [List.length_map] at hi
  obtain ⟨rfl,y⟩:=y
  have hx:=y _ (iX s h)
  refine ⟨rfl,(.d,.int ns[i]),by rw [List.getElem?_map,show ns[i]? = some ns[i] by simp]; rfl,?_⟩
  rw [List.getElem?_map,show ns[i]? = some ns[i] by simp] at hx
  exact (Option.some.inj hx).symm
theorem wH {e:E} (σ:L2.St) (H:Hp) (R:It -> Hp -> Prop) (h:wI K sf C 1 .seq [e] σ H R):tq K (wE K sf C e) σ H R \/ zL K (wE K sf C e) σ H R:=by
 obtain ⟨pv,Z,Fs,η,ws,η',ts,A,ev,ht,k⟩:=h
 obtain ⟨⟨m,a⟩,η1,us,e1,e2,rfl⟩:=aB ev
 cases e2
 cases a with
 | lst ts' =>
  cases ht
  refine .inl ⟨pv,Z,Fs,η,_,_,A,e1,fun v Z' H' Fs' G B r s=>?_⟩
  obtain ⟨a,xs,rfl,l,q,p⟩:=Rep.sh r
  obtain ⟨w1,w2⟩:=qo l q.1 q.2 p.sany
  exact ⟨a,rfl,⟨xs,.inl (.inl q.2)⟩,k _ _ H' Fs' B.freeze (aV B.own s) w1 w2⟩
 | tup ts' =>
  cases ht
  refine .inr ⟨pv,Z,Fs,η,_,_,A,e1,fun v Z' H' Fs' G B r s=>?_⟩
  obtain ⟨a,xs,rfl,q,l,p⟩:=Rep.sh r
  obtain ⟨w1,w2⟩:=wW l q p.sany
  exact ⟨a,rfl,⟨xs,q⟩,k _ _ H' Fs' B.freeze (aV B.own s) w1 w2⟩
 | scr ns =>
  cases ht
  refine .inl ⟨pv,Z,Fs,η,_,_,A,e1,fun v Z' H' Fs' G B r s=>?_⟩
  obtain ⟨a,rfl,hl,q⟩:=r
  obtain ⟨w1,w2⟩:=xh (Z:=fun a=>Z' a \/ G a) hl q
  exact ⟨a,rfl,⟨_,q.sq⟩,k _ _ H' Fs' B.freeze (aV B.own s) w1 w2⟩
 | _=>cases ht
theorem p62:(2:Int) ^ 62 = 4611686018427387904:=by decide
theorem rC {e:E} (σ:L2.St) (H:Hp) (R:It -> Hp -> Prop) (h:wI K sf C 1 .rng [e] σ H R):ub (wL K sf C [e]) σ H R:=by
 obtain ⟨pv,Z,Fs,η,ws,η',ts,A,ev,ht,k⟩:=h
 refine ⟨pv,Z,Fs,η,ws,η',A,ev,fun vs Z' H' Fs' G B r s=>?_⟩
 obtain ⟨⟨m,a⟩,η1,us,e1,e2,rfl⟩:=aB ev
 cases e2
 obtain ⟨x,rfl,r1⟩:=cU rfl r
 cases a with
 | int n =>
  rw [mw] at ht
  split at ht
  ·rename_i hc
   rw [Bool.and_eq_true,decide_eq_true_eq] at hc
   cases ht
   refine ⟨n,by rw [show x = _ from r1],by rw [p62]; omega,by rw [p62]; omega,?_⟩
   obtain ⟨w1,w2⟩:=xf (K:=K) (Z:=fun a=>Z' a \/ G a) (H:=H') (lo:=0) (n:=n.toNat) (cF hc.2)
   have hz:∀ k:Nat,(0:Int) + (k:Int) = k:=fun k=>by omega
   simp only [hz] at w1 w2
   exact k _ _ H' Fs' B.freeze (aV B.own s) w1 w2
  ·cases ht
 | _=>cases ht
theorem tG {m:Md} {t:T} {v:V} {ts:List T} (e:elems (m,t) = some ts) (r:Rep K Z H m t v G):∃ k a xs,v = .ref a /\ xs.length <= LIM /\ RepL K (fun a=>Z a \/ G a) H .s ts xs no /\ ∀ H',Stay (fun a=>Z a \/ G a) H H' -> Sq K H' k a xs:=by
 cases t with
 | lst us =>
  cases e
  obtain ⟨a,xs,rfl,l,q,p⟩:=Rep.sh r
  exact ⟨false,a,xs,rfl,l,p.sany,fun H' s=>dU s q.1 q.2⟩
 | tup us =>
  cases e
  obtain ⟨a,xs,rfl,q,l,p⟩:=Rep.sh r
  exact ⟨true,a,xs,rfl,l,p.sany,fun H' s=>s.sqt q⟩
 | _=>cases e
theorem ij {m n:Md}:∀ {ts us:List T} {i:Nat} {t u:T},ts[i]? = some t -> us[i]? = some u -> (bu m n ts us)[i]? = some [(m,t),(n,u)]
 | t :: ts,u :: us,0,_,_,h,h'=>by cases h; cases h'; rfl
 | t :: ts,u :: us,i + 1,_,_,h,h'=>ij (ts:=ts) (us:=us) (i:=i) h h'
 | [],_,_,_,_,h,_=>by simp at h
 | _ :: _,[],_,_,_,_,h'=>by simp at h'
theorem cg {m n:Md}:∀ {ts us:List T},(bu m n ts us).length = min ts.length us.length
 | [],_=>by simp [bu]
 | _ :: _,[]=>by simp [bu]
 | t :: ts,u :: us=>by
  show (bu m n ts us).length + 1 = _
  rw [cg]; simp
theorem uS {e e':E} (σ:L2.St) (H:Hp) (R:It -> Hp -> Prop) (h:wI K sf C 2 .zip [e,e'] σ H R):zu K (wL K sf C [e,e']) σ H R:=by
 obtain ⟨pv,Z,Fs,η,ws,η',ts,A,ev,ht,k⟩:=h
 refine ⟨pv,Z,Fs,η,ws,η',A,ev,fun vs Z' H' Fs' G B r s=>?_⟩
 obtain ⟨⟨m,a⟩,η1,us,e1,e2,rfl⟩:=aB ev
 obtain ⟨⟨n,b⟩,η2,us,e3,e4,rfl⟩:=aB e2
 cases e4
 obtain ⟨x,y,hx⟩:∃ x y,vs = [x,y]:=ek (x:=()) (y:=()) (show vs.length = [(),()].length from r.length)
 subst hx
 obtain ⟨G1,G2,g1,g2,_,r1,r2⟩:=b4 r
 have ht':((elems (m,a)).bind fun ts=>(elems (n,b)).bind fun us=>some (bu .s .s ts us)) = some ts:=ht
 cases ea:elems (m,a) with
 | none=>rw [ea] at ht'; cases ht'
 | some t1 =>
  cases eb:elems (n,b) with
  | none=>rw [ea,eb] at ht'; cases ht'
  | some t2 =>
   rw [ea,eb] at ht'; cases ht'
   obtain ⟨k1,a1,xs,rfl,L1,p1,q1⟩:=tG ea r1
   obtain ⟨k2,a2,ys,rfl,L2',p2,q2⟩:=tG eb r2
   have z1:∀ c,(Z' c \/ G1 c) -> (Z' c \/ G c):=fun c h=>h.imp id (g1 c)
   have z2:∀ c,(Z' c \/ G2 c) -> (Z' c \/ G c):=fun c h=>h.imp id (g2 c)
   have st1:∀ H0,Stay (fun c=>Z' c \/ G c) H' H0 -> Sq K H0 k1 a1 xs:=fun H0 s=>q1 H0 ⟨fun c o hc=>s.1 c o (z1 c hc),s.2⟩
   have st2:∀ H0,Stay (fun c=>Z' c \/ G c) H' H0 -> Sq K H0 k2 a2 ys:=fun H0 s=>q2 H0 ⟨fun c o hc=>s.1 c o (z2 c hc),s.2⟩
   have l1:=p1.length
   have l2:=p2.length
   refine ⟨k1,k2,a1,a2,rfl,⟨xs,st1 _ (bh _ _)⟩,⟨ys,st2 _ (bh _ _)⟩,k _ _ H' Fs' B.freeze (aV B.own s) ⟨fun H0 i s hi=>?_,fun H0 i s hi=>?_,by rw [cg]; omega⟩ fun H0 i x H1 s hi y=>?_⟩
   ·rw [cg] at hi
    exact ⟨xs,ys,xs[i]'(by omega),ys[i]'(by omega),st1 _ s,st2 _ s,by simp,by simp⟩
   ·rw [cg] at hi
    exact ⟨xs,ys,st1 _ s,st2 _ s,by omega⟩
   ·rw [cg] at hi
    obtain ⟨p,x1,y1,rfl,hp,rfl,hx,hy⟩:=y
    have hi1:i < t1.length:=by omega
    have hi2:i < t2.length:=by omega
    obtain ⟨x',hx',rx⟩:=p1.get (show t1[i]? = some t1[i] by simp)
    obtain ⟨y',hy',ry⟩:=p2.get (show t2[i]? = some t2[i] by simp)
    rw [hx xs (st1 _ s)] at hx'; cases hx'
    rw [hy ys (st2 _ s)] at hy'; cases hy'
    exact ⟨p,x1,y1,(.s,t1[i]),(.s,t2[i]),rfl,nN hp,.inl (.inl af),ij (by simp) (by simp),(rx.zmono z1).keep s (fun _ z=>z) fun _ _ z=>z.elim,(ry.zmono z2).keep s (fun _ z=>z) fun _ _ z=>z.elim⟩
end
end MR
namespace MR
open L2 L3 M
open PySem (Addr Str sizeLine)
section
variable {K:PySem.W.Frag} {sl:Cf} {sf sg:Nat -> Option Nat} {C:Call} {σ σ2:L2.St} {Z Z' Z1:Fp} {H H' H1:Hp} {Fs Fs' Fs1:Fps} {η η' η1:Env} {G G' R F:Fp} {tg is:List Nat} {pv val:Nat -> Option V}
theorem aD:∀ (tg:List Nat) (η:Env) (i:Nat),rd (ag tg η) i = if i ∈ tg then none else rd η i
 | [],η,i=>by simp [ag]
 | t :: tg,η,i=>by
  show rd (ag tg (wr η t none)) i = _
  rw [aD tg,a6]
  by_cases h1:i ∈ tg
  ·simp [h1]
  ·by_cases h2:i = t
   ·subst h2
    rw [if_neg h1,if_pos List.mem_cons_self]
    split
    ·rfl
    ·rename_i hn
     cases e:rd η i with
     | none=>rfl
     | some w=>exact absurd ⟨rfl,cH e⟩ hn
   ·rw [if_neg h1,if_neg (show ¬ i ∈ t :: tg by simp [h1,h2]),if_neg (show ¬ (i = t /\ t < η.length) from fun h=>h2 h.1)]
def Nn (η η':Env):Prop:=∀ i,rd η i = none -> rd η' i = none
theorem Nn.refl (η:Env):Nn η η:=fun _ h=>h
theorem Nn.trans {a b c:Env} (h:Nn a b) (k:Nn b c):Nn a c:=fun i e=>k i (h i e)
theorem jh (η:Env) (j:Nat):Nn η (del η j):=fun i e=>by
 rw [a6]; split
 ·rfl
 ·exact e
theorem mO {η:Env} {j:Nat} {w:W} (h:rd η j ≠ none):Nn η (put η j w):=fun i e=>by
 rw [a6]; split
 ·rename_i hc; rw [<- hc.1] at h; exact absurd e h
 ·exact e
theorem dq:∀ {is:List Nat} {ws:List W} {η0 η:Env},(∀ i ∈ is,rd η0 i ≠ none) -> Nn η0 η -> Nn η0 (putAll is ws η)
 | [],_,_,_,_,h=>h
 | _ :: _,[],_,_,_,h=>h
 | i :: is,w :: ws,η0,η,hi,h=>by
  show Nn η0 (putAll is ws (put η i w))
  refine dq (fun j hj=>hi j (List.mem_cons_of_mem _ hj)) fun j e=>?_
  rw [a6]; split
  ·rename_i hc; rw [hc.1] at e; exact absurd e (hi i List.mem_cons_self)
  ·exact h j e
theorem eU {f:Env -> Res (Option W × Env)} (hf:∀ {η o η'},f η = .ok (o,η') -> Nn η η'):∀ {ts:List (List W)} {η η':Env} {acc ws:List W},(∀ i ∈ tg,rd η i = none) -> aE tg f ts η acc = .ok (ws,η') -> Nn η η'
 | [],η,η',acc,ws,_,h=>by cases h; exact Nn.refl _
 | t :: ts,η,η',acc,ws,ht,h=>by
  obtain ⟨η1,h1,h2⟩:=aa (show (ofO (bindT tg t η)).bind (fun η1=>(f η1).bind fun p=>aE tg f ts (ag tg p.2) (acc ++ p.1.toList)) = _ from h)
  obtain ⟨⟨o,η2⟩,h3,h4⟩:=aa h2
  have hb:∀ {tg:List Nat} {t:List W} {η η1:Env},bindT tg t η = some η1 -> ∀ i,i ∉ tg -> rd η1 i = rd η i:=fun {tg}=>by
   induction tg with
   | nil=>intro t η η1 h i hi; cases t with
    | nil=>cases h; rfl
    | cons _ _=>cases h
   | cons j tg ih=>intro t η η1 h i hi; cases t with
    | nil=>cases h
    | cons w t =>
     have:=ih (show bindT tg t (put η j w) = some η1 from h) i (fun z=>hi (List.mem_cons_of_mem _ z))
     rw [this,a6,if_neg fun z=>hi (by rw [z.1]; exact List.mem_cons_self)]
  have e1:=hb (bD h1)
  have hd:∀ i,rd η i = none -> rd (ag tg η2) i = none:=fun i e=>by
   rw [aD]
   split
   ·rfl
   ·rename_i hi
    exact hf h3 i (by rw [e1 i hi]; exact e)
  exact Nn.trans (b:=ag tg η2) hd (eU hf (fun i hi=>by rw [aD,if_pos hi]) h4)
def fL (sf sg:Nat -> Option Nat) (tg:List Nat) (is:List Nat):Prop :=
 ∀ i j,sg i = some j -> (∃ k:Nat,tg[k]? = some i /\ j = k) \/ (i ∉ tg /\ ∃ (k j0:Nat),j = tg.length + k /\ is[k]? = some j0 /\ sf i = some j0)
theorem At.pin (A:At K ⟨sf,pv⟩ σ Z H Fs η G):∃ val,(∀ i u,pv i = some u -> val i = some u) /\ At K ⟨sf,val⟩ σ Z H Fs η G /\ ∀ i m t,rd η i = some (m,t) -> val i ≠ none:=by
 have ch:∀ i,∃ o:Option V,(∀ u,pv i = some u -> o = some u) /\ (∀ u j,o = some u -> sf i = some j -> σ[j]? = some (some u)) /\ ∀ m t,rd η i = some (m,t) -> ∃ v,o = some v /\ Rep K Z H m t v (Fs i) /\ (∀ j,sf i = some j -> σ[j]? = some (some v)):=fun i=>by
  cases e:rd η i with
  | none=>exact ⟨pv i,fun _ h=>h,fun u j h hs=>A.lk i u j h hs,fun _ _ h=>by cases h⟩
  | some w =>
   obtain ⟨m,t⟩:=w
   obtain ⟨v,r,h1,h2⟩:=A.env i m t e
   refine ⟨some v,fun u h=>by rw [h2 u h],fun u j h hs=>?_,fun m' t' h=>by cases h; exact ⟨v,rfl,r,h1⟩⟩
   cases h
   exact h1 j hs
 obtain ⟨val,hval⟩:=Classical.axiomOfChoice ch
 refine ⟨val,fun i u h=>(hval i).1 u h,⟨A.gd,fun i m t e=>?_,A.own,A.dis,fun i u j h hs=>(hval i).2.1 u j h hs,A.ln⟩,fun i m t e=>?_⟩
 ·obtain ⟨v,h1,r,h2⟩:=(hval i).2.2 m t e
  exact ⟨v,r,h2,fun u hu=>by rw [show val i = some u from hu] at h1; cases h1; rfl⟩
 ·obtain ⟨v,h1,r,h2⟩:=(hval i).2.2 m t e
  rw [h1]; simp
theorem At.unpin (h:∀ i u,pv i = some u -> val i = some u) (A:At K ⟨sf,val⟩ σ Z H Fs η G):At K ⟨sf,pv⟩ σ Z H Fs η G :=
 ⟨A.gd,fun i m t e=>let ⟨v,r,h1,h2⟩:=A.env i m t e; ⟨v,r,h1,fun u hu=>h2 u (h i u hu)⟩,A.own,A.dis,fun i u j hu hs=>A.lk i u j (h i u hu) hs,A.ln⟩
def inV (val:Nat -> Option V) (tg:List Nat):Nat -> Option V:=fun i=>if i ∈ tg then none else val i
theorem At.into (I:fL sf sg tg is) (ht:∀ i ∈ tg,rd η i = none) (hσ:∀ (k j0:Nat) (v:V),is[k]? = some j0 -> σ[j0]? = some (some v) -> σ2[tg.length + k]? = some (some v)) (hl:∀ i j,sg i = some j -> j < σ2.length) (A:At K ⟨sf,val⟩ σ Z H Fs η G):At K ⟨sg,inV val tg⟩ σ2 Z H Fs η G:=by
 refine ⟨A.gd,fun i m t e=>?_,A.own,A.dis,fun i u j hu hs=>?_,hl⟩
 ·have hi:i ∉ tg:=fun h=>by rw [ht i h] at e; cases e
  obtain ⟨v,r,h1,h2⟩:=A.env i m t e
  refine ⟨v,r,fun j hj=>?_,fun u hu=>h2 u (by have h3:inV val tg i = some u:=hu; unfold inV at h3; rw [if_neg hi] at h3; exact h3)⟩
  rcases I i j hj with ⟨k,hk,_⟩ | ⟨_,k,j0,rfl,hk,hs⟩
  ·exact absurd (List.mem_of_getElem? hk) hi
  ·exact hσ k j0 v hk (h1 j0 hs)
 ·have hi:i ∉ tg:=fun h=>by
   have hu':inV val tg i = some u:=hu
   unfold inV at hu'; rw [if_pos h] at hu'; cases hu'
  have hu':val i = some u:=by have h3:inV val tg i = some u:=hu; unfold inV at h3; rw [if_neg hi] at h3; exact h3
  rcases I i j hs with ⟨k,hk,_⟩ | ⟨_,k,j0,rfl,hk,hs⟩
  ·exact absurd (List.mem_of_getElem? hk) hi
  ·exact hσ k j0 u hk (A.lk i u j0 hu' hs)
theorem At.outof (ht:∀ i ∈ tg,rd η i = none) (hv:∀ i m t,rd η i = some (m,t) -> val i ≠ none) (lk:∀ i u j,val i = some u -> sf i = some j -> σ[j]? = some (some u)) (ln:∀ i j,sf i = some j -> j < σ.length) (A:At K ⟨sg,inV val tg⟩ σ2 Z H Fs η G):At K ⟨sf,val⟩ σ Z H Fs η G:=by
 refine ⟨A.gd,fun i m t e=>?_,A.own,A.dis,lk,ln⟩
 have hi:i ∉ tg:=fun h=>by rw [ht i h] at e; cases e
 obtain ⟨v,r,h1,h2⟩:=A.env i m t e
 cases hu:val i with
 | none=>exact absurd hu (hv i m t e)
 | some u =>
  have:v = u:=h2 u (by show inV val tg i = some u; unfold inV; rw [if_neg hi]; exact hu)
  subst this
  exact ⟨v,r,fun j hj=>lk i v j hu hj,fun u' hu'=>by rw [show val i = some u' from hu'] at hu; cases hu; rfl⟩
end
section
variable {C:Call}
def Bt:List Nat -> Env -> Prop:=fun tg η=>∀ i ∈ tg,rd η i = none
theorem d8:∀ (vs:List Nat) (η:Env),Nn η (M.share vs η)
 | [],η=>fun _ e=>e
 | v :: vs,η=>Nn.trans (b:=wr η v (toS (rd η v))) (fun i e=>by
   rw [a6]; split
   ·rename_i hc; rw [<- hc.1,e]; rfl
   ·exact e) (d8 vs _)
theorem nh (m:Md) (vs:List Nat) (η:Env):Nn η (after m vs η):=by
 cases m with
 | d=>exact fun _ e=>e
 | s=>exact d8 vs η
 | o _=>exact d8 vs η
theorem cX {α:Type} {tab:List (Str × α)} {f:α -> Env -> RE} {p:W × Env} {r:W × Env} (h:kTab tab f p = .ok r):∃ x a,p.1.2 = .str x /\ tab.lookup x = some a /\ f a p.2 = .ok r:=by
 unfold kTab at h
 split at h
 ·rename_i x hx
  split at h
  ·rename_i a ha; exact ⟨x,a,hx,ha,h⟩
  ·cases h
 ·cases h
theorem gu {neg:Bool} {ks:List Str} {p r:W × Env} (h:kIn neg ks p = .ok r):∃ x,p.1.2 = .str x /\ r.2 = p.2 /\ r.1 = (.d,.bl (ks.contains x != neg)):=by
 unfold kIn at h
 split at h
 ·rename_i x hx; cases h; exact ⟨x,hx,rfl,rfl⟩
 ·cases h
theorem n9 {tab:List (Str × T)} {p r:W × Env} (h:qX tab p = .ok r):∃ x,p.1.2 = .str x /\ r.2 = p.2 /\ r.1 = (.s,(tab.lookup x).getD .non):=by
 unfold qX at h
 split at h
 ·rename_i x hx; cases h; exact ⟨x,hx,rfl,rfl⟩
 ·cases h
mutual
theorem au:∀ (e:E) {η η':Env} {w:W},evE C e η = .ok (w,η') -> Nn η η'
 | .var i,η,η',w,h=>by obtain ⟨_,_,e⟩:=aq (show ret η ((rd η i).bind look) = _ from h); cases e; exact Nn.refl _
 | .mv i,η,η',w,h=>by obtain ⟨_,_,e⟩:=aq (show ret (del η i) (rd η i) = _ from h); cases e; exact jh _ _
 | .io i,η,η',w,h=>by obtain ⟨_,_,e⟩:=aq (show ret (del η i) (rd η i) = _ from h); cases e; exact jh _ _
 | .cst t,η,η',w,h=>by cases h; exact Nn.refl _
 | .glb _ t,η,η',w,h=>by cases h; exact Nn.refl _
 | .tup es,η,η',w,h=>by
  obtain ⟨⟨ws,η1⟩,h1,h2⟩:=aa (show (evL C es η).bind i4 = _ from h)
  cases h2; exact cI es h1
 | .lst b es,η,η',w,h=>by
  obtain ⟨⟨ws,η1⟩,h1,h2⟩:=aa (show (evL C es η).bind (oA b) = _ from h)
  cases h2; exact cI es h1
 | .wk m e,η,η',w,h=>by
  obtain ⟨⟨u,η1⟩,h1,h2⟩:=aa (show (evE C e η).bind (kWk m) = _ from h)
  obtain ⟨_,_,e3⟩:=aq (show ret η1 _ = _ from h2)
  cases e3; exact au e h1
 | .op o b es,η,η',w,h=>by
  obtain ⟨ws,h1,h2⟩:=dr h
  exact cI es h1
 | .and a b,η,η',w,h=>by
  obtain ⟨⟨u,η1⟩,h1,h2⟩:=aa (show (evE C a η).bind (lP (evE C b)) = _ from h)
  obtain ⟨d,h3,h4⟩:=bH (show onT (evE C b) (okW u) (u,η1) = _ from h2)
  cases d with
  | true=>rw [if_pos rfl] at h4; exact (au a h1).trans (au b h4)
  | false=>rw [if_neg Bool.false_ne_true] at h4; cases h4; exact au a h1
 | .or a b,η,η',w,h=>by
  obtain ⟨⟨u,η1⟩,h1,h2⟩:=aa (show (evE C a η).bind (kOr (evE C b)) = _ from h)
  obtain ⟨d,h3,h4⟩:=bH (show onT (okW u) (evE C b) (u,η1) = _ from h2)
  cases d with
  | false=>rw [if_neg Bool.false_ne_true] at h4; exact (au a h1).trans (au b h4)
  | true=>rw [if_pos rfl] at h4; cases h4; exact au a h1
 | .not a,η,η',w,h=>by
  obtain ⟨⟨u,η1⟩,h1,h2⟩:=aa (show (evE C a η).bind lE = _ from h)
  obtain ⟨_,_,e3⟩:=aq (show ret η1 _ = _ from h2)
  cases e3; exact au a h1
 | .ifx c a b,η,η',w,h=>by
  obtain ⟨⟨u,η1⟩,h1,h2⟩:=aa (show (evE C c η).bind (onT (evE C a) (evE C b)) = _ from h)
  obtain ⟨d,h3,h4⟩:=bH h2
  cases d with
  | true=>rw [if_pos rfl] at h4; exact (au c h1).trans (au a h4)
  | false=>rw [if_neg Bool.false_ne_true] at h4; exact (au c h1).trans (au b h4)
 | .chain o q a b c,η,η',w,h=>by
  obtain ⟨⟨x,η1⟩,h1,h2⟩:=aa (show (evE C a η).bind (kC1 o q (evE C b) (evE C c)) = _ from h)
  obtain ⟨⟨y,η2⟩,h3,h4⟩:=aa (show (evE C b η1).bind (kC2 o q (evE C c) x) = _ from h2)
  obtain ⟨⟨k,η3⟩,h5,h6⟩:=aa (show (ret η2 (oSem o false [x,y])).bind (fun k=>onB k.1.2 (ky (evE C c) (kC3 q y)) (okW (.d,.bl false)) k.2) = _ from h4)
  obtain ⟨k',_,e5⟩:=aq h5
  have e6:η3 = η2:=congrArg Prod.snd e5
  have n2:=(au a h1).trans (au b h3)
  have h6':onB k.2 (ky (evE C c) (kC3 q y)) (okW (.d,.bl false)) η2 = .ok (w,η'):=by rw [<- e6]; exact h6
  generalize k.2 = kk at h6'
  cases kk with
  | bl b =>
   cases b with
   | true =>
    obtain ⟨⟨z,η4⟩,h7,h8⟩:=aa (show (evE C c η2).bind (kC3 q y) = _ from h6')
    obtain ⟨z',_,e8⟩:=aq (show ret η4 (oSem q false [y,z]) = _ from h8)
    have e9:η' = η4:=congrArg Prod.snd e8
    rw [e9]
    exact n2.trans (au c h7)
   | false=>cases h6'; exact n2
  | _=>cases h6'
 | .call f es,η,η',w,h=>by
  obtain ⟨⟨ws,η1⟩,h1,h2⟩:=aa (show (evA C es η).bind (kCall C f (ios es)) = _ from h)
  obtain ⟨⟨u,us⟩,h3,h4⟩:=aa (show (C f ws).bind (kBack (ios es) η1) = _ from h2)
  cases h4
  exact dq (eA es h1) (cJ es h1)
 | .comp b k src tg none elt,η,η',w,h=>by
  obtain ⟨⟨ws,η1⟩,h1,h2⟩:=aa (show (evL C src η).bind (cT b k tg (bA (evE C elt))) = _ from h)
  obtain ⟨⟨ts,η2⟩,h3,h4⟩:=aa (show (ret (ag tg η1) (turns k ws)).bind (fun t=>(aE tg (bA (evE C elt)) t.1 t.2 []).bind (iK b)) = _ from h2)
  obtain ⟨_,_,e3⟩:=aq h3
  have e4:η2 = ag tg η1:=congrArg Prod.snd e3
  subst e4
  obtain ⟨⟨us,η3⟩,h5,h6⟩:=aa (show (aE tg (bA (evE C elt)) ts (ag tg η1) []).bind (iK b) = _ from h4)
  obtain ⟨_,_,e6⟩:=aq (show ret η3 _ = _ from h6)
  have e7:η' = η3:=congrArg Prod.snd e6
  subst e7
  refine (cI src h1).trans (Nn.trans (b:=ag tg η1) (fun i e=>by rw [aD]; split <;> first | rfl | exact e) (eU (fun {η o η'} hf=>?_) (fun i hi=>by rw [aD,if_pos hi]) h5))
  obtain ⟨⟨u,η4⟩,h7,h8⟩:=aa (show (evE C elt η).bind fH = _ from hf)
  cases h8
  exact au elt h7
 | .comp b k src tg (some c) elt,η,η',w,h=>by
  obtain ⟨⟨ws,η1⟩,h1,h2⟩:=aa (show (evL C src η).bind (cT b k tg (ox (evE C c) (evE C elt))) = _ from h)
  obtain ⟨⟨ts,η2⟩,h3,h4⟩:=aa (show (ret (ag tg η1) (turns k ws)).bind (fun t=>(aE tg (ox (evE C c) (evE C elt)) t.1 t.2 []).bind (iK b)) = _ from h2)
  obtain ⟨_,_,e3⟩:=aq h3
  have e4:η2 = ag tg η1:=congrArg Prod.snd e3
  subst e4
  obtain ⟨⟨us,η3⟩,h5,h6⟩:=aa (show (aE tg (ox (evE C c) (evE C elt)) ts (ag tg η1) []).bind (iK b) = _ from h4)
  obtain ⟨_,_,e6⟩:=aq (show ret η3 _ = _ from h6)
  have e7:η' = η3:=congrArg Prod.snd e6
  subst e7
  refine (cI src h1).trans (Nn.trans (b:=ag tg η1) (fun i e=>by rw [aD]; split <;> first | rfl | exact e) (eU (fun {η o η'} hf=>?_) (fun i hi=>by rw [aD,if_pos hi]) h5))
  obtain ⟨⟨u,η4⟩,h7,h8⟩:=aa (show (evE C c η).bind (onT (bA (evE C elt)) (okW none)) = _ from hf)
  obtain ⟨d,h9,h10⟩:=bH h8
  cases d with
  | true =>
   rw [if_pos rfl] at h10
   obtain ⟨⟨u2,η5⟩,h11,h12⟩:=aa (show (evE C elt η4).bind fH = _ from h10)
   cases h12
   exact (au c h7).trans (au elt h11)
  | false =>
   rw [if_neg Bool.false_ne_true] at h10
   cases h10
   exact au c h7
 | .pop i es,η,η',w,h=>by
  obtain ⟨_,_,h0⟩:=aa (show (eR (rd η i)).bind (n8 (evL C es) η (pO i)) = _ from h)
  obtain ⟨⟨ws,η1⟩,h1,h2⟩:=aa (show (evL C es η).bind (pO i) = _ from h0)
  obtain ⟨r,h3,h4⟩:=aa (show (ofO ((rd η1 i).bind fun w=>yO w ws)).bind (fun r=>.ok (r.1,put η1 i r.2)) = _ from h2)
  cases h4
  refine (cI es h1).trans (mO ?_)
  have:=bD h3
  intro e; rw [e] at this; cases this
 | .lenV i,η,η',w,h=>by obtain ⟨_,_,e⟩:=aq (show ret η ((rd η i).bind fun w=>oSem .len false [w]) = _ from h); cases e; exact Nn.refl _
 | .tupA es,η,η',w,h=>by
  obtain ⟨⟨ws,η1⟩,h1,h2⟩:=aa (show (evA C es η).bind i4 = _ from h)
  cases h2; exact cJ es h1
 | .qx vs ls e,η,η',w,h=>by
  obtain ⟨⟨u,η1⟩,h1,h2⟩:=aa (show (evE C e (pick vs ls η)).bind (kX vs η) = _ from h)
  cases h2
  exact nh _ vs η
 | .mvP i p,η,η',w,h=>by
  obtain ⟨r,h1,h2⟩:=aa (show (ofO ((rd η i).bind (takeW p))).bind (kMvP i η) = _ from h)
  cases h2
  refine mO fun e=>?_
  have:=bD h1
  rw [e] at this; cases this
 | .callT tab k es,η,η',w,h=>by
  obtain ⟨⟨u,η1⟩,h1,h2⟩:=aa (show (evE C k η).bind (kTab tab (kCT C (evA C es) (ios es))) = _ from h)
  obtain ⟨x,j,_,_,h3⟩:=cX h2
  obtain ⟨⟨ws,η2⟩,h4,h5⟩:=aa (show (evA C es η1).bind (kCall C j (ios es)) = _ from h3)
  obtain ⟨⟨r,bs⟩,h6,h7⟩:=aa (show (C j ws).bind (kBack (ios es) η2) = _ from h5)
  cases h7
  exact (au k h1).trans (dq (eA es h4) (cJ es h4))
 | .inT neg ks e,η,η',w,h=>by
  obtain ⟨⟨u,η1⟩,h1,h2⟩:=aa (show (evE C e η).bind (kIn neg ks) = _ from h)
  obtain ⟨x,_,e2,_⟩:=gu h2
  cases e2; exact au e h1
 | .ixT tab e,η,η',w,h=>by
  obtain ⟨⟨u,η1⟩,h1,h2⟩:=aa (show (evE C e η).bind (kTab tab okS) = _ from h)
  obtain ⟨x,j,_,_,h3⟩:=cX h2
  cases h3; exact au e h1
 | .getT tab e,η,η',w,h=>by
  obtain ⟨⟨u,η1⟩,h1,h2⟩:=aa (show (evE C e η).bind (qX tab) = _ from h)
  obtain ⟨x,_,e2,_⟩:=n9 h2
  cases e2; exact au e h1
theorem cI:∀ (es:List E) {η η':Env} {ws:List W},evL C es η = .ok (ws,η') -> Nn η η'
 | [],η,η',ws,h=>by cases h; exact Nn.refl _
 | e :: es,η,η',ws,h=>by
  obtain ⟨w,η1,us,h1,h2,_⟩:=aB h
  exact (au e h1).trans (cI es h2)
theorem cJ:∀ (es:List E) {η η':Env} {ws:List W},evA C es η = .ok (ws,η') -> Nn η η'
 | [],η,η',ws,h=>by cases h; exact Nn.refl _
 | e :: es,η,η',ws,h=>by
  rcases vK e with ⟨i,hi⟩ | he
  ·subst hi
   obtain ⟨us,η1,w,h1,_,_,h4⟩:=dQ h
   rw [h4]
   exact (cJ es h1).trans (jh _ _)
  ·obtain ⟨w,η1,us,h1,h2,_⟩:=da he h
   exact (au e h1).trans (cJ es h2)
theorem eA:∀ (es:List E) {η η':Env} {ws:List W},evA C es η = .ok (ws,η') -> ∀ i ∈ ios es,rd η i ≠ none
 | [],_,_,_,_,i,hi=>by simp [ios] at hi
 | e :: es,η,η',ws,h,i,hi=>by
  rcases vK e with ⟨j,hj⟩ | he
  ·subst hj
   obtain ⟨us,η1,w,h1,h2,_,_⟩:=dQ h
   rcases List.mem_cons.mp (show i ∈ j :: ios es from hi) with z | z
   ·subst z
    exact fun z=>by rw [cJ es h1 i z] at h2; cases h2
   ·exact eA es h1 i z
  ·obtain ⟨w,η1,us,h1,h2,_⟩:=da he h
   have hi':i ∈ ios es:=by
    cases e with
    | io j=>exact absurd rfl (he j)
    | _=>exact hi
   exact fun z=>eA es h2 i hi' (au e h1 i z)
end
end
section
variable {K:PySem.W.Frag} {sl:Cf} {sf sg:Nat -> Option Nat} {C:Call} {σ σ2:L2.St} {Z Z' Z1:Fp} {H H' H1:Hp} {Fs Fs' Fs1:Fps} {η η' η1 ηb:Env} {G G' R F:Fp} {tg is:List Nat} {pv val:Nat -> Option V}
def gT (K:PySem.W.Frag):Nat -> TG
 | 1=>bJ 0
 | 2=>sZ K 2 (dD (bJ 0) (dD (bJ 1) sD))
 | _=>fun _ _ _ _=>False
theorem At.put1 {i:Nat} {w:W} {x:V} (A:At K sl σ Z H Fs η G) (r:Rep K Z H w.1 w.2 x (Fs i)) (hl:∀ j,sl.sl i = some j -> σ[j]? = some (some x)) (hp:sl.pv i = none):At K sl σ Z H Fs (put η i w) G:=by
 refine ⟨A.gd,fun j m t e=>?_,A.own,A.dis,A.lk,A.ln⟩
 rw [a6] at e
 split at e
 ·rename_i hc
  cases e
  obtain ⟨rfl,_⟩:=hc
  exact ⟨x,r,hl,fun u hu=>by rw [hp] at hu; cases hu⟩
 ·exact A.env j m t e
theorem iH {k j0:Nat} {v:V} (h1:is[k]? = some j0) (h2:σ[j0]? = some (some v)):(a7 σ is)[k]? = some (some v):=by
 unfold a7
 rw [List.getElem?_map,h1]
 show some ((σ[j0]?).join) = _
 rw [h2]
 rfl
theorem fA (I:fL sf sg tg is) (h:σ2.length = tg.length + is.length):∀ i j,sg i = some j -> j < σ2.length:=fun i j hj=>by
 rcases I i j hj with ⟨k,hk,rfl⟩ | ⟨_,k,j0,rfl,hk,_⟩
 ·have:=(List.getElem?_eq_some_iff.mp hk).1
  omega
 ·have:=(List.getElem?_eq_some_iff.mp hk).1
  omega
theorem lQ {n i:Nat} {J:It} {ts:List (List W)} {ws:List W} {x:V} {Q:L2.St -> Hp -> Prop} (hn:tg.length = n) (nd:tg.Nodup) (I:fL sf sg tg is) (hz:∀ a,Z1 a -> Z a) (st:Stay Z1 H1 H) (yl:Yld K J Z1 H1 ts n) (A:At K ⟨sf,val⟩ σ Z H Fs η G)
  (ht:∀ i ∈ tg,rd η i = none) (hw:ts[i]? = some ws) (hb:bindT tg ws η = some ηb) (y:J.yld i H x H')
  (k:∀ σ2 H2,At K ⟨sg,inV val tg⟩ σ2 Z H2 Fs ηb G -> Step Z H no Z H2 no -> (σ2.length = n + (a7 σ is).length /\ σ2.drop n = a7 σ is) -> Q σ2 H2):gT K n x (List.replicate n none ++ a7 σ is) H' Q:=by
 have hi:i < ts.length:=(List.getElem?_eq_some_iff.mp hw).1
 have own0:∀ {t:Nat},t ∈ tg -> inV val tg t = none:=fun {t} h=>if_pos h
 match n,yl with
 | 1,yl =>
  obtain ⟨e0,w,hw',r⟩:=yl H i x H' st hi y
  rw [e0]
  rw [hw] at hw'; cases hw'
  match tg,hn with
  | [t],_ =>
   cases hb
   have r':Rep K Z H w.1 w.2 x (Fs t):=(r.zmono hz).mono fun _ z=>z.elim
   refine k _ H ?_ (Step.refl _ _ _) ⟨by simp [Nat.add_comm],rfl⟩
   refine (A.into (σ2:=some x :: a7 σ is) I ht (fun k j0 v h1 h2=>?_) (fA I (by simp [a7,Nat.add_comm]))).put1 r' (fun j hj=>?_) (own0 (by simp))
   ·rw [List.length_singleton,Nat.add_comm,List.getElem?_cons_succ]; exact iH h1 h2
   ·rcases I t j hj with ⟨k,hk,rfl⟩ | ⟨h,_⟩
    ·cases j with
     | zero=>rfl
     | succ _=>simp at hk
    ·exact absurd (List.mem_singleton.mpr rfl) h
 | 2,yl =>
  obtain ⟨p,y1,z1,u,w,rfl,sm,hq,hw',r1,r2⟩:=yl H i x H' st hi y
  rw [hw] at hw'; cases hw'
  match tg,hn with
  | [t,t'],_ =>
   cases hb
   have hne:t ≠ t':=fun z=>by simp [z] at nd
   have s1:Step Z H G Z H' G:=cP sm
   have o1:Own Z H' G:=fun a ha=>by
    obtain ⟨nz,ys,e⟩:=A.own a ha
    exact ⟨nz,ys,sm _ _ e⟩
   obtain ⟨A1,_⟩:=A.op o1 s1
   have sn:Stay Z H H':=eh sm
   have r1':Rep K Z H' u.1 u.2 y1 (Fs t):=((r1.zmono hz).keep sn (fun _ z=>z) fun _ _ z=>z.elim).mono fun _ z=>z.elim
   have r2':Rep K Z H' w.1 w.2 z1 (Fs t'):=((r2.zmono hz).keep sn (fun _ z=>z) fun _ _ z=>z.elim).mono fun _ z=>z.elim
   have s0:Step Z H no Z H' no:=cP sm
   refine ⟨p,[y1,z1],rfl,hq,rfl,y1,[z1],rfl,z1,[],rfl,rfl,k (some y1 :: some z1 :: a7 σ is) _ ?_ s0 ⟨by simp; omega,rfl⟩⟩
   refine ((A1.into (σ2:=some y1 :: some z1 :: a7 σ is) I ht (fun k j0 v h1 h2=>?_) (fA I (by simp [a7]; omega))).put1 r1' (fun j hj=>?_) (own0 (by simp))).put1 r2' (fun j hj=>?_) (own0 (by simp))
   ·rw [show [t,t'].length + k = k + 1 + 1 by simp; omega,List.getElem?_cons_succ,List.getElem?_cons_succ]; exact iH h1 h2
   ·rcases I t j hj with ⟨k,hk,rfl⟩ | ⟨h,_⟩
    ·match j,hk with
     | 0,_=>rfl
     | 1,hk=>exact absurd (Option.some.inj hk).symm hne
    ·exact absurd (by simp) h
   ·rcases I t' j hj with ⟨k,hk,rfl⟩ | ⟨h,_⟩
    ·match j,hk with
     | 0,hk=>exact absurd (Option.some.inj hk) hne
     | 1,_=>rfl
    ·exact absurd (by simp) h
def cV (Fs:Fps) (tg:List Nat):Fps:=fun j a=>j ∉ tg /\ Fs j a
theorem bM {a:Addr} (h:tot (cV Fs tg) a):tot Fs a:=let ⟨j,_,h2⟩:=h; ⟨j,h2⟩
theorem At.dels (A:At K sl σ Z H Fs η G):At K sl σ Z H (cV Fs tg) (ag tg η) G:=by
 refine ⟨⟨fun a h=>A.gd.own a (bM h),fun i j a h1 h2=>A.gd.dis i j a h1.2 h2.2,A.gd.zal⟩,fun i m t e=>?_,A.own,fun a h q=>A.dis a h (bM q),A.lk,A.ln⟩
 rw [aD] at e
 split at e
 ·cases e
 ·rename_i hi
  obtain ⟨v,r,h⟩:=A.env i m t e
  exact ⟨v,r.mono fun a ha=>⟨hi,ha⟩,h⟩
theorem eO:∀ {tg:List Nat} {t:List W} {η η1:Env},bindT tg t η = some η1 -> ∀ i,i ∉ tg -> rd η1 i = rd η i
 | [],[],η,η1,h,i,_=>by cases h; rfl
 | [],_ :: _,_,_,h,_,_=>by cases h
 | _ :: _,[],_,_,h,_,_=>by cases h
 | j :: tg,w :: t,η,η1,h,i,hi=>by
  rw [eO (show bindT tg t (put η j w) = some η1 from h) i fun z=>hi (List.mem_cons_of_mem _ z),a6,if_neg fun z=>hi (by rw [z.1]; exact List.mem_cons_self)]
structure CSt (K:PySem.W.Frag) (sf:Nat -> Option Nat) (val:Nat -> Option V) (σ:L2.St) (tg:List Nat) (f:Env -> Res (Option W × Env)) (ts:List (List W)) (η0:Env) (us:List W) (η3:Env) (Z1:Fp) (H1:Hp) (F1:Fp) (i:Nat) (ys:List V) (H:Hp):Prop where
 ex:∃ (Z:Fp) (Fs:Fps) (η:Env) (acc:List W) (G:Fp),At K ⟨sf,val⟩ σ Z H Fs η G /\ RepW K Z H acc ys G /\ aE tg f (ts.drop i) η acc = .ok (us,η3) /\ (∀ j ∈ tg,rd η j = none) /\ (∀ j ∈ tg,∀ a,¬ Fs j a) /\ Nn η0 η /\ Step Z1 H1 F1 Z H (fun a=>tot Fs a \/ G a)
 len:ys.length <= i
theorem m6 {h:Bool} {us:List W} {ys:List V} {w:W} {Q:VK} (o:Own Z H G) (za:∀ a,Z a -> H a ≠ none) (r:RepW K Z H us ys G) (hl:ys.length <= LIM) (hn:(if h then (if us.all okD then some ((.d,.lst (aJ us)):W) else none) else some (.o .s,.lst (aJ us))) = some w) (k:Out K Z H G w Q):∀ p,H p = none -> Q (.ref p) (upd H p (.lst ys)):=by
 intro p hp
 cases h with
 | true =>
  rw [if_pos rfl] at hn
  split at hn
  ·rename_i ha
   cases hn
   rw [List.all_eq_true] at ha
   obtain ⟨G',g1,g2⟩:=RepW.to (N:=.d) (fun u hu=>by
    have:=ha u hu
    unfold okD at this
    rw [Bool.or_eq_true] at this
    unfold M.lf
    split
    ·rfl
    ·rename_i hnl
     rcases this with z | z
     ·rw [eq_of_beq z]; rfl
     ·exact absurd z hnl) r
   exact bE (m:=.d) o za g1 hl g2 (by simp) k hp
  ·cases hn
 | false =>
  rw [if_neg Bool.false_ne_true] at hn
  cases hn
  obtain ⟨G',g1,g2⟩:=RepW.to (N:=.s) (fun u hu=>by cases M.lf u.1 u.2 <;> rfl) r
  exact bE (m:=.o .s) o za g1 hl g2 (by simp) k hp
end
end MR
namespace MR
open L2 L3 M
open PySem (Addr Str sizeLine)
section
variable {K:PySem.W.Frag} {sf sg:Nat -> Option Nat} {C:Call} {tg is:List Nat}
theorem dA {α:Type} {l:List α} {i:Nat} {a:α} (h:l[i]? = some a):l.drop i = a :: l.drop (i + 1):=by
 obtain ⟨h1,h2⟩:=List.getElem?_eq_some_iff.mp h
 rw [List.drop_eq_getElem_cons h1,h2]
theorem iE {h:Bool} {k:Ik} {f:Env -> Res (Option W × Env)} {p:List W × Env} {w:W} {η':Env} (e:cT h k tg f p = .ok (w,η')):∃ ts us,turns k p.1 = some ts /\ aE tg f ts (ag tg p.2) [] = .ok (us,η') /\ (if h then (if us.all okD then some ((.d,.lst (aJ us)):W) else none) else some (.o .s,.lst (aJ us))) = some w:=by
 obtain ⟨⟨ts,η2⟩,h3,h4⟩:=aa (show (ret (ag tg p.2) (turns k p.1)).bind (fun t=>(aE tg f t.1 t.2 []).bind (iK h)) = _ from e)
 obtain ⟨ts',ht,e3⟩:=aq h3
 have e4:ts = ts':=congrArg Prod.fst e3
 have e5:η2 = ag tg p.2:=congrArg Prod.snd e3
 subst e4 e5
 obtain ⟨⟨us,η3⟩,h5,h6⟩:=aa (show (aE tg f ts (ag tg p.2) []).bind (iK h) = _ from h4)
 obtain ⟨w',hw,e6⟩:=aq (show ret η3 (if h then (if us.all okD then some ((.d,.lst (aJ us)):W) else none) else some (.o .s,.lst (aJ us))) = _ from h6)
 have e7:w = w':=congrArg Prod.fst e6
 have e8:η' = η3:=congrArg Prod.snd e6
 subst e7 e8
 exact ⟨ts,us,ht,h5,hw⟩
theorem i5 {f:Env -> Res (Option W × Env)} {t:List W} {ts:List (List W)} {η η3:Env} {acc us:List W} (e:aE tg f (t :: ts) η acc = .ok (us,η3)):∃ ηb o ηc,bindT tg t η = some ηb /\ f ηb = .ok (o,ηc) /\ aE tg f ts (ag tg ηc) (acc ++ o.toList) = .ok (us,η3):=by
 obtain ⟨η1,h1,h2⟩:=aa (show (ofO (bindT tg t η)).bind (fun η1=>(f η1).bind fun p=>aE tg f ts (ag tg p.2) (acc ++ p.1.toList)) = _ from e)
 obtain ⟨⟨o,η2⟩,h3,h4⟩:=aa h2
 exact ⟨η1,o,η2,bD h1,h3,h4⟩
theorem lT {n:Nat} {h:Bool} {k:Ik} {src:List E} {f:Env -> Res (Option W × Env)} {te:L2.St -> Hp -> (Option V -> Hp -> Prop) -> Prop} (hn:tg.length = n) (nd:tg.Nodup) (I:fL sf sg tg is)
  (hf:∀ {η o η'},f η = .ok (o,η') -> Nn η η')
  (hte:∀ {val:Nat -> Option V} {σ2:L2.St} {Z:Fp} {H:Hp} {Fs:Fps} {η ηc:Env} {R:Fp} {o:Option W} {Q:Option V -> Hp -> Prop},At K ⟨sg,val⟩ σ2 Z H Fs η R -> f η = .ok (o,ηc) ->
   (∀ oy Z' H' Fs' G,At K ⟨sg,val⟩ σ2 Z' H' Fs' ηc (fun c=>R c \/ G c) -> (match o,oy with | some w,some y=>Rep K Z' H' w.1 w.2 y G | none,none=>True | _,_=>False) -> (∀ c,R c -> ¬ G c) -> Step Z H (tot Fs) Z' H' (fun a=>tot Fs' a \/ G a) -> Q oy H') -> te σ2 H Q)
  {e:E} (he:∀ η,evE C e η = (evL C src η).bind (cT h k tg f)) (σ:L2.St) (H:Hp) (Q:VK) (hw:wE K sf C e σ H Q) :
  wI K sf C n k src σ H fun J H1=>∃ W:Nat -> Nat -> List V -> Hp -> Prop,(∃ m,W 0 m [] H1) /\ ∀ i m ys H,W i m ys H ->
   (J.stop i H /\ ys.length <= sizeLine /\ ∀ p,H p = none -> Q (.ref p) (upd H p (.lst ys))) \/
   (J.go i H /\ ys.length < sizeLine /\ ∀ x H',J.yld i H x H' -> gT K n x (List.replicate n none ++ a7 σ is) H' fun σ2 H2=>(σ2.length = n + (a7 σ is).length /\ σ2.drop n = a7 σ is) /\ te σ2 H2 fun oy H3=>∃ m',m' < m /\ W (i + 1) m' (ys ++ oy.toList) H3):=by
 obtain ⟨pv,Z,Fs,η,w,η',A,ev,kk⟩:=hw
 rw [he] at ev
 obtain ⟨⟨ws,η1⟩,h1,h2⟩:=aa ev
 obtain ⟨ts,us,ht,h3,h4⟩:=iE h2
 refine ⟨pv,Z,Fs,η,ws,η1,ts,A,h1,ht,fun J Z1 H1 Fs1 A1 s1 wk yl=>?_⟩
 obtain ⟨val,v1,A2,v2⟩:=(A1.dels (tg:=tg)).pin
 have s1':Step Z H (tot Fs) Z1 H1 (tot (cV Fs1 tg)):=s1.mono (fun _ z=>z) fun _ z=>bM z
 refine ⟨fun i m ys H=>m = ts.length - i /\ i <= ts.length /\ CSt K sf val σ tg f ts (ag tg η1) us η' Z1 H1 (tot (cV Fs1 tg)) i ys H,⟨ts.length,by simp,Nat.zero_le _,⟨⟨Z1,cV Fs1 tg,ag tg η1,[],no,A2,rfl,h3,fun j hj=>by rw [aD,if_pos hj],fun j hj a ha=>ha.1 hj,Nn.refl _,(Step.refl _ _ _).mono (fun _ z=>z) fun a ha=>ha.elim id fun z=>z.elim⟩,Nat.le_refl _⟩⟩,?_⟩
 rintro i m ys H0 ⟨rfl,hi,⟨⟨Zi,Fsi,ηi,acc,Ga,Ai,ra,hc,htg,hfp,hnn,si⟩,hlen⟩⟩
 have st:Stay Z1 H1 H0:=A2.gd.own.stay si
 have hL:=wk.len
 by_cases hlt:i < ts.length
 ·right
  refine ⟨wk.go H0 i st hlt,Nat.lt_of_le_of_lt (Nat.le_trans hlen hi) (jr hL),fun x H2 y=>?_⟩
  have hw:ts[i]? = some ts[i]:=by simp [hlt]
  rw [dA hw] at hc
  obtain ⟨ηb,o,ηc,hb,hfe,hc2⟩:=i5 hc
  refine lQ hn nd I si.zm st yl Ai htg hw hb y fun σ2 H3 A3 s3 hσ=>⟨hσ,?_⟩
  refine hte A3 hfe fun oy Z4 H4 Fs4 G4 A4 r4 d4 s4=>⟨ts.length - (i + 1),by omega,rfl,hlt,⟨?_,?_⟩⟩
  ·have ra3:RepW K Zi H3 acc ys Ga:=ra.frame bo s3 fun _ _ z=>z
   have ra4:RepW K Z4 H4 acc ys Ga:=ra3.frame A3.gd.own s4 A3.dis
   have vv:∀ j m t,rd (ag tg ηc) j = some (m,t) -> val j ≠ none:=fun j m t e=>by
    rw [aD] at e
    split at e
    ·cases e
    ·rename_i hj
     have n1:rd ηb j ≠ none:=fun z=>by rw [hf hfe j z] at e; cases e
     rw [eO hb j hj] at n1
     have n2:rd (ag tg η1) j ≠ none:=fun z=>n1 (hnn j z)
     cases e2:rd (ag tg η1) j with
     | none=>exact absurd e2 n2
     | some u=>exact v2 j u.1 u.2 e2
   have A5:=(A4.dels (tg:=tg)).outof (sf:=sf) (σ:=σ) (val:=val) (fun j hj=>by rw [aD,if_pos hj]) vv Ai.lk Ai.ln
   have s5:Step Z1 H1 (tot (cV Fs1 tg)) Z4 H4 (fun a=>tot (cV Fs4 tg) a \/ (Ga a \/ G4 a)):=by
    refine (si.trans (((s3.frame (fun a=>tot Fsi a \/ Ga a)).mono (fun a ha=>ha.elim (fun z=>z.elim) id) fun a ha=>.inr ha).trans (s4.frame Ga))).mono (fun _ z=>z) fun a ha=>?_
    rcases ha with z | z | z
    ·exact .inl (.inl (bM z))
    ·exact .inr z
    ·exact .inl (.inr z)
   refine ⟨Z4,cV Fs4 tg,ag tg ηc,acc ++ o.toList,fun c=>Ga c \/ G4 c,A5,?_,hc2,fun j hj=>by rw [aD,if_pos hj],fun j hj a ha=>ha.1 hj,fun j e=>?_,s5⟩
   ·cases o with
    | none =>
     cases oy with
     | none=>rw [Option.toList_none,Option.toList_none,List.append_nil,List.append_nil]; exact ra4.mono fun _ z=>.inl z
     | some _=>exact r4.elim
    | some w4 =>
     cases oy with
     | none=>exact r4.elim
     | some y4=>exact RepW.append (fun _ z=>.inl z) (fun _ z=>.inr z) d4 ra4 (RepW.one r4)
   ·have e':=hnn j e
    rw [aD]
    split
    ·rfl
    ·rename_i hj
     exact hf hfe j (by rw [eO hb j hj]; exact e')
  ·have:ys.length <= i:=hlen
   cases oy <;> simp <;> omega
 ·left
  have hi':i = ts.length:=by omega
  subst hi'
  rw [List.drop_length] at hc
  cases hc
  refine ⟨wk.stop H0 _ st (Nat.le_refl _),bz (Nat.le_trans hlen hL),m6 Ai.own Ai.gd.zal ra (Nat.le_trans hlen hL) h4 (ck (Ai.unpin v1) (s1'.trans si) kk)⟩
theorem c5 {n:Nat} {h:Bool} {k:Ik} {src:List E} {elt:E} (hn:tg.length = n) (nd:tg.Nodup) (I:fL sf sg tg is) (σ:L2.St) (H:Hp) (Q:VK) (hw:wE K sf C (.comp h k src tg none elt) σ H Q):gh n (wI K sf C n k src) is (gT K n) (wE K sg C elt) σ H Q:=by
 refine lT (te:=fun σ2 H Q=>wE K sg C elt σ2 H fun y H'=>Q (some y) H') hn nd I (fun {η o η'} hf=>?_) (fun {val σ2 Z H Fs η ηc R o Q} A hf k=>?_) (fun η=>rfl) σ H Q hw
 ·obtain ⟨⟨u,η4⟩,h7,h8⟩:=aa (show (evE C elt η).bind fH = _ from hf)
  cases h8
  exact au elt h7
 ·obtain ⟨⟨u,η4⟩,h7,h8⟩:=aa (show (evE C elt η).bind fH = _ from hf)
  cases h8
  exact mL A h7 fun v Z' H' Fs' G B r d s _=>k (some v) Z' H' Fs' G B r d s
end
end MR
namespace MR
open L2 L3 M
open PySem (Addr Str sizeLine)
section
variable {K:PySem.W.Frag} {sl:Cf} {sf sg:Nat -> Option Nat} {C:Call} {σ σ2:L2.St} {Z Z' Z1:Fp} {H H' H1:Hp} {Fs Fs' Fs1:Fps} {η η' η1 ηb:Env} {G G' G1 R F:Fp} {tg is:List Nat} {pv val:Nat -> Option V}
def lU (Fs:Fps) (i:Nat) (G:Fp):Fps:=fun j a=>(j = i /\ G a) \/ (j ≠ i /\ Fs j a)
theorem aU {i:Nat} {a:Addr} (h:tot (lU Fs i G) a):tot Fs a \/ G a:=by
 obtain ⟨j,h | h⟩:=h
 ·exact .inr h.2
 ·exact .inl ⟨j,h.2⟩
theorem At.put {i:Nat} {w:W} {x:V} (A:At K sl σ Z H Fs η G) (r:Rep K Z H w.1 w.2 x G1) (h1:∀ a,G1 a -> G a) (h2:∀ a,R a -> G a) (hd:∀ a,R a -> ¬ G1 a) (hl:∀ j,sl.sl i = some j -> σ[j]? = some (some x)) (hp:∀ u,sl.pv i = some u -> x = u) :
  At K sl σ Z H (lU Fs i G1) (M.put η i w) R:=by
 refine ⟨⟨fun a h=>(aU h).elim (A.gd.own a) fun q=>A.own a (h1 a q),fun j k a hj hk=>?_,A.gd.zal⟩,fun j m t e=>?_,fun a h=>A.own a (h2 a h),fun a h q=>(aU q).elim (A.dis a (h2 a h)) (hd a h),A.lk,A.ln⟩
 ·rcases hj with ⟨rfl,hj⟩ | ⟨nj,hj⟩
  ·rcases hk with ⟨rfl,_⟩ | ⟨nk,hk⟩
   ·rfl
   ·exact absurd ⟨k,hk⟩ (A.dis a (h1 a hj))
  ·rcases hk with ⟨rfl,hk⟩ | ⟨nk,hk⟩
   ·exact absurd ⟨j,hj⟩ (A.dis a (h1 a hk))
   ·exact A.gd.dis j k a hj hk
 ·rw [a6] at e
  split at e
  ·rename_i hc
   cases e
   obtain ⟨rfl,_⟩:=hc
   exact ⟨x,r.mono fun a h=>.inl ⟨rfl,h⟩,hl,hp⟩
  ·rename_i hc
   obtain ⟨v,r',h'⟩:=A.env j m t e
   by_cases hj:j = i
   ·subst hj
    exact absurd ⟨rfl,cH e⟩ hc
   ·exact ⟨v,r'.mono fun a h=>.inr ⟨hj,h⟩,h'⟩
def wA (K:PySem.W.Frag) (sl:Nat -> Option Nat) (C:Call) (es:List E):TA:=fun σ H Q=>∃ pv Z Fs η ws η',At K ⟨sl,pv⟩ σ Z H Fs η no /\ evA C es η = .ok (ws,η') /\
 ∀ vs Z' H' Fs' G,At K ⟨sl,pv⟩ σ Z' H' Fs' η' G -> RepW K Z' H' ws vs G -> Step Z H (tot Fs) Z' H' (fun a=>tot Fs' a \/ G a) -> (∀ (k i:Nat) (u:V),es[k]? = some (.io i) -> pv i = some u -> vs[k]? = some u) -> Q vs H'
theorem w5 (σ:L2.St) (H:Hp) (Q:List V -> Hp -> Prop) (h:wA K sf C [] σ H Q):wc σ H Q:=by
 obtain ⟨pv,Z,Fs,η,ws,η',A,ev,k⟩:=h
 cases ev
 exact k [] Z H Fs no A rfl ((Step.refl _ _ _).mono (fun _ z=>z) fun a ha=>ha.elim id fun z=>z.elim) fun k i u h _=>by simp at h
theorem BF {es:List E} {ws:List W} {Q:List V -> Hp -> Prop} (A:At K sl σ Z H Fs η R) (ev:evA C es η = .ok (ws,η'))
  (k:∀ vs Z' H' Fs' G,At K sl σ Z' H' Fs' η' (fun c=>R c \/ G c) -> RepW K Z' H' ws vs G -> (∀ c,R c -> ¬ G c) -> Step Z H (tot Fs) Z' H' (fun a=>tot Fs' a \/ G a) ->
   Step Z H (fun c=>tot Fs c \/ R c) Z' H' (fun c=>tot Fs' c \/ (R c \/ G c)) -> (∀ (k i:Nat) (u:V),es[k]? = some (.io i) -> sl.pv i = some u -> vs[k]? = some u) -> Q vs H'):wA K sl.sl C es σ H Q :=
 ⟨sl.pv,Z,Fs,η,ws,η',A.bare,ev,fun v Z' H' Fs' G B r s hio=>by
  obtain ⟨h1,h2,h3⟩:=A.frame B s
  exact k v Z' H' Fs' G h1 r h3 s h2 hio⟩
theorem oR {e:E} {es:List E} (he:∀ i,e ≠ .io i) (σ:L2.St) (H:Hp) (Q:List V -> Hp -> Prop) (h:wA K sf C (e :: es) σ H Q):ku (wE K sf C e) (wA K sf C es) σ H Q:=by
 obtain ⟨pv,Z,Fs,η,ws,η',A,ev,k⟩:=h
 obtain ⟨w,η1,us,h1,h2,rfl⟩:=da he ev
 refine mL A h1 fun x Z1 H1 Fs1 G1 A1 r1 _ s1 _=>?_
 have A1':=A1.mono (G':=G1) fun _ z=>.inr z
 refine BF A1' h2 fun xs Z2 H2 Fs2 G2 A2 r2 d2 s2 t2 hio=>?_
 refine k (x :: xs) Z2 H2 Fs2 _ A2 ⟨x,xs,G1,G2,rfl,fun _ z=>.inl z,fun _ z=>.inr z,d2,r1.frame A1.gd.own s2 A1'.dis,r2⟩ (s1.trans t2) fun k i u h hu=>?_
 cases k with
 | zero=>exact absurd (Option.some.inj h) (he i)
 | succ k=>exact hio k i u h hu
theorem lb {i j:Nat} {es:List E} (hs:sf i = some j) (σ:L2.St) (H:Hp) (Q:List V -> Hp -> Prop) (h:wA K sf C (.io i :: es) σ H Q):ku (lq j) (wA K sf C es) σ H Q:=by
 obtain ⟨pv,Z,Fs,η,ws,η',A,ev,k⟩:=h
 obtain ⟨us,η1,w,h1,h2,rfl,rfl⟩:=dQ ev
 obtain ⟨m,t⟩:=w
 cases e0:rd η i with
 | none=>rw [cJ es h1 i e0] at h2; cases h2
 | some w0 =>
  obtain ⟨v,_,hv⟩:=A.env i w0.1 w0.2 e0
  refine ⟨v,hv.1 j hs,pv,Z,Fs,η,us,η1,A,h1,fun xs Z2 H2 Fs2 G2 A2 r2 s2 hio=>?_⟩
  obtain ⟨v',r,hv'⟩:=A2.env i m t h2
  have ev':v' = v:=by
   have e1:=hv.1 j hs
   rw [hv'.1 j hs] at e1
   exact Option.some.inj (Option.some.inj e1)
  subst ev'
  have A3:At K ⟨sf,pv⟩ σ Z2 H2 (xo Fs2 i) (del η1 i) (fun a=>Fs2 i a \/ G2 a):=by
   refine ⟨⟨fun a ⟨l,h1,h2⟩=>A2.gd.own a ⟨l,h2⟩,fun l l' a h1 h2=>A2.gd.dis l l' a h1.2 h2.2,A2.gd.zal⟩,fun l m' t' e=>?_,fun a ha=>ha.elim (fun z=>A2.gd.own a ⟨i,z⟩) (A2.own a),fun a ha ⟨l,h1,h2⟩=>ha.elim (fun z=>h1 (A2.gd.dis l i a h2 z)) fun z=>A2.dis a z ⟨l,h2⟩,A2.lk,A2.ln⟩
   rw [a6] at e
   split at e
   ·cases e
   ·rename_i hne
    obtain ⟨v'',r',hv''⟩:=A2.env l m' t' e
    have hli:l ≠ i:=fun z=>hne ⟨z,cH h2⟩
    exact ⟨v'',r'.mono fun a ha=>⟨hli,ha⟩,hv''⟩
  refine k (v' :: xs) Z2 H2 (xo Fs2 i) _ A3 ⟨v',xs,Fs2 i,G2,rfl,fun _ z=>.inl z,fun _ z=>.inr z,fun a z y=>A2.dis a y ⟨i,z⟩,r,r2⟩ (s2.mono (fun _ z=>z) fun a ha=>?_) fun k i' u h hu=>?_
  ·rcases ha with ⟨l,_,z⟩ | z | z
   ·exact .inl ⟨l,z⟩
   ·exact .inl ⟨i,z⟩
   ·exact .inr z
  ·cases k with
   | zero=>cases h; rw [<- hv'.2 u hu]; rfl
   | succ k=>exact hio k i' u h hu
def atV (io:List Nat) (vs:List V):List V:=io.filterMap fun i=>vs[i]?
def spC (K:PySem.W.Frag) (C:Call) (f:Nat) (io:List Nat):List V -> Hp -> VK -> Prop:=fun vs H Q=>∃ Z ws G w bs,RepW K Z H ws vs G /\ Own Z H G /\ (∀ a,Z a -> H a ≠ none) /\ C f ws = .ok (w,bs) /\
 ∀ v Z' H' G1 G2,Rep K Z' H' w.1 w.2 v G1 -> RepW K Z' H' bs (atV io vs) G2 -> (∀ a,G1 a -> ¬ G2 a) -> Own Z' H' (fun a=>G1 a \/ G2 a) -> Step Z H G Z' H' (fun a=>G1 a \/ G2 a) -> Q v H'
def eY:List E -> Nat -> List Nat
 | [],_=>[]
 | .io _ :: es,n=>n :: eY es (n + 1)
 | _ :: es,n=>eY es (n + 1)
theorem tZ {vs:List V}:∀ {es:List E} {n:Nat},(∀ (k i:Nat) (u:V),es[k]? = some (.io i) -> pv i = some u -> vs[n + k]? = some u) -> (∀ i ∈ ios es,pv i ≠ none) -> (ios es).filterMap pv = atV (eY es n) vs
 | [],_,_,_=>rfl
 | e :: es,n,h,hv=>by
  have rest:(∀ i ∈ ios es,pv i ≠ none) -> (ios es).filterMap pv = atV (eY es (n + 1)) vs:=fun q=>tZ (fun k i u hk hu=>by have:=h (k + 1) i u hk hu; rw [show n + (k + 1) = n + 1 + k by omega] at this; exact this) q
  cases e with
  | io i =>
   cases hu:pv i with
   | none=>exact absurd hu (hv i (by simp [ios]))
   | some u =>
    have h0:=h 0 i u rfl hu
    rw [Nat.add_zero] at h0
    show (i :: ios es).filterMap pv = (n :: eY es (n + 1)).filterMap fun i=>vs[i]?
    rw [List.filterMap_cons,List.filterMap_cons,hu,h0]
    exact congrArg (u :: ·) (rest fun j hj=>hv j (by simp [ios,hj]))
  | _=>exact rest fun j hj=>hv j hj
theorem At.putAll:∀ {is:List Nat} {bs:List W} {Fs:Fps} {η:Env} {G2:Fp},At K ⟨sf,val⟩ σ Z H Fs η (fun a=>R a \/ G2 a) -> (∀ a,R a -> ¬ G2 a) -> RepW K Z H bs (is.filterMap val) G2 -> (∀ i ∈ is,val i ≠ none) -> ∃ Fs',At K ⟨sf,val⟩ σ Z H Fs' (M.putAll is bs η) R /\ ∀ a,tot Fs' a -> tot Fs a \/ G2 a
 | [],bs,Fs,η,G2,A,_,_,_=>⟨Fs,A.mono fun _ z=>.inl z,fun _ z=>.inl z⟩
 | i :: is,[],Fs,η,G2,A,_,_,_=>⟨Fs,A.mono fun _ z=>.inl z,fun _ z=>.inl z⟩
 | i :: is,b :: bs,Fs,η,G2,A,hd,r,hv=>by
  cases hu:val i with
  | none=>exact absurd hu (hv i List.mem_cons_self)
  | some u =>
   rw [List.filterMap_cons,hu] at r
   obtain ⟨x,r',A1,A2,e,a1,a2,ad,p,q⟩:=r
   cases e
   have B:=At.put (i:=i) (R:=fun a=>R a \/ A2 a) (G1:=A1) A p (fun a h=>.inr (a1 a h)) (fun a h=>h.imp id (a2 a)) (fun a h q=>h.elim (fun z=>hd a z (a1 a q)) fun z=>ad a q z) (fun j hj=>A.lk i u j hu hj) (fun u' hu'=>by rw [show val i = some u' from hu'] at hu; cases hu; rfl)
   obtain ⟨Fs',B1,B2⟩:=At.putAll (is:=is) (bs:=bs) B (fun a h q=>hd a h (a2 a q)) q fun j hj=>hv j (List.mem_cons_of_mem _ hj)
   exact ⟨Fs',B1,fun a h=>(B2 a h).elim (fun z=>(aU z).imp id (a1 a)) fun z=>.inr (a2 a z)⟩
theorem jR {f:Nat} {es:List E} {io:List Nat} (hio:eY es 0 = io \/ ios es = []) (σ:L2.St) (H:Hp) (Q:VK) (h:wE K sf C (.call f es) σ H Q):wA K sf C es σ H fun vs H1=>spC K C f io vs H1 Q:=by
 obtain ⟨pv,Z,Fs,η,w,η',A,ev,k⟩:=h
 obtain ⟨⟨ws,η1⟩,h1,h2⟩:=aa (show (evA C es η).bind (kCall C f (ios es)) = _ from ev)
 obtain ⟨⟨u,bs⟩,h3,h4⟩:=aa (show (C f ws).bind (kBack (ios es) η1) = _ from h2)
 cases h4
 obtain ⟨val,v1,A2,v2⟩:=A.pin
 have hvn:∀ i ∈ ios es,val i ≠ none:=fun i hi=>by
  cases e:rd η i with
  | none=>exact absurd e (eA es h1 i hi)
  | some q=>exact v2 i q.1 q.2 e
 refine ⟨val,Z,Fs,η,ws,η1,A2,h1,fun vs Z1 H1 Fs1 G B r s hv=>?_⟩
 refine ⟨Z1,ws,G,u,bs,r,B.own,B.gd.zal,h3,fun v Z2 H2 G1 G2 r1 r2 d o st=>?_⟩
 obtain ⟨B2,s2⟩:=B.op o st
 have fin:∃ Fs',At K ⟨sf,val⟩ σ Z2 H2 Fs' (M.putAll (ios es) bs η1) G1 /\ ∀ a,tot Fs' a -> tot Fs1 a \/ G2 a:=by
  rcases hio with e | e
  ·have e2:=tZ (pv:=val) (es:=es) (n:=0) (vs:=vs) (fun k i u' hk hu=>by rw [Nat.zero_add]; exact hv k i u' hk hu) hvn
   rw [e] at e2
   rw [<- e2] at r2
   exact At.putAll B2 d r2 hvn
  ·rw [e]
   exact ⟨Fs1,B2.mono fun _ z=>.inl z,fun _ z=>.inl z⟩
 obtain ⟨Fs',B3,hF⟩:=fin
 refine k v Z2 H2 Fs' G1 (B3.unpin v1) r1 ((s.trans s2).mono (fun _ z=>z) fun a ha=>?_)
 rcases ha with z | z
 ·exact (hF a z).imp id .inr
 ·exact .inr (.inl z)
end
end MR
namespace MR
open L2 L3 M
open PySem (Addr Str sizeLine)
section
variable {K:PySem.W.Frag} {sl:Cf} {sf sg:Nat -> Option Nat} {C:Call} {σ σ2:L2.St} {Z Z' Z1:Fp} {H H' H1:Hp} {Fs Fs' Fs1:Fps} {η η' η1 ηb:Env} {G G' G1 R F F':Fp} {tg is vs ls:List Nat} {pv val:Nat -> Option V}
theorem mX (o:Option W):toS (toS o) = toS o:=by
 cases o with
 | none=>rfl
 | some w=>rfl
theorem eE:∀ (vs:List Nat) (η:Env) (i:Nat),rd (share vs η) i = if i ∈ vs then toS (rd η i) else rd η i
 | [],η,i=>by simp [share]
 | v :: vs,η,i=>by
  show rd (share vs (wr η v (toS (rd η v)))) i = _
  rw [eE vs,a6]
  by_cases h2:i = v
  ·subst h2
   rw [if_pos (show i ∈ i :: vs from List.mem_cons_self)]
   by_cases hl:i < η.length
   ·rw [if_pos (show i = i /\ i < η.length from ⟨rfl,hl⟩)]
    split
    ·exact mX _
    ·rfl
   ·have e:rd η i = none:=by
     cases e:rd η i with
     | none=>rfl
     | some w=>exact absurd (cH e) hl
    rw [if_neg (show ¬ (i = i /\ i < η.length) from fun h=>hl h.2),e]
    split <;> rfl
  ·rw [if_neg (show ¬ (i = v /\ v < η.length) from fun h=>h2 h.1)]
   by_cases h1:i ∈ vs
   ·rw [if_pos h1,if_pos (List.mem_cons_of_mem _ h1)]
   ·rw [if_neg h1,if_neg (by simp [h1,h2])]
theorem ie:∀ (η:Env) (i:Nat),rd (ee η) i = none
 | [],_=>rfl
 | _ :: _,0=>rfl
 | _ :: η,i + 1=>ie η i
theorem jY:∀ (vs:List Nat) (η0 η:Env) (i:Nat) (w:W),rd (jA vs η0 η) i = some w -> rd η i = some w \/ (i ∈ vs /\ toS (rd η0 i) = some w)
 | [],_,_,_,_,h=>.inl h
 | v :: vs,η0,η,i,w,h=>by
  rcases jY vs η0 (wr η v (toS (rd η0 v))) i w h with e | e
  ·rw [a6] at e
   split at e
   ·rename_i hc; obtain ⟨rfl,_⟩:=hc; exact .inr ⟨List.mem_cons_self,e⟩
   ·exact .inl e
  ·exact .inr ⟨List.mem_cons_of_mem _ e.1,e.2⟩
theorem iD:∀ (vs:List Nat) (η0 η:Env) (i:Nat) (w:W),rd (eF vs η0 η) i = some w -> rd η i = some w \/ lfO (rd η0 i) = some w
 | [],_,_,_,_,h=>.inl h
 | v :: vs,η0,η,i,w,h=>by
  rcases iD vs η0 (wr η v (lfO (rd η0 v))) i w h with e | e
  ·rw [a6] at e
   split at e
   ·rename_i hc; obtain ⟨rfl,_⟩:=hc; exact .inr e
   ·exact .inl e
  ·exact .inr e
theorem sr {i:Nat} {w:W} (h:rd (pick vs ls η) i = some w):∃ m t,rd η i = some (m,t) /\ ((i ∈ vs /\ w = (.s,t)) \/ (t.leaf = true /\ w = (.d,t))):=by
 rcases iD ls η _ i w h with e | e
 ·rcases jY vs η _ i w e with e | ⟨hi,e⟩
  ·rw [ie] at e; cases e
  ·cases q:rd η i with
   | none=>rw [q] at e; cases e
   | some u=>rw [q] at e; cases e; exact ⟨u.1,u.2,rfl,.inl ⟨hi,rfl⟩⟩
 ·cases q:rd η i with
  | none=>rw [q] at e; cases e
  | some u =>
   rw [q] at e
   obtain ⟨m,t⟩:=u
   have e':(if t.leaf = true then some ((.d,t):W) else none) = some w:=e
   split at e'
   ·rename_i hl; cases e'; exact ⟨m,t,rfl,.inr ⟨hl,rfl⟩⟩
   ·cases e'
def bw (Fs:Fps) (vs:List Nat):Fp:=fun a=>∃ i,i ∈ vs /\ Fs i a
def kI:Fps:=fun _ _=>False
theorem bU {a:Addr} (h:bw Fs vs a):tot Fs a:=let ⟨i,_,h⟩:=h; ⟨i,h⟩
theorem d0 {a:Addr} (h:tot kI a):False:=let ⟨_,h⟩:=h; h
theorem At.quiet (A:At K sl σ Z H Fs η no):At K sl σ (fun a=>Z a \/ bw Fs vs a) H kI (pick vs ls η) no:=by
 refine ⟨⟨fun a h=>(d0 h).elim,fun _ _ _ h=>h.elim,fun a h=>h.elim (A.gd.zal a) fun q=>?_⟩,fun i m t e=>?_,bo,fun _ z=>z.elim,A.lk,A.ln⟩
 ·obtain ⟨_,xs,e⟩:=A.gd.own a (bU q)
  rw [e]; simp
 ·obtain ⟨m',t',e1,e2⟩:=sr e
  obtain ⟨v,r,h⟩:=A.env i m' t' e1
  rcases e2 with ⟨hi,e2⟩ | ⟨hl,e2⟩
  ·cases e2
   exact ⟨v,(r.sh.zmono fun a h=>h.imp id fun q=>⟨i,hi,q⟩).sany,h⟩
  ·cases e2
   exact ⟨v,r.leaf (fun _ _ _ q=>q) hl,h⟩
mutual
theorem Rep.dany:∀ {t:T} {v:V} {G:Fp},Rep K Z H .d t v G -> Rep K Z' H .d t v G
 | .non,_,_,h=>h
 | .bl _,_,_,h=>h
 | .int _,_,_,h=>h
 | .str _,_,_,h=>h
 | .scr _,_,_,h=>h
 | .tup ts,_,_,⟨a,xs,e,q,l,r⟩=>⟨a,xs,e,q,l,RepL.dany r⟩
 | .lst ts,_,_,⟨a,xs,e,l,q,r⟩=>⟨a,xs,e,l,q,RepL.dany r⟩
 | .dct _ _,_,_,h=>h.elim
 | .ins _ _ _,_,_,h=>h.elim
 | .gone,_,_,h=>h
theorem RepL.dany:∀ {ts:List T} {xs:List V} {G:Fp},RepL K Z H .d ts xs G -> RepL K Z' H .d ts xs G
 | [],_,_,h=>h
 | t :: ts,xs,_,⟨x,r,G1,G2,e,h1,h2,hd,p,q⟩=>⟨x,r,G1,G2,e,h1,h2,hd,Rep.dany p,RepL.dany q⟩
end
theorem b0 (A:At K sl σ Z H Fs η no) (B:Own Z' H' G) (zal:∀ a,Z' a -> H' a ≠ none) (s:Step (fun a=>Z a \/ bw Fs vs a) H F Z' H' (fun a=>F' a \/ G a)) (hF:∀ a,¬ F a) :
  At K sl σ (fun a=>Z' a /\ ¬ bw Fs vs a) H' Fs η G /\ Step Z H (tot Fs) (fun a=>Z' a /\ ¬ bw Fs vs a) H' (fun a=>tot Fs a \/ G a):=by
 have keep:∀ a o,H a = some o -> H' a = some o:=fun a o e=>s.keep a o e (hF a)
 have zz:∀ a,Z a -> Z' a /\ ¬ bw Fs vs a:=fun a h=>⟨s.zm a (.inl h),fun q=>(A.gd.own a (bU q)).1 h⟩
 have nz:∀ a,tot Fs a -> ¬ (Z' a /\ ¬ bw Fs vs a):=fun a h q=>by
  obtain ⟨nz,xs,e⟩:=A.gd.own a h
  rcases s.zn a q.1 with z | z | z
  ·exact z.elim nz q.2
  ·exact hF a z
  ·rw [e] at z; cases z
 have gd:∀ a,G a -> ¬ tot Fs a:=fun a h q=>by
  obtain ⟨_,xs,e⟩:=A.gd.own a q
  rcases s.fn a (.inr h) with z | z
  ·exact hF a z
  ·rw [e] at z; cases z
 refine ⟨⟨⟨fun a h=>?_,A.gd.dis,fun a h=>zal a h.1⟩,fun i m t e=>?_,fun a h=>⟨fun q=>(B a h).1 q.1,(B a h).2⟩,gd,A.lk,A.ln⟩,⟨fun a o e _=>keep a o e,zz,fun a h=>?_,fun a h=>?_,s.al,fun _ a h=>zal a h.1⟩⟩
 ·obtain ⟨_,xs,e⟩:=A.gd.own a h
  exact ⟨nz a h,xs,keep a _ e⟩
 ·obtain ⟨v,r,h⟩:=A.env i m t e
  refine ⟨v,r.keep ⟨fun a o _ e=>keep a o e,fun a xs e=>?_,fun a o u e=>keep a _ e⟩ zz fun a o _ e=>keep a o e,h⟩
  rcases e with e | ⟨u,e⟩
  ·exact .inl (keep a _ e)
  ·exact .inr ⟨u,keep a _ e⟩
 ·rcases s.zn a h.1 with z | z | z
  ·exact z.elim .inl fun q=>absurd q h.2
  ·exact (hF a z).elim
  ·exact .inr (.inr z)
 ·rcases h with h | h
  ·exact .inl h
  ·exact (s.fn a (.inr h)).elim (fun z=>(hF a z).elim) .inr
theorem At.share (A:At K sl σ Z H Fs η G):At K sl σ (fun a=>Z a \/ bw Fs vs a) H (cV Fs vs) (M.share vs η) G /\ ∀ {Z0 H0 F0},Step Z0 H0 F0 Z H (fun a=>tot Fs a \/ G a) -> Step Z0 H0 F0 (fun a=>Z a \/ bw Fs vs a) H (fun a=>tot (cV Fs vs) a \/ G a):=by
 refine ⟨⟨⟨fun a h=>?_,fun i j a h1 h2=>A.gd.dis i j a h1.2 h2.2,fun a h=>h.elim (A.gd.zal a) fun q=>?_⟩,fun i m t e=>?_,fun a h=>⟨fun z=>z.elim (A.own a h).1 fun q=>A.dis a h (bU q),(A.own a h).2⟩,fun a h q=>A.dis a h (bM q),A.lk,A.ln⟩,fun {Z0 H0 F0} s=>⟨s.keep,fun a h=>.inl (s.zm a h),fun a h=>h.elim (s.zn a) fun q=>.inr (s.fn a (.inl (bU q))),fun a h=>s.fn a (h.imp bM id),s.al,fun z a h=>h.elim (s.za z a) fun q=>?_⟩⟩
 ·obtain ⟨i,hi,h'⟩:=h
  obtain ⟨nz,xs,e⟩:=A.gd.own a ⟨i,h'⟩
  exact ⟨fun z=>z.elim nz fun ⟨j,hj,q⟩=>hi (A.gd.dis i j a h' q ▸ hj),xs,e⟩
 ·obtain ⟨_,xs,e⟩:=A.gd.own a (bU q)
  rw [e]; simp
 ·rw [eE] at e
  split at e
  ·rename_i hi
   cases q:rd η i with
   | none=>rw [q] at e; cases e
   | some u =>
    rw [q] at e; cases e
    obtain ⟨v,r,h⟩:=A.env i u.1 u.2 q
    exact ⟨v,(r.sh.zmono fun a h=>h.imp id fun q=>⟨i,hi,q⟩).sany,h⟩
  ·rename_i hi
   obtain ⟨v,r,h⟩:=A.env i m t e
   exact ⟨v,(r.zmono fun a h=>.inl h).mono fun a h=>⟨hi,h⟩,h⟩
 ·obtain ⟨_,xs,e⟩:=A.gd.own a (bU q)
  rw [e]; simp
theorem jo {x:X} {e:E} {w:W} {Q:VK} (A:At K sl σ Z H Fs η no) (ev:evX C x e η = .ok (w,η')) (k:∀ v Z' H' Fs' G,At K sl σ Z' H' Fs' η' G -> Rep K Z' H' w.1 w.2 v G -> Step Z H (tot Fs) Z' H' (fun a=>tot Fs' a \/ G a) -> Q v H'):wE K sl.sl C e σ H Q:=by
 cases x with
 | q vs ls =>
  obtain ⟨⟨u,η2⟩,h1,h2⟩:=aa (show (evE C e (pick vs ls η)).bind (kX vs η) = _ from ev)
  cases h2
  generalize hm0:M.lf u.1 u.2 = m0 at k
  refine ⟨sl.pv,_,kI,_,_,η2,A.quiet (vs:=vs) (ls:=ls),h1,fun v Z' H' Fs' G B r0 s=>?_⟩
  have r:=r0.lf
  rw [hm0] at r
  obtain ⟨B1,s1⟩:=b0 A B.own B.gd.zal s fun a h=>d0 h
  have other:Q v H' \/ m0 = .d:=by
   by_cases hd:m0 = .d
   ·exact .inr hd
   ·refine .inl ?_
    have e':after m0 vs η = share vs η:=by
     cases hm:m0 with
     | d=>exact absurd hm hd
     | s=>rfl
     | o m=>rfl
    obtain ⟨B2,s2⟩:=B1.share (vs:=vs)
    have zz:∀ a,(Z' a /\ ¬ bw Fs vs a) \/ bw Fs vs a -> Z' a:=fun a h=>h.elim And.left fun q=>s.zm a (.inr q)
    have zz':∀ a,Z' a -> (Z' a /\ ¬ bw Fs vs a) \/ bw Fs vs a:=fun a h=>(Classical.em (bw Fs vs a)).elim .inr fun q=>.inl ⟨h,q⟩
    exact k v _ H' _ G (e' ▸ B2) (r.zmono zz') (s2 s1)
  rcases other with q | hd
  ·exact q
  ·have e':after m0 vs η = η:=by rw [hd]; rfl
   refine k v _ H' Fs G (e'.symm ▸ B1) ?_ s1
   subst hd
   exact r.dany
 | l vs =>
  obtain ⟨B,s0⟩:=A.share (vs:=vs)
  have s1:=s0 ((Step.refl Z H (tot Fs)).mono (F2:=fun a=>tot Fs a \/ no a) (fun _ z=>z) fun a h=>h.elim id fun z=>z.elim)
  refine ⟨sl.pv,_,_,_,w,η',B,ev,fun v Z' H' Fs' G B' r s=>k v Z' H' Fs' G B' r ((s1.mono (fun _ z=>z) fun a h=>.inl h).trans s)⟩
theorem BE {x:X} {e:E} {b:Bool} {Q:Bool -> Hp -> Prop} (A:At K sl σ Z H Fs η no) (ev:evT C x e η = .ok (b,η')) (k:∀ Z' H' Fs',At K sl σ Z' H' Fs' η' no -> Step Z H (tot Fs) Z' H' (tot Fs') -> Q b H'):wT K sl.sl C e σ H Q:=by
 cases x with
 | q vs ls =>
  obtain ⟨⟨u,η2⟩,h1,h2⟩:=aa (show (evE C e (pick vs ls η)).bind (kT η) = _ from ev)
  obtain ⟨b',h3,e3⟩:=aq (show ret η (truth u.2) = _ from h2)
  cases e3
  refine ⟨sl.pv,_,kI,_,u,η2,b,A.quiet (vs:=vs) (ls:=ls),h1,h3,fun Z' H' Fs' B s=>?_⟩
  obtain ⟨B1,s1⟩:=b0 (G:=no) A bo B.gd.zal (s.mono (F2:=fun a=>tot Fs' a \/ no a) (fun _ z=>z) fun a h=>h.elim id fun z=>z.elim) fun a h=>d0 h
  exact k _ H' Fs B1 (s1.mono (fun _ z=>z) fun a h=>.inl h)
 | l vs =>
  obtain ⟨⟨u,η2⟩,h1,h2⟩:=aa (show (evE C e (M.share vs η)).bind kT2 = _ from ev)
  obtain ⟨b',h3,e3⟩:=aq (show ret η2 (truth u.2) = _ from h2)
  cases e3
  obtain ⟨B,s0⟩:=A.share (vs:=vs)
  have s1:=s0 ((Step.refl Z H (tot Fs)).mono (F2:=fun a=>tot Fs a \/ no a) (fun _ z=>z) fun a h=>h.elim id fun z=>z.elim)
  exact ⟨sl.pv,_,_,_,u,_,b,B,h1,h3,fun Z' H' Fs' B' s=>k Z' H' Fs' B' ((s1.mono (fun _ z=>z) fun a h=>.inl h).trans s)⟩
end
end MR
namespace MR
open L2 L3 M
open PySem (Addr Str sizeLine)
section
variable {K:PySem.W.Frag} {sl:Cf} {sf sg:Nat -> Option Nat} {C:Call} {σ σ2:L2.St} {Z Z' Z1:Fp} {H H' H1:Hp} {Fs Fs' Fs1:Fps} {η η' η1 ηb:Env} {G G' G1 R F F':Fp} {tg is vs ls io:List Nat} {pv val:Nat -> Option V} {D:br}
def Fin (K:PySem.W.Frag) (sl:Cf) (Z:Fp) (H:Hp) (F:Fp) (D:br):Fl -> Prop
 | .nx η'=>∀ σ' Z' H' Fs',At K sl σ' Z' H' Fs' η' no -> Step Z H F Z' H' (tot Fs') -> D.nx σ' H'
 | .rt w η'=>∀ v σ' Z' H' Fs' G,At K sl σ' Z' H' Fs' η' G -> Rep K Z' H' w.1 w.2 v G -> Step Z H F Z' H' (fun a=>tot Fs' a \/ G a) -> D.rt v H'
 | .bk η'=>∀ σ' Z' H' Fs',At K sl σ' Z' H' Fs' η' no -> Step Z H F Z' H' (tot Fs') -> D.bk σ' H'
 | _=>False
theorem Fin.step {fl:Fl} (s:Step Z H F Z1 H1 F') (h:Fin K sl Z H F D fl):Fin K sl Z1 H1 F' D fl:=by
 cases fl with
 | nx η=>exact fun σ' Z' H' Fs' A t=>h σ' Z' H' Fs' A (s.trans t)
 | rt w η=>exact fun v σ' Z' H' Fs' G A r t=>h v σ' Z' H' Fs' G A r (s.trans t)
 | bk η=>exact fun σ' Z' H' Fs' A t=>h σ' Z' H' Fs' A (s.trans t)
 | _=>exact h.elim
structure kL (sf:Nat -> Option Nat) (io:List Nat) (pv:Nat -> Option V):Prop where
 inj:∀ i i' j,sf i = some j -> sf i' = some j -> i = i'
 io:∀ i,i ∉ io -> pv i = none
def wS (K:PySem.W.Frag) (sf:Nat -> Option Nat) (io:List Nat) (C:Call) (st:S):TS:=fun D σ H=>∃ pv Z Fs η,kL sf io pv /\ At K ⟨sf,pv⟩ σ Z H Fs η no /\ Fin K ⟨sf,pv⟩ Z H (tot Fs) D (evS C st η)
def wSs (K:PySem.W.Frag) (sf:Nat -> Option Nat) (io:List Nat) (C:Call) (st:List S):TS:=fun D σ H=>∃ pv Z Fs η,kL sf io pv /\ At K ⟨sf,pv⟩ σ Z H Fs η no /\ Fin K ⟨sf,pv⟩ Z H (tot Fs) D (evSs C st η)
theorem pG (D:br) (σ:L2.St) (H:Hp) (h:wSs K sf io C [] D σ H):tY D σ H:=by
 obtain ⟨pv,Z,Fs,η,N,A,f⟩:=h
 exact f σ Z H Fs A (Step.refl _ _ _)
theorem oN {s:S} {r:List S} (D:br) (σ:L2.St) (H:Hp) (h:wSs K sf io C (s :: r) D σ H):zE (wS K sf io C s) (wSs K sf io C r) D σ H:=by
 obtain ⟨pv,Z,Fs,η,N,A,f⟩:=h
 refine ⟨pv,Z,Fs,η,N,A,?_⟩
 have f':Fin K ⟨sf,pv⟩ Z H (tot Fs) D (Fl.seq (evS C s η) (evSs C r)):=f
 cases e:evS C s η with
 | nx η1 =>
  rw [e] at f'
  exact fun σ' Z' H' Fs' A' t=>⟨pv,Z',Fs',η1,N,A',f'.step t⟩
 | rt w η1=>rw [e] at f'; exact f'
 | bk η1=>rw [e] at f'; exact f'
 | ex c x η1=>rw [e] at f'; exact f'.elim
 | no=>rw [e] at f'; exact f'.elim
theorem r9 {s:S} (D:br) (σ:L2.St) (H:Hp) (h:wSs K sf io C [s] D σ H):wS K sf io C s D σ H:=by
 obtain ⟨pv,Z,Fs,η,N,A,f⟩:=h
 refine ⟨pv,Z,Fs,η,N,A,?_⟩
 have f':Fin K ⟨sf,pv⟩ Z H (tot Fs) D (Fl.seq (evS C s η) (evSs C [])):=f
 cases e:evS C s η with
 | nx η1=>rw [e] at f'; exact f'
 | rt w η1=>rw [e] at f'; exact f'
 | bk η1=>rw [e] at f'; exact f'
 | ex c x η1=>rw [e] at f'; exact f'.elim
 | no=>rw [e] at f'; exact f'.elim
theorem aT {α:Type} {r:Res α} {g:α -> Fl} (f:Fin K sl Z H F D (Fl.of η r g)):∃ a,r = .ok a /\ Fin K sl Z H F D (g a):=by
 cases r with
 | ok a=>exact ⟨a,rfl,f⟩
 | ex c x=>exact f.elim
 | no=>exact f.elim
theorem fZ {o:Option Env} (f:Fin K sl Z H F D (nxO η o)):∃ η',o = some η' /\ Fin K sl Z H F D (.nx η'):=by
 cases o with
 | some a=>exact ⟨a,rfl,f⟩
 | none=>exact f.elim
theorem At.setR {i j:Nat} {w:W} {x:V} (N:kL sf io pv) (hi:i ∉ io) (hs:sf i = some j) (A:At K ⟨sf,pv⟩ σ Z H Fs η G) (r:Rep K Z H w.1 w.2 x G1) (q1:∀ a,G1 a -> G a) (q2:∀ a,R a -> G a) (q3:∀ a,R a -> ¬ G1 a):At K ⟨sf,pv⟩ (σ.set j (some x)) Z H (lU Fs i G1) (M.put η i w) R:=by
 have hj:j < σ.length:=A.ln i j hs
 have B:At K ⟨fun k=>if k = i then none else sf k,pv⟩ (σ.set j (some x)) Z H Fs (M.del η i) G:=by
  refine ⟨A.gd,fun l m t e=>?_,A.own,A.dis,fun l u k hu hk=>?_,fun l k hk=>?_⟩
  ·rw [a6] at e
   split at e
   ·cases e
   ·rename_i hne
    obtain ⟨v,r',h1,h2⟩:=A.env l m t e
    have hl:l ≠ i:=fun z=>hne ⟨z,by rw [<- z]; exact cH e⟩
    refine ⟨v,r',fun k hk=>?_,h2⟩
    have hk':sf l = some k:=by have:(if l = i then none else sf l) = some k:=hk; rw [if_neg hl] at this; exact this
    have hjk:j ≠ k:=fun z=>hl (N.inj l i k hk' (by rw [<- z]; exact hs))
    rw [List.getElem?_set_ne hjk]
    exact h1 k hk'
  ·have hl:l ≠ i:=fun z=>by
    have hu':pv l = some u:=hu
    rw [z,N.io i hi] at hu'; cases hu'
   have hk':sf l = some k:=by have:(if l = i then none else sf l) = some k:=hk; rw [if_neg hl] at this; exact this
   have hjk:j ≠ k:=fun z=>hl (N.inj l i k hk' (by rw [<- z]; exact hs))
   rw [List.getElem?_set_ne hjk]
   exact A.lk l u k hu hk'
  ·have hk':sf l = some k:=by
    have:(if l = i then none else sf l) = some k:=hk
    split at this
    ·cases this
    ·exact this
   rw [List.length_set]
   exact A.ln l k hk'
 have B2:=At.put (i:=i) (w:=w) (G1:=G1) (R:=R) B r q1 q2 q3 (fun k hk=>by have hk':(if i = i then none else sf i) = some k:=hk; rw [if_pos rfl] at hk'; cases hk') (fun u hu=>by have:=N.io i hi; rw [show pv i = some u from hu] at this; cases this)
 have e1:M.put (M.del η i) i w = M.put η i w:=by
  have:∀ (η:Env) (i:Nat) (a b:Option W),wr (wr η i a) i b = wr η i b:=fun η=>by
   induction η with
   | nil=>intro i a b; rfl
   | cons o η ih=>intro i a b; cases i with
    | zero=>rfl
    | succ i=>show o :: wr (wr η i a) i b = o :: wr η i b; rw [ih]
  exact this η i none (some w)
 rw [e1] at B2
 refine ⟨B2.gd,fun l m t e=>?_,B2.own,B2.dis,fun l u k hu hk=>?_,fun l k hk=>by rw [List.length_set]; exact A.ln l k hk⟩
 ·obtain ⟨v,r',h1,h2⟩:=B2.env l m t e
  by_cases hl:l = i
  ·subst hl
   rw [a6] at e
   split at e
   ·cases e
    refine ⟨x,r.mono fun a h=>.inl ⟨rfl,h⟩,fun k hk=>?_,fun u hu=>by have:=N.io l hi; rw [show pv l = some u from hu] at this; cases this⟩
    have:k = j:=by rw [show sf l = some k from hk] at hs; cases hs; rfl
    subst this
    rw [List.getElem?_set_self hj]
   ·rename_i hc
    exact absurd ⟨rfl,cH e⟩ hc
  ·refine ⟨v,r',fun k hk=>h1 k ?_,h2⟩
   show (if l = i then none else sf l) = some k
   rw [if_neg hl]; exact hk
 ·by_cases hl:l = i
  ·subst hl
   have:=N.io l hi
   rw [show pv l = some u from hu] at this; cases this
  ·exact B2.lk l u k hu (show (if l = i then none else sf l) = some k by rw [if_neg hl]; exact hk)
theorem At.set {i j:Nat} {w:W} {x:V} (N:kL sf io pv) (hi:i ∉ io) (hs:sf i = some j) (A:At K ⟨sf,pv⟩ σ Z H Fs η G) (r:Rep K Z H w.1 w.2 x G):At K ⟨sf,pv⟩ (σ.set j (some x)) Z H (lU Fs i G) (M.put η i w) no:=At.setR N hi hs A r (fun _ h=>h) (fun _ z=>z.elim) (fun _ z=>z.elim)
theorem iV {x:X} {i j:Nat} {e:E} (hi:i ∉ io) (hs:sf i = some j) (D:br) (σ:L2.St) (H:Hp) (h:wS K sf io C (.asg x i e) D σ H):ng (wE K sf C e) (bJ j) D σ H:=by
 obtain ⟨pv,Z,Fs,η,N,A,f⟩:=h
 obtain ⟨⟨w,η1⟩,h1,h2⟩:=aT (show Fin K ⟨sf,pv⟩ Z H (tot Fs) D (Fl.of η (evX C x e η) (rk i)) from f)
 refine jo (sl:=⟨sf,pv⟩) A h1 fun v Z' H' Fs' G B r s=>?_
 exact h2 _ Z' H' _ (At.set N hi hs B r) (s.mono (fun _ z=>z) fun a ha=>aU ha)
theorem vJ {x:X} {e:E} (D:br) (σ:L2.St) (H:Hp) (h:wS K sf io C (.exp x e) D σ H):ug (wE K sf C e) D σ H:=by
 obtain ⟨pv,Z,Fs,η,N,A,f⟩:=h
 obtain ⟨⟨w,η1⟩,h1,h2⟩:=aT (show Fin K ⟨sf,pv⟩ Z H (tot Fs) D (Fl.of η (evX C x e η) kNx) from f)
 exact jo (sl:=⟨sf,pv⟩) A h1 fun v Z' H' Fs' G B r s=>h2 σ Z' H' Fs' B.bare (s.mono (fun _ z=>z) fun a ha=>.inl ha)
theorem xG {e:E} (D:br) (σ:L2.St) (H:Hp) (h:wS K sf io C (.ret vs e) D σ H):Ak (wE K sf C e) D σ H:=by
 obtain ⟨pv,Z,Fs,η,N,A,f⟩:=h
 obtain ⟨⟨w,η1⟩,h1,h2⟩:=aT (show Fin K ⟨sf,pv⟩ Z H (tot Fs) D (Fl.of η (evE C e (M.share vs η)) kRt) from f)
 exact jo (sl:=⟨sf,pv⟩) (x:=.l vs) A h1 fun v Z' H' Fs' G B r s=>h2 v σ Z' H' Fs' G B r s
theorem xc (D:br) (σ:L2.St) (H:Hp) (h:wS K sf io C .brk D σ H):oM D σ H:=by
 obtain ⟨pv,Z,Fs,η,N,A,f⟩:=h
 exact f σ Z H Fs A (Step.refl _ _ _)
theorem vq {x:X} {c:E} {a b:List S} (D:br) (σ:L2.St) (H:Hp) (h:wS K sf io C (.ite x c a b) D σ H):zR (wT K sf C c) (wSs K sf io C a) (wSs K sf io C b) D σ H:=by
 obtain ⟨pv,Z,Fs,η,N,A,f⟩:=h
 obtain ⟨⟨k,η1⟩,h1,h2⟩:=aT (show Fin K ⟨sf,pv⟩ Z H (tot Fs) D (Fl.of η (evT C x c η) (kIf (evSs C a) (evSs C b))) from f)
 refine BE (sl:=⟨sf,pv⟩) A h1 fun Z' H' Fs' B s=>?_
 cases k with
 | true=>rw [if_pos rfl]; exact ⟨pv,Z',Fs',η1,N,B,Fin.step s h2⟩
 | false=>rw [if_neg Bool.false_ne_true]; exact ⟨pv,Z',Fs',η1,N,B,Fin.step s h2⟩
theorem jW {m:Md} {ts:List T} {v:V} (hm:m ≠ .s) (r:Rep K Z H m (.lst ts) v G):∃ a xs,v = .ref a /\ xs.length <= LIM /\ G a /\ H a = some (.lst xs) /\ RepL K Z H m.kid ts xs (fun b=>G b /\ b ≠ a):=by
 obtain ⟨a,xs,e,l,q,p⟩:=r
 rw [LstR.own hm] at q
 exact ⟨a,xs,e,l,q.1,q.2,p⟩
theorem pX {i:Nat} {a:Addr} {ts':List T} {xs':List V} {m':Md} (hm:m' ≠ .s) (A:At K ⟨sf,pv⟩ σ Z H Fs η G) {w0:W} (hi:rd η i = some w0) (ha:Fs i a) (hx:∀ j,sf i = some j -> σ[j]? = some (some (.ref a))) (hl:xs'.length <= LIM) (hpv:∀ u,pv i = some u -> V.ref a = u)
  (hg:∀ b,G' b -> (Fs i b \/ G b) /\ b ≠ a) (hR:∀ b,R b -> (Fs i b \/ G b) /\ b ≠ a) (hRG:∀ b,R b -> ¬ G' b) (p:RepL K (fun b=>Z b \/ ((Fs i b \/ G b) /\ b ≠ a /\ ¬ G' b /\ ¬ R b)) H m'.kid ts' xs' G') {Q:Hp -> Prop}
  (k:∀ Z' Fs',At K ⟨sf,pv⟩ σ Z' (upd H a (.lst xs')) Fs' (M.put η i (m',.lst ts')) R -> Step Z H (fun b=>tot Fs b \/ G b) Z' (upd H a (.lst xs')) (fun b=>tot Fs' b \/ R b) -> (∀ {m t v},Rep K (fun b=>Z b \/ ((Fs i b \/ G b) /\ b ≠ a /\ ¬ G' b /\ ¬ R b)) H m t v R -> Rep K Z' (upd H a (.lst xs')) m t v R) -> Q (upd H a (.lst xs'))):Q (upd H a (.lst xs')):=by
 have hta:tot Fs a:=⟨i,ha⟩
 obtain ⟨nza,ys,hya⟩:=A.gd.own a hta
 have nGa:¬ G a:=fun q=>A.dis a q hta
 have zdef:∀ b,(Z b \/ ((Fs i b \/ G b) /\ b ≠ a /\ ¬ G' b /\ ¬ R b)) -> b ≠ a:=fun b h z=>by
  subst z
  rcases h with h | h
  ·exact nza h
  ·exact h.2.1 rfl
 have keep:∀ b o,H b = some o -> b ≠ a -> upd H a (.lst xs') b = some o:=fun b o e hb=>by rw [ab hb]; exact e
 have neT:∀ b xs,H b = some (.tup xs) -> b ≠ a:=fun b xs e z=>by rw [z,hya] at e; cases e
 have neF:∀ b o u,H b = some (.frz o u) -> b ≠ a:=fun b o u e z=>by rw [z,hya] at e; cases e
 have stay:∀ {Y:Fp},(∀ b,Y b -> b ≠ a) -> Stay Y H (upd H a (.lst xs')):=fun {Y} hY=>⟨fun b o hb e=>keep b o e (hY b hb),fun b xs e=>by
  rcases e with e | ⟨u,e⟩
  ·exact .inl (keep b _ e (neT b xs e))
  ·exact .inr ⟨u,keep b _ e (neF b u _ e)⟩,fun b o u e=>keep b _ e (neF b o u e)⟩
 have al:∀ b,H b ≠ none -> upd H a (.lst xs') b ≠ none:=fun b h=>by
  by_cases e:b = a
  ·rw [e,af]; simp
  ·rw [ab e]; exact h
 have zal':∀ b,(Z b \/ ((Fs i b \/ G b) /\ b ≠ a /\ ¬ G' b /\ ¬ R b)) -> H b ≠ none:=fun b h=>by
  rcases h with h | ⟨h | h,_⟩
  ·exact A.gd.zal b h
  ·obtain ⟨_,zs,e⟩:=A.gd.own b ⟨i,h⟩; rw [e]; simp
  ·obtain ⟨_,zs,e⟩:=A.own b h; rw [e]; simp
 have listAt:∀ b,(tot Fs b \/ G b) -> ∃ zs,upd H a (.lst xs') b = some (.lst zs):=fun b h=>by
  by_cases e:b = a
  ·exact ⟨xs',by rw [e,af]⟩
  ·rcases h with h | h
   ·obtain ⟨_,zs,q⟩:=A.gd.own b h; exact ⟨zs,by rw [ab e]; exact q⟩
   ·obtain ⟨_,zs,q⟩:=A.own b h; exact ⟨zs,by rw [ab e]; exact q⟩
 have nZ:∀ b,(Fs i b \/ G b) -> ¬ Z b:=fun b h z=>h.elim (fun y=>(A.gd.own b ⟨i,y⟩).1 z) fun y=>(A.own b y).1 z
 have cN:∀ b,tot (lU Fs i fun b=>G' b \/ b = a) b -> (∃ j,j ≠ i /\ Fs j b) \/ G' b \/ b = a:=fun b h=>by
  obtain ⟨j,h | h⟩:=h
  ·exact .inr h.2
  ·exact .inl ⟨j,h⟩
 refine k (fun b=>Z b \/ ((Fs i b \/ G b) /\ b ≠ a /\ ¬ G' b /\ ¬ R b)) (lU Fs i fun b=>G' b \/ b = a) ⟨⟨fun b h=>⟨fun z=>?_,?_⟩,fun j l b hj hk=>?_,fun b h=>al b (zal' b h)⟩,fun l m t e=>?_,fun b h=>⟨fun z=>?_,listAt b ((hR b h).1.imp (fun z=>⟨i,z⟩) id)⟩,fun b h q=>?_,A.lk,A.ln⟩ ⟨fun b o e n=>keep b o e fun z=>n (.inl (z ▸ hta)),fun b h=>.inl h,fun b h=>h.imp id fun q=>.inl (q.1.imp (fun z=>⟨i,z⟩) id),fun b h=>?_,al,fun _ b h=>al b (zal' b h)⟩ fun {m t v} r=>r.keep (stay zdef) (fun _ z=>z) fun b o hb e=>keep b o e (hR b hb).2
 ·rcases cN b h with ⟨j,hj,q⟩ | q | q
  ·rcases z with z | ⟨z | z,_⟩
   ·exact (A.gd.own b ⟨j,q⟩).1 z
   ·exact hj (A.gd.dis j i b q z)
   ·exact A.dis b z ⟨j,q⟩
  ·rcases z with z | z
   ·exact nZ b (hg b q).1 z
   ·exact z.2.2.1 q
  ·exact zdef b z q
 ·rcases cN b h with ⟨j,hj,q⟩ | q | q
  ·exact listAt b (.inl ⟨j,q⟩)
  ·exact listAt b ((hg b q).1.imp (fun z=>⟨i,z⟩) id)
  ·exact ⟨xs',by rw [q,af]⟩
 ·have key:∀ {j:Nat},(G' b \/ b = a) -> Fs j b -> j = i:=fun {j} h q=>by
   rcases h with h | h
   ·rcases (hg b h).1 with y | y
    ·exact A.gd.dis j i b q y
    ·exact absurd ⟨j,q⟩ (A.dis b y)
   ·rw [h] at q; exact A.gd.dis j i a q ha
  rcases hj with ⟨rfl,hj⟩ | ⟨nj,hj⟩
  ·rcases hk with ⟨rfl,_⟩ | ⟨nk,hk⟩
   ·rfl
   ·exact absurd (key hj hk) nk
  ·rcases hk with ⟨rfl,hk⟩ | ⟨nk,hk⟩
   ·exact absurd (key hk hj) nj
   ·exact A.gd.dis j l b hj hk
 ·rw [a6] at e
  split at e
  ·rename_i hc
   obtain ⟨rfl,_⟩:=hc
   cases e
   refine ⟨.ref a,⟨a,xs',rfl,hl,(LstR.own hm).mpr ⟨.inl ⟨rfl,.inr rfl⟩,af⟩,?_⟩,hx,hpv⟩
   exact (p.keep (stay zdef) (fun _ z=>z) fun b o hb e=>keep b o e (hg b hb).2).mono fun b hb=>⟨.inl ⟨rfl,.inl hb⟩,(hg b hb).2⟩
  ·rename_i hc
   have hl':l ≠ i:=fun z=>hc ⟨z,cH hi⟩
   obtain ⟨v,r,h⟩:=A.env l m t e
   have nea:∀ b,Fs l b -> b ≠ a:=fun b q z=>hl' (A.gd.dis l i a (z ▸ q) ha)
   exact ⟨v,((r.keep (stay fun b hb z=>nza (z ▸ hb)) (fun _ z=>z) fun b o hb e=>keep b o e (nea b hb)).zmono fun b h=>.inl h).mono fun b h=>.inr ⟨hl',h⟩,h⟩
 ·rcases z with z | z
  ·exact nZ b (hR b h).1 z
  ·exact z.2.2.2 h
 ·rcases cN b q with ⟨j,hj,y⟩ | y | y
  ·rcases (hR b h).1 with z | z
   ·exact hj (A.gd.dis j i b y z)
   ·exact A.dis b z ⟨j,y⟩
  ·exact hRG b h y
  ·exact (hR b h).2 y
 ·rcases h with h | h
  ·rcases cN b h with ⟨j,_,q⟩ | q | q
   ·exact .inl (.inl ⟨j,q⟩)
   ·exact .inl ((hg b q).1.imp (fun z=>⟨i,z⟩) id)
   ·exact .inl (.inl (q ▸ hta))
  ·exact .inl ((hR b h).1.imp (fun z=>⟨i,z⟩) id)
theorem change {i:Nat} {a:Addr} {ts':List T} {xs':List V} {m':Md} (hm:m' ≠ .s) (A:At K ⟨sf,pv⟩ σ Z H Fs η G) {w0:W} (hi:rd η i = some w0) (ha:Fs i a) (hx:∀ j,sf i = some j -> σ[j]? = some (some (.ref a))) (hl:xs'.length <= LIM) (hpv:∀ u,pv i = some u -> V.ref a = u)
  (hg:∀ b,G' b -> (Fs i b \/ G b) /\ b ≠ a) (p:RepL K (fun b=>Z b \/ ((Fs i b \/ G b) /\ b ≠ a /\ ¬ G' b)) H m'.kid ts' xs' G') {Q:Hp -> Prop}
  (k:∀ Z' Fs',At K ⟨sf,pv⟩ σ Z' (upd H a (.lst xs')) Fs' (M.put η i (m',.lst ts')) no -> Step Z H (fun b=>tot Fs b \/ G b) Z' (upd H a (.lst xs')) (tot Fs') -> Q (upd H a (.lst xs'))):Q (upd H a (.lst xs')) :=
 pX (R:=no) hm A hi ha hx hl hpv hg (fun _ z=>z.elim) (fun _ z=>z.elim) (p.zmono fun b h=>h.imp id fun q=>⟨q.1,q.2.1,q.2.2,fun z=>z⟩) fun Z' Fs' B s _=>k Z' Fs' B (s.mono (fun _ z=>z) fun _ z=>.inl z)
end
end MR
namespace MR
open L2 L3 M
open PySem (Addr Str sizeLine)
section
variable {K:PySem.W.Frag} {sl:Cf} {sf sg:Nat -> Option Nat} {C:Call} {σ σ2:L2.St} {Z Z' Z1:Fp} {H H' H1:Hp} {Fs Fs' Fs1:Fps} {η η' η1 ηb:Env} {G G' G1 R F F':Fp} {tg is vs ls io:List Nat} {pv val:Nat -> Option V} {D:br}
theorem iB {o:Option W} {u:Unit} (h:eR o = .ok u):∃ m ts,o = some (m,.lst ts):=by
 cases o with
 | none=>cases h
 | some w =>
  obtain ⟨m,t⟩:=w
  cases t with
  | lst ts=>exact ⟨m,ts,rfl⟩
  | _=>cases h
theorem At.listAt {i j:Nat} {m:Md} {ts:List T} (hs:sf i = some j) (A:At K ⟨sf,pv⟩ σ Z H Fs η G) (h:rd η i = some (m,.lst ts)):∃ a xs,σ[j]? = some (some (.ref a)) /\ H a = some (.lst xs):=by
 obtain ⟨v,r,hl,_⟩:=A.env i m _ h
 obtain ⟨a,xs,rfl,hx,_⟩:=bp r
 exact ⟨a,xs,hl j hs,hx⟩
theorem At.ourList {i j:Nat} {a:Addr} {m:Md} {ts:List T} (hs:sf i = some j) (hm:m ≠ .s) (hj:σ[j]? = some (some (.ref a))) (A:At K ⟨sf,pv⟩ σ Z H Fs η G) (h:rd η i = some (m,.lst ts)) :
  ∃ xs,xs.length <= LIM /\ Fs i a /\ H a = some (.lst xs) /\ RepL K Z H m.kid ts xs (fun b=>Fs i b /\ b ≠ a) /\ (∀ u,pv i = some u -> V.ref a = u):=by
 obtain ⟨v,r,hl,hp⟩:=A.env i m _ h
 have e:=hl j hs
 rw [hj] at e
 cases e
 obtain ⟨b,xs,e,l,g,hx,p⟩:=jW hm r
 cases e
 exact ⟨xs,l,g,hx,p,hp⟩
theorem nX {u w r:W} (h:fm u w = some r):∃ m ts,u = (m,.lst ts) /\ m ≠ .s /\ ts.length < LIM /\ r = ((m.kid.meet (lf w.1 w.2)).up,.lst (ts ++ [w.2])):=by
 obtain ⟨m,t⟩:=u
 obtain ⟨n,t'⟩:=w
 cases m with
 | s=>cases h
 | d =>
  cases t with
  | lst ts =>
   have h':(if ts.length < LIM then some ((((Md.d.kid.meet (lf n t')).up,.lst (ts ++ [t'])):W)) else none) = some r:=h
   split at h'
   ·rename_i hl; cases h'; exact ⟨.d,ts,rfl,by simp,hl,rfl⟩
   ·cases h'
  | _=>cases h
 | o m =>
  cases t with
  | lst ts =>
   have h':(if ts.length < LIM then some (((((Md.o m).kid.meet (lf n t')).up,.lst (ts ++ [t'])):W)) else none) = some r:=h
   split at h'
   ·rename_i hl; cases h'; exact ⟨.o m,ts,rfl,by simp,hl,rfl⟩
   ·cases h'
  | _=>cases h
theorem pF {u w r:W} (h:fk u w = some r):∃ m ts n us,u = (m,.lst ts) /\ w = (n,.lst us) /\ m ≠ .s /\ ts.length + us.length <= LIM /\ r = ((m.kid.meet n.kid).up,.lst (ts ++ us)):=by
 obtain ⟨m,t⟩:=u
 obtain ⟨n,t'⟩:=w
 cases m with
 | s=>cases h
 | d =>
  cases t with
  | lst ts =>
   cases t' with
   | lst us =>
    have h':(if ts.length + us.length <= LIM then some ((((Md.d.kid.meet n.kid).up,.lst (ts ++ us)):W)) else none) = some r:=h
    split at h'
    ·rename_i hl; cases h'; exact ⟨.d,ts,n,us,rfl,rfl,by simp,hl,rfl⟩
    ·cases h'
   | _=>cases h
  | _=>cases h
 | o m =>
  cases t with
  | lst ts =>
   cases t' with
   | lst us =>
    have h':(if ts.length + us.length <= LIM then some (((((Md.o m).kid.meet n.kid).up,.lst (ts ++ us)):W)) else none) = some r:=h
    split at h'
    ·rename_i hl; cases h'; exact ⟨.o m,ts,n,us,rfl,rfl,by simp,hl,rfl⟩
    ·cases h'
   | _=>cases h
  | _=>cases h
theorem mQ {u k w r:W} (h:cN u k w = some r):∃ m ts n j q,u = (m,.lst ts) /\ k = (n,.int j) /\ m ≠ .s /\ M.ixN ts.length j = some q /\ r = ((m.kid.meet (lf w.1 w.2)).up,.lst (ts.set q w.2)):=by
 obtain ⟨m,t⟩:=u
 obtain ⟨n,t'⟩:=k
 cases m with
 | s=>cases h
 | d =>
  cases t with
  | lst ts =>
   cases t' with
   | int j =>
    have h':(M.ixN ts.length j).map (fun k=>(((Md.d.kid.meet (lf w.1 w.2)).up,.lst (ts.set k w.2)):W)) = some r:=h
    cases e:M.ixN ts.length j with
    | none=>rw [e] at h'; cases h'
    | some q=>rw [e] at h'; cases h'; exact ⟨.d,ts,n,j,q,rfl,rfl,by simp,e,rfl⟩
   | _=>cases h
  | _=>cases h
 | o m =>
  cases t with
  | lst ts =>
   cases t' with
   | int j =>
    have h':(M.ixN ts.length j).map (fun k=>((((Md.o m).kid.meet (lf w.1 w.2)).up,.lst (ts.set k w.2)):W)) = some r:=h
    cases e:M.ixN ts.length j with
    | none=>rw [e] at h'; cases h'
    | some q=>rw [e] at h'; cases h'; exact ⟨.o m,ts,n,j,q,rfl,rfl,by simp,e,rfl⟩
   | _=>cases h
  | _=>cases h
theorem oO {a:Addr} {m:Md} {ts:List T} {xs:List V} {w:W} {y:V} {A0:Fp} (hA:∀ b,A0 b -> b ≠ a) (hG:∀ b,G b -> b ≠ a) (d:∀ b,A0 b -> ¬ G b) (p:RepL K Z H m ts xs A0) (r:Rep K Z H w.1 w.2 y G) :
  ∃ G',(∀ b,G' b -> (A0 b \/ G b) /\ b ≠ a) /\ RepL K (fun b=>Z b \/ ((A0 b \/ G b) /\ b ≠ a /\ ¬ G' b)) H (m.meet (lf w.1 w.2)) (ts ++ [w.2]) (xs ++ [y]) G':=by
 obtain ⟨G',g1,g2⟩:=dg (G:=fun b=>A0 b \/ G b) (fun _ z=>.inl z) (fun _ z=>.inr z) d p (RepL.one r.lf)
 have ne:∀ b,(A0 b \/ G b) -> b ≠ a:=fun b h=>h.elim (hA b) (hG b)
 exact ⟨G',fun b h=>⟨g1 b h,ne b (g1 b h)⟩,g2.zmono fun b h=>h.imp id fun q=>⟨q.1,ne b q.1,q.2⟩⟩
theorem vN {x:X} {i j:Nat} {e:E} (hs:sf i = some j) (D:br) (σ:L2.St) (H:Hp) (h:wS K sf io C (.app x i e) D σ H) :
  ∃ a xs,σ[j]? = some (some (.ref a)) /\ H a = some (.lst xs) /\ wE K sf C e σ H fun y H1=>∃ xs,H1 a = some (.lst xs) /\ xs.length < sizeLine /\ D.nx σ (upd H1 a (.lst (xs ++ [y]))):=by
 obtain ⟨pv,Z,Fs,η,N,A,f⟩:=h
 obtain ⟨u,h0,h1⟩:=aT (show Fin K ⟨sf,pv⟩ Z H (tot Fs) D (Fl.of η (eR (rd η i)) (jk (evX C x e) η (oY i))) from f)
 obtain ⟨m0,t0,h00⟩:=iB h0
 obtain ⟨a,xs0,hj,ha⟩:=A.listAt hs h00
 obtain ⟨⟨w,η1⟩,h2,h3⟩:=aT (show Fin K ⟨sf,pv⟩ Z H (tot Fs) D (Fl.of η (evX C x e η) (oY i)) from h1)
 obtain ⟨η2,h4,h5⟩:=fZ (show Fin K ⟨sf,pv⟩ Z H (tot Fs) D (nxO η1 (((rd η1 i).bind fun u=>fm u w).map fun u=>M.put η1 i u)) from h3)
 refine ⟨a,xs0,hj,ha,jo (sl:=⟨sf,pv⟩) A h2 fun y Z' H' Fs' G B r s=>?_⟩
 cases e1:rd η1 i with
 | none=>rw [e1] at h4; cases h4
 | some u1 =>
  rw [e1] at h4
  cases e2:fm u1 w with
  | none=>rw [show (some u1).bind (fun u=>fm u w) = fm u1 w from rfl,e2] at h4; cases h4
  | some r1 =>
   rw [show (some u1).bind (fun u=>fm u w) = fm u1 w from rfl,e2] at h4
   cases h4
   obtain ⟨m,ts,rfl,hm,hlen,rfl⟩:=nX e2
   obtain ⟨xs,hl,hf,hx,p,hpv⟩:=B.ourList hs hm hj e1
   have e3:=p.length
   obtain ⟨G',g1,g2⟩:=oO (a:=a) (fun b h=>h.2) (fun b h z=>B.dis b h ⟨i,z ▸ hf⟩) (fun b h q=>B.dis b q ⟨i,h.1⟩) p r
   refine ⟨xs,hx,jr hl,?_⟩
   refine change (K:=K) (m':=(m.kid.meet (lf w.1 w.2)).up) (bx _) B e1 hf (fun k hk=>by rw [show sf i = some k from hk] at hs; cases hs; exact hj) (by rw [List.length_append,e3,List.length_singleton]; omega) hpv (fun b h=>⟨(g1 b h).1.imp And.left id,(g1 b h).2⟩) (ts':=ts ++ [w.2]) (by rw [b7]; exact g2.zmono fun b h=>h.imp id fun q=>⟨q.1.imp And.left id,q.2⟩) fun Z2 Fs2 B2 s2=>h5 σ Z2 _ Fs2 B2 (s.trans s2)
theorem wJ {x:X} {i j:Nat} {e:E} (hs:sf i = some j) (D:br) (σ:L2.St) (H:Hp) (h:wS K sf io C (.ext x i e) D σ H) :
  ∃ a xs,σ[j]? = some (some (.ref a)) /\ H a = some (.lst xs) /\ wE K sf C e σ H fun y H1=>∃ b xs zs,y = .ref b /\ H1 a = some (.lst xs) /\ H1 b = some (.lst zs) /\ xs.length + zs.length <= sizeLine /\ D.nx σ (upd H1 a (.lst (xs ++ zs))):=by
 obtain ⟨pv,Z,Fs,η,N,A,f⟩:=h
 obtain ⟨u,h0,h1⟩:=aT (show Fin K ⟨sf,pv⟩ Z H (tot Fs) D (Fl.of η (eR (rd η i)) (jk (evX C x e) η (pf i))) from f)
 obtain ⟨m0,t0,h00⟩:=iB h0
 obtain ⟨a,xs0,hj,ha⟩:=A.listAt hs h00
 obtain ⟨⟨w,η1⟩,h2,h3⟩:=aT (show Fin K ⟨sf,pv⟩ Z H (tot Fs) D (Fl.of η (evX C x e η) (pf i)) from h1)
 obtain ⟨η2,h4,h5⟩:=fZ (show Fin K ⟨sf,pv⟩ Z H (tot Fs) D (nxO η1 (((rd η1 i).bind fun u=>fk u w).map fun u=>M.put η1 i u)) from h3)
 refine ⟨a,xs0,hj,ha,jo (sl:=⟨sf,pv⟩) A h2 fun y Z' H' Fs' G B r s=>?_⟩
 cases e1:rd η1 i with
 | none=>rw [e1] at h4; cases h4
 | some u1 =>
  rw [e1] at h4
  cases e2:fk u1 w with
  | none=>rw [show (some u1).bind (fun u=>fk u w) = fk u1 w from rfl,e2] at h4; cases h4
  | some r1 =>
   rw [show (some u1).bind (fun u=>fk u w) = fk u1 w from rfl,e2] at h4
   cases h4
   obtain ⟨m,ts,n,us,rfl,rfl,hm,hlen,rfl⟩:=pF e2
   obtain ⟨xs,hl,hf,hx,p,hpv⟩:=B.ourList hs hm hj e1
   obtain ⟨b,zs,rfl,hb,hl2,p2⟩:=bp r
   have e3:=p.length
   have e4:=p2.length
   have hG:∀ b,G b -> b ≠ a:=fun b h z=>B.dis b h ⟨i,z ▸ hf⟩
   obtain ⟨G',g1,g2⟩:=dg (G:=fun b=>(Fs' i b /\ b ≠ a) \/ G b) (fun _ z=>.inl z) (fun _ z=>.inr z) (fun b h q=>B.dis b q ⟨i,h.1⟩) p p2
   have ne:∀ b,((Fs' i b /\ b ≠ a) \/ G b) -> b ≠ a:=fun b h=>h.elim And.right (hG b)
   refine ⟨b,xs,zs,rfl,hx,hb,bz (by omega),?_⟩
   refine change (K:=K) (m':=(m.kid.meet n.kid).up) (bx _) B e1 hf (fun k hk=>by rw [show sf i = some k from hk] at hs; cases hs; exact hj) (by rw [List.length_append]; omega) hpv (fun b h=>⟨(g1 b h).imp And.left id,ne b (g1 b h)⟩) (ts':=ts ++ us) (by rw [b7]; exact g2.zmono fun b h=>h.imp id fun q=>⟨q.1.imp And.left id,ne b q.1,q.2⟩) fun Z2 Fs2 B2 s2=>h5 σ Z2 _ Fs2 B2 (s.trans s2)
theorem RepL.setAt:∀ {ts:List T} {xs:List V} {A0 G0 G:Fp} {q:Nat} {t:T} {y:V} {m:Md},(∀ b,A0 b -> G b) -> (∀ b,G0 b -> G b) -> (∀ b,A0 b -> ¬ G0 b) -> RepL K Z H m ts xs A0 -> Rep K Z H m t y G0 -> RepL K Z H m (ts.set q t) (xs.set q y) G
 | [],xs,A0,G0,G,q,t,y,m,w1,w2,d,h,r=>by rw [show xs = [] from h]; exact rfl
 | u :: ts,xs,A0,G0,G,0,t,y,m,w1,w2,d,⟨x,r',A,B,e,h1,h2,hd,p,q⟩,r=>by
  rw [e]
  exact ⟨y,r',G0,B,rfl,w2,fun a h=>w1 a (h2 a h),fun a h q=>d a (h2 a q) h,r,q⟩
 | u :: ts,xs,A0,G0,G,n + 1,t,y,m,w1,w2,d,⟨x,r',A,B,e,h1,h2,hd,p,q⟩,r=>by
  rw [e]
  refine ⟨x,r'.set n y,A,fun a=>B a \/ G0 a,rfl,fun a h=>w1 a (h1 a h),fun a h=>h.elim (fun z=>w1 a (h2 a z)) (w2 a),fun a h q=>q.elim (hd a h) (d a (h1 a h)),p,?_⟩
  exact RepL.setAt (fun _ z=>.inl z) (fun _ z=>.inr z) (fun b h=>d b (h2 b h)) q r
theorem eI (vs:List Nat) (η:Env):Nn η (M.share vs η):=fun i e=>by
 rw [eE]; split
 ·rw [e]; rfl
 ·exact e
theorem vd {x:X} {e:E} {w:W} (h:evX C x e η = .ok (w,η')):Nn η η':=by
 cases x with
 | q vs ls =>
  obtain ⟨⟨u,η2⟩,h1,h2⟩:=aa (show (evE C e (pick vs ls η)).bind (kX vs η) = _ from h)
  cases h2
  show Nn η (after (M.lf u.1 u.2) vs η)
  cases hm:M.lf u.1 u.2 with
  | d=>intro i e; exact e
  | s=>exact eI vs η
  | o m=>exact eI vs η
 | l vs=>exact (eI vs η).trans (au e h)
theorem qm {x:X} {i j:Nat} {k e:E} (hs:sf i = some j) (D:br) (σ:L2.St) (H:Hp) (h:wS K sf io C (.setI x i k e) D σ H) :
  wE K sf C e σ H fun y H1=>lq j σ H1 fun o H1=>wE K sf C k σ H1 fun z H2=>∃ a xs n q,o = .ref a /\ z = .int n /\ H2 a = some (.lst xs) /\ L2.ixN xs.length n = some q /\ D.nx σ (upd H2 a (.lst (xs.set q y))):=by
 obtain ⟨pv,Z,Fs,η,N,A,f⟩:=h
 obtain ⟨⟨w,η1⟩,h2,h3⟩:=aT (show Fin K ⟨sf,pv⟩ Z H (tot Fs) D (Fl.of η (evX C x e η) (qT i (evX C x k) η)) from f)
 obtain ⟨⟨kw,η2⟩,h6,h7⟩:=aT (show Fin K ⟨sf,pv⟩ Z H (tot Fs) D (Fl.of η (evX C x k η1) (l5 i w)) from h3)
 obtain ⟨η3,h4,h5⟩:=fZ (show Fin K ⟨sf,pv⟩ Z H (tot Fs) D (nxO η2 (((rd η2 i).bind fun u=>cN u kw w).map fun u=>M.put η2 i u)) from h7)
 refine jo (sl:=⟨sf,pv⟩) A h2 fun y Z' H' Fs' G B r s=>?_
 cases e1:rd η2 i with
 | none=>rw [e1] at h4; cases h4
 | some u1 =>
  rw [e1] at h4
  cases e2:cN u1 kw w with
  | none=>rw [show (some u1).bind (fun u=>cN u kw w) = cN u1 kw w from rfl,e2] at h4; cases h4
  | some r1 =>
   rw [show (some u1).bind (fun u=>cN u kw w) = cN u1 kw w from rfl,e2] at h4
   cases h4
   obtain ⟨m,ts,n,jj,q,rfl,rfl,hm,hq,rfl⟩:=mQ e2
   have n1:rd η1 i ≠ none:=fun z=>by rw [vd h6 i z] at e1; cases e1
   cases e3:rd η1 i with
   | none=>exact absurd e3 n1
   | some u3 =>
    obtain ⟨v3,r3,l3,p3⟩:=B.env i u3.1 u3.2 e3
    refine ⟨v3,l3 j hs,jo (sl:=⟨sf,pv⟩) B.bare h6 fun z Z2 H2 Fs2 G2 B2 rz s2=>?_⟩
    obtain ⟨B3,s3,d3⟩:=B.frame B2 s2
    have r':=r.frame B.gd.own s2 B.dis
    have B4:=B3.mono (G':=G) fun _ z=>.inl z
    obtain ⟨v4,r4,l4,p4⟩:=B4.env i m _ e1
    have hv:v3 = v4:=by have e5:=l3 j hs; have e6:=l4 j hs; rw [e5] at e6; cases e6; rfl
    subst hv
    obtain ⟨a,xs,rfl,hl,hf,hx,p⟩:=jW hm r4
    have e7:=p.length
    obtain ⟨A1,a1,a2⟩:=RepL.weak (bY m.kid (lf w.1 w.2)).1 p
    obtain ⟨A2,b1,b2⟩:=Rep.weak (bY m.kid (lf w.1 w.2)).2 r'.lf
    have dis:∀ b,(Fs2 i b /\ b ≠ a) -> ¬ G b:=fun b h q=>B4.dis b q ⟨i,h.1⟩
    have hG:∀ b,G b -> b ≠ a:=fun b h z=>B4.dis b h ⟨i,z ▸ hf⟩
    refine ⟨a,xs,jj,q,rfl,show z = _ from rz,hx,by rw [e7]; exact hq,?_⟩
    refine change (K:=K) (G':=fun b=>A1 b \/ A2 b) (m':=(m.kid.meet (lf w.1 w.2)).up) (bx _) B4 e1 hf (fun k hk=>by rw [show sf i = some k from hk] at hs; cases hs; exact l3 _ hk) (by rw [List.length_set]; exact hl) p4 (fun b h=>h.elim (fun z=>⟨.inl (a1 b z).1,(a1 b z).2⟩) fun z=>⟨.inr (b1 b z),hG b (b1 b z)⟩) (ts':=ts.set q w.2) ?_ fun Z5 Fs5 B5 s5=>h5 σ Z5 _ Fs5 B5 ((s.trans (s3.mono (fun _ z=>z) fun b h=>h.imp id .inl)).trans s5)
    rw [b7]
    refine RepL.setAt (A0:=A1) (G0:=A2) (fun _ z=>.inl z) (fun _ z=>.inr z) (fun b h q=>dis b (a1 b h) (b1 b q)) (a2.zmono fun b h=>?_) (b2.zmono fun b h=>?_)
    ·exact h.imp id fun q=>⟨.inl q.1.1,q.1.2,fun z=>z.elim q.2 fun z=>dis b q.1 (b1 b z)⟩
    ·exact h.imp id fun q=>⟨.inr q.1,hG b q.1,fun z=>z.elim (fun z=>dis b (a1 b z) q.1) q.2⟩
end
end MR
namespace MR
open L2 L3 M
open PySem (Addr Str sizeLine)
section
variable {K:PySem.W.Frag} {sl:Cf} {sf sg:Nat -> Option Nat} {C:Call} {σ σ2:L2.St} {Z Z' Z1:Fp} {H H' H1:Hp} {Fs Fs' Fs1:Fps} {η η' η1 ηb:Env} {G G' G1 R F F':Fp} {tg is vs ls io:List Nat} {pv val:Nat -> Option V} {D:br}
def gF (K:PySem.W.Frag):List Nat -> TG
 | [j]=>bJ j
 | [j,l]=>sZ K 2 (dD (bJ j) (dD (bJ l) sD))
 | _=>fun _ _ _ _=>False
theorem pA {fl:Fl} {g:Env -> Fl} (f:Fin K sl Z H F D (Fl.turn fl g)):(∃ η',fl = .nx η' /\ Fin K sl Z H F D (g η')) \/ (∃ η',fl = .bk η' /\ Fin K sl Z H F D (.nx η')) \/ (∃ w η',fl = .rt w η' /\ Fin K sl Z H F D (.rt w η')):=by
 cases fl with
 | nx η=>exact .inl ⟨η,rfl,f⟩
 | bk η=>exact .inr (.inl ⟨η,rfl,f⟩)
 | rt w η=>exact .inr (.inr ⟨w,η,rfl,f⟩)
 | ex c x η=>exact f.elim
 | no=>exact f.elim
theorem il {fl:Fl} {g:Env -> Fl} {N:L2.St -> Hp -> Prop} (f:Fin K sl Z H F D (Fl.turn fl g)) (hN:∀ η' σ' Z' H' Fs',fl = .nx η' -> Fin K sl Z H F D (g η') -> At K sl σ' Z' H' Fs' η' no -> Step Z H F Z' H' (tot Fs') -> N σ' H'):Fin K sl Z H F { D with nx:=N,ct:=N,bk:=D.nx } fl:=by
 rcases pA f with ⟨η',rfl,f⟩ | ⟨η',rfl,f⟩ | ⟨w,η',rfl,f⟩
 ·exact fun σ' Z' H' Fs' A s=>hN η' σ' Z' H' Fs' rfl f A s
 ·exact f
 ·exact f
theorem m8 {n i:Nat} {J:It} {ts:List (List W)} {ws:List W} {js:List Nat} {x:V} {Q:L2.St -> Hp -> Prop} (hn:tg.length = n) (nd:tg.Nodup) (N:kL sf io pv) (hio:∀ t ∈ tg,t ∉ io) (hjs:tg.map sf = js.map some) (hz:∀ a,Z1 a -> Z a) (st:Stay Z1 H1 H) (yl:Yld K J Z1 H1 ts n) (A:At K ⟨sf,pv⟩ σ Z H Fs η no)
  (hw:ts[i]? = some ws) (hb:bindT tg ws η = some ηb) (y:J.yld i H x H') (k:∀ σ2 H2 Fs2,At K ⟨sf,pv⟩ σ2 Z H2 Fs2 ηb no -> Step Z H (tot Fs) Z H2 (tot Fs2) -> Q σ2 H2):gF K js x σ H' Q:=by
 have hi:i < ts.length:=(List.getElem?_eq_some_iff.mp hw).1
 match n,yl with
 | 1,yl =>
  obtain ⟨e0,w,hw',r⟩:=yl H i x H' st hi y
  rw [e0]
  rw [hw] at hw'; cases hw'
  match tg,hn,js,hjs with
  | [t],_,[j],hjs =>
   cases hb
   have hs:sf t = some j:=by simpa using hjs
   exact k _ H _ (At.set N (hio t (by simp)) hs A (r.zmono hz)) ((Step.refl _ _ _).mono (fun _ z=>z) fun a h=>(aU h).elim id fun z=>z.elim)
  | [t],_,[],hjs=>simp at hjs
  | [t],_,_ :: _ :: _,hjs=>simp at hjs
 | 2,yl =>
  obtain ⟨p,y1,z1,u,w,rfl,sm,hq,hw',r1,r2⟩:=yl H i x H' st hi y
  rw [hw] at hw'; cases hw'
  match tg,hn,js,hjs with
  | [t,t'],_,[j,j'],hjs =>
   cases hb
   have hs:sf t = some j:=by simp at hjs; exact hjs.1
   have hs':sf t' = some j':=by simp at hjs; exact hjs.2
   have s0:Step Z H no Z H' no:=cP sm
   obtain ⟨A1,s1⟩:=A.op bo s0
   have sn:Stay Z H H':=eh sm
   have r1':Rep K Z H' u.1 u.2 y1 no:=(r1.zmono hz).keep sn (fun _ z=>z) fun _ _ z=>z.elim
   have r2':Rep K Z H' w.1 w.2 z1 no:=(r2.zmono hz).keep sn (fun _ z=>z) fun _ _ z=>z.elim
   have A2:=At.set N (hio t (by simp)) hs A1 r1'
   have A3:=At.set N (hio t' (by simp)) hs' A2 r2'
   refine ⟨p,[y1,z1],rfl,hq,rfl,y1,[z1],rfl,z1,[],rfl,rfl,k _ _ _ A3 (s1.mono (fun a h=>h.elim id fun z=>z.elim) fun a h=>?_)⟩
   rcases aU h with h | h
   ·exact .inl ((aU h).elim id fun z=>z.elim)
   ·exact h.elim
  | [t,t'],_,[],hjs=>simp at hjs
  | [t,t'],_,[_],hjs=>simp at hjs
  | [t,t'],_,_ :: _ :: _ :: _,hjs=>simp at hjs
theorem vf {n:Nat} {k:Ik} {src:List E} {js:List Nat} {body:List S} (hn:tg.length = n) (nd:tg.Nodup) (hio:∀ t ∈ tg,t ∉ io) (hjs:tg.map sf = js.map some) (D:br) (σ:L2.St) (H:Hp) (h:wS K sf io C (.forS vs ls k src tg body) D σ H) :
  uH (wI K sf C n k src) (gF K js) (wSs K sf io C body) D σ H:=by
 obtain ⟨pv,Z,Fs,η,N,A,f⟩:=h
 obtain ⟨⟨ws,η2⟩,h1,h2⟩:=aT (show Fin K ⟨sf,pv⟩ Z H (tot Fs) D (Fl.of η (evL C src (pick vs ls η)) (kFor vs k tg (evSs C body) η)) from f)
 obtain ⟨⟨ts,η3⟩,h3,h4⟩:=aT (show Fin K ⟨sf,pv⟩ Z H (tot Fs) D (Fl.of η (ret (M.share vs η) (turns k ws)) (kFor2 tg (evSs C body))) from h2)
 obtain ⟨ts',ht,e3⟩:=aq h3
 have e4:ts = ts':=congrArg Prod.fst e3
 have e5:η3 = M.share vs η:=congrArg Prod.snd e3
 subst e4 e5
 have h4':Fin K ⟨sf,pv⟩ Z H (tot Fs) D (forL tg (evSs C body) ts (M.share vs η)):=h4
 refine ⟨pv,_,kI,_,ws,η2,ts,A.quiet (vs:=vs) (ls:=ls),h1,ht,fun J Z1 H1 Fs1 B s wk yl=>?_⟩
 obtain ⟨B1,s1⟩:=b0 (G:=no) A bo B.gd.zal (s.mono (F2:=fun a=>tot Fs1 a \/ no a) (fun _ z=>z) fun a h=>h.elim id fun z=>z.elim) fun a h=>d0 h
 obtain ⟨B2,s2⟩:=B1.share (vs:=vs)
 have s3:=(s2 s1).mono (F2:=tot (cV Fs vs)) (fun _ z=>z) fun _ z=>.inl z
 have zz:∀ a,Z1 a -> ((Z1 a /\ ¬ bw Fs vs a) \/ bw Fs vs a):=fun a h=>(Classical.em (bw Fs vs a)).elim .inr fun q=>.inl ⟨h,q⟩
 refine ⟨fun i m σ' H'=>m = ts.length - i /\ i <= ts.length /\ ∃ Zi Fsi ηi,At K ⟨sf,pv⟩ σ' Zi H' Fsi ηi no /\ Step (fun a=>(Z1 a /\ ¬ bw Fs vs a) \/ bw Fs vs a) H1 (tot (cV Fs vs)) Zi H' (tot Fsi) /\ Fin K ⟨sf,pv⟩ Zi H' (tot Fsi) D (forL tg (evSs C body) (ts.drop i) ηi),⟨ts.length,by simp,Nat.zero_le _,_,_,_,B2,Step.refl _ _ _,h4'.step s3⟩,?_⟩
 rintro i m σi H0 ⟨rfl,hi,Zi,Fsi,ηi,Ai,si,fi⟩
 have st:Stay Z1 H1 H0:=by
  have:=B2.gd.own.stay si
  exact ⟨fun a o h=>this.1 a o (zz a h),this.2⟩
 by_cases hlt:i < ts.length
 ·right
  refine ⟨wk.go H0 i st hlt,_,fun σ' H' hw=>⟨ts.length - (i + 1),by omega,hw⟩,fun x H' y=>?_⟩
  have hw:ts[i]? = some ts[i]:=by simp [hlt]
  rw [dA hw] at fi
  obtain ⟨ηb,hb,fb⟩:=aT (show Fin K ⟨sf,pv⟩ Zi H0 (tot Fsi) D (Fl.of ηi (ofO (bindT tg ts[i] ηi)) fun η1=>Fl.turn (evSs C body η1) (forL tg (evSs C body) (ts.drop (i + 1)))) from fi)
  refine m8 hn nd N hio hjs (fun a h=>si.zm a (zz a h)) st yl Ai hw (bD hb) y fun σ2 H2 Fs2 A2 t2=>?_
  refine ⟨pv,Zi,Fs2,ηb,N,A2,il (fb.step t2) fun η' σ' Z' H' Fs' _ f' A' s'=>⟨rfl,hlt,Z',Fs',η',A',(si.trans t2).trans s',f'.step s'⟩⟩
 ·left
  have hi':i = ts.length:=by omega
  subst hi'
  rw [List.drop_length] at fi
  exact ⟨wk.stop H0 _ st (Nat.le_refl _),fi σi Zi H0 Fsi Ai (Step.refl _ _ _)⟩
end
end MR

set_option Elab.async false
set_option linter.all false
set_option maxRecDepth 100000
set_option maxHeartbeats 4000000
namespace MR
open PySem PySem.Spec PyProof.Rows L2 L3
section
variable {X:Cx} {sf sg:Nat -> Option Nat} {C:M.Call} {pos p2:Pos} {ea eb ec:Expr} {a b c:M.E} {h:Bool} {n:Nat}
theorem av {e:Expr} {t t':TE} (h:PE X e t) (hw:∀ σ H Q,t' σ H Q -> t σ H Q):PE X e t':=fun pins s σ H Q I q=>h pins s σ H Q I (hw σ H Q q)
theorem ke {e:Expr} {t t':TT} (h:PT X e t) (hw:∀ σ H Q,t' σ H Q -> t σ H Q):PT X e t':=fun pins s σ H Q I q=>h pins s σ H Q I (hw σ H Q q)
theorem uj {e:Expr} {t t':TT} (h:PW X e t) (hw:∀ σ H Q,t' σ H Q -> t σ H Q):PW X e t':=fun whole pins s σ H Q I q=>h whole pins s σ H Q I (hw σ H Q q)
theorem gJ {es:List Expr} {t t':TA} (h:PA X es t) (hw:∀ σ H Q,t' σ H Q -> t σ H Q):PA X es t':=fun pos pins s σ H Q I q=>h pos pins s σ H Q I (hw σ H Q q)
theorem b5 {s:Stmt} {t t':TS} (h:PS X s t) (hw:∀ D σ H,t' D σ H -> t D σ H):PS X s t':=fun pins s σ H D I q=>h pins s σ H D I (hw D σ H q)
theorem ja {s:List Stmt} {t t':TS} (h:PSs X s t) (hw:∀ D σ H,t' D σ H -> t D σ H):PSs X s t':=fun pins s σ H D I q=>h pins s σ H D I (hw D σ H q)
theorem kj {tg e:Expr} {t t':TI} (h:PI X tg e t) (hw:∀ σ H R,t' σ H R -> t σ H R):PI X tg e t':=fun pins s σ H R I q=>h pins s σ H R I (hw σ H R q)
theorem yU {tg e:Expr} {t t':TI} (h:PI X tg e t) (h':PI X tg e t'):PI X tg e (fun σ H R=>t σ H R \/ t' σ H R):=fun pins s σ H R I q=>q.elim (h pins s σ H R I) (h' pins s σ H R I)
abbrev SE (X:Cx) (sf:Nat -> Option Nat) (C:M.Call) (me:Expr) (e:M.E):Prop:=PE X me (wE X.K sf C e)
abbrev SB (X:Cx) (sf:Nat -> Option Nat) (C:M.Call) (me:Expr) (e:M.E):Prop:=PT X me (wT X.K sf C e)
abbrev SL (X:Cx) (sf:Nat -> Option Nat) (C:M.Call) (me:List Expr) (es:List M.E):Prop:=PA X me (wL X.K sf C es)
abbrev SA (X:Cx) (sf:Nat -> Option Nat) (C:M.Call) (me:List Expr) (es:List M.E):Prop:=PA X me (wA X.K sf C es)
abbrev SS (X:Cx) (sf:Nat -> Option Nat) (io:List Nat) (C:M.Call) (ms:Stmt) (s:M.S):Prop:=PS X ms (wS X.K sf io C s)
abbrev SSs (X:Cx) (sf:Nat -> Option Nat) (io:List Nat) (C:M.Call) (ms:List Stmt) (s:List M.S):Prop:=PSs X ms (wSs X.K sf io C s)
theorem sV (j:Nat) {i:Nat} {x:Str} (hs:sf i = some j:=by rfl) (hN:X.N[j]? = some x:=by rfl) (hv:Vis X.env.scope x:=by first | exact Or.inl rfl | exact Or.inr (Or.inl rfl) | exact Or.inr (Or.inr rfl)) (hd:(x == ("__debug__":Str)) = false:=by decide)
  (hcd:(x == ("__classdict__":Str)) = false:=by decide):SE X sf C (.Name x pos) (.var i):=av (cj hN hv hd hcd) (xM hs)
theorem sM (j:Nat) {i:Nat} {x:Str} (hs:sf i = some j:=by rfl) (hN:X.N[j]? = some x:=by rfl) (hv:Vis X.env.scope x:=by first | exact Or.inl rfl | exact Or.inr (Or.inl rfl) | exact Or.inr (Or.inr rfl)) (hd:(x == ("__debug__":Str)) = false:=by decide)
  (hcd:(x == ("__classdict__":Str)) = false:=by decide):SE X sf C (.Name x pos) (.mv i):=av (cj hN hv hd hcd) (vz (fun _=>rfl) hs)
theorem sI {i:Int} {k:Nat}:SE X sf C (.Constant (.int i) k pos) (.cst (.int i)):=av i8 (gB fun {_ _}=>rfl)
theorem sO {i:Bool} {k:Nat}:SE X sf C (.Constant (.bool i) k pos) (.cst (.bl i)):=av zS (gB fun {_ _}=>rfl)
theorem sN {k:Nat}:SE X sf C (.Constant .none k pos) (.cst .non):=av uY (gB fun {_ _}=>rfl)
theorem qL (s:String) (hl:s.length <= 1000):M.sOk (Str.ofString s) = true:=by
 unfold M.sOk
 rw [Str.ofString_eq_toList,Bool.and_eq_true]
 refine ⟨?_,decide_eq_true ?_⟩
 ·rw [Array.all_eq_true']
  intro x hx
  rw [List.mem_toArray,List.mem_map] at hx
  obtain ⟨c,_,rfl⟩:=hx
  refine decide_eq_true ?_
  have:=c.valid
  have h2:c.toNat < 0x110000:=by
   have h3:=c.valid
   unfold UInt32.isValidChar Nat.isValidChar at h3
   show c.val.toNat < _
   omega
  exact h2
 ·rw [List.size_toArray,List.length_map,String.length_toList]
  exact Nat.le_trans hl (by decide)
theorem sS {s:String} {k:Nat} (hl:s.length <= 1000:=by decide):SE X sf C (.Constant (.str (Str.ofString s)) k pos) (.cst (.str (Str.ofString s))):=av u0 (gB fun {_ _}=>⟨rfl,qL s hl⟩)
theorem sl0:SL X sf C [] []:=gJ a9 wB
theorem slc {es:List Expr} {bs:List M.E} (ha:SE X sf C ea a) (hb:SL X sf C es bs) (hs:starEach (ea :: es) X.env = (false,eval ea X.env) :: starEach es X.env:=by rfl):SL X sf C (ea :: es) (a :: bs):=gJ (az ha hb hs) se
theorem sT {es:List Expr} {bs:List M.E} {x1:Nat} (h:SL X sf C es bs) (hn:bs.length <= M.LIM:=by decide):SE X sf C (.Tuple es x1 pos) (.tup bs):=av (jg h) (u5 hn)
theorem sLs {es:List Expr} {bs:List M.E} (hh:SL X sf C es bs) (hn:bs.length <= M.LIM:=by decide):SE X sf C (.List es pos) (.lst h bs):=av (vG hh) (vT hn)
theorem gx (ha:SE X sf C ea a) (hb:SE X sf C eb b):SE X sf C (.BinOp ea .Add eb pos) (.op .add h [a,b]) :=
 av (fO (op_add.or (op_add_str.or (op_cat.or sQ))) ha hb) (aN (rV (tH X.K) fun {Z H G Q a b xs ys ts} h1 h2 h3 h4 ow r k=>by
  obtain ⟨G',g1,g2⟩:=r
  refine ⟨a,b,xs,ys,rfl,rfl,h1,h2,h3,bz h4,fun v H' same hv=>gS (m:=.s) ow g1 ?_ g2 k same hv⟩
  rw [List.length_append]; exact h4))
theorem gC (ha:SE X sf C ea a) (hb:SE X sf C eb b):SE X sf C (.BinOp ea .Sub eb pos) (.op .sub h [a,b]):=av (fO va ha hb) (aN rn)
theorem gi (ha:SE X sf C ea a) (hb:SE X sf C eb b):SE X sf C (.BinOp ea .Mult eb pos) (.op .mul h [a,b]):=av (fO (op_mul.or xZ) ha hb) (aN qH)
theorem zU (ha:SE X sf C ea a) (hb:SE X sf C eb b):SE X sf C (.BinOp ea .FloorDiv eb pos) (.op .fdiv h [a,b]):=av (fO rJ ha hb) (aN ph)
theorem gn (ha:SE X sf C ea a) (hb:SE X sf C eb b):SE X sf C (.BinOp ea .Mod eb pos) (.op .mod h [a,b]):=av (fO vB ha hb) (aN so)
theorem iI (ha:SE X sf C ea a) (hb:SE X sf C eb b):SE X sf C (.BinOp ea .Pow eb pos) (.op .pow h [a,b]):=av (fO uv ha hb) (aN pN)
theorem sLt (ha:SE X sf C ea a) (hb:SE X sf C eb b):SE X sf C (.Compare ea [.Lt] [eb] pos) (.op .lt h [a,b]):=av (fW tF ha hb (bK _)) (aN oK)
theorem sIx (ha:SE X sf C ea a) (hb:SE X sf C eb b) (hs:cy eb:=by intro _ _; rfl):SE X sf C (.Subscript ea eb pos) (.op .ix h [a,b]):=av (ko (ix_any.or uB) ha hb hs) (aN vH)
mutual
def th:M.T -> Th
 | .non=>.non | .bl b=>.bl b | .int i=>.int i | .str x=>.str x | .tup ts=>.tup (ths ts) | .lst ts=>.lst (ths ts) | .dct _ _=>.non | .ins _ _ _=>.non | .scr _=>.non | .gone=>.non
def ths:List M.T -> List Th
 | []=>[]
 | t :: ts=>th t :: ths ts
end
mutual
theorem j5 {K:PySem.W.Frag} {Z:Fp} {H:Hp}:∀ {t:M.T} {m:M.Md} {v:V} {G:Fp} {n:Nat},M.dp t <= n -> n <= 64 -> Rep K Z H m t v G -> Has K H (th t) v /\ (toD (th t)).canLay0 = true /\ (toD (th t)).depth <= n
 | .non,_,_,_,_,_,_,r=>⟨r,rfl,Nat.zero_le _⟩
 | .bl _,_,_,_,_,_,_,r=>⟨r,rfl,Nat.zero_le _⟩
 | .int _,_,_,_,_,_,_,r=>⟨r,rfl,Nat.zero_le _⟩
 | .str x,_,_,_,_,_,_,r=>⟨r.1,by have h:=r.2; unfold M.sOk at h; rw [Bool.and_eq_true] at h; exact h.1,Nat.zero_le _⟩
 | .tup ts,m,v,G,n,hd,hn,⟨a,xs,e,q,l,r⟩=>by
  have hd':M.dps ts + 1 <= n:=hd
  match n,hd' with
  | n + 1,hd' =>
   obtain ⟨h1,h2,h3⟩:=eN (n:=n) (by omega) (by omega) r
   exact ⟨⟨a,xs,e,q,h1⟩,h2,Nat.succ_le_succ h3⟩
 | .lst ts,m,v,G,n,hd,hn,⟨a,xs,e,l,q,r⟩=>by
  have hd':M.dps ts + 1 <= n:=hd
  match n,hd' with
  | n + 1,hd' =>
   obtain ⟨h1,h2,h3⟩:=eN (n:=n) (by omega) (by omega) r
   exact ⟨⟨a,xs,e,by cases m <;> exact q.2,h1⟩,h2,Nat.succ_le_succ h3⟩
 | .dct _ _,_,_,_,_,hd,hn,_=>by have:1000 <= 64:=Nat.le_trans hd hn; omega
 | .ins _ _ _,_,_,_,_,hd,hn,_=>by have:1000 <= 64:=Nat.le_trans hd hn; omega
 | .gone,_,_,_,_,hd,hn,_=>by have:1000 <= 64:=Nat.le_trans hd hn; omega
 | .scr _,_,_,_,_,hd,hn,_=>by have:1000 <= 64:=Nat.le_trans hd hn; omega
theorem eN {K:PySem.W.Frag} {Z:Fp} {H:Hp}:∀ {ts:List M.T} {m:M.Md} {xs:List V} {G:Fp} {n:Nat},M.dps ts <= n -> n <= 64 -> RepL K Z H m ts xs G -> HasL K H (ths ts) xs /\ PyData.canLayAll0 (dN (ths ts)) = true /\ PyData.depthAll (dN (ths ts)) <= n
 | [],_,_,_,_,_,_,r=>⟨r,rfl,Nat.zero_le _⟩
 | t :: ts,m,xs,G,n,hd,hn,⟨x,r,G1,G2,e,_,_,_,p,q⟩=>by
  have hd':max (M.dp t) (M.dps ts) <= n:=hd
  obtain ⟨h1,h2,h3⟩:=j5 (n:=n) (by omega) hn p
  obtain ⟨k1,k2,k3⟩:=eN (n:=n) (by omega) hn q
  refine ⟨⟨x,r,e,h1,k1⟩,?_,?_⟩
  ·show ((toD (th t)).canLay0 && PyData.canLayAll0 (dN (ths ts))) = true
   rw [h2,k2]; rfl
  ·show max (toD (th t)).depth (PyData.depthAll (dN (ths ts))) <= n
   omega
end
mutual
theorem iW:∀ (t u:M.T),M.dp t <= 64 -> M.dp u <= 64 -> PyData.eqv (toD (th t)) (toD (th u)) = M.eqT t u
 | .dct _ _,_,h,_=>by have:1000 <= 64:=h; omega
 | .ins _ _ _,_,h,_=>by have:1000 <= 64:=h; omega
 | .gone,_,h,_=>by have:1000 <= 64:=h; omega
 | .scr _,_,h,_=>by have:1000 <= 64:=h; omega
 | .non,u,_,h=>by cases u <;> first | rfl | (have:1000 <= 64:=h; omega)
 | .bl a,u,_,h=>by cases u <;> first | rfl | (cases a <;> rfl) | (have:1000 <= 64:=h; omega)
 | .int i,u,_,h=>by
  cases u with
  | bl b=>cases b <;> rfl
  | _=>first | rfl | (have:1000 <= 64:=h; omega)
 | .str x,u,_,h=>by cases u <;> first | rfl | (have:1000 <= 64:=h; omega)
 | .tup ts,u,h1,h=>by
  cases u with
  | tup us=>exact gz ts us (by have:M.dps ts + 1 <= 64:=h1; omega) (by have:M.dps us + 1 <= 64:=h; omega)
  | _=>first | rfl | (have:1000 <= 64:=h; omega)
 | .lst ts,u,h1,h=>by
  cases u with
  | lst us=>exact gz ts us (by have:M.dps ts + 1 <= 64:=h1; omega) (by have:M.dps us + 1 <= 64:=h; omega)
  | _=>first | rfl | (have:1000 <= 64:=h; omega)
theorem gz:∀ (ts us:List M.T),M.dps ts <= 64 -> M.dps us <= 64 -> PyData.eqvAll (dN (ths ts)) (dN (ths us)) = M.eqTs ts us
 | [],[],_,_=>rfl
 | [],_ :: _,_,_=>rfl
 | _ :: _,[],_,_=>rfl
 | t :: ts,u :: us,h1,h2=>by
  have h1':max (M.dp t) (M.dps ts) <= 64:=h1
  have h2':max (M.dp u) (M.dps us) <= 64:=h2
  show (PyData.eqv (toD (th t)) (toD (th u)) && PyData.eqvAll (dN (ths ts)) (dN (ths us))) = (M.eqT t u && M.eqTs ts us)
  rw [iW t u (by omega) (by omega),gz ts us (by omega) (by omega)]
end
theorem gr {K:PySem.W.Frag} {Z:Fp} {H:Hp} {t:M.T} {m:M.Md} {v:V} {G:Fp} (hd:M.dp t <= 64) (r:Rep K Z H m t v G):Has K H (th t) v /\ fV (th t):=by
 obtain ⟨h1,h2,h3⟩:=j5 hd (Nat.le_refl _) r
 refine ⟨h1,?_⟩
 show ((toD (th t)).canLay0 && decide ((toD (th t)).depth <= 64)) = true
 rw [h2,decide_eq_true h3]; rfl
theorem oT {K:PySem.W.Frag}:Loc K 2 .eq h fun xs H Q=>∀ x y,xs = [x,y] -> ∃ t t',Has K H t x /\ Has K H t' y /\ fV t /\ fV t' /\ Q (.bl (PyData.eqv (toD t) (toD t'))) H:=by
 intro ws w xs Z H G Q hn e r ow za k x y hx
 subst hx
 obtain ⟨⟨m,a⟩,⟨n,b⟩,rfl⟩:=ek r.length.symm
 obtain ⟨G1,G2,w1,w2,d,r1,r2⟩:=b4 r
 have e':(if decide (M.dp a <= 64) && decide (M.dp b <= 64) then some ((.d,.bl (M.eqT a b)):M.W) else none) = some w:=e
 split at e'
 ·rename_i hc
  rw [Bool.and_eq_true,decide_eq_true_eq,decide_eq_true_eq] at hc
  cases e'
  obtain ⟨h1,o1⟩:=gr hc.1 r1
  obtain ⟨h2,o2⟩:=gr hc.2 r2
  refine ⟨th a,th b,h1,h2,o1,o2,?_⟩
  rw [iW a b hc.1 hc.2]
  exact bL k
 ·cases e'
theorem nG {K:PySem.W.Frag}:Loc K 2 .ne h fun xs H Q=>∀ x y,xs = [x,y] -> ∃ t t',Has K H t x /\ Has K H t' y /\ fV t /\ fV t' /\ Q (.bl (!PyData.eqv (toD t) (toD t'))) H:=by
 intro ws w xs Z H G Q hn e r ow za k x y hx
 subst hx
 obtain ⟨⟨m,a⟩,⟨n,b⟩,rfl⟩:=ek r.length.symm
 obtain ⟨G1,G2,w1,w2,d,r1,r2⟩:=b4 r
 have e':(if decide (M.dp a <= 64) && decide (M.dp b <= 64) then some ((.d,.bl (!M.eqT a b)):M.W) else none) = some w:=e
 split at e'
 ·rename_i hc
  rw [Bool.and_eq_true,decide_eq_true_eq,decide_eq_true_eq] at hc
  cases e'
  obtain ⟨h1,o1⟩:=gr hc.1 r1
  obtain ⟨h2,o2⟩:=gr hc.2 r2
  refine ⟨th a,th b,h1,h2,o1,o2,?_⟩
  rw [iW a b hc.1 hc.2]
  exact bL k
 ·cases e'
theorem sEq (hr:Room n X.A) (ha:SE X sf C ea a) (hb:SE X sf C eb b):SE X sf C (.Compare ea [.Eq] [eb] pos) (.op .eq h [a,b]):=av (fW (jP hr.units) ha hb (bK _)) (aN oT)
theorem sNe (hr:Room n X.A) (ha:SE X sf C ea a) (hb:SE X sf C eb b):SE X sf C (.Compare ea [.NotEq] [eb] pos) (.op .ne h [a,b]):=av (fW (jX hr.units) ha hb (bK _)) (aN nG)
theorem jD {K:PySem.W.Frag} {Z:Fp} {H:Hp} {t:M.T} {m:M.Md} {x:V} {G:Fp} (hg:t.isG = false) (r:Rep K Z H m t x G):decide (x = V.non) = t.isN:=by
 cases t with
 | non=>rw [show x = _ from r]; rfl
 | bl _=>rw [show x = _ from r]; rfl
 | int _=>rw [show x = _ from r]; rfl
 | str _=>rw [show x = _ from r.1]; rfl
 | tup _=>obtain ⟨p,_,e,_⟩:=r; rw [show x = _ from e]; rfl
 | lst _=>obtain ⟨p,_,e,_⟩:=r; rw [show x = _ from e]; rfl
 | scr _=>obtain ⟨p,e,_⟩:=r; rw [show x = _ from e]; rfl
 | dct _ _=>exact r.elim
 | ins _ _ _=>exact r.elim
 | gone=>cases hg
theorem ifN {α:Type} {b:Bool} {x:Option α} {y:α} (h:(if b = true then none else x) = some y):b = false /\ x = some y:=by cases b <;> first | exact ⟨rfl,h⟩ | cases h
theorem xK {K:PySem.W.Frag}:Loc K 2 .is h fun xs H Q=>∀ x y,xs = [x,y] -> y = .non /\ Q (.bl (decide (x = .non))) H:=by
 intro ws w xs Z H G Q hn e r ow za k x y hx
 subst hx
 obtain ⟨⟨m,a⟩,⟨n,b⟩,rfl⟩:=ek r.length.symm
 obtain ⟨G1,G2,w1,w2,d,r1,r2⟩:=b4 r
 cases b with
 | non=>obtain ⟨hg,e⟩:=ifN (show (if a.isG = true then none else some _) = _ from e); cases e; rw [jD hg r1]; exact ⟨r2,bL k⟩
 | _=>cases a <;> cases e
theorem kR {K:PySem.W.Frag}:Loc K 2 .isnot h fun xs H Q=>∀ x y,xs = [x,y] -> y = .non /\ Q (.bl (!decide (x = .non))) H:=by
 intro ws w xs Z H G Q hn e r ow za k x y hx
 subst hx
 obtain ⟨⟨m,a⟩,⟨n,b⟩,rfl⟩:=ek r.length.symm
 obtain ⟨G1,G2,w1,w2,d,r1,r2⟩:=b4 r
 cases b with
 | non=>obtain ⟨hg,e⟩:=ifN (show (if a.isG = true then none else some _) = _ from e); cases e; rw [jD hg r1]; exact ⟨r2,bL k⟩
 | _=>cases a <;> cases e
theorem kn {K:PySem.W.Frag} {Z:Fp} {H:Hp} {G:Fp} {m:M.Md} {ts:List M.T} {xs:List V} (lo hi:Option Int) (r:RepL K Z H m ts xs G):RepL K Z H m (M.cut ts lo hi) (de xs lo hi) G:=by
 have e:=r.length
 have hs:∀ n d o,HT.sIx n d o = M.sIx n d o:=fun n d o=>by cases o <;> rfl
 have hc:de xs lo hi = (xs.drop (M.sIx ts.length 0 lo)).take (M.sIx ts.length ts.length hi - M.sIx ts.length 0 lo):=by
  unfold de
  rw [hs,hs,e]
 rw [hc]
 exact (r.drop _).take _
theorem mC (ns:List Int) (lo hi:Option Int):de (ns.map V.int) lo hi = (M.cut ns lo hi).map V.int:=by
 have hs:∀ n d o,HT.sIx n d o = M.sIx n d o:=fun n d o=>by cases o <;> rfl
 unfold de M.cut
 rw [hs,hs,List.length_map,List.map_take,List.map_drop]
theorem vF {α:Type} (xs:List α) (lo hi:Option Int):(M.cut xs lo hi).length <= xs.length:=by
 unfold M.cut
 rw [List.length_take,List.length_drop]; omega
theorem xQ {K:PySem.W.Frag} {Z:Fp} {H:Hp} {G G1:Fp} {Q:VK} {m:M.Md} {a:M.T} {x:V} {w:M.W} {lo hi:Option Int} (hg:∀ b,G1 b -> G b) (ow:Own Z H G) (za:∀ a,Z a -> H a ≠ none) (r:Rep K Z H m a x G1)
  (e:(match a with | .lst ts=>M.newL h m.kid (M.cut ts lo hi) | .tup ts=>some ((.s,.tup (M.cut ts lo hi)):M.W) | .scr ns=>some (.d,.lst ((M.cut ns lo hi).map M.T.int)) | _=>none) = some w) (k:Out K Z H G w Q):vP K x lo hi H Q \/ vn K x lo hi H Q:=by
 cases a with
 | lst ts =>
  obtain ⟨p,xs,rfl,hs,hl,q⟩:=bp r
  refine .inl ⟨p,xs,rfl,.inl (.inl hs),fun l hl'=>?_⟩
  exact cx ow za (Nat.le_trans (bB xs lo hi) hl) ⟨G1,hg,(kn lo hi q).zmono fun _ z=>.inl z⟩ e k hl'
 | tup ts =>
  obtain ⟨p,xs,rfl,hs,hl,q⟩:=cn r
  cases e
  refine .inr ⟨p,xs,rfl,hs,fun v H' same hv=>?_⟩
  exact gS (m:=.s) (G':=no) ow (fun _ z=>z.elim) (Nat.le_trans (bB xs lo hi) hl) ((RepL.sh (kn lo hi q)).zmono fun b hb=>hb.imp id fun z=>⟨hg b z,fun q=>q⟩) k same hv
 | scr ns =>
  obtain ⟨p,rfl,hL,hs⟩:=r
  cases e
  refine .inl ⟨p,_,rfl,hs.sq,fun l hl'=>?_⟩
  rw [mC]
  exact bE (m:=.d) (G':=no) ow za (fun _ z=>z.elim) (by rw [List.length_map]; exact Nat.le_trans (vF ns lo hi) hL) (jd _) (by simp) k hl'
 | _=>cases e
theorem Bb {p3:Pos} (ha:SE X sf C ea a) (hb:SE X sf C eb b):SE X sf C (.Subscript ea (.Slice none (some eb) none p3) pos) (.op .sl2 h [a,b]) :=
 av (pB (sl_list.or pS) ha sk (sX hb)) (fun σ H Q hw=>aN (r:=fun x y H Q=>∃ i,y = .int i /\ (vP X.K x none (some i) H Q \/ vn X.K x none (some i) H Q)) (by
  intro ws w xs Z H G Q hn e r ow za k x y hx
  subst hx
  obtain ⟨⟨m,a⟩,⟨n,b⟩,rfl⟩:=ek r.length.symm
  obtain ⟨G1,G2,w1,w2,d,r1,r2⟩:=b4 r
  cases b with
  | int i=>exact ⟨i,r2,xQ (h:=h) (lo:=none) (hi:=some i) w1 ow za r1 (by cases a <;> exact e) k⟩
  | _=>cases a <;> cases e) σ H Q hw)
theorem mT {K:PySem.W.Frag}:Loc K 1 .len h fun xs H Q=>∃ x n,xs = [x] /\ Ab K x H n /\ Q (.int n) H:=by
 intro ws w xs Z H G Q hn e r ow za k
 obtain ⟨x,n,hx,hm,q⟩:=pT (h:=h) ws w xs Z H G Q hn e r ow za k
 exact ⟨x,n,hx,by cases x <;> exact hm,q⟩
section
variable {p:Pos} {x1:Str}
theorem ej (hm:X.mg "len" = none) (hg:Gl X "len":=by rfl) (ha:SE X sf C ea a) (hs:starEach [ea] X.env = (false,eval ea X.env) :: starEach [] X.env:=by rfl) (hpl:(backTo pos (starEach [] X.env)).any (·.1) = false:=by rfl):SE X sf C (.Call (.Name "len" p) [ea] [] pos) (.op .len h [a]) :=
 av (bO mq hg hm PySem.boot_len (slc ha sl0 hs) (by decide) (by decide) hs hpl) (gM mT rfl)
theorem BB (hc:X.calm = true:=by rfl) (hm:X.mg "all" = none) (hg:Gl X "all":=by rfl) (ha:SE X sf C ea a) (hs:starEach [ea] X.env = (false,eval ea X.env) :: starEach [] X.env:=by rfl) (hpl:(backTo pos (starEach [] X.env)).any (·.1) = false:=by rfl):SE X sf C (.Call (.Name "all" p) [ea] [] pos) (.op .all h [a]) :=
 av (bO (kB hc) hg hm (by rfl) (slc ha sl0 hs) (by decide) (by decide) hs hpl) (gM sL rfl)
theorem jL (hm:X.mg "list" = none) (hg:Gl X "list":=by rfl) (ha:SE X sf C ea a) (hs:starEach [ea] X.env = (false,eval ea X.env) :: starEach [] X.env:=by rfl) (hpl:(backTo pos (starEach [] X.env)).any (·.1) = false:=by rfl):SE X sf C (.Call (.Name "list" p) [ea] [] pos) (.op .list h [a]) :=
 av (dB cY hg hm PyProof.Rows.boot_list (slc ha sl0 hs) (by decide) (by decide) hs hpl) (gM oP rfl)
end
theorem gc {K:PySem.W.Frag} {x:V} {H:Hp} {k:Bool} (h:TrV K x H k):pC K x H k:=by
 cases x with
 | ref p=>exact h.imp id .inl
 | byt _=>exact h.elim
 | _=>exact h
theorem tB (ha:SE X sf C ea a) (he:∀ whole,isTrue ea X.env whole = (do let v <- whole; standAt ea.pos; holding [v] (truthy v)):=by intro _; rfl):SB X sf C ea a :=
 ke (mf ha he) fun σ H Q h=>by
  obtain ⟨pv,Z,Fs,η,w,η',b,A,ev,ht,k⟩:=h
  exact ⟨pv,Z,Fs,η,w,η',A,ev,fun v Z' H' Fs' G B r s=>⟨b,gc (dt ht r),k Z' H' Fs' B.bare (s.mono (fun _ z=>z) fun _ z=>.inl z)⟩⟩
theorem dC (ha:SB X sf C ea a):SB X sf C (.UnaryOp .Not ea pos) (.not a):=ke (vE ha) xE
theorem yc {σ:L2.St} {H:Hp} {Q:Bool -> Hp -> Prop} (hb:∀ η w η',M.evE C a η = .ok (w,η') -> ∃ b,w.2 = .bl b) (h:wT X.K sf C a σ H Q):tK (wE X.K sf C a) σ H Q:=by
 obtain ⟨pv,Z,Fs,η,w,η',b,A,ev,ht,k⟩:=h
 refine ⟨pv,Z,Fs,η,w,η',A,ev,fun v Z' H' Fs' G B r s=>⟨b,?_,k Z' H' Fs' B.bare (s.mono (fun _ z=>z) fun _ z=>.inl z)⟩⟩
 obtain ⟨b',hb'⟩:=hb _ _ _ ev
 rw [hb'] at ht r
 cases ht
 exact r
theorem Ao {o:M.Op} (ho:∀ u v w,M.oSem o h [u,v] = some w -> ∃ b,w.2 = .bl b):∀ η w η',M.evE C (.op o h [a,b]) η = .ok (w,η') -> ∃ b,w.2 = .bl b:=fun η w η' e=>by
 obtain ⟨ws,h1,h2⟩:=dr e
 obtain ⟨u,η1,us,_,e2,rfl⟩:=aB h1
 obtain ⟨v,η2,us,_,e4,rfl⟩:=aB e2
 cases e4
 exact ho u v w h2
theorem bX {op:CmpOp} {r:R2} {o:M.Op} (ho:OpR X (compareOp op) r) (ha:SE X sf C ea a) (hb:SE X sf C eb b) (hm:behindInMarks op eb = false) (hl:∀ σ H Q,wE X.K sf C (.op o h [a,b]) σ H Q -> tOp r (wE X.K sf C a) (wE X.K sf C b) σ H Q)
  (hbl:∀ u v w,M.oSem o h [u,v] = some w -> ∃ b,w.2 = .bl b):SB X sf C (.Compare ea [op] [eb] pos) (.op o h [a,b]) :=
 ke (kb ho ha hb hm) fun σ H Q hw=>hl σ H _ (yc (Ao hbl) hw)
theorem yF {u v w:M.W} (e:M.oSem .eq h [u,v] = some w):∃ b,w.2 = .bl b:=by
 obtain ⟨m,a⟩:=u; obtain ⟨n,b⟩:=v
 have e':(if decide (M.dp a <= 64) && decide (M.dp b <= 64) then some ((.d,.bl (M.eqT a b)):M.W) else none) = some w:=e
 split at e'
 ·cases e'; exact ⟨_,rfl⟩
 ·cases e'
theorem Am {u v w:M.W} (e:M.oSem .ne h [u,v] = some w):∃ b,w.2 = .bl b:=by
 obtain ⟨m,a⟩:=u; obtain ⟨n,b⟩:=v
 have e':(if decide (M.dp a <= 64) && decide (M.dp b <= 64) then some ((.d,.bl (!M.eqT a b)):M.W) else none) = some w:=e
 split at e'
 ·cases e'; exact ⟨_,rfl⟩
 ·cases e'
theorem zc {u v w:M.W} (e:M.oSem .is h [u,v] = some w):∃ b,w.2 = .bl b:=by
 obtain ⟨m,a⟩:=u; obtain ⟨n,b⟩:=v
 cases b with
 | non=>obtain ⟨_,e⟩:=ifN (show (if a.isG = true then none else some _) = _ from e); cases e; exact ⟨_,rfl⟩
 | _=>cases a <;> cases e
theorem mN {u v w:M.W} (e:M.oSem .isnot h [u,v] = some w):∃ b,w.2 = .bl b:=by
 obtain ⟨m,a⟩:=u; obtain ⟨n,b⟩:=v
 cases b with
 | non=>obtain ⟨_,e⟩:=ifN (show (if a.isG = true then none else some _) = _ from e); cases e; exact ⟨_,rfl⟩
 | _=>cases a <;> cases e
theorem zC (ha:SE X sf C ea a) (hb:SE X sf C eb b):SB X sf C (.Compare ea [.Lt] [eb] pos) (.op .lt h [a,b]):=bX tF ha hb (bK _) (aN oK) fun u v w e=>by obtain ⟨_,_,_,_,_,_,rfl⟩:=nU e; exact ⟨_,rfl⟩
theorem z0 (ha:SE X sf C ea a) (hb:SE X sf C eb b):SB X sf C (.Compare ea [.Gt] [eb] pos) (.op .gt h [a,b]):=bX yz ha hb (bK _) (aN vL) fun u v w e=>by obtain ⟨_,_,_,_,_,_,rfl⟩:=nM e; exact ⟨_,rfl⟩
theorem Bc (ha:SE X sf C ea a) (hb:SE X sf C eb b):SB X sf C (.Compare ea [.GtE] [eb] pos) (.op .ge h [a,b]):=bX Aw ha hb (bK _) (aN wN) fun u v w e=>by obtain ⟨_,_,_,_,_,_,rfl⟩:=oB e; exact ⟨_,rfl⟩
theorem jf (hr:Room n X.A) (ha:SE X sf C ea a) (hb:SE X sf C eb b):SB X sf C (.Compare ea [.Eq] [eb] pos) (.op .eq h [a,b]):=bX (jP hr.units) ha hb (bK _) (aN oT) fun u v w e=>yF e
theorem i7 (hr:Room n X.A) (ha:SE X sf C ea a) (hb:SE X sf C eb b):SB X sf C (.Compare ea [.NotEq] [eb] pos) (.op .ne h [a,b]):=bX (jX hr.units) ha hb (bK _) (aN nG) fun u v w e=>Am e
theorem AF (ha:SE X sf C ea a) (hb:SE X sf C eb b):SB X sf C (.Compare ea [.Is] [eb] pos) (.op .is h [a,b]):=bX xJ ha hb (bK _) (aN xK) fun u v w e=>zc e
theorem xy (ha:SE X sf C ea a) (hb:SE X sf C eb b):SB X sf C (.Compare ea [.IsNot] [eb] pos) (.op .isnot h [a,b]):=bX qP ha hb (bK _) (aN kR) fun u v w e=>mN e
abbrev SW (X:Cx) (sf:Nat -> Option Nat) (C:M.Call) (me:Expr) (e:M.E):Prop:=PW X me (wT X.K sf C e)
theorem wA1 (ha:SB X sf C ea a):SW X sf C (.BoolOp .And [ea] pos) a:=qF ha
theorem wO1 (ha:SB X sf C ea a):SW X sf C (.BoolOp .Or [ea] pos) a:=vM ha
theorem zD {rest:List Expr} (ha:SB X sf C ea a) (hb:SW X sf C (.BoolOp .And (eb :: rest) pos) b):SW X sf C (.BoolOp .And (ea :: eb :: rest) pos) (.and a b):=uj (vg ha hb) uF
theorem wOr {rest:List Expr} (ha:SB X sf C ea a) (hb:SW X sf C (.BoolOp .Or (eb :: rest) pos) b):SW X sf C (.BoolOp .Or (ea :: eb :: rest) pos) (.or a b):=uj (zJ ha hb) yw
theorem tW (h:SW X sf C ea a):SB X sf C ea a:=h.pt
theorem r8 {ta:TE} (ha:PE X ea ta):PE X (.UnaryOp .Not ea pos) (fun σ H Q=>ta σ H fun x H1=>∃ k,pC X.K x H1 k /\ Q (.bl (!k)) H1):=by
 intro pins s σ H Q I h
 refine UnaryOp_ (thn (ha pins s σ H _ I h) fun v s1 ⟨x,H1,I1,r1,q1⟩=>?_)
 refine not_of (thn (jB pins s1 σ H1 x v (fun k H2=>Q (.bl (!k)) H2) I1 r1 q1) fun k s2 ⟨H2,I2,q2⟩=>⟨.bl (!k),H2,I2,rfl,q2⟩)
theorem Ba (ha:SE X sf C ea a):SE X sf C (.UnaryOp .Not ea pos) (.not a):=av (r8 ha) fun σ H Q h=>by
 obtain ⟨pv,Z,Fs,η,w,η',A,ev,k⟩:=xP σ H Q h
 exact ⟨pv,Z,Fs,η,w,η',A,ev,fun v Z' H' Fs' G B r s=>let ⟨c,t,q⟩:=k v Z' H' Fs' G B r s; ⟨c,gc t,q⟩⟩
theorem sIf (hc:SB X sf C ec c) (ha:SE X sf C ea a) (hb:SE X sf C eb b):SE X sf C (.IfExp ec ea eb pos) (.ifx c a b):=av (nC hc ha hb) uq
theorem iY {tg:Expr} (ha:SE X sf C ea a):PI X tg ea (wI X.K sf C 1 .seq [a]):=kj (yU (jE ha) (v5 ha)) wH
theorem sG {tg:Expr} {p:Pos} (hm:X.mg "range" = none) (hg:Gl X "range":=by rfl) (ha:SE X sf C ea a) (hs:starEach [ea] X.env = [(false,eval ea X.env)]:=by rfl):PI X tg (.Call (.Name "range" p) [ea] [] pos) (wI X.K sf C 1 .rng [a]):=kj (lD hg hm (slc ha sl0 hs) hs) rC
theorem dE {es:List Expr} {kt:Nat} {pt p:Pos} (hc:X.calm = true:=by rfl) (hm:X.mg "zip" = none) (hg:Gl X "zip":=by rfl) (ha:SE X sf C ea a) (hb:SE X sf C eb b) (hs:starEach [ea,eb] X.env = [(false,eval ea X.env),(false,eval eb X.env)]:=by rfl) (hs2:starEach [eb] X.env = [(false,eval eb X.env)]:=by rfl):PI X (.Tuple es kt pt) (.Call (.Name "zip" p) [ea,eb] [] pos) (wI X.K sf C 2 .zip [a,b]):=kj (wV hg hm (slc ha (slc hb sl0 hs2) (by rw [hs,hs2])) hs hs2) uS
def lkN:List Nat -> Nat -> Nat -> Option Nat
 | [],_,_=>none
 | t :: ts,n,i=>if i = t then some n else lkN ts (n + 1) i
theorem j9:∀ {l:List Nat} {n i j:Nat},lkN l n i = some j -> ∃ k,l[k]? = some i /\ j = n + k /\ i ∉ l.take k
 | [],_,_,_,h=>by cases h
 | t :: ts,n,i,j,h=>by
  have h':(if i = t then some n else lkN ts (n + 1) i) = some j:=h
  split at h'
  ·rename_i e; cases h'; exact ⟨0,by rw [e]; rfl,rfl,by simp⟩
  ·rename_i e
   obtain ⟨k,h1,h2,h3⟩:=j9 h'
   exact ⟨k + 1,h1,by omega,by rw [List.take_succ_cons,List.mem_cons]; exact fun z=>z.elim e h3⟩
def inF (tg ls:List Nat):Nat -> Option Nat:=lkN (tg ++ ls) 0
theorem cR {tg ls is:List Nat} (h:ls.map sf = is.map some):fL sf (inF tg ls) tg is:=fun i j hj=>by
 obtain ⟨k,h1,h2,h3⟩:=j9 (show lkN (tg ++ ls) 0 i = some j from hj)
 rw [Nat.zero_add] at h2
 subst h2
 by_cases hk:j < tg.length
 ·rw [List.getElem?_append_left hk] at h1
  exact .inl ⟨j,h1,rfl⟩
 ·have hk':tg.length <= j:=Nat.le_of_not_lt hk
  rw [List.getElem?_append_right hk'] at h1
  refine .inr ⟨fun hi=>h3 ?_,?_⟩
  ·rw [List.take_append,List.take_of_length_le hk']
   exact List.mem_append_left _ hi
  ·have e1:(ls.map sf)[j - tg.length]? = some (sf i):=by rw [List.getElem?_map,h1]; rfl
   rw [h,List.getElem?_map] at e1
   cases e2:is[j - tg.length]? with
   | none=>rw [e2] at e1; cases e1
   | some j0 =>
    rw [e2] at e1
    exact ⟨j - tg.length,j0,by omega,e2,(Option.some.inj e1).symm⟩
theorem Ae {x:Str} {px:Pos} {ys:List Str} {scope:Scope} {cl:List (Str × Addr)} (S:aw [x] ys scope) (Ca:Addr) (s:Shared) (H:Hp) (fp:List Addr):PG (aj X ([x] ++ ys) scope cl Ca s H fp) (.Name x px) (gT X.K 1) :=
 bF (X:=aj X ([x] ++ ys) scope cl Ca s H fp) (i:=0) (x:=x) (pos:=px) S.nd rfl (.inl (lookup_relabel_local (S.loc x (by simp)))) (.inr (lookup_relabel_local (S.loc x (by simp))))
theorem zA {x y:Str} {px py pt:Pos} {kt:Nat} {ys:List Str} {scope:Scope} {cl:List (Str × Addr)} (hc:X.calm = true) (S:aw [x,y] ys scope) (Ca:Addr) (s:Shared) (H:Hp) (fp:List Addr):PG (aj X ([x,y] ++ ys) scope cl Ca s H fp) (.Tuple [.Name x px,.Name y py] kt pt) (gT X.K 2) :=
 oV (X:=aj X ([x,y] ++ ys) scope cl Ca s H fp) (pos:=pt) (k:=kt) (n:=2) hc (b8 (bF (pos:=px) (i:=0) (x:=x) S.nd rfl (.inl (lookup_relabel_local (S.loc x (by simp)))) (.inr (lookup_relabel_local (S.loc x (by simp))))) (b8 (bF (pos:=py) (i:=1) (x:=y) S.nd rfl (.inl (lookup_relabel_local (S.loc y (by simp)))) (.inr (lookup_relabel_local (S.loc y (by simp))))) kh))
end
end MR

set_option Elab.async false
set_option linter.all false
set_option maxRecDepth 100000
set_option maxHeartbeats 4000000
namespace MR
open PySem PySem.Spec PyProof.Rows L2 L3
section
variable {X:Cx} {sf sg:Nat -> Option Nat} {C:M.Call} {pos p2:Pos} {ea eb ec:Expr} {a b c:M.E} {h:Bool} {n:Nat} {io:List Nat}
section
variable {elt iter cnd:Expr} {x y:Str} {px py pt:Pos} {kt:Nat} {scope:Scope} {cl:List (Str × Addr)} {ys:List Str} {tg ls is:List Nat} {k:M.Ik} {src:List M.E} {e cd:M.E}
theorem sC1 (ls:List Nat) (is:List Nat) (cl:List (Str × Addr)) (ys:List Str) {t:Nat} (hi:PI X (.Name x px) iter (wI X.K sf C 1 k src)) (he:∀ Ca s H fp,SE (aj X ([x] ++ ys) scope cl Ca s H fp) (inF [t] ls) C elt e)
  (S:aw [x] ys scope) (hcl:Clo X cl) (fr:Frees X scope cl ys is) (hc:X.calm = true:=by rfl) (hl:ls.map sf = is.map some:=by rfl)
  (hclos:closureFor scope X.env = pure cl:=by with_unfolding_all rfl) (hfr:(scope.names.all fun p=>p.2 != .free || (cl.lookup p.1).isSome) = true:=by rfl)
  (hs:∀ v,foldedSetIterable iter X.env v = pure v:=by intro _; rfl):SE X sf C (.ListComp elt [⟨.Name x px,iter,[],0⟩] scope pos) (.comp h k src [t] none e) :=
 av (fG (pre:=[x]) hc hi (Ae S) (fun Ca s H fp=>he Ca s H fp) hclos S hcl hfr fr hs) (c5 rfl (by simp) (cR hl))
theorem sC2 (ls:List Nat) (is:List Nat) (cl:List (Str × Addr)) (ys:List Str) {t t':Nat} (hi:PI X (.Tuple [.Name x px,.Name y py] kt pt) iter (wI X.K sf C 2 k src)) (he:∀ Ca s H fp,SE (aj X ([x,y] ++ ys) scope cl Ca s H fp) (inF [t,t'] ls) C elt e)
  (S:aw [x,y] ys scope) (hcl:Clo X cl) (fr:Frees X scope cl ys is) (hc:X.calm = true:=by rfl) (hl:ls.map sf = is.map some:=by rfl) (nd:[t,t'].Nodup:=by decide)
  (hclos:closureFor scope X.env = pure cl:=by with_unfolding_all rfl) (hfr:(scope.names.all fun p=>p.2 != .free || (cl.lookup p.1).isSome) = true:=by rfl)
  (hs:∀ v,foldedSetIterable iter X.env v = pure v:=by intro _; rfl):SE X sf C (.ListComp elt [⟨.Tuple [.Name x px,.Name y py] kt pt,iter,[],0⟩] scope pos) (.comp h k src [t,t'] none e) :=
 av (fG (pre:=[x,y]) hc hi (zA hc S) (fun Ca s H fp=>he Ca s H fp) hclos S hcl hfr fr hs) (c5 rfl nd (cR hl))
end
def spS (K:PySem.W.Frag) (C:M.Call) (f:Nat) (io:List Nat):Sp:=fun vs H Q _=>spC K C f io vs H Q
theorem sa0:SA X sf C [] []:=gJ a9 w5
theorem sac {es:List Expr} {bs:List M.E} (ha:SE X sf C ea a) (hb:SA X sf C es bs) (he:∀ i,a ≠ .io i:=by intro _ z; cases z) (hs:starEach (ea :: es) X.env = (false,eval ea X.env) :: starEach es X.env:=by rfl):SA X sf C (ea :: es) (a :: bs):=gJ (az ha hb hs) (oR he)
theorem sai (j:Nat) {i:Nat} {x:Str} {es:List Expr} {bs:List M.E} (hb:SA X sf C es bs) (hs:sf i = some j:=by rfl) (hN:X.N[j]? = some x:=by rfl) (hv:Vis X.env.scope x:=by first | exact Or.inl rfl | exact Or.inr (Or.inl rfl) | exact Or.inr (Or.inr rfl)) (hd:(x == ("__debug__":Str)) = false:=by decide)
  (hcd:(x == ("__classdict__":Str)) = false:=by decide) (hst:starEach (.Name x pos :: es) X.env = (false,eval (.Name x pos) X.env) :: starEach es X.env:=by rfl):SA X sf C (.Name x pos :: es) (.io i :: bs):=gJ (az (cj hN hv hd hcd) hb hst) (lb hs)
def ae (P:Program) (w:World) (K:PySem.W.Frag) (mg:Str -> Option Value) (base:Heap) (n:Nat) (C:M.Call) (x:Str) (f:Nat) (io:List Nat):Prop :=
 ∃ fa fd ps,FnOk P w K mg base CX0 n fa fd ps (spS K C f io) /\ mg x = some (.ref fa) /\ PySem.W.keepIn K (.ref fa) = true /\ Binds K fd ps []
theorem ao {x:Str} {p:Pos} {f:Nat} {es:List Expr} {bs:List M.E} (c:ae X.prog X.w X.K X.mg X.base n C x f io) (hr:Room n X.A) (ha:SA X sf C (ea :: es) bs) (hio:eY bs 0 = io \/ M.ios bs = []:=by first | exact .inl rfl | exact .inr rfl) (hg:Gl X x:=by rfl) (hdb:(x == ("__debug__":Str)) = false:=by decide)
  (he:starEach (ea :: es) X.env = (false,eval ea X.env) :: starEach es X.env:=by rfl) (hpl:(backTo pos (starEach es X.env)).any (·.1) = false:=by rfl):SE X sf C (.Call (.Name x p) (ea :: es) [] pos) (.call f bs):=by
 obtain ⟨fa,fd,ps,F,hm,hk,hb⟩:=c
 refine av (kz (E:=E0) F hr hg hm hk hb .nil nD ha hdb he hpl) fun σ H Q hw=>?_
 have h2:=jR hio σ H Q hw
 obtain ⟨pv,Z,Fs,η,ws,η',A,ev,k⟩:=h2
 exact ⟨pv,Z,Fs,η,ws,η',A,ev,fun vs Z' H' Fs' G B r s hv=>by show spS X.K C f io (vs ++ []) H' Q E0; rw [List.append_nil]; exact k vs Z' H' Fs' G B r s hv⟩
theorem ss0:SSs X sf io C [] []:=ja gw pG
theorem ss1 {s:Stmt} {t:M.S} (hs:SS X sf io C s t):SSs X sf io C [s] [t]:=ja (cZ hs) r9
theorem ssc {s:Stmt} {t:M.S} {r:List Stmt} {u:List M.S} (hs:SS X sf io C s t) (hr:SSs X sf io C r u):SSs X sf io C (s :: r) (t :: u):=ja (iC hs hr) oN
theorem a4 (j:Nat) {i:Nat} {x:Str} {xx:M.X} {pos':Pos} (hN:X.N.Nodup) (ha:SE X sf C ea a) (hi:i ∉ io:=by decide) (hs:sf i = some j:=by rfl) (hj:X.N[j]? = some x:=by rfl) (hx:L2.Loc X.env.scope x:=by first | exact Or.inl rfl | exact Or.inr rfl)
  (hsw:swapsWith ea (some (.Name x pos')) pos.line X.env = pure false:=by rfl) (hf:X.fn x = true \/ X.env.scope.names.lookup x = some .local:=by first | exact .inl rfl | exact .inr rfl):SS X sf io C (.Assign [.Name x pos'] ea pos) (.asg xx i a):=b5 (vt (i:=j) hN hj hx ha hsw hf) (iV hi hs)
theorem Bk {xx:M.X} (ha:SE X sf C ea a) (hs:swapsWith ea none pos.line X.env = pure false:=by rfl):SS X sf io C (.Expr ea pos) (.exp xx a):=b5 (cQ ha hs) vJ
theorem aL {vs:List Nat} (ha:SE X sf C ea a):SS X sf io C (.Return (some ea) pos) (.ret vs a):=b5 (vo ha) xG
theorem Bp:SS X sf io C (.Break pos) .brk:=b5 oI xc
theorem zIf {xx:M.X} {r u:List Stmt} {s t:List M.S} (hc:SB X sf C ec c) (ha:SSs X sf io C r s) (hb:SSs X sf io C u t):SS X sf io C (.If ec r u pos) (.ite xx c s t):=b5 (nB hc ha hb) vq
theorem oi (j:Nat) {t:Nat} {x:Str} {px:Pos} {iter:Expr} {r:List Stmt} {s:List M.S} {vs ls:List Nat} {k:M.Ik} {src:List M.E} (hN:X.N.Nodup) (hi:PI X (.Name x px) iter (wI X.K sf C 1 k src)) (ha:SSs X sf io C r s) (hio:∀ u ∈ [t],u ∉ io:=by decide) (hjs:[t].map sf = [j].map some:=by rfl) (hj:X.N[j]? = some x:=by rfl) (hx:L2.Loc X.env.scope x:=by first | exact Or.inl rfl | exact Or.inr rfl)
  (hc:X.calm = true:=by rfl) (hp:PassesOwn (model X.prog X.w) X.A X.env X.xe:=by exact PassesOwn.never) (hf:X.fn x = true \/ X.env.scope.names.lookup x = some .local:=by first | exact .inl rfl | exact .inr rfl) (hs:∀ x,foldedSetIterable iter X.env x = pure x:=by intro _; rfl):SS X sf io C (.For (.Name x px) iter r [] pos) (.forS vs ls k src [t] s) :=
 b5 (jm hp hc hi (bF (i:=j) hN hj hx hf) ha hs) (vf rfl (by simp) hio hjs)
theorem zG (j:Nat) {i:Nat} {x:Str} {xx:M.X} {apos cpos px:Pos} (ha:SE X sf C ea a) (hs:sf i = some j:=by rfl) (hN:X.N[j]? = some x:=by rfl) (hv:Vis X.env.scope x:=by first | exact Or.inl rfl | exact Or.inr (Or.inl rfl) | exact Or.inr (Or.inr rfl)) (hd:(x == ("__debug__":Str)) = false:=by decide) (hcd:(x == ("__classdict__":Str)) = false:=by decide)
  (hbase:attributeBase (.Name x px) "append" X.env (eval (.Name x px) X.env) = eval (.Name x px) X.env:=by rfl)
  (hfew:((backTo cpos (starEach [ea] X.env)).all (fun x=>!x.1) && (backToKw cpos (keywordEach [] X.env)).all (fun x=>x.1.isSome) && decide ([ea].length + ([]:List Keyword).length + (if ([]:List Keyword).isEmpty then 0 else 1) < 30)) = true:=by rfl)
  (hline:(apos.endLine == cpos.line) = true:=by rfl) (hst:starEach [ea] X.env = (false,eval ea X.env) :: starEach [] X.env:=by rfl) (hplain:(backTo cpos (starEach [] X.env)).any (·.1) = false:=by rfl) (hsw:swapsWith (.Call (.Attribute (.Name x px) "append" apos) [ea] [] cpos) none pos.line X.env = pure false:=by rfl) :
  SS X sf io C (.Expr (.Call (.Attribute (.Name x px) "append" apos) [ea] [] cpos) pos) (.app xx i a) :=
 b5 (cQ (oD PySem.F.plainAttrs_list PySem.F.slot_list_append PySem.F.type_list_append fF (cj hN hv hd hcd) (az ha a9 hst) hbase hfew hline hst hplain) hsw) fun D σ H hw=>by
  obtain ⟨p,xs,hj,hp,pv,Z,Fs,η,w,η',A,ev,k⟩:=vN hs D σ H hw
  refine ⟨.ref p,hj,.inl ⟨rfl,xs,.inl (.inl hp)⟩,pv,Z,Fs,η,w,η',A,ev,fun v Z' H' Fs' G B r s=>?_⟩
  obtain ⟨ys,h1,h2,h3⟩:=k v Z' H' Fs' G B r s
  exact ⟨p,ys,v,rfl,rfl,h1,h2,h3⟩
theorem BI (j:Nat) {i:Nat} {x:Str} {xx:M.X} {apos cpos px:Pos} (ha:SE X sf C ea a) (hs:sf i = some j:=by rfl) (hN:X.N[j]? = some x:=by rfl) (hv:Vis X.env.scope x:=by first | exact Or.inl rfl | exact Or.inr (Or.inl rfl) | exact Or.inr (Or.inr rfl)) (hd:(x == ("__debug__":Str)) = false:=by decide) (hcd:(x == ("__classdict__":Str)) = false:=by decide)
  (hbase:attributeBase (.Name x px) "extend" X.env (eval (.Name x px) X.env) = eval (.Name x px) X.env:=by rfl)
  (hfew:((backTo cpos (starEach [ea] X.env)).all (fun x=>!x.1) && (backToKw cpos (keywordEach [] X.env)).all (fun x=>x.1.isSome) && decide ([ea].length + ([]:List Keyword).length + (if ([]:List Keyword).isEmpty then 0 else 1) < 30)) = true:=by rfl)
  (hline:(apos.endLine == cpos.line) = true:=by rfl) (hst:starEach [ea] X.env = (false,eval ea X.env) :: starEach [] X.env:=by rfl) (hplain:(backTo cpos (starEach [] X.env)).any (·.1) = false:=by rfl) (hsw:swapsWith (.Call (.Attribute (.Name x px) "extend" apos) [ea] [] cpos) none pos.line X.env = pure false:=by rfl) :
  SS X sf io C (.Expr (.Call (.Attribute (.Name x px) "extend" apos) [ea] [] cpos) pos) (.ext xx i a) :=
 b5 (cQ (oD PySem.F.plainAttrs_list PySem.F.slot_list_extend PySem.F.type_list_extend kQ (cj hN hv hd hcd) (az ha a9 hst) hbase hfew hline hst hplain) hsw) fun D σ H hw=>by
  obtain ⟨p,xs,hj,hp,pv,Z,Fs,η,w,η',A,ev,k⟩:=wJ hs D σ H hw
  refine ⟨.ref p,hj,.inl ⟨rfl,xs,.inl (.inl hp)⟩,pv,Z,Fs,η,w,η',A,ev,fun v Z' H' Fs' G B r s=>?_⟩
  obtain ⟨b,ys,zs,rfl,h1,h2,h3,h4⟩:=k v Z' H' Fs' G B r s
  exact ⟨p,b,ys,zs,rfl,rfl,h1,h2,h3,h4⟩
theorem mV (j:Nat) {i:Nat} {x:Str} {xx:M.X} {px ps:Pos} (ha:SE X sf C ea a) (hb:SE X sf C eb b) (hs:sf i = some j:=by rfl) (hN:X.N[j]? = some x:=by rfl) (hv:Vis X.env.scope x:=by first | exact Or.inl rfl | exact Or.inr (Or.inl rfl) | exact Or.inr (Or.inr rfl)) (hd:(x == ("__debug__":Str)) = false:=by decide) (hcd:(x == ("__classdict__":Str)) = false:=by decide)
  (has:∀ v,assign (.Subscript (.Name x px) eb ps) X.env v = (do
   let ov <- holding [v] (eval (.Name x px) X.env)
   let iv <- holding [v,ov] (eval eb X.env)
   standAt ps
   holding [v,ov,iv] (setItem ov iv v)
   release [v,ov,iv] []):=by intro _; rfl)
  (h1:swapsWithSole [.Subscript (.Name x px) eb ps] ea pos.line X.env = pure false:=by rfl) (h2:swappedStores [.Subscript (.Name x px) eb ps] ea X.env = pure none:=by rfl) (h3:(assignEach [.Subscript (.Name x px) eb ps] X.env).map (·.2) = [assign (.Subscript (.Name x px) eb ps) X.env]:=by rfl) :
  SS X sf io C (.Assign [.Subscript (.Name x px) eb ps] ea pos) (.setI xx i b a) :=
 b5 (xa ha (vO (cj hN hv hd hcd) hb nW has) h1 h2 h3) fun D σ H hw=>by
  obtain ⟨pv,Z,Fs,η,w,η',A,ev,k⟩:=qm hs D σ H hw
  refine ⟨pv,Z,Fs,η,w,η',A,ev,fun v Z' H' Fs' G B r s=>?_⟩
  obtain ⟨o,ho,pv2,Z2,Fs2,η2,w2,η3,A2,ev2,k2⟩:=k v Z' H' Fs' G B r s
  refine ⟨o,ho,pv2,Z2,Fs2,η2,w2,η3,A2,ev2,fun z Z3 H3 Fs3 G3 B3 r3 s3=>?_⟩
  obtain ⟨q,xs,n,m,rfl,rfl,g1,g2,g3⟩:=k2 z Z3 H3 Fs3 G3 B3 r3 s3
  exact ⟨q,xs,n,m,rfl,rfl,g1,g2,g3⟩
end
end MR

set_option Elab.async false
set_option linter.all false
set_option maxRecDepth 100000
set_option maxHeartbeats 4000000
namespace MR
open PySem PySem.Spec PyProof.Rows L2 L3
section
variable {K:PySem.W.Frag} {Z:Fp} {H:Hp}
theorem f7:∀ {ws:List M.W} {n i:Nat} {w:M.W},M.rd (ws.map some ++ List.replicate n none) i = some w -> ws[i]? = some w
 | [],0,i,w,h=>by simp [M.rd] at h
 | [],n + 1,0,w,h=>by simp [List.replicate_succ,M.rd] at h
 | [],n + 1,i + 1,w,h=>by
  have:M.rd (([]:List M.W).map some ++ List.replicate n none) i = some w:=by simpa [List.replicate_succ,M.rd] using h
  have:=f7 this
  simp at this
 | u :: ws,n,0,w,h=>by simpa [M.rd] using h
 | u :: ws,n,i + 1,w,h=>by
  have:M.rd (ws.map some ++ List.replicate n none) i = some w:=by simpa [M.rd] using h
  simpa using f7 this
theorem nE:∀ {ws:List M.W} {vs:List V} {G:Fp},RepW K Z H ws vs G -> ∃ Fs:Fps,(∀ i a,Fs i a -> G a) /\ (∀ i j a,Fs i a -> Fs j a -> i = j) /\ ∀ i w,ws[i]? = some w -> ∃ v,vs[i]? = some v /\ Rep K Z H w.1 w.2 v (Fs i)
 | [],vs,G,_=>⟨fun _=>no,fun _ _ h=>h.elim,fun _ _ _ h=>h.elim,fun i w h=>by simp at h⟩
 | w :: ws,vs,G,⟨x,r,G1,G2,e,h1,h2,hd,p,q⟩=>by
  obtain ⟨Fs,f1,f2,f3⟩:=nE q
  subst e
  refine ⟨fun i=>match i with | 0=>G1 | i + 1=>Fs i,fun i a h=>?_,fun i j a hi hj=>?_,fun i u h=>?_⟩
  ·cases i with
   | zero=>exact h1 a h
   | succ i=>exact h2 a (f1 i a h)
  ·cases i with
   | zero =>
    cases j with
    | zero=>rfl
    | succ j=>exact absurd (f1 j a hj) (hd a hi)
   | succ i =>
    cases j with
    | zero=>exact absurd (f1 i a hi) (hd a hj)
    | succ j=>exact congrArg (· + 1) (f2 i j a hi hj)
  ·cases i with
   | zero=>simp only [List.getElem?_cons_zero,Option.some.injEq] at h; subst h; exact ⟨x,rfl,p⟩
   | succ i=>simpa using f3 i u (by simpa using h)
def slN (n:Nat):Nat -> Option Nat:=fun i=>if i < n then some i else none
theorem dm {sl:Cf} {σ:L2.St} {Fs:Fps} {η:M.Env} {G:Fp} {vs:List V} (A:At K sl σ Z H Fs η G):∀ {io:List Nat} {bs:List M.W},io.Nodup -> (∀ i ∈ io,sl.pv i = vs[i]? /\ i < vs.length) -> M.backs io η = some bs -> RepW K Z H bs (atV io vs) (fun a=>∃ i ∈ io,Fs i a)
 | [],bs,_,_,h=>by
  simp only [M.backs,Option.some.injEq] at h; subst h; rfl
 | i :: io,bs,nd,hv,h=>by
  simp only [M.backs] at h
  cases e:M.rd η i with
  | none=>rw [e] at h; cases h
  | some w =>
   rw [e] at h
   simp only [Option.bind_some] at h
   cases e2:M.backs io η with
   | none=>rw [e2] at h; cases h
   | some ws =>
    rw [e2] at h
    simp only [Option.bind_some,Option.some.injEq] at h
    subst h
    obtain ⟨v,r,_,hp⟩:=A.env i w.1 w.2 e
    have hi:=hv i List.mem_cons_self
    obtain ⟨u,hu⟩:∃ u,vs[i]? = some u:=⟨vs[i]'hi.2,List.getElem?_eq_getElem hi.2⟩
    have:=hp u (hi.1.trans hu)
    subst this
    refine ⟨v,atV io vs,Fs i,fun a=>∃ j ∈ io,Fs j a,?_,fun a h=>⟨i,List.mem_cons_self,h⟩,fun a ⟨j,hj,h⟩=>⟨j,List.mem_cons_of_mem _ hj,h⟩,fun a h ⟨j,hj,h'⟩=>?_,r,dm A (List.nodup_cons.mp nd).2 (fun j hj=>hv j (List.mem_cons_of_mem _ hj)) e2⟩
    ·rw [atV,List.filterMap_cons,hu]; rfl
    ·exact (List.nodup_cons.mp nd).1 (A.gd.dis i j a h h' ▸ hj)
end
section
variable {P:Program} {w:World} {K:PySem.W.Frag} {mg:Str -> Option Value} {base:Heap}
theorem l0 {Z:Fp} {H:Hp} {ws:List M.W} {vs:List V} {G:Fp} {N:List Str} {n:Nat} {io:List Nat} (r:RepW K Z H ws vs G) (o:Own Z H G) (z:∀ a,Z a -> H a ≠ none) (hl:vs.length <= N.length) :
  ∃ Fs,(∀ a,tot Fs a -> G a) /\ At K ⟨slN N.length,fun i=>if i ∈ io then vs[i]? else none⟩ (L2.start N vs) Z H Fs (ws.map some ++ List.replicate n none) no:=by
 obtain ⟨Fs,f1,f2,f3⟩:=nE r
 have st:∀ i v,vs[i]? = some v -> (L2.start N vs)[i]? = some (some v):=fun i v h=>by
  have hi:=(List.getElem?_eq_some_iff.mp h).1
  rw [L2.start,List.getElem?_append_left (by simpa using hi),List.getElem?_map,h]; rfl
 refine ⟨Fs,fun a ⟨i,h⟩=>f1 i a h,⟨⟨fun a ⟨i,h⟩=>o a (f1 i a h),f2,z⟩,fun i m t e=>?_,fun a h=>h.elim,fun a h=>h.elim,fun i u j hu hj=>?_,fun i j hj=>?_⟩⟩
 ·obtain ⟨v,hv,rp⟩:=f3 i (m,t) (f7 e)
  refine ⟨v,rp,fun j hj=>?_,fun u hu=>?_⟩
  ·simp only [slN] at hj
   split at hj
   ·cases hj; exact st i v hv
   ·cases hj
  ·simp only at hu
   split at hu
   ·rw [hv] at hu; cases hu; rfl
   ·cases hu
 ·simp only at hu
  simp only [slN] at hj
  split at hj
  ·cases hj
   split at hu
   ·exact st i u hu
   ·cases hu
  ·cases hj
 ·simp only [slN] at hj
  split at hj
  ·cases hj
   rename_i h
   rw [L2.start,List.length_append,List.length_map,List.length_replicate]; omega
  ·cases hj
theorem Fun.okM {x qual:Str} {st:Stmt} {f:Addr} {fd:FuncData} {N ps:List Str} {k:Nat} {C:M.Call} {d:M.Fn} (F:L2.Fun K x qual st f fd) (S:ax N ps (defScope st)) (hps:d.ps = ps.length) (hle:ps.length <= N.length) (nd:d.io.Nodup) (hio:∀ i ∈ d.io,i < ps.length)
  (hbody:∀ (cdv:Value) (A:Around) (outer:List Env) (s:Shared) (H:Hp) (E:XK),Room k (A.deeper (envOfC qual (defScope st) s.heap.objs.size f cdv)) ->
   SSs (f6 CX0 P w K mg base N qual (defScope st) f cdv A outer s H E).nox (slN N.length) d.io C (defBody st) d.body) {g:Nat} {C':M.Call} (hC:∀ ws,C' g ws = M.runF C d ws):FnOk P w K mg base CX0 (k + 1) f fd ps (spS K C' g d.io):=by
 have len:∀ vs H Q E,spS K C' g d.io vs H Q E -> vs.length = ps.length:=fun vs H Q E ⟨Z,ws,G,w,bs,r,_,_,hr,_⟩=>by
  rw [hC] at hr
  unfold M.runF at hr
  split at hr
  ·rename_i h; rw [r.length,h,hps]
  ·cases hr
 refine F.ok S len fun cdv A outer s H vs Q E hr h=>⟨_,hbody cdv A outer s H E hr,?_⟩
 have hlen:=len vs H Q E h
 obtain ⟨Z,ws,G,w,bs,r,o,z,hc,q⟩:=h
 rw [hC] at hc
 have hwl:ws.length = d.ps:=by rw [<- r.length,hlen,hps]
 rw [M.x_run _ _ _ hwl] at hc
 obtain ⟨Fs,ft,A0⟩:=l0 (n:=d.ns) (io:=d.io) r o z (N:=N) (by omega)
 refine ⟨_,Z,Fs,_,⟨fun i i' j h h'=>?_,fun i h=>if_neg h⟩,A0,?_⟩
 ·simp only [slN] at h h'
  split at h
  ·split at h'
   ·cases h; cases h'; rfl
   ·cases h'
  ·cases h
 have hv:∀ i ∈ d.io,(if i ∈ d.io then vs[i]? else none) = vs[i]? /\ i < vs.length:=fun i hi=>⟨if_pos hi,hlen ▸ hio i hi⟩
 cases e:M.evSs C d.body (ws.map some ++ List.replicate d.ns none) with
 | nx η =>
  rw [e] at hc
  intro σ' Z' H' Fs' A' t
  simp only [M.Fl.out] at hc
  cases e2:M.backs d.io η with
  | none=>rw [e2] at hc; cases hc
  | some cs =>
   rw [e2] at hc
   cases hc
   refine q .non Z' H' no _ rfl (dm A' nd hv e2) (fun _ h=>h.elim) (fun a h=>h.elim (fun z=>z.elim) fun ⟨i,_,z⟩=>A'.gd.own a ⟨i,z⟩) (t.mono ft fun a h=>h.elim (fun z=>z.elim) fun ⟨i,_,z⟩=>⟨i,z⟩)
 | rt u η =>
  rw [e] at hc
  intro v σ' Z' H' Fs' G' A' rp t
  simp only [M.Fl.out] at hc
  cases e2:M.backs d.io η with
  | none=>rw [e2] at hc; cases hc
  | some cs =>
   rw [e2] at hc
   cases hc
   exact q v Z' H' G' _ rp (dm A' nd hv e2) (fun a h ⟨i,_,z⟩=>A'.dis a h ⟨i,z⟩) (fun a h=>h.elim (A'.own a) fun ⟨i,_,z⟩=>A'.gd.own a ⟨i,z⟩) (t.mono ft fun a h=>h.elim .inr fun ⟨i,_,z⟩=>.inl ⟨i,z⟩)
 | bk η=>rw [e] at hc; cases hc
 | ex c x η=>rw [e] at hc; cases hc
 | no=>rw [e] at hc; cases hc
end
end MR

set_option Elab.async false
set_option linter.all false
set_option maxRecDepth 100000
set_option maxHeartbeats 4000000
namespace MR
open PySem PySem.Spec PyProof.Rows L2 L3
def TopV (K:PySem.W.Frag) (H:Hp):Th -> V -> Prop
 | .tup _,x=>∃ a vs,x = .ref a /\ SqT K H a vs
 | .lst _,x=>∃ a vs,x = .ref a /\ SqL K H a vs
 | .non,x=>x = .non
 | .bl b,x=>x = .bl b
 | .int i,x=>x = .int i
 | .str z,x=>x = .str z
theorem iJ {X:Cx} {c:String} (hc:c ∈ ["tuple","str","bool","int","list"]):cG X (.builtin "isinstance") (fun xs H Q=>∃ x t,xs = [x,.ty c] /\ TopV X.K H t x /\ Q (.bl (isI c t)) H):=by
 intro pins s σ H xs us Q I r h
 obtain ⟨x,t,rfl,ht,q⟩:=h
 obtain ⟨u,w',rfl,ru,rw'⟩:=fC r
 cases rw'
 have e:PySem.W.kitOne X.K (.type t.ty) (.type c) = some (isI c t):=kit_type.trans (dy hc t)
 have fin:∀ tk,EP X pins σ Q (.bool (isI c t)) { s with toks:=tk }:=fun tk=>⟨.bl (isI c t),H,I.tok tk,rfl,q⟩
 cases t with
 | non =>
  obtain rfl:x = .non:=ht
  exact aY I ru .non e fin
 | bl b =>
  obtain rfl:x = .bl b:=ht
  exact aY I ru (.bl b) e fin
 | int i =>
  obtain rfl:x = .int i:=ht
  exact aY I ru (.int i) e fin
 | str z =>
  obtain rfl:x = .str z:=ht
  exact aY I ru (.str z) e fin
 | tup ts =>
  obtain ⟨a,vs,rfl,hS⟩:=ht
  cases ru
  obtain ⟨its,_,p,_⟩:=I.tuple hS
  obtain ⟨o,h1,h2,_⟩:=p
  exact PySem.W.kia_one PySem.W.kitx_tuple I.kIn ⟨o,h1,h2⟩ e (fun z=>nomatch z) fin
 | lst ts =>
  obtain ⟨a,vs,rfl,hS⟩:=ht
  cases ru
  obtain ⟨its,_,p,_⟩:=I.list hS
  obtain ⟨o,n,h1,h2,_⟩:=p
  exact PySem.W.kia_one PySem.W.kitx_list I.kIn ⟨o,h1,h2⟩ e (fun z=>nomatch z) fin
theorem pM {X:Cx} {c1 c2:String} (h1:c1 ∈ ["tuple","str","bool","int","list"]) (h2:c2 ∈ ["tuple","str","bool","int","list"]) :
  cG X (.builtin "isinstance") (fun xs H Q=>∃ x t p,xs = [x,.ref p] /\ SqT X.K H p [.ty c1,.ty c2] /\ TopV X.K H t x /\ Q (.bl (isI c1 t || isI c2 t)) H):=by
 intro pins s σ H xs us Q I r h
 obtain ⟨x,t,p,rfl,hp,ht,q⟩:=h
 obtain ⟨u,w',rfl,ru,rw'⟩:=fC r
 cases rw'
 obtain ⟨its,rv,pt,_⟩:=I.tuple hp
 obtain ⟨y1,y2,rfl,r1,r2⟩:=fC rv
 cases r1
 cases r2
 obtain ⟨⟨oc,od,odt,osl⟩,g1,g2,n,g3⟩:=pt
 have g2':oc = .type "tuple":=g2
 have g3':odt = .seq _ n:=g3
 subst g2' g3'
 have e1:PySem.W.kitOne X.K (.type t.ty) (.type c1) = some (isI c1 t):=kit_type.trans (dy h1 t)
 have e2:PySem.W.kitOne X.K (.type t.ty) (.type c2) = some (isI c2 t):=kit_type.trans (dy h2 t)
 have e:PySem.W.kitAny X.K (.type t.ty) [.type c1,.type c2] = some (isI c1 t || isI c2 t):=by
  unfold PySem.W.kitAny
  rw [e1]
  cases isI c1 t with
  | true=>rfl
  | false =>
   unfold PySem.W.kitAny
   rw [e2]
   cases isI c2 t <;> rfl
 have fin:∀ tk,EP X pins σ Q (.bool (isI c1 t || isI c2 t)) { s with toks:=tk }:=fun tk=>⟨.bl _,H,I.tok tk,rfl,q⟩
 cases t with
 | non =>
  obtain rfl:x = .non:=ht
  cases ru
  exact PySem.W.kia_tup PySem.W.kitx_none I.kIn True.intro g1 e (fun z=>nomatch z) fin
 | bl b =>
  obtain rfl:x = .bl b:=ht
  cases ru
  exact PySem.W.kia_tup PySem.W.kitx_bool I.kIn True.intro g1 e (fun z=>nomatch z) fin
 | int i =>
  obtain rfl:x = .int i:=ht
  obtain ⟨t,rfl⟩:=ru
  exact PySem.W.kia_tup PySem.W.kitx_int I.kIn True.intro g1 e (fun z=>nomatch z) fin
 | str z =>
  obtain rfl:x = .str z:=ht
  obtain ⟨t,rfl⟩:=ru
  exact PySem.W.kia_tup PySem.W.kitx_str I.kIn True.intro g1 e (fun z=>nomatch z) fin
 | tup ts =>
  obtain ⟨a,vs,rfl,hS⟩:=ht
  cases ru
  obtain ⟨its,_,⟨o,q1,q2,_⟩,_⟩:=I.tuple hS
  exact PySem.W.kia_tup PySem.W.kitx_tuple I.kIn ⟨o,q1,q2⟩ g1 e (fun z=>nomatch z) fin
 | lst ts =>
  obtain ⟨a,vs,rfl,hS⟩:=ht
  cases ru
  obtain ⟨its,_,⟨o,n,q1,q2,_⟩,_⟩:=I.list hS
  exact PySem.W.kia_tup PySem.W.kitx_list I.kIn ⟨o,q1,q2⟩ g1 e (fun z=>nomatch z) fin
def thT:M.T -> Th
 | .non=>.non | .bl b=>.bl b | .int i=>.int i | .str x=>.str x | .tup _=>.tup [] | .lst _=>.lst [] | .scr _=>.lst [] | .dct _ _=>.non | .ins _ _ _=>.non | .gone=>.non
theorem jT {K:PySem.W.Frag} {Z:Fp} {H:Hp} {t:M.T} {m:M.Md} {x:V} {G:Fp} (hg:t.isG = false) (r:Rep K Z H m t x G):TopV K H (thT t) x /\ (thT t).ty = t.ty:=by
 cases t with
 | non=>exact ⟨r,rfl⟩
 | bl _=>exact ⟨r,rfl⟩
 | int _=>exact ⟨r,rfl⟩
 | str _=>exact ⟨r.1,rfl⟩
 | tup _=>obtain ⟨p,xs,e,q,_⟩:=r; exact ⟨⟨p,xs,e,q⟩,rfl⟩
 | lst _=>obtain ⟨p,xs,e,_,q,_⟩:=r; exact ⟨⟨p,xs,e,.inl (.inl (by cases m <;> exact q.2))⟩,rfl⟩
 | scr _=>obtain ⟨p,e,_,q⟩:=r; exact ⟨⟨p,_,e,q.sq⟩,rfl⟩
 | dct _ _=>exact r.elim
 | ins _ _ _=>exact r.elim
 | gone=>cases hg
theorem fT {t:Th} {u:M.T} {c:String} (h:t.ty = u.ty):isI c t = M.isOne c u:=by unfold isI M.isOne; rw [h]
section
variable {X:Cx} {sf sg:Nat -> Option Nat} {C:M.Call} {pos p2 p3:Pos} {ea eb ec:Expr} {a b c:M.E} {h:Bool} {n:Nat} {io:List Nat}
theorem kf {Z:Fp} {H H1:Hp} {G:Fp} (same:∀ a o,H a = some o -> H1 a = some o):Step Z H G Z H1 G:=by
 have al:∀ a,H a ≠ none -> H1 a ≠ none:=fun a h=>by
  cases e:H a with
  | none=>exact absurd e h
  | some o=>rw [same a o e]; simp
 exact ⟨fun a o h _=>same a o h,fun _ h=>h,fun _ h=>.inl h,fun _ h=>.inl h,al,fun z a h=>al a (z a h)⟩
theorem oE {K:PySem.W.Frag} {Z:Fp} {H H1:Hp} {G:Fp} {w:M.W} {Q:VK} (same:∀ a o,H a = some o -> H1 a = some o) (k:Out K Z H G w Q):Out K Z H1 G w Q:=fun v Z' H' G' r o t=>k v Z' H' G' r o ((kf same).trans t)
theorem eJ {H:Hp} {p:Addr} {o:HO} (hp:H p = none):∀ a u,H a = some u -> upd H p o a = some u:=fun a u e=>by
 have:a ≠ p:=fun q=>by subst q; rw [hp] at e; cases e
 rw [ab this]; exact e
theorem TopV.same {K:PySem.W.Frag} {H H1:Hp} {t:Th} {x:V} (sm:∀ a o,H a = some o -> H1 a = some o) (h:TopV K H t x):TopV K H1 t x:=by
 cases t with
 | tup _ =>
  obtain ⟨a,vs,e,q⟩:=h
  refine ⟨a,vs,e,?_⟩
  rcases q with (z | ⟨o,z⟩) | z
  ·exact .inl (.inl (sm _ _ z))
  ·exact .inl (.inr ⟨o,sm _ _ z⟩)
  ·exact .inr z
 | lst _ =>
  obtain ⟨a,vs,e,q⟩:=h
  refine ⟨a,vs,e,?_⟩
  rcases q with (z | ⟨o,z⟩) | z
  ·exact .inl (.inl (sm _ _ z))
  ·exact .inl (.inr ⟨o,sm _ _ z⟩)
  ·exact .inr z
 | _=>exact h
theorem eX {c:String} {k:Str} (hc:c ∈ ["tuple","str","bool","int","list"]) (hv:bootBuiltins k = some (.type c)) (hm:X.mg "isinstance" = none) (hm2:X.mg k = none) (ha:SE X sf C ea a) (hg:Gl X "isinstance":=by rfl) (hg2:Gl X k:=by rfl) (hn:k ≠ "__name__":=by decide) (hd:(k == ("__debug__":Str)) = false:=by decide)
  (hs:starEach [ea,.Name k p2] X.env = (false,eval ea X.env) :: starEach [.Name k p2] X.env:=by rfl) (hs2:starEach [.Name k p2] X.env = (false,eval (.Name k p2) X.env) :: starEach [] X.env:=by rfl) (hpl:(backTo pos (starEach [.Name k p2] X.env)).any (·.1) = false:=by rfl) :
  SE X sf C (.Call (.Name "isinstance" p3) [ea,.Name k p2] [] pos) (.op (.isI [c]) h [a]) :=
 av (bO (iJ hc) hg hm PyProof.Rows.boot_isinstance (az ha (az (fQ hg2 hm2 hv hn hd) a9 hs2) hs) (by decide) (by decide) hs hpl) fun σ H Q hw=>by
  obtain ⟨pv,Z,Fs,η,w,η',A,ev,k⟩:=hw
  obtain ⟨ws,h1,h2⟩:=dr ev
  obtain ⟨⟨m,u⟩,η1,us,e1,e2,rfl⟩:=aB h1
  cases e2
  obtain ⟨hug,h2⟩:=ifN (show (if u.isG = true then none else some _) = _ from h2)
  cases h2
  refine ⟨pv,Z,Fs,η,(m,u),η',A,e1,fun x Z' H' Fs' G B r s=>?_⟩
  obtain ⟨t1,t2⟩:=jT hug r
  refine ⟨x,thT u,rfl,t1,?_⟩
  have:=bL (ck B s k)
  rw [fT t2]
  rw [show ([c].any fun c=>M.isOne c u) = M.isOne c u by simp] at this
  exact this
theorem zZ {c1 c2:String} {k1 k2:Str} {p4 pt:Pos} {kt:Nat} (hc1:c1 ∈ ["tuple","str","bool","int","list"]) (hv1:bootBuiltins k1 = some (.type c1)) (hc2:c2 ∈ ["tuple","str","bool","int","list"]) (hv2:bootBuiltins k2 = some (.type c2)) (hm:X.mg "isinstance" = none) (hm1:X.mg k1 = none) (hm2:X.mg k2 = none) (ha:SE X sf C ea a)
  (hg:Gl X "isinstance":=by rfl) (hg1:Gl X k1:=by rfl) (hg2:Gl X k2:=by rfl) (hn1:k1 ≠ "__name__":=by decide) (hd1:(k1 == ("__debug__":Str)) = false:=by decide) (hn2:k2 ≠ "__name__":=by decide) (hd2:(k2 == ("__debug__":Str)) = false:=by decide)
  (hs:starEach [ea,.Tuple [.Name k1 p2,.Name k2 p4] kt pt] X.env = (false,eval ea X.env) :: starEach [.Tuple [.Name k1 p2,.Name k2 p4] kt pt] X.env:=by rfl) (hs2:starEach [.Tuple [.Name k1 p2,.Name k2 p4] kt pt] X.env = (false,eval (.Tuple [.Name k1 p2,.Name k2 p4] kt pt) X.env) :: starEach [] X.env:=by rfl)
  (hs3:starEach [.Name k1 p2,.Name k2 p4] X.env = (false,eval (.Name k1 p2) X.env) :: starEach [.Name k2 p4] X.env:=by rfl) (hs4:starEach [.Name k2 p4] X.env = (false,eval (.Name k2 p4) X.env) :: starEach [] X.env:=by rfl) (hpl:(backTo pos (starEach [.Tuple [.Name k1 p2,.Name k2 p4] kt pt] X.env)).any (·.1) = false:=by rfl) :
  SE X sf C (.Call (.Name "isinstance" p3) [ea,.Tuple [.Name k1 p2,.Name k2 p4] kt pt] [] pos) (.op (.isI [c1,c2]) h [a]) :=
 av (bO (pM hc1 hc2) hg hm PyProof.Rows.boot_isinstance (az ha (az (jg (az (fQ hg1 hm1 hv1 hn1 hd1) (az (fQ hg2 hm2 hv2 hn2 hd2) a9 hs4) hs3)) a9 hs2) hs) (by decide) (by decide) hs hpl) fun σ H Q hw=>by
  obtain ⟨pv,Z,Fs,η,w,η',A,ev,k⟩:=hw
  obtain ⟨ws,h1,h2⟩:=dr ev
  obtain ⟨⟨m,u⟩,η1,us,e1,e2,rfl⟩:=aB h1
  cases e2
  obtain ⟨hug,h2⟩:=ifN (show (if u.isG = true then none else some _) = _ from h2)
  cases h2
  refine ⟨pv,Z,Fs,η,(m,u),η',A,e1,fun x Z' H' Fs' G B r s=>?_⟩
  refine ⟨(by show 2 <= sizeLine; decide),fun p hp=>?_⟩
  have st:=kf (Z:=Z') (G:=fun a=>tot Fs' a \/ G a) (eJ (o:=.tup [.ty c1,.ty c2]) hp)
  obtain ⟨t0,t2⟩:=jT hug r
  have t1:=t0.same (eJ (o:=.tup [.ty c1,.ty c2]) hp)
  refine ⟨x,thT u,p,rfl,.inl (.inl af),t1,?_⟩
  have:=bL (oE (eJ (o:=.tup [.ty c1,.ty c2]) hp) (ck B s k))
  rw [fT t2,fT t2]
  rw [show ([c1,c2].any fun c=>M.isOne c u) = (M.isOne c1 u || M.isOne c2 u) by simp] at this
  exact this
end
end MR

set_option Elab.async false
set_option linter.all false
set_option maxRecDepth 100000
set_option maxHeartbeats 4000000
namespace MR
open PySem PySem.Spec PyProof.Rows L2 L3
structure Txt (mg:Str -> Option Value):Prop where
 isin:mg "isinstance" = none
 int:mg "int" = none
 tup:mg "tuple" = none
 list:mg "list" = none
 bool:mg "bool" = none
 sum:mg "sum" = none
 len:mg "len" = none
 all:mg "all" = none
 zip:mg "zip" = none
 range:mg "range" = none
 enum:mg "enumerate" = none
 any:mg "any" = none
 max:mg "max" = none
 min:mg "min" = none
 sorted:mg "sorted" = none
 str:mg "str" = none
 repr:mg "repr" = none
 abs:mg "abs" = none
 dict:mg "dict" = none
 set:mg "set" = none
 rev:mg "reversed" = none
theorem frc {X:Cx} {scope:Scope} {cl:List (Str × Addr)} {y:Str} {ys:List Str} {i:Nat} {is:List Nat} {c:Addr} (r:Frees X scope cl ys is) (h1:X.N[i]? = some y:=by rfl) (h2:Vis X.env.scope y:=by first | exact Or.inl rfl | exact Or.inr (Or.inl rfl) | exact Or.inr (Or.inr rfl)) (h3:X.env.kindOf y = some .cell \/ X.env.kindOf y = some .free:=by first | exact Or.inl rfl | exact Or.inr rfl)
  (h4:X.env.cells.lookup y = some c:=by rfl) (h5:cl.lookup y = some c:=by rfl) (h6:(relabel scope X.env).names.lookup y = some .cell \/ (relabel scope X.env).names.lookup y = some .free:=by first | exact Or.inl rfl | exact Or.inr rfl):Frees X scope cl (y :: ys) (i :: is):=.cons h1 h2 h3 h4 h5 h6 r
theorem kO {X:Cx} {y:Str} {c:Addr} {cl:List (Str × Addr)} (r:Clo X cl) (h:X.env.cells.lookup y = some c:=by rfl):Clo X ((y,c) :: cl):=.cons h r
section
variable {X:Cx} {sf sg:Nat -> Option Nat} {C:M.Call} {pos p2 p3:Pos} {ea eb ec:Expr} {a b c:M.E} {h:Bool} {n:Nat} {io:List Nat}
section
variable {elt iter cnd:Expr} {x y:Str} {px py pt:Pos} {kt:Nat} {scope:Scope} {tg:List Nat} {k:M.Ik} {src:List M.E} {e cd:M.E}
theorem zC1 (j:Nat) (ls:List Nat) (is:List Nat) (cl:List (Str × Addr)) (ys:List Str) {z:Str} {pz spos:Pos} {xx:M.X} {i t:Nat} (hi:PI X (.Name x px) iter (wI X.K sf C 1 k src)) (he:∀ Ca s H fp,SE (aj X ([x] ++ ys) scope cl Ca s H fp) (inF [t] ls) C elt e)
  (S:aw [x] ys scope) (hcl:Clo X cl) (fr:Frees X scope cl ys is) (hN:X.N.Nodup) (hni:i ∉ io:=by decide) (hsj:sf i = some j:=by rfl) (hj:X.N[j]? = some z:=by rfl) (hz:L2.Loc X.env.scope z:=by first | exact Or.inl rfl | exact Or.inr rfl)
  (hsw:swapsWith (.ListComp elt [⟨(.Name x px),iter,[],0⟩] scope pos) (some (.Name z pz)) spos.line X.env = pure true:=by rfl) (hc:X.calm = true:=by rfl) (hl:ls.map sf = is.map some:=by rfl)
  (hclos:closureFor scope X.env = pure cl:=by with_unfolding_all rfl) (hfr:(scope.names.all fun p=>p.2 != .free || (cl.lookup p.1).isSome) = true:=by rfl)
  (hs:∀ v,foldedSetIterable iter X.env v = pure v:=by intro _; rfl) (hfn:X.fn z = true \/ X.env.scope.names.lookup z = some .local:=by first | exact .inl rfl | exact .inr rfl):SS X sf io C (.Assign [.Name z pz] (.ListComp elt [⟨(.Name x px),iter,[],0⟩] scope pos) spos) (.asg xx i (.comp h k src [t] none e)) :=
 b5 (fP (pre:=[x]) hN hj hz hsw hc hi (Ae S) (fun Ca s H fp=>he Ca s H fp) hclos S hcl hfr fr hs hfn) fun D σ H hw=>c5 rfl (by simp) (cR hl) σ H _ (iV hni hsj D σ H hw)
theorem zC2 (j:Nat) (ls:List Nat) (is:List Nat) (cl:List (Str × Addr)) (ys:List Str) {z:Str} {pz spos:Pos} {xx:M.X} {i t t':Nat} (hi:PI X (.Tuple [.Name x px,.Name y py] kt pt) iter (wI X.K sf C 2 k src)) (he:∀ Ca s H fp,SE (aj X ([x,y] ++ ys) scope cl Ca s H fp) (inF [t,t'] ls) C elt e)
  (S:aw [x,y] ys scope) (hcl:Clo X cl) (fr:Frees X scope cl ys is) (hN:X.N.Nodup) (hni:i ∉ io:=by decide) (hsj:sf i = some j:=by rfl) (hj:X.N[j]? = some z:=by rfl) (hz:L2.Loc X.env.scope z:=by first | exact Or.inl rfl | exact Or.inr rfl)
  (hsw:swapsWith (.ListComp elt [⟨(.Tuple [.Name x px,.Name y py] kt pt),iter,[],0⟩] scope pos) (some (.Name z pz)) spos.line X.env = pure true:=by rfl) (hc:X.calm = true:=by rfl) (hl:ls.map sf = is.map some:=by rfl) (nd:[t,t'].Nodup:=by decide)
  (hclos:closureFor scope X.env = pure cl:=by with_unfolding_all rfl) (hfr:(scope.names.all fun p=>p.2 != .free || (cl.lookup p.1).isSome) = true:=by rfl)
  (hs:∀ v,foldedSetIterable iter X.env v = pure v:=by intro _; rfl) (hfn:X.fn z = true \/ X.env.scope.names.lookup z = some .local:=by first | exact .inl rfl | exact .inr rfl):SS X sf io C (.Assign [.Name z pz] (.ListComp elt [⟨(.Tuple [.Name x px,.Name y py] kt pt),iter,[],0⟩] scope pos) spos) (.asg xx i (.comp h k src [t,t'] none e)) :=
 b5 (fP (pre:=[x,y]) hN hj hz hsw hc hi (zA hc S) (fun Ca s H fp=>he Ca s H fp) hclos S hcl hfr fr hs hfn) fun D σ H hw=>c5 rfl nd (cR hl) σ H _ (iV hni hsj D σ H hw)
end
def Az (P:Program) (w:World) (K:PySem.W.Frag) (mg:Str -> Option Value) (base:Heap) (n:Nat) (C:M.Call) (x:Str) (f:Nat) (io:List Nat) (t:M.T):Prop :=
 ∃ fa fd ps d dv,FnOk P w K mg base CX0 n fa fd ps (spS K C f io) /\ mg x = some (.ref fa) /\ PySem.W.keepIn K (.ref fa) = true /\ Binds K fd ps [d] /\ RelV dv d /\ ∀ Z H m G,Rep K Z H m t dv G
end
end MR

set_option Elab.async false
set_option linter.all false
set_option maxRecDepth 100000
set_option maxHeartbeats 4000000
namespace MR
open PySem PySem.Spec PyProof.Rows L2 L3
section
variable {P:Program} {w:World} {K:PySem.W.Frag} {mg:Str -> Option Value} {base:Heap}
theorem gQ {C:M.Call} {g:Nat} {io:List Nat} {vs:List V} {H:Hp} {Q:VK} {E:XK} (hC:∀ ws,C g ws = .no) (h:spS K C g io vs H Q E):False:=by
 obtain ⟨Z,ws,G,w,bs,_,_,_,e,_⟩:=h
 rw [hC] at e
 cases e
theorem fn0 {f:Addr} {fd:FuncData} {ps:List Str} {k g:Nat} {io:List Nat} {C:M.Call} (hC:∀ ws,C g ws = .no):FnOk P w K mg base CX0 k f fd ps (spS K C g io) :=
 ⟨fun _ _ _ _ h=>(gQ hC h).elim,fun _ _ _ _ _ _ _ _ _ _ _ _ _ h=>(gQ hC h).elim⟩
theorem i6 {Z:Fp} {H:Hp} {a:Addr} {ns:List Int} (hO:nR H) (hl:ns.length <= 63) (h:SqL K H a (ns.map V.int)):Rep K Z H .d (.scr ns) (.ref a) no:=by
 refine ⟨a,rfl,Nat.le_trans hl (by decide),?_⟩
 rcases h with (z | ⟨o,z⟩) | z
 ·rcases hO a with y | ⟨o,xs,y⟩ <;> rw [y] at z <;> cases z
 ·exact .inl ⟨o,z⟩
 ·exact .inr (.inr z)
theorem wR {H:Hp} {a:Addr} {ns:List Int} {C:M.Call} {ix:Nat} (hp:∃ m bs,C ix [(.d,.scr ns)] = .ok ((m,.bl true),bs)) (hl:ns.length <= 63) (hO:nR H) (h:SqL K H a (ns.map V.int)):spS K C ix [] [.ref a] H (fun v _=>v = .bl true) fun _ _ _=>False:=by
 obtain ⟨m,bs,e⟩:=hp
 exact ⟨no,[(.d,.scr ns)],no,(m,.bl true),bs,RepW.one (i6 hO hl h),bo,fun _ z=>z.elim,e,fun v Z' H' G1 G2 r _ _ _ _=>r⟩
end
theorem walkM {C:M.Call} {ix k:Nat} {l:PySem.W.OpenLaw} {q:Program} {loose:List Str} {XP:(Str -> Option Value) -> Heap -> Prop} {YP:World -> Heap -> Prop} {d:DefRec} {K:Params -> PySem.W.Frag} (hp:∀ ns:List Int,ns.length <= 63 -> ∃ m bs,C ix [(.d,.scr ns)] = .ok ((m,.bl true),bs)) (hn:l.most = some 63) (hdf:d.params.defaults = []) (hr:Room k callerA)
  (hY:∀ (w:World) (h:Heap),YP w h -> (K w.params).In h)
  (F:∀ (w:World) (mg:Str -> Option Value) (fa:Addr) (h:Heap),(K w.params).In h -> h.Ns mainGlobals mg -> mg d.name = some (.ref fa) ->
   ∃ fd:FuncData,(∀ (s:Shared) (u:Value),BindsTo s fd ⟨[u],[]⟩ [("script",u)]) /\ ∀ base:Heap,(K w.params).In base -> base.Ns mainGlobals mg -> FnOk l.prog w (K w.params) mg base CX0 k fa fd ["script"] (spS (K w.params) C ix [])) :
  PySem.W.WalkO q loose XP YP l.row.toRowW d [] (fun f vs=>PySem.call f vs) :=
 L2.walk_of (n:=63) (k:=k) (x:="script") (CX:=fun _=>CX0) (sp:=fun w=>spS (K w.params) C ix []) hn (by decide) hdf hr hY F (fun _ _ a ns hl hO hS=>wR (hp ns hl) hl hO hS) fun _ _ _ _ _ z=>z
end MR

set_option Elab.async false
set_option linter.all false
set_option maxRecDepth 100000
set_option maxHeartbeats 4000000
namespace MR
open PySem PySem.Spec PyProof.Rows L2 L3
mutual
def HasA (K:PySem.W.Frag) (H:Hp):Th -> V -> List Addr -> Prop
 | .non,v,as=>v = .non /\ as = []
 | .bl b,v,as=>v = .bl b /\ as = []
 | .int i,v,as=>v = .int i /\ as = []
 | .str x,v,as=>v = .str x /\ as = []
 | .tup ts,v,as=>∃ a vs,v = .ref a /\ SqT K H a vs /\ HasAL K H ts vs as
 | .lst ts,v,as=>∃ a vs bs,v = .ref a /\ H a = some (.lst vs) /\ HasAL K H ts vs bs /\ as = a :: bs
def HasAL (K:PySem.W.Frag) (H:Hp):List Th -> List V -> List Addr -> Prop
 | [],vs,as=>vs = [] /\ as = []
 | t :: ts,vs,as=>∃ v r b c,vs = v :: r /\ HasA K H t v b /\ HasAL K H ts r c /\ as = b ++ c
end
mutual
theorem HasA.has {K:PySem.W.Frag} {H:Hp}:∀ {t:Th} {v:V} {as:List Addr},HasA K H t v as -> Has K H t v
 | .non,_,_,h=>h.1
 | .bl _,_,_,h=>h.1
 | .int _,_,_,h=>h.1
 | .str _,_,_,h=>h.1
 | .tup _,_,_,⟨a,vs,e,q,r⟩=>⟨a,vs,e,q,HasAL.has r⟩
 | .lst _,_,_,⟨a,vs,_,e,q,r,_⟩=>⟨a,vs,e,q,HasAL.has r⟩
theorem HasAL.has {K:PySem.W.Frag} {H:Hp}:∀ {ts:List Th} {vs:List V} {as:List Addr},HasAL K H ts vs as -> HasL K H ts vs
 | [],_,_,h=>h.1
 | _ :: _,_,_,⟨v,r,_,_,e,q,z,_⟩=>⟨v,r,e,HasA.has q,HasAL.has z⟩
end
mutual
theorem HasA.lists {K:PySem.W.Frag} {H:Hp}:∀ {t:Th} {v:V} {as:List Addr},HasA K H t v as -> ∀ b ∈ as,∃ zs,H b = some (.lst zs)
 | .non,_,_,h,b,hb=>by rw [h.2] at hb; cases hb
 | .bl _,_,_,h,b,hb=>by rw [h.2] at hb; cases hb
 | .int _,_,_,h,b,hb=>by rw [h.2] at hb; cases hb
 | .str _,_,_,h,b,hb=>by rw [h.2] at hb; cases hb
 | .tup _,_,_,⟨a,vs,e,q,r⟩,b,hb=>HasAL.lists r b hb
 | .lst _,_,_,⟨a,vs,bs,e,q,r,e2⟩,b,hb=>by
  rw [e2] at hb
  rcases List.mem_cons.mp hb with z | z
  ·rw [z]; exact ⟨vs,q⟩
  ·exact HasAL.lists r b z
theorem HasAL.lists {K:PySem.W.Frag} {H:Hp}:∀ {ts:List Th} {vs:List V} {as:List Addr},HasAL K H ts vs as -> ∀ b ∈ as,∃ zs,H b = some (.lst zs)
 | [],_,_,h,b,hb=>by rw [h.2] at hb; cases hb
 | _ :: _,_,_,⟨v,r,b1,c,e,q,z,e2⟩,b,hb=>by
  rw [e2] at hb
  rcases List.mem_append.mp hb with y | y
  ·exact HasA.lists q b y
  ·exact HasAL.lists z b y
end
structure SBs (as:List Addr) (H H':Hp):Prop where
 keep:∀ b u,b ∉ as -> H b = some u -> H' b = some u
 al:∀ b,H b ≠ none -> H' b ≠ none
instance {as:List Addr} {H H':Hp}:CoeFun (SBs as H H') (fun _=>∀ b u,b ∉ as -> H b = some u -> H' b = some u):=⟨fun s=>s.keep⟩
theorem SBs.refl {as:List Addr} {H:Hp}:SBs as H H:=⟨fun _ _ _ z=>z,fun _ z=>z⟩
theorem SBs.trans {as bs:List Addr} {H H' H'':Hp} (x:SBs as H H') (y:SBs bs H' H''):SBs (as ++ bs) H H'':=⟨fun b u n q=>y b u (fun z=>n (List.mem_append_right _ z)) (x b u (fun z=>n (List.mem_append_left _ z)) q),fun b h=>y.al b (x.al b h)⟩
theorem gf {H H':Hp} (s:Same H H'):∀ b,H b ≠ none -> H' b ≠ none:=fun b h=>by
 cases e:H b with
 | none=>exact absurd e h
 | some o=>rw [s b o e]; simp
theorem SBs.same {as:List Addr} {H H':Hp} (s:Same H H'):SBs as H H':=⟨fun b u _ q=>s b u q,gf s⟩
theorem gN {K:PySem.W.Frag} {H H':Hp} {cs:List Addr} {a:Addr} {vs:List V} (s:SBs cs H H') (hc:∀ b ∈ cs,∃ zs,H b = some (.lst zs)) (h:SqT K H a vs):SqT K H' a vs:=by
 rcases h with (z | ⟨o,z⟩) | z
 ·exact .inl (.inl (s _ _ (fun y=>by obtain ⟨zs,e⟩:=hc _ y; rw [z] at e; cases e) z))
 ·exact .inl (.inr ⟨o,s _ _ (fun y=>by obtain ⟨zs,e⟩:=hc _ y; rw [z] at e; cases e) z⟩)
 ·exact .inr z
mutual
theorem HasA.kept {K:PySem.W.Frag} {H H':Hp} {cs:List Addr} (s:SBs cs H H') (hc:∀ b ∈ cs,∃ zs,H b = some (.lst zs)):∀ {t:Th} {v:V} {as:List Addr},HasA K H t v as -> (∀ b ∈ as,b ∉ cs) -> HasA K H' t v as
 | .non,_,_,h,_=>h
 | .bl _,_,_,h,_=>h
 | .int _,_,_,h,_=>h
 | .str _,_,_,h,_=>h
 | .tup _,_,_,⟨a,vs,e,q,r⟩,d=>⟨a,vs,e,gN s hc q,HasAL.kept s hc r d⟩
 | .lst _,_,_,⟨a,vs,bs,e,q,r,e2⟩,d=>⟨a,vs,bs,e,s _ _ (d a (by rw [e2]; exact List.mem_cons_self)) q,HasAL.kept s hc r fun b hb=>d b (by rw [e2]; exact List.mem_cons_of_mem _ hb),e2⟩
theorem HasAL.kept {K:PySem.W.Frag} {H H':Hp} {cs:List Addr} (s:SBs cs H H') (hc:∀ b ∈ cs,∃ zs,H b = some (.lst zs)):∀ {ts:List Th} {vs:List V} {as:List Addr},HasAL K H ts vs as -> (∀ b ∈ as,b ∉ cs) -> HasAL K H' ts vs as
 | [],_,_,h,_=>h
 | _ :: _,_,_,⟨v,r,b1,c,e,q,z,e2⟩,d=>⟨v,r,b1,c,e,HasA.kept s hc q fun b hb=>d b (by rw [e2]; exact List.mem_append_left _ hb),HasAL.kept s hc z fun b hb=>d b (by rw [e2]; exact List.mem_append_right _ hb),e2⟩
end
theorem HasA.mono {K:PySem.W.Frag} {H H':Hp} (s:Same H H') {t:Th} {v:V} {as:List Addr} (h:HasA K H t v as):HasA K H' t v as:=HasA.kept (cs:=[]) (SBs.same s) (fun _ z=>nomatch z) h fun _ _ z=>nomatch z
theorem HasAL.mono {K:PySem.W.Frag} {H H':Hp} (s:Same H H') {ts:List Th} {vs:List V} {as:List Addr} (h:HasAL K H ts vs as):HasAL K H' ts vs as:=HasAL.kept (cs:=[]) (SBs.same s) (fun _ z=>nomatch z) h fun _ _ z=>nomatch z
theorem HasAL.at {K:PySem.W.Frag} {H:Hp}:∀ {ts:List Th} {vs:List V} {as:List Addr} {x:V} {r:List V},HasAL K H ts vs as -> vs = x :: r -> ∃ t us b c,ts = t :: us /\ HasA K H t x b /\ HasAL K H us r c /\ as = b ++ c
 | [],_,_,_,_,h,e=>by rw [h.1] at e; cases e
 | t :: us,_,_,_,_,⟨v,r',b,c,e1,q,z,e2⟩,e=>by
  rw [e1] at e
  cases e
  exact ⟨t,us,b,c,rfl,q,z,e2⟩
def WSx:Nat -> Th -> Prop
 | 0,_=>False
 | _ + 1,.non=>True
 | _ + 1,.bl _=>True
 | _ + 1,.int _=>True
 | _ + 1,.str _=>True
 | n + 1,.tup ts=>ts.length <= M.LIM /\ ∀ u ∈ ts,WSx n u
 | n + 1,.lst ts=>ts.length <= M.LIM /\ ∀ u ∈ ts,WSx n u
def dY (K:PySem.W.Frag) (n:Nat):Sp:=fun vs H Q _=>∃ (v:V) (t:Th) (as:List Addr),vs = [v] /\ HasA K H t v as /\ as.Nodup /\ WSx n t /\ ∀ H',SBs as H H' -> Q .non H'
mutual
theorem iG {K:PySem.W.Frag} {Z:Fp} {H:Hp}:∀ {t:M.T} {v:V} {G:Fp} {n:Nat},M.dp t <= n -> n <= 64 -> Rep K Z H .d t v G -> ∃ as,HasA K H (th t) v as /\ as.Nodup /\ (∀ b ∈ as,G b) /\ WSx (n + 1) (th t)
 | .non,_,_,_,_,_,r=>⟨[],⟨r,rfl⟩,List.nodup_nil,fun _ h=>(nomatch h),True.intro⟩
 | .bl _,_,_,_,_,_,r=>⟨[],⟨r,rfl⟩,List.nodup_nil,fun _ h=>(nomatch h),True.intro⟩
 | .int _,_,_,_,_,_,r=>⟨[],⟨r,rfl⟩,List.nodup_nil,fun _ h=>(nomatch h),True.intro⟩
 | .str x,_,_,_,_,_,r=>⟨[],⟨r.1,rfl⟩,List.nodup_nil,fun _ h=>(nomatch h),True.intro⟩
 | .tup ts,v,G,n,hd,hn,⟨a,xs,e,q,l,r⟩=>by
  have hd':M.dps ts + 1 <= n:=hd
  match n,hd' with
  | n + 1,hd' =>
   obtain ⟨as,h1,h2,h3,h4⟩:=dw (n:=n) (by omega) (by omega) r
   exact ⟨as,⟨a,xs,e,q,h1⟩,h2,h3,by rw [<- h1.has.length]; exact l,h4⟩
 | .lst ts,v,G,n,hd,hn,⟨a,xs,e,l,q,r⟩=>by
  have hd':M.dps ts + 1 <= n:=hd
  match n,hd' with
  | n + 1,hd' =>
   obtain ⟨as,h1,h2,h3,h4⟩:=dw (n:=n) (by omega) (by omega) r
   refine ⟨a :: as,⟨a,xs,as,e,q.2,h1,rfl⟩,List.nodup_cons.mpr ⟨fun z=>(h3 a z).2 rfl,h2⟩,fun b hb=>?_,by rw [<- h1.has.length]; exact l,h4⟩
   rcases List.mem_cons.mp hb with z | z
   ·rw [z]; exact q.1
   ·exact (h3 b z).1
 | .dct _ _,_,_,_,hd,hn,_=>by have:1000 <= 64:=Nat.le_trans hd hn; omega
 | .ins _ _ _,_,_,_,hd,hn,_=>by have:1000 <= 64:=Nat.le_trans hd hn; omega
 | .gone,_,_,_,hd,hn,_=>by have:1000 <= 64:=Nat.le_trans hd hn; omega
 | .scr _,_,_,_,hd,hn,_=>by have:1000 <= 64:=Nat.le_trans hd hn; omega
theorem dw {K:PySem.W.Frag} {Z:Fp} {H:Hp}:∀ {ts:List M.T} {xs:List V} {G:Fp} {n:Nat},M.dps ts <= n -> n <= 64 -> RepL K Z H .d ts xs G -> ∃ as,HasAL K H (ths ts) xs as /\ as.Nodup /\ (∀ b ∈ as,G b) /\ ∀ u ∈ ths ts,WSx (n + 1) u
 | [],_,_,_,_,_,r=>⟨[],⟨r,rfl⟩,List.nodup_nil,fun _ h=>(nomatch h),fun _ h=>(nomatch h)⟩
 | t :: ts,xs,G,n,hd,hn,⟨x,r,G1,G2,e,w1,w2,d,p,q⟩=>by
  have hd':max (M.dp t) (M.dps ts) <= n:=hd
  obtain ⟨as,h1,h2,h3,h4⟩:=iG (n:=n) (by omega) hn p
  obtain ⟨bs,k1,k2,k3,k4⟩:=dw (n:=n) (by omega) hn q
  refine ⟨as ++ bs,⟨x,r,as,bs,e,h1,k1,rfl⟩,List.nodup_append.mpr ⟨h2,k2,fun a ha b hb z=>d a (h3 a ha) (k3 a (z ▸ hb))⟩,fun b hb=>(List.mem_append.mp hb).elim (fun z=>w1 b (h3 b z)) fun z=>w2 b (k3 b z),fun u hu=>?_⟩
  rcases List.mem_cons.mp (show u ∈ th t :: ths ts from hu) with z | z
  ·rw [z]; exact h4
  ·exact k4 u z
end
theorem WSx.mono:∀ {n m:Nat} {t:Th},n <= m -> WSx n t -> WSx m t
 | 0,_,_,_,h=>h.elim
 | n + 1,m + 1,.non,_,_=>True.intro
 | n + 1,m + 1,.bl _,_,_=>True.intro
 | n + 1,m + 1,.int _,_,_=>True.intro
 | n + 1,m + 1,.str _,_,_=>True.intro
 | n + 1,m + 1,.tup ts,e,⟨h1,h2⟩=>⟨h1,fun u hu=>WSx.mono (by omega) (h2 u hu)⟩
 | n + 1,m + 1,.lst ts,e,⟨h1,h2⟩=>⟨h1,fun u hu=>WSx.mono (by omega) (h2 u hu)⟩
theorem kG {K:PySem.W.Frag} {C:M.Call} {g n:Nat} {vs:List V} {H:Hp} {Q:VK} {E:XK} (hC:∀ ws,C g ws = M.spoilW n ws) (h:spS K C g [] vs H Q E):dY K (n + 1) vs H Q E:=by
 obtain ⟨Z,ws,G,w,bs,r,ow,za,e,q⟩:=h
 rw [hC] at e
 match ws,e,r with
 | [(m,t)],e,r =>
  have e':(if (M.lf m t == .d && (decide (M.dp t <= n) && decide (M.dp t <= 64))) = true then M.Res.ok (((.d,.non):M.W),([]:List M.W)) else .no) = .ok (w,bs):=e
  split at e'
  ·rename_i hc
   rw [Bool.and_eq_true,Bool.and_eq_true,beq_iff_eq,decide_eq_true_eq,decide_eq_true_eq] at hc
   cases e'
   obtain ⟨x,r',G1,G2,e1,w1,w2,d,r1,r2⟩:=r
   cases (show r' = [] from r2)
   have r3:=r1.lf
   rw [hc.1] at r3
   obtain ⟨as,h1,h2,h3,h4⟩:=iG (n:=M.dp t) (Nat.le_refl _) hc.2.2 r3
   refine ⟨x,th t,as,e1,h1,h2,WSx.mono (by omega) h4,fun H' s=>?_⟩
   refine q .non Z H' no no rfl rfl (fun _ z=>z.elim) (fun _ z=>z.elim (fun y=>y.elim) fun y=>y.elim) ⟨fun a o ha hg=>s a o (fun z=>hg (w1 a (h3 a z))) ha,fun _ z=>z,fun _ z=>.inl z,fun _ z=>z.elim (fun y=>y.elim) fun y=>y.elim,s.al,fun z a ha=>s.al a (z a ha)⟩
  ·cases e'
 | [],e,_=>cases e
 | _ :: _ :: _,e,_=>cases e
theorem le2:2 <= sizeLine:=by decide
end MR

set_option Elab.async false
set_option linter.all false
set_option maxRecDepth 100000
set_option maxHeartbeats 4000000
namespace MR
open PySem PySem.Spec PyProof.Rows L2 L3
section
variable {X:Cx} {sf sg:Nat -> Option Nat} {io:List Nat} {C:M.Call} {pos p2:Pos} {ea eb ec:Expr} {a b c:M.E} {h:Bool} {n:Nat}
theorem sj {rest:List Expr} {ta tb:TE} (ha:PE X ea ta) (hb:PE X (.BoolOp .And (eb :: rest) pos) tb):PE X (.BoolOp .And (ea :: eb :: rest) pos) (fun σ H Q=>ta σ H fun x H1=>∃ k,pC X.K x H1 k /\ if k = true then tb σ H1 Q else Q x H1):=by
 intro pins s σ H Q I h
 refine BoolOp_and (thn (ha pins s σ H _ I h) fun v s1 ⟨x,H1,I1,r1,q1⟩=>?_)
 refine thn (jB pins s1 σ H1 x v (fun k H2=>if k = true then tb σ H2 Q else Q x H2) I1 r1 q1) fun k s2 ⟨H2,I2,q2⟩=>?_
 cases k with
 | true=>exact hb pins s2 σ H2 Q I2 (by rw [if_pos rfl] at q2; exact q2)
 | false=>exact ⟨x,H2,I2,r1,by rw [if_neg Bool.false_ne_true] at q2; exact q2⟩
theorem vA1 (ha:SE X sf C ea a):SE X sf C (.BoolOp .And [ea] pos) a:=uD ha
theorem By {rest:List Expr} (ha:SE X sf C ea a) (hb:SE X sf C (.BoolOp .And (eb :: rest) pos) b):SE X sf C (.BoolOp .And (ea :: eb :: rest) pos) (.and a b):=av (sj ha hb) fun σ H Q h=>by
 obtain ⟨pv,Z,Fs,η,w,η',A,ev,k⟩:=vQ σ H Q h
 exact ⟨pv,Z,Fs,η,w,η',A,ev,fun v Z' H' Fs' G B r s=>let ⟨c,t,q⟩:=k v Z' H' Fs' G B r s; ⟨c,gc t,q⟩⟩
theorem sBW (h:SE X sf C ea a):SE X sf C ea a:=h
end
end MR

set_option Elab.async false
set_option linter.all false
set_option maxRecDepth 100000
set_option maxHeartbeats 4000000
namespace MR
open PySem PySem.Spec PyProof.Rows L2 L3
section
variable {K:PySem.W.Frag} {Z:Fp} {H H':Hp} {G G' Gn:Fp} {Q:VK}
theorem kZ (same:∀ b o,H b = some o -> H' b = some o):Stay Z H H':=by
 refine ⟨fun a o _ e=>same a o e,fun a ys e=>?_,fun a o u e=>same a _ e⟩
 rcases e with e | ⟨u,e⟩
 ·exact .inl (same a _ e)
 ·exact .inr ⟨u,same a _ e⟩
theorem pE {w:M.W} {v:V} (ow:Own Z H G) (za:∀ a,Z a -> H a ≠ none) (hg:∀ a,G' a -> G a) (same:∀ b o,H b = some o -> H' b = some o) (hn:∀ a,Gn a -> H a = none /\ ∃ xs,H' a = some (.lst xs))
  (r:Rep K (bq Z G G') H' w.1 w.2 v (fun a=>G' a \/ Gn a)) (k:Out K Z H G w Q):Q v H':=by
 have al:∀ a,H a ≠ none -> H' a ≠ none:=fun a h=>by
  cases e:H a with
  | none=>exact absurd e h
  | some o=>rw [same a o e]; simp
 refine k v (bq Z G G') H' _ r (fun a h=>?_) ⟨fun a o e _=>same a o e,fun a h=>.inl h,fun a h=>h.imp id fun q=>.inl q.1,fun a h=>h.elim (fun z=>.inl (hg a z)) fun z=>.inr (hn a z).1,al,fun q a h=>al a ?_⟩
 ·rcases h with h | h
  ·obtain ⟨nz,ys,e⟩:=ow a (hg a h)
   exact ⟨fun z=>z.elim nz fun q=>q.2 h,ys,same a _ e⟩
  ·obtain ⟨e,ys,e'⟩:=hn a h
   refine ⟨fun z=>z.elim (fun q=>za a q e) fun q=>?_,ys,e'⟩
   obtain ⟨_,zs,e2⟩:=ow a q.1
   rw [e] at e2; cases e2
 ·rcases h with h | h
  ·exact q a h
  ·obtain ⟨_,ys,e⟩:=ow a h.1
   rw [e]; simp
theorem RepL.split {m:M.Md}:∀ {ts us:List M.T} {xs ys:List V} {G:Fp},xs.length = ts.length -> RepL K Z H m (ts ++ us) (xs ++ ys) G -> ∃ G1 G2,(∀ a,G1 a -> G a) /\ (∀ a,G2 a -> G a) /\ (∀ a,G1 a -> ¬ G2 a) /\ RepL K Z H m ts xs G1 /\ RepL K Z H m us ys G2
 | [],us,[],ys,G,_,r=>⟨no,G,fun _ z=>z.elim,fun _ z=>z,fun _ z=>z.elim,rfl,r⟩
 | t :: ts,us,x :: xs,ys,G,hl,⟨x',r',A,B,e,a1,a2,ad,p,q⟩=>by
  cases e
  obtain ⟨G1,G2,g1,g2,gd,q1,q2⟩:=RepL.split (Nat.succ.inj hl) q
  exact ⟨fun a=>A a \/ G1 a,G2,fun a h=>h.elim (a1 a) fun z=>a2 a (g1 a z),fun a h=>a2 a (g2 a h),fun a h z=>h.elim (fun y=>ad a y (g2 a z)) fun y=>gd a y z,⟨x,xs,A,G1,rfl,fun _ z=>.inl z,fun _ z=>.inr z,fun a h z=>ad a h (g1 a z),p,q1⟩,q2⟩
 | [],_,_ :: _,_,_,hl,_=>by cases hl
 | _ :: _,_,[],_,_,hl,_=>by cases hl
theorem jK {N:M.Md}:∀ {ts us:List M.T} {xs ys:List V} {ps:List Addr} {A B:Fp},RepL K Z H N ts xs A -> RepL K Z H N us ys B -> (∀ a,A a -> ¬ B a) -> ps.length = min xs.length ys.length -> (∀ (j:Nat) (p:Addr),ps[j]? = some p -> ∃ x y,xs[j]? = some x /\ ys[j]? = some y /\ SqT K H p [x,y]) ->
  RepL K Z H N.up (M.zipP ts us) (ps.map V.ref) (fun a=>A a \/ B a)
 | [],us,xs,ys,ps,A,B,r1,_,_,hl,_=>by
  cases (show xs = [] from r1)
  rw [List.length_nil,Nat.zero_min] at hl
  cases List.length_eq_zero_iff.mp hl
  rfl
 | _ :: _,[],xs,ys,ps,A,B,_,r2,_,hl,_=>by
  cases (show ys = [] from r2)
  rw [List.length_nil,Nat.min_zero] at hl
  cases List.length_eq_zero_iff.mp hl
  rfl
 | t :: ts,u :: us,xs,ys,ps,A,B,⟨x,r,A1,A2,e,a1,a2,ad,p,q⟩,⟨y,r',B1,B2,e',b1,b2,bd,p',q'⟩,d,hl,hp=>by
  cases e
  cases e'
  match ps,hl,hp with
  | [],hl,_=>rw [List.length_cons,List.length_cons] at hl; simp at hl
  | c :: ps,hl,hp =>
   refine ⟨.ref c,ps.map V.ref,fun a=>A1 a \/ B1 a,fun a=>A2 a \/ B2 a,rfl,fun a h=>h.imp (a1 a) (b1 a),fun a h=>h.imp (a2 a) (b2 a),fun a h z=>?_,?_,jK q q' (fun a h z=>d a (a2 a h) (b2 a z)) (by rw [List.length_cons,List.length_cons,List.length_cons] at hl; omega) fun j p h=>hp (j + 1) p h⟩
   ·rcases h with h | h <;> rcases z with z | z
    ·exact ad a h z
    ·exact d a (a1 a h) (b2 a z)
    ·exact d a (a2 a z) (b1 a h)
    ·exact bd a h z
   ·obtain ⟨x',y',e1,e2,hq⟩:=hp 0 c rfl
    cases e1
    cases e2
    refine ⟨c,[x,y],rfl,hq,(by decide:2 <= M.LIM),?_⟩
    rw [b7]
    exact ⟨x,[y],A1,B1,rfl,fun _ z=>.inl z,fun _ z=>.inr z,fun a h z=>d a (a1 a h) (b1 a z),p,RepL.one p'⟩
theorem fw {m:M.Md} {a:M.T} {ts:List M.T} {v:V} {G:Fp} (e:M.elems (m,a) = some ts) (r:Rep K Z H m a v G):∃ k p xs,v = .ref p /\ Sq K H k p xs /\ xs.length <= M.LIM /\ RepL K Z H m.kid ts xs G:=by
 cases a with
 | lst us =>
  cases e
  obtain ⟨p,xs,rfl,hs,hl,q⟩:=bp r
  exact ⟨false,p,xs,rfl,SqL.of hs,hl,q⟩
 | tup us =>
  cases e
  obtain ⟨p,xs,rfl,hs,hl,q⟩:=cn r
  exact ⟨true,p,xs,rfl,hs,hl,q⟩
 | _=>cases e
theorem my {h:Bool}:Loc K 2 .lzip h fun vs H1 Q=>∃ k1 k2 a1 a2 xs ys,vs = [.ref a1,.ref a2] /\ Sq K H1 k1 a1 xs /\ Sq K H1 k2 a2 ys /\ ∀ l ps,ps.length = min xs.length ys.length -> ps.Pairwise (· < ·) -> (∀ p ∈ ps,H1 p = none /\ l < p) -> H1 l = none -> Q (.ref l) (upd (dI H1 ps xs ys) l (.lst (ps.map V.ref))):=by
 intro ws w vs Z H G Q hn e r ow za k
 match ws,hn,r,e with
 | [(m,a),(n,b)],_,r,e =>
  obtain ⟨x,y,rfl⟩:∃ x y,vs = [x,y]:=by
   have:=r.length
   match vs,this with
   | [x,y],_=>exact ⟨x,y,rfl⟩
  obtain ⟨G1,G2,w1,w2,d,r1,r2⟩:=b4 r
  have e0:((M.elems (m,a)).bind fun ts=>(M.elems (n,b)).bind fun us=>some (((m.kid.meet n.kid).up.up,.lst (M.zipP ts us)):M.W)) = some w:=e
  cases ea:M.elems (m,a) with
  | none=>rw [ea] at e0; cases e0
  | some ts =>
   cases eb:M.elems (n,b) with
   | none=>rw [ea,eb] at e0; cases e0
   | some us =>
    rw [ea,eb] at e0
    cases e0
    obtain ⟨k1,p1,xs,rfl,s1,l1,q1⟩:=fw ea r1
    obtain ⟨k2,p2,ys,rfl,s2,l2,q2⟩:=fw eb r2
    refine ⟨k1,k2,p1,p2,xs,ys,rfl,s1,s2,fun l ps hl hr hp hl0=>?_⟩
    obtain ⟨G',hg,rr⟩:=dg w1 w2 d q1 q2
    have hlp:l ∉ ps:=fun hm=>Nat.lt_irrefl _ (hp l hm).2
    have same:∀ b o,H b = some o -> upd (dI H ps xs ys) l (.lst (ps.map V.ref)) b = some o:=fun b o e=>by
     have h1:b ≠ l:=fun z=>by rw [z,hl0] at e; cases e
     have h2:b ∉ ps:=fun z=>by rw [(hp b z).1] at e; cases e
     rw [ab h1,bP h2]; exact e
    have rr':=rr.keep (Z':=bq Z G G') (kZ same) (fun _ z=>z) fun a o _ e=>same a o e
    obtain ⟨A,B,a1,a2,ad,qa,qb⟩:=RepL.split q1.length rr'
    refine pE (w:=((m.kid.meet n.kid).up.up,.lst (M.zipP ts us))) (K:=K) (G':=G') (Gn:=fun a=>a = l) ow za hg same (fun a h=>by rw [h]; exact ⟨hl0,_,af⟩) ⟨l,ps.map V.ref,rfl,by rw [List.length_map,hl]; omega,(LstR.own (bx _)).mpr ⟨.inr rfl,af⟩,?_⟩ k
    rw [b7]
    refine (jK qa qb ad hl fun j p hj=>?_).mono fun b hb=>?_
    ·obtain ⟨x,y,e1,e2,e3⟩:=fU (H:=H) (xs:=xs) (ys:=ys) hr (by omega) (by omega) hj
     refine ⟨x,y,e1,e2,.inl (.inl ?_)⟩
     rw [ab (fun z=>hlp (by rw [<- z]; exact List.mem_of_getElem? hj))]; exact e3
    ·have hbG:G' b:=hb.elim (a1 b) (a2 b)
     refine ⟨.inl hbG,fun z=>?_⟩
     obtain ⟨_,zs,e⟩:=ow b (hg b hbG)
     rw [z,hl0] at e; cases e
end
section
variable {X:Cx} {sf sg:Nat -> Option Nat} {io:List Nat} {C:M.Call} {pos pos2 p p2:Pos} {ea eb ec:Expr} {a b c:M.E} {h:Bool} {n:Nat}
theorem sLZ (hml:X.mg "list" = none) (hm:X.mg "zip" = none) (ha:SE X sf C ea a) (hb:SE X sf C eb b) (hc:X.calm = true:=by rfl) (hgl:Gl X "list":=by rfl) (hg:Gl X "zip":=by rfl)
  (hs:starEach [ea,eb] X.env = [(false,eval ea X.env),(false,eval eb X.env)]:=by rfl) (hs2:starEach [eb] X.env = [(false,eval eb X.env)]:=by rfl)
  (he:starEach [.Call (.Name "zip" p2) [ea,eb] [] pos2] X.env = (false,eval (.Call (.Name "zip" p2) [ea,eb] [] pos2) X.env) :: starEach [] X.env:=by rfl) :
  SE X sf C (.Call (.Name "list" p) [.Call (.Name "zip" p2) [ea,eb] [] pos2] [] pos) (.op .lzip h [a,b]) :=
 av (y0 hc hgl hml hg hm (slc ha (slc hb sl0 hs2) (by rw [hs,hs2])) hs hs2 he) (gM my rfl)
end
def Ah (ls:List Nat):List V:=ls.map fun (n:Nat)=>V.int (n:Int)
def mz (H H':Hp) (ra:Addr):List Nat -> List V -> List Addr -> Prop
 | [],_,ps=>ps = []
 | n :: ns,ws,ps=>∃ p r,ps = p :: r /\ H p = none /\ p ≠ ra /\ p ∉ r /\ H' p = some (.lst (ws.take n)) /\ mz H H' ra ns (ws.drop n) r
def AD (K:PySem.W.Frag):Sp:=fun vs H Q _=>∃ (la ta:Addr) (ns:List Nat) (ws:List V),vs = [.ref la,.ref ta] /\ SqL K H la (Ah ns) /\ SqL K H ta ws /\ ns.length <= M.LIM /\
 ∀ ra ps H',Same H H' -> H ra = none -> H' ra = some (.lst (ps.map V.ref)) -> mz H H' ra ns ws ps -> Q (.ref ra) H'
end MR

set_option Elab.async false
set_option linter.all false
set_option maxRecDepth 100000
set_option maxHeartbeats 4000000
namespace MR
open PySem PySem.Spec PyProof.Rows L2 L3
section
variable {X:Cx} {sf sg:Nat -> Option Nat} {io:List Nat} {C:M.Call} {pos p2:Pos} {ea eb ec:Expr} {a b c:M.E} {h:Bool} {n:Nat}
end
end MR

set_option Elab.async false
set_option linter.all false
set_option maxRecDepth 100000
set_option maxHeartbeats 4000000
namespace MR
open PySem PySem.Spec PyProof.Rows L2 L3
section
variable {X:Cx} {sf sg:Nat -> Option Nat} {C:M.Call} {pos p2 p3:Pos} {ea eb ec:Expr} {a b c:M.E} {h:Bool} {n:Nat} {io:List Nat}
def PathV (K:PySem.W.Frag) (H:Hp):List Nat -> V -> V -> Prop
 | [],v,u=>u = v
 | j :: p,v,u=>∃ a xs x,v = .ref a /\ (SqL K H a xs \/ SqT K H a xs) /\ xs[j]? = some x /\ PathV K H p x u
theorem PathV.snoc {K:PySem.W.Frag} {H:Hp} {j:Nat}:∀ {p:List Nat} {v u:V},PathV K H (p ++ [j]) v u -> ∃ x,PathV K H p v x /\ PathV K H [j] x u
 | [],v,u,h=>⟨v,rfl,h⟩
 | i :: p,v,u,⟨a,xs,x,e,q,l,r⟩=>by
  obtain ⟨y,h1,h2⟩:=PathV.snoc (p:=p) r
  exact ⟨y,⟨a,xs,x,e,q,l,h1⟩,h2⟩
def wP (K:PySem.W.Frag) (sf:Nat -> Option Nat) (i:Nat) (p:List Nat):TE:=fun σ H Q=>∃ j v u,sf i = some j /\ σ[j]? = some (some v) /\ PathV K H p v u /\ Q u H
abbrev SP (X:Cx) (sf:Nat -> Option Nat) (me:Expr) (i:Nat) (p:List Nat):Prop:=PE X me (wP X.K sf i p)
theorem sPn (j:Nat) {i:Nat} {x:Str} (hs:sf i = some j:=by rfl) (hN:X.N[j]? = some x:=by rfl) (hv:Vis X.env.scope x:=by first | exact Or.inl rfl | exact Or.inr (Or.inl rfl) | exact Or.inr (Or.inr rfl)) (hd:(x == ("__debug__":Str)) = false:=by decide)
  (hcd:(x == ("__classdict__":Str)) = false:=by decide):SP X sf (.Name x pos) i []:=av (cj hN hv hd hcd) fun σ H Q ⟨j',v,u,h1,h2,h3,q⟩=>by
 cases h3
 rw [hs] at h1; cases h1
 exact ⟨v,h2,q⟩
theorem sPi (p:List Nat) (k:Nat) {q:List Nat} {i:Nat} {c:Expr} (ha:SP X sf ea i p) (hk:PE X c (tC (.int k))) (hq:q = p ++ [k]:=by rfl) (hs:cy c:=by intro _ _; rfl):SP X sf (.Subscript ea c pos) i q :=
 av (ko ix_any ha hk hs) fun σ H Q ⟨j,v,u,h1,h2,h3,r⟩=>by
  subst hq
  obtain ⟨x,g1,a,xs,y,e,g2,g3,g4⟩:=h3.snoc
  cases g4
  refine ⟨j,v,x,h1,h2,g1,a,xs,k,u,e,rfl,g2,?_,r⟩
  have:=(List.getElem?_eq_some_iff.mp g3).1
  exact L2.atI_nat g3
theorem RepL.at {K:PySem.W.Frag} {Z:Fp} {H:Hp} {m:M.Md}:∀ {ts:List M.T} {xs:List V} {G:Fp} {j:Nat} {t:M.T},RepL K Z H m ts xs G -> ts[j]? = some t -> ∃ (x:V) (A B:Fp),xs[j]? = some x /\ (∀ a,A a -> G a) /\ (∀ a,B a -> G a) /\ (∀ a,A a -> ¬ B a) /\ Rep K Z H m t x A /\
  ∀ (t':M.T) (A':Fp),(∀ a,A' a -> A a) -> Rep K Z H m t' x A' -> RepL K Z H m (ts.set j t') xs (fun a=>A' a \/ B a)
 | [],_,_,_,_,_,e=>by simp at e
 | t0 :: ts,_,G,0,t,⟨x,r,A,B,e,h1,h2,hd,p,q⟩,e2=>by
  rw [List.getElem?_cons_zero] at e2; cases e2
  refine ⟨x,A,B,by rw [e]; rfl,h1,h2,hd,p,fun t' A' w p'=>?_⟩
  exact ⟨x,r,A',B,e,fun _ z=>.inl z,fun _ z=>.inr z,fun a z=>hd a (w a z),p',q⟩
 | t0 :: ts,_,G,j + 1,t,⟨x,r,A,B,e,h1,h2,hd,p,q⟩,e2=>by
  rw [List.getElem?_cons_succ] at e2
  obtain ⟨y,A2,B2,g0,g1,g2,gd,gp,gq⟩:=RepL.at q e2
  refine ⟨y,A2,fun a=>A a \/ B2 a,by rw [e,List.getElem?_cons_succ]; exact g0,fun a z=>h2 a (g1 a z),fun a z=>z.elim (h1 a) fun z=>h2 a (g2 a z),fun a z w=>w.elim (fun w=>hd a w (g1 a z)) (gd a z),gp,fun t' A' w p'=>?_⟩
  refine ⟨x,r,A,fun a=>A' a \/ B2 a,e,fun _ z=>.inr (.inl z),fun _ z=>z.imp id .inr,fun a z w'=>w'.elim (fun w'=>hd a z (g1 a (w a w'))) fun w'=>hd a z (g2 a w'),p,gq t' A' w p'⟩
theorem ei {K:PySem.W.Frag} {Z:Fp} {H:Hp}:∀ (p:List Nat) {m:M.Md} {t:M.T} {v:V} {G:Fp} {r:M.W × M.T},M.takeP p m t = some r -> Rep K Z H m t v G ->
  ∃ u G1 G2,PathV K H p v u /\ (∀ a,G1 a -> G a) /\ (∀ a,G2 a -> G a) /\ (∀ a,G1 a -> ¬ G2 a) /\ Rep K Z H r.1.1 r.1.2 u G1 /\ Rep K Z H m r.2 v G2
 | [],m,t,v,G,r,e,h=>by
  cases e
  exact ⟨v,G,no,rfl,fun _ z=>z,fun _ z=>z.elim,fun _ _ z=>z,h,trivial⟩
 | j :: p,m,.lst ts,v,G,r,e,⟨a,xs,ev,l,q,rl⟩=>by
  obtain ⟨t,e1,e2⟩:=Option.bind_eq_some_iff.mp (show (ts[j]?).bind _ = some r from e)
  obtain ⟨r',e3,rfl⟩:=Option.map_eq_some_iff.mp e2
  obtain ⟨x,A,B,g0,g1,g2,gd,gp,gq⟩:=rl.at e1
  obtain ⟨u,G1,G2,k1,k2,k3,kd,k4,k5⟩:=ei p e3 gp
  have hH:H a = some (.lst xs):=by cases m <;> exact q.2
  refine ⟨u,G1,fun b=>(G2 b \/ B b) \/ (G b /\ b = a),⟨a,xs,x,ev,.inl (.inl (.inl hH)),g0,k1⟩,fun b z=>(g1 b (k2 b z)).1,fun b z=>z.elim (fun z=>z.elim (fun z=>(g1 b (k3 b z)).1) fun z=>(g2 b z).1) And.left,fun b z w=>?_,k4,a,xs,ev,l,?_,?_⟩
  ·rcases w with (w | w) | w
   ·exact kd b z w
   ·exact gd b (k2 b z) w
   ·exact (g1 b (k2 b z)).2 w.2
  ·cases m with
   | s=>exact q
   | d=>exact ⟨.inr ⟨q.1,rfl⟩,q.2⟩
   | o _=>exact ⟨.inr ⟨q.1,rfl⟩,q.2⟩
  ·exact (gq _ G2 k3 k5).mono fun b z=>⟨.inl z,z.elim (fun z=>(g1 b (k3 b z)).2) fun z=>(g2 b z).2⟩
 | j :: p,m,.tup ts,v,G,r,e,⟨a,xs,ev,q,l,rl⟩=>by
  obtain ⟨t,e1,e2⟩:=Option.bind_eq_some_iff.mp (show (ts[j]?).bind _ = some r from e)
  obtain ⟨r',e3,rfl⟩:=Option.map_eq_some_iff.mp e2
  obtain ⟨x,A,B,g0,g1,g2,gd,gp,gq⟩:=rl.at e1
  obtain ⟨u,G1,G2,k1,k2,k3,kd,k4,k5⟩:=ei p e3 gp
  refine ⟨u,G1,fun b=>G2 b \/ B b,⟨a,xs,x,ev,.inr q,g0,k1⟩,fun b z=>g1 b (k2 b z),fun b z=>z.elim (fun z=>g1 b (k3 b z)) fun z=>g2 b z,fun b z w=>?_,k4,a,xs,ev,q,l,gq _ G2 k3 k5⟩
  exact w.elim (kd b z) (gd b (k2 b z))
 | _ :: _,_,.non,_,_,_,e,_=>by cases e
 | _ :: _,_,.bl _,_,_,_,e,_=>by cases e
 | _ :: _,_,.int _,_,_,_,e,_=>by cases e
 | _ :: _,_,.str _,_,_,_,e,_=>by cases e
 | _ :: _,_,.scr _,_,_,_,e,_=>by cases e
 | _ :: _,_,.dct _ _,_,_,_,e,_=>by cases e
 | _ :: _,_,.ins _ _ _,_,_,_,e,_=>by cases e
 | _ :: _,_,.gone,_,_,_,e,_=>by cases e
def lx (Fs:Fps) (i:Nat) (G:Fp):Fps:=fun l a=>(l = i /\ G a) \/ (l ≠ i /\ Fs l a)
theorem v8 {K:PySem.W.Frag} {i j:Nat} {p:List Nat} (hs:sf i = some j) (σ:L2.St) (H:Hp) (Q:VK) (h:wE K sf C (.mvP i p) σ H Q):wP K sf i p σ H Q:=by
 obtain ⟨pv,Z,Fs,η,w,η',A,ev,k⟩:=h
 obtain ⟨r,h1,h2⟩:=aa (show (M.ofO ((M.rd η i).bind (M.takeW p))).bind (M.kMvP i η) = _ from ev)
 obtain ⟨⟨m,t⟩,e1,e2⟩:=Option.bind_eq_some_iff.mp (bD h1)
 obtain ⟨r',e3,rfl⟩:=Option.map_eq_some_iff.mp (show (M.takeP p m t).map _ = some r from e2)
 cases h2
 obtain ⟨v,rp,hv⟩:=A.env i m t e1
 obtain ⟨u,G1,G2,k1,k2,k3,kd,k4,k5⟩:=ei p e3 rp
 refine ⟨j,v,u,hs,hv.1 j hs,k1,k u Z H (lx Fs i G2) G1 ⟨⟨fun a ⟨l,hl⟩=>?_,fun l l' a hl hl'=>?_,A.gd.zal⟩,fun l m' t' e=>?_,fun a ha=>A.gd.own a ⟨i,k2 a ha⟩,fun a ha ⟨l,hl⟩=>?_,A.lk,A.ln⟩ k4 (cD fun a ha=>?_)⟩
 ·rcases hl with ⟨_,hl⟩ | ⟨_,hl⟩
  ·exact A.gd.own a ⟨i,k3 a hl⟩
  ·exact A.gd.own a ⟨l,hl⟩
 ·have f:∀ l,lx Fs i G2 l a -> Fs l a:=fun l hl=>by
   rcases hl with ⟨q,hl⟩ | ⟨_,hl⟩
   ·rw [q]; exact k3 a hl
   ·exact hl
  exact A.gd.dis l l' a (f l hl) (f l' hl')
 ·rw [a6] at e
  split at e
  ·rename_i hc
   obtain ⟨rfl,_⟩:=hc
   cases e
   exact ⟨v,k5.mono fun a z=>.inl ⟨rfl,z⟩,hv⟩
  ·rename_i hc
   have hli:l ≠ i:=fun z=>hc ⟨z,cH e1⟩
   obtain ⟨v',r',hv'⟩:=A.env l m' t' e
   exact ⟨v',r'.mono fun a z=>.inr ⟨hli,z⟩,hv'⟩
 ·rcases hl with ⟨_,hl⟩ | ⟨hi,hl⟩
  ·exact kd a ha hl
  ·exact hi (A.gd.dis l i a hl (k2 a ha))
 ·rcases ha with ⟨l,⟨_,hl⟩ | ⟨_,hl⟩⟩ | ha
  ·exact ⟨i,k3 a hl⟩
  ·exact ⟨l,hl⟩
  ·exact ⟨i,k2 a ha⟩
theorem AU (j:Nat) {i:Nat} {p:List Nat} (ha:SP X sf ea i p) (hs:sf i = some j:=by rfl):SE X sf C ea (.mvP i p):=av ha (v8 hs)
def CstR (K:PySem.W.Frag) (t:M.T) (v:V):Prop:=∀ (Z:Fp) (H:Hp),Rep K Z H .s t v no
theorem cst_int {K:PySem.W.Frag} (i:Int):CstR K (.int i) (.int i):=fun _ _=>rfl
theorem cst_non {K:PySem.W.Frag}:CstR K .non .non:=fun _ _=>rfl
theorem cst_bl {K:PySem.W.Frag} (b:Bool):CstR K (.bl b) (.bl b):=fun _ _=>rfl
theorem cst_str {K:PySem.W.Frag} {x:Str} (h:M.sOk x = true):CstR K (.str x) (.str x):=fun _ _=>⟨rfl,h⟩
def wx (K:PySem.W.Frag) (w:World) (mg:Str -> Option Value) (x:Str) (tab:List (Str × M.T)):Prop :=
 ∃ a T,mg x = some (.ref a) /\ DTab K w a T /\ ∀ z,match tab.lookup z with
  | some t=>∃ v,T.lookup z = some v /\ CstR K t v
  | none=>T.lookup z = none
theorem xm {K:PySem.W.Frag} {w:World} {ad:Addr} {T:List (Str × V)} {tab:List (Str × M.T)} {e:M.E} (D:DTab K w ad T) (ht:∀ z,match tab.lookup z with
  | some t=>∃ v,T.lookup z = some v /\ CstR K t v
  | none=>T.lookup z = none) (σ:L2.St) (H:Hp) (Q:VK) (h:wE K sf C (.ixT tab e) σ H Q):tOp (fun x y H Q=>∃ a z T v,x = .ref a /\ y = .str z /\ DTab K w a T /\ T.lookup z = some v /\ Q v H) (tC (.ref ad)) (wE K sf C e) σ H Q:=by
 obtain ⟨pv,Z,Fs,η,w',η',A,ev,k⟩:=h
 obtain ⟨⟨u,η1⟩,h1,h2⟩:=aa (show (M.evE C e η).bind (M.kTab tab M.okS) = _ from ev)
 obtain ⟨z,t,e1,e2,h3⟩:=cX h2
 cases h3
 refine ⟨pv,Z,Fs,η,u,η1,A,h1,fun y Z' H' Fs' G B r s=>?_⟩
 obtain ⟨m,t0⟩:=u
 cases (show t0 = _ from e1)
 have q:=ht z
 rw [e2] at q
 obtain ⟨v,q1,q2⟩:=q
 exact ⟨ad,z,T,v,rfl,r.1,D,q1,k v Z' H' Fs' no B.bare (q2 Z' H') (s.mono (fun _ z=>z) fun a ha=>ha.elim .inl fun z=>z.elim)⟩
theorem A9 {x:Str} {tab:List (Str × M.T)} (T:wx X.K X.w X.mg x tab) (ha:SE X sf C ea a) (hg:Gl X x:=by rfl) (hd:(x == ("__debug__":Str)) = false:=by decide) (hs:cy ea:=by intro _ _; rfl):SE X sf C (.Subscript (.Name x p2) ea pos) (.ixT tab a):=by
 obtain ⟨ad,T',hm,D,ht⟩:=T
 exact av (ko pw (ji hg hm hd) ha hs) (xm D ht)
def rN (K:PySem.W.Frag) (w:World) (mg:Str -> Option Value) (x:Str) (ks:List Str):Prop:=∃ a T,mg x = some (.ref a) /\ DTab K w a T /\ ∀ z,(T.lookup z).isSome = ks.contains z
theorem xu {K:PySem.W.Frag} {w:World} {ad:Addr} {T:List (Str × V)} {ks:List Str} {e:M.E} {neg:Bool} (D:DTab K w ad T) (ht:∀ z,(T.lookup z).isSome = ks.contains z) (σ:L2.St) (H:Hp) (Q:VK) (h:wE K sf C (.inT neg ks e) σ H Q) :
  wE K sf C e σ H fun x H1=>∃ z a T',x = .str z /\ V.ref ad = .ref a /\ DTab K w a T' /\ Q (.bl ((T'.lookup z).isSome != neg)) H1:=by
 obtain ⟨pv,Z,Fs,η,w',η',A,ev,k⟩:=h
 obtain ⟨⟨u,η1⟩,h1,h2⟩:=aa (show (M.evE C e η).bind (M.kIn neg ks) = _ from ev)
 obtain ⟨z,e1,e2,e3⟩:=gu h2
 cases e2
 refine ⟨pv,Z,Fs,η,u,_,A,h1,fun y Z' H' Fs' G B r s=>?_⟩
 obtain ⟨m,t0⟩:=u
 cases (show t0 = _ from e1)
 refine ⟨z,ad,T,r.1,rfl,D,?_⟩
 rw [ht z]
 refine k _ Z' H' Fs' no B.bare ?_ (s.mono (fun _ z=>z) fun a ha=>ha.elim .inl fun z=>z.elim)
 rw [show w' = _ from e3]; rfl
def qy (P:Program) (w:World) (K:PySem.W.Frag) (mg:Str -> Option Value) (base:Heap) (n:Nat) (C:M.Call) (x:Str) (tab:List (Str × Nat)):Prop :=
 ∃ a T,mg x = some (.ref a) /\ DTab K w a T /\ ∀ z f,tab.lookup z = some f -> ∃ fa fd ps,T.lookup z = some (.ref fa) /\ FnOk P w K mg base CX0 n fa fd ps (spS K C f []) /\ PySem.W.keepIn K (.ref fa) = true /\ Binds K fd ps []
theorem nr {x:Str} {p p4:Pos} {es:List Expr} {t:TA} {tk:TE} {ad:Addr} (hk:PE X eb tk) (hg:Gl X x) (hm:X.mg x = some (.ref ad)) (ha:PA X (ea :: es) t) (hr:Room n X.A) (hdb:(x == ("__debug__":Str)) = false) (hs:cy eb)
  (he:starEach (ea :: es) X.env = (false,eval ea X.env) :: starEach es X.env) (hpl:(backTo pos (starEach es X.env)).any (·.1) = false) :
  PE X (.Call (.Subscript (.Name x p) eb p4) (ea :: es) [] pos) fun σ H Q=>tk σ H fun y H1=>∃ a z T v,V.ref ad = .ref a /\ y = .str z /\ DTab X.K X.w a T /\ T.lookup z = some v /\ ∃ fa fd ps sp,v = .ref fa /\ FnOk X.prog X.w X.K X.mg X.base CX0 n fa fd ps sp /\ PySem.W.keepIn X.K (.ref fa) = true /\ Binds X.K fd ps [] /\ t σ H1 fun vs H2=>sp vs H2 Q E0:=by
 intro pins s σ H Q I h
 rw [show eval (.Call (.Subscript (.Name x p) eb p4) (ea :: es) [] pos) X.env = (do
  callWith pos (<- eval (.Subscript (.Name x p) eb p4) X.env) [] (backTo pos (starEach (ea :: es) X.env)) (backToKw pos (keywordEach [] X.env))) from rfl]
 refine wpAny_bind (thn (ko pw (ji hg hm hdb) hk hs pins s σ H (fun v H1=>∃ fa fd ps sp,v = .ref fa /\ FnOk X.prog X.w X.K X.mg X.base CX0 n fa fd ps sp /\ PySem.W.keepIn X.K (.ref fa) = true /\ Binds X.K fd ps [] /\ t σ H1 fun vs H2=>sp vs H2 Q E0) I h) fun u s1 ⟨v,H1,I1,rv,fa,fd,ps,sp,ev,F,hkp,hb,q⟩=>?_)
 subst ev
 obtain rfl:u = Value.ref fa:=rv
 refine PySem.W.callWith_K (h₀:=X.base) I1.ok.mod.kin hkp (thn (ha pos pins s1 σ H1 _ I1 q) fun us s2 ⟨vs,H2,I2,r,q2⟩=>⟨I2.kIn,?_⟩) he hpl
 exact lY F hr hb .nil nD I2 r (by rw [List.append_nil]; exact q2)
theorem pd {x:Str} {p p4:Pos} {tab:List (Str × Nat)} {es:List Expr} {bs:List M.E} {k:M.E} (T:qy X.prog X.w X.K X.mg X.base n C x tab) (hr:Room n X.A) (hk:SE X sf C eb k) (ha:SA X sf C (ea :: es) bs) (hio:M.ios bs = []:=by rfl) (hg:Gl X x:=by rfl) (hdb:(x == ("__debug__":Str)) = false:=by decide) (hs:cy eb:=by intro _ _; rfl)
  (he:starEach (ea :: es) X.env = (false,eval ea X.env) :: starEach es X.env:=by rfl) (hpl:(backTo pos (starEach es X.env)).any (·.1) = false:=by rfl):SE X sf C (.Call (.Subscript (.Name x p) eb p4) (ea :: es) [] pos) (.callT tab k bs):=by
 obtain ⟨ad,T',hm,D,ht⟩:=T
 refine av (nr hk hg hm ha hr hdb hs he hpl) fun σ H Q hw=>?_
 obtain ⟨pv,Z,Fs,η,w,η',A,ev,kk⟩:=hw
 obtain ⟨⟨u,η1⟩,h1,h2⟩:=aa (show (M.evE C k η).bind (M.kTab tab (M.kCT C (M.evA C bs) (M.ios bs))) = _ from ev)
 obtain ⟨z,f,e1,e2,h3⟩:=cX h2
 refine ⟨pv,Z,Fs,η,u,η1,A,h1,fun y Z' H' Fs' G B r s=>?_⟩
 obtain ⟨m,t0⟩:=u
 cases (show t0 = _ from e1)
 obtain ⟨fa,fd,ps,q1,q2,q3,q4⟩:=ht z f e2
 refine ⟨ad,z,T',.ref fa,rfl,r.1,D,q1,fa,fd,ps,_,rfl,q2,q3,q4,?_⟩
 have h4:wE X.K sf C (.call f bs) σ H' Q:=⟨pv,Z',Fs',η1,w,η',B.bare,h3,fun v Z2 H2 Fs2 G2 B2 r2 s2=>kk v Z2 H2 Fs2 G2 B2 r2 ((s.mono (fun _ z=>z) fun a ha=>.inl ha).trans s2)⟩
 exact jR (io:=[]) (.inr hio) σ H' Q h4
end
end MR

set_option Elab.async false
set_option linter.all false
set_option maxRecDepth 100000
set_option maxHeartbeats 4000000
namespace MR
open PySem PySem.Spec PyProof.Rows L2 L3
section
variable {X:Cx} {sf:Nat -> Option Nat} {C:M.Call} {me:Expr} {f:Nat} {bs:List M.E}
theorem qC (h:∀ ws,C f ws = .no):SE X sf C me (.call f bs):=fun pins s σ H Q I ⟨pv,Z,Fs,η,w,η',A,ev,k⟩=>by
 obtain ⟨⟨ws,η1⟩,h1,h2⟩:=aa (show (M.evA C bs η).bind (M.kCall C f (M.ios bs)) = _ from ev)
 rw [show M.kCall C f (M.ios bs) (ws,η1) = (C f ws).bind (M.kBack (M.ios bs) η1) from rfl,h] at h2
 cases h2
end
theorem fsc {N P:List Str} {sc:Scope} (h1:sc.kind = .function:=by rfl) (h2:sc.isCoroutine = false:=by rfl) (h3:sc.isGenerator = false:=by rfl) (h4:N.Nodup:=by decide +kernel) (h5:N.take P.length = P:=by rfl) (h6:∀ x ∈ P,sc.names.lookup x = some .local \/ sc.names.lookup x = some .cell:=by decide +kernel) (h7:∀ y ∈ sc.names,y.2 ≠ .free:=by decide +kernel):ax N P sc:=⟨h1,h2,h3,h4,h5,h6,h7⟩
theorem csc {pre ys:List Str} {scope:Scope} (h1:scope.kind = .function:=by rfl) (h2:∀ y ∈ scope.names,y.2 ≠ .cell:=by decide +kernel) (h3:∀ y ∈ scope.names,y.2 = .local -> scope.names.lookup y.1 = some .local:=by decide +kernel) (h4:∀ x ∈ pre,scope.names.lookup x = some .local:=by decide +kernel) (h5:(pre ++ ys).Nodup:=by decide +kernel):aw pre ys scope:=⟨h1,h2,h3,h4,h5⟩
section
variable {P:Program} {w:World} {K:PySem.W.Frag} {mg:Str -> Option Value} {base:Heap} {x:Str} {st:Stmt} {ps N:List Str} {n g:Nat} {io:List Nat} {C C':M.Call} {d:Value} {t:M.T}
structure Df (K:PySem.W.Frag) (mg:Str -> Option Value) (x:Str) (st:Stmt) (ps:List Str):Prop where
 ex:∃ f fd,Fun K x x st f fd /\ Binds K fd ps [] /\ mg x = some (.ref f)
structure DfD (K:PySem.W.Frag) (mg:Str -> Option Value) (x:Str) (st:Stmt) (ps:List Str) (d:Value):Prop where
 ex:∃ f fd dV,Bs K x x st f fd dV /\ Binds K fd ps [] /\ Binds K fd ps [d] /\ mg x = some (.ref f)
theorem Df.ok (e:Df K mg x st ps) (h:∀ f fd,Fun K x x st f fd -> FnOk P w K mg base CX0 n f fd ps (spS K C g io)):ae P w K mg base n C x g io:=by
 obtain ⟨f,fd,F,b,m⟩:=e.ex
 exact ⟨f,fd,ps,h f fd F,m,F.kp,b⟩
theorem Df.z (e:Df K mg x st ps) (hC:∀ ws,C g ws = .no:=by intro _; rfl):ae P w K mg base n C x g io:=e.ok fun _ _ _=>fn0 hC
theorem Df.s (fn:M.Fn) (e:Df K mg x st ps) (S:ax N ps (defScope st))
  (hb:∀ {f:Addr} {cdv:Value} {A:Around} {outer:List Env} {s:Shared} {H:Hp} {E:XK},Room n (A.deeper (envOfC x (defScope st) s.heap.objs.size f cdv)) -> SSs (f6 CX0 P w K mg base N x (defScope st) f cdv A outer s H E).nox (slN N.length) fn.io C (defBody st) fn.body)
  (hC:∀ ws,C' g ws = M.runF C fn ws:=by intro _; rfl) (hps:fn.ps = ps.length:=by rfl) (hle:ps.length <= N.length:=by decide) (nd:fn.io.Nodup:=by decide) (hio:∀ i ∈ fn.io,i < ps.length:=by decide):ae P w K mg base (n + 1) C' x g fn.io :=
 e.ok fun _ _ F=>Fun.okM F S hps hle nd hio (fun _ _ _ _ _ _ h=>hb h) hC
def Raw (K:PySem.W.Frag) (x:Str) (st:Stmt) (dV:Value):Prop:=∃ f oc od sl kV dc pm an cd ct,PySem.W.nsIn K mainGlobals x = some (some (.ref f)) /\ K.lookup f = some ⟨oc,od,.func (PySem.W.fnOf x x (defArgs st) (defBody st) (defScope st) dV kV dc pm an cd ct),sl⟩ /\ PySem.W.codeIn K cd x = true /\ PySem.W.keepIn K (.ref f) = true
theorem bI {h:Heap} (X:K.In h) (G:h.Ns mainGlobals mg) (r:Raw K x st .none) (hb:∀ (kV doc pm:Value) (an:Option Addr) (cdv ct:Value) (us:List Value),us.length = ps.length -> bindArgs (PySem.W.fnOf x x (defArgs st) (defBody st) (defScope st) .none kV doc pm an cdv ct) ⟨us,[]⟩ = pure (ps.zip us)):Df K mg x st ps:=by
 obtain ⟨f,oc,od,sl,kV,dc,pm,an,cd,ct,h1,h2,h3,h4⟩:=r
 have F:=nL (st:=st) h2 h3 h4
 exact ⟨f,_,F,F.binds hb,PySem.W.mg_of X G h1⟩
def CK (K:PySem.W.Frag) (x:Str) (st:Stmt) (v:Value):Prop:=∃ T o m,Raw K x st (.ref T) /\ K.lookup T = some o /\ o.data = .seq #[v] m
theorem xF {h:Heap} {fa:Addr} {pr:Program} {k:Nat} {sp:Sp} (X:K.In h) (G:h.Ns mainGlobals mg) (hfa:mg "law" = some (.ref fa)) (r:Raw K "law" st .none) (hb:∀ (kV dc pm:Value) (an:Option Addr) (cd ct:Value) (s:Shared) (v:Value),BindsTo s (PySem.W.fnOf "law" "law" (defArgs st) (defBody st) (defScope st) .none kV dc pm an cd ct) ⟨[v],[]⟩ [("script",v)])
  (ok:∀ f fd,Fun K "law" "law" st f fd -> ∀ base,FnOk pr w K mg base CX0 k f fd ["script"] sp):∃ fd:FuncData,(∀ (s:Shared) (v:Value),BindsTo s fd ⟨[v],[]⟩ [("script",v)]) /\ ∀ base:Heap,K.In base -> base.Ns mainGlobals mg -> FnOk pr w K mg base CX0 k fa fd ["script"] sp:=by
 obtain ⟨f,oc,od,sl,kV,dc,pm,an,cd,ct,h1,h2,h3,h4⟩:=r
 have e:=hfa.symm.trans (PySem.W.mg_of X G h1)
 cases e
 exact ⟨_,hb kV dc pm an cd ct,fun base _ _=>ok _ _ (nL (st:=st) h2 h3 h4) base⟩
def vW (K:PySem.W.Frag):List Str -> Prop
 | []=>True
 | x :: r=>PySem.W.nsIn K mainGlobals x = some none /\ vW K r
theorem xi {h:Heap} (X:K.In h) (G:h.Ns mainGlobals mg) (r:vW K ["isinstance","int","tuple","list","bool","sum","len","all","zip","range","enumerate","any","max","min","sorted","str","repr","abs","dict","set","reversed"]):Txt mg:=by
 obtain ⟨z1,z2,z3,z4,z5,z6,z7,z8,z9,z10,z11,z12,z13,z14,z15,z16,z17,z18,z19,z20,z21,_⟩:=r
 have m:=fun {x:Str} (z:PySem.W.nsIn K mainGlobals x = some none)=>PySem.W.mg_none_of X G z
 exact ⟨m z1,m z2,m z3,m z4,m z5,m z6,m z7,m z8,m z9,m z10,m z11,m z12,m z13,m z14,m z15,m z16,m z17,m z18,m z19,m z20,m z21⟩
def TabRaw (K:PySem.W.Frag) (w:World) (x:Str) (T:List (Str × V)):Prop:=∃ a es n,PySem.W.nsIn K mainGlobals x = some (some (.ref a)) /\ K.lookup a = some ⟨.type "dict",none,.dict es n,#[]⟩ /\ PySem.W.KeysLit w.params es.toList /\ Paired (fun (p:Str × V) (e:DictEntry)=>(∃ t,e.key = .str p.1 t) /\ RelV p.2 e.val) T es.toList /\ (a == sysModules) = false
theorem TabRaw.tab {h:Heap} {T:List (Str × V)} (X:K.In h) (G:h.Ns mainGlobals mg) (r:TabRaw K w x T):∃ a,mg x = some (.ref a) /\ DTab K w a T:=by
 obtain ⟨a,es,n,h1,h2,h3,h4,h5⟩:=r
 exact ⟨a,PySem.W.mg_of X G h1,⟨es,n,h2,h3,h4⟩,h5⟩
theorem fz (z:Str):∀ T:List (Str × V),(T.lookup z).isSome = (T.map Prod.fst).contains z
 | []=>rfl
 | (k,v) :: T=>by
  rw [List.lookup_cons,List.map_cons,List.contains_cons]
  cases z == k with
  | true=>rfl
  | false=>rw [fz z T]; rfl
theorem ki {h:Heap} {T:List (Str × V)} {ks:List Str} (X:K.In h) (G:h.Ns mainGlobals mg) (r:TabRaw K w x T) (hk:T.map Prod.fst = ks):rN K w mg x ks:=by
 obtain ⟨a,h1,h2⟩:=r.tab X G
 exact ⟨a,T,h1,h2,fun z=>by rw [fz,hk]⟩
def CstL (K:PySem.W.Frag):List (Str × M.T) -> List (Str × V) -> Prop
 | [],[]=>True
 | e :: r,p :: T=>(p.1 = e.1 /\ CstR K e.2 p.2) /\ CstL K r T
 | _,_=>False
theorem fv (z:Str):∀ {tab:List (Str × M.T)} {T:List (Str × V)},CstL K tab T -> match tab.lookup z with
  | some t=>∃ v,T.lookup z = some v /\ CstR K t v
  | none=>T.lookup z = none
 | [],[],_=>rfl
 | (k,t) :: r,(k',v) :: T,⟨⟨e,c⟩,q⟩=>by
  have e':k' = k:=e
  subst e'
  have ih:=fv z q
  rw [List.lookup_cons,List.lookup_cons]
  cases z == k' with
  | true=>exact ⟨v,rfl,c⟩
  | false=>exact ih
 | [],_ :: _,h=>h.elim
 | _ :: _,[],h=>h.elim
theorem pH {h:Heap} {T:List (Str × V)} {tab:List (Str × M.T)} (X:K.In h) (G:h.Ns mainGlobals mg) (r:TabRaw K w x T) (hc:CstL K tab T):wx K w mg x tab:=by
 obtain ⟨a,h1,h2⟩:=r.tab X G
 exact ⟨a,T,h1,h2,fun z=>fv z hc⟩
def NamL (K:PySem.W.Frag) (T:List (Str × V)):List (Str × Str) -> Prop
 | []=>True
 | (k,y) :: r=>(∃ fa,T.lookup k = some (.ref fa) /\ PySem.W.nsIn K mainGlobals y = some (some (.ref fa))) /\ NamL K T r
def pU (K:PySem.W.Frag) (w:World) (mg:Str -> Option Value) (x:Str) (l:List (Str × Str)):Prop:=∃ a T,mg x = some (.ref a) /\ DTab K w a T /\ ∀ z y,l.lookup z = some y -> ∃ fa,T.lookup z = some (.ref fa) /\ mg y = some (.ref fa)
theorem ka {h:Heap} {T:List (Str × V)} {l:List (Str × Str)} (X:K.In h) (G:h.Ns mainGlobals mg) (r:TabRaw K w x T) (hn:NamL K T l):pU K w mg x l:=by
 obtain ⟨a,h1,h2⟩:=r.tab X G
 refine ⟨a,T,h1,h2,fun z y=>?_⟩
 induction l with
 | nil=>intro e; cases e
 | cons p l ih =>
  obtain ⟨k,y'⟩:=p
  intro e
  rw [List.lookup_cons] at e
  cases hz:z == k with
  | true =>
   rw [hz] at e
   cases e
   obtain ⟨fa,q1,q2⟩:=hn.1
   rw [beq_iff_eq.mp hz]
   exact ⟨fa,q1,PySem.W.mg_of X G q2⟩
  | false =>
   rw [hz] at e
   exact ih hn.2 e
def yW (P:Program) (w:World) (K:PySem.W.Frag) (mg:Str -> Option Value) (base:Heap) (n:Nat) (C:M.Call):List (Str × Nat) -> List (Str × Str) -> Prop
 | [],_=>True
 | (k,f) :: r,l=>(∃ y,l.lookup k = some y /\ ae P w K mg base n C y f []) /\ yW P w K mg base n C r l
theorem dW {l:List (Str × Str)} {tab:List (Str × Nat)} (t:pU K w mg x l) (h:yW P w K mg base n C tab l):qy P w K mg base n C x tab:=by
 obtain ⟨a,T,h1,h2,h3⟩:=t
 refine ⟨a,T,h1,h2,fun z f=>?_⟩
 induction tab with
 | nil=>intro e; cases e
 | cons p tab ih =>
  obtain ⟨k,g⟩:=p
  intro e
  rw [List.lookup_cons] at e
  cases hz:z == k with
  | true =>
   rw [hz] at e
   cases e
   obtain ⟨y,q1,fa,fd,ps,q2,q3,q4,q5⟩:=h.1
   rw [beq_iff_eq.mp hz]
   obtain ⟨fa',q6,q7⟩:=h3 k y q1
   rw [q3] at q7
   cases q7
   exact ⟨fa,fd,ps,q6,q2,q4,q5⟩
  | false =>
   rw [hz] at e
   exact ih h.2 e
end
end MR

set_option Elab.async false
set_option linter.all false
set_option maxRecDepth 100000
set_option maxHeartbeats 4000000
namespace MR
open PySem PySem.Spec PyProof.Rows L2 L3
section
variable {X:Cx} {sf sg:Nat -> Option Nat} {C:M.Call} {pos p p2 p3:Pos} {ea eb ec:Expr} {a b c:M.E} {h:Bool} {n:Nat} {io:List Nat} {K:PySem.W.Frag}
theorem qO:Loc K 1 .int h fun xs H Q=>(∃ i,xs = [.int i] /\ Q (.int i) H) \/ ∃ k,xs = [.bl k] /\ Q (.int (if k then 1 else 0)) H:=by
 intro ws w xs Z H G Q hn e r ow za k
 match ws,hn with
 | [(m,a)],_ =>
  obtain ⟨x,rfl,r1⟩:=cU rfl r
  cases a with
  | int i=>cases e; exact .inl ⟨i,by rw [show x = _ from r1],aR k⟩
  | bl b=>cases e; exact .inr ⟨b,by rw [show x = _ from r1],by cases b <;> exact aR k⟩
  | _=>cases e
theorem oz (hm:X.mg "int" = none) (hg:Gl X "int":=by rfl) (ha:SE X sf C ea a) (hs:starEach [ea] X.env = (false,eval ea X.env) :: starEach [] X.env:=by rfl) (hpl:(backTo pos (starEach [] X.env)).any (·.1) = false:=by rfl):SE X sf C (.Call (.Name "int" p) [ea] [] pos) (.op .int h [a]) :=
 av (dB lO hg hm PyProof.Rows.boot_int (slc ha sl0 hs) (by decide) (by decide) hs hpl) (gM qO rfl)
end
end MR
namespace MR
open PySem PySem.Spec PyProof.Rows L2 L3
section
variable {K:PySem.W.Frag} {sl:Cf} {sf:Nat -> Option Nat} {C:M.Call} {σ:L2.St} {Z Z' Z1:Fp} {H H' H1:Hp} {Fs:Fps} {η ηb:M.Env} {vs ls io:List Nat} {pv:Nat -> Option V} {D:br}
def yY (K:PySem.W.Frag) (J:It) (Z:Fp) (H0:Hp) (ts:List (List M.W)):Prop :=
 ∀ H i x H',Stay Z H0 H -> i < ts.length -> J.yld i H x H' -> ∃ p y z q u w g,x = .ref p /\ (∀ b o,H b = some o -> H' b = some o) /\ SqT K H' p [y,z,q] /\ ts[i]? = some [u,w,g] /\ Rep K Z H u.1 u.2 y no /\ Rep K Z H w.1 w.2 z no /\ Rep K Z H g.1 g.2 q no
def wI3 (K:PySem.W.Frag) (sl:Nat -> Option Nat) (C:M.Call) (src:List M.E):TI:=fun σ H R=>∃ pv Z Fs η ws η' ts,At K ⟨sl,pv⟩ σ Z H Fs η no /\ M.evL C src η = .ok (ws,η') /\ M.turns .zip3 ws = some ts /\
 ∀ J Z' H' Fs',At K ⟨sl,pv⟩ σ Z' H' Fs' η' no -> Step Z H (tot Fs) Z' H' (tot Fs') -> Wk K J Z' H' ts -> yY K J Z' H' ts -> R J H'
theorem bR:∀ ts us vs:List M.T,(M.zipT3 ts us vs).length = min ts.length (min us.length vs.length)
 | [],_,_=>by simp [M.zipT3]
 | _ :: _,[],_=>by simp [M.zipT3]
 | _ :: _,_ :: _,[]=>by simp [M.zipT3]
 | t :: ts,u :: us,v :: vs=>by
  show (M.zipT3 ts us vs).length + 1 = _
  rw [bR]; simp only [List.length_cons]; omega
theorem fM:∀ {ts us vs:List M.T} {i:Nat} {t u v:M.T},ts[i]? = some t -> us[i]? = some u -> vs[i]? = some v -> (M.zipT3 ts us vs)[i]? = some [(.s,t),(.s,u),(.s,v)]
 | t :: ts,u :: us,v :: vs,0,_,_,_,h1,h2,h3=>by cases h1; cases h2; cases h3; rfl
 | t :: ts,u :: us,v :: vs,i + 1,_,_,_,h1,h2,h3=>fM (ts:=ts) (us:=us) (vs:=vs) (i:=i) h1 h2 h3
 | [],_,_,_,_,_,_,h,_,_=>by simp at h
 | _ :: _,[],_,_,_,_,_,_,h,_=>by simp at h
 | _ :: _,_ :: _,[],_,_,_,_,_,_,h=>by simp at h
theorem sE {e e' e'':M.E} (σ:L2.St) (H:Hp) (R:It -> Hp -> Prop) (h:wI3 K sf C [e,e',e''] σ H R):ud K (wL K sf C [e,e',e'']) σ H R:=by
 obtain ⟨pv,Z,Fs,η,ws,η',ts,A,ev,ht,k⟩:=h
 refine ⟨pv,Z,Fs,η,ws,η',A,ev,fun vs Z' H' Fs' G B r s=>?_⟩
 obtain ⟨⟨m,a⟩,η1,us,e1,e2,rfl⟩:=aB ev
 obtain ⟨⟨n,b⟩,η2,us,e3,e4,rfl⟩:=aB e2
 obtain ⟨⟨o,c⟩,η3,us,e5,e6,rfl⟩:=aB e4
 cases e6
 obtain ⟨x,xr,G1,G1',rfl,g1,g1',_,r1,rr⟩:=r
 obtain ⟨y,yr,G2,G2',rfl,g2,g2',_,r2,rr⟩:=rr
 obtain ⟨z,zr,G3,G3',rfl,g3,g3',_,r3,rr⟩:=rr
 cases rr
 obtain ⟨t1,rfl⟩:∃ t,a = .lst t:=by cases a <;> first | exact ⟨_,rfl⟩ | (cases ht; done) | (cases b <;> first | (cases ht; done) | (cases c <;> cases ht))
 obtain ⟨t2,rfl⟩:∃ t,b = .lst t:=by cases b <;> first | exact ⟨_,rfl⟩ | (cases ht; done) | (cases c <;> cases ht)
 obtain ⟨t3,rfl⟩:∃ t,c = .lst t:=by cases c <;> first | exact ⟨_,rfl⟩ | cases ht
 cases ht
 obtain ⟨a1,xs,rfl,L1,w1,p1⟩:=Rep.sh r1
 obtain ⟨a2,ys,rfl,L2',w2,p2⟩:=Rep.sh r2
 obtain ⟨a3,zs,rfl,L3',w3,p3⟩:=Rep.sh r3
 have z1:∀ c,(Z' c \/ G1 c) -> (Z' c \/ G c):=fun c h=>h.imp id (g1 c)
 have z2:∀ c,(Z' c \/ G2 c) -> (Z' c \/ G c):=fun c h=>h.imp id fun q=>g1' c (g2 c q)
 have z3:∀ c,(Z' c \/ G3 c) -> (Z' c \/ G c):=fun c h=>h.imp id fun q=>g1' c (g2' c (g3 c q))
 have st1:∀ H0,Stay (fun c=>Z' c \/ G c) H' H0 -> SqL K H0 a1 xs:=fun H0 s=>.inl (.inl (s.1 a1 _ (z1 _ w1.1) w1.2))
 have st2:∀ H0,Stay (fun c=>Z' c \/ G c) H' H0 -> SqL K H0 a2 ys:=fun H0 s=>.inl (.inl (s.1 a2 _ (z2 _ w2.1) w2.2))
 have st3:∀ H0,Stay (fun c=>Z' c \/ G c) H' H0 -> SqL K H0 a3 zs:=fun H0 s=>.inl (.inl (s.1 a3 _ (z3 _ w3.1) w3.2))
 have l1:=p1.length
 have l2:=p2.length
 have l3:=p3.length
 refine ⟨a1,a2,a3,rfl,⟨xs,st1 _ (bh _ _)⟩,⟨ys,st2 _ (bh _ _)⟩,⟨zs,st3 _ (bh _ _)⟩,k _ _ H' Fs' B.freeze (aV B.own s) ⟨fun H0 i s hi=>?_,fun H0 i s hi=>?_,by rw [bR]; omega⟩ fun H0 i x H1 s hi y=>?_⟩
 ·rw [bR] at hi
  exact ⟨xs,ys,zs,xs[i]'(by omega),ys[i]'(by omega),zs[i]'(by omega),st1 _ s,st2 _ s,st3 _ s,by simp,by simp,by simp⟩
 ·rw [bR] at hi
  exact ⟨xs,ys,zs,st1 _ s,st2 _ s,st3 _ s,by omega⟩
 ·rw [bR] at hi
  obtain ⟨p,x1,y1,u1,rfl,hp,rfl,hx,hy,hu⟩:=y
  have hi1:i < t1.length:=by omega
  have hi2:i < t2.length:=by omega
  have hi3:i < t3.length:=by omega
  obtain ⟨x',hx',rx⟩:=p1.get (show t1[i]? = some t1[i] by simp)
  obtain ⟨y',hy',ry⟩:=p2.get (show t2[i]? = some t2[i] by simp)
  obtain ⟨u',hu',ru⟩:=p3.get (show t3[i]? = some t3[i] by simp)
  rw [hx xs (st1 _ s)] at hx'; cases hx'
  rw [hy ys (st2 _ s)] at hy'; cases hy'
  rw [hu zs (st3 _ s)] at hu'; cases hu'
  exact ⟨p,x1,y1,u1,(.s,t1[i]),(.s,t2[i]),(.s,t3[i]),rfl,nN hp,.inl (.inl af),fM (by simp) (by simp) (by simp),((rx.sany (G':=no)).zmono z1).keep s (fun _ z=>z) fun _ _ z=>z.elim,((ry.sany (G':=no)).zmono z2).keep s (fun _ z=>z) fun _ _ z=>z.elim,((ru.sany (G':=no)).zmono z3).keep s (fun _ z=>z) fun _ _ z=>z.elim⟩
def gF3 (K:PySem.W.Frag) (j l o:Nat):TG:=sZ K 3 (dD (bJ j) (dD (bJ l) (dD (bJ o) sD)))
theorem kA {i:Nat} {J:It} {ts:List (List M.W)} {ws:List M.W} {t t' t'' j j' j'':Nat} {x:V} {Q:L2.St -> Hp -> Prop} (N:kL sf io pv) (hio:∀ v ∈ [t,t',t''],v ∉ io) (hs:sf t = some j) (hs':sf t' = some j') (hs'':sf t'' = some j'') (hz:∀ a,Z1 a -> Z a) (st:Stay Z1 H1 H) (yl:yY K J Z1 H1 ts) (A:At K ⟨sf,pv⟩ σ Z H Fs η no)
  (hw:ts[i]? = some ws) (hb:M.bindT [t,t',t''] ws η = some ηb) (y:J.yld i H x H') (k:∀ σ2 H2 Fs2,At K ⟨sf,pv⟩ σ2 Z H2 Fs2 ηb no -> Step Z H (tot Fs) Z H2 (tot Fs2) -> Q σ2 H2):gF3 K j j' j'' x σ H' Q:=by
 have hi:i < ts.length:=(List.getElem?_eq_some_iff.mp hw).1
 obtain ⟨p,y1,z1,q1,u,w,g,rfl,sm,hq,hw',r1,r2,r3⟩:=yl H i x H' st hi y
 rw [hw] at hw'; cases hw'
 cases hb
 have s0:Step Z H no Z H' no:=cP sm
 obtain ⟨A1,s1⟩:=A.op bo s0
 have sn:Stay Z H H':=eh sm
 have r1':Rep K Z H' u.1 u.2 y1 no:=(r1.zmono hz).keep sn (fun _ z=>z) fun _ _ z=>z.elim
 have r2':Rep K Z H' w.1 w.2 z1 no:=(r2.zmono hz).keep sn (fun _ z=>z) fun _ _ z=>z.elim
 have r3':Rep K Z H' g.1 g.2 q1 no:=(r3.zmono hz).keep sn (fun _ z=>z) fun _ _ z=>z.elim
 have A2:=At.set N (hio t (by simp)) hs A1 r1'
 have A3:=At.set N (hio t' (by simp)) hs' A2 r2'
 have A4:=At.set N (hio t'' (by simp)) hs'' A3 r3'
 refine ⟨p,[y1,z1,q1],rfl,hq,rfl,y1,[z1,q1],rfl,z1,[q1],rfl,q1,[],rfl,rfl,k _ _ _ A4 (s1.mono (fun a h=>h.elim id fun z=>z.elim) fun a h=>?_)⟩
 rcases aU h with h | h
 ·rcases aU h with h | h
  ·exact .inl ((aU h).elim id fun z=>z.elim)
  ·exact h.elim
 ·exact h.elim
theorem rj {src:List M.E} {t t' t'' j j' j'':Nat} {body:List M.S} (hio:∀ v ∈ [t,t',t''],v ∉ io) (hs:sf t = some j) (hs':sf t' = some j') (hs'':sf t'' = some j'') (D:br) (σ:L2.St) (H:Hp) (h:wS K sf io C (.forS vs ls .zip3 src [t,t',t''] body) D σ H) :
  uH (wI3 K sf C src) (gF3 K j j' j'') (wSs K sf io C body) D σ H:=by
 obtain ⟨pv,Z,Fs,η,N,A,f⟩:=h
 obtain ⟨⟨ws,η2⟩,h1,h2⟩:=aT (show Fin K ⟨sf,pv⟩ Z H (tot Fs) D (M.Fl.of η (M.evL C src (M.pick vs ls η)) (M.kFor vs .zip3 [t,t',t''] (M.evSs C body) η)) from f)
 obtain ⟨⟨ts,η3⟩,h3,h4⟩:=aT (show Fin K ⟨sf,pv⟩ Z H (tot Fs) D (M.Fl.of η (M.ret (M.share vs η) (M.turns .zip3 ws)) (M.kFor2 [t,t',t''] (M.evSs C body))) from h2)
 obtain ⟨ts',ht,e3⟩:=aq h3
 have e4:ts = ts':=congrArg Prod.fst e3
 have e5:η3 = M.share vs η:=congrArg Prod.snd e3
 subst e4 e5
 have h4':Fin K ⟨sf,pv⟩ Z H (tot Fs) D (M.forL [t,t',t''] (M.evSs C body) ts (M.share vs η)):=h4
 refine ⟨pv,_,kI,_,ws,η2,ts,A.quiet (vs:=vs) (ls:=ls),h1,ht,fun J Z1 H1 Fs1 B s wk yl=>?_⟩
 obtain ⟨B1,s1⟩:=b0 (G:=no) A bo B.gd.zal (s.mono (F2:=fun a=>tot Fs1 a \/ no a) (fun _ z=>z) fun a h=>h.elim id fun z=>z.elim) fun a h=>d0 h
 obtain ⟨B2,s2⟩:=B1.share (vs:=vs)
 have s3:=(s2 s1).mono (F2:=tot (cV Fs vs)) (fun _ z=>z) fun _ z=>.inl z
 have zz:∀ a,Z1 a -> ((Z1 a /\ ¬ bw Fs vs a) \/ bw Fs vs a):=fun a h=>(Classical.em (bw Fs vs a)).elim .inr fun q=>.inl ⟨h,q⟩
 refine ⟨fun i m σ' H'=>m = ts.length - i /\ i <= ts.length /\ ∃ Zi Fsi ηi,At K ⟨sf,pv⟩ σ' Zi H' Fsi ηi no /\ Step (fun a=>(Z1 a /\ ¬ bw Fs vs a) \/ bw Fs vs a) H1 (tot (cV Fs vs)) Zi H' (tot Fsi) /\ Fin K ⟨sf,pv⟩ Zi H' (tot Fsi) D (M.forL [t,t',t''] (M.evSs C body) (ts.drop i) ηi),⟨ts.length,by simp,Nat.zero_le _,_,_,_,B2,Step.refl _ _ _,h4'.step s3⟩,?_⟩
 rintro i m σi H0 ⟨rfl,hi,Zi,Fsi,ηi,Ai,si,fi⟩
 have st:Stay Z1 H1 H0:=by
  have:=B2.gd.own.stay si
  exact ⟨fun a o h=>this.1 a o (zz a h),this.2⟩
 by_cases hlt:i < ts.length
 ·right
  refine ⟨wk.go H0 i st hlt,_,fun σ' H' hw=>⟨ts.length - (i + 1),by omega,hw⟩,fun x H' y=>?_⟩
  have hw:ts[i]? = some ts[i]:=by simp [hlt]
  rw [dA hw] at fi
  obtain ⟨ηb,hb,fb⟩:=aT (show Fin K ⟨sf,pv⟩ Zi H0 (tot Fsi) D (M.Fl.of ηi (M.ofO (M.bindT [t,t',t''] ts[i] ηi)) fun η1=>M.Fl.turn (M.evSs C body η1) (M.forL [t,t',t''] (M.evSs C body) (ts.drop (i + 1)))) from fi)
  refine kA N hio hs hs' hs'' (fun a h=>si.zm a (zz a h)) st yl Ai hw (bD hb) y fun σ2 H2 Fs2 A2 t2=>?_
  refine ⟨pv,Zi,Fs2,ηb,N,A2,il (fb.step t2) fun η' σ' Z' H' Fs' _ f' A' s'=>⟨rfl,hlt,Z',Fs',η',A',(si.trans t2).trans s',f'.step s'⟩⟩
 ·left
  have hi':i = ts.length:=by omega
  subst hi'
  rw [List.drop_length] at fi
  exact ⟨wk.stop H0 _ st (Nat.le_refl _),fi σi Zi H0 Fsi Ai (Step.refl _ _ _)⟩
end
section
variable {X:Cx} {sf sg:Nat -> Option Nat} {C:M.Call} {pos p p2 p3:Pos} {ea eb ec:Expr} {a b c:M.E} {io:List Nat}
theorem wM {es:List Expr} {kt:Nat} {pt p:Pos} (hm:X.mg "zip" = none) (hg:Gl X "zip":=by rfl) (ha:SE X sf C ea a) (hb:SE X sf C eb b) (hc':SE X sf C ec c) (hs:starEach [ea,eb,ec] X.env = [(false,eval ea X.env),(false,eval eb X.env),(false,eval ec X.env)]:=by rfl) (hs2:starEach [eb,ec] X.env = [(false,eval eb X.env),(false,eval ec X.env)]:=by rfl) (hs3:starEach [ec] X.env = [(false,eval ec X.env)]:=by rfl) :
  PI X (.Tuple es kt pt) (.Call (.Name "zip" p) [ea,eb,ec] [] pos) (wI3 X.K sf C [a,b,c]) :=
 kj (qs hg hm (slc ha (slc hb (slc hc' sl0 (by rw [hs3]; rfl)) (by rw [hs2,hs3])) (by rw [hs,hs2])) hs hs2) sE
theorem x6 (j l o:Nat) {t u v:Nat} {x y z:Str} {px py pz pt:Pos} {kt:Nat} {iter:Expr} {r:List Stmt} {s:List M.S} {vs ls:List Nat} {src:List M.E} (hN:X.N.Nodup) (hi:PI X (.Tuple [.Name x px,.Name y py,.Name z pz] kt pt) iter (wI3 X.K sf C src)) (ha:SSs X sf io C r s) (hio:∀ k ∈ [t,u,v],k ∉ io:=by decide) (h1:sf t = some j:=by rfl) (h2:sf u = some l:=by rfl) (h3:sf v = some o:=by rfl) (hj:X.N[j]? = some x:=by rfl) (hl:X.N[l]? = some y:=by rfl) (ho:X.N[o]? = some z:=by rfl)
  (hx:L2.Loc X.env.scope x:=by first | exact Or.inl rfl | exact Or.inr rfl) (hy:L2.Loc X.env.scope y:=by first | exact Or.inl rfl | exact Or.inr rfl) (hz:L2.Loc X.env.scope z:=by first | exact Or.inl rfl | exact Or.inr rfl)
  (hc:X.calm = true:=by rfl) (hp:PassesOwn (model X.prog X.w) X.A X.env X.xe:=by exact PassesOwn.never) (hf:X.fn x = true \/ X.env.scope.names.lookup x = some .local:=by first | exact .inl rfl | exact .inr rfl) (hf':X.fn y = true \/ X.env.scope.names.lookup y = some .local:=by first | exact .inl rfl | exact .inr rfl) (hf'':X.fn z = true \/ X.env.scope.names.lookup z = some .local:=by first | exact .inl rfl | exact .inr rfl) (hs:∀ x,foldedSetIterable iter X.env x = pure x:=by intro _; rfl) :
  SS X sf io C (.For (.Tuple [.Name x px,.Name y py,.Name z pz] kt pt) iter r [] pos) (.forS vs ls .zip3 src [t,u,v] s) :=
 b5 (jm hp hc hi (oV (n:=3) hc (b8 (bF (i:=j) hN hj hx hf) (b8 (bF (i:=l) hN hl hy hf') (b8 (bF (i:=o) hN ho hz hf'') kh)))) ha hs) (rj hio h1 h2 h3)
end
end MR
namespace MR
open PySem PySem.Spec PyProof.Rows L2 L3
section
variable {X:Cx} {sf sg:Nat -> Option Nat} {C:M.Call} {pos p p2 p3:Pos} {ea eb ec:Expr} {a b c:M.E} {h:Bool} {io:List Nat}
end
end MR
namespace MR
open PySem PySem.Spec PyProof.Rows L2 L3
section
variable {X:Cx} {sf sg:Nat -> Option Nat} {C:M.Call} {pos p p2 p3:Pos} {ea eb ec:Expr} {a b c:M.E} {h:Bool} {io:List Nat} {K:PySem.W.Frag}
end
end MR
namespace MR
open PySem PySem.Spec PyProof.Rows L2 L3
section
variable {X:Cx} {sf sg:Nat -> Option Nat} {C:M.Call} {pos p p2 p3:Pos} {ea eb ec:Expr} {a b c:M.E} {h:Bool} {io:List Nat} {K:PySem.W.Frag}
theorem uL {neg:Bool} {ks:List Str} {σ:L2.St} {H:Hp} {Q:Bool -> Hp -> Prop} (hw:wT K sf C (.inT neg ks a) σ H Q):wE K sf C (.inT neg ks a) σ H fun x H'=>∃ k,x = .bl k /\ Q k H':=by
 obtain ⟨pv,Z,Fs,η,w,η',b,A,ev,ht,k⟩:=hw
 refine ⟨pv,Z,Fs,η,w,η',A,ev,fun v Z' H' Fs' G B r s=>?_⟩
 obtain ⟨⟨u,η1⟩,h1,h2⟩:=aa (show (M.evE C a η).bind (M.kIn neg ks) = _ from ev)
 obtain ⟨z,e1,e2,e3⟩:=gu h2
 rw [show w = _ from e3] at ht r
 cases ht
 exact ⟨_,r,k Z' H' Fs' B.bare (s.mono (fun _ z=>z) fun _ z=>.inl z)⟩
theorem zj {x:Str} {ks:List Str} (T:rN X.K X.w X.mg x ks) (ha:SE X sf C ea a) (hg:Gl X x:=by rfl) (hd:(x == ("__debug__":Str)) = false:=by decide) (hb:behindInMarks .In (.Name x p2) = false:=by rfl):SB X sf C (.Compare ea [.In] [.Name x p2] pos) (.inT false ks a):=by
 obtain ⟨ad,T',hm,D,ht⟩:=T
 refine ke (kb oW ha (ji hg hm hd) hb) fun σ H Q hw=>?_
 obtain ⟨pv,Z,Fs,η,w',η',A,ev,k⟩:=xu D ht σ H _ (uL hw)
 refine ⟨pv,Z,Fs,η,w',η',A,ev,fun v Z' H' Fs' G B r s=>?_⟩
 obtain ⟨z,a,T2,e1,e2,e3,q⟩:=k v Z' H' Fs' G B r s
 rw [Bool.bne_false] at q
 exact ⟨z,a,T2,e1,e2,e3,q⟩
end
end MR

set_option linter.all false
set_option maxRecDepth 100000
set_option maxHeartbeats 4000000
namespace MR
open PySem PySem.W L2 M
def CstRs (K:PySem.W.Frag) (ts:List M.T) (xs:List V):Prop:=∀ (Z:Fp) (H:Hp),RepL K Z H .s ts xs no
theorem cst_nil {K:PySem.W.Frag}:CstRs K [] []:=fun _ _=>rfl
theorem cst_cons {K:PySem.W.Frag} {t:M.T} {ts:List M.T} {x:V} {xs:List V} (h:CstR K t x) (r:CstRs K ts xs):CstRs K (t :: ts) (x :: xs):=fun Z H=>⟨x,xs,no,no,rfl,fun _ h=>h,fun _ h=>h,fun _ h=>h.elim,h Z H,r Z H⟩
theorem cst_tup {K:PySem.W.Frag} {ts:List M.T} {xs:List V} {a:Addr} {o:Obj} {its:Array Value} {n:Nat} (h:K.lookup a = some o) (hc:o.cls = .type "tuple") (hd:o.data = .seq its n) (hs:its.size <= sizeLine) (hv:Vals xs its.toList) (hl:xs.length <= LIM) (r:CstRs K ts xs):CstR K (.tup ts) (.ref a):=fun Z H=>⟨a,xs,rfl,.inr ⟨o,its,n,h,hc,hd,hs,hv⟩,hl,r Z H⟩
end MR

set_option Elab.async false
set_option linter.all false
set_option maxRecDepth 100000
set_option maxHeartbeats 4000000
namespace TP
open PySem PySem.W
noncomputable def en (P:Params) (k:Str) (t:Nat) (v:Value):DictEntry:=⟨PyData.keyHash P k,.str k t,v⟩
noncomputable def tu (xs:List Value):Obj:=⟨.type "tuple",none,.seq xs.toArray 0,#[]⟩
noncomputable def fe (xs:List Value):Obj:=⟨.none,none,.fields xs.toArray,#[]⟩
noncomputable def di (es:List DictEntry) (n:Nat):Obj:=⟨.type "dict",none,.dict es.toArray n,#[]⟩
noncomputable abbrev fl:Str:="/claim/cut.py"
noncomputable def iv (i:Int):Value:=.int i 0
noncomputable def cdo (n q:Str) (t t2:Nat) (ln ac:Nat) (f:Nat) (a:Nat) (b:Bool) (x y z:Value):Obj :=
 ⟨.type "code",none,.fields #[.str n t,.str q (t + 1),.str fl (t + 2),iv ln,iv ac,iv 0,iv 0,iv f,.ref a,.bool b,iv 181,.ref (a + 1),.none,x,y,z,iv t2,iv ln,.str fl (t2 + 1)],#[]⟩
noncomputable def ofn (c:Value) (st:Stmt) (q:Str) (g:Nat) (d m:Value) (cd:Value):Obj:=match st with
 | .FunctionDef n ar b _ _ _ sc _ _ _=>⟨c,none,.func { name:=n,qualname:=q,params:=ar,body:=.stmts b,scope:=sc,globals:=g,closure:=[],defaults:=d,kwdefaults:=.none,pyModule:=m,code:=cd },#[]⟩
 | _=>default
noncomputable def tks:List Str -> Nat -> List Value
 | [],_=>[]
 | x :: r,t=>.str x t :: tks r (t + 1)
structure R where
 os:List Obj
 ns:List DictEntry
 tb:List Value
 n:Nat
 tk:Nat
 md:Value
inductive Rc where
 | d | m | c
 | x (k:Str) (kt:Nat) (v:Value) (os:Params -> List Obj) (tb:List Value) (n tk:Nat)
noncomputable def cv:Expr -> Value
 | .Constant (.bool b) _ _=>.bool b
 | _=>.none
noncomputable def dO (P:Params) (n tk:Nat) (md:Value) (st:Stmt):R:=match st with
 | .FunctionDef nm ar b _ _ _ sc _ _ pos =>
  let pr:List Obj × Value × Nat:=match ar.defaults with
   | []=>([],.none,n)
   | ds=>([tu (ds.map cv)],.ref n,n + 1)
  let a:=pr.2.2
  match localNames ar sc (.stmts b) with
  | none=>⟨pr.1 ++ [tu [],fe [],ofn .none st nm 0 .none .none .none,cdo nm nm tk (tk + 3) pos.line ar.args.length 3 a true .none .none (.ref (a + 2)),ofn (.type "function") st nm 3 pr.2.1 md (.ref (a + 3))],
    [en P nm (tk + 5) (.ref (a + 4))],[iv pos.line,iv pos.col,.ref (a + 3)],a + 5,tk + 6,md⟩
  | some l =>
   let k:=l.1.length
   let j:=l.2.length
   ⟨pr.1 ++ [tu [],fe [],tu (tks l.1 (tk + 3)),tu (tks l.2 (tk + 3 + k)),ofn .none st nm 0 .none .none .none,cdo nm nm tk (tk + 3 + k + j) pos.line ar.args.length 3 a true (.ref (a + 2)) (.ref (a + 3)) (.ref (a + 4)),ofn (.type "function") st nm 3 pr.2.1 md (.ref (a + 5))],
    [en P nm (tk + 5 + k + j) (.ref (a + 6))],[iv pos.line,iv pos.col,.ref (a + 5)],a + 7,tk + 6 + k + j,md⟩
 | _=>⟨[],[],[],n,tk,md⟩
noncomputable def one (P:Params) (n tk:Nat) (md:Value) (st:Stmt):Rc -> R
 | .d=>dO P n tk md st
 | .m=>match st with
  | .Assign _ (.Constant (.str s) _ _) _=>⟨[],[],[],n,tk + 2,.str s tk⟩
  | _=>⟨[],[],[],n,tk,md⟩
 | .c=>match st with
  | .Assign (.Name x _ :: _) (.Constant (.str s) _ _) _=>⟨[],[en P x (tk + 1) (.str s tk)],[],n,tk + 2,md⟩
  | .Assign (.Name x _ :: _) (.Constant (.int i) _ _) _=>⟨[],[en P x (tk + 1) (.int i tk)],[],n,tk + 2,md⟩
  | _=>⟨[],[],[],n,tk,md⟩
 | .x k kt v os tb n' tk'=>⟨os P,[en P k kt v],tb,n',tk',md⟩
noncomputable def go (P:Params):List (Stmt × Rc) -> Nat -> Nat -> Value -> List R
 | [],_,_,_=>[]
 | (st,r) :: l,n,tk,md=>let x:=one P n tk md st r
  x :: go P l x.n x.tk x.md
noncomputable def zq (x:R):List R -> R
 | []=>x
 | y :: l=>zq y l
noncomputable def ds:Data -> List DictEntry
 | .dict es _=>es.toList
 | _=>[]
noncomputable def ep:Data -> Nat
 | .dict _ n=>n
 | _=>0
noncomputable def r0:R:=⟨[],[],[],15,187,.str "__main__" 164⟩
noncomputable def rs (P:Params) (l:List (Stmt × Rc)):List R:=go P l 15 187 (.str "__main__" 164)
noncomputable def o3 (P:Params) (l:List R):Obj:=di (en P "__name__" 165 (zq r0 l).md :: ((ds (boot_o_3 P).data).tail ++ l.flatMap R.ns)) (ep (boot_o_3 P).data + (l.flatMap R.ns).length)
noncomputable def os (P:Params) (l:List R):List Obj :=
 boot_o_0 P :: boot_o_1 P :: boot_o_2 P :: o3 P l :: boot_o_4 P :: boot_o_5 P :: boot_o_6 P :: boot_o_7 P :: boot_o_8 P :: boot_o_9 P :: boot_o_10 P ::
 tu [] :: fe (l.flatMap R.tb) :: cdo "<module>" "<module>" 182 185 1 0 0 11 false .none .none .none ::
 ⟨.type "frame",none,.plain,#[some (.ref 13),some (.ref 3),some (.ref 3),none,some (.str "__main__" 164),none,some (.ref 0)]⟩ :: l.flatMap R.os
noncomputable def odd {α:Type}:List α -> List α × List α
 | []=>([],[])
 | x :: l=>(x :: (odd l).2,(odd l).1)
noncomputable def bt:Nat -> List Obj -> BT
 | 0,_=>.nil
 | _ + 1,[]=>.nil
 | k + 1,x :: l=>.node x (bt k (odd l).1) (bt k (odd l).2)
noncomputable abbrev p0:Pos:=⟨0,0,0,0⟩
noncomputable abbrev B0:List Frame:=[topFrame p0]
noncomputable abbrev an:Option Value:=some (.ref 6)
noncomputable def ev (p:Program):Env:={ scope:=p.main.scope,locals:=mainNs,globals:=mainNs,cells:=[],code:=.ref 13,frame:=some 14 }
noncomputable def cE (p:Program):Code:=.body (behindTheImports p) (ev p)
noncomputable def sT (p:Program) (rc:List Rc) (P:Params) (m n tk:Nat) (o:OsState):SharedT:=⟨bt 12 (os P (rs P ((p.main.body.zip rc).take m))),n,{},#[],{},tk,o⟩
noncomputable def hp (p:Program) (rc:List Rc) (m n:Nat) (P:Params):Heap:=absHeap (bt 12 (os P (rs P ((p.main.body.zip rc).take m)))) n {}
noncomputable def Cut (p:Program) (rc:List Rc) (i n t:Nat) (ps:Pos) (k N n' t':Nat) (ps':Pos) (w:World):Prop:=∀ o,segRunT treeTable p w 11 an 1 N (sT p rc w.params i n t o) (piecesOf ((p.main.body.drop i).take k) (ev p) (cE p) ps B0) = some (.next,sT p rc w.params (i + k) n' t' o,cE p,ps')
noncomputable def Ch (p:Program) (rc:List Rc) (m n1 t1:Nat) (i n t:Nat) (ps:Pos) (M:Nat):Prop:=∀ w o,topRun treeTable p w 11 an M (sT p rc w.params i n t o).abs (restOf (p.main.body.drop i) (ev p) (cE p) ps B0) = some (sT p rc w.params m n1 t1 o).abs
theorem aO {p:Program} {rc:List Rc} {m n1 t1 i n t k N n' t' M:Nat} {ps ps':Pos} (c:∀ w,Cut p rc i n t ps k N n' t' ps' w) (h:Ch p rc m n1 t1 (i + k) n' t' ps' M):Ch p rc m n1 t1 i n t ps (N + M):=fun w o=>by
 have x:=piece_app (segRun_of (c w o)) (h w o)
 rw [<- List.drop_drop,List.take_append_drop] at x
 exact x
theorem uo {p:Program} {rc:List Rc} {m n1 t1:Nat} {ps:Pos} (hd:p.main.body.drop m = []):Ch p rc m n1 t1 m n1 t1 ps 2:=fun w o=>by
 rw [hd]
 exact piece_nil rfl
theorem qw (w:World):((boot_heap w.params).isNs mainGlobals && (Array.mk []:Array GenState).size == 0,(boot_heap w.params).objs.size,(boot_heap w.params).nsMap mainGlobals "__annotations__") = (true,11,an):=by kernel_rfl
theorem rE {p q:Program} {loose:List Str} {Xt:Shared -> Bool} {α:Type} {Yf:Shared -> α} {Ya:World -> α} {N M m n1 t1:Nat} {rc:List Rc}
  (e:opening p = plainProg p.main.scope.names) (hN:Nat.ble 600 N = true) (f:∀ s,fenceModules? p s = some s) (hb:behindTheImports p = p.main.body)
  (size:∀ w:World,((boot_heap w.params).isNs mainGlobals && (Array.mk []:Array GenState).size == 0,(boot_heap w.params).objs.size,(boot_heap w.params).nsMap mainGlobals "__annotations__") = (true,11,an))
  (pre:∀ (w:World) (o:OsState),topGo treeTable p w 11 an 12 ⟨boot_heap w.params,Array.mk [],boot_drawn,boot_toks,o⟩ (topStub p) = some ((sT p rc w.params 0 15 187 o).abs,⟨denote treeTable (cE p),cE p,p0,B0⟩))
  (blk:∀ (w:World) (o:OsState),segRun treeTable p w 11 an 1 1 (sT p rc w.params 0 15 187 o).abs (blockOf (behindTheImports p) (ev p) (cE p) p0 B0) = some (.next,(sT p rc w.params 0 15 187 o).abs,cE p,p0))
  (ch:Ch p rc m n1 t1 0 15 187 p0 M) (le:Nat.ble (12 + (1 + M)) N = true)
  (looks:∀ w:World,(fun o=>((staticsOk (importedModules p.main.body) (boot_heap w.params) (hp p rc m n1 w.params) && namesBound p (hp p rc m n1 w.params) && gensDone ⟨hp p rc m n1 w.params,#[],{},t1,o⟩ && laidKept (boot_heap w.params) (hp p rc m n1 w.params)),
    openSeen q loose (importedModules p.main.body) Xt true ⟨hp p rc m n1 w.params,#[],{},t1,o⟩,Yf ⟨hp p rc m n1 w.params,#[],{},t1,o⟩)) = fun _=>(true,openGood q loose,Ya w)):LeftO p q loose Xt Yf Ya N :=
 LeftO.of_pieces (H₀:=boot_heap) (H₁:=hp p rc m n1) (gs₁:=#[]) (d₁:={}) (k₁:=t1) (boot_open e hN f) size
  (fun w o=>go_top (pre w o) (piece_block (blk w o) (by have x:=ch w o; rw [List.drop_zero,<- hb] at x; exact x))) le looks
noncomputable def cb (st:Stmt) (j:Nat):Stmt:=match st with
 | .ClassDef _ _ _ b _ _ _ _ _ _ _=>b.getD j st
 | _=>st
noncomputable def drec (st:Stmt):PySem.DefRec:=match st with
 | .FunctionDef n a b _ _ _ sc _ _ pos=>⟨n,a,b,sc,pos⟩
 | _=>⟨default,default,[],default,default⟩
theorem dR {α:Type}:∀ (l:List α) (i:Nat),(odd l).1[i]? = l[2 * i]? /\ (odd l).2[i]? = l[2 * i + 1]?
 | [],i=>by simp [odd]
 | x :: l,i=>by
  refine ⟨?_,?_⟩
  ·cases i with
   | zero=>simp [odd]
   | succ j=>rw [show 2 * (j + 1) = 2 * j + 1 + 1 by omega]; simp only [odd,List.getElem?_cons_succ]; exact (dR l j).2
  ·simp only [odd,List.getElem?_cons_succ]; exact (dR l i).1
theorem jM {α:Type}:∀ (l:List α),(odd l).1.length = (l.length + 1) / 2 /\ (odd l).2.length = l.length / 2
 | []=>by simp [odd]
 | x :: l=>by
  have h:=jM l
  simp only [odd,List.length_cons,h.1,h.2]
  exact ⟨by omega,trivial⟩
theorem iZ:∀ (k:Nat) (l:List Obj) (a:Nat),l.length < 2 ^ k -> (bt k l).get a = l[a]?
 | 0,l,a,h=>by
  have:l = []:=List.length_eq_zero_iff.mp (by simpa using h)
  subst this; simp [bt,BT.get]
 | k + 1,[],a,h=>by simp [bt,BT.get]
 | k + 1,x :: l,a,h=>by
  have e:2 ^ (k + 1) = 2 * 2 ^ k:=by rw [Nat.pow_succ]; omega
  have hl:=jM l
  simp only [List.length_cons] at h
  unfold bt
  rw [BT.get_node]
  by_cases h0:a = 0
  ·simp [h0]
  ·rw [if_neg h0]
   by_cases h1:a % 2 = 1
   ·rw [if_pos h1,iZ k _ _ (by omega),(dR l (a / 2)).1]
    obtain ⟨b,rfl⟩:∃ b,a = b + 1:=⟨a - 1,by omega⟩
    rw [List.getElem?_cons_succ]; congr 1; omega
   ·rw [if_neg h1,iZ k _ _ (by omega),(dR l (a / 2 - 1)).2]
    obtain ⟨b,rfl⟩:∃ b,a = b + 1:=⟨a - 1,by omega⟩
    rw [List.getElem?_cons_succ]; congr 1; omega
noncomputable def lL (p:Program) (rc:List Rc) (m:Nat) (P:Params):List Obj:=os P (rs P ((p.main.body.zip rc).take m))
noncomputable def kK (p:Program) (rc:List Rc) (m:Nat) (as:List Addr) (P:Params):Frag:=as.map fun a=>(a,(lL p rc m P).getD a default)
noncomputable def okO:Option Obj -> Bool
 | some ⟨_,_,.freed,_⟩=>false
 | some _=>true
 | none=>false
theorem jO {p:Program} {rc:List Rc} {m:Nat} {P:Params} {a:Addr} {o:Obj}:∀ {as:List Addr},(kK p rc m as P).lookup a = some o -> a ∈ as /\ o = (lL p rc m P).getD a default
 | [],h=>by simp [kK] at h
 | b :: as,h=>by
  unfold kK at h
  rw [List.map_cons,List.lookup_cons] at h
  by_cases e:a = b
  ·subst e
   rw [beq_self_eq_true] at h
   exact ⟨List.mem_cons_self ..,(Option.some.inj h).symm⟩
  ·rw [beq_false_of_ne e] at h
   have x:=jO (as:=as) h
   exact ⟨List.mem_cons_of_mem _ x.1,x.2⟩
noncomputable def hkk (p:Program) (rc:List Rc) (m n:Nat):Hook where
 α:=Array Obj
 obs s:=s.heap.objs
 val w:=(hp p rc m n w.params).objs
 says w h:=∀ a o,(hp p rc m n w.params).get? a = some o -> h.get? a = some o
 of w s e a o x:=by unfold Heap.get? at *; rw [e]; exact x
 keeps w h h' X k a o x:=k _ _ (X a o x)
theorem BK {p:Program} {rc:List Rc} {m n:Nat} {as:List Addr} {w:World} {h:Heap} (hl:Nat.blt (lL p rc m w.params).length 4096 = true) (hc:(as.all fun a=>Nat.blt a n && okO (lL p rc m w.params)[a]?) = true)
  (Y:(hkk p rc m n).says w h):(kK p rc m as w.params).In h:=fun a o e=>by
 obtain ⟨e1,e2⟩:=jO e
 obtain ⟨c1,c2⟩:=Bool.and_eq_true_iff.mp (List.all_eq_true.mp hc a e1)
 refine Y a o ?_
 have c3:a < n:=Nat.le_of_ble_eq_true c1
 have c4:(lL p rc m w.params).length < 2 ^ 12:=Nat.le_of_ble_eq_true hl
 have g:=iZ 12 (lL p rc m w.params) a c4
 unfold hp Heap.get?
 rw [absHeap_at,if_pos c3]
 show (match some (((bt 12 (lL p rc m w.params)).get a).getD default) with | some ⟨_,_,.freed,_⟩=>none | o=>o) = some o
 rw [g]
 rw [List.getD_eq_getElem?_getD] at e2
 rw [<- e2]
 cases q:(lL p rc m w.params)[a]? with
 | none=>rw [q] at c2; cases c2
 | some x =>
  rw [q] at c2 e2
  have e3:o = x:=e2
  subst e3
  obtain ⟨_,_,d,_⟩:=o
  cases d <;> first | rfl | cases c2
noncomputable def pmO:Option Obj -> Value
 | some ⟨_,_,.func f,_⟩=>f.pyModule
 | _=>.none
noncomputable def dvO:Option Obj -> Nat
 | some ⟨_,_,.func f,_⟩=>match f.defaults with | .ref a=>a | _=>0
 | _=>0
noncomputable def rfO:Option (Option Value) -> Nat
 | some (some (.ref a))=>a
 | _=>0
noncomputable def tkO:Option (Option Value) -> Nat
 | some (some (.int _ t))=>t
 | some (some (.str _ t))=>t
 | _=>0
theorem raw_mk {K:Frag} {x:Str} {st:Stmt} {dV:Value} (h1:nsIn K mainGlobals x = some (some (.ref (rfO (nsIn K mainGlobals x)))))
  (h2:K.lookup (rfO (nsIn K mainGlobals x)) = some ⟨.type "function",none,.func (fnOf x x (L2.defArgs st) (L2.defBody st) (L2.defScope st) dV .none .none (pmO (K.lookup (rfO (nsIn K mainGlobals x)))) none (.ref (rfO (nsIn K mainGlobals x) - 1)) .none),#[]⟩)
  (h3:codeIn K (.ref (rfO (nsIn K mainGlobals x) - 1)) x = true) (h4:keepIn K (.ref (rfO (nsIn K mainGlobals x))) = true):MR.Raw K x st dV:=⟨_,_,_,_,_,_,_,_,_,_,h1,h2,h3,h4⟩
noncomputable def toV:Value -> L2.V
 | .bool b=>.bl b
 | .int i _=>.int i
 | .str s _=>.str s
 | .ref a=>.ref a
 | _=>.non
noncomputable def okV:Value -> Bool
 | .none=>true
 | .bool _=>true
 | .int _ _=>true
 | .str _ _=>true
 | .ref _=>true
 | _=>false
theorem kq:∀ {v:Value},okV v = true -> L2.RelV (toV v) v
 | .none,_=>rfl
 | .bool _,_=>rfl
 | .int _ _,_=>⟨_,rfl⟩
 | .str _ _,_=>⟨_,rfl⟩
 | .ref _,_=>rfl
 | .ellipsis,h=>by cases h
 | .notImplemented,h=>by cases h
 | .float _ _,h=>by cases h
 | .bytes _ _,h=>by cases h
 | .type _,h=>by cases h
 | .builtin _,h=>by cases h
theorem iq:∀ {l:List Value},l.all okV = true -> L2.Vals (l.map toV) l
 | [],_=>.nil
 | v :: l,h=>by
  rw [List.all_cons,Bool.and_eq_true_iff] at h
  exact .cons (kq h.1) (iq h.2)
noncomputable def eK (e:DictEntry):Str × Nat × Value:=match e.key with
 | .str k t=>(k,t,e.val)
 | _=>("",0,e.val)
noncomputable def tE:Option Obj -> List (Str × Nat × Value)
 | some o=>(ds o.data).map eK
 | none=>[]
noncomputable def tN:Option Obj -> Nat
 | some o=>ep o.data
 | none=>0
noncomputable def enL (P:Params) (l:List (Str × Nat × Value)):List DictEntry:=l.map fun e=>en P e.1 e.2.1 e.2.2
noncomputable def tL (l:List (Str × Nat × Value)):List (Str × L2.V):=l.map fun e=>(e.1,toV e.2.2)
theorem gX {P:Params}:∀ l:List (Str × Nat × Value),KeysLit P (enL P l)
 | []=>trivial
 | e :: l=>⟨⟨_,_,rfl,rfl⟩,gX l⟩
theorem gK {P:Params}:∀ {l:List (Str × Nat × Value)},(l.all fun e=>okV e.2.2) = true -> PySem.Paired (fun (p:Str × L2.V) (e:DictEntry)=>(∃ t,e.key = .str p.1 t) /\ L2.RelV p.2 e.val) (tL l) (enL P l)
 | [],_=>.nil
 | e :: l,h=>by
  rw [List.all_cons,Bool.and_eq_true_iff] at h
  exact .cons ⟨⟨_,rfl⟩,kq h.1⟩ (gK h.2)
theorem tab_mk {K:Frag} {w:World} {x:Str} (h1:nsIn K mainGlobals x = some (some (.ref (rfO (nsIn K mainGlobals x)))))
  (h2:K.lookup (rfO (nsIn K mainGlobals x)) = some (di (enL w.params (tE (K.lookup (rfO (nsIn K mainGlobals x))))) (tN (K.lookup (rfO (nsIn K mainGlobals x))))))
  (h3:((tE (K.lookup (rfO (nsIn K mainGlobals x)))).all fun e=>okV e.2.2) = true) (h4:(rfO (nsIn K mainGlobals x) == sysModules) = false):MR.TabRaw K w x (tL (tE (K.lookup (rfO (nsIn K mainGlobals x))))) :=
 ⟨_,_,_,h1,h2,gX _,gK h3,h4⟩
noncomputable def vC (K:Frag) (T:List (Str × L2.V)):List (Str × Str) -> Bool
 | []=>true
 | e :: r=>(match T.lookup e.1,nsIn K mainGlobals e.2 with
  | some (.ref a),some (some (.ref b))=>Nat.beq a b
  | _,_=>false) && vC K T r
theorem nam_of {K:Frag} {T:List (Str × L2.V)}:∀ {l:List (Str × Str)},vC K T l = true -> MR.NamL K T l
 | [],_=>trivial
 | e :: r,h=>by
  unfold vC at h
  rw [Bool.and_eq_true_iff] at h
  refine ⟨?_,nam_of h.2⟩
  have h1:=h.1
  split at h1
  ·rename_i a b q1 q2
   have e:=Nat.eq_of_beq_eq_true h1
   subst e
   exact ⟨_,q1,q2⟩
  ·cases h1
noncomputable def lJ {α β:Type} (f:α -> β -> Bool):List α -> List β -> Bool
 | [],[]=>true
 | a :: l,b :: r=>f a b && lJ f l r
 | _,_=>false
noncomputable def jb (K:Frag):Nat -> M.T -> L2.V -> Bool
 | _ + 1,.int i,.int j=>decide (i = j)
 | _ + 1,.non,.non=>true
 | _ + 1,.bl a,.bl b=>decide (a = b)
 | _ + 1,.str x,.str y=>decide (x = y) && M.sOk x
 | n + 1,.tup ts,.ref a=>match K.lookup a with
  | some ⟨.type "tuple",_,.seq its _,_⟩=>Nat.ble its.size 1000 && (its.toList.all okV && lJ (jb K n) ts (its.toList.map toV))
  | _=>false
 | _,_,_=>false
theorem jS {K:Frag} {n:Nat} (ih:∀ t v,jb K n t v = true -> MR.CstR K t v):∀ {ts:List M.T} {xs:List L2.V},lJ (jb K n) ts xs = true -> MR.CstRs K ts xs
 | [],[],_=>MR.cst_nil
 | t :: ts,x :: xs,h=>by
  unfold lJ at h
  rw [Bool.and_eq_true_iff] at h
  exact MR.cst_cons (ih _ _ h.1) (jS ih h.2)
 | [],_ :: _,h=>by cases h
 | _ :: _,[],h=>by cases h
theorem pR {K:Frag}:∀ n t v,jb K n t v = true -> MR.CstR K t v:=by
 intro n
 induction n with
 | zero=>intro t v h; simp [jb] at h
 | succ n ih =>
  intro t v h
  unfold jb at h
  split at h
  ·rename_i q; cases q; have e:=of_decide_eq_true h; subst e; exact MR.cst_int _
  ·exact MR.cst_non
  ·have e:=of_decide_eq_true h; subst e; exact MR.cst_bl _
  ·rw [Bool.and_eq_true_iff] at h; have e:=of_decide_eq_true h.1; subst e; exact MR.cst_str h.2
  ·rename_i q
   cases q
   split at h
   ·rename_i its k sl q
    rw [Bool.and_eq_true_iff,Bool.and_eq_true_iff] at h
    have hs:=Nat.le_of_ble_eq_true h.1
    exact MR.cst_tup q rfl rfl (Nat.le_trans hs (by decide)) (iq h.2.1) (by rw [List.length_map,Array.length_toList]; exact Nat.le_trans hs (by decide)) (jS ih h.2.2)
   ·cases h
  ·cases h
theorem cst_of {K:Frag} {n:Nat}:∀ {tab:List (Str × M.T)} {T:List (Str × L2.V)},lJ (fun (e:Str × M.T) (p:Str × L2.V)=>decide (p.1 = e.1) && jb K n e.2 p.2) tab T = true -> MR.CstL K tab T
 | [],[],_=>trivial
 | e :: tab,p :: T,h=>by
  unfold lJ at h
  rw [Bool.and_eq_true_iff,Bool.and_eq_true_iff] at h
  exact ⟨⟨of_decide_eq_true h.1.1,pR n _ _ h.1.2⟩,cst_of h.2⟩
 | [],_ :: _,h=>by cases h
 | _ :: _,[],h=>by cases h
end TP

set_option linter.all false
namespace A40
open M
open PySem (Str)
noncomputable abbrev q:=Str.ofString
noncomputable def tab_DOINGS_single:List (Str × Nat):=[(q "not",42),(q "less",57),(q "same",58),(q "both",59)]
noncomputable def keys_RECKONED:List Str:=[q "not",q "upto",q "sum",q "sums",q "most",q "add",q "sub",q "mul",q "div",q "rest",q "less",q "same",q "both"]
noncomputable def tab_RECKONED:List (Str × T):=[(q "not",.tup [.str (q "truth")]),(q "upto",.tup [.str (q "row"),.tup [.str (q "num")]]),(q "sum",.tup [.str (q "num")]),(q "sums",.tup [.str (q "row"),.tup [.str (q "num")]]),(q "most",.tup [.str (q "num")]),(q "add",.tup [.str (q "num")]),(q "sub",.tup [.str (q "num")]),(q "mul",.tup [.str (q "num")]),(q "div",.tup [.str (q "num")]),(q "rest",.tup [.str (q "num")]),(q "less",.tup [.str (q "truth")]),(q "same",.tup [.str (q "truth")]),(q "both",.tup [.str (q "truth")])]
noncomputable def keys_WORDS_single:List Str:=[q "upto",q "sum",q "sums",q "most",q "flat",q "add",q "sub",q "mul",q "div",q "rest",q "pick",q "join",q "keep",q "cut"]
noncomputable def bQ:List (Str × Nat):=[]
noncomputable def eM:Fn:={ ps:=2,ns:=1,io:=[],body:=[
  .asg (.q [0,1] []) 2 (.ifx (.inT false keys_WORDS_single (.op .ix false [.var 0,.cst (.int 0)])) (.callT bQ (.op .ix false [.var 0,.cst (.int 0)]) [.var 1]) (.cst (.non))),
  .ite (.q [2] []) (.op .isnot false [.var 2,.cst (.non)]) [
   .ret [] (.tup [.cst (.non),.mv 2])] [],
  .ite (.q [0] []) (.op .eq false [.op .ix false [.var 0,.cst (.int 0)],.cst (.str (q "num"))]) [
   .ret [] (.tup [.op .ix false [.mv 0,.cst (.int 1)],.cst (.non)])] [],
  .ret [] (.tup [.callT tab_DOINGS_single (.op .ix false [.mv 0,.cst (.int 0)]) [.mv 1],.cst (.non)])] }
noncomputable def cq:Fn:={ ps:=1,ns:=0,io:=[],body:=[
  .ret [] (.not (.op .ix false [.mv 0,.cst (.int 0)]))] }
noncomputable def bV:Fn:={ ps:=1,ns:=0,io:=[],body:=[
  .ret [0] (.op .lt false [.op .ix false [.var 0,.cst (.int 0)],.op .ix false [.var 0,.cst (.int 1)]])] }
noncomputable def bT:Fn:={ ps:=1,ns:=0,io:=[],body:=[
  .ret [0] (.op .eq false [.op .ix false [.var 0,.cst (.int 0)],.op .ix false [.var 0,.cst (.int 1)]])] }
noncomputable def bN:Fn:={ ps:=1,ns:=0,io:=[],body:=[
  .ret [0] (.and (.op .ix false [.var 0,.cst (.int 0)]) (.op .ix false [.var 0,.cst (.int 1)]))] }
noncomputable def aW:Fn:={ ps:=2,ns:=5,io:=[],body:=[
  .ite (.q [0] []) (.op .eq false [.op .ix false [.var 0,.cst (.int 0)],.cst (.str (q "pair"))]) [
   .ret [0,1] (.tup [.call 6 [.op .ix false [.var 0,.cst (.int 1)],.comp false .seq [.var 1] [4] none (.op .ix false [.var 4,.cst (.int 0)])],.call 6 [.op .ix false [.var 0,.cst (.int 2)],.comp false .seq [.var 1] [5] none (.op .ix false [.var 5,.cst (.int 1)])]])] [],
  .ite (.q [0] []) (.op .eq false [.op .ix false [.var 0,.cst (.int 0)],.cst (.str (q "row"))]) [
   .asg (.q [] []) 2 (.lst false []),
   .forS [1] [] .seq [.var 1] [3] [
    .ext (.q [3] []) 2 (.var 3)],
   .ret [] (.tup [.comp true .seq [.mv 1] [6] none (.op .len false [.var 6]),.call 6 [.op .ix false [.mv 0,.cst (.int 1)],.mv 2]])] [],
  .ret [] (.op .list true [.mv 1])] }
noncomputable def aX:Fn:={ ps:=3,ns:=0,io:=[],body:=[
  .ite (.q [0] []) (.op .eq false [.op .ix false [.var 0,.cst (.int 0)],.cst (.str (q "pair"))]) [
   .ret [0,1] (.op .lzip false [.call 7 [.op .ix false [.var 0,.cst (.int 1)],.op .ix false [.var 1,.cst (.int 0)],.var 2],.call 7 [.op .ix false [.var 0,.cst (.int 2)],.op .ix false [.var 1,.cst (.int 1)],.var 2]])] [],
  .ite (.q [0] []) (.op .eq false [.op .ix false [.var 0,.cst (.int 0)],.cst (.str (q "row"))]) [
   .ret [1] (.call 1 [.op .ix false [.var 1,.cst (.int 0)],.call 7 [.op .ix false [.mv 0,.cst (.int 1)],.op .ix false [.var 1,.cst (.int 1)],.op .sum false [.op .ix false [.var 1,.cst (.int 0)]]]])] [],
  .ret [] (.op .list true [.mv 1])] }
noncomputable def bj:Fn:={ ps:=4,ns:=4,io:=[],body:=[
  .ite (.q [0] []) (.inT false keys_RECKONED (.op .ix false [.var 0,.cst (.int 0)])) [
   .ret [] (.call 134 [.mv 0,.mv 1,.mv 2,.mv 3])] [],
  .asg (.q [0,2] [3]) 4 (.call 79 [.op .ix false [.var 0,.cst (.int 0)],.var 2,.var 3]),
  .asg (.q [1,2,4] []) 5 (.comp true .zip [.var 1,.var 2] [6,7] none (.call 19 [.var 6,.var 7,.op .ix false [.var 4,.cst (.int 0)]])),
  .ret [4] (.tup [.call 85 [.mv 0,.mv 1,.mv 5,.op .ix false [.var 4,.cst (.int 0)]],.op .ix false [.var 4,.cst (.int 0)],.op .ix false [.var 4,.cst (.int 1)]])] }
noncomputable def bg:Fn:={ ps:=4,ns:=8,io:=[],body:=[
  .asg (.q [1,2] [3]) 4 (.comp false .zip [.var 1,.var 2] [9,10] none (.call 7 [.var 9,.var 10,.var 3])),
  .asg (.q [] []) 5 (.lst false []),
  .asg (.q [] []) 6 (.cst (.non)),
  .forS [] [3] .rng [.var 3] [7] [
   .asg (.q [0,4] [7]) 8 (.call 130 [.var 0,.comp false .seq [.var 4] [11] none (.op .ix false [.var 11,.var 7])]),
   .asg (.q [8] []) 6 (.op .ix false [.var 8,.cst (.int 1)]),
   .ite (.q [6] []) (.op .isnot false [.var 6,.cst (.non)]) [
    .brk] [],
   .app (.q [8] []) 5 (.op .ix false [.var 8,.cst (.int 0)])],
  .ret [5] (.tup [.call 6 [.ixT tab_RECKONED (.op .ix false [.mv 0,.cst (.int 0)]),.var 5],.op .len false [.var 5],.mv 6])] }
noncomputable def aP:Fn:={ ps:=2,ns:=4,io:=[0],body:=[
  .ite (.q [0] []) (.op .gt false [.op .ix false [.var 0,.cst (.int 3)],.cst (.int 0)]) [
   .setI (.q [0] []) 0 (.cst (.int 3)) (.op .sub false [.op .ix false [.var 0,.cst (.int 3)],.cst (.int 1)]),
   .asg (.q [0] []) 2 (.op .ix false [.var 0,.cst (.int 2)]),
   .setI (.q [] [1,2]) 0 (.cst (.int 2)) (.op .fdiv false [.var 2,.var 1]),
   .ret [] (.op .mod false [.mv 2,.mv 1])] [],
  .asg (.q [0] []) 3 (.op .ix false [.var 0,.cst (.int 1)]),
  .setI (.q [] [3]) 0 (.cst (.int 1)) (.op .add false [.var 3,.cst (.int 1)]),
  .asg (.q [] []) 4 (.cst (.int 0)),
  .ite (.q [0] []) (.op .gt false [.op .len false [.op .ix false [.var 0,.cst (.int 0)]],.cst (.int 0)]) [
   .asg (.q [0] [3]) 4 (.op .ix false [.op .ix false [.var 0,.cst (.int 0)],.op .mod false [.var 3,.op .len false [.op .ix false [.var 0,.cst (.int 0)]]]])] [],
  .ite (.q [0] [3,4]) (.and (.op .lt false [.var 3,.op .len false [.op .ix false [.var 0,.cst (.int 0)]]]) (.op .ge false [.var 4,.op .pow false [.cst (.int 10),.cst (.int 18)]])) [
   .setI (.q [] [4]) 0 (.cst (.int 2)) (.op .sub false [.var 4,.op .pow false [.cst (.int 10),.cst (.int 18)]]),
   .setI (.q [] []) 0 (.cst (.int 3)) (.cst (.int 40)),
   .ret [] (.call 20 [.io 0,.mv 1])] [],
  .asg (.q [] [3,4]) 5 (.op .mul false [.op .add false [.op .mod false [.var 4,.cst (.int 999983)],.cst (.int 3)],.op .add false [.op .add false [.op .mod false [.op .mul false [.var 3,.var 3],.cst (.int 10007)],.op .mul false [.cst (.int 61),.var 3]],.cst (.int 7)]]),
  .asg (.q [] [5]) 5 (.op .mod false [.op .mul false [.op .mod false [.var 5,.cst (.int 1000003)],.op .mod false [.var 5,.cst (.int 1000003)]],.cst (.int 999979)]),
  .ret [] (.op .mod false [.op .mod false [.op .add false [.op .fdiv false [.mv 5,.cst (.int 3)],.op .mul false [.cst (.int 131),.mv 3]],.cst (.int 99991)],.mv 1])] }
noncomputable def a0:Fn:={ ps:=1,ns:=3,io:=[0],body:=[
  .asg (.l []) 1 (.call 20 [.io 0,.cst (.int 6)]),
  .ite (.q [] [1]) (.op .lt false [.var 1,.cst (.int 4)]) [
   .ret [] (.op .sub false [.call 20 [.io 0,.cst (.int 19)],.cst (.int 9)])] [],
  .ite (.q [] [1]) (.op .eq false [.var 1,.cst (.int 4)]) [
   .asg (.q [] []) 2 (.op .pow false [.cst (.int 10),.cst (.int 18)]),
   .ret [] (.op .ix false [.lst false [.var 2,.op .sub false [.cst (.int 0),.var 2],.op .sub false [.var 2,.cst (.int 1)],.op .sub false [.cst (.int 1),.var 2],.cst (.int 0)],.call 20 [.io 0,.cst (.int 5)]])] [],
  .asg (.l []) 3 (.op .mul false [.call 20 [.io 0,.op .pow false [.cst (.int 10),.cst (.int 6)]],.op .pow false [.cst (.int 10),.cst (.int 12)]]),
  .asg (.l []) 3 (.op .add false [.var 3,.op .mul false [.call 20 [.io 0,.op .pow false [.cst (.int 10),.cst (.int 6)]],.op .pow false [.cst (.int 10),.cst (.int 6)]]]),
  .asg (.l []) 3 (.op .add false [.var 3,.call 20 [.io 0,.op .pow false [.cst (.int 10),.cst (.int 6)]]]),
  .ret [] (.op .mul false [.mv 3,.op .sub false [.cst (.int 1),.op .mul false [.cst (.int 2),.call 20 [.io 0,.cst (.int 2)]]]])] }
noncomputable def ak:Fn:={ ps:=2,ns:=2,io:=[],body:=[
  .ite (.q [0] []) (.op (.isI ["list","tuple"]) false [.var 0]) [
   .ite (.q [0,1] []) (.op .ne false [.op (.isI ["list"]) false [.var 0],.op (.isI ["list"]) false [.var 1]]) [
    .ret [] (.cst (.bl false))] [],
   .ite (.q [0,1] []) (.op .ne false [.op (.isI ["tuple"]) false [.var 0],.op (.isI ["tuple"]) false [.var 1]]) [
    .ret [] (.cst (.bl false))] [],
   .ite (.q [0,1] []) (.op .ne false [.op .len false [.var 0],.op .len false [.var 1]]) [
    .ret [] (.cst (.bl false))] [],
   .ret [] (.op .all false [.comp false .zip [.mv 0,.mv 1] [2,3] none (.call 24 [.var 2,.var 3])])] [],
  .ite (.q [0,1] []) (.op .ne false [.op (.isI ["bool"]) false [.var 0],.op (.isI ["bool"]) false [.var 1]]) [
   .ret [] (.cst (.bl false))] [],
  .ret [] (.op .eq false [.mv 0,.mv 1])] }
noncomputable def gZ:Fn:={ ps:=1,ns:=1,io:=[],body:=[.pas] }
noncomputable def bf:Fn:={ ps:=6,ns:=10,io:=[],body:=[
  .asg (.q [2] []) 6 (.op .len false [.op .ix false [.var 2,.cst (.int 0)]]),
  .asg (.q [1,2] []) 7 (.comp false .zip [.var 1,.var 2] [14,15] none (.call 6 [.var 14,.var 15])),
  .asg (.q [1] []) 8 (.op .list false [.var 1]),
  .asg (.q [0,7,8] [6]) 9 (.call 133 [.var 0,.var 8,.var 7,.var 6]),
  .ite (.q [9] []) (.or (.not (.op (.isI ["tuple"]) false [.var 9])) (.op .ne false [.op .len false [.var 9],.cst (.int 3)])) [
   .ret [] (.cst (.bl false))] [],
  .ite (.q [3,4,9] []) (.not (.call 24 [.call 6 [.var 3,.var 4],.op .ix false [.var 9,.cst (.int 0)]])) [
   .ret [] (.cst (.bl false))] [],
  .ite (.q [1,4,8,9] []) (.or (.not (.call 24 [.op .len false [.var 4],.op .ix false [.var 9,.cst (.int 1)]])) (.op .ne false [.var 8,.var 1])) [
   .ret [] (.cst (.bl false))] [],
  .ite (.q [5,9] []) (.or (.and (.op .is false [.var 5,.cst (.non)]) (.op .isnot false [.op .ix false [.var 9,.cst (.int 2)],.cst (.non)])) (.op .ne false [.op .ix false [.var 9,.cst (.int 2)],.var 5])) [
   .ret [] (.cst (.bl false))] [],
  .exp (.l []) (.call 95 [.mvP 9 [0]]),
  .forS [1,2,7] [] .zip3 [.var 1,.var 2,.var 7] [10,11,12] [
   .ite (.q [10,11,12] []) (.not (.call 24 [.call 6 [.var 10,.var 11],.var 12])) [
    .ret [] (.cst (.bl false))] []],
  .asg (.q [0,7,8] [6]) 13 (.call 133 [.var 0,.var 8,.var 7,.var 6]),
  .ret [4] (.call 24 [.tup [.call 6 [.mv 3,.var 4],.op .len false [.var 4],.mv 5],.mv 13])] }
noncomputable def f_law:Fn:={ ps:=1,ns:=22,io:=[],body:=[
  .asg (.q [0] []) 1 (.lst true [.op .list true [.op .sl2 true [.var 0,.cst (.int 63)]],.cst (.int 0),.cst (.int 0),.cst (.int 0)]),
  .asg (.l []) 2 (.call 20 [.io 1,.cst (.int 11)]),
  .asg (.l []) 3 (.comp false .rng [.var 2] [11] none (.call 21 [.io 1])),
  .asg (.q [] []) 4 (.lst false []),
  .forS [3] [] .seq [.var 3] [5] [
   .asg (.l []) 6 (.call 21 [.io 1]),
   .ite (.l []) (.op .eq false [.call 20 [.io 1,.cst (.int 3)],.cst (.int 1)]) [
    .asg (.q [] [5]) 6 (.var 5)] [],
   .app (.q [6] []) 4 (.var 6)],
  .asg (.l []) 7 (.comp false .rng [.var 2] [12] none (.op .eq false [.call 20 [.io 1,.cst (.int 2)],.cst (.int 1)])),
  .asg (.l []) 6 (.comp false .rng [.var 2] [13] none (.op .eq false [.call 20 [.io 1,.cst (.int 2)],.cst (.int 1)])),
  .asg (.q [] []) 8 (.tup [.cst (.str (q "num"))]),
  .asg (.q [] []) 9 (.tup [.cst (.str (q "truth"))]),
  .asg (.q [3,4] []) 10 (.comp false .zip [.var 3,.var 4] [14,15] none (.op .lt false [.op .sub false [.var 14,.var 15],.cst (.int 0)])),
  .ite (.q [3,4,8,9,10] []) (.not (.call 135 [.tup [.cst (.str (q "less")),.cst (.non),.cst (.non)],.lst false [.var 8,.var 8],.lst false [.var 3,.var 4],.var 9,.var 10,.cst (.non)])) [
   .ret [] (.cst (.bl false))] [],
  .asg (.q [3,4] []) 10 (.comp false .zip [.var 3,.var 4] [16,17] none (.op .eq false [.op .sub false [.var 16,.var 17],.cst (.int 0)])),
  .ite (.q [3,4,8,9,10] []) (.not (.call 135 [.tup [.cst (.str (q "same")),.cst (.non),.cst (.non)],.lst false [.var 8,.var 8],.lst false [.var 3,.var 4],.var 9,.var 10,.cst (.non)])) [
   .ret [] (.cst (.bl false))] [],
  .asg (.q [6,7] []) 10 (.comp false .zip [.var 7,.var 6] [18,19] none (.op .ne false [.op .add false [.op .int false [.var 18],.op .int false [.var 19]],.cst (.int 1)])),
  .ite (.q [6,7,9,10] []) (.not (.call 135 [.tup [.cst (.str (q "same")),.cst (.non),.cst (.non)],.lst false [.var 9,.var 9],.lst false [.var 7,.var 6],.var 9,.var 10,.cst (.non)])) [
   .ret [] (.cst (.bl false))] [],
  .asg (.q [6,7] []) 10 (.comp false .zip [.var 7,.var 6] [20,21] none (.op .eq false [.op .add false [.op .int false [.var 20],.op .int false [.var 21]],.cst (.int 2)])),
  .ite (.q [6,7,9,10] []) (.not (.call 135 [.tup [.cst (.str (q "both")),.cst (.non),.cst (.non)],.lst false [.var 9,.var 9],.lst false [.var 7,.var 6],.var 9,.var 10,.cst (.non)])) [
   .ret [] (.cst (.bl false))] [],
  .asg (.q [7] []) 10 (.comp false .seq [.var 7] [22] none (.op .eq false [.op .int false [.var 22],.cst (.int 0)])),
  .ret [9] (.call 135 [.tup [.cst (.str (q "not")),.cst (.non)],.lst false [.var 9],.lst false [.mv 7],.var 9,.mv 10,.cst (.non)])] }
noncomputable def prog:List Fn:=[f_law,zf,zf,zf,zf,zf,aW,aX,zf,zf,zf,zf,zf,zf,zf,zf,zf,zf,zf,zf,aP,a0,zf,zf,ak,zf,zf,zf,zf,zf,zf,zf,zf,zf,zf,zf,zf,zf,zf,zf,zf,zf,cq,zf,zf,zf,zf,zf,zf,zf,zf,zf,zf,zf,zf,zf,zf,bV,bT,bN,zf,zf,zf,zf,zf,zf,zf,zf,zf,zf,zf,zf,zf,zf,zf,zf,zf,zf,zf,zf,zf,zf,zf,zf,zf,zf,zf,zf,zf,zf,zf,zf,zf,zf,zf,gZ,zf,zf,zf,zf,zf,zf,zf,zf,zf,zf,zf,zf,zf,zf,zf,zf,zf,zf,zf,zf,zf,zf,zf,zf,zf,zf,zf,zf,zf,zf,zf,zf,zf,zf,eM,zf,zf,bj,bg,bf]
end A40

set_option compiler.extract_closed false
set_option linter.all false
set_option maxRecDepth 100000
set_option maxHeartbeats 4000000
namespace P40
noncomputable section
open M A40
open PySem (Str)
local macro_rules
 | `(tactic| simp_all only [$ls,*])=>`(tactic| simp only [wZ,xj,wj,vY,xk,vx,xp,qf,rm,rA,sA,qG,sy,sv,qj,qB,q9,rS,qY,qc,qk,rR,qS,qU,qu,rF,qK,qe,rM,pJ,qQ,mR,nH,rW,rY,rZ,rB,i4,oA,kOp,lP,kOr,lE,kC3,kC2,kC1,kBack,kCall,fH,bA,iK,cT,jN,aS,kX,kT,kT2,kIf,rk,oY,pf,l5,qT,jk,kNx,kRt,kFor2,kFor,oX,okW,ky,tM,eD,aJ,ag,ios,putAll,xB,Bn,uC,uV,we,qZ,sx,qI,ve,vR,vA,uO,vc,uG,w6,y9,yx,Aq,ye,zv,yC,qr,qD,sW,qv,yb,uR,mH,mJ,nK,nI,u9,qA,pY,nq,pk,yJ,yD,zh,ym,l6,mP,nQ,xw,xT,xl,wY,xW,v9,pe,vZ,rX,pK,pZ,vV,oU,oj,mG,yX,mh,n6,tw,xO,xD,wX,uz,xC,u7,AJ,Bw,A6,Bl,yG,yg,vb,vU,xR,x4,zX,uT,yp,q8,xV,zQ,rP,pW,zt,Ap,vI,wF,wt,um,mw,l9,mW,yM,oo,oS,pV,qp,qE,qJ,xt,wD,wC,pq,cO,lG,kC,lr,uw,vS,ur,w8,xI,uP,vi,xN,x8,oJ,mZ,vm,xY,at0,at1,at2,at3,at4,List.cons_append,List.nil_append,List.append_nil,List.map_cons,List.map_nil,List.replicate_succ,List.replicate_zero,reduceIte,if_true,if_false,String.reduceBEq,Bool.not_true,Bool.not_false,Bool.false_eq_true,Bool.and_self,Bool.true_and,Bool.and_true,pL,kIo,wO,wU,lF,mx,lC,kH,lz,l8,k8,mD,lK,lR,iQ,jx,wy,kE,gO,lj,k6,lH,iF,k9,lS,kMvP,kCT,okS,uJ,BJ,sP,oG,mi,pD,wq,uX,qt,rK,uK,ux,Be,rO,zd,AZ,An,yN,yq,Af,Ar,x3,Bv,zH,zK,Aa,zw,yL,yT,ze,zg,BA,BL,Bf,vj,sF,uM,$ls,*])
abbrev C (n:Nat):Call:=callR prog 95 1000001 n
theorem b3 (n:Nat) (ws:List W):C (n + 1) 6 ws = runF (C n) aW ws:=rfl
theorem c9 (n:Nat) (ws:List W):C (n + 1) 7 ws = runF (C n) aX ws:=rfl
theorem dF (n:Nat) (ws:List W):C (n + 1) 20 ws = runF (C n) aP ws:=rfl
theorem fj (n:Nat) (ws:List W):C (n + 1) 21 ws = runF (C n) a0 ws:=rfl
theorem cS (n:Nat) (ws:List W):C (n + 1) 24 ws = runF (C n) ak ws:=rfl
theorem kD (n:Nat) (ws:List W):C (n + 1) 42 ws = runF (C n) cq ws:=rfl
theorem iR (n:Nat) (ws:List W):C (n + 1) 57 ws = runF (C n) bV ws:=rfl
theorem eT (n:Nat) (ws:List W):C (n + 1) 58 ws = runF (C n) bT ws:=rfl
theorem jc (n:Nat) (ws:List W):C (n + 1) 59 ws = runF (C n) bN ws:=rfl
theorem pI (n:Nat) (ws:List W):C (n + 1) 130 ws = runF (C n) eM ws:=rfl
theorem f9 (n:Nat) (ws:List W):C (n + 1) 133 ws = runF (C n) bj ws:=rfl
theorem hU (n:Nat) (ws:List W):C (n + 1) 134 ws = runF (C n) bg ws:=rfl
theorem ir (n:Nat) (ws:List W):C (n + 1) 135 ws = runF (C n) bf ws:=rfl
def tape (ns:List Int) (x y z:Int):T:=.lst [.lst (ns.map T.int),.int x,.int y,.int z]
theorem qeq (a b:String):(q a == q b) = (a == b):=by
 by_cases h:a = b
 ·subst h; simp
 ·have h2:q a ≠ q b:=fun z=>h (by
   have:=congrArg (fun s:Str=>s.cps.toList) z
   rw [q,Str.ofString_eq_toList,Str.ofString_eq_toList] at this
   simp only at this
   have h3:a.toList = b.toList:=by
    have inj:∀ l1 l2:List Char,l1.map Char.toNat = l2.map Char.toNat -> l1 = l2:=by
     intro l1
     induction l1 with
     | nil=>intro l2 h; cases l2 with
      | nil=>rfl
      | cons=>cases h
     | cons c cs ih=>intro l2 h; cases l2 with
      | nil=>cases h
      | cons d ds =>
       rw [List.map_cons,List.map_cons] at h
       injection h with h1 h2
       rw [ih ds h2,Char.toNat_inj.mp h1]
    exact inj _ _ (by simpa using this)
   exact String.toList_inj.mp h3)
  rw [beq_eq_false_iff_ne.mpr h2,beq_eq_false_iff_ne.mpr h]
theorem xS {α:Type} (a b c d:α):ixN [a,b,c,d].length 1 = some 1:=rfl
theorem uE {α:Type} (a b c d:α):ixN [a,b,c,d].length 2 = some 2:=rfl
theorem vk {α:Type} (a b c d:α):ixN [a,b,c,d].length 3 = some 3:=rfl
theorem oa (D:Call) (ns:List Int) (x y z:Int) (m:Md) (k:Int) (hz:0 < z) (hk:0 < k) (hk2:k < 1073741824) :
  runF D aP [(.d,tape ns x y z),(m,.int k)] = .ok ((.d,.int (y % k)),[(.d,tape ns x (y / k) (z - 1))]):=by
 rw [x_run _ _ _ rfl]
 simp_all only [aP,tape,decide_eq_true hz,decide_eq_true hk,decide_eq_true hk2,xS,uE,vk,List.set_cons_zero,List.set_cons_succ]
theorem x5 {ns:List Int} {x:Int} (hx:0 <= x) (hn:ns ≠ []):∃ c,atI (ns.map T.int) (x % (ns.length:Int)) = some (.int c):=by
 have hl:0 < ns.length:=List.length_pos_iff.mpr hn
 have h1:0 <= x % (ns.length:Int):=Int.emod_nonneg _ (by omega)
 have h2:x % (ns.length:Int) < ns.length:=Int.emod_lt_of_pos _ (by omega)
 obtain ⟨j,hj⟩:∃ j:Nat,x % (ns.length:Int) = j:=⟨_,(Int.toNat_of_nonneg h1).symm⟩
 have hj':j < ns.length:=by omega
 exact ⟨ns[j],atN hj (by rw [List.getElem?_map,List.getElem?_eq_getElem hj']; rfl)⟩
theorem eP:oSem .pow false [(.d,.int 10),(.d,.int 18)] = some (.d,.int 1000000000000000000):=rfl
theorem vw (D:Call) (ns:List Int) (x:Nat) (y z:Int) (m:Md) (k:Int) (hz:z <= 0) (hk:0 < k) (hk2:k < 1073741824) (hx:x < 1000000000000000000)
  (hD:∀ y',D 20 [(.d,tape ns (x + 1) y' 40),(m,.int k)] = .ok ((.d,.int (y' % k)),[(.d,tape ns (x + 1) (y' / k) 39)])) :
  ∃ r x' y' z',0 <= r /\ r < k /\ x' <= x + 1 /\ runF D aP [(.d,tape ns x y z),(m,.int k)] = .ok ((.d,.int r),[(.d,tape ns ((x':Nat):Int) y' z')]):=by
 have hz':decide (0 < z) = false:=decide_eq_false (by omega)
 have hm:∀ a:Int,0 <= a % k /\ a % k < k:=fun a=>⟨Int.emod_nonneg _ (by omega),Int.emod_lt_of_pos _ hk⟩
 rw [x_run _ _ _ rfl]
 simp_all only [aP,tape,hz',decide_eq_true hk,decide_eq_true hk2,xS,uE,vk,List.set_cons_zero,List.set_cons_succ,eP]
 generalize hE:onF _ _ _ _ = e
 obtain ⟨c,rfl⟩:∃ c:Int,e = .nx [some (Md.d,T.lst [T.lst (List.map T.int ns),T.int (x + 1),T.int y,T.int z]),some (m,T.int k),none,some (Md.d,T.int x),some (Md.d,T.int c),none]:=by
  rw [<- hE]
  by_cases hn:ns = []
  ·subst hn
   exact ⟨0,rfl⟩
  ·obtain ⟨c,hc⟩:=x5 (x:=(x:Int)) (by omega) hn
   have hp:decide (0 < ((List.map T.int ns).length:Int)) = true:=decide_eq_true (by rw [List.length_map]; have:=List.length_pos_iff.mpr hn; omega)
   refine ⟨c,?_⟩
   rw [<- List.length_map (f:=T.int)] at hc
   simp_all only [hp,hc]
 have xb:decide ((x:Int).natAbs < 18446744073709551616) = true:=decide_eq_true (by omega)
 have cb:decide ((c % 999983 + 3).natAbs < 18446744073709551616) = true:=decide_eq_true (by omega)
 have nb:∀ a:Int,decide ((a % 1000003).natAbs < 18446744073709551616) = true:=fun a=>decide_eq_true (by omega)
 have b61:decide ((61:Int).natAbs < 18446744073709551616) = true:=rfl
 have b131:decide ((131:Int).natAbs < 18446744073709551616) = true:=rfl
 have d1:decide ((0:Int) < 999983) = true:=rfl
 have d2:decide ((0:Int) < 10007) = true:=rfl
 have d3:decide ((0:Int) < 1000003) = true:=rfl
 have d4:decide ((0:Int) < 999979) = true:=rfl
 have d5:decide ((0:Int) < 3) = true:=rfl
 have d6:decide ((3:Int) < 1073741824) = true:=rfl
 have d7:decide ((0:Int) < 99991) = true:=rfl
 cases h1:decide ((x:Int) < ((List.map T.int ns).length:Int)) with
 | false =>
  simp_all only [h1,decide_eq_true hk,decide_eq_true hk2,eP,xb,cb,nb,b61,b131,d1,d2,d3,d4,d5,d6,d7,Bool.true_or]
  exact ⟨_,x + 1,y,z,(hm _).1,(hm _).2,Nat.le_refl _,rfl⟩
 | true =>
  cases h2:decide (1000000000000000000 <= c) with
  | false =>
   simp_all only [h1,h2,decide_eq_true hk,decide_eq_true hk2,eP,xb,cb,nb,b61,b131,d1,d2,d3,d4,d5,d6,d7,Bool.true_or]
   exact ⟨_,x + 1,y,z,(hm _).1,(hm _).2,Nat.le_refl _,rfl⟩
  | true =>
   have hD':=hD (c - 1000000000000000000)
   unfold tape at hD'
   simp_all only [h1,h2,eP,xS,uE,vk,List.set_cons_zero,List.set_cons_succ]
   simp_all only [hD']
   exact ⟨_,x + 1,_,_,(hm _).1,(hm _).2,Nat.le_refl _,rfl⟩
def Tp (N:Nat) (t:T):Prop:=∃ ns x y z,t = tape ns ((x:Nat):Int) y z /\ x <= N
theorem eW {n N:Nat} {t:T} (m:Md) (k:Int) (ht:Tp N t) (hN:N < 1000000000000000000) (hk:0 < k) (hk2:k < 1073741824) :
  ∃ r t',0 <= r /\ r < k /\ Tp (N + 1) t' /\ C (n + 2) 20 [(.d,t),(m,.int k)] = .ok ((.d,.int r),[(.d,t')]):=by
 obtain ⟨ns,x,y,z,rfl,hx⟩:=ht
 rw [dF]
 by_cases hz:0 < z
 ·exact ⟨_,_,Int.emod_nonneg _ (by omega),Int.emod_lt_of_pos _ hk,⟨ns,x,_,_,rfl,by omega⟩,oa (C (n + 1)) ns x y z m k hz hk hk2⟩
 ·obtain ⟨r,x',y',z',h1,h2,h3,h4⟩:=vw (C (n + 1)) ns x y z m k (by omega) hk hk2 (by omega) fun y'=>by rw [dF,oa (C n) ns (x + 1) y' 40 m k (by decide) hk hk2]; rfl
  exact ⟨r,_,h1,h2,⟨ns,x',y',z',rfl,by omega⟩,h4⟩
theorem p6:oSem .pow false [(.d,.int 10),(.d,.int 6)] = some (.d,.int 1000000):=rfl
theorem p12:oSem .pow false [(.d,.int 10),(.d,.int 12)] = some (.d,.int 1000000000000):=rfl
theorem at5 {α:Type} (a b c d e:α) (r:Int) (h0:0 <= r) (h1:r < 5):∃ x,atI [a,b,c,d,e] r = some x /\ x ∈ [a,b,c,d,e]:=by
 have:r = 0 \/ r = 1 \/ r = 2 \/ r = 3 \/ r = 4:=by omega
 rcases this with rfl | rfl | rfl | rfl | rfl
 ·exact ⟨a,rfl,by simp⟩
 ·exact ⟨b,rfl,by simp⟩
 ·exact ⟨c,rfl,by simp⟩
 ·exact ⟨d,rfl,by simp⟩
 ·exact ⟨e,rfl,by simp⟩
theorem tm {a b:Nat} {t:T} (h:Tp a t) (h2:a <= b):Tp b t:=by obtain ⟨ns,x,y,z,e,h⟩:=h; exact ⟨ns,x,y,z,e,by omega⟩
theorem number {n N:Nat} {t:T} (ht:Tp N t) (hN:N + 5 < 1000000000000000000) :
  ∃ md i t',i.natAbs <= 1000000000000000000 /\ Tp (N + 5) t' /\ C (n + 3) 21 [(.d,t)] = .ok ((md,.int i),[(.d,t')]):=by
 rw [fj]
 obtain ⟨r,t1,r0,r1,ht1,e1⟩:=eW (n:=n) .d 6 ht (by omega) (by decide) (by decide)
 rw [x_run _ _ _ rfl]
 simp_all only [a0,e1]
 cases h1:decide (r < 4) with
 | true =>
  obtain ⟨r2,t2,_,_,ht2,e2⟩:=eW (n:=n) .d 19 ht1 (by omega) (by decide) (by decide)
  simp_all only [h1,e2]
  exact ⟨_,_,_,by omega,tm ht2 (by omega),rfl⟩
 | false =>
  cases h2:r == 4 with
  | true =>
   obtain ⟨r2,t2,r20,r21,ht2,e2⟩:=eW (n:=n) .d 5 ht1 (by omega) (by decide) (by decide)
   obtain ⟨x,hx,hm⟩:=at5 (T.int 1000000000000000000) (.int (0 - 1000000000000000000)) (.int (1000000000000000000 - 1)) (.int (1 - 1000000000000000000)) (.int 0) r2 r20 r21
   obtain ⟨i,hi,rfl⟩:∃ i:Int,i.natAbs <= 1000000000000000000 /\ x = T.int i:=by
    simp only [List.mem_cons,List.not_mem_nil,or_false] at hm
    rcases hm with e | e | e | e | e <;> exact ⟨_,by decide,e⟩
   simp_all only [h1,h2,e2,eP,hx]
   exact ⟨_,_,_,hi,tm ht2 (by omega),rfl⟩
  | false =>
   obtain ⟨r2,t2,_,_,ht2,e2⟩:=eW (n:=n) .d 1000000 ht1 (by omega) (by decide) (by decide)
   obtain ⟨r3,t3,_,_,ht3,e3⟩:=eW (n:=n) .d 1000000 ht2 (by omega) (by decide) (by decide)
   obtain ⟨r4,t4,_,_,ht4,e4⟩:=eW (n:=n) .d 1000000 ht3 (by omega) (by decide) (by decide)
   obtain ⟨r5,t5,_,_,ht5,e5⟩:=eW (n:=n) .d 2 ht4 (by omega) (by decide) (by decide)
   have b12:decide ((1000000000000:Int).natAbs < 18446744073709551616) = true:=rfl
   have b6:decide ((1000000:Int).natAbs < 18446744073709551616) = true:=rfl
   have b2:decide ((2:Int).natAbs < 18446744073709551616) = true:=rfl
   have b1:decide ((1 - 2 * r5).natAbs < 18446744073709551616) = true:=decide_eq_true (by omega)
   simp_all only [h1,h2,e2,e3,e4,e5,p6,p12,b12,b6,b2,b1,Bool.true_or,Bool.or_true]
   exact ⟨_,_,_,by rcases (show r5 = 0 \/ r5 = 1 by omega) with rfl | rfl <;> omega,tm ht5 (by omega),rfl⟩
inductive Kd where | num | truth | pair (a b:Kd) | row (a:Kd)
def Kd.th:Kd -> T
 | .num=>.tup [.str (q "num")]
 | .truth=>.tup [.str (q "truth")]
 | .pair a b=>.tup [.str (q "pair"),a.th,b.th]
 | .row a=>.tup [.str (q "row"),a.th]
def Kd.deep:Kd -> Nat
 | .num=>0 | .truth=>0 | .pair a b=>max a.deep b.deep + 1 | .row a=>a.deep + 1
def OfK:Kd -> T -> Prop
 | .num,t=>∃ i:Int,t = .int i /\ i.natAbs <= 1000000000000000000
 | .truth,t=>∃ b,t = .bl b
 | .pair a b,t=>∃ x y,t = .tup [x,y] /\ OfK a x /\ OfK b y
 | .row a,t=>∃ ts,t = .lst ts /\ ts.length <= 200 /\ ∀ u ∈ ts,OfK a u
mutual
def sz:T -> Nat
 | .tup ts=>szs ts + 1
 | .lst ts=>szs ts + 1
 | _=>1
def szs:List T -> Nat
 | []=>0
 | t :: ts=>sz t + szs ts
end
def B:Nat -> Nat
 | 0=>1
 | d + 1=>3 * B d + 201
def D:Nat -> Nat
 | 0=>5
 | d + 1=>3 * D d + 1003
def PT:Nat -> T -> Prop
 | _,.bl _=>True
 | _,.int _=>True
 | _,.str _=>True
 | _,.non=>True
 | d + 1,.tup ts=>∀ u ∈ ts,PT d u
 | d + 1,.lst ts=>∀ u ∈ ts,PT d u
 | _,_=>False
theorem dj (m n:Md):∀ ts:List T,bu m n ts ts = ts.map fun t=>[(m,t),(n,t)]
 | []=>rfl
 | t :: ts=>by show _ :: bu m n ts ts = _ :: _; rw [dj m n ts]
theorem wQ (m n:Md) (ts us:List T):turns .zip [(m,.lst ts),(n,.lst us)] = some (bu .s .s ts us):=rfl
theorem uI (m n:Md) (ts us:List T):turns .zip [(m,.tup ts),(n,.tup us)] = some (bu .s .s ts us):=rfl
theorem cM:∀ ts:List T,aQ (ts.map fun _=>T.bl true) = some (ts.map fun _=>true)
 | []=>rfl
 | _ :: ts=>by show (aQ (ts.map fun _=>T.bl true)).map _ = _; rw [cM ts]; rfl
theorem eC:∀ ts:List T,(ts.map fun _=>true).all id = true
 | []=>rfl
 | _ :: ts=>by show (true && (ts.map fun _=>true).all id) = true; rw [eC ts]; rfl
theorem aM {α:Type} (f:α -> Md) (g:α -> T):∀ ts:List α,aJ (ts.map fun x=>(f x,g x)) = ts.map g
 | []=>rfl
 | x :: ts=>by show g x :: aJ _ = g x :: ts.map g; rw [aM f g ts]
theorem yV (ts:List T):isOne "list" (.lst ts) = true:=rfl
theorem zx (ts:List T):isOne "tuple" (.lst ts) = false:=rfl
theorem yj (ts:List T):isOne "list" (.tup ts) = false:=rfl
theorem ot (ts:List T):isOne "tuple" (.tup ts) = true:=rfl
theorem tO (i:Int):isOne "list" (.int i) = false:=rfl
theorem tP (i:Int):isOne "tuple" (.int i) = false:=rfl
theorem tR (b:Bool):isOne "list" (.bl b) = false:=rfl
theorem ua (b:Bool):isOne "tuple" (.bl b) = false:=rfl
theorem tD (b:Bool):isOne "bool" (.bl b) = true:=rfl
theorem t9 (i:Int):isOne "bool" (.int i) = false:=rfl
theorem tS (x:Str):isOne "list" (.str x) = false:=rfl
theorem tj (x:Str):isOne "tuple" (.str x) = false:=rfl
theorem ui (x:Str):isOne "bool" (.str x) = false:=rfl
theorem tV:isOne "list" .non = false:=rfl
theorem uh:isOne "tuple" .non = false:=rfl
theorem tU:isOne "bool" .non = false:=rfl
theorem Aj (h:Bool) (m n:Md):oSem .eq h [(m,.non),(n,.non)] = some (.d,.bl true):=rfl
theorem Ad (n:Nat):∀ (d:Nat) (t:T) (m m':Md),PT d t -> C (n + d + 1) 24 [(m,t),(m',t)] = .ok ((.d,.bl true),[]):=by
 intro d
 induction d with
 | zero =>
  intro t m m' h
  rw [cS,x_run _ _ _ rfl]
  cases t with
  | bl b=>simp_all only [ak,List.any_cons,List.any_nil,tR,ua,tD,Bool.or_false,Bool.or_true,beq_self_eq_true]
  | int i=>simp_all only [ak,List.any_cons,List.any_nil,tO,tP,t9,Bool.or_false,Bool.or_true,beq_self_eq_true]
  | str x=>simp_all only [ak,List.any_cons,List.any_nil,tS,tj,ui,Bool.or_false,Bool.or_true,beq_self_eq_true]
  | non=>simp_all only [ak,List.any_cons,List.any_nil,tV,uh,tU,Bool.or_false,Bool.or_true,beq_self_eq_true,Aj]
  | _=>exact h.elim
 | succ d ih =>
  intro t m m' h
  rw [show n + (d + 1) + 1 = (n + d + 1) + 1 by omega,cS,x_run _ _ _ rfl]
  have cm:∀ ts:List T,(∀ u ∈ ts,PT d u) -> ∀ o0 o1:Option W,aE [2,3] (bA (evE (C (n + d + 1)) (.call 24 [.var 2,.var 3]))) (ts.map fun t=>[((.s,t):W),(.s,t)]) [o0,o1,none,none] [] = .ok ([] ++ ts.map fun _=>(.d,.bl true),[o0,o1,none,none]):=by
   intro ts hts o0 o1
   refine aC (fun _=>((.d,.bl true):W)) ts [] fun u hu=>⟨_,[o0,o1,some (.s,u),some (.s,u)],rfl,?_,rfl⟩
   simp_all only [ih u .s .s (hts u hu)]
  cases t with
  | bl b=>simp_all only [ak,List.any_cons,List.any_nil,tR,ua,tD,Bool.or_false,Bool.or_true,beq_self_eq_true]
  | int i=>simp_all only [ak,List.any_cons,List.any_nil,tO,tP,t9,Bool.or_false,Bool.or_true,beq_self_eq_true]
  | str x=>simp_all only [ak,List.any_cons,List.any_nil,tS,tj,ui,Bool.or_false,Bool.or_true,beq_self_eq_true]
  | non=>simp_all only [ak,List.any_cons,List.any_nil,tV,uh,tU,Bool.or_false,Bool.or_true,beq_self_eq_true,Aj]
  | lst ts=>simp_all only [ak,List.any_cons,List.any_nil,yV,zx,Bool.or_false,Bool.or_true,beq_self_eq_true,wQ,dj,cm ts h,aM (fun _=>Md.d),cM,eC]
  | tup ts=>simp_all only [ak,List.any_cons,List.any_nil,yj,ot,Bool.or_false,Bool.or_true,beq_self_eq_true,uI,dj,cm ts h,aM (fun _=>Md.d),cM,eC]
  | _=>exact h.elim
def fst:T -> T | .tup [x,_]=>x | _=>.non
def snd:T -> T | .tup [_,x]=>x | _=>.non
def dJ:T -> List T | .lst ts=>ts | _=>[]
def ni (t:T):T:=.int (((dJ t).length:Nat):Int)
def ah:Kd -> List T -> T
 | .num,ts=>.lst ts
 | .truth,ts=>.lst ts
 | .pair a b,ts=>.tup [ah a (ts.map fst),ah b (ts.map snd)]
 | .row a,ts=>.tup [.lst (ts.map ni),ah a (ts.flatMap dJ)]
theorem jV:∀ ts us:List T,szs (ts ++ us) = szs ts + szs us
 | [],us=>by show szs us = 0 + szs us; omega
 | t :: ts,us=>by show sz t + szs (ts ++ us) = sz t + szs ts + szs us; rw [jV ts us]; omega
theorem u6 (t:T):1 <= sz t:=by
 cases t <;> first | exact Nat.le_refl _ | exact Nat.le_add_left _ _
theorem kl:∀ ts:List T,ts.length <= szs ts
 | []=>Nat.le_refl _
 | t :: ts=>by
  have:=kl ts
  have:=u6 t
  show ts.length + 1 <= sz t + szs ts
  omega
theorem gg {a b:Kd}:∀ {ts:List T},(∀ t ∈ ts,OfK (.pair a b) t) -> szs (ts.map fst) <= szs ts /\ szs (ts.map snd) <= szs ts
 | [],_=>⟨Nat.le_refl _,Nat.le_refl _⟩
 | t :: ts,h=>by
  obtain ⟨x,y,rfl,_,_⟩:=h t List.mem_cons_self
  obtain ⟨h1,h2⟩:=gg fun u hu=>h u (List.mem_cons_of_mem _ hu)
  refine ⟨?_,?_⟩
  ·show sz x + szs (ts.map fst) <= (sz x + (sz y + 0) + 1) + szs ts; omega
  ·show sz y + szs (ts.map snd) <= (sz x + (sz y + 0) + 1) + szs ts; omega
theorem hV {a:Kd}:∀ {ts:List T},(∀ t ∈ ts,OfK (.row a) t) -> szs (ts.flatMap dJ) <= szs ts
 | [],_=>Nat.le_refl _
 | t :: ts,h=>by
  obtain ⟨us,rfl,_,_⟩:=h t List.mem_cons_self
  have:=hV fun u hu=>h u (List.mem_cons_of_mem _ hu)
  rw [List.flatMap_cons,jV]
  show szs us + _ <= (szs us + 1) + szs ts
  omega
theorem dn {a b:Kd} {ts:List T} (h:∀ t ∈ ts,OfK (.pair a b) t):(∀ t ∈ ts.map fst,OfK a t) /\ ∀ t ∈ ts.map snd,OfK b t:=by
 refine ⟨fun u hu=>?_,fun u hu=>?_⟩
 ·obtain ⟨t,ht,rfl⟩:=List.mem_map.mp hu
  obtain ⟨x,y,rfl,h1,_⟩:=h t ht
  exact h1
 ·obtain ⟨t,ht,rfl⟩:=List.mem_map.mp hu
  obtain ⟨x,y,rfl,_,h1⟩:=h t ht
  exact h1
theorem gA {a:Kd} {ts:List T} (h:∀ t ∈ ts,OfK (.row a) t):∀ t ∈ ts.flatMap dJ,OfK a t:=by
 intro u hu
 obtain ⟨t,ht,hu⟩:=List.mem_flatMap.mp hu
 obtain ⟨us,rfl,_,h1⟩:=h t ht
 exact h1 u hu
theorem ey {ts:List T} (h:∀ t ∈ ts,OfK .num t):leaves ts = true:=List.all_eq_true.mpr fun t ht=>by obtain ⟨i,rfl,_⟩:=h t ht; rfl
theorem cW {ts:List T} (h:∀ t ∈ ts,OfK .truth t):leaves ts = true:=List.all_eq_true.mpr fun t ht=>by obtain ⟨i,rfl⟩:=h t ht; rfl
theorem j8 {α:Type} (g:α -> T) (ts:List α):(ts.map fun x=>((.d,g x):W)).all okD = true:=List.all_eq_true.mpr fun w hw=>by
 obtain ⟨u,_,rfl⟩:=List.mem_map.mp hw
 rfl
theorem iw {F:Call} {a b:Kd} {ts:List T} (h:∀ t ∈ ts,OfK (.pair a b) t) (η:Env) (s:Nat) (hη:∀ t,rd (put η s (.s,t)) s = some (.s,t)) (hd:∀ t,ag [s] (put η s (.s,t)) = η) :
  aE [s] (bA (evE F (.op .ix false [.var s,.cst (.int 0)]))) (ts.map fun t=>[((.s,t):W)]) η [] = .ok ([] ++ ts.map fun t=>(.s,fst t),η) /\
  aE [s] (bA (evE F (.op .ix false [.var s,.cst (.int 1)]))) (ts.map fun t=>[((.s,t):W)]) η [] = .ok ([] ++ ts.map fun t=>(.s,snd t),η):=by
 constructor
 ·refine aC (fun t=>((.s,fst t):W)) ts [] fun u hu=>⟨_,put η s (.s,u),rfl,?_,hd u⟩
  obtain ⟨x,y,rfl,_,_⟩:=h u hu
  simp_all only [hη,fst]
 ·refine aC (fun t=>((.s,snd t):W)) ts [] fun u hu=>⟨_,put η s (.s,u),rfl,?_,hd u⟩
  obtain ⟨x,y,rfl,_,_⟩:=h u hu
  simp_all only [hη,snd]
theorem nJ {F:Call} {a:Kd} {ts:List T} (h:∀ t ∈ ts,OfK (.row a) t) (η:Env) (s:Nat) (hη:∀ t,rd (put η s (.s,t)) s = some (.s,t)) (hd:∀ t,ag [s] (put η s (.s,t)) = η) :
  aE [s] (bA (evE F (.op .len false [.var s]))) (ts.map fun t=>[((.s,t):W)]) η [] = .ok ([] ++ ts.map fun t=>(.d,ni t),η):=by
 refine aC (fun t=>((.d,ni t):W)) ts [] fun u hu=>⟨_,put η s (.s,u),rfl,?_,hd u⟩
 obtain ⟨us,rfl,_,_⟩:=h u hu
 simp_all only [hη,ni,dJ]
theorem flat:∀ (k:Kd) (n:Nat) (ts:List T) (m1 m:Md),(∀ t ∈ ts,OfK k t) -> szs ts <= LIM -> C (n + k.deep + 1) 6 [(m1,k.th),(m,.lst ts)] = .ok ((.d,ah k ts),[])
 | .num,n,ts,m1,m,h,_=>by
  rw [b3,x_run _ _ _ rfl]
  simp_all only [aW,Kd.th,qeq,ey h,ah]
 | .truth,n,ts,m1,m,h,_=>by
  rw [b3,x_run _ _ _ rfl]
  simp_all only [aW,Kd.th,qeq,cW h,ah]
 | .pair a b,n,ts,m1,m,h,hs=>by
  have e1:=flat a (n + (max a.deep b.deep - a.deep)) (ts.map fst) .s (.o .s) (dn h).1 (Nat.le_trans (gg h).1 hs)
  have e2:=flat b (n + (max a.deep b.deep - b.deep)) (ts.map snd) .s (.o .s) (dn h).2 (Nat.le_trans (gg h).2 hs)
  rw [show n + (max a.deep b.deep - a.deep) + a.deep + 1 = n + max a.deep b.deep + 1 by omega] at e1
  rw [show n + (max a.deep b.deep - b.deep) + b.deep + 1 = n + max a.deep b.deep + 1 by omega] at e2
  rw [show n + (Kd.pair a b).deep + 1 = (n + max a.deep b.deep + 1) + 1 from rfl,b3,x_run _ _ _ rfl]
  have c1:=(iw (F:=C (n + max a.deep b.deep + 1)) h [some (.s,.tup [.str (q "pair"),a.th,b.th]),some (.s,.lst ts),none,none,none,none,none] 4 (fun _=>rfl) (fun _=>rfl)).1
  have c2:=(iw (F:=C (n + max a.deep b.deep + 1)) h [some (.s,.tup [.str (q "pair"),a.th,b.th]),some (.s,.lst ts),none,none,none,none,none] 5 (fun _=>rfl) (fun _=>rfl)).2
  simp_all only [aW,Kd.th,qeq,c1,c2,aM (fun _=>Md.s),e1,e2,ah]
 | .row a,n,ts,m1,m,h,hs=>by
  have hk:=Nat.le_trans (hV h) hs
  have hl:=Nat.le_trans (kl (ts.flatMap dJ)) hk
  have e1:=fun m2=>flat a n (ts.flatMap dJ) m2 (.o .s) (gA h) hk
  rw [show n + (Kd.row a).deep + 1 = (n + a.deep + 1) + 1 from rfl,b3,x_run _ _ _ rfl]
  have lp:forL [3] (evSs (C (n + a.deep + 1)) [S.ext (X.q [3] []) 2 (E.var 3)]) (ts.map fun t=>[((Md.s,t):W)]) [some (m1,T.tup [T.str (q "row"),a.th]),some (Md.s,T.lst ts),some (Md.s.o,T.lst []),none,none,none,none] =
    .nx [some (m1,T.tup [T.str (q "row"),a.th]),some (Md.s,T.lst ts),some (Md.s.o,T.lst (ts.flatMap dJ)),ts.getLast?.map fun t=>(Md.s,t),none,none,none]:=by
   refine j4 (fun p=>[some (m1,T.tup [T.str (q "row"),a.th]),some (Md.s,T.lst ts),some (Md.s.o,T.lst (p.flatMap dJ)),p.getLast?.map fun t=>(Md.s,t),none,none,none]) ts [] fun p t r e=>?_
   obtain ⟨us,rfl,_,_⟩:=h t (by simp at e; rw [e]; simp)
   refine ⟨_,rfl,?_⟩
   have hle:((p.flatMap dJ).length + us.length <= LIM):=by
    have e':ts = p ++ .lst us :: r:=e
    rw [e',List.flatMap_append,List.flatMap_cons,List.length_append,List.length_append] at hl
    have:(dJ (.lst us)).length = us.length:=rfl
    omega
   simp_all only [if_pos hle,List.flatMap_append,List.flatMap_cons,List.flatMap_nil,dJ,List.getLast?_append,List.getLast?_singleton,Option.some_or]
  have c1:=fun o0 o2 o3 o4 o5=>nJ (F:=C (n + a.deep + 1)) h [o0,none,o2,o3,o4,o5,none] 6 (fun _=>rfl) (fun _=>rfl)
  simp_all only [aW,Kd.th,qeq,lp,c1,aM (fun _=>Md.d),e1,j8,ah]
theorem yS:∀ (k:Kd) (n:Nat) (ts:List T) (m1 m:Md) (L:Int),k.deep = 0 -> (∀ t ∈ ts,OfK k t) -> C (n + 1) 7 [(m1,k.th),(m,ah k ts),(.d,.int L)] = .ok ((.d,.lst ts),[])
 | .num,n,ts,m1,m,L,_,h=>by
  rw [c9,x_run _ _ _ rfl]
  simp_all only [aX,Kd.th,qeq,ah,ey h]
 | .truth,n,ts,m1,m,L,_,h=>by
  rw [c9,x_run _ _ _ rfl]
  simp_all only [aX,Kd.th,qeq,ah,cW h]
 | .pair _ _,_,_,_,_,_,h,_=>by cases h
 | .row _,_,_,_,_,_,h,_=>by cases h
theorem of_PT:∀ (k:Kd) (t:T),OfK k t -> PT (k.deep + 1) t
 | .num,t,h=>by obtain ⟨i,rfl,_⟩:=h; exact True.intro
 | .truth,t,h=>by obtain ⟨i,rfl⟩:=h; exact True.intro
 | .pair a b,t,h=>by
  obtain ⟨x,y,rfl,h1,h2⟩:=h
  have mono:∀ (d e:Nat) (t:T),d <= e -> PT d t -> PT e t:=PTm
  intro u hu
  rcases List.mem_cons.mp hu with z | z
  ·rw [z]; exact mono _ _ _ (by show a.deep + 1 <= max a.deep b.deep + 1; omega) (of_PT a x h1)
  ·rw [List.mem_singleton.mp z]; exact mono _ _ _ (by show b.deep + 1 <= max a.deep b.deep + 1; omega) (of_PT b y h2)
 | .row a,t,h=>by
  obtain ⟨ts,rfl,_,h1⟩:=h
  exact fun u hu=>of_PT a u (h1 u hu)
where
 PTm:∀ (d e:Nat) (t:T),d <= e -> PT d t -> PT e t
  | _,0,.bl _,_,_=>True.intro
  | _,_ + 1,.bl _,_,_=>True.intro
  | _,0,.int _,_,_=>True.intro
  | _,_ + 1,.int _,_,_=>True.intro
  | d + 1,e + 1,.tup ts,h,p=>fun u hu=>PTm d e u (by omega) (p u hu)
  | d + 1,e + 1,.lst ts,h,p=>fun u hu=>PTm d e u (by omega) (p u hu)
  | 0,_,.tup _,_,p=>p.elim
  | 0,_,.lst _,_,p=>p.elim
  | _,0,.non,_,_=>True.intro
  | _,_ + 1,.non,_,_=>True.intro
  | _,0,.str _,_,_=>True.intro
  | _,_ + 1,.str _,_,_=>True.intro
  | 0,_,.dct _ _,_,p=>p.elim
  | _ + 1,_,.dct _ _,_,p=>p.elim
  | 0,_,.ins _ _ _,_,p=>p.elim
  | _ + 1,_,.ins _ _ _,_,p=>p.elim
  | 0,_,.scr _,_,p=>p.elim
  | _ + 1,_,.scr _,_,p=>p.elim
  | 0,_,.gone,_,p=>p.elim
  | _ + 1,_,.gone,_,p=>p.elim
theorem eH {n:Nat}:∀ {ts:List T},(∀ u ∈ ts,dp u <= n) -> dps ts <= n
 | [],_=>Nat.zero_le _
 | t :: ts,h=>by
  have h1:=h t List.mem_cons_self
  have h2:=eH fun u hu=>h u (List.mem_cons_of_mem _ hu)
  show max (dp t) (dps ts) <= n
  omega
theorem dP:∀ (k:Kd) (ts:List T),(∀ t ∈ ts,OfK k t) -> dp (ah k ts) <= k.deep + 1
 | .num,ts,h=>Nat.succ_le_succ (eH (n:=0) fun u hu=>by obtain ⟨i,rfl,_⟩:=h u hu; exact Nat.le_refl _)
 | .truth,ts,h=>Nat.succ_le_succ (eH (n:=0) fun u hu=>by obtain ⟨i,rfl⟩:=h u hu; exact Nat.le_refl _)
 | .pair a b,ts,h=>by
  have h1:=dP a _ (dn h).1
  have h2:=dP b _ (dn h).2
  show max (dp _) (max (dp _) 0) + 1 <= max a.deep b.deep + 1 + 1
  omega
 | .row a,ts,h=>by
  have h1:=dP a _ (gA h)
  have h2:dp (.lst (ts.map ni)) <= 1:=Nat.succ_le_succ (eH (n:=0) fun u hu=>by obtain ⟨i,_,rfl⟩:=List.mem_map.mp hu; exact Nat.le_refl _)
  show max (dp _) (max (dp _) 0) + 1 <= a.deep + 1 + 1
  omega
theorem ik (ns:List Int):leaves (ns.map T.int) = true:=List.all_eq_true.mpr fun t ht=>by obtain ⟨i,_,rfl⟩:=List.mem_map.mp ht; rfl
theorem nF {d e:Nat} {t:T} (h:d <= e) (p:PT d t):PT e t:=of_PT.PTm d e t h p
theorem cz:∀ (k:Kd) (ts:List T),(∀ t ∈ ts,OfK k t) -> PT (k.deep + 2) (ah k ts)
 | .num,ts,h=>fun u hu=>by obtain ⟨i,rfl,_⟩:=h u hu; exact True.intro
 | .truth,ts,h=>fun u hu=>by obtain ⟨i,rfl⟩:=h u hu; exact True.intro
 | .pair a b,ts,h=>by
  have h1:=cz a _ (dn h).1
  have h2:=cz b _ (dn h).2
  intro u hu
  rcases List.mem_cons.mp hu with z | z
  ·rw [z]; exact nF (by show a.deep + 2 <= max a.deep b.deep + 1 + 1; omega) h1
  ·rw [List.mem_singleton.mp z]; exact nF (by show b.deep + 2 <= max a.deep b.deep + 1 + 1; omega) h2
 | .row a,ts,h=>by
  have h1:=cz a _ (gA h)
  intro u hu
  rcases List.mem_cons.mp hu with z | z
  ·rw [z]; exact fun v hv=>by obtain ⟨x,_,rfl⟩:=List.mem_map.mp hv; exact True.intro
  ·rw [List.mem_singleton.mp z]; exact nF (by show a.deep + 2 <= a.deep + 1 + 1; omega) h1
theorem uN {n:Nat} {t:T} (h:dp t <= n) (h2:dp t <= 64):C (n + 1) 95 [(.d,t)] = .ok ((.d,.non),[]):=by
 have h1:(lf .d t == Md.d && (decide (dp t <= n) && decide (dp t <= 64))) = true:=by
  rw [pe,decide_eq_true h,decide_eq_true h2]; rfl
 exact if_pos h1
theorem vD {ts:List T} {j:Nat} (h:j < ts.length):atI ts (j:Int) = some (ts.getD j .non):=atN rfl (by rw [List.getD_eq_getElem?_getD,List.getElem?_eq_getElem h]; rfl)
theorem eQ {α:Type} {tg:List Nat} {f:Env -> Fl} {g:α -> List W} (I:List α -> Env -> Prop):∀ (ts pre:List α) (η:Env),I pre η -> (∀ p x r η,pre ++ ts = p ++ x :: r -> I p η -> ∃ η1 η2,bindT tg (g x) η = some η1 /\ f η1 = .nx η2 /\ I (p ++ [x]) η2) ->
  ∃ η',forL tg f (ts.map g) η = .nx η' /\ I (pre ++ ts) η'
 | [],pre,η,h,_=>⟨η,rfl,by rw [List.append_nil]; exact h⟩
 | x :: ts,pre,η,h,k=>by
  obtain ⟨η1,η2,h1,h2,h3⟩:=k pre x ts η rfl h
  obtain ⟨η',e,hi⟩:=eQ I ts (pre ++ [x]) η2 h3 fun p y r η e=>k p y r η (by rw [<- e,List.append_assoc]; rfl)
  refine ⟨η',?_,by rw [List.append_assoc] at hi; exact hi⟩
  rw [List.map_cons]
  show Fl.of _ (ofO (bindT tg (g x) η)) _ = _
  rw [h1]
  show Fl.turn (f η1) _ = _
  rw [h2]
  exact e
theorem eB (m n:Md):∀ (ts us:List T),bu m n ts us = (ts.zip us).map fun p=>[(m,p.1),(n,p.2)]
 | [],us=>rfl
 | t :: ts,[]=>rfl
 | t :: ts,u :: us=>by show _ :: bu m n ts us = _; rw [eB m n ts us]; rfl
theorem cB {α:Type} {f:Env -> Res (Option W × Env)} {s:Nat} {g:α -> W} (E:T -> Env) (E':T -> W -> Env) {P:Option W -> Prop} {c:Nat} (hb:∀ t w,bindT [s] [w] (E t) = some (E' t w)) (hd:∀ t w,ag [s] (E' t w) = E t)
  (hf:∀ N t w,Tp N t -> N + c < 1000000000000000000 -> ∃ o t',P o /\ Tp (N + c) t' /\ f (E' t w) = .ok (o,E' t' w)):∀ (l:List α) (N:Nat) (t:T),Tp N t -> N + l.length * c < 1000000000000000000 ->
  ∃ (os:List (Option W)) (t':T),os.length = l.length /\ (∀ o ∈ os,P o) /\ Tp (N + l.length * c) t' /\ ∀ acc,aE [s] f (l.map fun x=>[g x]) (E t) acc = .ok (acc ++ os.filterMap id,E t')
 | [],N,t,ht,_=>⟨[],t,rfl,(fun _ h=>nomatch h),by simpa using ht,fun acc=>by rw [List.filterMap_nil,List.append_nil]; rfl⟩
 | x :: l,N,t,ht,hN=>by
  rw [List.length_cons,Nat.succ_mul] at hN
  obtain ⟨o,t1,h1,h2,h3⟩:=hf N t (g x) ht (by omega)
  obtain ⟨os,t2,k1,k2,k3,k4⟩:=cB E E' hb hd hf l (N + c) t1 h2 (by omega)
  refine ⟨o :: os,t2,by rw [List.length_cons,List.length_cons,k1],fun q hq=>(List.mem_cons.mp hq).elim (fun e=>e ▸ h1) (k2 q),by rw [List.length_cons,Nat.succ_mul]; exact tm k3 (by omega),fun acc=>?_⟩
  rw [List.map_cons]
  show (ofO (bindT [s] [g x] (E t))).bind _ = _
  rw [hb]
  show (f (E' t (g x))).bind _ = _
  rw [h3]
  show aE [s] f (l.map fun x=>[g x]) (ag [s] (E' t1 (g x))) (acc ++ o.toList) = _
  rw [hd,k4,List.append_assoc,List.filterMap_cons]
  cases o <;> rfl
theorem nA {mm:Int} (h0:0 <= mm) (h1:mm <= 1000000):decide (mm.natAbs < 4611686018427387904) = true /\ cK mm.toNat = true:=⟨decide_eq_true (by omega),decide_eq_true (by show mm.toNat <= 16777215; omega)⟩
theorem j7 {P:W -> Prop}:∀ {os:List (Option W)},(∀ o ∈ os,∃ w,o = some w /\ P w) -> ∃ ws:List W,os.filterMap id = ws /\ ws.length = os.length /\ ∀ w ∈ ws,P w
 | [],_=>⟨[],rfl,rfl,(fun _ h=>nomatch h)⟩
 | o :: os,h=>by
  obtain ⟨w,rfl,hw⟩:=h o List.mem_cons_self
  obtain ⟨ws,e,l,k⟩:=j7 fun q hq=>h q (List.mem_cons_of_mem _ hq)
  exact ⟨w :: ws,by show w :: os.filterMap id = _; rw [e],by rw [List.length_cons,List.length_cons,l],fun v hv=>(List.mem_cons.mp hv).elim (fun e=>e ▸ hw) (k v)⟩
def Ok (k:Kd) (N:Nat) (us:List T):Prop:=(∀ t ∈ us,OfK k t /\ sz t <= B k.deep) /\ us.length <= N
theorem dS {b:Nat}:∀ {ts:List T},(∀ t ∈ ts,sz t <= b) -> szs ts <= ts.length * b
 | [],_=>Nat.zero_le _
 | t :: ts,h=>by
  have h1:=h t List.mem_cons_self
  have h2:=dS fun v hv=>h v (List.mem_cons_of_mem _ hv)
  show sz t + szs ts <= _
  rw [List.length_cons,Nat.succ_mul]; omega
theorem Ok.szs {k:Kd} {N:Nat} {us:List T} (h:Ok k N us):szs us <= N * B k.deep:=Nat.le_trans (dS fun t ht=>(h.1 t ht).2) (Nat.mul_le_mul_right _ h.2)
theorem Ok.of {k:Kd} {N:Nat} {us:List T} (h:Ok k N us):∀ t ∈ us,OfK k t:=fun t ht=>(h.1 t ht).1
def aZ (R:List T -> T × T):List (List T) -> List T × T
 | []=>([],.non)
 | r :: rs=>match (R r).2 with
  | .non=>((R r).1 :: (aZ R rs).1,(aZ R rs).2)
  | w=>([],w)
def aA (css:List (List T)) (k:Nat):List T:=css.map fun c=>c.getD k .non
def OkR (kr:Kd) (p:T × T):Prop:=(p.2 = .non /\ OfK kr p.1) \/ ∃ w,p.2 = .str w
theorem jJ {kr:Kd} {R:List T -> T × T}:∀ {rs:List (List T)},(∀ r ∈ rs,OkR kr (R r)) -> (∀ t ∈ (aZ R rs).1,OfK kr t) /\ (aZ R rs).1.length <= rs.length /\ ((aZ R rs).2 = .non \/ ∃ w,(aZ R rs).2 = .str w)
 | [],_=>⟨(fun _ h=>nomatch h),Nat.le_refl _,.inl rfl⟩
 | r :: rs,h=>by
  obtain ⟨h1,h2,h3⟩:=jJ fun q hq=>h q (List.mem_cons_of_mem _ hq)
  rcases h r List.mem_cons_self with ⟨e,o⟩ | ⟨w,e⟩
  ·have e2:aZ R (r :: rs) = ((R r).1 :: (aZ R rs).1,(aZ R rs).2):=by rw [aZ,e]
   rw [e2]
   exact ⟨fun t ht=>(List.mem_cons.mp ht).elim (fun z=>z ▸ o) (h1 t),Nat.succ_le_succ h2,h3⟩
  ·have e2:aZ R (r :: rs) = ([],.str w):=by rw [aZ,e]
   rw [e2]
   exact ⟨(fun _ h=>nomatch h),Nat.zero_le _,.inr ⟨w,rfl⟩⟩
theorem j1:∀ {k:Kd} {t:T},k.deep = 0 -> OfK k t -> t.leaf = true
 | .num,_,_,⟨i,rfl,_⟩=>rfl
 | .truth,_,_,⟨i,rfl⟩=>rfl
 | .pair _ _,_,h,_=>by cases h
 | .row _,_,h,_=>by cases h
theorem jF {m:Md} {t:T} (h:t.leaf = true):lf m t = .d:=if_pos h
abbrev jQ:List S:=[
   .asg (.q [0,4] [7]) 8 (.call 130 [.var 0,.comp false .seq [.var 4] [11] none (.op .ix false [.var 11,.var 7])]),
   .asg (.q [8] []) 6 (.op .ix false [.var 8,.cst (.int 1)]),
   .ite (.q [6] []) (.op .isnot false [.var 6,.cst (.non)]) [
    .brk] [],
   .app (.q [8] []) 5 (.op .ix false [.var 8,.cst (.int 0)])]
theorem nY {F:Call} {css:List (List T)} {k:Nat} (hk:∀ c ∈ css,k < c.length) (o0 o1 o2 o3 o5 o6 o8 o9 o10:Option W) :
  aE [11] (bA (evE F (.op .ix false [.var 11,.var 7]))) ((css.map T.lst).map fun t=>[((.s,t):W)]) [o0,o1,o2,o3,some (.s,.lst (css.map T.lst)),o5,o6,some (.d,.int (k:Int)),o8,o9,o10,none] [] = .ok ([] ++ css.map fun c=>(.s,c.getD k .non),[o0,o1,o2,o3,some (.s,.lst (css.map T.lst)),o5,o6,some (.d,.int (k:Int)),o8,o9,o10,none]):=by
 rw [List.map_map]
 refine aC (tg:=[11]) (η:=[o0,o1,o2,o3,some (.s,.lst (css.map T.lst)),o5,o6,some (.d,.int (k:Int)),o8,o9,o10,none]) (g:=(fun t=>[((.s,t):W)]) ∘ T.lst) (fun c=>((.s,c.getD k .non):W)) css [] fun c hc=>⟨_,[o0,o1,o2,o3,some (.s,.lst (css.map T.lst)),o5,o6,some (.d,.int (k:Int)),o8,o9,o10,some (.s,.lst c)],rfl,?_,rfl⟩
 have a1:=vD (hk c hc)
 simp_all only [a1]
theorem fJ {n:Nat} {P:T} {m0:Md} {css:List (List T)} {R:List T -> T × T} {kr:Kd} (hkr:kr.deep = 0) {o1 o2 o3 o9 o10:Option W} (hd:∀ r,(∃ k,(∀ c ∈ css,k < c.length) /\ r = aA css k) -> OkR kr (R r) /\ C n 130 [(.s,P),(.o .s,.lst r)] = .ok ((.d,.tup [(R r).1,(R r).2]),[])) :
  ∀ (ks:List Nat) (acc:List T) (o7 o8:Option W),(∀ k ∈ ks,∀ c ∈ css,k < c.length) -> acc.length + ks.length < LIM -> ∃ o7' o8',forL [7] (evSs (C n) jQ) (ks.map fun (k:Nat)=>[((.d,.int k):W)]) [some (m0,P),o1,o2,o3,some (.o .s,.lst (css.map T.lst)),some (.o .s,.lst acc),some (.d,.non),o7,o8,o9,o10,none] =
   .nx [some (m0,P),o1,o2,o3,some (.o .s,.lst (css.map T.lst)),some (.o .s,.lst (acc ++ (aZ R (ks.map (aA css))).1)),some (.d,(aZ R (ks.map (aA css))).2),o7',o8',o9,o10,none]
 | [],acc,o7,o8,_,_=>⟨o7,o8,by show Fl.nx _ = Fl.nx _; rw [show (aZ R (([]:List Nat).map (aA css))) = ([],.non) from rfl,List.append_nil]⟩
 | k :: ks,acc,o7,o8,h,hl=>by
  rw [List.length_cons] at hl
  have hk:=h k List.mem_cons_self
  obtain ⟨hok,e1⟩:=hd _ ⟨k,hk,rfl⟩
  have c1:=fun o0 o1 o2 o3 o5 o6 o8 o9 o10=>nY (F:=C n) hk o0 o1 o2 o3 o5 o6 o8 o9 o10
  rw [List.map_cons,List.map_cons]
  show ∃ o7' o8',Fl.turn (evSs (C n) jQ _) _ = _
  rcases hok with ⟨e,o⟩ | ⟨w,e⟩
  ·have e2:aZ R (aA css k :: ks.map (aA css)) = ((R (aA css k)).1 :: (aZ R (ks.map (aA css))).1,(aZ R (ks.map (aA css))).2):=by rw [aZ,e]
   have hlf:=j1 hkr o
   have step:evSs (C n) jQ (put [some (m0,P),o1,o2,o3,some (.o .s,.lst (css.map T.lst)),some (.o .s,.lst acc),some (.d,.non),o7,o8,o9,o10,none] 7 (.d,.int (k:Int))) = .nx [some (m0,P),o1,o2,o3,some (.o .s,.lst (css.map T.lst)),some (.o .s,.lst (acc ++ [(R (aA css k)).1])),some (.d,.non),some (.d,.int (k:Int)),some (.d,.tup [(R (aA css k)).1,.non]),o9,o10,none]:=by
    have hlt:acc.length < LIM:=by omega
    simp_all only [c1,aM (fun _=>Md.s),show (css.map fun c=>c.getD k .non) = aA css k from rfl,e1,e,jF hlf,if_pos hlt]
   obtain ⟨o7',o8',ih⟩:=fJ hkr hd ks (acc ++ [(R (aA css k)).1]) (some (.d,.int (k:Int))) (some (.d,.tup [(R (aA css k)).1,.non])) (fun j hj=>h j (List.mem_cons_of_mem _ hj)) (by rw [List.length_append,List.length_singleton]; omega)
   refine ⟨o7',o8',?_⟩
   rw [step,e2]
   show forL _ _ _ _ = _
   rw [ih,List.append_assoc]
   rfl
  ·have e2:aZ R (aA css k :: ks.map (aA css)) = ([],.str w):=by rw [aZ,e]
   have step:evSs (C n) jQ (put [some (m0,P),o1,o2,o3,some (.o .s,.lst (css.map T.lst)),some (.o .s,.lst acc),some (.d,.non),o7,o8,o9,o10,none] 7 (.d,.int (k:Int))) = .bk [some (m0,P),o1,o2,o3,some (.o .s,.lst (css.map T.lst)),some (.o .s,.lst acc),some (.d,.str w),some (.d,.int (k:Int)),some (.d,.tup [(R (aA css k)).1,.str w]),o9,o10,none]:=by
    simp_all only [c1,aM (fun _=>Md.s),show (css.map fun c=>c.getD k .non) = aA css k from rfl,e1,e]
   refine ⟨some (.d,.int (k:Int)),some (.d,.tup [(R (aA css k)).1,.str w]),?_⟩
   rw [step,e2,List.append_nil]
   rfl
theorem pQ {n:Nat} {ks:List Kd} {css:List (List T)} {many:Nat} (hl:css.length = ks.length) (hc:∀ p ∈ ks.zip css,∀ m1 m L,C (n + 1) 7 [(m1,p.1.th),(m,ah p.1 p.2),(.d,.int L)] = .ok ((.d,.lst p.2),[])) (o0 o4 o5 o6 o7 o8 o11:Option W) (x1 x2:W) :
  aE [9,10] (bA (evE (C (n + 1)) (.call 7 [.var 9,.var 10,.var 3]))) (bu .s .s (ks.map Kd.th) ((ks.zip css).map fun p=>ah p.1 p.2)) [o0,some x1,some x2,some (.d,.int (many:Int)),o4,o5,o6,o7,o8,none,none,o11] [] =
   .ok ([] ++ (ks.zip css).map fun p=>(.d,.lst p.2),[o0,some x1,some x2,some (.d,.int (many:Int)),o4,o5,o6,o7,o8,none,none,o11]):=by
 have ez:bu .s .s (ks.map Kd.th) ((ks.zip css).map fun p=>ah p.1 p.2) = (ks.zip css).map fun p=>[((.s,p.1.th):W),(.s,ah p.1 p.2)]:=by
  clear hc
  induction ks generalizing css with
  | nil=>rfl
  | cons k ks ih =>
   cases css with
   | nil=>cases hl
   | cons c css=>show _ :: bu .s .s (ks.map Kd.th) ((ks.zip css).map fun p=>ah p.1 p.2) = _; rw [ih (Nat.succ.inj hl)]; rfl
 rw [ez]
 refine aC (tg:=[9,10]) (η:=[o0,some x1,some x2,some (.d,.int (many:Int)),o4,o5,o6,o7,o8,none,none,o11]) (g:=fun (p:Kd × List T)=>[((.s,p.1.th):W),(.s,ah p.1 p.2)]) (fun p=>((.d,.lst p.2):W)) (ks.zip css) [] fun p hp=>⟨_,[o0,some x1,some x2,some (.d,.int (many:Int)),o4,o5,o6,o7,o8,some (.s,p.1.th),some (.s,ah p.1 p.2),o11],rfl,?_,rfl⟩
 have:=hc p hp .s .s (many:Int)
 simp_all only [this]
theorem dZ {α β:Type}:∀ {xs:List α} {ys:List β},ys.length = xs.length -> (xs.zip ys).map (fun p=>p.2) = ys
 | [],[],_=>rfl
 | _ :: _,_ :: _,h=>congrArg (_ :: ·) (dZ (Nat.succ.inj h))
 | [],_ :: _,h=>by cases h
 | _ :: _,[],h=>by cases h
theorem AL {n:Nat} {sg:String} {pr:List T} {ks:List Kd} {css:List (List T)} {R:List T -> T × T} {kr:Kd} {many:Nat} (ht:tab_RECKONED.lookup (q sg) = some kr.th) (hkr:kr.deep = 0) (hl:css.length = ks.length) (hc:∀ p ∈ ks.zip css,∀ m1 m L,C (n + 1) 7 [(m1,p.1.th),(m,ah p.1 p.2),(.d,.int L)] = .ok ((.d,.lst p.2),[])) (hm:∀ c ∈ css,c.length = many) (hM:many <= 1000)
  (hd:∀ r,(∃ k,(∀ c ∈ css,k < c.length) /\ r = aA css k) -> OkR kr (R r) /\ C (n + 1) 130 [(.s,.tup (.str (q sg) :: pr)),(.o .s,.lst r)] = .ok ((.d,.tup [(R r).1,(R r).2]),[])) (m0 m1 m2 m3:Md) :
  C (n + 2) 134 [(m0,.tup (.str (q sg) :: pr)),(m1,.lst (ks.map Kd.th)),(m2,.lst ((ks.zip css).map fun p=>ah p.1 p.2)),(m3,.int (many:Int))] = .ok ((.d,.tup [ah kr (aZ R ((List.range many).map (aA css))).1,.int ((aZ R ((List.range many).map (aA css))).1.length:Nat),(aZ R ((List.range many).map (aA css))).2]),[]):=by
 have hLM:LIM = 16777215:=rfl
 rw [hU,x_run _ _ _ rfl]
 have c1:=fun o0 o4 o5 o6 o7 o8 o11 x1 x2=>pQ (n:=n) (many:=many) hl hc o0 o4 o5 o6 o7 o8 o11 x1 x2
 have hrow:∀ k ∈ List.range many,∀ c ∈ css,k < c.length:=fun k hk c hc'=>by rw [hm c hc']; exact List.mem_range.mp hk
 obtain ⟨o7,o8,lp⟩:=fJ (n:=n + 1) (P:=.tup (.str (q sg) :: pr)) (m0:=m0) (css:=css) (R:=R) hkr (o1:=some (.s,.lst (ks.map Kd.th))) (o2:=some (.s,.lst ((ks.zip css).map fun p=>ah p.1 p.2))) (o3:=some (m3,.int (many:Int))) (o9:=none) (o10:=none) hd (List.range many) [] none none hrow (by rw [List.length_nil,List.length_range]; omega)
 obtain ⟨r1,r2,r3⟩:=jJ (kr:=kr) (R:=R) (rs:=(List.range many).map (aA css)) fun r hr=>by
  obtain ⟨k,hk,rfl⟩:=List.mem_map.mp hr
  exact (hd _ ⟨k,hrow k hk,rfl⟩).1
 obtain ⟨b1,b2⟩:=nA (mm:=(many:Int)) (by omega) (by omega)
 rw [Int.toNat_natCast] at b2
 have hcol:aJ ((ks.zip css).map fun p=>((Md.d,T.lst p.2):W)) = css.map T.lst:=by
  rw [aM (fun _=>Md.d),<- dZ hl,List.map_map,dZ hl]; rfl
 generalize aZ R ((List.range many).map (aA css)) = rr at lp r1 r2 r3
 have e6:=fun m1 m=>flat kr n rr.1 m1 m r1 (by
  have:szs rr.1 <= rr.1.length * 1:=dS fun t ht=>by have:=j1 hkr (r1 t ht); cases t <;> first | exact Nat.le_refl _ | cases this
  rw [List.length_map,List.length_range] at r2
  omega)
 rw [hkr,Nat.add_zero] at e6
 rcases r3 with r3 | ⟨w,r3⟩
 ·rw [r3] at lp ⊢
  simp_all only [bg,c1,hcol,b1,b2,Int.toNat_natCast,lp,ht,e6]
 ·rw [r3] at lp ⊢
  simp_all only [bg,c1,hcol,b1,b2,Int.toNat_natCast,lp,ht,e6]
theorem uu {n:Nat} {sg:String} {pr:List T} {ks:List Kd} {css:List (List T)} {R:List T -> T × T} {kr:Kd} {many:Nat} (hk:keys_RECKONED.contains (q sg) = true) (ht:tab_RECKONED.lookup (q sg) = some kr.th) (hkr:kr.deep = 0) (hl:css.length = ks.length) (hc:∀ p ∈ ks.zip css,∀ m1 m L,C (n + 1) 7 [(m1,p.1.th),(m,ah p.1 p.2),(.d,.int L)] = .ok ((.d,.lst p.2),[])) (hm:∀ c ∈ css,c.length = many) (hM:many <= 1000)
  (hd:∀ r,(∃ k,(∀ c ∈ css,k < c.length) /\ r = aA css k) -> OkR kr (R r) /\ C (n + 1) 130 [(.s,.tup (.str (q sg) :: pr)),(.o .s,.lst r)] = .ok ((.d,.tup [(R r).1,(R r).2]),[])) (m0 m1 m2 m3:Md) :
  C (n + 3) 133 [(m0,.tup (.str (q sg) :: pr)),(m1,.lst (ks.map Kd.th)),(m2,.lst ((ks.zip css).map fun p=>ah p.1 p.2)),(m3,.int (many:Int))] = .ok ((.d,.tup [ah kr (aZ R ((List.range many).map (aA css))).1,.int ((aZ R ((List.range many).map (aA css))).1.length:Nat),(aZ R ((List.range many).map (aA css))).2]),[]):=by
 have e:=fun m0 m1 m2 m3=>AL (n:=n) ht hkr hl hc hm hM hd m0 m1 m2 m3
 rw [f9,x_run _ _ _ rfl]
 simp_all only [bj,hk,Bool.bne_false,e]
theorem gk:∀ k:Kd,eqT k.th k.th = true
 | .num=>by show (q "num" == q "num" && true) = true; rw [beq_self_eq_true]; rfl
 | .truth=>by show (q "truth" == q "truth" && true) = true; rw [beq_self_eq_true]; rfl
 | .pair a b=>by show (q "pair" == q "pair" && (eqT a.th a.th && (eqT b.th b.th && true))) = true; rw [beq_self_eq_true,gk a,gk b]; rfl
 | .row a=>by show (q "row" == q "row" && (eqT a.th a.th && true)) = true; rw [beq_self_eq_true,gk a]; rfl
theorem j6:∀ ks:List Kd,eqTs (ks.map Kd.th) (ks.map Kd.th) = true
 | []=>rfl
 | k :: ks=>by show (eqT k.th k.th && eqTs (ks.map Kd.th) (ks.map Kd.th)) = true; rw [gk k,j6 ks]; rfl
theorem jZ:∀ k:Kd,dp k.th <= k.deep + 1
 | .num=>Nat.le_refl _
 | .truth=>Nat.le_refl _
 | .pair a b=>by
  have:=jZ a
  have:=jZ b
  show max 0 (max (dp a.th) (max (dp b.th) 0)) + 1 <= max a.deep b.deep + 1 + 1
  omega
 | .row a=>by
  have:=jZ a
  show max 0 (max (dp a.th) 0) + 1 <= a.deep + 1 + 1
  omega
theorem gP (h:Bool) (m n:Md) (ks:List Kd) (hk:∀ k ∈ ks,k.deep <= 10):oSem .ne h [(m,.lst (ks.map Kd.th)),(n,.lst (ks.map Kd.th))] = some (.d,.bl false):=by
 have hd:dp (.lst (ks.map Kd.th)) <= 64:=by
  show dps (ks.map Kd.th) + 1 <= 64
  have:dps (ks.map Kd.th) <= 11:=eH fun u hu=>by
   obtain ⟨k,h1,rfl⟩:=List.mem_map.mp hu
   have:=jZ k
   have:=hk k h1
   omega
  omega
 rw [Bm _ _ _ _ _ hd hd]
 show some (Md.d,T.bl (!eqTs (ks.map Kd.th) (ks.map Kd.th))) = _
 rw [j6]; rfl
theorem jU {α β γ δ:Type} {f:α -> γ} {g:β -> δ}:∀ {xs:List α} {ys:List β},ys.length = xs.length -> (xs.map f).zip (ys.map g) = (xs.zip ys).map fun p=>(f p.1,g p.2)
 | [],[],_=>rfl
 | _ :: _,_ :: _,h=>congrArg (_ :: ·) (jU (Nat.succ.inj h))
 | [],_ :: _,h=>by cases h
 | _ :: _,[],h=>by cases h
theorem fB {α:Type} (f g h:α -> T):∀ l:List α,zipT3 (l.map f) (l.map g) (l.map h) = l.map fun p=>[(.s,f p),(.s,g p),(.s,h p)]
 | []=>rfl
 | _ :: l=>congrArg (_ :: ·) (fB f g h l)
theorem jH {α β:Type}:∀ {xs:List α} {ys:List β},ys.length = xs.length -> (xs.zip ys).map (fun p=>p.1) = xs
 | [],[],_=>rfl
 | _ :: _,_ :: _,h=>congrArg (_ :: ·) (jH (Nat.succ.inj h))
 | [],_ :: _,h=>by cases h
 | _ :: _,[],h=>by cases h
theorem yy (h:Bool) (m n:Md):oSem .ne h [(m,.non),(n,.non)] = some (.d,.bl false):=rfl
theorem sd {n:Nat} {P:T} {ks:List Kd} {many:Nat} {css:List (List T)} {kr:Kd} {ds:List T} {wd:T} (hn:kr.deep + 4 <= n) (hks:∀ k ∈ ks,k.deep + 4 <= n) (hk10:∀ k ∈ ks,k.deep <= 10) (hkr:kr.deep <= 10) (hl:css.length = ks.length) (h0:∃ c,atI (css.map T.lst) 0 = some (.lst c) /\ c.length = many) (hc:∀ p ∈ ks.zip css,(∀ t ∈ p.2,OfK p.1 t) /\ szs p.2 <= LIM) (hds:∀ t ∈ ds,OfK kr t) (hsz:szs ds <= LIM) (hw:wd = .non \/ ∃ x,wd = .str x)
  (hW:∀ m0 m1 m2 m3,C n 133 [(m0,P),(m1,.lst (ks.map Kd.th)),(m2,.lst ((ks.zip css).map fun p=>ah p.1 p.2)),(m3,.int (many:Nat))] = .ok ((.d,.tup [ah kr ds,.int (ds.length:Nat),wd]),[])) (m0 m1 m2 m3 m4 m5:Md) :
  C (n + 1) 135 [(m0,P),(m1,.lst (ks.map Kd.th)),(m2,.lst (css.map T.lst)),(m3,kr.th),(m4,.lst ds),(m5,wd)] = .ok ((.d,.bl true),[]):=by
 rw [ir,x_run _ _ _ rfl]
 have fl:∀ p ∈ ks.zip css,∀ m1 m,C n 6 [(m1,p.1.th),(m,.lst p.2)] = .ok ((.d,ah p.1 p.2),[]):=fun p hp m1 m=>by
  have:=flat p.1 (n - p.1.deep - 1) p.2 m1 m (hc p hp).1 (hc p hp).2
  have h2:=hks p.1 (List.of_mem_zip hp).1
  rw [show n - p.1.deep - 1 + p.1.deep + 1 = n by omega] at this
  exact this
 have flr:∀ m1 m,C n 6 [(m1,kr.th),(m,.lst ds)] = .ok ((.d,ah kr ds),[]):=fun m1 m=>by
  have:=flat kr (n - kr.deep - 1) ds m1 m hds hsz
  rw [show n - kr.deep - 1 + kr.deep + 1 = n by omega] at this
  exact this
 have al:∀ (d:Nat) (t:T) m m',d + 1 <= n -> PT d t -> C n 24 [(m,t),(m',t)] = .ok ((.d,.bl true),[]):=fun d t m m' hd h=>by
  have:=Ad (n - d - 1) d t m m' h
  rw [show n - d - 1 + d + 1 = n by omega] at this
  exact this
 have al1:=fun m m'=>al (kr.deep + 2) _ m m' (by omega) (cz kr ds hds)
 have al2:=fun m m'=>al 0 (.int (ds.length:Nat)) m m' (by omega) True.intro
 have al3:=fun m m'=>al (kr.deep + 3) (.tup [ah kr ds,.int (ds.length:Nat),wd]) m m' (by omega) (fun u hu=>by
  rcases List.mem_cons.mp hu with e | hu
  ·rw [e]; exact cz kr ds hds
  ·rcases List.mem_cons.mp hu with e | hu
   ·rw [e]; exact True.intro
   ·rw [List.mem_singleton.mp hu]
    rcases hw with e | ⟨x,e⟩ <;> (rw [e]; exact True.intro))
 have dpf:dp (ah kr ds) <= kr.deep + 1:=dP kr ds hds
 obtain ⟨n1,rfl⟩:∃ n1,n = n1 + 1:=⟨n - 1,by omega⟩
 have sp:C (n1 + 1) 95 [(.d,ah kr ds)] = .ok ((.d,.non),[]):=uN (by omega) (by omega)
 have ez:bu .s .s (ks.map Kd.th) (css.map T.lst) = (ks.zip css).map fun p=>[((.s,p.1.th):W),(.s,.lst p.2)]:=by
  rw [eB,jU hl,List.map_map]; rfl
 have c1:∀ o0 x1 x2 o3 o4 o5 o6 o7 o8 o9 o10 o11 o12 o13,aE [14,15] (bA (evE (C (n1 + 1)) (.call 6 [.var 14,.var 15]))) (bu .s .s (ks.map Kd.th) (css.map T.lst)) [o0,some x1,some x2,o3,o4,o5,o6,o7,o8,o9,o10,o11,o12,o13,none,none] [] = .ok ([] ++ (ks.zip css).map fun p=>(.d,ah p.1 p.2),[o0,some x1,some x2,o3,o4,o5,o6,o7,o8,o9,o10,o11,o12,o13,none,none]):=by
  intro o0 x1 x2 o3 o4 o5 o6 o7 o8 o9 o10 o11 o12 o13
  rw [ez]
  refine aC (tg:=[14,15]) (η:=[o0,some x1,some x2,o3,o4,o5,o6,o7,o8,o9,o10,o11,o12,o13,none,none]) (g:=fun (p:Kd × List T)=>[((.s,p.1.th):W),(.s,.lst p.2)]) (fun p=>((.d,ah p.1 p.2):W)) (ks.zip css) [] fun p hp=>⟨_,[o0,some x1,some x2,o3,o4,o5,o6,o7,o8,o9,o10,o11,o12,o13,some (.s,p.1.th),some (.s,.lst p.2)],rfl,?_,rfl⟩
  have:=fl p hp
  simp_all only [this]
 have lp:∀ (o0 o3 o4 o5 o6 o8 o9 o13 o14 o15:Option W) (x1 x2 x7:W),∃ o10 o11 o12,forL [10,11,12] (evSs (C (n1 + 1)) [.ite (.q [10,11,12] []) (.not (.call 24 [.call 6 [.var 10,.var 11],.var 12])) [.ret [] (.cst (.bl false))] []]) (zipT3 (ks.map Kd.th) (css.map T.lst) ((ks.zip css).map fun p=>ah p.1 p.2)) [o0,some x1,some x2,o3,o4,o5,o6,some x7,o8,o9,none,none,none,o13,o14,o15] = .nx [o0,some x1,some x2,o3,o4,o5,o6,some x7,o8,o9,o10,o11,o12,o13,o14,o15]:=by
  intro o0 o3 o4 o5 o6 o8 o9 o13 o14 o15 x1 x2 x7
  have e3:zipT3 (ks.map Kd.th) (css.map T.lst) ((ks.zip css).map fun p=>ah p.1 p.2) = (ks.zip css).map fun p=>[((.s,p.1.th):W),(.s,.lst p.2),(.s,ah p.1 p.2)]:=by
   have h1:ks.map Kd.th = (ks.zip css).map fun p=>p.1.th:=by
    conv=>lhs; rw [<- jH hl]
    rw [List.map_map]; rfl
   have h2:css.map T.lst = (ks.zip css).map fun p=>T.lst p.2:=by
    conv=>lhs; rw [<- dZ hl]
    rw [List.map_map]; rfl
   rw [h1,h2,fB]
  rw [e3]
  obtain ⟨η',e,o10,o11,o12,rfl⟩:=eQ (tg:=[10,11,12]) (f:=evSs (C (n1 + 1)) [.ite (.q [10,11,12] []) (.not (.call 24 [.call 6 [.var 10,.var 11],.var 12])) [.ret [] (.cst (.bl false))] []]) (g:=fun (p:Kd × List T)=>[((.s,p.1.th):W),(.s,.lst p.2),(.s,ah p.1 p.2)])
   (fun _ η=>∃ o10 o11 o12,η = [o0,some x1,some x2,o3,o4,o5,o6,some x7,o8,o9,o10,o11,o12,o13,o14,o15]) (ks.zip css) [] _ ⟨none,none,none,rfl⟩ (fun p x r η e ⟨o10,o11,o12,he⟩=>by
    subst he
    have hp:x ∈ ks.zip css:=by rw [show ks.zip css = p ++ x :: r from e]; simp
    have e1:=fl x hp
    have h2:=hks x.1 (List.of_mem_zip hp).1
    have e2:=fun m m'=>al (x.1.deep + 2) _ m m' (by omega) (cz x.1 x.2 (hc x hp).1)
    refine ⟨_,_,rfl,?_,some (.s,x.1.th),some (.s,.lst x.2),some (.s,ah x.1 x.2),rfl⟩
    simp_all only [e1,e2])
  exact ⟨o10,o11,o12,e⟩
 have l3:((([ah kr ds,T.int (ds.length:Nat),wd]:List T).length:Int) == 3) = true:=rfl
 have at2':∀ (a b d:T),([a,b,d]:List T)[0]? = some a:=fun _ _ _=>rfl
 obtain ⟨c,at0',rfl⟩:=h0
 obtain ⟨o10,o11,o12,lp1⟩:=lp (some (m0,P)) (some (m3,kr.th)) (some (m4,.lst ds)) (some (m5,wd)) (some (.d,.int (c.length:Nat))) (some (.o .s,.lst (ks.map Kd.th))) (some (.d,.tup [.gone,.int (ds.length:Nat),wd])) none none none (.s,.lst (ks.map Kd.th)) (.s,.lst (css.map T.lst)) (.s,.lst ((ks.zip css).map fun p=>ah p.1 p.2))
 have tr:=aM (fun _=>Md.d) (fun (p:Kd × List T)=>ah p.1 p.2) (ks.zip css)
 rcases hw with rfl | ⟨x,rfl⟩
 ·simp_all only [bf,at0',c1,tr,hW,List.any_cons,List.any_nil,ot,Bool.or_false,l3,flr,al1,al2,gP _ _ _ ks hk10,yy,at2',List.set_cons_zero,sp,lp1,al3]
 ·simp_all only [bf,at0',c1,tr,hW,List.any_cons,List.any_nil,ot,Bool.or_false,l3,flr,al1,al2,gP _ _ _ ks hk10,beq_self_eq_true,at2',List.set_cons_zero,sp,lp1,al3]
theorem i0 {n:Nat} {nm:String} {pr:List T} {di:Nat} {v:T} {md:Md} {ins:List T} (hv:v.leaf = true) (hk:keys_WORDS_single.contains (q nm) = false) (hn:(q nm == q "num") = false) (hd:tab_DOINGS_single.lookup (q nm) = some di) (h2:∀ m,C n di [(m,.lst ins)] = .ok ((md,v),[])):C (n + 1) 130 [(.s,.tup (.str (q nm) :: pr)),(.o .s,.lst ins)] = .ok ((.d,.tup [v,.non]),[]):=by
 rw [pI,x_run _ _ _ rfl]
 simp_all only [eM,hk,hd,hn,Bool.bne_false,h2,jF hv]
theorem el (f:List T -> T):∀ rs:List (List T),aZ (fun r=>(f r,.non)) rs = (rs.map f,.non)
 | []=>rfl
 | r :: rs=>by rw [aZ,el f rs]; rfl
theorem ef {n:Nat} {sg:String} {pr:List T} {ks:List Kd} {c:List T} {cs:List (List T)} {kr:Kd} {f:List T -> T} {di:Nat} {md:Md} {ds:List T} (hk:keys_RECKONED.contains (q sg) = true) (ht:tab_RECKONED.lookup (q sg) = some kr.th) (hkr:kr.deep = 0) (hks:∀ k ∈ ks,k.deep = 0) (hl:(c :: cs).length = ks.length) (hc:∀ p ∈ ks.zip (c :: cs),∀ t ∈ p.2,OfK p.1 t) (hm:∀ d ∈ c :: cs,d.length = c.length) (hM:c.length <= 1000)
  (hw:keys_WORDS_single.contains (q sg) = false) (hn:(q sg == q "num") = false) (hd:tab_DOINGS_single.lookup (q sg) = some di) (hD:∀ r ∈ (List.range c.length).map (aA (c :: cs)),OfK kr (f r) /\ ∀ m,C (n + 2) di [(m,.lst r)] = .ok ((md,f r),[])) (hds:((List.range c.length).map (aA (c :: cs))).map f = ds) (m0 m1 m2 m3 m4 m5:Md) :
  C (n + 6) 135 [(m0,.tup (.str (q sg) :: pr)),(m1,.lst (ks.map Kd.th)),(m2,.lst ((c :: cs).map T.lst)),(m3,kr.th),(m4,.lst ds),(m5,.non)] = .ok ((.d,.bl true),[]):=by
 have hLM:LIM = 16777215:=rfl
 have l1:∀ {k:Kd} {ts:List T},k.deep = 0 -> (∀ t ∈ ts,OfK k t) -> szs ts <= ts.length:=fun {k} {ts} h0 h=>by
  have:szs ts <= ts.length * 1:=dS fun t ht=>by have:=j1 h0 (h t ht); cases t <;> first | exact Nat.le_refl _ | cases this
  omega
 have hd':∀ r,(∃ k,(∀ d ∈ c :: cs,k < d.length) /\ r = aA (c :: cs) k) -> OkR kr ((fun r=>(f r,T.non)) r) /\ C (n + 3) 130 [(.s,.tup (.str (q sg) :: pr)),(.o .s,.lst r)] = .ok ((.d,.tup [((fun r=>(f r,T.non)) r).1,((fun r=>(f r,T.non)) r).2]),[]):=by
  rintro r ⟨k,hk',rfl⟩
  obtain ⟨a,b⟩:=hD _ (List.mem_map_of_mem (List.mem_range.mpr (hk' c List.mem_cons_self)))
  exact ⟨.inl ⟨rfl,a⟩,i0 (j1 hkr a) hw hn hd b⟩
 have wd:=fun m0 m1 m2 m3=>uu (n:=n + 2) (sg:=sg) (pr:=pr) (ks:=ks) (css:=c :: cs) (R:=fun r=>(f r,.non)) (kr:=kr) (many:=c.length) hk ht hkr hl (fun p hp m1 m L=>yS p.1 (n + 2) p.2 m1 m L (hks _ (List.of_mem_zip hp).1) (hc p hp)) hm hM hd' m0 m1 m2 m3
 rw [el,hds] at wd
 have hds2:∀ t ∈ ds,OfK kr t:=fun t h=>by
  rw [<- hds] at h
  obtain ⟨r,hr,rfl⟩:=List.mem_map.mp h
  exact (hD r hr).1
 have hdl:ds.length <= 1000:=by rw [<- hds,List.length_map,List.length_map,List.length_range]; exact hM
 exact sd (n:=n + 5) (P:=.tup (.str (q sg) :: pr)) (ks:=ks) (many:=c.length) (css:=c :: cs) (kr:=kr) (ds:=ds) (wd:=.non) (by omega) (fun k h=>by rw [hks k h]; omega) (fun k h=>by rw [hks k h]; omega) (by omega) hl ⟨c,at0 _ _,rfl⟩ (fun p hp=>⟨hc p hp,by
  have:=l1 (hks _ (List.of_mem_zip hp).1) (hc p hp)
  have:=hm p.2 (List.of_mem_zip hp).2
  omega⟩) hds2 (by have:=l1 hkr hds2; omega) (.inl rfl) wd m0 m1 m2 m3 m4 m5
theorem uf {α β:Type} (f:α -> T) (g:β -> T) {xs:List α} {ys:List β} (h:ys.length = xs.length):(List.range (xs.map f).length).map (aA [xs.map f,ys.map g]) = (xs.zip ys).map fun p=>[f p.1,g p.2]:=by
 refine List.ext_getElem ?_ fun k h1 h2=>?_
 ·rw [List.length_map,List.length_map,List.length_range,List.length_map,List.length_zip,h,Nat.min_self]
 ·rw [List.length_map,List.length_range,List.length_map] at h1
  rw [List.getElem_map,List.getElem_map,List.getElem_range,List.getElem_zip]
  show [(xs.map f).getD k .non,(ys.map g).getD k .non] = _
  rw [List.getD_eq_getElem?_getD,List.getD_eq_getElem?_getD,List.getElem?_map,List.getElem?_map,List.getElem?_eq_getElem h1,List.getElem?_eq_getElem (by omega)]
  rfl
theorem uk {α:Type} (f:α -> T) (xs:List α):(List.range (xs.map f).length).map (aA [xs.map f]) = xs.map fun x=>[f x]:=by
 refine List.ext_getElem ?_ fun k h1 h2=>?_
 ·rw [List.length_map,List.length_range,List.length_map,List.length_map]
 ·rw [List.length_map,List.length_range,List.length_map] at h1
  rw [List.getElem_map,List.getElem_map,List.getElem_range]
  show [(xs.map f).getD k .non] = _
  rw [List.getD_eq_getElem?_getD,List.getElem?_map,List.getElem?_eq_getElem h1]
  rfl
theorem yh {α β:Type} (f:α -> T) (g:β -> T) (xs:List α) (ys:List β):bu .s .s (xs.map f) (ys.map g) = (xs.zip ys).map fun p=>[((.s,f p.1):W),(.s,g p.2)]:=by
 rw [eB]
 induction xs generalizing ys with
 | nil=>rfl
 | cons i is ih=>cases ys with
  | nil=>rfl
  | cons j js=>exact congrArg (_ :: ·) (ih js)
def ai (is:List Int):List T:=is.map T.int
def ay (bs:List Bool):List T:=bs.map T.bl
theorem ofI {is:List Int} (h:∀ i ∈ is,i.natAbs <= 1000000000000000000):∀ t ∈ ai is,OfK .num t:=fun t ht=>by
 obtain ⟨i,hi,rfl⟩:=List.mem_map.mp ht
 exact ⟨i,rfl,h i hi⟩
theorem ofB (bs:List Bool):∀ t ∈ ay bs,OfK .truth t:=fun t ht=>by
 obtain ⟨b,hb,rfl⟩:=List.mem_map.mp ht
 exact ⟨b,rfl⟩
theorem tI:∀ {ws:List W},(∀ w ∈ ws,∃ i:Int,w.2 = .int i /\ i.natAbs <= 1000000000000000000) -> ∃ is:List Int,aJ ws = ai is /\ is.length = ws.length /\ ∀ i ∈ is,i.natAbs <= 1000000000000000000
 | [],_=>⟨[],rfl,rfl,(fun _ h=>nomatch h)⟩
 | w :: ws,h=>by
  obtain ⟨i,h1,h2⟩:=h w List.mem_cons_self
  obtain ⟨is,k1,k2,k3⟩:=tI fun v hv=>h v (List.mem_cons_of_mem _ hv)
  refine ⟨i :: is,?_,by rw [List.length_cons,List.length_cons,k2],fun v hv=>(List.mem_cons.mp hv).elim (fun e=>e ▸ h2) (k3 v)⟩
  show w.2 :: aJ ws = .int i :: ai is
  rw [h1,k1]
theorem two {α β:Type} {f:α -> T} {g:β -> T} {a b:Kd} {sg:String} {di:Nat} {F:List T -> T} {G:α × β -> Bool} {md:Md} (n:Nat) (xs:List α) (ys:List β) (hl:ys.length = xs.length) (hM:xs.length <= 1000) (hx:∀ t ∈ xs.map f,OfK a t) (hy:∀ t ∈ ys.map g,OfK b t) (ha:a.deep = 0) (hb:b.deep = 0)
  (hk:keys_RECKONED.contains (q sg) = true) (ht:tab_RECKONED.lookup (q sg) = some Kd.truth.th) (hw:keys_WORDS_single.contains (q sg) = false) (hn:(q sg == q "num") = false) (hd:tab_DOINGS_single.lookup (q sg) = some di)
  (hF:∀ x y,F [f x,g y] = .bl (G (x,y))) (hD:∀ m x y,C (n + 2) di [(m,.lst [f x,g y])] = .ok ((md,.bl (G (x,y))),[])) (m0 m1 m2 m3 m4 m5:Md) :
  C (n + 6) 135 [(m0,.tup [.str (q sg),.non,.non]),(m1,.lst [a.th,b.th]),(m2,.lst [.lst (xs.map f),.lst (ys.map g)]),(m3,.tup [.str (q "truth")]),(m4,.lst ((xs.zip ys).map fun p=>.bl (G p))),(m5,.non)] = .ok ((.d,.bl true),[]):=by
 refine ef (n:=n) (sg:=sg) (pr:=[.non,.non]) (ks:=[a,b]) (c:=xs.map f) (cs:=[ys.map g]) (kr:=.truth) (f:=F) (di:=di) (md:=md) hk ht rfl (fun k h=>?_) rfl (fun p h=>?_) (fun d h=>?_) (by rw [List.length_map]; exact hM) hw hn hd (fun r h=>?_) ?_ m0 m1 m2 m3 m4 m5
 ·rcases List.mem_cons.mp h with rfl | h
  ·exact ha
  ·rw [List.mem_singleton.mp h]; exact hb
 ·rcases List.mem_cons.mp (show p ∈ [(a,xs.map f),(b,ys.map g)] from h) with rfl | h
  ·exact hx
  ·rw [List.mem_singleton.mp h]; exact hy
 ·rcases List.mem_cons.mp h with rfl | h
  ·rfl
  ·rw [List.mem_singleton.mp h,List.length_map,List.length_map,hl]
 ·rw [uf f g hl] at h
  obtain ⟨p,_,rfl⟩:=List.mem_map.mp h
  rw [hF]
  exact ⟨⟨_,rfl⟩,fun m=>hD m p.1 p.2⟩
 ·rw [uf f g hl,List.map_map]
  exact List.map_congr_left fun p _=>hF p.1 p.2
def yB:List T -> T
 | [.int i,.int j]=>.bl (decide (i < j)) | _=>.non
def tX:List T -> T
 | [a,b]=>.bl (eqT a b) | _=>.non
def zP:List T -> T
 | [.bl a,.bl b]=>.bl (a && b) | _=>.non
def AK:List T -> T
 | [.bl a]=>.bl (!a) | _=>.non
theorem p9 (n:Nat) (m:Md) (i j:Int):C (n + 1) 57 [(m,.lst [.int i,.int j])] = .ok ((.d,.bl (decide (i < j))),[]):=by
 rw [iR,x_run _ _ _ rfl]
 simp_all only [bV]
theorem yH (n:Nat) (m:Md) (i j:Int):C (n + 1) 58 [(m,.lst [.int i,.int j])] = .ok ((.d,.bl (i == j)),[]):=by
 rw [eT,x_run _ _ _ rfl]
 simp_all only [bT]
theorem yE (n:Nat) (m:Md) (i j:Bool):C (n + 1) 58 [(m,.lst [.bl i,.bl j])] = .ok ((.d,.bl (i == j)),[]):=by
 rw [eT,x_run _ _ _ rfl]
 cases i <;> cases j <;> rfl
theorem qd (n:Nat) (m:Md) (i j:Bool):C (n + 1) 59 [(m,.lst [.bl i,.bl j])] = .ok ((.s,.bl (i && j)),[]):=by
 rw [jc,x_run _ _ _ rfl]
 cases i <;> cases j <;> simp_all only [bN]
theorem wG (n:Nat) (m:Md) (i:Bool):C (n + 1) 42 [(m,.lst [.bl i])] = .ok ((.d,.bl (!i)),[]):=by
 rw [kD,x_run _ _ _ rfl]
 cases i <;> simp_all only [cq]
theorem jC (C:Call):∀ (a b:List S) (η:Env),evSs C (a ++ b) η = (evSs C a η).seq (evSs C b)
 | [],b,η=>rfl
 | s :: a,b,η=>by
  show (evS C s η).seq (evSs C (a ++ b)) = ((evS C s η).seq (evSs C a)).seq (evSs C b)
  cases evS C s η <;> first | rfl | exact jC C a b _
theorem go1 {C:Call} {a b:List S} {η η':Env} (h:evSs C a η = .nx η'):evSs C (a ++ b) η = evSs C b η':=by rw [jC,h]; rfl
abbrev W1:List S:=f_law.body.take 5
abbrev W2:List S:=(f_law.body.drop 5).take 1
abbrev W3:List S:=(f_law.body.drop 6).take 1
abbrev W4:List S:=(f_law.body.drop 7).take 2
abbrev Wk (i:Nat):List S:=(f_law.body.drop i).take 2
abbrev W9:List S:=f_law.body.drop 17
theorem dz {α:Type} (f:α -> T):∀ l:List α,aJ (l.map fun p=>((.d,f p):W)) = l.map f
 | []=>rfl
 | x :: l=>congrArg (f x :: ·) (dz f l)
theorem wm:∀ {ws:List W},(∀ w ∈ ws,∃ b:Bool,w.2 = .bl b) -> ∃ bs:List Bool,aJ ws = ay bs /\ bs.length = ws.length
 | [],_=>⟨[],rfl,rfl⟩
 | w :: ws,h=>by
  obtain ⟨b,h1⟩:=h w List.mem_cons_self
  obtain ⟨bs,k1,k2⟩:=wm fun v hv=>h v (List.mem_cons_of_mem _ hv)
  refine ⟨b :: bs,?_,by rw [List.length_cons,List.length_cons,k2]⟩
  show w.2 :: aJ ws = .bl b :: ay bs
  rw [h1,k1]
theorem pure_law (ns:List Int):∃ m bs,C 40 0 [(.d,.scr ns)] = .ok ((m,.bl true),bs):=by
 rw [show C 40 0 [(.d,.scr ns)] = runF (C 39) f_law [(.d,.scr ns)] from rfl,x_run _ _ _ rfl]
 have hLM:LIM = 16777215:=rfl
 have ht0:Tp 0 (tape (cut ns none (some 63)) 0 0 0):=⟨_,0,0,0,rfl,Nat.le_refl _⟩
 obtain ⟨r,t1,r0,r1,ht1,e1⟩:=eW (n:=37) .d 11 ht0 (by decide) (by decide) (by decide)
 obtain ⟨b1,b2⟩:=nA (mm:=r) (by omega) (by omega)
 have nu:∀ N t,Tp N t -> N + 5 < 1000000000000000000 -> ∃ md i t',i.natAbs <= 1000000000000000000 /\ Tp (N + 5) t' /\ C 39 21 [(.d,t)] = .ok ((md,.int i),[(.d,t')]):=fun N t ht hN=>number (n:=36) ht hN
 obtain ⟨os,t3,h1,h2,h3,h4⟩:=cB (s:=11) (g:=fun (k:Nat)=>((.d,.int k):W)) (f:=bA (evE (C 39) (.call 21 [.io 1]))) (fun t=>[some (.d,.scr ns),some (.d,t),some (.d,.int r),none,none,none,none,none,none,none,none,none,none,none,none,none,none,none,none,none,none,none,none]) (fun t v=>[some (.d,.scr ns),some (.d,t),some (.d,.int r),none,none,none,none,none,none,none,none,some v,none,none,none,none,none,none,none,none,none,none,none]) (P:=fun o=>∃ w,o = some w /\ ∃ i:Int,w.2 = .int i /\ i.natAbs <= 1000000000000000000) (c:=5) (fun _ _=>rfl) (fun _ _=>rfl) (fun N t w ht hN=>by
   obtain ⟨md,i,t',q1,q2,q3⟩:=nu N t ht hN
   refine ⟨some (md,.int i),t',⟨_,rfl,_,rfl,q1⟩,q2,?_⟩
   simp_all only [q3]) (List.range r.toNat) _ t1 ht1 (by rw [List.length_range]; omega)
 obtain ⟨ws,v1,v2,v3⟩:=j7 h2
 obtain ⟨is,i1,i2,i3⟩:=tI v3
 rw [List.length_range] at h1 h3
 have h5:=h4 []
 rw [v1] at h5
 have ht3:Tp 100 t3:=tm h3 (by omega)
 obtain ⟨η',lp,t4,js,o5,o6,he,ht4,jl,j3⟩:=eQ (tg:=[5]) (f:=evSs (C 39) [
   .asg (.l []) 6 (.call 21 [.io 1]),
   .ite (.l []) (.op .eq false [.call 20 [.io 1,.cst (.int 3)],.cst (.int 1)]) [
    .asg (.q [] [5]) 6 (.var 5)] [],
   .app (.q [6] []) 4 (.var 6)]) (g:=fun (i:Int)=>[((.s,.int i):W)])
  (fun p η=>∃ t4 js o5 o6,η = [some (.d,.scr ns),some (.d,t4),some (.d,.int r),some (.s,.lst (ai is)),some (.o .s,.lst (ai js)),o5,o6,none,none,none,none,none,none,none,none,none,none,none,none,none,none,none,none] /\ Tp (100 + p.length * 6) t4 /\ js.length = p.length /\ ∀ i ∈ js,i.natAbs <= 1000000000000000000) is [] [some (.d,.scr ns),some (.d,t3),some (.d,.int r),some (.s,.lst (ai is)),some (.o .s,.lst (ai [])),none,none,none,none,none,none,none,none,none,none,none,none,none,none,none,none,none,none] ⟨t3,[],none,none,rfl,ht3,rfl,(fun _ h=>nomatch h)⟩ (fun p x q' η e ⟨t4,js,o5,o6,he,ht4,jl,j3⟩=>by
   subst he
   have e':is = p ++ x :: q':=e
   have pl:p.length + 1 <= is.length:=by rw [e',List.length_append,List.length_cons]; omega
   have hx:=i3 x (by rw [e']; simp)
   obtain ⟨md,i,t5,q1,q2,q3⟩:=nu _ t4 ht4 (by omega)
   obtain ⟨w,t6,w0,w1,ht6,q4⟩:=eW (n:=37) .d 3 q2 (by omega) (by decide) (by decide)
   have hle:(ai js).length < LIM:=by rw [ai,List.length_map]; omega
   have hap:∀ i,ai (js ++ [i]) = ai js ++ [.int i]:=fun i=>by rw [ai,List.map_append]; rfl
   cases hw:w == 1 with
   | true =>
    refine ⟨_,_,rfl,?_,t6,js ++ [x],some (.s,.int x),some (.d,.int x),rfl,?_,?_,?_⟩
    ·simp_all only [q3,q4,hw,if_pos hle,hap]
    ·rw [List.length_append,List.length_singleton,Nat.succ_mul]; exact tm ht6 (by omega)
    ·simp only [List.length_append,List.length_singleton,jl]
    ·intro i hi
     rcases List.mem_append.mp hi with z | z
     ·exact j3 i z
     ·rw [List.mem_singleton.mp z]; exact hx
   | false =>
    refine ⟨_,_,rfl,?_,t6,js ++ [i],some (.s,.int x),some (md,.int i),rfl,?_,?_,?_⟩
    ·simp_all only [q3,q4,hw,if_pos hle,hap]
    ·rw [List.length_append,List.length_singleton,Nat.succ_mul]; exact tm ht6 (by omega)
    ·simp only [List.length_append,List.length_singleton,jl]
    ·intro i hi
     rcases List.mem_append.mp hi with z | z
     ·exact j3 i z
     ·rw [List.mem_singleton.mp z]; exact q1)
 subst he
 rw [List.nil_append] at jl
 have ht4':Tp 400 t4:=tm ht4 (by rw [List.nil_append]; omega)
 unfold tape at e1
 have mI:∀ is:List Int,(ai is).map (fun t=>[((.s,t):W)]) = is.map fun i=>[((.s,.int i):W)]:=fun is=>by rw [ai,List.map_map]; rfl
 have n0:ai [] = []:=rfl
 rw [n0] at lp
 have H1:evSs (C 39) W1 ([some (.d,.scr ns)] ++ List.replicate 22 none) = .nx [some (.d,.scr ns),some (.d,t4),some (.d,.int r),some (.s,.lst (ai is)),some (.o .s,.lst (ai js)),o5,o6,none,none,none,none,none,none,none,none,none,none,none,none,none,none,none,none]:=by
  simp_all only [W1,f_law,List.take,ik,e1,b1,b2,h5,i1,mI,lp]
 obtain ⟨osba,t7,x1ba,x2ba,x3ba,x4ba⟩:=cB (s:=12) (g:=fun (k:Nat)=>((.d,.int k):W)) (f:=bA (evE (C 39) (.op .eq false [.call 20 [.io 1,.cst (.int 2)],.cst (.int 1)]))) (fun t=>[some (.d,.scr ns),some (.d,t),some (.d,.int r),some (.s,.lst (ai is)),some (.o .s,.lst (ai js)),o5,o6,none,none,none,none,none,none,none,none,none,none,none,none,none,none,none,none]) (fun t v=>[some (.d,.scr ns),some (.d,t),some (.d,.int r),some (.s,.lst (ai is)),some (.o .s,.lst (ai js)),o5,o6,none,none,none,none,none,some v,none,none,none,none,none,none,none,none,none,none]) (P:=fun o=>∃ w,o = some w /\ ∃ b:Bool,w.2 = .bl b) (c:=1) (fun _ _=>rfl) (fun _ _=>rfl) (fun N t w ht hN=>by
   obtain ⟨x,t',x0,x1,hx,ex⟩:=eW (n:=37) .d 2 ht (by omega) (by decide) (by decide)
   refine ⟨some (.d,.bl (x == 1)),t',⟨_,rfl,_,rfl⟩,hx,?_⟩
   simp_all only [ex]) (List.range r.toNat) _ t4 ht4' (by rw [List.length_range]; omega)
 obtain ⟨wsba,y1ba,y2ba,y3ba⟩:=j7 x2ba
 obtain ⟨ba,z1ba,z2ba⟩:=wm y3ba
 rw [List.length_range] at x1ba x3ba
 have x5ba:=x4ba []
 rw [y1ba] at x5ba
 have htba:Tp 500 t7:=tm x3ba (by omega)
 have H2:evSs (C 39) W2 [some (.d,.scr ns),some (.d,t4),some (.d,.int r),some (.s,.lst (ai is)),some (.o .s,.lst (ai js)),o5,o6,none,none,none,none,none,none,none,none,none,none,none,none,none,none,none,none] = .nx [some (.d,.scr ns),some (.d,t7),some (.d,.int r),some (.s,.lst (ai is)),some (.o .s,.lst (ai js)),o5,o6,some (.o .s,.lst (ay ba)),none,none,none,none,none,none,none,none,none,none,none,none,none,none,none]:=by
  simp_all only [W2,f_law,List.take,List.drop,b1,b2,x5ba,z1ba]
 obtain ⟨osbb,t8,x1bb,x2bb,x3bb,x4bb⟩:=cB (s:=13) (g:=fun (k:Nat)=>((.d,.int k):W)) (f:=bA (evE (C 39) (.op .eq false [.call 20 [.io 1,.cst (.int 2)],.cst (.int 1)]))) (fun t=>[some (.d,.scr ns),some (.d,t),some (.d,.int r),some (.s,.lst (ai is)),some (.o .s,.lst (ai js)),o5,o6,some (.o .s,.lst (ay ba)),none,none,none,none,none,none,none,none,none,none,none,none,none,none,none]) (fun t v=>[some (.d,.scr ns),some (.d,t),some (.d,.int r),some (.s,.lst (ai is)),some (.o .s,.lst (ai js)),o5,o6,some (.o .s,.lst (ay ba)),none,none,none,none,none,some v,none,none,none,none,none,none,none,none,none]) (P:=fun o=>∃ w,o = some w /\ ∃ b:Bool,w.2 = .bl b) (c:=1) (fun _ _=>rfl) (fun _ _=>rfl) (fun N t w ht hN=>by
   obtain ⟨x,t',x0,x1,hx,ex⟩:=eW (n:=37) .d 2 ht (by omega) (by decide) (by decide)
   refine ⟨some (.d,.bl (x == 1)),t',⟨_,rfl,_,rfl⟩,hx,?_⟩
   simp_all only [ex]) (List.range r.toNat) _ t7 htba (by rw [List.length_range]; omega)
 obtain ⟨wsbb,y1bb,y2bb,y3bb⟩:=j7 x2bb
 obtain ⟨bb,z1bb,z2bb⟩:=wm y3bb
 rw [List.length_range] at x1bb x3bb
 have x5bb:=x4bb []
 rw [y1bb] at x5bb
 have htbb:Tp 600 t8:=tm x3bb (by omega)
 have H3:evSs (C 39) W3 [some (.d,.scr ns),some (.d,t7),some (.d,.int r),some (.s,.lst (ai is)),some (.o .s,.lst (ai js)),o5,o6,some (.o .s,.lst (ay ba)),none,none,none,none,none,none,none,none,none,none,none,none,none,none,none] = .nx [some (.d,.scr ns),some (.d,t8),some (.d,.int r),some (.s,.lst (ai is)),some (.o .s,.lst (ai js)),o5,some (.o .s,.lst (ay bb)),some (.o .s,.lst (ay ba)),none,none,none,none,none,none,none,none,none,none,none,none,none,none,none]:=by
  simp_all only [W3,f_law,List.take,List.drop,b1,b2,x5bb,z1bb]
 have H4:evSs (C 39) W4 [some (.d,.scr ns),some (.d,t8),some (.d,.int r),some (.s,.lst (ai is)),some (.o .s,.lst (ai js)),o5,some (.o .s,.lst (ay bb)),some (.o .s,.lst (ay ba)),none,none,none,none,none,none,none,none,none,none,none,none,none,none,none] = .nx [some (.d,.scr ns),some (.d,t8),some (.d,.int r),some (.s,.lst (ai is)),some (.o .s,.lst (ai js)),o5,some (.o .s,.lst (ay bb)),some (.o .s,.lst (ay ba)),some (.d,.tup [.str (q "num")]),some (.d,.tup [.str (q "truth")]),none,none,none,none,none,none,none,none,none,none,none,none,none]:=by
  simp_all only [W4,f_law,List.take,List.drop]
 have zI:bu .s .s (ai is) (ai js) = (is.zip js).map fun p=>[((.s,.int p.1):W),(.s,.int p.2)]:=yh _ _ _ _
 have du1:aE [14,15] (bA (evE (C 39) (.op .lt false [.op .sub false [.var 14,.var 15],.cst (.int 0)]))) ((is.zip js).map fun p=>[((.s,.int p.1):W),(.s,.int p.2)]) [none,none,none,some (.s,.lst (ai is)),some (.s,.lst (ai js)),none,none,none,none,none,none,none,none,none,none,none,none,none,none,none,none,none,none] [] = .ok ([] ++ (is.zip js).map (fun p=>((.d,.bl (decide (p.1 < p.2))):W)),[none,none,none,some (.s,.lst (ai is)),some (.s,.lst (ai js)),none,none,none,none,none,none,none,none,none,none,none,none,none,none,none,none,none,none]):=aC _ _ [] fun p hp=>⟨_,[none,none,none,some (.s,.lst (ai is)),some (.s,.lst (ai js)),none,none,none,none,none,none,none,none,none,some (.s,.int p.1),some (.s,.int p.2),none,none,none,none,none,none,none],rfl,by
  have hq:decide (p.1 - p.2 < 0) = decide (p.1 < p.2):=decide_eq_decide.mpr (by omega)
  simp_all only [hq],rfl⟩
 have tr1:aJ ((is.zip js).map (fun p=>((.d,.bl (decide (p.1 < p.2))):W))) = (is.zip js).map fun p=>T.bl (decide (p.1 < p.2)):=dz _ _
 have st1:∀ m0 m1 m2 m3 m4 m5:Md,C 39 135 [(m0,.tup [.str (q "less"),.non,.non]),(m1,.lst [.tup [.str (q "num")],.tup [.str (q "num")]]),(m2,.lst [.lst (ai is),.lst (ai js)]),(m3,.tup [.str (q "truth")]),(m4,.lst ((is.zip js).map fun p=>.bl (decide (p.1 < p.2)))),(m5,.non)] = .ok ((.d,.bl true),[]):=fun m0 m1 m2 m3 m4 m5=>two (n:=33) (f:=T.int) (g:=T.int) (a:=.num) (b:=.num) (sg:="less") (di:=57) (F:=yB) (G:=fun p=>decide (p.1 < p.2)) (md:=.d) is js (by omega) (by omega) (ofI i3) (ofI j3) rfl rfl rfl rfl rfl rfl rfl (fun _ _=>rfl) (fun m x y=>p9 34 m x y) m0 m1 m2 m3 m4 m5
 have H5:evSs (C 39) (Wk 9) [some (.d,.scr ns),some (.d,t8),some (.d,.int r),some (.s,.lst (ai is)),some (.o .s,.lst (ai js)),o5,some (.o .s,.lst (ay bb)),some (.o .s,.lst (ay ba)),some (.d,.tup [.str (q "num")]),some (.d,.tup [.str (q "truth")]),none,none,none,none,none,none,none,none,none,none,none,none,none] = .nx [some (.d,.scr ns),some (.d,t8),some (.d,.int r),some (.s,.lst (ai is)),some (.s,.lst (ai js)),o5,some (.o .s,.lst (ay bb)),some (.o .s,.lst (ay ba)),some (.d,.tup [.str (q "num")]),some (.d,.tup [.str (q "truth")]),some (.o .s,.lst ((is.zip js).map fun p=>.bl (decide (p.1 < p.2)))),none,none,none,none,none,none,none,none,none,none,none,none]:=by
  simp_all only [Wk,f_law,List.take,List.drop,zI,du1,tr1,List.nil_append,st1]
 have du6:aE [16,17] (bA (evE (C 39) (.op .eq false [.op .sub false [.var 16,.var 17],.cst (.int 0)]))) ((is.zip js).map fun p=>[((.s,T.int p.1):W),(.s,T.int p.2)]) [none,none,none,some (.s,.lst (ai is)),some (.s,.lst (ai js)),none,none,none,none,none,none,none,none,none,none,none,none,none,none,none,none,none,none] [] = .ok ([] ++ (is.zip js).map (fun p=>((.d,.bl (p.1 == p.2)):W)),[none,none,none,some (.s,.lst (ai is)),some (.s,.lst (ai js)),none,none,none,none,none,none,none,none,none,none,none,none,none,none,none,none,none,none]):=aC _ _ [] fun p hp=>⟨_,[none,none,none,some (.s,.lst (ai is)),some (.s,.lst (ai js)),none,none,none,none,none,none,none,none,none,none,none,some (.s,T.int p.1),some (.s,T.int p.2),none,none,none,none,none],rfl,by
  have hq:(p.1 - p.2 == 0) = (p.1 == p.2):=by rw [Bool.eq_iff_iff,beq_iff_eq,beq_iff_eq]; omega
  simp_all only [hq],rfl⟩
 have tr6:aJ ((is.zip js).map (fun p=>((.d,.bl (p.1 == p.2)):W))) = (is.zip js).map fun p=>T.bl (p.1 == p.2):=dz _ _
 have st6:∀ m0 m1 m2 m3 m4 m5:Md,C 39 135 [(m0,.tup [.str (q "same"),.non,.non]),(m1,.lst [.tup [.str (q "num")],.tup [.str (q "num")]]),(m2,.lst [.lst (ai is),.lst (ai js)]),(m3,.tup [.str (q "truth")]),(m4,.lst ((is.zip js).map fun p=>.bl (p.1 == p.2))),(m5,.non)] = .ok ((.d,.bl true),[]):=fun m0 m1 m2 m3 m4 m5=>two (n:=33) (f:=T.int) (g:=T.int) (a:=.num) (b:=.num) (sg:="same") (di:=58) (F:=tX) (G:=fun p=>p.1 == p.2) (md:=.d) is js (by omega) (by omega) (ofI i3) (ofI j3) rfl rfl rfl rfl rfl rfl rfl (fun _ _=>rfl) (fun m x y=>yH 34 m x y) m0 m1 m2 m3 m4 m5
 have H6:evSs (C 39) (Wk 11) [some (.d,.scr ns),some (.d,t8),some (.d,.int r),some (.s,.lst (ai is)),some (.s,.lst (ai js)),o5,some (.o .s,.lst (ay bb)),some (.o .s,.lst (ay ba)),some (.d,.tup [.str (q "num")]),some (.d,.tup [.str (q "truth")]),some (.o .s,.lst ((is.zip js).map fun p=>.bl (decide (p.1 < p.2)))),none,none,none,none,none,none,none,none,none,none,none,none] = .nx [some (.d,.scr ns),some (.d,t8),some (.d,.int r),some (.s,.lst (ai is)),some (.s,.lst (ai js)),o5,some (.o .s,.lst (ay bb)),some (.o .s,.lst (ay ba)),some (.d,.tup [.str (q "num")]),some (.d,.tup [.str (q "truth")]),some (.o .s,.lst ((is.zip js).map fun p=>.bl (p.1 == p.2))),none,none,none,none,none,none,none,none,none,none,none,none]:=by
  simp_all only [Wk,f_law,List.take,List.drop,zI,du6,tr6,List.nil_append,st6]
 have zB:bu .s .s (ay ba) (ay bb) = (ba.zip bb).map fun p=>[((.s,.bl p.1):W),(.s,.bl p.2)]:=yh _ _ _ _
 have du7:aE [18,19] (bA (evE (C 39) (.op .ne false [.op .add false [.op .int false [.var 18],.op .int false [.var 19]],.cst (.int 1)]))) ((ba.zip bb).map fun p=>[((.s,T.bl p.1):W),(.s,T.bl p.2)]) [none,none,none,none,none,none,some (.s,.lst (ay bb)),some (.s,.lst (ay ba)),none,none,none,none,none,none,none,none,none,none,none,none,none,none,none] [] = .ok ([] ++ (ba.zip bb).map (fun p=>((.d,.bl (p.1 == p.2)):W)),[none,none,none,none,none,none,some (.s,.lst (ay bb)),some (.s,.lst (ay ba)),none,none,none,none,none,none,none,none,none,none,none,none,none,none,none]):=aC _ _ [] fun p hp=>⟨_,[none,none,none,none,none,none,some (.s,.lst (ay bb)),some (.s,.lst (ay ba)),none,none,none,none,none,none,none,none,none,none,some (.s,T.bl p.1),some (.s,T.bl p.2),none,none,none],rfl,by
  obtain ⟨a,b⟩:=p
  cases a <;> cases b <;> rfl,rfl⟩
 have tr7:aJ ((ba.zip bb).map (fun p=>((.d,.bl (p.1 == p.2)):W))) = (ba.zip bb).map fun p=>T.bl (p.1 == p.2):=dz _ _
 have st7:∀ m0 m1 m2 m3 m4 m5:Md,C 39 135 [(m0,.tup [.str (q "same"),.non,.non]),(m1,.lst [.tup [.str (q "truth")],.tup [.str (q "truth")]]),(m2,.lst [.lst (ay ba),.lst (ay bb)]),(m3,.tup [.str (q "truth")]),(m4,.lst ((ba.zip bb).map fun p=>.bl (p.1 == p.2))),(m5,.non)] = .ok ((.d,.bl true),[]):=fun m0 m1 m2 m3 m4 m5=>two (n:=33) (f:=T.bl) (g:=T.bl) (a:=.truth) (b:=.truth) (sg:="same") (di:=58) (F:=tX) (G:=fun p=>p.1 == p.2) (md:=.d) ba bb (by omega) (by omega) (ofB ba) (ofB bb) rfl rfl rfl rfl rfl rfl rfl (fun _ _=>rfl) (fun m x y=>yE 34 m x y) m0 m1 m2 m3 m4 m5
 have H7:evSs (C 39) (Wk 13) [some (.d,.scr ns),some (.d,t8),some (.d,.int r),some (.s,.lst (ai is)),some (.s,.lst (ai js)),o5,some (.o .s,.lst (ay bb)),some (.o .s,.lst (ay ba)),some (.d,.tup [.str (q "num")]),some (.d,.tup [.str (q "truth")]),some (.o .s,.lst ((is.zip js).map fun p=>.bl (p.1 == p.2))),none,none,none,none,none,none,none,none,none,none,none,none] = .nx [some (.d,.scr ns),some (.d,t8),some (.d,.int r),some (.s,.lst (ai is)),some (.s,.lst (ai js)),o5,some (.s,.lst (ay bb)),some (.s,.lst (ay ba)),some (.d,.tup [.str (q "num")]),some (.d,.tup [.str (q "truth")]),some (.o .s,.lst ((ba.zip bb).map fun p=>.bl (p.1 == p.2))),none,none,none,none,none,none,none,none,none,none,none,none]:=by
  simp_all only [Wk,f_law,List.take,List.drop,zB,du7,tr7,List.nil_append,st7]
 have du8:aE [20,21] (bA (evE (C 39) (.op .eq false [.op .add false [.op .int false [.var 20],.op .int false [.var 21]],.cst (.int 2)]))) ((ba.zip bb).map fun p=>[((.s,T.bl p.1):W),(.s,T.bl p.2)]) [none,none,none,none,none,none,some (.s,.lst (ay bb)),some (.s,.lst (ay ba)),none,none,none,none,none,none,none,none,none,none,none,none,none,none,none] [] = .ok ([] ++ (ba.zip bb).map (fun p=>((.d,.bl (p.1 && p.2)):W)),[none,none,none,none,none,none,some (.s,.lst (ay bb)),some (.s,.lst (ay ba)),none,none,none,none,none,none,none,none,none,none,none,none,none,none,none]):=aC _ _ [] fun p hp=>⟨_,[none,none,none,none,none,none,some (.s,.lst (ay bb)),some (.s,.lst (ay ba)),none,none,none,none,none,none,none,none,none,none,none,none,some (.s,T.bl p.1),some (.s,T.bl p.2),none],rfl,by
  obtain ⟨a,b⟩:=p
  cases a <;> cases b <;> rfl,rfl⟩
 have tr8:aJ ((ba.zip bb).map (fun p=>((.d,.bl (p.1 && p.2)):W))) = (ba.zip bb).map fun p=>T.bl (p.1 && p.2):=dz _ _
 have st8:∀ m0 m1 m2 m3 m4 m5:Md,C 39 135 [(m0,.tup [.str (q "both"),.non,.non]),(m1,.lst [.tup [.str (q "truth")],.tup [.str (q "truth")]]),(m2,.lst [.lst (ay ba),.lst (ay bb)]),(m3,.tup [.str (q "truth")]),(m4,.lst ((ba.zip bb).map fun p=>.bl (p.1 && p.2))),(m5,.non)] = .ok ((.d,.bl true),[]):=fun m0 m1 m2 m3 m4 m5=>two (n:=33) (f:=T.bl) (g:=T.bl) (a:=.truth) (b:=.truth) (sg:="both") (di:=59) (F:=zP) (G:=fun p=>p.1 && p.2) (md:=.s) ba bb (by omega) (by omega) (ofB ba) (ofB bb) rfl rfl rfl rfl rfl rfl rfl (fun _ _=>rfl) (fun m x y=>qd 34 m x y) m0 m1 m2 m3 m4 m5
 have H8:evSs (C 39) (Wk 15) [some (.d,.scr ns),some (.d,t8),some (.d,.int r),some (.s,.lst (ai is)),some (.s,.lst (ai js)),o5,some (.s,.lst (ay bb)),some (.s,.lst (ay ba)),some (.d,.tup [.str (q "num")]),some (.d,.tup [.str (q "truth")]),some (.o .s,.lst ((ba.zip bb).map fun p=>.bl (p.1 == p.2))),none,none,none,none,none,none,none,none,none,none,none,none] = .nx [some (.d,.scr ns),some (.d,t8),some (.d,.int r),some (.s,.lst (ai is)),some (.s,.lst (ai js)),o5,some (.s,.lst (ay bb)),some (.s,.lst (ay ba)),some (.d,.tup [.str (q "num")]),some (.d,.tup [.str (q "truth")]),some (.o .s,.lst ((ba.zip bb).map fun p=>.bl (p.1 && p.2))),none,none,none,none,none,none,none,none,none,none,none,none]:=by
  simp_all only [Wk,f_law,List.take,List.drop,zB,du8,tr8,List.nil_append,st8]
 have du9:aE [22] (bA (evE (C 39) (.op .eq false [.op .int false [.var 22],.cst (.int 0)]))) (ba.map fun b=>[((.s,.bl b):W)]) [none,none,none,none,none,none,none,some (.s,.lst (ay ba)),none,none,none,none,none,none,none,none,none,none,none,none,none,none,none] [] = .ok ([] ++ ba.map (fun b=>((.d,.bl (!b)):W)),[none,none,none,none,none,none,none,some (.s,.lst (ay ba)),none,none,none,none,none,none,none,none,none,none,none,none,none,none,none]):=aC _ _ [] fun b hp=>⟨_,[none,none,none,none,none,none,none,some (.s,.lst (ay ba)),none,none,none,none,none,none,none,none,none,none,none,none,none,none,some (.s,.bl b)],rfl,by
  cases b <;> rfl,rfl⟩
 have tr9:aJ (ba.map (fun b=>((.d,.bl (!b)):W))) = ba.map fun b=>T.bl (!b):=dz _ _
 have mB:(ay ba).map (fun t=>[((.s,t):W)]) = ba.map fun b=>[((.s,.bl b):W)]:=by rw [ay,List.map_map]; rfl
 have st9:∀ m0 m1 m2 m3 m4 m5:Md,C 39 135 [(m0,.tup [.str (q "not"),.non]),(m1,.lst [.tup [.str (q "truth")]]),(m2,.lst [.lst (ay ba)]),(m3,.tup [.str (q "truth")]),(m4,.lst (ba.map fun b=>.bl (!b))),(m5,.non)] = .ok ((.d,.bl true),[]):=fun m0 m1 m2 m3 m4 m5=>by
  refine ef (n:=33) (sg:="not") (pr:=[.non]) (ks:=[.truth]) (c:=ba.map T.bl) (cs:=[]) (kr:=.truth) (f:=AK) (di:=42) (md:=.d) rfl rfl rfl (fun k h=>by rw [List.mem_singleton.mp h]; rfl) rfl (fun p h=>?_) (fun d h=>?_) (by rw [List.length_map]; omega) rfl rfl rfl (fun r h=>?_) ?_ m0 m1 m2 m3 m4 m5
  ·rw [List.mem_singleton.mp (show p ∈ [(Kd.truth,ba.map T.bl)] from h)]; exact ofB ba
  ·rw [List.mem_singleton.mp h]
  ·rw [uk] at h
   obtain ⟨b,_,rfl⟩:=List.mem_map.mp h
   exact ⟨⟨_,rfl⟩,fun m=>wG 34 m b⟩
  ·rw [uk,List.map_map]; rfl
 rw [show f_law.body = W1 ++ (W2 ++ (W3 ++ (W4 ++ (Wk 9 ++ (Wk 11 ++ (Wk 13 ++ (Wk 15 ++ W9))))))) from rfl]
 rw [show (List.map some [((.d,.scr ns):W)] ++ List.replicate f_law.ns none) = [some (.d,.scr ns)] ++ List.replicate 22 none from rfl]
 rw [go1 H1,go1 H2,go1 H3,go1 H4,go1 H5,go1 H6,go1 H7,go1 H8]
 refine ⟨.d,[],?_⟩
 simp_all only [W9,f_law,List.drop,mB,du9,tr9,List.nil_append,st9]
end
end P40

set_option Elab.async false
set_option linter.all false
set_option maxRecDepth 100000
set_option maxHeartbeats 4000000
namespace A40
open PySem PySem.Spec PyProof.Rows L2 L3 MR
def top (i:Nat):Stmt:=PySem.Challenge.pw_broadrow_k40_truths_told_widely.main.body.getD i (.Pass ⟨0,0,0,0⟩)
abbrev nO:Stmt:=top 13
abbrev s42:Stmt:=top 19
abbrev s57:Stmt:=top 34
abbrev s58:Stmt:=top 35
abbrev s59:Stmt:=top 36
abbrev s6:Stmt:=top 60
abbrev s7:Stmt:=top 61
abbrev og:Stmt:=top 74
abbrev pj:Stmt:=top 75
abbrev s20:Stmt:=top 96
abbrev s21:Stmt:=top 97
abbrev s24:Stmt:=top 98
abbrev s95:Stmt:=top 99
abbrev m9:Stmt:=top 100
abbrev s0:Stmt:=top 101
structure Glb (K:PySem.W.Frag) (w:World) (mg:Str -> Option Value):Prop where
 k_RECKONED:rN K w mg "RECKONED" keys_RECKONED
 c_RECKONED:wx K w mg "RECKONED" tab_RECKONED
 k_WORDS_single:rN K w mg "WORDS_single" keys_WORDS_single
structure Calls (P:Program) (w:World) (K:PySem.W.Frag) (mg:Str -> Option Value) (base:Heap) (n:Nat) (C:M.Call):Prop where
 c130:ae P w K mg base n C "done" 130 []
 c42:ae P w K mg base n C "do_not" 42 []
 c57:ae P w K mg base n C "do_less" 57 []
 c58:ae P w K mg base n C "do_same" 58 []
 c59:ae P w K mg base n C "do_both" 59 []
 c6:ae P w K mg base n C "flat_of" 6 []
 c7:ae P w K mg base n C "worths_of" 7 []
 c133:ae P w K mg base n C "wide_step" 133 []
 c134:ae P w K mg base n C "reckoned" 134 []
 c20:ae P w K mg base n C "_law_draw" 20 [0]
 c21:ae P w K mg base n C "_law_number" 21 [0]
 c24:ae P w K mg base n C "_law_alike" 24 []
 c95:ae P w K mg base n C "_law_spoil" 95 []
 c135:ae P w K mg base n C "_law_step" 135 []
 c1:∀ ws,C 1 ws = .no
 c19:∀ ws,C 19 ws = .no
 c79:∀ ws,C 79 ws = .no
 c85:∀ ws,C 85 ws = .no
 t_DOINGS_single:qy P w K mg base n C "DOINGS_single" tab_DOINGS_single
 t_WORDS_single:qy P w K mg base n C "WORDS_single" bQ
abbrev DD (x:Str) (st:Stmt) (N:List Str) (fn:M.Fn):Prop:=∀ {P:Program} {w:World} {K:PySem.W.Frag} {mg:Str -> Option Value} {base:Heap} {n:Nat} {C:M.Call} {f:Addr} {cdv:Value} {A:Around} {outer:List Env} {s:Shared} {H:Hp} {E:XK},Calls P w K mg base n C -> Txt mg -> Glb K w mg -> Room n (A.deeper (envOfC x (defScope st) s.heap.objs.size f cdv)) -> SSs (f6 CX0 P w K mg base N x (defScope st) f cdv A outer s H E).nox (slN N.length) fn.io C (defBody st) fn.body
theorem yu:ax ["piece","ins","word"] ["piece","ins"] (defScope nO):=fsc
theorem A7:DD "done" nO ["piece","ins","word"] eM:=fun {_ _ _ _ _ _ _ _ _ _ _ s _ _} cs T G hr =>
 have S:=yu
 (ssc (a4 2 S.nd (sIf (zj G.k_WORDS_single (sIx (sV 0) sI)) (pd cs.t_WORDS_single hr (sIx (sV 0) sI) (sac (sV 1) sa0)) sN))
    (ssc (zIf (xy (sV 2) sN) (ss1 (aL (sT (slc sN (slc (sM 2) sl0))))) ss0)
    (ssc (zIf (jf hr (sIx (sV 0) sI) sS) (ss1 (aL (sT (slc (sIx (sM 0) sI) (slc sN sl0))))) ss0)
    (ss1 (aL (sT (slc (pd cs.t_DOINGS_single hr (sIx (sM 0) sI) (sac (sM 1) sa0)) (slc sN sl0))))))))
theorem S42:ax ["ins"] ["ins"] (defScope s42):=fsc
theorem D42:DD "do_not" s42 ["ins"] cq:=fun {_ _ _ _ _ _ _ _ _ _ _ s _ _} cs T G hr =>
 have S:=S42
 (ss1 (aL (Ba (sIx (sM 0) sI))))
theorem S57:ax ["ins"] ["ins"] (defScope s57):=fsc
theorem D57:DD "do_less" s57 ["ins"] bV:=fun {_ _ _ _ _ _ _ _ _ _ _ s _ _} cs T G hr =>
 have S:=S57
 (ss1 (aL (sLt (sIx (sV 0) sI) (sIx (sV 0) sI))))
theorem S58:ax ["ins"] ["ins"] (defScope s58):=fsc
theorem D58:DD "do_same" s58 ["ins"] bT:=fun {_ _ _ _ _ _ _ _ _ _ _ s _ _} cs T G hr =>
 have S:=S58
 (ss1 (aL (sEq hr (sIx (sV 0) sI) (sIx (sV 0) sI))))
theorem S59:ax ["ins"] ["ins"] (defScope s59):=fsc
theorem D59:DD "do_both" s59 ["ins"] bN:=fun {_ _ _ _ _ _ _ _ _ _ _ s _ _} cs T G hr =>
 have S:=S59
 (ss1 (aL (sBW (By (sIx (sV 0) sI) (vA1 (sIx (sV 0) sI))))))
theorem S6:ax ["kind","worths","things","worth"] ["kind","worths"] (defScope s6):=fsc
theorem D6:DD "flat_of" s6 ["kind","worths","things","worth"] aW:=fun {_ _ _ _ _ _ _ _ _ _ _ s _ _} cs T G hr =>
 have S:=S6
 (ssc (zIf (jf hr (sIx (sV 0) sI) sS) (ss1 (aL (sT (slc (ao cs.c6 hr (sac (sIx (sV 0) sI) (sac (sC1 [] [] [] [] (iY (sV 1)) (fun _ _ _ _=>(sIx (sV 0) sI)) csc .nil .nil) sa0))) (slc (ao cs.c6 hr (sac (sIx (sV 0) sI) (sac (sC1 [] [] [] [] (iY (sV 1)) (fun _ _ _ _=>(sIx (sV 0) sI)) csc .nil .nil) sa0))) sl0))))) ss0)
    (ssc (zIf (jf hr (sIx (sV 0) sI) sS) (ssc (a4 2 S.nd (sLs sl0))
     (ssc (oi 3 S.nd (iY (sV 1)) (ss1 (BI 2 (sV 3))))
     (ss1 (aL (sT (slc (sC1 [] [] [] [] (iY (sM 1)) (fun _ _ _ _=>(ej (hm:=T.len) (ha:=(sV 0)))) csc .nil .nil) (slc (ao cs.c6 hr (sac (sIx (sM 0) sI) (sac (sM 2) sa0))) sl0))))))) ss0)
    (ss1 (aL (jL (hm:=T.list) (ha:=(sM 1)))))))
theorem S7:ax ["kind","flat","many"] ["kind","flat","many"] (defScope s7):=fsc
theorem D7:DD "worths_of" s7 ["kind","flat","many"] aX:=fun {_ _ _ _ _ _ _ _ _ _ _ s _ _} cs T G hr =>
 have S:=S7
 (ssc (zIf (jf hr (sIx (sV 0) sI) sS) (ss1 (aL (sLZ T.list T.zip (ao cs.c7 hr (sac (sIx (sV 0) sI) (sac (sIx (sV 1) sI) (sac (sV 2) sa0)))) (ao cs.c7 hr (sac (sIx (sV 0) sI) (sac (sIx (sV 1) sI) (sac (sV 2) sa0))))))) ss0)
    (ssc (zIf (jf hr (sIx (sV 0) sI) sS) (ss1 (aL (qC cs.c1))) ss0)
    (ss1 (aL (jL (hm:=T.list) (ha:=(sM 1)))))))
theorem x9:ax ["piece","kinds","flats","many","stop","ahead"] ["piece","kinds","flats","many"] (defScope og):=fsc
theorem Bi:DD "wide_step" og ["piece","kinds","flats","many","stop","ahead"] bj:=fun {_ _ _ _ _ _ _ _ _ _ _ s _ _} cs T G hr =>
 have S:=x9
 (ssc (zIf (zj G.k_RECKONED (sIx (sV 0) sI)) (ss1 (aL (ao cs.c134 hr (sac (sM 0) (sac (sM 1) (sac (sM 2) (sac (sM 3) sa0))))))) ss0)
    (ssc (a4 4 S.nd (qC cs.c79))
    (ssc (zC2 5 [4] [4] [("stop",s.heap.objs.size + 1)] ["stop"] (dE (hm:=T.zip) (ha:=(sV 1)) (hb:=(sV 2))) (fun _ _ _ _=>(qC cs.c19)) csc (kO .nil) (frc .nil) S.nd)
    (ss1 (aL (sT (slc (qC cs.c85) (slc (sIx (sV 4) sI) (slc (sIx (sV 4) sI) sl0)))))))))
theorem zM:ax ["piece","kinds","flats","many","columns","worths","word","number","told"] ["piece","kinds","flats","many"] (defScope pj):=fsc
theorem BC:DD "reckoned" pj ["piece","kinds","flats","many","columns","worths","word","number","told"] bg:=fun {_ _ _ _ _ _ _ _ _ _ _ s _ _} cs T G hr =>
 have S:=zM
 (ssc (zC2 4 [3] [3] [("many",s.heap.objs.size + 1)] ["many"] (dE (hm:=T.zip) (ha:=(sV 1)) (hb:=(sV 2))) (fun _ _ _ _=>(ao cs.c7 hr (sac (sV 0) (sac (sV 1) (sac (sV 2) sa0))))) csc (kO .nil) (frc .nil) S.nd)
    (ssc (a4 5 S.nd (sLs sl0))
    (ssc (a4 6 S.nd sN)
    (ssc (oi 7 S.nd (sG (hm:=T.range) (ha:=(sV 3))) (ssc (a4 8 S.nd (ao cs.c130 hr (sac (sV 0) (sac (sC1 [7] [7] [("number",s.heap.objs.size + 2)] ["number"] (iY (sV 4)) (fun _ _ _ _=>(sIx (sV 0) (sV 1))) csc (kO .nil) (frc .nil)) sa0))))
     (ssc (a4 6 S.nd (sIx (sV 8) sI))
     (ssc (zIf (xy (sV 6) sN) (ss1 Bp) ss0)
     (ss1 (zG 5 (sIx (sV 8) sI)))))))
    (ss1 (aL (sT (slc (ao cs.c6 hr (sac (A9 G.c_RECKONED (sIx (sM 0) sI)) (sac (sV 5) sa0))) (slc (ej (hm:=T.len) (ha:=(sV 5))) (slc (sM 6) sl0))))))))))
theorem S20:ax ["tape","many","rest","spot","cell","number"] ["tape","many"] (defScope s20):=fsc
theorem D20:DD "_law_draw" s20 ["tape","many","rest","spot","cell","number"] aP:=fun {_ _ _ _ _ _ _ _ _ _ _ s _ _} cs T G hr =>
 have S:=S20
 (ssc (zIf (z0 (sIx (sV 0) sI) sI) (ssc (mV 0 (gC (sIx (sV 0) sI) sI) sI)
      (ssc (a4 2 S.nd (sIx (sV 0) sI))
      (ssc (mV 0 (zU (sV 2) (sV 1)) sI)
      (ss1 (aL (gn (sM 2) (sM 1))))))) ss0)
    (ssc (a4 3 S.nd (sIx (sV 0) sI))
    (ssc (mV 0 (gx (sV 3) sI) sI)
    (ssc (a4 4 S.nd sI)
    (ssc (zIf (z0 (ej (hm:=T.len) (ha:=(sIx (sV 0) sI))) sI) (ss1 (a4 4 S.nd (sIx (sIx (sV 0) sI) (gn (sV 3) (ej (hm:=T.len) (ha:=(sIx (sV 0) sI))))))) ss0)
    (ssc (zIf (tW (zD (zC (sV 3) (ej (hm:=T.len) (ha:=(sIx (sV 0) sI)))) (wA1 (Bc (sV 4) (iI sI sI))))) (ssc (mV 0 (gC (sV 4) (iI sI sI)) sI)
     (ssc (mV 0 sI sI)
     (ss1 (aL (ao cs.c20 hr (sai 0 (sac (sM 1) sa0))))))) ss0)
    (ssc (a4 5 S.nd (gi (gx (gn (sV 4) sI) sI) (gx (gx (gn (gi (sV 3) (sV 3)) sI) (gi sI (sV 3))) sI)))
    (ssc (a4 5 S.nd (gn (gi (gn (sV 5) sI) (gn (sV 5) sI)) sI))
    (ss1 (aL (gn (gn (gx (zU (sM 5) sI) (gi sI (sM 3))) sI) (sM 1))))))))))))
theorem S21:ax ["tape","way","top","great"] ["tape"] (defScope s21):=fsc
theorem D21:DD "_law_number" s21 ["tape","way","top","great"] a0:=fun {_ _ _ _ _ _ _ _ _ _ _ s _ _} cs T G hr =>
 have S:=S21
 (ssc (a4 1 S.nd (ao cs.c20 hr (sai 0 (sac sI sa0))))
    (ssc (zIf (zC (sV 1) sI) (ss1 (aL (gC (ao cs.c20 hr (sai 0 (sac sI sa0))) sI))) ss0)
    (ssc (zIf (jf hr (sV 1) sI) (ssc (a4 2 S.nd (iI sI sI))
     (ss1 (aL (sIx (sLs (slc (sV 2) (slc (gC sI (sV 2)) (slc (gC (sV 2) sI) (slc (gC sI (sV 2)) (slc sI sl0)))))) (ao cs.c20 hr (sai 0 (sac sI sa0))))))) ss0)
    (ssc (a4 3 S.nd (gi (ao cs.c20 hr (sai 0 (sac (iI sI sI) sa0))) (iI sI sI)))
    (ssc (a4 3 S.nd (gx (sV 3) (gi (ao cs.c20 hr (sai 0 (sac (iI sI sI) sa0))) (iI sI sI))))
    (ssc (a4 3 S.nd (gx (sV 3) (ao cs.c20 hr (sai 0 (sac (iI sI sI) sa0)))))
    (ss1 (aL (gi (sM 3) (gC sI (gi sI (ao cs.c20 hr (sai 0 (sac sI sa0))))))))))))))
theorem S24:ax ["due","found"] ["due","found"] (defScope s24):=fsc
theorem D24:DD "_law_alike" s24 ["due","found"] ak:=fun {_ _ _ _ _ _ _ _ _ _ _ s _ _} cs T G hr =>
 have S:=S24
 (ssc (zIf (tB (zZ (by decide) PyProof.Rows.boot_list (by decide) PyProof.Rows.boot_tuple T.isin T.list T.tup (sV 0))) (ssc (zIf (i7 hr (eX (by decide) PyProof.Rows.boot_list T.isin T.list (sV 0)) (eX (by decide) PyProof.Rows.boot_list T.isin T.list (sV 1))) (ss1 (aL sO)) ss0)
      (ssc (zIf (i7 hr (eX (by decide) PyProof.Rows.boot_tuple T.isin T.tup (sV 0)) (eX (by decide) PyProof.Rows.boot_tuple T.isin T.tup (sV 1))) (ss1 (aL sO)) ss0)
      (ssc (zIf (i7 hr (ej (hm:=T.len) (ha:=(sV 0))) (ej (hm:=T.len) (ha:=(sV 1)))) (ss1 (aL sO)) ss0)
      (ss1 (aL (BB (hm:=T.all) (ha:=(sC2 [] [] [] [] (dE (hm:=T.zip) (ha:=(sM 0)) (hb:=(sM 1))) (fun _ _ _ _=>(ao cs.c24 hr (sac (sV 0) (sac (sV 1) sa0)))) csc .nil .nil)))))))) ss0)
    (ssc (zIf (i7 hr (eX (by decide) PyProof.Rows.boot_bool T.isin T.bool (sV 0)) (eX (by decide) PyProof.Rows.boot_bool T.isin T.bool (sV 1))) (ss1 (aL sO)) ss0)
    (ss1 (aL (sEq hr (sM 0) (sM 1))))))
theorem zi:ax ["piece","kinds","lists","kind","due","word","many","flats","handed","told","one","some","flat","again"] ["piece","kinds","lists","kind","due","word"] (defScope m9):=fsc
theorem Bz:DD "_law_step" m9 ["piece","kinds","lists","kind","due","word","many","flats","handed","told","one","some","flat","again"] bf:=fun {_ _ _ _ _ _ _ _ _ _ _ s _ _} cs T G hr =>
 have S:=zi
 (ssc (a4 6 S.nd (ej (hm:=T.len) (ha:=(sIx (sV 2) sI))))
    (ssc (zC2 7 [] [] [] [] (dE (hm:=T.zip) (ha:=(sV 1)) (hb:=(sV 2))) (fun _ _ _ _=>(ao cs.c6 hr (sac (sV 0) (sac (sV 1) sa0)))) csc .nil .nil S.nd)
    (ssc (a4 8 S.nd (jL (hm:=T.list) (ha:=(sV 1))))
    (ssc (a4 9 S.nd (ao cs.c133 hr (sac (sV 0) (sac (sV 8) (sac (sV 7) (sac (sV 6) sa0))))))
    (ssc (zIf (tW (wOr (dC (tB (eX (by decide) PyProof.Rows.boot_tuple T.isin T.tup (sV 9)))) (wO1 (i7 hr (ej (hm:=T.len) (ha:=(sV 9))) sI)))) (ss1 (aL sO)) ss0)
    (ssc (zIf (dC (tB (ao cs.c24 hr (sac (ao cs.c6 hr (sac (sV 3) (sac (sV 4) sa0))) (sac (sIx (sV 9) sI) sa0))))) (ss1 (aL sO)) ss0)
    (ssc (zIf (tW (wOr (dC (tB (ao cs.c24 hr (sac (ej (hm:=T.len) (ha:=(sV 4))) (sac (sIx (sV 9) sI) sa0))))) (wO1 (i7 hr (sV 8) (sV 1))))) (ss1 (aL sO)) ss0)
    (ssc (zIf (tW (wOr (tW (zD (AF (sV 5) sN) (wA1 (xy (sIx (sV 9) sI) sN)))) (wO1 (i7 hr (sIx (sV 9) sI) (sV 5))))) (ss1 (aL sO)) ss0)
    (ssc (Bk (ao cs.c95 hr (sac (AU 9 (sPi [] 0 (sPn 9) i8)) sa0)))
    (ssc (x6 10 11 12 S.nd (wM (hm:=T.zip) (ha:=(sV 1)) (hb:=(sV 2)) (hc':=(sV 7))) (ss1 (zIf (dC (tB (ao cs.c24 hr (sac (ao cs.c6 hr (sac (sV 10) (sac (sV 11) sa0))) (sac (sV 12) sa0))))) (ss1 (aL sO)) ss0)))
    (ssc (a4 13 S.nd (ao cs.c133 hr (sac (sV 0) (sac (sV 8) (sac (sV 7) (sac (sV 6) sa0))))))
    (ss1 (aL (ao cs.c24 hr (sac (sT (slc (ao cs.c6 hr (sac (sM 3) (sac (sV 4) sa0))) (slc (ej (hm:=T.len) (ha:=(sV 4))) (slc (sM 5) sl0)))) (sac (sM 13) sa0))))))))))))))))
theorem S0:ax ["script","tape","many","mine","yours","number","other","one","num","truth","due"] ["script"] (defScope s0):=fsc
theorem D0:DD "law" s0 ["script","tape","many","mine","yours","number","other","one","num","truth","due"] f_law:=fun {_ _ _ _ _ _ _ _ _ _ _ s _ _} cs T G hr =>
 have S:=S0
 (ssc (a4 1 S.nd (sLs (slc (jL (hm:=T.list) (ha:=(Bb (sV 0) sI))) (slc sI (slc sI (slc sI sl0))))))
    (ssc (a4 2 S.nd (ao cs.c20 hr (sai 1 (sac sI sa0))))
    (ssc (zC1 3 [1] [1] [("tape",s.heap.objs.size + 1)] ["tape"] (sG (hm:=T.range) (ha:=(sV 2))) (fun _ _ _ _=>(ao cs.c21 hr (sai 1 sa0))) csc (kO .nil) (frc .nil) S.nd)
    (ssc (a4 4 S.nd (sLs sl0))
    (ssc (oi 5 S.nd (iY (sV 3)) (ssc (a4 6 S.nd (ao cs.c21 hr (sai 1 sa0)))
     (ssc (zIf (jf hr (ao cs.c20 hr (sai 1 (sac sI sa0))) sI) (ss1 (a4 6 S.nd (sV 5))) ss0)
     (ss1 (zG 4 (sV 6))))))
    (ssc (zC1 7 [1] [1] [("tape",s.heap.objs.size + 1)] ["tape"] (sG (hm:=T.range) (ha:=(sV 2))) (fun _ _ _ _=>(sEq hr (ao cs.c20 hr (sai 1 (sac sI sa0))) sI)) csc (kO .nil) (frc .nil) S.nd)
    (ssc (zC1 6 [1] [1] [("tape",s.heap.objs.size + 1)] ["tape"] (sG (hm:=T.range) (ha:=(sV 2))) (fun _ _ _ _=>(sEq hr (ao cs.c20 hr (sai 1 (sac sI sa0))) sI)) csc (kO .nil) (frc .nil) S.nd)
    (ssc (a4 8 S.nd (sT (slc sS sl0)))
    (ssc (a4 9 S.nd (sT (slc sS sl0)))
    (ssc (zC2 10 [] [] [] [] (dE (hm:=T.zip) (ha:=(sV 3)) (hb:=(sV 4))) (fun _ _ _ _=>(sLt (gC (sV 0) (sV 1)) sI)) csc .nil .nil S.nd)
    (ssc (zIf (dC (tB (ao cs.c135 hr (sac (sT (slc sS (slc sN (slc sN sl0)))) (sac (sLs (slc (sV 8) (slc (sV 8) sl0))) (sac (sLs (slc (sV 3) (slc (sV 4) sl0))) (sac (sV 9) (sac (sV 10) (sac sN sa0))))))))) (ss1 (aL sO)) ss0)
    (ssc (zC2 10 [] [] [] [] (dE (hm:=T.zip) (ha:=(sV 3)) (hb:=(sV 4))) (fun _ _ _ _=>(sEq hr (gC (sV 0) (sV 1)) sI)) csc .nil .nil S.nd)
    (ssc (zIf (dC (tB (ao cs.c135 hr (sac (sT (slc sS (slc sN (slc sN sl0)))) (sac (sLs (slc (sV 8) (slc (sV 8) sl0))) (sac (sLs (slc (sV 3) (slc (sV 4) sl0))) (sac (sV 9) (sac (sV 10) (sac sN sa0))))))))) (ss1 (aL sO)) ss0)
    (ssc (zC2 10 [] [] [] [] (dE (hm:=T.zip) (ha:=(sV 7)) (hb:=(sV 6))) (fun _ _ _ _=>(sNe hr (gx (oz (hm:=T.int) (ha:=(sV 0))) (oz (hm:=T.int) (ha:=(sV 1)))) sI)) csc .nil .nil S.nd)
    (ssc (zIf (dC (tB (ao cs.c135 hr (sac (sT (slc sS (slc sN (slc sN sl0)))) (sac (sLs (slc (sV 9) (slc (sV 9) sl0))) (sac (sLs (slc (sV 7) (slc (sV 6) sl0))) (sac (sV 9) (sac (sV 10) (sac sN sa0))))))))) (ss1 (aL sO)) ss0)
    (ssc (zC2 10 [] [] [] [] (dE (hm:=T.zip) (ha:=(sV 7)) (hb:=(sV 6))) (fun _ _ _ _=>(sEq hr (gx (oz (hm:=T.int) (ha:=(sV 0))) (oz (hm:=T.int) (ha:=(sV 1)))) sI)) csc .nil .nil S.nd)
    (ssc (zIf (dC (tB (ao cs.c135 hr (sac (sT (slc sS (slc sN (slc sN sl0)))) (sac (sLs (slc (sV 9) (slc (sV 9) sl0))) (sac (sLs (slc (sV 7) (slc (sV 6) sl0))) (sac (sV 9) (sac (sV 10) (sac sN sa0))))))))) (ss1 (aL sO)) ss0)
    (ssc (zC1 10 [] [] [] [] (iY (sV 7)) (fun _ _ _ _=>(sEq hr (oz (hm:=T.int) (ha:=(sV 0))) sI)) csc .nil .nil S.nd)
    (ss1 (aL (ao cs.c135 hr (sac (sT (slc sS (slc sN sl0))) (sac (sLs (slc (sV 9) sl0)) (sac (sLs (slc (sM 7) sl0)) (sac (sV 9) (sac (sM 10) (sac sN sa0)))))))))))))))))))))))))))
end A40

set_option Elab.async false
set_option linter.all false
set_option maxRecDepth 100000
set_option maxHeartbeats 4000000
namespace A40
open PySem PySem.Spec PyProof.Rows L2 L3 MR
noncomputable abbrev Cl (n:Nat):M.Call:=M.callR prog 95 1000001 n
abbrev gD:Stmt:=s95
abbrev w9:Nat:=95
section
variable {P:Program} {w:World} {K:PySem.W.Frag} {mg:Str -> Option Value} {base:Heap} {f:Addr} {fd:FuncData}
theorem scSp:ax ["thing","one"] ["thing"] (defScope gD):=⟨rfl,rfl,rfl,by decide +kernel,rfl,by decide +kernel,by decide +kernel⟩
theorem oZ {n:Nat} (F:Fun K "_law_spoil" "_law_spoil" gD f fd) (G:FnOk P w K mg base CX0 n f fd ["thing"] (dY K n)) (bG:Binds K fd ["thing"] []) (T:Txt mg) (mF:mg "_law_spoil" = some (.ref f)):FnOk P w K mg base CX0 (n + 1) f fd ["thing"] (dY K (n + 1)):=by
 refine F.ok scSp (fun vs H Q E h=>?_) (fun cdv A outer s H vs Q E hr h=>?_)
 ·obtain ⟨v,t,as,rfl,_⟩:=h
  rfl
 obtain ⟨v,t,as,rfl,ht,hnd,hw,q⟩:=h
 refine ⟨_,iC (nB (mj (bO (sR (c1:="list") (c2:="tuple") (by decide) (by decide)) rfl T.isin PyProof.Rows.boot_isinstance (az (pv 0) (az (jg (az (fQ rfl T.list PyProof.Rows.boot_list) (az (fQ rfl T.tup PyProof.Rows.boot_tuple) a9))) a9))))
   (cZ (jm PassesOwn.never rfl (jE (dB cY rfl T.list PyProof.Rows.boot_list (az (pv 0) a9))) (bF (i:=1) scSp.nd rfl (Or.inl rfl)) (cZ (cQ (kz G hr rfl mF F.kp bG .nil nD (az (pv 1) a9)))))) gw)
  (cZ (nB (mj (bO (iJ (c:="list") (by decide)) rfl T.isin PyProof.Rows.boot_isinstance (az (pv 0) (az (fQ rfl T.list PyProof.Rows.boot_list) a9))))
   (cZ (cQ (oD PySem.F.plainAttrs_list PySem.F.slot_list_append PySem.F.type_list_append fF (pv 0) (az i8 a9)))) gw)),?_⟩
 refine ⟨_,rfl,le2,fun p0 g0=>?_⟩
 have s0:Same H (upd H p0 (.tup [V.ty "list",V.ty "tuple"])):=cw g0 _
 generalize hH1:upd H p0 (.tup [V.ty "list",V.ty "tuple"]) = H1 at s0 ⊢
 have hp0:H1 p0 = some (.tup [V.ty "list",V.ty "tuple"]):=by rw [<- hH1]; exact af
 have turn:∀ {ts:List Th} {ws:List V} {bs:List Addr} {p:Addr} {H2:Hp},HasAL K H2 ts ws bs -> bs.Nodup -> (∀ u ∈ ts,WSx n u) -> p ∉ bs -> H2 p = some (.lst ws) ->
   ∀ (x:V) (i:Nat) (H3:Hp),ws[i]? = some x -> (∃ b c,bs = b ++ c /\ SBs b H2 H3 /\ HasAL K H2 (ts.drop i) (ws.drop i) c) ->
    ∃ t' b,HasA K H3 t' x b /\ b.Nodup /\ WSx n t' /\ ∀ H4,SBs b H3 H4 -> ∃ b' c,bs = b' ++ c /\ SBs b' H2 H4 /\ HasAL K H2 (ts.drop (i + 1)) (ws.drop (i + 1)) c:=by
  intro ts ws bs p H2 hA hN hWS hp hpp x i H3 hx ⟨b,c,e,s3,hD⟩
  have hlt:=(List.getElem?_eq_some_iff.mp hx).1
  have hxe:=(List.getElem?_eq_some_iff.mp hx).2
  have ed:ws.drop i = x :: ws.drop (i + 1):=by rw [List.drop_eq_getElem_cons hlt,hxe]
  obtain ⟨t',us,b1,c1,et,h1,h2,e2⟩:=hD.at ed
  have eu:ts.drop (i + 1) = us:=by rw [<- List.drop_drop (i:=1),et]; rfl
  have hmem:t' ∈ ts:=List.mem_of_mem_drop (i:=i) (by rw [et]; exact List.mem_cons_self)
  rw [e,e2] at hN
  have hN2:=List.nodup_append.mp hN
  have hN3:=List.nodup_append.mp hN2.2.1
  refine ⟨t',b1,HasA.kept s3 (fun y hy=>hA.lists y (by rw [e]; exact List.mem_append_left _ hy)) h1 (fun y hy hy'=>hN2.2.2 y hy' y (List.mem_append_left _ hy) rfl),hN3.1,hWS t' hmem,fun H4 s4=>⟨b ++ b1,c1,by rw [e,e2,List.append_assoc],s3.trans s4,?_⟩⟩
  rw [eu]
  exact h2
 cases t with
 | non =>
  refine ⟨_,_,p0,rfl,SqT.of hp0,ht.has.mono s0,_,rfl,gy ?_⟩
  refine ⟨_,rfl,_,.non,rfl,(ht.has.mono s0 :),_,rfl,gy ?_⟩
  exact q _ (SBs.same s0)
 | str z =>
  refine ⟨_,_,p0,rfl,SqT.of hp0,ht.has.mono s0,_,rfl,gy ?_⟩
  refine ⟨_,rfl,_,.str z,rfl,(ht.has.mono s0 :),_,rfl,gy ?_⟩
  exact q _ (SBs.same s0)
 | int i =>
  refine ⟨_,_,p0,rfl,SqT.of hp0,ht.has.mono s0,_,rfl,gy ?_⟩
  refine ⟨_,rfl,_,.int i,rfl,ht.has.mono s0,_,rfl,gy ?_⟩
  exact q _ (SBs.same s0)
 | bl i =>
  refine ⟨_,_,p0,rfl,SqT.of hp0,ht.has.mono s0,_,rfl,gy ?_⟩
  refine ⟨_,rfl,_,.bl i,rfl,ht.has.mono s0,_,rfl,gy ?_⟩
  exact q _ (SBs.same s0)
 | tup ts =>
  have ht0:=ht.has
  obtain ⟨hlen,hall⟩:=hw
  obtain ⟨a,ws,rfl,hS,hL⟩:=ht
  refine ⟨_,_,p0,rfl,SqT.of hp0,ht0.mono s0,_,rfl,vy ?_⟩
  refine ⟨_,rfl,a,ws,rfl,.inr (Same.sqt s0 hS),fun p hp=>⟨p,rfl,⟨_,SqL.of af⟩,?_⟩⟩
  have u:=cw hp (.lst ws)
  have S1:=s0.trans u
  have hpn:p ∉ as:=fun z=>by obtain ⟨zs,e⟩:=hL.lists p z; rw [s0 _ _ e] at hp; cases hp
  have hp1:upd H1 p (.lst ws) p = some (.lst ws):=af
  generalize upd H1 p (.lst ws) = H2 at S1 hp1 u ⊢
  have hA:=hL.mono S1
  refine iA (K:=K) (a:=p) (xs:=ws) (fun i σ H3=>(∃ o,σ = [some (.ref a),o]) /\ ∃ b c,as = b ++ c /\ SBs b H2 H3 /\ HasAL K H2 (ts.drop i) (ws.drop i) c) ⟨⟨_,rfl⟩,[],as,rfl,SBs.refl,hA⟩ (fun i σ H3 _ h3=>?_) ?_ ?_
  ·obtain ⟨_,b,c,e,s3,_⟩:=h3
   exact SqL.of (s3 _ _ (fun z=>hpn (by rw [e]; exact List.mem_append_left _ z)) hp1)
  ·rintro i x σ H3 hx ⟨⟨o,rfl⟩,h3⟩
   obtain ⟨t',b,g1,g2,g3,g4⟩:=turn hA hnd hall hpn hp1 x i H3 hx h3
   exact ⟨_,rfl,x,t',b,rfl,g1,g2,g3,fun H4 s4=>⟨⟨_,rfl⟩,g4 H4 s4⟩⟩
  rintro σ H3 ⟨⟨o,rfl⟩,b,c,e,s3,hD⟩
  have hb:∀ y ∈ b,∃ zs,H2 y = some (.lst zs):=fun y hy=>hA.lists y (by rw [e]; exact List.mem_append_left _ hy)
  refine ⟨_,rfl,_,.tup ts,rfl,⟨a,ws,rfl,gN s3 hb (Same.sqt S1 hS)⟩,_,rfl,gy ?_⟩
  exact q _ ⟨fun y uy ny hy=>s3 y uy (fun z=>ny (by rw [e]; exact List.mem_append_left _ z)) (S1 _ _ hy),fun y hy=>s3.al y (gf S1 y hy)⟩
 | lst ts =>
  have ht0:=ht.has
  obtain ⟨hlen,hall⟩:=hw
  obtain ⟨a,ws,bs,rfl,hS,hL,rfl⟩:=ht
  have hnd':=List.nodup_cons.mp hnd
  refine ⟨_,_,p0,rfl,SqT.of hp0,ht0.mono s0,_,rfl,vy ?_⟩
  refine ⟨_,rfl,a,ws,rfl,.inl (SqL.of (s0 _ _ hS)),fun p hp=>⟨p,rfl,⟨_,SqL.of af⟩,?_⟩⟩
  have u:=cw hp (.lst ws)
  have S1:=s0.trans u
  have hpn:p ∉ bs:=fun z=>by obtain ⟨zs,e⟩:=hL.lists p z; rw [s0 _ _ e] at hp; cases hp
  have hp1:upd H1 p (.lst ws) p = some (.lst ws):=af
  generalize upd H1 p (.lst ws) = H2 at S1 hp1 u ⊢
  have hA:=hL.mono S1
  refine iA (K:=K) (a:=p) (xs:=ws) (fun i σ H3=>(∃ o,σ = [some (.ref a),o]) /\ ∃ b c,bs = b ++ c /\ SBs b H2 H3 /\ HasAL K H2 (ts.drop i) (ws.drop i) c) ⟨⟨_,rfl⟩,[],bs,rfl,SBs.refl,hA⟩ (fun i σ H3 _ h3=>?_) ?_ ?_
  ·obtain ⟨_,b,c,e,s3,_⟩:=h3
   exact SqL.of (s3 _ _ (fun z=>hpn (by rw [e]; exact List.mem_append_left _ z)) hp1)
  ·rintro i x σ H3 hx ⟨⟨o,rfl⟩,h3⟩
   obtain ⟨t',b,g1,g2,g3,g4⟩:=turn hA hnd'.2 hall hpn hp1 x i H3 hx h3
   exact ⟨_,rfl,x,t',b,rfl,g1,g2,g3,fun H4 s4=>⟨⟨_,rfl⟩,g4 H4 s4⟩⟩
  rintro σ H3 ⟨⟨o,rfl⟩,b,c,e,s3,hD⟩
  have ha3:H3 a = some (.lst ws):=s3 _ _ (fun z=>hnd'.1 (by rw [e]; exact List.mem_append_left _ z)) (S1 _ _ hS)
  refine ⟨_,rfl,_,.lst ts,rfl,⟨a,ws,rfl,SqL.of ha3⟩,_,rfl,vy ?_⟩
  refine ⟨_,rfl,.inl ⟨rfl,_,SqL.of ha3⟩,a,ws,_,rfl,rfl,ha3,(by rw [hL.has.length]; exact Nat.lt_of_le_of_lt hlen (by decide)),?_⟩
  refine q _ ⟨fun y uy ny hy=>?_,fun y hy z=>?_⟩
  rotate_left
  ·by_cases ya:y = a
   ·rw [ya,af] at z; cases z
   ·rw [ab ya] at z; exact s3.al y (gf S1 y hy) z
  have ny':=fun z=>ny (List.mem_cons.mpr z)
  rw [ab (fun z=>ny' (.inl z))]
  exact s3 y uy (fun z=>ny' (.inr (by rw [e]; exact List.mem_append_left _ z))) (S1 _ _ hy)
theorem fD (F:Fun K "_law_spoil" "_law_spoil" gD f fd) (bG:Binds K fd ["thing"] []) (T:Txt mg) (mF:mg "_law_spoil" = some (.ref f)):∀ n,FnOk P w K mg base CX0 n f fd ["thing"] (dY K n)
 | 0=>⟨fun vs H Q E h=>by obtain ⟨_,_,_,_,_,_,hd,_⟩:=h; exact hd.elim,fun A outer s H args us vs Q E _ _ _ _ h=>by obtain ⟨_,_,_,_,_,_,hd,_⟩:=h; exact hd.elim⟩
 | n + 1=>oZ F (fD F bG T mF n) bG T mF
theorem ib (F:Fun K "_law_spoil" "_law_spoil" gD f fd) (b:Binds K fd ["thing"] []) (T:Txt mg) (m:mg "_law_spoil" = some (.ref f)):∀ n,FnOk P w K mg base CX0 n f fd ["thing"] (spS K (Cl n) w9 [])
 | 0=>fn0 fun _=>rfl
 | n + 1=>(fD F b T m (n + 1)).imp fun _ _ _ _ h=>kG (fun _=>rfl) h
end
section
variable {P:Program} {w:World} {K:PySem.W.Frag} {mg:Str -> Option Value} {base:Heap}
abbrev bC:List (Str × Str):=[("not","do_not"),("less","do_less"),("same","do_same"),("both","do_both")]
abbrev bS:List (Str × Str):=[]
theorem all (d130:Df K mg "done" nO ["piece","ins"]) (d42:Df K mg "do_not" s42 ["ins"]) (d57:Df K mg "do_less" s57 ["ins"]) (d58:Df K mg "do_same" s58 ["ins"]) (d59:Df K mg "do_both" s59 ["ins"]) (d6:Df K mg "flat_of" s6 ["kind","worths"]) (d7:Df K mg "worths_of" s7 ["kind","flat","many"]) (d133:Df K mg "wide_step" og ["piece","kinds","flats","many"]) (d134:Df K mg "reckoned" pj ["piece","kinds","flats","many"]) (d20:Df K mg "_law_draw" s20 ["tape","many"]) (d21:Df K mg "_law_number" s21 ["tape"]) (d24:Df K mg "_law_alike" s24 ["due","found"]) (d95:Df K mg "_law_spoil" s95 ["thing"]) (d135:Df K mg "_law_step" m9 ["piece","kinds","lists","kind","due","word"]) (t_DOINGS_single:pU K w mg "DOINGS_single" bC) (t_WORDS_single:pU K w mg "WORDS_single" bS) (T:Txt mg) (G:Glb K w mg):∀ n,Calls P w K mg base n (Cl n)
 | 0 =>
  have c130:ae P w K mg base 0 (Cl 0) "done" 130 []:=d130.z
  have c42:ae P w K mg base 0 (Cl 0) "do_not" 42 []:=d42.z
  have c57:ae P w K mg base 0 (Cl 0) "do_less" 57 []:=d57.z
  have c58:ae P w K mg base 0 (Cl 0) "do_same" 58 []:=d58.z
  have c59:ae P w K mg base 0 (Cl 0) "do_both" 59 []:=d59.z
  have c6:ae P w K mg base 0 (Cl 0) "flat_of" 6 []:=d6.z
  have c7:ae P w K mg base 0 (Cl 0) "worths_of" 7 []:=d7.z
  have c133:ae P w K mg base 0 (Cl 0) "wide_step" 133 []:=d133.z
  have c134:ae P w K mg base 0 (Cl 0) "reckoned" 134 []:=d134.z
  have c20:ae P w K mg base 0 (Cl 0) "_law_draw" 20 [0]:=d20.z
  have c21:ae P w K mg base 0 (Cl 0) "_law_number" 21 [0]:=d21.z
  have c24:ae P w K mg base 0 (Cl 0) "_law_alike" 24 []:=d24.z
  have c95:ae P w K mg base 0 (Cl 0) "_law_spoil" 95 []:=let ⟨_,_,F,b,m⟩:=d95.ex; ⟨_,_,_,ib F b T m 0,m,F.kp,b⟩
  have c135:ae P w K mg base 0 (Cl 0) "_law_step" 135 []:=d135.z
  ⟨c130,c42,c57,c58,c59,c6,c7,c133,c134,c20,c21,c24,c95,c135,fun _=>rfl,fun _=>rfl,fun _=>rfl,fun _=>rfl,dW t_DOINGS_single ⟨⟨_,rfl,c42⟩,⟨_,rfl,c57⟩,⟨_,rfl,c58⟩,⟨_,rfl,c59⟩,trivial⟩,dW t_WORDS_single trivial⟩
 | n + 1 =>
  have c:=all d130 d42 d57 d58 d59 d6 d7 d133 d134 d20 d21 d24 d95 d135 t_DOINGS_single t_WORDS_single T G n
  have c130:ae P w K mg base (n + 1) (Cl (n + 1)) "done" 130 []:=d130.s eM yu (A7 c T G)
  have c42:ae P w K mg base (n + 1) (Cl (n + 1)) "do_not" 42 []:=d42.s cq S42 (D42 c T G)
  have c57:ae P w K mg base (n + 1) (Cl (n + 1)) "do_less" 57 []:=d57.s bV S57 (D57 c T G)
  have c58:ae P w K mg base (n + 1) (Cl (n + 1)) "do_same" 58 []:=d58.s bT S58 (D58 c T G)
  have c59:ae P w K mg base (n + 1) (Cl (n + 1)) "do_both" 59 []:=d59.s bN S59 (D59 c T G)
  have c6:ae P w K mg base (n + 1) (Cl (n + 1)) "flat_of" 6 []:=d6.s aW S6 (D6 c T G)
  have c7:ae P w K mg base (n + 1) (Cl (n + 1)) "worths_of" 7 []:=d7.s aX S7 (D7 c T G)
  have c133:ae P w K mg base (n + 1) (Cl (n + 1)) "wide_step" 133 []:=d133.s bj x9 (Bi c T G)
  have c134:ae P w K mg base (n + 1) (Cl (n + 1)) "reckoned" 134 []:=d134.s bg zM (BC c T G)
  have c20:ae P w K mg base (n + 1) (Cl (n + 1)) "_law_draw" 20 [0]:=d20.s aP S20 (D20 c T G)
  have c21:ae P w K mg base (n + 1) (Cl (n + 1)) "_law_number" 21 [0]:=d21.s a0 S21 (D21 c T G)
  have c24:ae P w K mg base (n + 1) (Cl (n + 1)) "_law_alike" 24 []:=d24.s ak S24 (D24 c T G)
  have c95:ae P w K mg base (n + 1) (Cl (n + 1)) "_law_spoil" 95 []:=let ⟨_,_,F,b,m⟩:=d95.ex; ⟨_,_,_,ib F b T m (n + 1),m,F.kp,b⟩
  have c135:ae P w K mg base (n + 1) (Cl (n + 1)) "_law_step" 135 []:=d135.s bf zi (Bz c T G)
  ⟨c130,c42,c57,c58,c59,c6,c7,c133,c134,c20,c21,c24,c95,c135,fun ws=>M.zf_no _ ws,fun ws=>M.zf_no _ ws,fun ws=>M.zf_no _ ws,fun ws=>M.zf_no _ ws,dW t_DOINGS_single ⟨⟨_,rfl,c42⟩,⟨_,rfl,c57⟩,⟨_,rfl,c58⟩,⟨_,rfl,c59⟩,trivial⟩,dW t_WORDS_single trivial⟩
end
theorem pure_law:∀ ns:List Int,ns.length <= 63 -> ∃ m bs,Cl 40 0 [(.d,.scr ns)] = .ok ((m,.bl true),bs):=fun ns _=>P40.pure_law ns
theorem all_mk {l:PySem.W.OpenLaw} {w:World} {K:PySem.W.Frag} {h:Heap} {mg:Str -> Option Value} {fa:Addr} (X:K.In h) (G:h.Ns mainGlobals mg) (hfa:mg "law" = some (.ref fa)) (r130:Raw K "done" nO .none) (r42:Raw K "do_not" s42 .none) (r57:Raw K "do_less" s57 .none) (r58:Raw K "do_same" s58 .none) (r59:Raw K "do_both" s59 .none) (r6:Raw K "flat_of" s6 .none) (r7:Raw K "worths_of" s7 .none) (r133:Raw K "wide_step" og .none) (r134:Raw K "reckoned" pj .none) (r20:Raw K "_law_draw" s20 .none) (r21:Raw K "_law_number" s21 .none) (r24:Raw K "_law_alike" s24 .none) (r95:Raw K "_law_spoil" s95 .none) (r135:Raw K "_law_step" m9 .none) (r0:Raw K "law" s0 .none)  (q_DOINGS_single:∃ T,TabRaw K w "DOINGS_single" T /\ NamL K T bC) (q_RECKONED:∃ T,TabRaw K w "RECKONED" T /\ T.map Prod.fst = keys_RECKONED /\ CstL K tab_RECKONED T) (q_WORDS_single:∃ T,TabRaw K w "WORDS_single" T /\ T.map Prod.fst = keys_WORDS_single /\ NamL K T bS) (tx:vW K ["isinstance","int","tuple","list","bool","sum","len","all","zip","range","enumerate","any","max","min","sorted","str","repr","abs","dict","set","reversed"]) :
  ∃ fd:FuncData,(∀ (s:Shared) (v:Value),BindsTo s fd ⟨[v],[]⟩ [("script",v)]) /\ ∀ base:Heap,K.In base -> base.Ns mainGlobals mg -> FnOk l.prog w K mg base CX0 40 fa fd ["script"] (spS K (Cl 40) 0 []):=by
 have d130:Df K mg "done" nO ["piece","ins"]:=bI X G r130 fun _ _ _ _ _ _ us hl=>match us,hl with | [_,_],_=>rfl
 have d42:Df K mg "do_not" s42 ["ins"]:=bI X G r42 fun _ _ _ _ _ _ us hl=>match us,hl with | [_],_=>rfl
 have d57:Df K mg "do_less" s57 ["ins"]:=bI X G r57 fun _ _ _ _ _ _ us hl=>match us,hl with | [_],_=>rfl
 have d58:Df K mg "do_same" s58 ["ins"]:=bI X G r58 fun _ _ _ _ _ _ us hl=>match us,hl with | [_],_=>rfl
 have d59:Df K mg "do_both" s59 ["ins"]:=bI X G r59 fun _ _ _ _ _ _ us hl=>match us,hl with | [_],_=>rfl
 have d6:Df K mg "flat_of" s6 ["kind","worths"]:=bI X G r6 fun _ _ _ _ _ _ us hl=>match us,hl with | [_,_],_=>rfl
 have d7:Df K mg "worths_of" s7 ["kind","flat","many"]:=bI X G r7 fun _ _ _ _ _ _ us hl=>match us,hl with | [_,_,_],_=>rfl
 have d133:Df K mg "wide_step" og ["piece","kinds","flats","many"]:=bI X G r133 fun _ _ _ _ _ _ us hl=>match us,hl with | [_,_,_,_],_=>rfl
 have d134:Df K mg "reckoned" pj ["piece","kinds","flats","many"]:=bI X G r134 fun _ _ _ _ _ _ us hl=>match us,hl with | [_,_,_,_],_=>rfl
 have d20:Df K mg "_law_draw" s20 ["tape","many"]:=bI X G r20 fun _ _ _ _ _ _ us hl=>match us,hl with | [_,_],_=>rfl
 have d21:Df K mg "_law_number" s21 ["tape"]:=bI X G r21 fun _ _ _ _ _ _ us hl=>match us,hl with | [_],_=>rfl
 have d24:Df K mg "_law_alike" s24 ["due","found"]:=bI X G r24 fun _ _ _ _ _ _ us hl=>match us,hl with | [_,_],_=>rfl
 have d95:Df K mg "_law_spoil" s95 ["thing"]:=bI X G r95 fun _ _ _ _ _ _ us hl=>match us,hl with | [_],_=>rfl
 have d135:Df K mg "_law_step" m9 ["piece","kinds","lists","kind","due","word"]:=bI X G r135 fun _ _ _ _ _ _ us hl=>match us,hl with | [_,_,_,_,_,_],_=>rfl
 have T:=xi X G tx
 obtain ⟨_,q_DOINGS_single,qn_DOINGS_single⟩:=q_DOINGS_single
 obtain ⟨_,q_RECKONED,qk_RECKONED,qc_RECKONED⟩:=q_RECKONED
 obtain ⟨_,q_WORDS_single,qk_WORDS_single,qn_WORDS_single⟩:=q_WORDS_single
 have Gm:Glb K w mg:=⟨(ki X G q_RECKONED qk_RECKONED),(pH X G q_RECKONED qc_RECKONED),(ki X G q_WORDS_single qk_WORDS_single)⟩
 have t_DOINGS_single:=ka X G q_DOINGS_single qn_DOINGS_single
 have t_WORDS_single:=ka X G q_WORDS_single qn_WORDS_single
 exact xF X G hfa r0 (fun _ _ _ _ _ _ _ _=>.of_eq rfl) fun f fd F base=>Fun.okM F S0 rfl (by decide) (by decide) (by decide) (fun _ _ _ _ _ _ h=>D0 (all d130 d42 d57 d58 d59 d6 d7 d133 d134 d20 d21 d24 d95 d135 t_DOINGS_single t_WORDS_single T Gm 39) T Gm h) fun _=>rfl
end A40

set_option Elab.async false
set_option linter.all false
set_option maxRecDepth 100000
set_option maxHeartbeats 0
namespace H40
open PySem PySem.W TP
abbrev pr:Program:=PySem.Challenge.pw_broadrow_k40_truths_told_widely
noncomputable def tn (i:Nat):Stmt:=pr.main.body.getD i (.Pass p0)
noncomputable def rc:List Rc:=[.m,
.c,
.c,
.d,
.d,
.d,
.d,
.d,
.d,
.d,
.d,
.d,
.m,
.d,
.d,
.d,
.d,
.d,
.d,
.d,
.d,
.d,
.d,
.d,
.d,
.d,
.d,
.d,
.d,
.d,
.d,
.d,
.d,
.d,
.d,
.d,
.d,
.d,
.d,
.d,
.d,
.d,
.x "DOINGS_single" 525 (.ref 275) (fun P=>[di [en P "yes" 473 (.ref 101),en P "no" 475 (.ref 108),en P "none" 477 (.ref 115),en P "not" 479 (.ref 122),en P "first" 481 (.ref 129),en P "second" 483 (.ref 136),en P "one" 485 (.ref 143),en P "upto" 487 (.ref 150),en P "long" 489 (.ref 157),en P "sum" 491 (.ref 164),en P "sums" 493 (.ref 171),en P "most" 495 (.ref 178),en P "flat" 497 (.ref 185),en P "add" 499 (.ref 192),en P "sub" 501 (.ref 199),en P "mul" 503 (.ref 206),en P "div" 505 (.ref 213),en P "rest" 507 (.ref 220),en P "less" 508 (.ref 227),en P "same" 509 (.ref 234),en P "both" 510 (.ref 241),en P "pair" 511 (.ref 248),en P "pick" 512 (.ref 255),en P "join" 513 (.ref 262),en P "keep" 514 (.ref 267),en P "cut" 515 (.ref 274)] 26,di [en P "rest" 507 (.ref 220),en P "less" 508 (.ref 227),en P "same" 509 (.ref 234),en P "both" 510 (.ref 241),en P "pair" 511 (.ref 248),en P "pick" 512 (.ref 255),en P "join" 513 (.ref 262),en P "keep" 514 (.ref 267),en P "cut" 515 (.ref 274)] 9]) [] 277 526,
.d,
.d,
.d,
.d,
.d,
.d,
.d,
.d,
.d,
.d,
.d,
.d,
.x "WORDS_single" 637 (.ref 359) (fun P=>[di [en P "upto" 609 (.ref 283),en P "sum" 610 (.ref 290),en P "sums" 611 (.ref 290),en P "most" 612 (.ref 297),en P "flat" 613 (.ref 302),en P "add" 614 (.ref 309),en P "sub" 615 (.ref 316),en P "mul" 616 (.ref 323),en P "div" 617 (.ref 330),en P "rest" 618 (.ref 330),en P "pick" 619 (.ref 337),en P "join" 620 (.ref 344),en P "keep" 621 (.ref 351),en P "cut" 622 (.ref 358)] 14]) [] 360 638,
.m,
.x "BroadError" 657 (.ref 369) (fun P=>[tu [.type "ValueError"],⟨.type "builtin_function_or_method",none,.fields #[.builtin "type.__prepare__",.type "type"],#[]⟩,di [en P "__module__" 647 (.str "broadrow.errors" 638),en P "__qualname__" 649 (.str "BroadError" 648),en P "__firstlineno__" 651 (.int (137) 650),en P "__static_attributes__" 652 (.ref 367)] 4,tu [],fe [],cdo "BroadError" "BroadError" 642 645 137 0 0 363 false .none .none .none,⟨.type "frame",none,.plain,#[some (.ref 365),some (.ref 3),some (.ref 362),none,some (.str "broadrow.errors" 638),none,some (.ref 0)]⟩,tu [],di [en P "__module__" 647 (.str "broadrow.errors" 638),en P "__firstlineno__" 651 (.int (137) 650),en P "__static_attributes__" 652 (.ref 367),en P "__weakref__" 654 (.ref 370),en P "__doc__" 655 .none] 3,⟨.type "type",none,.cls {name:="BroadError",bases:=[.type "ValueError"],mro:=[.ref 369,.type "ValueError",.type "Exception",.type "BaseException",.type "object"],ns:=368,qualname:="BroadError",subclasses:=[.ref 389]},#[some (.ref 360),none,some (.str "BroadError" 640),some (.str "BroadError" 648),some (.builtin "ValueError.__new__"),some (.bool true)]⟩,⟨.type "getset_descriptor",none,.fields #[.str "__weakref__" 653,.ref 369,.builtin "ExceptionGroup.__weakref__",.none],#[]⟩,⟨.type "super",none,.fields #[.ref 369,.ref 369,.ref 369],#[]⟩,⟨.type "builtin_function_or_method",none,.fields #[.builtin "object.__init_subclass__",.ref 369],#[]⟩]) [iv 137,iv 0,.ref 365] 373 658,
.x "NoThing" 682 (.ref 389) (fun P=>[tu [.ref 369],⟨.type "builtin_function_or_method",none,.fields #[.builtin "type.__prepare__",.type "type"],#[]⟩,di [en P "__module__" 665 (.str "broadrow.errors" 638),en P "__qualname__" 667 (.str "NoThing" 666),en P "__firstlineno__" 669 (.int (139) 668),en P "__init__" 677 (.ref 386),en P "__static_attributes__" 679 (.ref 387)] 5,tu [],fe [iv 141,iv 4,.ref 385],cdo "NoThing" "NoThing" 660 663 139 0 0 376 false .none .none .none,⟨.type "frame",none,.plain,#[some (.ref 378),some (.ref 3),some (.ref 375),none,some (.str "broadrow.errors" 638),none,some (.ref 0)]⟩,tu [],fe [],tu [.str "self" 673,.str "number" 674],tu [],ofn .none (cb (tn 58) 0) "NoThing.__init__" 0 .none .none .none,cdo "__init__" "NoThing.__init__" 670 675 141 2 3 380 true (.ref 382) (.ref 383) (.ref 384),ofn (.type "function") (cb (tn 58) 0) "NoThing.__init__" 3 .none (.str "broadrow.errors" 638) (.ref 385),tu [.str "number" 678],di [en P "__module__" 665 (.str "broadrow.errors" 638),en P "__firstlineno__" 669 (.int (139) 668),en P "__init__" 677 (.ref 386),en P "__static_attributes__" 679 (.ref 387),en P "__doc__" 680 .none] 2,⟨.type "type",none,.cls {name:="NoThing",bases:=[.ref 369],mro:=[.ref 389,.ref 369,.type "ValueError",.type "Exception",.type "BaseException",.type "object"],ns:=388,qualname:="NoThing"},#[some (.ref 373),none,some (.str "NoThing" 658),some (.str "NoThing" 666),some (.builtin "ValueError.__new__"),some (.bool true)]⟩,⟨.type "super",none,.fields #[.ref 389,.ref 389,.ref 389],#[]⟩,⟨.type "builtin_function_or_method",none,.fields #[.builtin "object.__init_subclass__",.ref 389],#[]⟩]) [iv 139,iv 0,.ref 378] 392 683,
.m,
.d,
.d,
.d,
.d,
.m,
.d,
.d,
.d,
.d,
.d,
.d,
.d,
.m,
.x "RECKONED" 830 (.ref 463) (fun P=>[di [en P "not" 789 (.ref 464),en P "upto" 791 (.ref 466),en P "sum" 794 (.ref 467),en P "sums" 796 (.ref 469),en P "most" 799 (.ref 470),en P "add" 801 (.ref 471),en P "sub" 803 (.ref 472),en P "mul" 805 (.ref 473),en P "div" 807 (.ref 474),en P "rest" 809 (.ref 475),en P "less" 811 (.ref 476),en P "same" 813 (.ref 477),en P "both" 815 (.ref 478)] 13,tu [.str "truth" 790],tu [.str "num" 793],tu [.str "row" 792,.ref 465],tu [.str "num" 795],tu [.str "num" 798],tu [.str "row" 797,.ref 468],tu [.str "num" 800],tu [.str "num" 802],tu [.str "num" 804],tu [.str "num" 806],tu [.str "num" 808],tu [.str "num" 810],tu [.str "truth" 812],tu [.str "truth" 814],tu [.str "truth" 816]]) [] 479 831,
.d,
.d,
.d,
.d,
.d,
.d,
.d,
.d,
.x "WORDS_wide" 894 (.ref 521) (fun P=>[di [en P "flat" 884 (.ref 500),en P "pick" 885 (.ref 505),en P "join" 886 (.ref 510),en P "keep" 887 (.ref 515),en P "cut" 888 (.ref 520)] 5]) [] 522 895,
.d,
.d,
.d,
.d,
.d,
.d,
.d,
.d,
.d,
.d,
.d,
.x "DOINGS_wide" 1003 (.ref 593) (fun P=>[di [en P "first" 983 (.ref 535),en P "second" 984 (.ref 542),en P "one" 985 (.ref 549),en P "long" 986 (.ref 556),en P "flat" 987 (.ref 561),en P "pair" 988 (.ref 568),en P "pick" 989 (.ref 575),en P "join" 990 (.ref 580),en P "keep" 991 (.ref 585),en P "cut" 992 (.ref 592)] 10]) [] 594 1004,
.m,
.d,
.d,
.d,
.d,
.d,
.d]
theorem c0 (w:World):Cut pr rc 0 15 187 p0 26 679 165 357 ⟨68,0,69,22⟩ w:=fun o=>by kernel_rfl
theorem c26 (w:World):Cut pr rc 26 165 357 ⟨68,0,69,22⟩ 16 467 275 473 ⟨108,0,109,34⟩ w:=fun o=>by kernel_rfl
theorem c42 (w:World):Cut pr rc 42 275 473 ⟨108,0,109,34⟩ 1 488 277 526 ⟨110,0,110,13⟩ w:=byRow2 (P:=Cut pr rc 42 275 473 ⟨108,0,109,34⟩ 1 488 277 526 ⟨110,0,110,13⟩) "special-get-raises" (fun w o=>by kernel_rfl) (fun w o=>by kernel_rfl) w
theorem c43 (w:World):Cut pr rc 43 277 526 ⟨110,0,110,13⟩ 12 346 359 609 ⟨133,0,134,40⟩ w:=fun o=>by kernel_rfl
theorem c55 (w:World):Cut pr rc 55 359 609 ⟨133,0,134,40⟩ 1 235 360 638 ⟨135,0,135,12⟩ w:=byRow2 (P:=Cut pr rc 55 359 609 ⟨133,0,134,40⟩ 1 235 360 638 ⟨135,0,135,12⟩) "special-get-raises" (fun w o=>by kernel_rfl) (fun w o=>by kernel_rfl) w
theorem c56 (w:World):Cut pr rc 56 360 638 ⟨135,0,135,12⟩ 1 10 360 640 ⟨136,0,136,8⟩ w:=fun o=>by kernel_rfl
theorem c57 (w:World):Cut pr rc 57 360 640 ⟨136,0,136,8⟩ 2 432 392 683 ⟨139,0,143,28⟩ w:=fun o=>by kernel_rfl
theorem c59 (w:World):Cut pr rc 59 392 683 ⟨139,0,143,28⟩ 14 364 463 789 ⟨217,0,217,8⟩ w:=fun o=>by kernel_rfl
theorem c73 (w:World):Cut pr rc 73 463 789 ⟨217,0,217,8⟩ 1 238 479 831 ⟨218,0,218,8⟩ w:=byRow2 (P:=Cut pr rc 73 463 789 ⟨217,0,217,8⟩ 1 238 479 831 ⟨218,0,218,8⟩) "special-get-raises" (fun w o=>by kernel_rfl) (fun w o=>by kernel_rfl) w
theorem c74 (w:World):Cut pr rc 74 479 831 ⟨218,0,218,8⟩ 8 216 521 884 ⟨250,0,251,112⟩ w:=fun o=>by kernel_rfl
theorem c82 (w:World):Cut pr rc 82 521 884 ⟨250,0,251,112⟩ 1 91 522 895 ⟨252,0,252,10⟩ w:=byRow2 (P:=Cut pr rc 82 521 884 ⟨250,0,251,112⟩ 1 91 522 895 ⟨252,0,252,10⟩) "special-get-raises" (fun w o=>by kernel_rfl) (fun w o=>by kernel_rfl) w
theorem c83 (w:World):Cut pr rc 83 522 895 ⟨252,0,252,10⟩ 11 325 593 983 ⟨290,0,291,52⟩ w:=fun o=>by kernel_rfl
theorem c94 (w:World):Cut pr rc 94 593 983 ⟨290,0,291,52⟩ 1 171 594 1004 ⟨292,0,292,11⟩ w:=byRow2 (P:=Cut pr rc 94 593 983 ⟨290,0,291,52⟩ 1 171 594 1004 ⟨292,0,292,11⟩) "special-get-raises" (fun w o=>by kernel_rfl) (fun w o=>by kernel_rfl) w
theorem c95 (w:World):Cut pr rc 95 594 1004 ⟨292,0,292,11⟩ 7 184 630 1054 ⟨360,0,387,69⟩ w:=fun o=>by kernel_rfl
theorem ch:Ch pr rc 102 630 1054 0 15 187 p0 (679 + (467 + (488 + (346 + (235 + (10 + (432 + (364 + (238 + (216 + (91 + (325 + (171 + (184 + (2))))))))))))))):=aO c0 ( aO c26 ( aO c42 ( aO c43 ( aO c55 ( aO c56 ( aO c57 ( aO c59 ( aO c73 ( aO c74 ( aO c82 ( aO c83 ( aO c94 ( aO c95 (uo (by kernel_rfl)))))))))))))))
noncomputable def q:Program:=view pr [101]
noncomputable def lo:List Str:=(["GREATEST","LONGEST","great_word","sums_word","nought_word","beyond_word","empty_word","upto_word","long_word","keep_word","cut_word","done","own_copy","in_rows","do_yes","do_no","do_none","do_not","do_first","do_second","do_one","do_upto","do_long","do_sum","do_sums","do_most","do_flat","do_add","do_sub","do_mul","do_div","do_rest","do_less","do_same","do_both","do_pair","do_pick","do_join","do_keep","do_cut","DOINGS_single","word_of_upto","word_of_sum","word_of_most","word_of_flat","word_of_add","word_of_sub","word_of_mul","word_of_div","word_of_pick","word_of_join","word_of_keep","word_of_cut","WORDS_single","BroadError","NoThing","flat_of","worths_of","many_in","parted","taken","taken_there","things_of","behind","kept","merged","first_ones","RECKONED","wide_step","reckoned","first_stop","flat_words","pick_words","join_words","keep_words","cut_words","WORDS_wide","laid_anew","wide_first","wide_second","wide_one","wide_long","wide_flat","wide_pair","wide_pick","wide_join","wide_keep","wide_cut","DOINGS_wide","_law_draw","_law_number","_law_alike","_law_spoil","_law_step"]:List String).map Str.ofString
noncomputable def as:List Addr:=[3,20,21,27,28,34,35,41,42,48,49,55,56,62,63,69,70,74,75,81,82,86,87,93,94,100,101,107,108,114,115,121,122,128,129,135,136,142,143,149,150,156,157,163,164,170,171,177,178,184,185,191,192,198,199,205,206,212,213,219,220,226,227,233,234,240,241,247,248,254,255,261,262,266,267,273,274,275,282,283,289,290,296,297,301,302,308,309,315,316,322,323,329,330,336,337,343,344,350,351,357,358,359,369,389,395,396,402,403,409,410,416,417,423,424,428,429,435,436,442,443,447,448,454,455,461,462,463,464,465,466,467,468,469,470,471,472,473,474,475,476,477,478,482,483,487,488,494,495,499,500,504,505,509,510,514,515,519,520,521,527,528,534,535,541,542,548,549,555,556,560,561,567,568,574,575,579,580,584,585,591,592,593,599,600,606,607,611,612,618,619,623,624,628,629]
noncomputable def K:Params -> Frag:=kK pr rc 102 as
noncomputable def hk:Hook:=hkk pr rc 102 630
noncomputable abbrev Xt (s:Shared):Bool:=xlAt q [] s && recOk (RowW.records (OpenRow.toRowW (OpenLaw.row PySem.Challenge.rw_broadrow_k40_truths_told_widely))) s
theorem kin (w:World) (h:Heap) (Y:hk.says w h):(K w.params).In h:=BK (by kernel_rfl) (by kernel_rfl) Y
theorem lk (w:World):(fun o=>((staticsOk (importedModules pr.main.body) (boot_heap w.params) (hp pr rc 102 630 w.params) && namesBound pr (hp pr rc 102 630 w.params) && gensDone ⟨hp pr rc 102 630 w.params,#[],{},1054,o⟩ && laidKept (boot_heap w.params) (hp pr rc 102 630 w.params)),openSeen q lo (importedModules pr.main.body) Xt true ⟨hp pr rc 102 630 w.params,#[],{},1054,o⟩,Hook.obs hk ⟨hp pr rc 102 630 w.params,#[],{},1054,o⟩)) = fun _=>(true,openGood q lo,Hook.val hk w):=by kernel_rfl
theorem e1:opening pr = plainProg pr.main.scope.names:=by kernel_rfl
theorem e2:behindTheImports pr = pr.main.body:=by kernel_rfl
theorem e3 (s:Shared):fenceModules? pr s = some s:=by kernel_rfl
theorem pre (w:World) (o:OsState):topGo treeTable pr w 11 an 12 ⟨boot_heap w.params,Array.mk [],boot_drawn,boot_toks,o⟩ (topStub pr) = some ((sT pr rc w.params 0 15 187 o).abs,⟨denote treeTable (cE pr),cE pr,p0,B0⟩):=by kernel_rfl
theorem blk (w:World) (o:OsState):segRun treeTable pr w 11 an 1 1 (sT pr rc w.params 0 15 187 o).abs (blockOf (behindTheImports pr) (ev pr) (cE pr) p0 B0) = some (.next,(sT pr rc w.params 0 15 187 o).abs,cE pr,p0):=by kernel_rfl
theorem left:LeftO pr q lo Xt (Hook.obs hk) (Hook.val hk) 8590:=rE e1 (by kernel_rfl) e3 e2 qw pre blk ch (by kernel_rfl) lk
end H40

set_option Elab.async false
set_option linter.all false
set_option maxRecDepth 100000
set_option maxHeartbeats 4000000
open PySem PySem.W PyProof.Rows
set_option maxRecDepth 100000 in
set_option maxHeartbeats 0 in
theorem PySem.Challenge.cw_broadrow_k40_truths_told_widely_holds : PySem.Challenge.rw_broadrow_k40_truths_told_widely.Holds := by
 w_on; o_law
 refine holds_open (q:=H40.q) (loose:=H40.lo) (Xt:=H40.Xt) (XP:=XL H40.q []) (Yf:=Hook.obs H40.hk) (Ya:=Hook.val H40.hk) (YP:=Hook.says H40.hk) (N:=8590) (d:=TP.drec (H40.tn 101)) (kwd:=[]) H40.left (Hook.of H40.hk) (Hook.keeps H40.hk) (fun s e=>xl_of s (Bool.and_eq_true_iff.mp e).1) XL.keeps (by kernel_rfl) (by kernel_rfl) (by kernel_rfl) (fun s e=>recFacts_of (Bool.and_eq_true_iff.mp e).2) (by rfl) (by first | assumption | decide +kernel) (by decide +kernel) ⟨rfl,rfl,rfl,rfl,rfl,by decide +kernel⟩ ?hw ?hc
 case hw=>w_witness2
 refine MR.walkM (l:=PySem.Challenge.rw_broadrow_k40_truths_told_widely) (k:=40) (C:=A40.Cl 40) (ix:=0) (K:=H40.K) A40.pure_law rfl (by kernel_rfl) ⟨rfl,by decide,by decide⟩ H40.kin ?F
 case F =>
  intro w mg fa h KX G hmg
  refine' A40.all_mk KX G hmg ?zr130 ?zr42 ?zr57 ?zr58 ?zr59 ?zr6 ?zr7 ?zr133 ?zr134 ?zr20 ?zr21 ?zr24 ?zr95 ?zr135 ?zr0  ?zq_DOINGS_single ?zq_RECKONED ?zq_WORDS_single ?ztx
  case zq_DOINGS_single=>exact ⟨_,TP.tab_mk (by kernel_rfl) (by kernel_rfl) (by kernel_rfl) (by kernel_rfl),TP.nam_of (by kernel_rfl)⟩
  case zq_RECKONED=>exact ⟨_,TP.tab_mk (by kernel_rfl) (by kernel_rfl) (by kernel_rfl) (by kernel_rfl),by kernel_rfl,TP.cst_of (n:=9) (by kernel_rfl)⟩
  case zq_WORDS_single=>exact ⟨_,TP.tab_mk (by kernel_rfl) (by kernel_rfl) (by kernel_rfl) (by kernel_rfl),by kernel_rfl,TP.nam_of (by kernel_rfl)⟩
  case ztx=>refine' ⟨?_,?_,?_,?_,?_,?_,?_,?_,?_,?_,?_,?_,?_,?_,?_,?_,?_,?_,?_,?_,?_,trivial⟩ <;> kernel_rfl
  all_goals exact TP.raw_mk (by kernel_rfl) (by kernel_rfl) (by kernel_rfl) (by kernel_rfl)
