import PyProof.Rows.All
import Wide.All
import OpenK.AllK
import Wide.FinOn
import Lean
import PyProof.EqAt
import PyProof.EqKinds
import PyProof.TupleCall
import PySem.Challenge.RW_broadrow_k38_whole_flats_go_as_their_wor
set_option Elab.async false
set_option linter.all false
set_option maxRecDepth 100000
namespace L2
open PySem PySem.Spec PyProof.Rows
abbrev Key:=Sum Int Str
def vR:Key -> Value -> Bool
 | .inl k,v=>Value.isInt k v
 | .inr x,v=>Value.isStrOf x v
def Cw (w:World):Key -> Int
 | .inl k=>hashInt k
 | .inr x=>hashStr w x
theorem aN:∀ {k:Key} {v:Value},vR k v = true -> (∃ i t,k = Sum.inl i /\ v = Value.int i t) \/ (∃ x t,k = Sum.inr x /\ v = Value.str x t)
 | .inl i,v,h=>by
  obtain ⟨t,e⟩:=Value.isInt_shape (k:=i) (v:=v) h
  exact .inl ⟨i,t,rfl,e⟩
 | .inr x,v,h=>by
  obtain ⟨t,e⟩:=Value.isStrOf_shape (x:=x) (v:=v) h
  exact .inr ⟨x,t,rfl,e⟩
theorem wH (a b:Int):decide ((Sum.inl a:Key) = Sum.inl b) = (a == b):=by
 by_cases e:a = b
 ·subst e; simp
 ·have h:¬ (Sum.inl a:Key) = Sum.inl b:=fun q=>e (Sum.inl.inj q)
  rw [decide_eq_false h]
  exact (beq_eq_false_iff_ne.mpr e).symm
theorem vW (a b:Str):decide ((Sum.inr a:Key) = Sum.inr b) = decide (a = b):=by
 by_cases e:a = b
 ·subst e; simp
 ·have h:¬ (Sum.inr a:Key) = Sum.inr b:=fun q=>e (Sum.inr.inj q)
  rw [decide_eq_false h,decide_eq_false e]
theorem wo (a:Int) (b:Str):decide ((Sum.inl a:Key) = Sum.inr b) = false:=decide_eq_false (fun q=>nomatch q)
theorem v5 (a:Str) (b:Int):decide ((Sum.inr a:Key) = Sum.inl b) = false:=decide_eq_false (fun q=>nomatch q)
def jd (prog:Program) (w:World):PySem.KeyKind prog w Key where
 is:=vR
 hash:=Cw w
 inj:=fun v a b ha hb=>by
  rcases aN ha with ⟨i,t,rfl,rfl⟩ | ⟨x,t,rfl,rfl⟩
  ·rcases aN hb with ⟨j,u,rfl,e⟩ | ⟨y,u,rfl,e⟩
   ·injection e with e1 _; rw [e1]
   ·exact nomatch e
  ·rcases aN hb with ⟨j,u,rfl,e⟩ | ⟨y,u,rfl,e⟩
   ·exact nomatch e
   ·injection e with e1 _; rw [e1]
 byValue:=fun k v h=>by
  rcases aN h with ⟨i,t,rfl,rfl⟩ | ⟨x,t,rfl,rfl⟩ <;> rfl
 pyHash:=fun hv h=>by
  rcases aN hv with ⟨i,t,rfl,rfl⟩ | ⟨x,t,rfl,rfl⟩
  ·exact wpAny_pyHash_int h
  ·exact wpAny_pyHash_str h
 eqBool:=fun hu hv h=>by
  rcases aN hu with ⟨i,t,rfl,rfl⟩ | ⟨x,t,rfl,rfl⟩
  ·rcases aN hv with ⟨j,u,rfl,rfl⟩ | ⟨y,u,rfl,rfl⟩
   ·rw [wH] at h; exact wpAny_eqBool_int h
   ·rw [wo] at h; exact SeqAt.EqAt.int_str i t y u _ _ _ _ h
  ·rcases aN hv with ⟨j,u,rfl,rfl⟩ | ⟨y,u,rfl,rfl⟩
   ·rw [v5] at h; exact SeqAt.EqAt.str_int x t j u _ _ _ _ h
   ·rw [vW] at h; exact wpAny_eqBool_str h
 «strs»:=fun k x t v h=>by
  rcases aN h with ⟨i,u,rfl,e⟩ | ⟨y,u,rfl,e⟩
  ·exact nomatch e
  ·injection e with e1 _
   subst e1
   cases v <;> rfl
end L2
namespace L2
open PySem PySem.Spec PyProof.Rows
inductive V where
 | non | bl (b:Bool) | int (i:Int) | str (x:Str) | byt (b:Array UInt8) | flt (b:UInt64) | ref (a:Addr) | ty (n:String)
 deriving DecidableEq
def RelV:V -> Value -> Prop
 | .non,u=>u = Value.none
 | .bl b,u=>u = Value.bool b
 | .int i,u=>∃ t,u = Value.int i t
 | .str x,u=>∃ t,u = Value.str x t
 | .byt b,u=>∃ t,u = Value.bytes b t
 | .flt b,u=>∃ t,u = Value.float b t
 | .ref a,u=>u = Value.ref a
 | .ty n,u=>u = Value.type n
abbrev Vals:List V -> List Value -> Prop:=Paired RelV
theorem Vals.length {xs:List V} {us:List Value} (r:Vals xs us):xs.length = us.length:=Paired.length r
theorem Vals.get:∀ {xs:List V} {us:List Value} {i:Nat} {x:V},Vals xs us -> xs[i]? = some x -> ∃ u,us[i]? = some u /\ RelV x u
 | _,_,_,_,.nil,e=>by simp at e
 | _,_,0,_,.cons r _,e=>by simp at e; subst e; exact ⟨_,rfl,r⟩
 | _,_,i + 1,x,.cons _ t,e=>by
  obtain ⟨u,h1,h2⟩:=Vals.get (i:=i) (x:=x) t (by simpa using e)
  exact ⟨u,by simpa using h1,h2⟩
theorem Vals.set {x:V} {u:Value} (r:RelV x u):∀ {xs:List V} {us:List Value} (i:Nat),Vals xs us -> Vals (xs.set i x) (us.set i u)
 | _,_,_,.nil=>.nil
 | _,_,0,.cons _ t=>.cons r t
 | _,_,i + 1,.cons q t=>.cons q (Vals.set r i t)
theorem Vals.append:∀ {xs ys:List V} {us ws:List Value},Vals xs us -> Vals ys ws -> Vals (xs ++ ys) (us ++ ws)
 | _,_,_,_,.nil,s=>s
 | _,_,_,_,.cons r t,s=>.cons r (Vals.append t s)
theorem Vals.take:∀ {xs:List V} {us:List Value} (n:Nat),Vals xs us -> Vals (xs.take n) (us.take n)
 | _,_,0,_=>.nil
 | _,_,_ + 1,.nil=>.nil
 | _,_,n + 1,.cons r t=>.cons r (Vals.take n t)
theorem Vals.drop:∀ {xs:List V} {us:List Value} (n:Nat),Vals xs us -> Vals (xs.drop n) (us.drop n)
 | _,_,0,r=>r
 | _,_,_ + 1,.nil=>.nil
 | _,_,n + 1,.cons _ t=>Vals.drop n t
def yY:Option V -> Option Value -> Prop
 | some v,some u=>RelV v u
 | none,none=>True
 | _,_=>False
def KV {κ:Type}:List (κ × V) -> List (κ × Value) -> Prop:=Paired fun (p:κ × V) (q:κ × Value)=>p.1 = q.1 /\ RelV p.2 q.2
def kV:Key -> V
 | .inl i=>.int i
 | .inr x=>.str x
inductive HO where
 | lst (xs:List V)
 | tup (xs:List V)
 | dK (kvs:List (Key × V)) | dT (kvs:List (List Key × V))
 | set (S:Int -> Bool) (n:Nat)
 | ins (C dx:Addr) (fs:List (Str × V))
 | own (x:Addr)
 | xd (fs:List (Str × V))
 | met (f x:Addr)
 | rng (lo hi:Int)
 | frz (o:Obj) (u:HO)
 | tbl (ps:Array Value)
 | ext (φ:Heap -> Prop)
abbrev Hp:=Addr -> Option HO
def upd (H:Hp) (a:Addr) (o:HO):Hp:=fun b=>if b = a then some o else H b
theorem ao {H:Hp} {a:Addr} {o:HO}:upd H a o a = some o:=by unfold upd; rw [if_pos rfl]
theorem ag {H:Hp} {a b:Addr} {o:HO} (h:b ≠ a):upd H a o b = H b:=by unfold upd; rw [if_neg h]
theorem aE {H:Hp} {a b:Addr} {o:HO} (h:H a = some o) (h':H b = none):a ≠ b:=by
 intro e; subst e; rw [h] at h'; cases h'
section
variable (P:Program) (w:World)
def ObjOk (H:Hp) (h:Heap) (a:Addr):HO -> Prop
 | .lst xs=>xs.length <= sizeLine /\ ∃ (its:List Value) (n:Nat),Vals xs its /\ h.get? a = some { cls:=.type "list",data:=.seq its.toArray n }
 | .tup xs=>xs.length <= sizeLine /\ ∃ its:List Value,Vals xs its /\ IsTup h a its.toArray
 | .dK kvs=>kvs.length <= sizeLine /\ (a == sysModules) = false /\ ∃ vs,KV kvs vs /\ h.DictOf (jd P w) a vs
 | .dT kvs=>kvs.length <= sizeLine /\ (a == sysModules) = false /\ ∃ xs:List (List Key × Addr × Value),
   Paired (fun (p:List Key × V) (q:List Key × Addr × Value)=>p.1 = q.1 /\ H q.2.1 = some (.tup (p.1.map kV)) /\ RelV p.2 q.2.2) kvs xs /\
   ∃ o es ep,h.get? a = some o /\ o.ExactDict /\ o.data = .dict es ep /\ es.toList = xs.map (entryOfKey (tupleKind (jd P w))) /\ (xs.map (·.1)).Nodup
 | .set S n=>h.SetOf (intKind P w) a S n
 | .ins C dx fs=>H dx = some (.own a) /\ fs.length <= 1000 /\ dx ≠ a /\ h.get? a = some (PySem.W.instObj C dx) /\
   ∃ mA,h.Ns1 dx mA /\ (∀ f,yY (fs.lookup f) (mA f)) /\ PySem.Within mA (fs.map (·.1))
 | .own _=>∃ o,h.get? a = some o
 | .xd fs=>∃ mA,h.Ns1 a mA /\ ∀ f,yY (fs.lookup f) (mA f)
 | .rng lo hi=>∃ t u v,h.get? a = some { cls:=.type "range",data:=.fields #[.int lo t,.int hi u,.int 1 v] }
 | .frz o u=>h.get? a = some o /\ ObjOk H h a u
 | .tbl ps=>h.get? a = some { cls:=.none,data:=.fields ps }
 | .met f x=>h.get? a = some (PySem.W.methodObj (.ref f) (.ref x))
 | .ext φ=>φ h /\ (∃ o,h.get? a = some o) /\ ∀ h1 h2:Heap,φ h1 -> (∀ o,h1.get? a = some o -> h2.get? a = some o) -> φ h2
def HOk (H:Hp) (h:Heap):Prop:=∀ a o,H a = some o -> ObjOk P w H h a o
end
section
variable {P:Program} {w:World} {H H':Hp} {h h':Heap} {a:Addr} {o:HO}
theorem ObjOk.lt (x:ObjOk P w H h a o):a < h.objs.size:=by
 cases o with
 | lst xs=>obtain ⟨_,_,_,_,e⟩:=x; exact Heap.lt_size e
 | tup xs=>obtain ⟨_,_,_,p⟩:=x; exact p.lt
 | dK kvs=>obtain ⟨_,_,_,_,o,_,_,e,_⟩:=x; exact Heap.lt_size e
 | dT kvs=>obtain ⟨_,_,_,_,o,_,_,e,_⟩:=x; exact Heap.lt_size e
 | set S n=>obtain ⟨o,_,_,_,e,_⟩:=x; exact Heap.lt_size e
 | ins C dx fs=>obtain ⟨_,_,_,e,_⟩:=x; exact Heap.lt_size e
 | own y=>obtain ⟨_,e⟩:=x; exact Heap.lt_size e
 | xd fs=>obtain ⟨_,⟨_,_,_,e,_⟩,_⟩:=x; exact Heap.lt_size e
 | rng lo hi=>obtain ⟨_,_,_,e⟩:=x; exact Heap.lt_size e
 | frz ob u=>obtain ⟨e,_⟩:=x; exact Heap.lt_size e
 | tbl ps=>exact Heap.lt_size (show h.get? a = some _ from x)
 | met f y=>exact Heap.lt_size (show h.get? a = some _ from x)
 | ext φ=>obtain ⟨_,⟨_,e⟩,_⟩:=x; exact Heap.lt_size e
theorem Paired.mapP {α β:Type} {F G:α -> β -> Prop}:∀ {l₁:List α} {l₂:List β},Paired F l₁ l₂ -> (∀ a b,F a b -> G a b) -> Paired G l₁ l₂
 | _,_,.nil,_=>.nil
 | _,_,.cons r t,f=>.cons (f _ _ r) (Paired.mapP t f)
theorem ObjOk.stay (x:ObjOk P w H h a o) (k:∀ b u,(b = a \/ H b = some (.own a)) -> h.get? b = some u -> h'.get? b = some u)
  (ho:∀ b,H b = some (.own a) -> H' b = some (.own a)) (ht:∀ b xs,H b = some (.tup xs) -> H' b = some (.tup xs)):ObjOk P w H' h' a o:=by
 induction o with
 | lst xs=>obtain ⟨z,its,n,r,e⟩:=x; exact ⟨z,its,n,r,k _ _ (.inl rfl) e⟩
 | tup xs=>obtain ⟨z,its,r,ob,e,c⟩:=x; exact ⟨z,its,r,ob,k _ _ (.inl rfl) e,c⟩
 | dK kvs=>obtain ⟨z,y,vs,r,ob,es,ep,e,c⟩:=x; exact ⟨z,y,vs,r,ob,es,ep,k _ _ (.inl rfl) e,c⟩
 | dT kvs =>
  obtain ⟨z,y,xs,r,ob,es,ep,e,c⟩:=x
  exact ⟨z,y,xs,Paired.mapP r fun p q z=>⟨z.1,ht _ _ z.2.1,z.2.2⟩,ob,es,ep,k _ _ (.inl rfl) e,c⟩
 | set S n=>obtain ⟨ob,es,ep,t,e,c⟩:=x; exact ⟨ob,es,ep,t,k _ _ (.inl rfl) e,c⟩
 | ins C dx fs =>
  obtain ⟨d,z,ne,e,mA,⟨od,es,ep,e2,c⟩,r⟩:=x
  exact ⟨ho _ d,z,ne,k _ _ (.inl rfl) e,mA,⟨od,es,ep,k _ _ (.inr d) e2,c⟩,r⟩
 | own y=>obtain ⟨ob,e⟩:=x; exact ⟨ob,k _ _ (.inl rfl) e⟩
 | xd fs=>obtain ⟨mA,⟨od,es,ep,e,c⟩,r⟩:=x; exact ⟨mA,⟨od,es,ep,k _ _ (.inl rfl) e,c⟩,r⟩
 | rng lo hi=>obtain ⟨t,u,v,e⟩:=x; exact ⟨t,u,v,k _ _ (.inl rfl) e⟩
 | frz ob u ih=>obtain ⟨e,q⟩:=x; exact ⟨k _ _ (.inl rfl) e,ih q⟩
 | tbl ps =>
  have e:h.get? a = some { cls:=.none,data:=.fields ps }:=x
  show h'.get? a = some { cls:=.none,data:=.fields ps }
  exact k a _ (.inl rfl) e
 | met f y =>
  have e:h.get? a = some (PySem.W.methodObj (.ref f) (.ref y)):=x
  show h'.get? a = some (PySem.W.methodObj (.ref f) (.ref y))
  exact k a _ (.inl rfl) e
 | ext φ=>obtain ⟨p,⟨o,e⟩,st⟩:=x; exact ⟨st _ _ p fun o q=>k _ _ (.inl rfl) q,⟨o,k _ _ (.inl rfl) e⟩,st⟩
theorem HOk.lt (x:HOk P w H h) (e:H a = some o):a < h.objs.size:=(x a o e).lt
theorem HOk.fresh (x:HOk P w H h) (e:h.objs.size <= a):H a = none:=by
 cases q:H a with
 | none=>rfl
 | some u=>exact absurd (Nat.lt_of_lt_of_le (x.lt q) e) (Nat.lt_irrefl _)
theorem HOk.kept (x:HOk P w H h) (k:∀ b u,h.get? b = some u -> h'.get? b = some u):HOk P w H h':=fun a o e =>
 (x a o e).stay (fun b u _ q=>k b u q) (fun _ q=>q) fun _ _ q=>q
theorem HOk.laid (x:HOk P w H h) (k:∀ b u,h.get? b = some u -> h'.get? b = some u) (hp:h.objs.size <= a) (new:ObjOk P w (upd H a o) h' a o):HOk P w (upd H a o) h':=fun b u e=>by
 have hn:=x.fresh hp
 by_cases hb:b = a
 ·subst hb; rw [ao] at e; cases e; exact new
 ·rw [ag hb] at e
  exact (x b u e).stay (fun c v _ q=>k c v q) (fun c q=>by rw [ag (aE q hn)]; exact q) fun c xs q=>by rw [ag (aE q hn)]; exact q
end
def Rd (H:Hp) (a:Addr) (u:HO):Prop:=H a = some u \/ ∃ o,H a = some (.frz o u)
theorem Rd.ok {P:Program} {w:World} {H:Hp} {h:Heap} {a:Addr} {u:HO} (r:Rd H a u) (x:HOk P w H h):ObjOk P w H h a u:=by
 rcases r with r | ⟨o,r⟩
 ·exact x a u r
 ·obtain ⟨_,q⟩:=x a _ r
  exact q
def Mut:Option HO -> Prop
 | some (.lst _)=>True
 | some (.dK _)=>True
 | some (.dT _)=>True
 | some (.set _ _)=>True
 | some (.ins _ _ _)=>True
 | some (.ext _)=>True
 | _=>False
section
variable {P:Program} {w:World} {H:Hp} {h h':Heap} {x e:Addr} {o':HO}
theorem HOk.write (ok:HOk P w H h) (mu:Mut (H x)) (he:e = x \/ H e = some (.own x)) (k:∀ b u,b ≠ e -> h.get? b = some u -> h'.get? b = some u) (heo:∃ u,h'.get? e = some u)
  (new:ObjOk P w (upd H x o') h' x o'):HOk P w (upd H x o') h':=fun b u q=>by
 have nown:∀ c y,H c = some (.own y) -> c ≠ x:=fun c y r z=>by subst z; rw [r] at mu; exact mu
 have ntup:∀ c xs,H c = some (.tup xs) -> c ≠ x:=fun c xs r z=>by subst z; rw [r] at mu; exact mu
 by_cases hb:b = x
 ·subst hb; rw [ao] at q; cases q; exact new
 ·rw [ag hb] at q
  by_cases hbe:b = e
  ·have q':H b = some (.own x):=by
    rcases he with z | z
    ·exact absurd (hbe.trans z) hb
    ·rw [hbe]; exact z
   rw [q] at q'; cases q'
   obtain ⟨v,hv⟩:=heo
   exact ⟨v,by rw [hbe]; exact hv⟩
  ·refine (ok b u q).stay (fun c v hc r=>k c v ?_ r) (fun c r=>by rw [ag (nown c b r)]; exact r) fun c xs r=>by rw [ag (ntup c xs r)]; exact r
   rcases hc with rfl | hc
   ·exact hbe
   ·rintro rfl
    rcases he with z | z
    ·exact nown c b hc z
    ·rw [hc] at z; cases z; exact hb rfl
end
structure Un (fs ex:List Addr) (H H':Hp) (h h':Heap):Prop where
 keep:∀ b o,h.get? b = some o -> H b = none -> b ∉ fs -> b ∉ ex -> h'.get? b = some o
 slot:∀ b o,h.get? b = some o -> H b = none -> b ∈ fs -> b ∉ ex -> ∃ sl,h'.get? b = some { o with slots:=sl }
 free:∀ b o,h.get? b = some o -> H b = none -> b ∉ ex -> H' b = none
 there:∀ b o,h.get? b = some o -> b ∉ ex -> ∃ o',h'.get? b = some o'
 tups:∀ b xs,H b = some (.tup xs) -> H' b = some (.tup xs)
 frzs:∀ b o u,H b = some (.frz o u) -> H' b = some (.frz o u)
 tbls:∀ b ps,H b = some (.tbl ps) -> ∃ more,H' b = some (.tbl (ps ++ more))
section
variable {fs fs' ex ex':List Addr} {H H1 H2:Hp} {h h1 h2 h':Heap} {a x e:Addr} {o:HO}
theorem Un.any (u:Un fs ex H H1 h h1) {b:Addr} {ob:Obj} (q:h.get? b = some ob) (n:H b = none) (hx:b ∉ ex):∃ sl,h1.get? b = some { ob with slots:=sl }:=by
 by_cases hb:b ∈ fs
 ·exact u.slot b ob q n hb hx
 ·exact ⟨ob.slots,u.keep b ob q n hb hx⟩
theorem Un.kept (k:∀ b u,h.get? b = some u -> h'.get? b = some u):Un fs ex H H h h' :=
 ⟨fun b ob q _ _ _=>k b ob q,fun b ob q _ _ _=>⟨ob.slots,k b ob q⟩,fun _ _ _ n _=>n,fun b ob q _=>⟨ob,k b ob q⟩,fun _ _ q=>q,fun _ _ _ q=>q,fun _ ps q=>⟨#[],by rw [q]; simp⟩⟩
theorem Un.refl:Un fs ex H H h h:=Un.kept fun _ _ q=>q
theorem Un.laid (k:∀ b u,h.get? b = some u -> h'.get? b = some u) (hp:h.objs.size <= a) (hn:H a = none):Un fs ex H (upd H a o) h h' where
 keep:=fun b u q _ _ _=>k b u q
 slot:=fun b u q _ _ _=>⟨u.slots,k b u q⟩
 free:=fun b u q n _=>by rw [ag (Nat.ne_of_lt (Nat.lt_of_lt_of_le (Heap.lt_size q) hp))]; exact n
 there:=fun b u q _=>⟨u,k b u q⟩
 tups:=fun b xs q=>by rw [ag (aE q hn)]; exact q
 frzs:=fun b u xs q=>by rw [ag (aE q hn)]; exact q
 tbls:=fun b ps q=>⟨#[],by rw [ag (aE q hn),q]; simp⟩
theorem Un.write (mu:Mut (H x)) (he:e = x \/ H e = some (.own x)) (k:∀ b u,b ≠ e -> h.get? b = some u -> h'.get? b = some u) (heo:∃ u,h'.get? e = some u):Un fs ex H (upd H x o) h h':=by
 have hx:∀ b,H b = none -> b ≠ x:=fun b n z=>by subst z; rw [n] at mu; exact mu
 have hb:∀ b,H b = none -> b ≠ e:=fun b n z=>by
  subst z
  rcases he with r | r
  ·exact hx b n r
  ·rw [n] at r; cases r
 have hm:∀ b u,H b = some u -> ¬ Mut (some u) -> b ≠ x:=fun b u q nm z=>by subst z; rw [q] at mu; exact nm mu
 refine ⟨fun b u q n _ _=>k b u (hb b n) q,fun b u q n _ _=>⟨u.slots,k b u (hb b n) q⟩,fun b u q n _=>by rw [ag (hx b n)]; exact n,fun b u q _=>?_,
  fun b xs q=>by rw [ag (hm b _ q fun z=>z)]; exact q,fun b u xs q=>by rw [ag (hm b _ q fun z=>z)]; exact q,fun b ps q=>⟨#[],by rw [ag (hm b _ q fun z=>z),q]; simp⟩⟩
 by_cases hbe:b = e
 ·subst hbe; exact heo
 ·exact ⟨u,k b u hbe q⟩
end
def trk (h:Heap) (H:Hp):List Addr:=(List.range h.objs.size).filter fun a=>(H a).isSome
def i8 (h:Heap) (H:Hp):Heap:=PySem.W.hideAll h (trk h H)
theorem mR (h:Heap) (H:Hp):(i8 h H).objs.size = h.objs.size:=PySem.W.hideAll_size _ _
theorem qU {h:Heap} {H:Hp} {b:Addr} {o:Obj} (e:h.get? b = some o) (n:H b = none):(i8 h H).get? b = some o :=
 PySem.W.hideAll_get _ e fun hm=>by
  have q:(H b).isSome = true:=(List.mem_filter.mp hm).2
  rw [n] at q; simp at q
theorem uZ {h:Heap} {H:Hp} {b:Addr} {o:Obj} (e:(i8 h H).get? b = some o):h.get? b = some o /\ H b = none:=by
 have e':h.get? b = some o:=PySem.W.of_hideAll (trk h H) e
 refine ⟨e',?_⟩
 cases q:H b with
 | none=>rfl
 | some x =>
  have hm:b ∈ trk h H:=List.mem_filter.mpr ⟨List.mem_range.mpr (Heap.lt_size e'),by simp [q]⟩
  have z:(i8 h H).get? b = none:=PySem.W.hideAll_none (trk h H) hm
  rw [z] at e; cases e
def uN (g h:Heap) (L:Addr):List (Addr × Obj):=(List.range h.objs.size).filterMap fun a=>if a = L \/ (g.get? a).isSome = true then none else (h.get? a).map fun o=>(a,o)
def rest (g h:Heap) (L d:Addr):List (Addr × Obj):=(uN g h L).filter fun p=>decide (p.1 ≠ d)
end L2
namespace L2
open PySem PySem.Spec PyProof.Rows
structure Mod (K:PySem.W.Frag) (mg:Str -> Option Value) (base:Heap):Prop where
 kin:K.In base
 glob:base.Ns mainGlobals mg
 blt:∃ mb,base.Ns builtinsNs mb /\ ∀ x:Str,x ≠ "__name__" -> mb x = bootBuiltins x
 nolimit:base.NoLimit
structure Cx where
 prog:Program
 w:World
 K:PySem.W.Frag
 mg:Str -> Option Value
 base:Heap
 A:Around
 N:List Str
 s₀:Shared
 H₀:Hp
 env:Env
 outer:List Env
 stack:List Env
 ex:List Addr
 fn:Str -> Bool
 calm:Bool
 pn:List (Addr × Obj)
 xe:Value -> Shared -> Prop
def frs (l:List Env):List Addr:=l.filterMap (·.frame)
abbrev Cx.fs (X:Cx):List Addr:=frs X.outer
def Vis (sc:Scope) (x:Str):Prop:=sc.names.lookup x = some .local \/ sc.names.lookup x = some .cell \/ sc.names.lookup x = some .free
def Loc (sc:Scope) (x:Str):Prop:=sc.names.lookup x = some .local \/ sc.names.lookup x = some .cell
def Cr (env:Env) (h:Heap) (m:Str -> Option Value) (x:Str) (u:Value):Prop :=
 (env.kindOf x = some .local /\ m x = some u) \/ ((env.kindOf x = some .cell \/ env.kindOf x = some .free) /\ ∃ c,env.cells.lookup x = some c /\ h.IsCell c (some u))
structure Cx.Ok (X:Cx):Prop where
 mod:Mod X.K X.mg X.base
 kind:X.env.scope.kind = .function
 glob:X.env.globals = mainGlobals
 blt:X.env.builtins = builtinsNs
 above:X.s₀.heap.objs.size <= X.env.locals
 inj:∀ x y c,X.env.cells.lookup x = some c -> X.env.cells.lookup y = some c -> x = y
 has:∀ x,(X.env.kindOf x = some .cell \/ X.env.kindOf x = some .free) -> ∃ c,X.env.cells.lookup x = some c
 cab:∀ x c,X.fn x = true -> X.env.cells.lookup x = some c -> X.s₀.heap.objs.size <= c
 hd:X.calm = true -> X.A.handled = none
 frames:X.A.frames = some X.stack
 stk:X.stack = X.outer \/ (X.stack = X.env :: X.outer /\ X.env.frame = some X.env.locals)
 exf:∀ b ∈ X.ex,b ≠ X.env.locals /\ ∀ x c,X.env.cells.lookup x = some c -> c ≠ b
 bs:∀ b o,X.base.get? b = some o -> X.s₀.heap.get? b = some o /\ X.H₀ b = none
 bsz:X.base.objs.size <= X.s₀.heap.objs.size
 noex:∀ b o,X.base.get? b = some o -> b ∉ X.ex
 exfs:∀ b ∈ X.ex,b ∉ X.fs
 funs:X.s₀.heap.FunFrames X.base X.outer
 frf:∀ b ∈ X.fs,X.H₀ b = none
structure Inv (X:Cx) (pins:List (Addr × Obj)) (σ:List (Option V)) (H:Hp) (s:Shared):Prop where
 ok:X.Ok
 os:s.os = X.s₀.os
 bare:AllBare s.gens
 base:Un X.fs X.ex X.H₀ H X.s₀.heap s.heap
 loc:∃ m,s.heap.Ns X.env.locals m /\ ∀ (i:Nat) (x:Str) (v:V),X.N[i]? = some x -> σ[i]? = some (some v) -> Vis X.env.scope x -> ∃ u,RelV v u /\ Cr X.env s.heap m x u
 cell:∀ x c,X.env.cells.lookup x = some c -> ∃ v,s.heap.IsCell c v
 free:H X.env.locals = none
 freeC:∀ x c,X.env.cells.lookup x = some c -> H c = none
 pin:∀ p ∈ X.pn ++ pins,s.heap.get? p.1 = some p.2 /\ H p.1 = none /\ p.1 ≠ X.env.locals /\ p.1 ∉ X.fs /\ ∀ v,p.2.data ≠ .cell v
 hok:HOk X.prog X.w H s.heap
 len:σ.length = X.N.length
section
variable {X:Cx} {pins:List (Addr × Obj)} {σ:List (Option V)} {H H':Hp} {s:Shared} {h':Heap}
theorem Cx.Ok.nofr (ok:X.Ok) {b:Addr} {o:Obj} (e:X.base.get? b = some o):b ∉ X.fs:=fun hb=>by
 have:=(ok.funs.mem hb).1
 rw [e] at this; cases this
theorem Inv.bs (I:Inv X pins σ H s):∀ b o,X.base.get? b = some o -> s.heap.get? b = some o /\ H b = none:=fun b o e =>
 ⟨I.base.keep b o (I.ok.bs b o e).1 (I.ok.bs b o e).2 (I.ok.nofr e) (I.ok.noex b o e),I.base.free b o (I.ok.bs b o e).1 (I.ok.bs b o e).2 (I.ok.noex b o e)⟩
theorem Inv.bk (I:Inv X pins σ H s):∀ b o,X.base.get? b = some o -> s.heap.get? b = some o:=fun b o e=>(I.bs b o e).1
theorem Inv.mod (I:Inv X pins σ H s):Mod X.K X.mg X.base:=I.ok.mod
theorem Inv.kIn (I:Inv X pins σ H s):X.K.In s.heap:=I.ok.mod.kin.keeps I.bk
theorem Inv.fr (I:Inv X pins σ H s):∃ m,Fr X.base X.env.locals s.heap m :=
 let ⟨m,hn,_⟩:=I.loc
 ⟨m,hn,I.bk,Nat.le_trans I.ok.bsz I.ok.above⟩
theorem Inv.lt (I:Inv X pins σ H s):X.env.locals < s.heap.objs.size:=let ⟨_,hn,_⟩:=I.loc; hn.lt
theorem Inv.sz (I:Inv X pins σ H s):X.s₀.heap.objs.size <= s.heap.objs.size:=Nat.le_trans I.ok.above (Nat.le_of_lt I.lt)
theorem Inv.nofs (I:Inv X pins σ H s) {a:Addr} (h:s.heap.objs.size <= a):a ∉ X.fs:=fun hb=>by
 obtain ⟨_,o,ho,_⟩:=I.ok.funs.mem hb
 exact absurd (Nat.lt_of_lt_of_le (Heap.lt_size ho) (Nat.le_trans I.sz h)) (Nat.lt_irrefl _)
theorem Inv.cne (I:Inv X pins σ H s):∀ x c,X.env.cells.lookup x = some c -> c ≠ X.env.locals:=fun x c e z=>by
 obtain ⟨v,o,ho,hd⟩:=I.cell x c e
 obtain ⟨m,⟨o',es,ep,ho',hd',_⟩,_⟩:=I.loc
 rw [z,ho'] at ho; cases ho; rw [hd'] at hd; cases hd
theorem Inv.funs (I:Inv X pins σ H s):s.heap.FunFrames X.base X.outer:=by
 have all:∀ (l:List Env),(∀ b ∈ frs l,b ∈ X.fs) -> X.s₀.heap.FunFrames X.base l -> s.heap.FunFrames X.base l:=by
  intro l
  induction l with
  | nil=>intro _ _; trivial
  | cons env r ih =>
   intro hs hl
   obtain ⟨hk,⟨L,o,hf,hn,ho,hd⟩,hr⟩:=hl
   have hL:L ∈ X.fs:=hs L (by unfold frs; rw [List.filterMap_cons,hf]; exact List.mem_cons_self)
   obtain ⟨sl,e⟩:=I.base.slot L o ho (I.ok.frf L hL) hL fun z=>I.ok.exfs L z hL
   exact ⟨hk,⟨L,_,hf,hn,e,hd⟩,ih (fun b hb=>hs b (by unfold frs; rw [List.filterMap_cons,hf]; exact List.mem_cons_of_mem _ hb)) hr⟩
 exact all X.outer (fun _ hb=>hb) I.ok.funs
theorem Inv.stack (I:Inv X pins σ H s):s.heap.FunFrames X.base X.stack:=by
 rcases I.ok.stk with e | ⟨e,hf⟩
 ·rw [e]; exact I.funs
 ·rw [e]
  obtain ⟨m,hn,_⟩:=I.loc
  refine .cons (by rw [I.ok.kind]; decide) hf hn ?_ I.funs
  exact Heap.get?_none_of_le (Nat.le_trans I.ok.bsz I.ok.above)
theorem Inv.stkSub (I:Inv X pins σ H s):∀ b ∈ frs X.stack,b ∈ X.env.locals :: X.fs:=fun b hb=>by
 rcases I.ok.stk with e | ⟨e,hf⟩
 ·rw [e] at hb; exact List.mem_cons_of_mem _ hb
 ·rw [e] at hb
  unfold frs at hb
  rw [List.filterMap_cons,hf] at hb
  exact hb
theorem Inv.stkFree (I:Inv X pins σ H s):∀ b ∈ frs X.stack,H b = none:=fun b hb=>by
 rcases List.mem_cons.mp (I.stkSub b hb) with e | hb
 ·rw [e]; exact I.free
 ·obtain ⟨_,o,ho,_⟩:=I.ok.funs.mem hb
  exact I.base.free b o ho (I.ok.frf b hb) fun z=>I.ok.exfs b z hb
theorem Inv.step {g':Array GenState} {t':Nat} {d':Drawn} {ch:List Addr} (I:Inv X pins σ H s)
  (hch:∀ b ∈ ch,(b ∈ X.ex \/ X.s₀.heap.objs.size <= b) /\ b ≠ X.env.locals /\ (∀ x c,X.env.cells.lookup x = some c -> c ≠ b) /\ ∀ p ∈ X.pn ++ pins,p.1 ≠ b)
  (keep:∀ b o,b ≠ X.env.locals -> b ∉ X.fs -> b ∉ ch -> s.heap.get? b = some o -> H b = none -> h'.get? b = some o)
  (slot:∀ b o,b ≠ X.env.locals -> b ∈ X.fs -> b ∉ ch -> s.heap.get? b = some o -> H b = none -> ∃ sl,h'.get? b = some { o with slots:=sl }) (free:∀ b o,b ∉ ch -> s.heap.get? b = some o -> H b = none -> H' b = none)
  (there:∀ b o,b ∉ ch -> s.heap.get? b = some o -> ∃ o',h'.get? b = some o')
  (tups:∀ b xs,H b = some (.tup xs) -> H' b = some (.tup xs)) (frzs:∀ b o u,H b = some (.frz o u) -> H' b = some (.frz o u)) (tbls:∀ b ps,H b = some (.tbl ps) -> ∃ more,H' b = some (.tbl (ps ++ more)))
  (ns:∀ m,s.heap.Ns X.env.locals m -> h'.Ns X.env.locals m) (hok:HOk X.prog X.w H' h') (hg:AllBare g') :
  Inv X pins σ H' { s with heap:=h',gens:=g',drawn:=d',toks:=t' }:=by
 have neL:∀ b o,X.s₀.heap.get? b = some o -> b ≠ X.env.locals:=fun b o e=>Nat.ne_of_lt (Nat.lt_of_lt_of_le (Heap.lt_size e) I.ok.above)
 have neC:∀ b o,X.s₀.heap.get? b = some o -> b ∉ X.ex -> b ∉ ch:=fun b o e hx hb=>by
  rcases (hch b hb).1 with z | z
  ·exact hx z
  ·exact absurd (Nat.lt_of_lt_of_le (Heap.lt_size e) z) (Nat.lt_irrefl _)
 have cellK:∀ x c,X.env.cells.lookup x = some c -> ∀ v,s.heap.IsCell c v -> h'.IsCell c v:=fun x c e v ⟨o,ho,hd⟩=>by
  have nch:c ∉ ch:=fun z=>(hch c z).2.2.1 x c e rfl
  by_cases hc:c ∈ X.fs
  ·obtain ⟨sl,q⟩:=slot c o (I.cne x c e) hc nch ho (I.freeC x c e)
   exact ⟨_,q,hd⟩
  ·exact ⟨o,keep c o (I.cne x c e) hc nch ho (I.freeC x c e),hd⟩
 refine ⟨I.ok,I.os,hg,⟨fun b o e n hb hx=>?_,fun b o e n hb hx=>?_,fun b o e n hx=>?_,fun b o e hx=>?_,fun b xs e=>tups b xs (I.base.tups b xs e),fun b o xs e=>frzs b o xs (I.base.frzs b o xs e),fun b ps e=>?_⟩,?_,fun x c e=>?_,?_,fun x c e=>?_,fun p hp=>?_,hok,I.len⟩
 ·exact keep b o (neL b o e) hb (neC b o e hx) (I.base.keep b o e n hb hx) (I.base.free b o e n hx)
 ·obtain ⟨sl,e1⟩:=I.base.slot b o e n hb hx
  obtain ⟨sl',e2⟩:=slot b _ (neL b o e) hb (neC b o e hx) e1 (I.base.free b o e n hx)
  exact ⟨sl',e2⟩
 ·obtain ⟨o',e1⟩:=I.base.there b o e hx
  exact free b o' (neC b o e hx) e1 (I.base.free b o e n hx)
 ·obtain ⟨o',e1⟩:=I.base.there b o e hx
  exact there b o' (neC b o e hx) e1
 ·obtain ⟨m1,e1⟩:=I.base.tbls b ps e
  obtain ⟨m2,e2⟩:=tbls b _ e1
  exact ⟨m1 ++ m2,by rw [e2,Array.append_assoc]⟩
 ·obtain ⟨m,hn,hl⟩:=I.loc
  refine ⟨m,ns m hn,fun i x v e1 e2 e3=>?_⟩
  obtain ⟨u,r,l⟩:=hl i x v e1 e2 e3
  refine ⟨u,r,?_⟩
  rcases l with l | ⟨k,c,e,z⟩
  ·exact .inl l
  ·exact .inr ⟨k,c,e,cellK x c e _ z⟩
 ·obtain ⟨v,z⟩:=I.cell x c e
  exact ⟨v,cellK x c e v z⟩
 ·obtain ⟨m,⟨o,_,_,ho,_⟩,_⟩:=I.loc
  exact free _ o (fun z=>(hch _ z).2.1 rfl) ho I.free
 ·obtain ⟨v,o,ho,hd⟩:=I.cell x c e
  exact free c o (fun z=>(hch c z).2.2.1 x c e rfl) ho (I.freeC x c e)
 ·obtain ⟨e,n,ne,nf,d⟩:=I.pin p hp
  have nch:p.1 ∉ ch:=fun z=>(hch p.1 z).2.2.2 p hp rfl
  exact ⟨keep p.1 p.2 ne nf nch e n,free p.1 p.2 nch e n,ne,nf,d⟩
theorem Inv.un {t':Nat} (I:Inv X pins σ H s) (u:Un X.fs [] H H' s.heap h') (hok:HOk X.prog X.w H' h'):Inv X pins σ H' { s with heap:=h',toks:=t' }:=by
 obtain ⟨m,⟨o,es,ep,ho,r⟩,_⟩:=id I.loc
 obtain ⟨sl,hL⟩:=u.any ho I.free (by simp)
 exact I.step (g':=s.gens) (d':=s.drawn) (ch:=[]) (fun _ z=>nomatch z) (fun b o _ hb _ e n=>u.keep b o e n hb (by simp)) (fun b o _ hb _ e n=>u.slot b o e n hb (by simp)) (fun b o _ e n=>u.free b o e n (by simp)) (fun b o _ e=>u.there b o e (by simp)) u.tups u.frzs u.tbls (fun m' hm=>by
  obtain ⟨o',es',ep',ho',r'⟩:=hm
  rw [ho] at ho'; cases ho'
  exact ⟨_,es',ep',hL,r'⟩) hok I.bare
theorem Inv.call {g':Array GenState} {t':Nat} {d':Drawn} {ch:List Addr} (I:Inv X pins σ H s) (u:Un (frs X.stack) ch H H' s.heap h') (hok:HOk X.prog X.w H' h') (hg:AllBare g')
  (hch:∀ b ∈ ch,(b ∈ X.ex \/ X.s₀.heap.objs.size <= b) /\ b ≠ X.env.locals /\ (∀ x c,X.env.cells.lookup x = some c -> c ≠ b) /\ ∀ p ∈ X.pn ++ pins,p.1 ≠ b) :
  Inv X pins σ H' { s with heap:=h',gens:=g',drawn:=d',toks:=t' }:=by
 obtain ⟨m,⟨o,es,ep,ho,r⟩,_⟩:=id I.loc
 obtain ⟨sl,hL⟩:=u.any ho I.free fun z=>(hch _ z).2.1 rfl
 exact I.step (ch:=ch) hch (fun b o hL hb hc e n=>u.keep b o e n (fun z=>(List.mem_cons.mp (I.stkSub b z)).elim hL hb) hc) (fun b o _ _ hc e n=>u.any e n hc) (fun b o hc e n=>u.free b o e n hc) (fun b o hc e=>u.there b o e hc) u.tups u.frzs u.tbls (fun m' hm=>by
  obtain ⟨o',es',ep',ho',r'⟩:=hm
  rw [ho] at ho'; cases ho'
  exact ⟨_,es',ep',hL,r'⟩) hok hg
theorem Inv.turned {t':Nat} {it:Addr} (I:Inv X pins σ H s) (k:∀ b o,b ≠ it -> s.heap.get? b = some o -> h'.get? b = some o) (hn:H it = none) (hL:it ≠ X.env.locals)
  (h1:it ∈ X.ex \/ X.s₀.heap.objs.size <= it) (h2:∀ x c,X.env.cells.lookup x = some c -> c ≠ it) (h3:∀ p ∈ X.pn ++ pins,p.1 ≠ it):Inv X pins σ H { s with heap:=h',toks:=t' }:=by
 have nit:∀ b u,H b = some u -> b ≠ it:=fun b u e z=>by rw [z,hn] at e; cases e
 refine I.step (g':=s.gens) (d':=s.drawn) (ch:=[it]) (fun b hb=>?_) (fun b o _ _ hc e _=>k b o (fun z=>hc (by simp [z])) e) (fun b o _ _ hc e _=>⟨o.slots,k b o (fun z=>hc (by simp [z])) e⟩) (fun _ _ _ _ n=>n)
  (fun b o hc e=>⟨o,k b o (fun z=>hc (by simp [z])) e⟩) (fun _ _ e=>e) (fun _ _ _ e=>e) (fun b ps e=>⟨#[],by rw [e]; simp⟩) (fun m hm=>?_) (fun b u e=>?_) I.bare
 ·have e:b = it:=by simpa using hb
  subst e
  exact ⟨h1,hL,h2,h3⟩
 ·obtain ⟨o,es,ep,ho,r⟩:=hm
  exact ⟨o,es,ep,k _ o (Ne.symm hL) ho,r⟩
 ·refine (I.hok b u e).stay (fun c v hc q=>k c v ?_ q) (fun _ q=>q) fun _ _ q=>q
  rcases hc with z | z
  ·rw [z]; exact nit b u e
  ·exact nit c _ z
theorem Inv.tok (I:Inv X pins σ H s) (t:Nat):Inv X pins σ H { s with toks:=t }:=I.un (h':=s.heap) (t':=t) Un.refl I.hok
theorem Inv.kept {t':Nat} (I:Inv X pins σ H s) (k:∀ b u,s.heap.get? b = some u -> h'.get? b = some u):Inv X pins σ H { s with heap:=h',toks:=t' }:=I.un (Un.kept k) (I.hok.kept k)
theorem Inv.laid {a:Addr} {o:HO} {t':Nat} (I:Inv X pins σ H s) (k:∀ b u,s.heap.get? b = some u -> h'.get? b = some u) (hp:s.heap.objs.size <= a) (new:ObjOk X.prog X.w (upd H a o) h' a o) :
  Inv X pins σ (upd H a o) { s with heap:=h',toks:=t' }:=I.un (Un.laid k hp (I.hok.fresh hp)) (I.hok.laid k hp new)
theorem Inv.write {x e:Addr} {o:HO} {t':Nat} (I:Inv X pins σ H s) (mu:Mut (H x)) (he:e = x \/ H e = some (.own x)) (k:∀ b u,b ≠ e -> s.heap.get? b = some u -> h'.get? b = some u) (heo:∃ u,h'.get? e = some u)
  (new:ObjOk X.prog X.w (upd H x o) h' x o):Inv X pins σ (upd H x o) { s with heap:=h',toks:=t' }:=I.un (Un.write mu he k heo) (I.hok.write mu he k heo new)
theorem Inv.weak {σ':List (Option V)} (I:Inv X pins σ H s) (hl:σ'.length = σ.length) (w:∀ (i:Nat) v,σ'[i]? = some (some v) -> σ[i]? = some (some v)):Inv X pins σ' H s :=
 ⟨I.ok,I.os,I.bare,I.base,let ⟨m,hn,hl'⟩:=I.loc; ⟨m,hn,fun i x v e1 e2 e3=>hl' i x v e1 (w i v e2) e3⟩,I.cell,I.free,I.freeC,I.pin,I.hok,hl.trans I.len⟩
theorem Inv.pins_of {pins':List (Addr × Obj)} (I:Inv X pins σ H s) (h:∀ p ∈ pins',s.heap.get? p.1 = some p.2 /\ H p.1 = none /\ p.1 ≠ X.env.locals /\ p.1 ∉ X.fs /\ ∀ v,p.2.data ≠ .cell v):Inv X pins' σ H s :=
 ⟨I.ok,I.os,I.bare,I.base,I.loc,I.cell,I.free,I.freeC,fun p hp=>(List.mem_append.mp hp).elim (fun z=>I.pin p (List.mem_append_left _ z)) (h p),I.hok,I.len⟩
theorem jK {N:List Str} (hN:N.Nodup) {i j:Nat} {x:Str} (a:N[i]? = some x) (b:N[j]? = some x):i = j:=by
 obtain ⟨h1,e1⟩:=List.getElem?_eq_some_iff.mp a
 obtain ⟨h2,e2⟩:=List.getElem?_eq_some_iff.mp b
 exact (List.getElem_inj hN).mp (e1.trans e2.symm)
theorem ie {M:Model} {A:Around} {E:Value -> Shared -> Prop} {i:Nat} {x:Str} {v:V} {u:Value} {Q:Unit -> Shared -> Prop} (I:Inv X pins σ H s) (hN:X.N.Nodup) (hi:X.N[i]? = some x) (hx:Loc X.env.scope x) (r:RelV v u)
  (h:∀ s',Inv X pins (σ.set i (some v)) H s' -> (∃ a,Heap.SameBut a s.heap s'.heap /\ (a = X.env.locals \/ X.env.cells.lookup x = some a)) -> Q () s') (hf:X.fn x = true \/ X.env.scope.names.lookup x = some .local:=by first | exact .inl rfl | exact .inr rfl | assumption):wpAny M A (storeName X.env x u) Q E s:=by
 obtain ⟨m,hn,hl⟩:=id I.loc
 have hcls:(X.env.scope.kind == .class || (X.env.scope.kind == .module && X.env.locals != X.env.globals)) = false:=by rw [I.ok.kind]; rfl
 have hiσ:i < σ.length:=by rw [I.len]; exact (List.getElem?_eq_some_iff.mp hi).1
 have cne:=I.cne
 have tracked:∀ {a:Addr} {h':Heap},(∃ o,s.heap.get? a = some o /\ H a = none) -> Heap.SameBut a s.heap h' -> HOk X.prog X.w H h':=fun {a h'} ha hs b ob e=>by
  obtain ⟨_,_,hfree⟩:=ha
  refine (I.hok b ob e).stay (fun c w' hc q=>(hs.2 c ?_).trans q) (fun _ q=>q) fun _ _ q=>q
  rintro rfl
  rcases hc with rfl | hc
  ·rw [hfree] at e; cases e
  ·rw [hfree] at hc; cases hc
 rcases hx with hk | hk
 ·refine wpAny_storeName_local hk hn (fun h' hn' hs=>?_) hcls
  obtain ⟨oL,_,_,hoL,_⟩:=id hn
  refine h _ ⟨I.ok,I.os,I.bare,⟨fun b o e n hb hx=>?_,fun b o e n hb hx=>?_,I.base.free,fun b o e hx=>?_,I.base.tups,I.base.frzs,I.base.tbls⟩,⟨_,hn',fun j y v' e1 e2 e3=>?_⟩,fun y c e=>?_,I.free,I.freeC,fun p hp=>?_,tracked ⟨oL,hoL,I.free⟩ hs,by simpa using I.len⟩ ⟨_,hs,.inl rfl⟩
  ·exact (hs.2 b (Nat.ne_of_lt (Nat.lt_of_lt_of_le (Heap.lt_size e) I.ok.above))).trans (I.base.keep b o e n hb hx)
  ·obtain ⟨sl,e1⟩:=I.base.slot b o e n hb hx
   exact ⟨sl,(hs.2 b (Nat.ne_of_lt (Nat.lt_of_lt_of_le (Heap.lt_size e) I.ok.above))).trans e1⟩
  ·obtain ⟨o',e1⟩:=I.base.there b o e hx
   exact ⟨o',(hs.2 b (Nat.ne_of_lt (Nat.lt_of_lt_of_le (Heap.lt_size e) I.ok.above))).trans e1⟩
  ·by_cases hj:j = i
   ·subst hj
    rw [hi] at e1; cases e1
    rw [List.getElem?_set_self hiσ] at e2
    cases e2
    exact ⟨u,r,.inl ⟨hk,by simp⟩⟩
   ·rw [List.getElem?_set_ne (Ne.symm hj)] at e2
    obtain ⟨u',r',q⟩:=hl j y v' e1 e2 e3
    refine ⟨u',r',?_⟩
    rcases q with ⟨k,e⟩ | ⟨k,c,e,z⟩
    ·refine .inl ⟨k,?_⟩
     have:y ≠ x:=fun e=>hj (jK hN e1 (e ▸ hi))
     simp [this,e]
    ·exact .inr ⟨k,c,e,z.sameBut hs (cne y c e)⟩
  ·obtain ⟨w',z⟩:=I.cell y c e
   exact ⟨w',z.sameBut hs (cne y c e)⟩
  ·obtain ⟨e,n,ne,nf,d⟩:=I.pin p hp
   exact ⟨(hs.2 p.1 ne).trans e,n,ne,nf,d⟩
 ·have hfn:X.fn x = true:=by
   rcases hf with z | z
   ·exact z
   ·rw [z] at hk; cases hk
  obtain ⟨c,hc⟩:=I.ok.has x (.inl hk)
  obtain ⟨w',z⟩:=I.cell x c hc
  refine wpAny_storeName_cell I.ok.kind hk hc z (fun h' hc' hs=>?_)
  obtain ⟨oc,hoc,hocd⟩:=id z
  refine h { s with heap:=h' } ⟨I.ok,I.os,I.bare,⟨fun b o e n hb hx=>?_,fun b o e n hb hx=>?_,I.base.free,fun b o e hx=>?_,I.base.tups,I.base.frzs,I.base.tbls⟩,⟨m,hn.sameBut hs (Ne.symm (cne x c hc)),fun j y v' e1 e2 e3=>?_⟩,fun y c' e=>?_,I.free,I.freeC,fun p hp=>?_,tracked ⟨oc,hoc,I.freeC x c hc⟩ hs,by simpa using I.len⟩ ⟨c,hs,.inr hc⟩
  ·exact (hs.2 b (Nat.ne_of_lt (Nat.lt_of_lt_of_le (Heap.lt_size e) (I.ok.cab x c hfn hc)))).trans (I.base.keep b o e n hb hx)
  ·obtain ⟨sl,e1⟩:=I.base.slot b o e n hb hx
   exact ⟨sl,(hs.2 b (Nat.ne_of_lt (Nat.lt_of_lt_of_le (Heap.lt_size e) (I.ok.cab x c hfn hc)))).trans e1⟩
  ·obtain ⟨o',e1⟩:=I.base.there b o e hx
   exact ⟨o',(hs.2 b (Nat.ne_of_lt (Nat.lt_of_lt_of_le (Heap.lt_size e) (I.ok.cab x c hfn hc)))).trans e1⟩
  ·by_cases hj:j = i
   ·subst hj
    rw [hi] at e1; cases e1
    rw [List.getElem?_set_self hiσ] at e2
    cases e2
    exact ⟨u,r,.inr ⟨.inl hk,c,hc,hc'⟩⟩
   ·rw [List.getElem?_set_ne (Ne.symm hj)] at e2
    obtain ⟨u',r',q⟩:=hl j y v' e1 e2 e3
    refine ⟨u',r',?_⟩
    rcases q with q | ⟨k,c',e,z'⟩
    ·exact .inl q
    ·refine .inr ⟨k,c',e,z'.sameBut hs ?_⟩
     rintro rfl
     exact hj (jK hN e1 (I.ok.inj _ _ _ e hc ▸ hi))
  ·by_cases hcc:c' = c
   ·subst hcc; exact ⟨_,hc'⟩
   ·obtain ⟨w2,z2⟩:=I.cell y c' e
    exact ⟨w2,z2.sameBut hs hcc⟩
  ·obtain ⟨e,n,ne,nf,d⟩:=I.pin p hp
   refine ⟨(hs.2 p.1 ?_).trans e,n,ne,nf,d⟩
   intro q
   rw [q,hoc] at e
   have q':oc = p.2:=Option.some.inj e
   exact d w' (by rw [<- q']; exact hocd)
theorem kd {M:Model} {A:Around} {E:Value -> Shared -> Prop} {i:Nat} {x:Str} {v:V} {u:Value} {Q:Unit -> Shared -> Prop} (I:Inv X pins σ H s) (hN:X.N.Nodup) (hi:X.N[i]? = some x) (hx:Loc X.env.scope x) (r:RelV v u)
  (h:∀ s',Inv X pins (σ.set i (some v)) H s' -> Q () s') (hf:X.fn x = true \/ X.env.scope.names.lookup x = some .local:=by first | exact .inl rfl | exact .inr rfl | assumption):wpAny M A (storeName X.env x u) Q E s :=
 ie I hN hi hx r (fun s' I' _=>h s' I') hf
theorem Inv.call' {s':Shared} {ch:List Addr} (I:Inv X pins σ H s) (ho:s'.os = s.os) (u:Un (frs X.stack) ch H H' s.heap s'.heap) (hok:HOk X.prog X.w H' s'.heap) (hg:AllBare s'.gens)
  (hch:∀ b ∈ ch,(b ∈ X.ex \/ X.s₀.heap.objs.size <= b) /\ b ≠ X.env.locals /\ (∀ x c,X.env.cells.lookup x = some c -> c ≠ b) /\ ∀ p ∈ X.pn ++ pins,p.1 ≠ b):Inv X pins σ H' s':=by
 obtain ⟨h',g',d',t',o'⟩:=s'
 have e:o' = s.os:=ho
 subst e
 exact I.call (g':=g') (t':=t') (d':=d') u hok hg hch
end
abbrev XK:=Value -> Option Addr -> Hp -> Prop
abbrev St:=List (Option V)
abbrev VK:=V -> Hp -> Prop
abbrev TE:=St -> Hp -> VK -> Prop
abbrev TT:=St -> Hp -> (Bool -> Hp -> Prop) -> Prop
abbrev TA:=St -> Hp -> (List V -> Hp -> Prop) -> Prop
structure bY where
 nx:St -> Hp -> Prop
 rt:VK
 bk:St -> Hp -> Prop:=fun _ _=>False
 ct:St -> Hp -> Prop:=fun _ _=>False
abbrev TS:=bY -> St -> Hp -> Prop
def EP (X:Cx) (pins:List (Addr × Obj)) (σ:St) (Q:VK) (u:Value) (s':Shared):Prop:=∃ v H',Inv X pins σ H' s' /\ RelV v u /\ Q v H'
def TP (X:Cx) (pins:List (Addr × Obj)) (σ:St) (Q:Bool -> Hp -> Prop) (b:Bool) (s':Shared):Prop:=∃ H',Inv X pins σ H' s' /\ Q b H'
def AP (X:Cx) (pins:List (Addr × Obj)) (σ:St) (Q:List V -> Hp -> Prop) (us:List Value) (s':Shared):Prop:=∃ vs H',Inv X pins σ H' s' /\ Vals vs us /\ Q vs H'
def SP (X:Cx) (pins:List (Addr × Obj)) (D:bY) (f:Flow) (s':Shared):Prop :=
 match f with
 | .next=>∃ σ' H',Inv X pins σ' H' s' /\ D.nx σ' H'
 | .brk=>∃ σ' H',Inv X pins σ' H' s' /\ D.bk σ' H'
 | .cont=>∃ σ' H',Inv X pins σ' H' s' /\ D.ct σ' H'
 | .ret u=>∃ v σ' H',Inv X pins σ' H' s' /\ RelV v u /\ D.rt v H'
def PE (X:Cx) (e:Expr) (t:TE):Prop :=
 ∀ (pins:List (Addr × Obj)) (s:Shared) (σ:St) (H:Hp) (Q:VK),Inv X pins σ H s -> t σ H Q -> wpAny (model X.prog X.w) X.A (eval e X.env) (EP X pins σ Q) X.xe s
def PT (X:Cx) (e:Expr) (t:TT):Prop :=
 ∀ (pins:List (Addr × Obj)) (s:Shared) (σ:St) (H:Hp) (Q:Bool -> Hp -> Prop),Inv X pins σ H s -> t σ H Q -> wpAny (model X.prog X.w) X.A (isTrue e X.env (eval e X.env)) (TP X pins σ Q) X.xe s
def PW (X:Cx) (e:Expr) (t:TT):Prop :=
 ∀ (whole:Sem Value) (pins:List (Addr × Obj)) (s:Shared) (σ:St) (H:Hp) (Q:Bool -> Hp -> Prop),Inv X pins σ H s -> t σ H Q -> wpAny (model X.prog X.w) X.A (isTrue e X.env whole) (TP X pins σ Q) X.xe s
theorem PW.pt {X:Cx} {e:Expr} {t:TT} (h:PW X e t):PT X e t:=h _
def PA (X:Cx) (es:List Expr) (t:TA):Prop :=
 ∀ (pos:Pos) (pins:List (Addr × Obj)) (s:Shared) (σ:St) (H:Hp) (Q:List V -> Hp -> Prop),Inv X pins σ H s -> t σ H Q -> wpAny (model X.prog X.w) X.A (spliced (backTo pos (starEach es X.env))) (AP X pins σ Q) X.xe s
def PS (X:Cx) (st:Stmt) (t:TS):Prop :=
 ∀ (pins:List (Addr × Obj)) (s:Shared) (σ:St) (H:Hp) (D:bY),Inv X pins σ H s -> t D σ H -> wpAny (model X.prog X.w) X.A (exec st X.env) (SP X pins D) X.xe s
def PSs (X:Cx) (st:List Stmt) (t:TS):Prop :=
 ∀ (pins:List (Addr × Obj)) (s:Shared) (σ:St) (H:Hp) (D:bY),Inv X pins σ H s -> t D σ H -> wpAny (model X.prog X.w) X.A (execs st X.env) (SP X pins D) X.xe s
theorem thn {α:Type} {t:Sem α} {Q Q':α -> Shared -> Prop} {M:Model} {A:Around} {E:Value -> Shared -> Prop} {s:Shared} (h:wpAny M A t Q E s) (hQ:∀ a s,Q a s -> Q' a s):wpAny M A t Q' E s:=wpAny_mono h hQ fun _ _ x=>x
end L2
namespace L2
open PySem PySem.Spec PyProof.Rows
section
variable {X:Cx}
theorem bin {a b:Expr} {ta tb:TE} (ha:PE X a ta) (hb:PE X b tb) {pins:List (Addr × Obj)} {s:Shared} {σ:St} {H:Hp} {R:V -> V -> Hp -> Prop} (I:Inv X pins σ H s) (h:ta σ H fun x H1=>tb σ H1 fun y H2=>R x y H2)
  {α:Type} {Q:α -> Shared -> Prop} {f:Value -> Value -> Sem α}
  (hf:∀ v u s2 x y H2,Inv X pins σ H2 s2 -> RelV x v -> RelV y u -> R x y H2 -> wpAny (model X.prog X.w) X.A (f v u) Q X.xe s2) :
  wpAny (model X.prog X.w) X.A (eval a X.env) (fun v s₁=>wpAny (model X.prog X.w) X.A (eval b X.env) (fun u s₂=>wpAny (model X.prog X.w) X.A (f v u) Q X.xe s₂) X.xe s₁) X.xe s:=by
 refine thn (ha pins s σ H _ I h) fun v s1 ⟨x,H1,I1,r1,q1⟩=>?_
 refine thn (hb pins s1 σ H1 _ I1 q1) fun u s2 ⟨y,H2,I2,r2,q2⟩=>?_
 exact hf v u s2 x y H2 I2 r1 r2 q2
def mY (i:Nat):TE:=fun σ H Q=>∃ v,σ[i]? = some (some v) /\ Q v H
def tC (v:V):TE:=fun _ H Q=>Q v H
theorem cO {i:Nat} {x:Str} {pos:Pos} (hN:X.N[i]? = some x) (hv:Vis X.env.scope x) (hd:(x == ("__debug__":Str)) = false:=by decide) (hcd:(x == ("__classdict__":Str)) = false:=by decide):PE X (.Name x pos) (mY i):=by
 intro pins s σ H Q I h
 obtain ⟨v,e,h⟩:=h
 obtain ⟨m,hn,hl⟩:=I.loc
 obtain ⟨u,r,l⟩:=hl i x v hN e hv
 have fin:EP X pins σ Q u s:=⟨v,H,I,r,h⟩
 rcases l with ⟨hk,hm⟩ | ⟨hk,c,hc,hcell⟩
 ·exact wpAny_Name (wpAny_loadName_local I.ok.kind hk hn hm fin) hd
 ·rcases hk with hk | hk
  ·exact wpAny_Name (wpAny_loadName_cell I.ok.kind hk hc hcell fin) hd
  ·exact wpAny_Name (wpAny_loadName_free I.ok.kind hk hc hcell fin hcd) hd
theorem kU {i j pos}:PE X (.Constant (.int i) j pos) (tC (.int i)):=fun _ _ _ H _ I h=>wpAny_Constant_int ⟨.int i,H,I.tok _,⟨_,rfl⟩,h⟩
theorem AQ {b j pos}:PE X (.Constant (.bool b) j pos) (tC (.bl b)):=fun _ _ _ H _ I h=>Constant_bool ⟨.bl b,H,I,rfl,h⟩
theorem xD {x j pos}:PE X (.Constant (.str x) j pos) (tC (.str x)):=fun _ _ _ H _ I h=>Calls.Constant_str ⟨.str x,H,I.tok _,⟨_,rfl⟩,h⟩
def Gl (X:Cx) (x:Str):Prop:=X.env.kindOf x = some .globalImplicit
theorem l9 {E:Value -> Shared -> Prop} {pins:List (Addr × Obj)} {s:Shared} {σ:St} {H:Hp} {x:Str} {u:Value} {pos:Pos} {Q:Value -> Shared -> Prop} (I:Inv X pins σ H s) (hg:Gl X x) (hm:X.mg x = some u) (h:Q u s)
  (hd:(x == ("__debug__":Str)) = false:=by decide):wpAny (model X.prog X.w) X.A (eval (.Name x pos) X.env) Q E s :=
 Calls.Name_function_global I.ok.kind hg (Calls.loadGlobal_global (by rw [I.ok.glob]; exact I.mod.glob.keeps I.bk) hm h) hd
theorem dz {E:Value -> Shared -> Prop} {pins:List (Addr × Obj)} {s:Shared} {σ:St} {H:Hp} {x:Str} {u:Value} {pos:Pos} {Q:Value -> Shared -> Prop} (I:Inv X pins σ H s) (hg:Gl X x) (hm:X.mg x = none) (hv:bootBuiltins x = some u) (h:Q u s)
  (hn:x ≠ "__name__":=by decide) (hd:(x == ("__debug__":Str)) = false:=by decide):wpAny (model X.prog X.w) X.A (eval (.Name x pos) X.env) Q E s:=by
 obtain ⟨mb,h1,h2⟩:=I.mod.blt
 exact Calls.Name_function_global I.ok.kind hg (Calls.loadGlobal_builtin (by rw [I.ok.glob]; exact I.mod.glob.keeps I.bk) hm (by rw [I.ok.blt]; exact h1.keeps I.bk) ((h2 x hn).trans hv) h) hd
theorem sY {x:Str} {v:V} {u:Value} {pos:Pos} (hg:Gl X x) (hm:X.mg x = some u) (r:RelV v u) (hd:(x == ("__debug__":Str)) = false:=by decide):PE X (.Name x pos) (tC v) :=
 fun _ _ _ H _ I h=>l9 I hg hm ⟨v,H,I,r,h⟩ hd
theorem tF {x:Str} {v:V} {u:Value} {pos:Pos} (hg:Gl X x) (hm:X.mg x = none) (hv:bootBuiltins x = some u) (r:RelV v u) (hn:x ≠ "__name__":=by decide) (hd:(x == ("__debug__":Str)) = false:=by decide):PE X (.Name x pos) (tC v) :=
 fun _ _ _ H _ I h=>dz I hg hm hv ⟨v,H,I,r,h⟩ hn hd
def t2I (ta tb:TE) (k:Int -> Int -> Hp -> Prop):St -> Hp -> Prop:=fun σ H=>ta σ H fun x H1=>tb σ H1 fun y H2=>∃ i j,x = .int i /\ y = .int j /\ k i j H2
def Dy (ta tb:TE):TE:=fun σ H Q=>t2I ta tb (fun i j H2=>Q (.int (i + j)) H2) σ H
def Dt (ta tb:TE):TE:=fun σ H Q=>t2I ta tb (fun i j H2=>Q (.int (i - j)) H2) σ H
def DA (ta tb:TE):TE:=fun σ H Q=>t2I ta tb (fun i j H2=>(-(2 ^ 64) < i /\ i < 2 ^ 64) /\ Q (.int (i * j)) H2) σ H
variable {a b:Expr} {ta tb:TE} {pos:Pos}
def PC (X:Cx) (op:CmpOp) (a b:Expr) (t:TE):Prop :=
 ∀ (pins:List (Addr × Obj)) (s:Shared) (σ:St) (H:Hp) (Q:VK),Inv X pins σ H s -> t σ H Q ->
  wpAny (model X.prog X.w) X.A (eval a X.env) (fun v s₁=>wpAny (model X.prog X.w) X.A (eval b X.env) (fun u s₂=>wpAny (model X.prog X.w) X.A (compareOp op v u) (EP X pins σ Q) X.xe s₂) X.xe s₁) X.xe s
def mX (p:Int -> Int -> Bool) (ta tb:TE):TE:=fun σ H Q=>t2I ta tb (fun i j H2=>Q (.bl (p i j)) H2) σ H
abbrev tLt:TE -> TE -> TE:=mX fun i j=>decide (i < j)
abbrev tLe:TE -> TE -> TE:=mX fun i j=>decide (i <= j)
abbrev tGt:TE -> TE -> TE:=mX fun i j=>decide (j < i)
abbrev tGe:TE -> TE -> TE:=mX fun i j=>decide (j <= i)
abbrev DE:TE -> TE -> TE:=mX fun i j=>decide (i = j)
abbrev Dm:TE -> TE -> TE:=mX fun i j=>!decide (i = j)
def DF (ta:TE):TE:=fun σ H Q=>ta σ H fun x H1=>Q (.bl (decide (x = .non))) H1
def C6 (ta:TE):TE:=fun σ H Q=>ta σ H fun x H1=>Q (.bl (!decide (x = .non))) H1
def tB (t:TE):TT:=fun σ H Q=>t σ H fun x H1=>∃ c,x = .bl c /\ Q c H1
variable {tA tB':TT} {rest:List Expr}
def Bo (t u:TT):TT:=fun σ H Q=>t σ H fun c H1=>if c = true then u σ H1 Q else Q false H1
def tOr (t u:TT):TT:=fun σ H Q=>t σ H fun c H1=>if c = true then Q true H1 else u σ H1 Q
def zF (t:TT):TT:=fun σ H Q=>t σ H fun c H1=>Q (!c) H1
theorem ug (ha:PT X a tA):PW X (.BoolOp .And [a] pos) tA:=by
 intro wh pins s σ H Q I h
 refine isTrue_and (thn (ha pins s σ H Q I h) fun c s1 e=>?_)
 cases c with
 | true=>exact isTrue_and_nil e
 | false=>exact e
theorem xi (ha:PT X a tA):PW X (.BoolOp .Or [a] pos) tA:=by
 intro wh pins s σ H Q I h
 refine isTrue_or (thn (ha pins s σ H Q I h) fun c s1 e=>?_)
 cases c with
 | false=>exact isTrue_or_nil e
 | true=>exact e
theorem wx (ha:PT X a tA) (hb:PW X (.BoolOp .And (b :: rest) pos) tB'):PW X (.BoolOp .And (a :: b :: rest) pos) (Bo tA tB'):=by
 intro wh pins s σ H Q I h
 refine isTrue_and (thn (ha pins s σ H _ I h) fun c s1 ⟨H1,I1,q1⟩=>?_)
 cases c with
 | true=>exact hb wh pins s1 σ H1 Q I1 q1
 | false=>exact ⟨H1,I1,q1⟩
theorem Au (ha:PT X a tA) (hb:PW X (.BoolOp .Or (b :: rest) pos) tB'):PW X (.BoolOp .Or (a :: b :: rest) pos) (tOr tA tB'):=by
 intro wh pins s σ H Q I h
 refine isTrue_or (thn (ha pins s σ H _ I h) fun c s1 ⟨H1,I1,q1⟩=>?_)
 cases c with
 | true=>exact ⟨H1,I1,q1⟩
 | false=>exact hb wh pins s1 σ H1 Q I1 q1
theorem xE (ha:PT X a tA):PT X (.UnaryOp .Not a pos) (zF tA):=by
 intro pins s σ H Q I h
 exact isTrue_not (ha pins s σ H (fun c H1=>Q (!c) H1) I h)
def CS (ta tb:TE):TE:=fun σ H Q=>ta σ H fun x H1=>∃ c,x = .bl c /\ if c = true then tb σ H1 Q else Q (.bl false) H1
def Dj (ta tb:TE):TE:=fun σ H Q=>ta σ H fun x H1=>∃ c,x = .bl c /\ if c = true then Q (.bl true) H1 else tb σ H1 Q
def CT (ta:TE):TE:=fun σ H Q=>ta σ H fun x H1=>∃ c,x = .bl c /\ Q (.bl (!c)) H1
theorem oB {op} {t:TE} (h:PE X a t):PE X (.BoolOp op [a] pos) t:=fun pins s σ H Q I hw=>BoolOp_one (h pins s σ H Q I hw)
def tIf (t:TT) (ta tb:TE):TE:=fun σ H Q=>t σ H fun c H1=>if c = true then ta σ H1 Q else tb σ H1 Q
theorem qm {c:Expr} (hc:PT X c tA) (ha:PE X a ta) (hb:PE X b tb):PE X (.IfExp c a b pos) (tIf tA ta tb):=by
 intro pins s σ H Q I h
 refine wpAny_IfExp (thn (hc pins s σ H _ I h) fun d s1 ⟨H1,I1,q1⟩=>?_)
 cases d with
 | true=>exact ha pins s1 σ H1 Q I1 q1
 | false=>exact hb pins s1 σ H1 Q I1 q1
end
end L2
namespace L2
open PySem PySem.Spec PyProof.Rows
def SqL (K:PySem.W.Frag) (H:Hp) (a:Addr) (xs:List V):Prop :=
 Rd H a (.lst xs) \/
  ∃ (o:Obj) (its:Array Value) (n:Nat),K.lookup a = some o /\ o.cls = .type "list" /\ o.dict = none /\ o.data = .seq its n /\ its.size <= sizeLine /\ Vals xs its.toList
def SqT (K:PySem.W.Frag) (H:Hp) (a:Addr) (xs:List V):Prop :=
 Rd H a (.tup xs) \/
  ∃ (o:Obj) (its:Array Value) (n:Nat),K.lookup a = some o /\ o.cls = .type "tuple" /\ o.data = .seq its n /\ its.size <= sizeLine /\ Vals xs its.toList
def BF:Value -> Option V
 | .none=>some .non
 | .bool b=>some (.bl b)
 | .int i _=>some (.int i)
 | .str x _=>some (.str x)
 | .bytes b _=>some (.byt b)
 | .float b _=>some (.flt b)
 | .ref a=>some (.ref a)
 | .type n=>some (.ty n)
 | _=>none
theorem RelV.abs {x:V} {u:Value} (r:RelV x u):BF u = some x:=by
 cases x with
 | non=>cases r; rfl
 | bl _=>cases r; rfl
 | int _=>obtain ⟨t,rfl⟩:=r; rfl
 | str _=>obtain ⟨t,rfl⟩:=r; rfl
 | byt _=>obtain ⟨t,rfl⟩:=r; rfl
 | flt _=>obtain ⟨t,rfl⟩:=r; rfl
 | ref _=>cases r; rfl
 | ty _=>cases r; rfl
theorem RelV.inj {x y:V} {u:Value} (r:RelV x u) (q:RelV y u):x = y:=Option.some.inj (r.abs.symm.trans q.abs)
theorem Vals.inj:∀ {xs ys:List V} {us:List Value},Vals xs us -> Vals ys us -> xs = ys
 | _,_,_,.nil,.nil=>rfl
 | _,_,_,.cons r t,.cons r' t'=>by rw [r.inj r',Vals.inj t t']
section
variable {X:Cx} {pins:List (Addr × Obj)} {σ:St} {H:Hp} {s:Shared} {a:Addr} {xs ys:List V}
theorem SqL.of {K:PySem.W.Frag} (h:H a = some (.lst xs)):SqL K H a xs:=.inl (.inl h)
theorem SqT.of {K:PySem.W.Frag} (h:H a = some (.tup xs)):SqT K H a xs:=.inl (.inl h)
theorem Inv.list (I:Inv X pins σ H s) (h:SqL X.K H a xs):∃ its:List Value,Vals xs its /\ PlainL s.heap a its.toArray /\ xs.length <= sizeLine:=by
 rcases h with h | ⟨o,its,n,hk,hc,hd,hs,hz,r⟩
 ·obtain ⟨z,its,n,r,e⟩:=h.ok I.hok
  exact ⟨its,r,⟨_,n,e,rfl,rfl,rfl⟩,z⟩
 ·refine ⟨its.toList,r,⟨o,n,I.kIn a o hk,hc,hd,by simpa using hs⟩,?_⟩
  have e:=r.length
  simp only [Array.length_toList] at e
  omega
theorem Inv.tuple (I:Inv X pins σ H s) (h:SqT X.K H a xs):∃ its:List Value,Vals xs its /\ IsTup s.heap a its.toArray /\ xs.length <= sizeLine:=by
 rcases h with h | ⟨o,its,n,hk,hc,hs,hz,r⟩
 ·obtain ⟨z,its,r,p⟩:=h.ok I.hok
  exact ⟨its,r,p,z⟩
 ·refine ⟨its.toList,r,⟨o,I.kIn a o hk,hc,n,by simpa using hs⟩,?_⟩
  have e:=r.length
  simp only [Array.length_toList] at e
  omega
theorem Inv.list_inj (I:Inv X pins σ H s) (h:SqL X.K H a xs) (h':SqL X.K H a ys):xs = ys:=by
 obtain ⟨its,r,⟨o,n,e,_,_,d⟩,_⟩:=I.list h
 obtain ⟨its',r',⟨o',n',e',_,_,d'⟩,_⟩:=I.list h'
 rw [e] at e'; cases e'
 rw [d] at d'
 injection d' with d1 _
 have:its = its':=by simpa using congrArg Array.toList d1
 subst this
 exact r.inj r'
theorem Inv.tuple_inj (I:Inv X pins σ H s) (h:SqT X.K H a xs) (h':SqT X.K H a ys):xs = ys:=by
 obtain ⟨its,r,⟨o,e,_,n,d⟩,_⟩:=I.tuple h
 obtain ⟨its',r',⟨o',e',_,n',d'⟩,_⟩:=I.tuple h'
 rw [e] at e'; cases e'
 rw [d] at d'
 injection d' with d1 _
 have:its = its':=by simpa using congrArg Array.toList d1
 subst this
 exact r.inj r'
end
abbrev Cx.wish (X:Cx) (E:Value -> Shared -> Prop):Cx:={ X with xe:=E }
abbrev Cx.nox (X:Cx):Cx:=X.wish fun _ _=>False
theorem Cx.Ok.wish {X:Cx} (ok:X.Ok) (E:Value -> Shared -> Prop):(X.wish E).Ok :=
 ⟨ok.mod,ok.kind,ok.glob,ok.blt,ok.above,ok.inj,ok.has,ok.cab,ok.hd,ok.frames,ok.stk,ok.exf,ok.bs,ok.bsz,ok.noex,ok.exfs,ok.funs,ok.frf⟩
theorem Cx.Ok.unwish {X:Cx} {E:Value -> Shared -> Prop} (ok:(X.wish E).Ok):X.Ok :=
 ⟨ok.mod,ok.kind,ok.glob,ok.blt,ok.above,ok.inj,ok.has,ok.cab,ok.hd,ok.frames,ok.stk,ok.exf,ok.bs,ok.bsz,ok.noex,ok.exfs,ok.funs,ok.frf⟩
section
variable {X:Cx} {pins:List (Addr × Obj)} {σ:St} {H:Hp} {s:Shared} {E:Value -> Shared -> Prop}
theorem Inv.wish (I:Inv X pins σ H s) (E:Value -> Shared -> Prop):Inv (X.wish E) pins σ H s:=⟨I.ok.wish E,I.os,I.bare,I.base,I.loc,I.cell,I.free,I.freeC,I.pin,I.hok,I.len⟩
theorem Inv.unwish (I:Inv (X.wish E) pins σ H s):Inv X pins σ H s:=⟨I.ok.unwish,I.os,I.bare,I.base,I.loc,I.cell,I.free,I.freeC,I.pin,I.hok,I.len⟩
theorem SP.unwish {D:bY} {f:Flow} {s':Shared} (h:SP (X.wish E) pins D f s'):SP X pins D f s':=by
 cases f with
 | next=>obtain ⟨σ',H',I,q⟩:=h; exact ⟨σ',H',I.unwish,q⟩
 | brk=>obtain ⟨σ',H',I,q⟩:=h; exact ⟨σ',H',I.unwish,q⟩
 | cont=>obtain ⟨σ',H',I,q⟩:=h; exact ⟨σ',H',I.unwish,q⟩
 | ret u=>obtain ⟨v,σ',H',I,r,q⟩:=h; exact ⟨v,σ',H',I.unwish,r,q⟩
theorem PSs.nox {st:List Stmt} {t:TS} (h:PSs X.nox st t):PSs X st t:=fun pins s σ H D I hw =>
 wpAny_mono (h pins s σ H D (I.wish _) hw) (fun _ _ q=>q.unwish) fun _ _ z=>False.elim z
end
section
variable {X:Cx} {st:Stmt} {rest:List Stmt} {t u:TS} {e:Expr} {te:TE} {pos:Pos}
def vi:TS:=fun D σ H=>D.nx σ H
def Aa (t u:TS):TS:=fun D σ H=>t { D with nx:=u D } σ H
theorem rS:PSs X [] vi:=fun _ _ σ H _ I h=>wpAny_execs_nil ⟨σ,H,I,h⟩
theorem dE (h1:PS X st t) (h2:PSs X rest u):PSs X (st :: rest) (Aa t u):=by
 intro pins s σ H D I h
 refine wpAny_execs_cons (thn (h1 pins s σ H { D with nx:=u D } I h) fun f s1 q=>?_)
 cases f with
 | next =>
  obtain ⟨σ',H',I',q⟩:=q
  exact h2 pins s1 σ' H' D I' q
 | ret v=>exact q
 | brk=>exact q
 | cont=>exact q
theorem i7 (h1:PS X st t):PSs X [st] t:=by
 intro pins s σ H D I h
 refine wpAny_execs_cons (thn (h1 pins s σ H D I h) fun f s1 q=>?_)
 cases f with
 | next=>exact wpAny_execs_nil q
 | ret v=>exact q
 | brk=>exact q
 | cont=>exact q
def Ce:TS:=fun D σ H=>D.bk σ H
def C3:TS:=fun D σ H=>D.ct σ H
theorem Inv.quiet {pins:List (Addr × Obj)} {σ:St} {H:Hp} {s:Shared} (I:Inv X pins σ H s):interactive X.env = false:=by simp [interactive,I.ok.kind]
def By (te:TE):TS:=fun D σ H=>te σ H fun _ H1=>D.nx σ H1
theorem jc (he:PE X e te) (hs:swapsWith e none pos.line X.env = pure false:=by rfl):PS X (.Expr e pos) (By te):=by
 intro pins s σ H D I h
 exact wpAny_Expr_any (thn (he pins s σ H _ I h) fun v s1 ⟨x,H1,I1,r1,q1⟩=>⟨σ,H1,I1,q1⟩) I.quiet hs
def Ao (te:TE):TS:=fun D σ H=>te σ H D.rt
theorem ph (he:PE X e te):PS X (.Return (some e) pos) (Ao te):=by
 intro pins s σ H D I h
 exact wpAny_Return_some (thn (he pins s σ H _ I h) fun v s1 ⟨x,H1,I1,r1,q1⟩=>⟨x,σ,H1,I1,r1,q1⟩)
def CP:TS:=fun D _ H=>D.rt .non H
def zL (c:TT) (t u:TS):TS:=fun D σ H=>c σ H fun b H1=>if b = true then t D σ H1 else u D σ H1
theorem An {c:Expr} {a b:List Stmt} {tc:TT} (hc:PT X c tc) (ha:PSs X a t) (hb:PSs X b u):PS X (.If c a b pos) (zL tc t u):=by
 intro pins s σ H D I h
 refine wpAny_If (thn (hc pins s σ H _ I h) fun d s1 ⟨H1,I1,q1⟩=>?_)
 cases d with
 | true=>exact ha pins s1 σ H1 D I1 q1
 | false=>exact hb pins s1 σ H1 D I1 q1
def BL:TS:=fun _ _ _=>False
end
abbrev TG:=V -> St -> Hp -> (St -> Hp -> Prop) -> Prop
abbrev TGs:=List V -> St -> Hp -> (St -> Hp -> Prop) -> Prop
def PG (X:Cx) (target:Expr) (t:TG):Prop :=
 ∀ (pins:List (Addr × Obj)) (s:Shared) (σ:St) (H:Hp) (v:V) (u:Value) (Q:St -> Hp -> Prop),Inv X pins σ H s -> RelV v u -> t v σ H Q ->
  wpAny (model X.prog X.w) X.A (assign target X.env u) (fun _ s'=>∃ σ' H',Inv X pins σ' H' s' /\ Q σ' H') X.xe s
def PGs (X:Cx) (ts:List Expr) (t:TGs):Prop :=
 ∀ (pins:List (Addr × Obj)) (s:Shared) (σ:St) (H:Hp) (vs:List V) (us:List Value) (Q:St -> Hp -> Prop),Inv X pins σ H s -> Vals vs us -> t vs σ H Q ->
  wpAny (model X.prog X.w) X.A (assignInOrder ((assignEach ts X.env).map (·.2)) us) (fun _ s'=>∃ σ' H',Inv X pins σ' H' s' /\ Q σ' H') X.xe s
abbrev uV:=V -> V -> V -> Hp -> (Hp -> Prop) -> Prop
def Bu (X:Cx) (t:uV):Prop :=
 ∀ (pins:List (Addr × Obj)) (s:Shared) (σ:St) (H:Hp) (o i v:V) (ov iv u:Value) (Q:Hp -> Prop),Inv X pins σ H s -> RelV o ov -> RelV i iv -> RelV v u -> t o i v H Q ->
  wpAny (model X.prog X.w) X.A (setItem ov iv u) (fun _ s'=>∃ H',Inv X pins σ H' s' /\ Q H') X.xe s
abbrev TIp:=V -> V -> Hp -> VK -> Prop
def PIp (X:Cx) (op:Operator) (t:TIp):Prop :=
 ∀ (pins:List (Addr × Obj)) (s:Shared) (σ:St) (H:Hp) (x y:V) (v u:Value) (Q:VK),Inv X pins σ H s -> RelV x v -> RelV y u -> t x y H Q ->
  wpAny (model X.prog X.w) X.A (inplaceOp op v u) (EP X pins σ Q) X.xe s
section
variable {X:Cx} {pos:Pos}
def bM (i:Nat):TG:=fun v σ H Q=>Q (σ.set i (some v)) H
theorem bR {i:Nat} {x:Str} (hN:X.N.Nodup) (hi:X.N[i]? = some x) (hx:Loc X.env.scope x) (hf:X.fn x = true \/ X.env.scope.names.lookup x = some .local:=by first | exact .inl rfl | exact .inr rfl | assumption):PG X (.Name x pos) (bM i):=by
 intro pins s σ H v u Q I r h
 exact wpAny_assign_Name (kd I hN hi hx r (fun s' I'=>⟨_,H,I',h⟩) hf)
def pR:TGs:=fun vs σ H Q=>vs = [] /\ Q σ H
def dY (t:TG) (u:TGs):TGs:=fun vs σ H Q=>∃ v r,vs = v :: r /\ t v σ H fun σ' H'=>u r σ' H' Q
theorem iP:PGs X [] pR:=by
 intro pins s σ H vs us Q I r h
 obtain ⟨e,h⟩:=h
 subst e
 cases r
 exact assignInOrder_nil ⟨σ,H,I,h⟩
theorem cB {e:Expr} {es:List Expr} {t:TG} {u:TGs} (h1:PG X e t) (h2:PGs X es u)
  (hs:(assignEach (e :: es) X.env).map (·.2) = assign e X.env :: (assignEach es X.env).map (·.2):=by rfl):PGs X (e :: es) (dY t u):=by
 intro pins s σ H vs us Q I r h
 obtain ⟨v,vr,e1,h⟩:=h
 subst e1
 cases r with
 | cons r rr =>
  rw [hs]
  refine assignInOrder_cons (thn (h1 pins s σ H _ _ _ I r h) fun _ s1 ⟨σ1,H1,I1,q1⟩=>?_)
  exact h2 pins s1 σ1 H1 _ _ Q I1 rr q1
def pA (K:PySem.W.Frag) (n:Nat) (t:TGs):TG:=fun v σ H Q=>∃ a xs,v = .ref a /\ SqT K H a xs /\ xs.length = n /\ t xs σ H Q
theorem kr {es:List Expr} {k:Nat} {t:TGs} {n:Nat} (hc:X.calm = true) (h:PGs X es t)
  (hn:(assignEach es X.env).length = n:=by rfl) (hst:(assignEach es X.env).findIdx? (·.1) = none:=by rfl):PG X (.Tuple es k pos) (pA X.K n t):=by
 intro pins s σ H v u Q I r hw
 obtain ⟨a,xs,e1,hq,hl,hw⟩:=hw
 subst e1
 cases r
 obtain ⟨its,rv,ht,hz⟩:=I.tuple hq
 refine assign_Tuple_tuple (I.ok.hd hc) ht (by simp [hn,<- hl,rv.length]) hst fun h' hx=>?_
 have I1:Inv X pins σ H { s with heap:=h' }:=I.kept (t':=s.toks) fun b o e=>hx b o (Nat.ne_of_lt (Heap.lt_size e)) e
 exact h pins _ σ H xs _ Q I1 (by simpa using rv) hw
def CA (to ti:TE) (t:uV):TG:=fun v σ H Q=>to σ H fun o H1=>ti σ H1 fun i H2=>t o i v H2 fun H3=>Q σ H3
theorem x6 {o i:Expr} {to ti:TE} {t:uV} (ho:PE X o to) (hi:PE X i ti) (hs:Bu X t)
  (ha:∀ v,assign (.Subscript o i pos) X.env v = (do
   let ov <- holding [v] (eval o X.env)
   let iv <- holding [v,ov] (eval i X.env)
   standAt pos
   holding [v,ov,iv] (setItem ov iv v)
   release [v,ov,iv] []):=by intro _; rfl):PG X (.Subscript o i pos) (CA to ti t):=by
 intro pins s σ H v u Q I r h
 rw [ha]
 refine wpAny_bind (wpAny_holding (thn (ho pins s σ H _ I h) fun ov s1 ⟨x,H1,I1,r1,q1⟩=>?_))
 refine wpAny_bind (wpAny_holding (thn (hi pins s1 σ H1 _ I1 q1) fun iv s2 ⟨y,H2,I2,r2,q2⟩=>?_))
 refine wpAny_bind (wpAny_standAt (wpAny_bind (wpAny_holding (thn (hs pins s2 σ H2 x y v ov iv u _ I2 r1 r2 r q2) fun _ s3 ⟨H3,I3,q3⟩=>?_))))
 exact wpAny_release ⟨σ,H3,I3,q3⟩
def kO (te:TE) (g:TG):TS:=fun D σ H=>te σ H fun x H1=>g x σ H1 D.nx
theorem rh {tg e:Expr} {te:TE} {g:TG} (he:PE X e te) (hg:PG X tg g) (hs:swapsWithSole [tg] e pos.line X.env = pure false:=by rfl) (hw:swappedStores [tg] e X.env = pure none:=by rfl)
  (h1:(assignEach [tg] X.env).map (·.2) = [assign tg X.env]:=by rfl):PS X (.Assign [tg] e pos) (kO te g):=by
 intro pins s σ H D I h
 refine wpAny_Assign_stores (thn (he pins s σ H _ I h) fun v s1 ⟨x,H1,I1,r1,q1⟩=>?_) hs hw
 rw [h1]
 exact thn (hg pins s1 σ H1 x v _ I1 r1 q1) fun _ s2 q=>q
theorem iC {i:Nat} {x:Str} {e:Expr} {te:TE} {pos':Pos} (hN:X.N.Nodup) (hi:X.N[i]? = some x) (hx:Loc X.env.scope x) (he:PE X e te) (hs:swapsWith e (some (.Name x pos')) pos.line X.env = pure false:=by rfl) (hf:X.fn x = true \/ X.env.scope.names.lookup x = some .local:=by first | exact .inl rfl | exact .inr rfl | assumption) :
  PS X (.Assign [.Name x pos'] e pos) (kO te (bM i)):=by
 intro pins s σ H D I h
 refine wpAny_Assign_Name (thn (he pins s σ H _ I h) fun v s1 ⟨y,H1,I1,r1,q1⟩=>?_) hs
 exact kd I1 hN hi hx r1 (fun s2 I2=>⟨_,H1,I2,q1⟩) hf
def Dv (i j:Nat) (ta:TA):TS:=fun D σ H=>ta σ H fun vs H1=>∃ v w,vs = [v,w] /\ D.nx ((σ.set i (some v)).set j (some w)) H1
def Dg (i:Nat) (te:TE) (ti:TIp):TS:=fun D σ H=>∃ x,σ[i]? = some (some x) /\ te σ H fun y H1=>ti x y H1 fun z H2=>D.nx (σ.set i (some z)) H2
def C4 (to ti te:TE) (tget:V -> V -> Hp -> VK -> Prop) (tip:TIp) (tset:uV):TS:=fun D σ H=>to σ H fun o H1=>ti σ H1 fun i H2=>tget o i H2 fun x H3=>te σ H3 fun y H4=>tip x y H4 fun z H5=>tset o i z H5 fun H6=>D.nx σ H6
def Dr (X:Cx) (t:V -> V -> Hp -> VK -> Prop):Prop :=
 ∀ (pins:List (Addr × Obj)) (s:Shared) (σ:St) (H:Hp) (o i:V) (ov iv:Value) (Q:VK),Inv X pins σ H s -> RelV o ov -> RelV i iv -> t o i H Q ->
  wpAny (model X.prog X.w) X.A (getItem ov iv) (EP X pins σ Q) X.xe s
def ipI (f:Int -> Int -> Int):TIp:=fun x y H Q=>∃ i j,x = .int i /\ y = .int j /\ Q (.int (f i j)) H
end
section
variable {X:Cx} {pos:Pos}
def pT (c:TT) (tb:TS):TS:=fun D σ H=>∃ W:Nat -> St -> Hp -> Prop,(∃ m,W m σ H) /\ ∀ m σ H,W m σ H ->
 c σ H fun b H1=>if b = true then ∃ N:St -> Hp -> Prop,(∀ σ' H',N σ' H' -> ∃ m',m' < m /\ W m' σ' H') /\ tb { D with nx:=N,ct:=N,bk:=D.nx } σ H1 else D.nx σ H1
theorem oz {c:Expr} {body:List Stmt} {tc:TT} {tb:TS} (hp:PassesOwn (model X.prog X.w) X.A X.env X.xe) (hc:PT X c tc) (hb:PSs X body tb):PS X (.While c body [] pos) (pT tc tb):=by
 intro pins s σ H D I h
 obtain ⟨W,⟨m0,w0⟩,turn⟩:=h
 refine wpAny_While (codeAny_whileLoop (fun n s'=>∃ σ' H',Inv X pins σ' H' s' /\ W n σ' H') ?_ m0 ⟨σ,H,I,w0⟩)
 rintro n s1 ⟨σ1,H1,I1,w1⟩
 refine wpAny_passesOwn hp (thn (hc pins s1 σ1 H1 _ I1 (turn n σ1 H1 w1)) fun b s2 ⟨H2,I2,q2⟩=>?_)
 cases b with
 | true =>
  obtain ⟨N,hN,q2⟩:=q2
  rw [if_pos rfl]
  refine wpAny_passesOwn hp (thn (hb pins s2 σ1 H2 _ I2 q2) fun f s3 q3=>?_)
  cases f with
  | next =>
   obtain ⟨σ3,H3,I3,n3⟩:=q3
   obtain ⟨m',hm,w3⟩:=hN σ3 H3 n3
   exact ⟨m',hm,σ3,H3,I3,w3⟩
  | cont =>
   obtain ⟨σ3,H3,I3,n3⟩:=q3
   obtain ⟨m',hm,w3⟩:=hN σ3 H3 n3
   exact ⟨m',hm,σ3,H3,I3,w3⟩
  | brk=>exact q3
  | ret v=>exact q3
 | false =>
  rw [if_neg Bool.false_ne_true]
  exact wpAny_execs_nil ⟨σ1,H2,I2,q2⟩
end
structure It where
 go:Nat -> Hp -> Prop
 yld:Nat -> Hp -> V -> Hp -> Prop
 stop:Nat -> Hp -> Prop
def fW (X:Cx) (pins:List (Addr × Obj)) (H:Hp) (b:Addr):Prop :=
 H b = none /\ b ≠ X.env.locals /\ b ∉ X.fs /\ (b ∈ X.ex \/ X.s₀.heap.objs.size <= b) /\ (∀ x c,X.env.cells.lookup x = some c -> c ≠ b) /\ ∀ p ∈ X.pn ++ pins,p.1 ≠ b
theorem Inv.fpOk {X:Cx} {pins:List (Addr × Obj)} {σ:St} {H H':Hp} {s:Shared} {b:Addr} (I:Inv X pins σ H s) (hb:s.heap.objs.size <= b) (hn:H' b = none):fW X pins H' b:=by
 refine ⟨hn,Nat.ne_of_gt (Nat.lt_of_lt_of_le I.lt hb),I.nofs hb,.inr (Nat.le_trans I.sz hb),fun x c e z=>?_,fun p hp z=>?_⟩
 ·obtain ⟨v,q⟩:=I.cell x c e
  exact absurd (Nat.lt_of_lt_of_le q.lt (by rw [z]; exact hb)) (Nat.lt_irrefl _)
 ·exact absurd (Nat.lt_of_lt_of_le (Heap.lt_size (I.pin p hp).1) (by rw [z]; exact hb)) (Nat.lt_irrefl _)
structure mZ (P:Program) (w:World) (K:PySem.W.Frag) (tg:Expr) (J:It) (fp:List Addr) (it:Addr) (tn:Nat -> Heap -> Prop):Prop where
 mem:it ∈ fp
 obj:∀ i h,tn i h -> ∀ b ∈ fp,∃ o,h.get? b = some o /\ ∀ v,o.data ≠ .cell v
 keep:∀ i h h',tn i h -> (∀ b ∈ fp,∀ o,h.get? b = some o -> h'.get? b = some o) -> tn i h'
 item:∀ (X:Cx),X.prog = P -> X.w = w -> X.K = K -> X.calm = true -> ∀ (i:Nat) (pins:List (Addr × Obj)) (s:Shared) (σ:St) (H:Hp) (E:Value -> Shared -> Prop),Inv X pins σ H s -> (∀ b ∈ fp,fW X pins H b) -> tn i s.heap -> J.go i H ->
  wpAny (model P w) X.A (pyNext (.ref it)) (fun r s1=>∃ u,r = some u /\
   wpAny (model P w) X.A (letOwnedTupleGo tg (.ref it) u) (fun _ s2=>∃ x H',Inv X pins σ H' s2 /\ RelV x u /\ J.yld i H x H' /\ tn (i + 1) s2.heap /\ ∀ b ∈ fp,H' b = none) E s1) E s
 done:∀ (X:Cx),X.prog = P -> X.w = w -> X.K = K -> X.calm = true -> ∀ (i:Nat) (pins:List (Addr × Obj)) (s:Shared) (σ:St) (H:Hp) (E:Value -> Shared -> Prop),Inv X pins σ H s -> (∀ b ∈ fp,fW X pins H b) -> tn i s.heap -> J.stop i H ->
  wpAny (model P w) X.A (pyNext (.ref it)) (fun r s1=>r = none /\ Inv X pins σ H s1) E s
 self:∀ (A:Around) (i:Nat) (s:Shared) (Q:Value -> Shared -> Prop) (E:Value -> Shared -> Prop),tn i s.heap -> Q (.ref it) s -> wpAny (model P w) A (pyIter (.ref it)) Q E s
abbrev TI:=St -> Hp -> (It -> Hp -> Prop) -> Prop
def PIE (X:Cx) (pins:List (Addr × Obj)) (σ:St) (tg:Expr) (R:It -> Hp -> Prop) (itv:Value) (s2:Shared):Prop :=
 ∃ (it:Addr) (fp:List Addr) (tn:Nat -> Heap -> Prop) (J:It) (H':Hp),itv = .ref it /\ Inv X pins σ H' s2 /\ mZ X.prog X.w X.K tg J fp it tn /\ tn 0 s2.heap /\ (∀ b ∈ fp,fW X pins H' b) /\ R J H'
def PI (X:Cx) (tg iter:Expr) (wi:TI):Prop :=
 ∀ (pins:List (Addr × Obj)) (s:Shared) (σ:St) (H:Hp) (R:It -> Hp -> Prop),Inv X pins σ H s -> wi σ H R ->
  wpAny (model X.prog X.w) X.A (eval iter X.env) (fun v s1=>wpAny (model X.prog X.w) X.A (pyIter v) (PIE X pins σ tg R) X.xe s1) X.xe s
theorem qX {M:Model} {A:Around} {E:Value -> Shared -> Prop} {s:Shared} {tg:Expr} {it:Addr} {u:Value} {o:Obj} {n:String} {vs:Array Value} {Q:Unit -> Shared -> Prop} (ho:s.heap.get? it = some o) (hc:o.cls = .type n) (hd:o.data = .fields vs)
  (hn:["enumerate","zip","dict_itemiterator","dict_reverseitemiterator","odict_iterator","itertools.zip_longest","itertools.pairwise"].contains n = false) (hQ:Q () s):wpAny M A (letOwnedTupleGo tg (.ref it) u) Q E s:=by
 unfold letOwnedTupleGo
 cases tg <;> first
  | exact wpAny_pure hQ
  | (cases u <;> first
    | exact wpAny_pure hQ
    | (refine wpAny_bind (wpAny_load ho ?_)
       rw [hc,hd]
       show wpAny M A (if (["enumerate","zip","dict_itemiterator","dict_reverseitemiterator","odict_iterator","itertools.zip_longest","itertools.pairwise"].contains n && vs[0]? == some (rawInt _)) = true then _ else _) Q E s
       rw [if_neg (by intro h; rw [hn,Bool.false_and] at h; cases h)]
       exact wpAny_pure hQ))
def Itl (K:PySem.W.Frag) (a:Addr):It :=
 ⟨fun i H=>∃ xs x,SqL K H a xs /\ xs[i]? = some x,fun i H x H'=>H' = H /\ ∀ xs,SqL K H a xs -> xs[i]? = some x,fun i H=>∃ xs,SqL K H a xs /\ xs.length <= i⟩
def Itt (K:PySem.W.Frag) (a:Addr):It :=
 ⟨fun i H=>∃ xs x,SqT K H a xs /\ xs[i]? = some x,fun i H x H'=>H' = H /\ ∀ xs,SqT K H a xs -> xs[i]? = some x,fun i H=>∃ xs,SqT K H a xs /\ xs.length <= i⟩
def Itr (lo:Int) (n:Nat):It:=⟨fun i _=>i < n,fun i H x H'=>H' = H /\ x = .int (lo + i),fun i _=>n <= i⟩
theorem mH {P:Program} {w:World} {K:PySem.W.Frag} {tg:Expr} (a it:Addr):mZ P w K tg (Itl K a) [it] it (fun i h=>h.IsListIter it a i) where
 mem:=by simp
 obj:=fun i h st b hb=>by
  have e:b = it:=by simpa using hb
  subst e
  obtain ⟨o,e,c,d⟩:=st
  exact ⟨o,e,fun v z=>by rw [d] at z; cases z⟩
 keep:=fun i h h' st k=>st.at fun o e=>k it (by simp) o e
 item:=by
  intro X hP hw hK hc i pins s σ H E I hf st hg
  subst hP hw hK
  obtain ⟨xs,x,hq,hx⟩:=hg
  obtain ⟨its,rv,p,hz⟩:=I.list hq
  obtain ⟨u,hu,ru⟩:=rv.get hx
  obtain ⟨f0,f1,f2,f3,f4,f5⟩:=hf it (by simp)
  refine wpAny_pyNext_list_item st p.isList (x:=u) (by simpa using hu) fun h' st' sb=>?_
  have I1:Inv X pins σ H { s with heap:=h' }:=I.turned (t':=s.toks) (fun b o hb e=>(sb.2 b hb).trans e) f0 f1 f3 f4 f5
  obtain ⟨o,e,c,d⟩:=id st'
  exact ⟨u,rfl,qX (s:={ s with heap:=h' }) e c d (by decide) ⟨x,H,I1,ru,⟨rfl,fun ys hy=>by rw [I.list_inj hy hq]; exact hx⟩,st',fun b hb=>(hf b hb).1⟩⟩
 done:=by
  intro X hP hw hK hc i pins s σ H E I hf st hg
  subst hP hw hK
  obtain ⟨xs,hq,hx⟩:=hg
  obtain ⟨its,rv,p,hz⟩:=I.list hq
  obtain ⟨f0,f1,f2,f3,f4,f5⟩:=hf it (by simp)
  have hl:=rv.length
  exact wpAny_pyNext_list_end (I.ok.hd hc) st p.isList (by simp; omega) fun h' eb=>⟨rfl,I.turned (t':=s.toks) (fun b o hb e=>eb b o hb e) f0 f1 f3 f4 f5⟩
 self:=fun _ _ _ _ _ st h=>wpAny_pyIter_listiter st h
theorem kS {P:Program} {w:World} {K:PySem.W.Frag} {tg:Expr} (a it:Addr):mZ P w K tg (Itt K a) [it] it (fun i h=>h.IsTupleIter it a i) where
 mem:=by simp
 obj:=fun i h st b hb=>by
  have e:b = it:=by simpa using hb
  subst e
  obtain ⟨o,e,c,d⟩:=st
  exact ⟨o,e,fun v z=>by rw [d] at z; cases z⟩
 keep:=fun i h h' st k=>st.at fun o e=>k it (by simp) o e
 item:=by
  intro X hP hw hK hc i pins s σ H E I hf st hg
  subst hP hw hK
  obtain ⟨xs,x,hq,hx⟩:=hg
  obtain ⟨its,rv,p,hz⟩:=I.tuple hq
  obtain ⟨u,hu,ru⟩:=rv.get hx
  obtain ⟨f0,f1,f2,f3,f4,f5⟩:=hf it (by simp)
  refine wpAny_pyNext_tuple_item st (show s.heap.IsTuple a its.toArray from p) (x:=u) (by simpa using hu) fun h' st' sb=>?_
  have I1:Inv X pins σ H { s with heap:=h' }:=I.turned (t':=s.toks) (fun b o hb e=>(sb.2 b hb).trans e) f0 f1 f3 f4 f5
  obtain ⟨o,e,c,d⟩:=id st'
  exact ⟨u,rfl,qX (s:={ s with heap:=h' }) e c d (by decide) ⟨x,H,I1,ru,⟨rfl,fun ys hy=>by rw [I.tuple_inj hy hq]; exact hx⟩,st',fun b hb=>(hf b hb).1⟩⟩
 done:=by
  intro X hP hw hK hc i pins s σ H E I hf st hg
  subst hP hw hK
  obtain ⟨xs,hq,hx⟩:=hg
  obtain ⟨its,rv,p,hz⟩:=I.tuple hq
  obtain ⟨f0,f1,f2,f3,f4,f5⟩:=hf it (by simp)
  have hl:=rv.length
  exact wpAny_pyNext_tuple_end (I.ok.hd hc) st (show s.heap.IsTuple a its.toArray from p) (by simp; omega) fun h' eb=>⟨rfl,I.turned (t':=s.toks) (fun b o hb e=>eb b o hb e) f0 f1 f3 f4 f5⟩
 self:=fun _ _ _ _ _ st h=>wpAny_pyIter_tupleiter st h
theorem ky {P:Program} {w:World} {K:PySem.W.Frag} {tg:Expr} (it:Addr) (lo:Int) (n:Nat):mZ P w K tg (Itr lo n) [it] it (fun i h=>IsRangeIter h it (lo + (i:Nat) * 1) ((n:Int) - (i:Nat)) 1) where
 mem:=by simp
 obj:=fun i h st b hb=>by
  have e:b = it:=by simpa using hb
  subst e
  exact ⟨_,st,fun v z=>by
   have z':Data.fields _ = Data.cell v:=z
   cases z'⟩
 keep:=fun i h h' st k=>k it (by simp) _ st
 item:=by
  intro X hP hw hK hc i pins s σ H E I hf st hg
  subst hP hw hK
  obtain ⟨f0,f1,f2,f3,f4,f5⟩:=hf it (by simp)
  have W:=Walks.range (prog:=X.prog) (w:=X.w) (I.ok.hd hc) it lo 1 n
  refine W.item i s _ _ hg st fun v h' tk hv st' kk=>?_
  obtain ⟨t,rfl⟩:=hv
  have I1:Inv X pins σ H { s with heap:=h',toks:=tk }:=I.turned (fun b o hb e=>kk b o (by simpa using hb) e) f0 f1 f3 f4 f5
  refine ⟨_,rfl,qX (s:={ s with heap:=h',toks:=tk }) (n:="range_iterator") st' rfl rfl (by decide) ⟨.int (lo + i),H,I1,⟨t,?_⟩,⟨rfl,rfl⟩,st',fun b hb=>(hf b hb).1⟩⟩
  rw [Int.mul_one]
 done:=by
  intro X hP hw hK hc i pins s σ H E I hf st hg
  subst hP hw hK
  obtain ⟨f0,f1,f2,f3,f4,f5⟩:=hf it (by simp)
  exact wpAny_pyNext_range_end (I.ok.hd hc) st (by have:n <= i:=hg; omega) fun h' eb=>⟨rfl,I.turned (t':=s.toks) (fun b o hb e=>eb b o hb e) f0 f1 f3 f4 f5⟩
 self:=fun _ _ _ _ _ st h=>wpAny_pyIter_rangeiter st h
end L2
namespace L2
open PySem PySem.Spec PyProof.Rows
section
variable {X:Cx} {tg:Expr}
def qr (K:PySem.W.Frag) (tl:TE):TI:=fun σ H R=>tl σ H fun x H1=>∃ a,x = .ref a /\ (∃ xs,SqL K H1 a xs) /\ R (Itl K a) H1
def AR (K:PySem.W.Frag) (tl:TE):TI:=fun σ H R=>tl σ H fun x H1=>∃ a,x = .ref a /\ (∃ xs,SqT K H1 a xs) /\ R (Itt K a) H1
theorem iB {l:Expr} {tl:TE} (hl:PE X l tl):PI X tg l (qr X.K tl):=by
 intro pins s σ H R I h
 refine thn (hl pins s σ H _ I h) fun v s1 ⟨x,H1,I1,r1,q1⟩=>?_
 obtain ⟨a,e,⟨xs,hq⟩,q⟩:=q1
 subst e
 cases r1
 obtain ⟨its,rv,p,hz⟩:=I1.list hq
 refine wpAny_pyIter_list p.isList ?_
 refine ⟨s1.heap.objs.size,[s1.heap.objs.size],_,_,H1,rfl,I1.kept (t':=s1.toks) fun b o e=>Heap.get?_push_of_some _ e,mH a _,⟨_,Heap.get?_push_size _ rfl,rfl,rfl⟩,fun b hb=>?_,q⟩
 have e:b = s1.heap.objs.size:=by simpa using hb
 subst e
 exact I1.fpOk (Nat.le_refl _) (I1.hok.fresh (Nat.le_refl _))
theorem y0 {l:Expr} {tl:TE} (hl:PE X l tl):PI X tg l (AR X.K tl):=by
 intro pins s σ H R I h
 refine thn (hl pins s σ H _ I h) fun v s1 ⟨x,H1,I1,r1,q1⟩=>?_
 obtain ⟨a,e,⟨xs,hq⟩,q⟩:=q1
 subst e
 cases r1
 obtain ⟨its,rv,p,hz⟩:=I1.tuple hq
 refine wpAny_pyIter_tuple (show s1.heap.IsTuple a its.toArray from p) ?_
 refine ⟨s1.heap.objs.size,[s1.heap.objs.size],_,_,H1,rfl,I1.kept (t':=s1.toks) fun b o e=>Heap.get?_push_of_some _ e,kS a _,⟨_,Heap.get?_push_size _ rfl,rfl,rfl⟩,fun b hb=>?_,q⟩
 have e:b = s1.heap.objs.size:=by simpa using hb
 subst e
 exact I1.fpOk (Nat.le_refl _) (I1.hok.fresh (Nat.le_refl _))
theorem qd {pins:List (Addr × Obj)} {σ:St} {H:Hp} {s:Shared} {R:It -> Hp -> Prop} {E:Value -> Shared -> Prop} {lo hi:Int} {t u v:Tok} {tk:Nat} (I:Inv X pins σ H s) (h1:-(2 ^ 62) <= lo) (h2:lo < 2 ^ 62) (h3:-(2 ^ 62) <= hi) (h4:hi < 2 ^ 62)
  (q:R (Itr lo (hi - lo).toNat) H):wpAny (model X.prog X.w) X.A (pyIter (.ref s.heap.objs.size)) (PIE X pins σ tg R) E { s with heap:=s.heap.push { cls:=.type "range",data:=.fields #[.int lo t,.int hi u,.int 1 v] },toks:=tk }:=by
 refine wpAny_pyIter_range (IsRange.new ..) (small_one h1 h2 h3 h4) ?_
 have I1:Inv X pins σ H { s with heap:=s.heap.push { cls:=.type "range",data:=.fields #[.int lo t,.int hi u,.int 1 v] },toks:=tk }:=I.kept fun b o e=>Heap.get?_push_of_some _ e
 refine ⟨(s.heap.push { cls:=.type "range",data:=.fields #[.int lo t,.int hi u,.int 1 v] }).objs.size,[(s.heap.push { cls:=.type "range",data:=.fields #[.int lo t,.int hi u,.int 1 v] }).objs.size],_,_,H,rfl,
  I1.kept (t':=tk) fun b o e=>Heap.get?_push_of_some _ e,ky _ lo (hi - lo).toNat,?_,fun b hb=>?_,q⟩
 ·have e1:lo + ((0:Nat):Int) * 1 = lo:=by simp
  have e2:(((hi - lo).toNat:Nat):Int) - ((0:Nat):Int) = Builtin.Range.rangeSize lo hi 1:=by rw [rangeSize_one]; split <;> omega
  show IsRangeIter _ _ (lo + ((0:Nat):Int) * 1) ((((hi - lo).toNat:Nat):Int) - ((0:Nat):Int)) 1
  rw [e1,e2]
  exact Heap.get?_push_size _ rfl
 ·have e:b = (s.heap.push { cls:=.type "range",data:=.fields #[.int lo t,.int hi u,.int 1 v] }).objs.size:=by simpa using hb
  subst e
  exact I1.fpOk (Nat.le_refl _) (I1.hok.fresh (Nat.le_refl _))
def vo (ta:TA):TI:=fun σ H R=>ta σ H fun vs H1=>∃ j:Int,vs = [.int j] /\ -(2 ^ 62) <= j /\ j < 2 ^ 62 /\ R (Itr 0 j.toNat) H1
def C2 (ta:TA):TI:=fun σ H R=>ta σ H fun vs H1=>∃ i j:Int,vs = [.int i,.int j] /\ (-(2 ^ 62) <= i /\ i < 2 ^ 62 /\ -(2 ^ 62) <= j /\ j < 2 ^ 62) /\ R (Itr i (j - i).toNat) H1
theorem mO {a:Expr} {ta:TA} {p pos:Pos} (hg:Gl X "range") (hm:X.mg "range" = none) (ha:PA X [a] ta) (hs:starEach [a] X.env = [(false,eval a X.env)]:=by rfl):PI X tg (.Call (.Name "range" p) [a] [] pos) (vo ta):=by
 intro pins s σ H R I h
 refine Call_ (dz I hg hm boot_range (PyProof.Rows.callWith_type1 (thn (ha pos pins s σ H _ I h) fun us s1 ⟨vs,H1,I1,r1,q1⟩=>?_) hs rfl))
 obtain ⟨j,e,q1,q2,q⟩:=q1
 subst e
 cases r1 with
 | cons r rr =>
  cases rr
  obtain ⟨t,rfl⟩:=r
  exact call_range_1 (qd I1 (by omega) (by omega) q1 q2 (by simpa using q))
def Br (wi:TI) (g:TG) (tb:TS):TS:=fun D σ H=>wi σ H fun J H1=>∃ W:Nat -> Nat -> St -> Hp -> Prop,(∃ m,W 0 m σ H1) /\ ∀ i m σ H,W i m σ H ->
 (J.stop i H /\ D.nx σ H) \/ (J.go i H /\ ∃ N:St -> Hp -> Prop,(∀ σ' H',N σ' H' -> ∃ m',m' < m /\ W (i + 1) m' σ' H') /\ ∀ x H',J.yld i H x H' -> g x σ H' fun σ2 H2=>tb { D with nx:=N,ct:=N,bk:=D.nx } σ2 H2)
def gq (fp:List Addr) (h:Heap):List (Addr × Obj):=fp.filterMap fun b=>(h.get? b).map fun o=>(b,o)
theorem bA {fp:List Addr} {h:Heap} {b:Addr} {o:Obj} (hb:b ∈ fp) (e:h.get? b = some o):(b,o) ∈ gq fp h:=List.mem_filterMap.mpr ⟨b,hb,by rw [e]; rfl⟩
theorem nQ {fp:List Addr} {h:Heap} {p:Addr × Obj} (hp:p ∈ gq fp h):p.1 ∈ fp /\ h.get? p.1 = some p.2:=by
 obtain ⟨b,hb,e⟩:=List.mem_filterMap.mp hp
 cases q:h.get? b with
 | none=>rw [q] at e; cases e
 | some o =>
  rw [q] at e
  have e':(b,o) = p:=Option.some.inj e
  subst e'
  exact ⟨hb,q⟩
theorem Inv.pinned {pins:List (Addr × Obj)} {σ:St} {H:Hp} {s:Shared} {fp:List Addr} (I:Inv X pins σ H s) (hf:∀ b ∈ fp,fW X pins H b) (ho:∀ b ∈ fp,∃ o,s.heap.get? b = some o /\ ∀ v,o.data ≠ .cell v):Inv X (pins ++ gq fp s.heap) σ H s :=
 I.pins_of fun p hp=>(List.mem_append.mp hp).elim (fun z=>I.pin p (List.mem_append_right _ z)) fun z=>by
  obtain ⟨hb,e⟩:=nQ z
  obtain ⟨f0,f1,f2,_⟩:=hf p.1 hb
  obtain ⟨o,e',d⟩:=ho p.1 hb
  rw [e] at e'; cases e'
  exact ⟨e,f0,f1,f2,d⟩
theorem Inv.unpinned {pins pl:List (Addr × Obj)} {σ:St} {H:Hp} {s:Shared} (I:Inv X (pins ++ pl) σ H s):Inv X pins σ H s:=I.pins_of fun p hp=>I.pin p (List.mem_append_right _ (List.mem_append_left _ hp))
theorem kZ {iter:Expr} {body:List Stmt} {wi:TI} {g:TG} {tb:TS} {pos:Pos} (hp:PassesOwn (model X.prog X.w) X.A X.env X.xe) (hc:X.calm = true) (hi:PI X tg iter wi) (hg:PG X tg g) (hb:PSs X body tb)
  (hs:∀ x,foldedSetIterable iter X.env x = pure x:=by intro _; rfl):PS X (.For tg iter body [] pos) (Br wi g tb):=by
 intro pins s σ H D I h
 refine wpAny_For (thn (hi pins s σ H _ I h) fun v s1 h1=>thn h1 fun itv s2 h2=>?_) hs
 obtain ⟨it,fp,tn,J,H2,e,I2,T,st2,f2,W,⟨m0,w0⟩,turn⟩:=h2
 subst e
 -- what stays true of the iterator's objects through the loop
 have stat:∀ {H':Hp},(∀ b ∈ fp,H' b = none) -> ∀ b ∈ fp,fW X pins H' b:=fun hn b hb=>⟨hn b hb,(f2 b hb).2⟩
 refine codeAny_forLoop_any (fun n s'=>∃ i σ' H',Inv X pins σ' H' s' /\ tn i s'.heap /\ (∀ b ∈ fp,H' b = none) /\ W i n σ' H') ?_ m0 ⟨0,σ,H2,I2,st2,fun b hb=>(f2 b hb).1,w0⟩
 rintro n s3 ⟨i,σ3,H3,I3,st3,fr3,w3⟩
 rcases turn i n σ3 H3 w3 with ⟨stop,qn⟩ | ⟨go,N,hN,step⟩
 ·refine wpAny_passesOwn hp (thn (T.done X rfl rfl rfl hc i pins s3 σ3 H3 X.xe I3 (stat fr3) st3 stop) fun r s4 ⟨hr,I4⟩=>?_)
  subst hr
  exact wpAny_execs_nil ⟨σ3,H3,I4,qn⟩
 ·refine wpAny_passesOwn hp (thn (T.item X rfl rfl rfl hc i pins s3 σ3 H3 X.xe I3 (stat fr3) st3 go) fun r s4 ⟨u,hr,h4⟩=>?_)
  subst hr
  refine wpAny_passesOwn hp (thn h4 fun _ s5 ⟨x,H5,I5,r5,y5,st5,fr5⟩=>?_)
  have I5':=I5.pinned (stat fr5) (T.obj _ _ st5)
  refine wpAny_passesOwn hp (thn (hg _ s5 σ3 H5 x u _ I5' r5 (step x H5 y5)) fun _ s6 ⟨σ6,H6,I6,q6⟩=>?_)
  refine wpAny_passesOwn hp (thn (hb _ s6 σ6 H6 _ I6 q6) fun f s7 q7=>?_)
  have again:∀ {σ7:St} {H7:Hp},Inv X (pins ++ gq fp s5.heap) σ7 H7 s7 -> N σ7 H7 -> ∃ m,m < n /\ ∃ i σ' H',Inv X pins σ' H' s7 /\ tn i s7.heap /\ (∀ b ∈ fp,H' b = none) /\ W i m σ' H':=fun {σ7 H7} I7 n7=>by
   obtain ⟨m',hm,w7⟩:=hN σ7 H7 n7
   refine ⟨m',hm,i + 1,σ7,H7,I7.unpinned,T.keep _ _ _ st5 fun b hb o e=>(I7.pin (b,o) (List.mem_append_right _ (List.mem_append_right _ (bA hb e)))).1,fun b hb=>?_,w7⟩
   obtain ⟨o,e,d⟩:=T.obj _ _ st5 b hb
   exact (I7.pin (b,o) (List.mem_append_right _ (List.mem_append_right _ (bA hb e)))).2.1
  cases f with
  | next=>obtain ⟨σ7,H7,I7,n7⟩:=q7; exact again I7 n7
  | cont=>obtain ⟨σ7,H7,I7,n7⟩:=q7; exact again I7 n7
  | brk=>obtain ⟨σ7,H7,I7,q7⟩:=q7; exact ⟨σ7,H7,I7.unpinned,q7⟩
  | ret v=>obtain ⟨x7,σ7,H7,I7,r7,q7⟩:=q7; exact ⟨x7,σ7,H7,I7.unpinned,r7,q7⟩
end
theorem pe {K:PySem.W.Frag} {a:Addr} {xs:List V} {g:TG} {tb:TS} {D:bY} {σ:St} {H:Hp} (Pv:Nat -> St -> Hp -> Prop) (h0:Pv 0 σ H) (hl:∀ i σ H,i <= xs.length -> Pv i σ H -> SqL K H a xs)
  (hs:∀ i x σ H,xs[i]? = some x -> Pv i σ H -> g x σ H fun σ2 H2=>tb { D with nx:=Pv (i + 1),ct:=Pv (i + 1),bk:=D.nx } σ2 H2) (hd:∀ σ H,Pv xs.length σ H -> D.nx σ H) :
  ∃ W:Nat -> Nat -> St -> Hp -> Prop,(∃ m,W 0 m σ H) /\ ∀ i m σ H,W i m σ H ->
   ((Itl K a).stop i H /\ D.nx σ H) \/ ((Itl K a).go i H /\ ∃ N:St -> Hp -> Prop,(∀ σ' H',N σ' H' -> ∃ m',m' < m /\ W (i + 1) m' σ' H') /\ ∀ x H',(Itl K a).yld i H x H' -> g x σ H' fun σ2 H2=>tb { D with nx:=N,ct:=N,bk:=D.nx } σ2 H2):=by
 refine ⟨fun i m σ H=>m = xs.length - i /\ i <= xs.length /\ Pv i σ H,⟨xs.length,by simp,Nat.zero_le _,h0⟩,?_⟩
 rintro i m σ H ⟨rfl,hi,p⟩
 have q:=hl i σ H hi p
 by_cases hlt:i < xs.length
 ·refine .inr ⟨⟨xs,xs[i],q,by simp [hlt]⟩,Pv (i + 1),fun σ' H' p'=>⟨xs.length - (i + 1),by omega,rfl,hlt,p'⟩,fun x H' y=>?_⟩
  obtain ⟨e,y⟩:=y
  subst e
  exact hs i x σ _ (y xs q) p
 ·have e:i = xs.length:=by omega
  subst e
  exact .inl ⟨⟨xs,q,Nat.le_refl _⟩,hd σ H p⟩
end L2
namespace L2
open PySem PySem.Spec PyProof.Rows
abbrev R2:=V -> V -> Hp -> VK -> Prop
def OpR (X:Cx) (f:Value -> Value -> Sem Value) (r:R2):Prop :=
 ∀ (pins:List (Addr × Obj)) (s:Shared) (σ:St) (H:Hp) (x y:V) (v u:Value) (Q:VK),Inv X pins σ H s -> RelV x v -> RelV y u -> r x y H Q ->
  wpAny (model X.prog X.w) X.A (f v u) (EP X pins σ Q) X.xe s
def UnR (X:Cx) (f:Value -> Sem Value) (r:V -> Hp -> VK -> Prop):Prop :=
 ∀ (pins:List (Addr × Obj)) (s:Shared) (σ:St) (H:Hp) (x:V) (v:Value) (Q:VK),Inv X pins σ H s -> RelV x v -> r x H Q ->
  wpAny (model X.prog X.w) X.A (f v) (EP X pins σ Q) X.xe s
def cX (X:Cx) (f:Value) (r:List V -> Hp -> VK -> Prop):Prop :=
 ∀ (pins:List (Addr × Obj)) (s:Shared) (σ:St) (H:Hp) (xs:List V) (us:List Value) (Q:VK),Inv X pins σ H s -> Vals xs us -> r xs H Q ->
  wpAny (model X.prog X.w) X.A (call f us) (EP X pins σ Q) X.xe s
def BK (X:Cx) (r:V -> Hp -> (Bool -> Hp -> Prop) -> Prop):Prop :=
 ∀ (pins:List (Addr × Obj)) (s:Shared) (σ:St) (H:Hp) (x:V) (v:Value) (Q:Bool -> Hp -> Prop),Inv X pins σ H s -> RelV x v -> r x H Q ->
  wpAny (model X.prog X.w) X.A (truthy v) (TP X pins σ Q) X.xe s
def tOp (r:R2) (ta tb:TE):TE:=fun σ H Q=>ta σ H fun x H1=>tb σ H1 fun y H2=>r x y H2 Q
def tUn (r:V -> Hp -> VK -> Prop) (ta:TE):TE:=fun σ H Q=>ta σ H fun x H1=>r x H1 Q
def rI (C:Int -> Int -> Prop) (g:Int -> Int -> V):R2:=fun x y H Q=>∃ i j,x = .int i /\ y = .int j /\ C i j /\ Q (g i j) H
def rI0 (g:Int -> Int -> V):R2:=fun x y H Q=>∃ i j,x = .int i /\ y = .int j /\ Q (g i j) H
def rU (g:Int -> V):V -> Hp -> VK -> Prop:=fun x H Q=>∃ i,x = .int i /\ Q (g i) H
section
variable {X:Cx} {a b c:Expr} {ta tb tc:TE} {pos:Pos}
theorem yH (ha:PE X a ta) (hb:PE X b tb) {pins:List (Addr × Obj)} {s:Shared} {σ:St} {H:Hp} {R:V -> V -> Hp -> Prop} (I:Inv X pins σ H s)
  (h:ta σ H fun x H1=>tb σ H1 fun y H2=>R x y H2) {Q:Value -> Shared -> Prop} {f:Value -> Value -> Sem Value}
  (hf:∀ v u s2 x y H2,Inv X pins σ H2 s2 -> RelV x v -> RelV y u -> R x y H2 -> wpAny (model X.prog X.w) X.A (f v u) Q X.xe s2) :
  wpAny (model X.prog X.w) X.A (eval a X.env) (fun v s₁=>wpAny (model X.prog X.w) X.A (eval b X.env) (fun u s₂=>wpAny (model X.prog X.w) X.A (f v u) Q X.xe s₂) X.xe s₁) X.xe s:=by
 refine thn (ha pins s σ H _ I h) fun v s1 ⟨x,H1,I1,r1,q1⟩=>?_
 refine thn (hb pins s1 σ H1 _ I1 q1) fun u s2 ⟨y,H2,I2,r2,q2⟩=>?_
 exact hf v u s2 x y H2 I2 r1 r2 q2
theorem fx {op:Operator} {r:R2} (ho:OpR X (binaryOp op) r) (ha:PE X a ta) (hb:PE X b tb):PE X (.BinOp a op b pos) (tOp r ta tb):=by
 intro pins s σ H Q I h
 exact wpAny_BinOp (yH ha hb I h fun v u s2 x y H2 I2 rx ry q=>ho pins s2 σ H2 x y v u Q I2 rx ry q)
theorem zX {op:UnaryOp} {r:V -> Hp -> VK -> Prop} (ho:UnR X (unaryOp op) r) (ha:PE X a ta):PE X (.UnaryOp op a pos) (tUn r ta):=by
 intro pins s σ H Q I h
 exact UnaryOp_ (thn (ha pins s σ H _ I h) fun v s1 ⟨x,H1,I1,r1,q1⟩=>ho pins s1 σ H1 x v Q I1 r1 q1)
theorem opI {f:Value -> Value -> Sem Value} {C:Int -> Int -> Prop} {g:Int -> Int -> Int}
  (rule:∀ (i j:Int) (t u:Tok) (s:Shared) (Q:Value -> Shared -> Prop) (E:Value -> Shared -> Prop),C i j -> Q (.int (g i j) s.toks) { s with toks:=s.toks + 1 } -> wpAny (model X.prog X.w) X.A (f (.int i t) (.int j u)) Q E s) :
  OpR X f (rI C fun i j=>.int (g i j)):=by
 intro pins s σ H x y v u Q I rx ry h
 obtain ⟨i,j,rfl,rfl,hc,q⟩:=h
 obtain ⟨t,rfl⟩:=rx
 obtain ⟨t',rfl⟩:=ry
 exact rule i j t t' s _ _ hc ⟨.int (g i j),H,I.tok _,⟨_,rfl⟩,q⟩
theorem Bh {f:Value -> Value -> Sem Value} {g:Int -> Int -> Int}
  (rule:∀ (i j:Int) (t u:Tok) (s:Shared) (Q:Value -> Shared -> Prop) (E:Value -> Shared -> Prop),Q (.int (g i j) s.toks) { s with toks:=s.toks + 1 } -> wpAny (model X.prog X.w) X.A (f (.int i t) (.int j u)) Q E s) :
  OpR X f (rI0 fun i j=>.int (g i j)):=by
 intro pins s σ H x y v u Q I rx ry h
 obtain ⟨i,j,rfl,rfl,q⟩:=h
 obtain ⟨t,rfl⟩:=rx
 obtain ⟨t',rfl⟩:=ry
 exact rule i j t t' s _ _ ⟨.int (g i j),H,I.tok _,⟨_,rfl⟩,q⟩
theorem rG {f:Value -> Value -> Sem Value} {g:Int -> Int -> Bool}
  (rule:∀ (i j:Int) (t u:Tok) (s:Shared) (Q:Value -> Shared -> Prop) (E:Value -> Shared -> Prop),Q (.bool (g i j)) s -> wpAny (model X.prog X.w) X.A (f (.int i t) (.int j u)) Q E s) :
  OpR X f (rI0 fun i j=>.bl (g i j)):=by
 intro pins s σ H x y v u Q I rx ry h
 obtain ⟨i,j,rfl,rfl,q⟩:=h
 obtain ⟨t,rfl⟩:=rx
 obtain ⟨t',rfl⟩:=ry
 exact rule i j t t' s _ _ ⟨.bl (g i j),H,I,rfl,q⟩
def vZ (i j:Int):Prop:=0 < j /\ j < 1073741824
def CQ (i j:Int):Prop:=j ≠ 0 /\ j.natAbs < 1073741824
def xw (i j:Int):Prop:=0 <= j /\ j <= 1000000 /\ i.natAbs < 2 ^ 64
def CMul (i j:Int):Prop:=(-(2 ^ 64) < i /\ i < 2 ^ 64) \/ (-(2 ^ 64) < j /\ j < 2 ^ 64)
theorem CMul.ok {i j:Int} (h:CMul i j):IntMulOk i j:=by
 rcases h with ⟨h1,h2⟩ | ⟨h1,h2⟩
 ·exact .of_left (intBits_le_64 h1 h2)
 ·exact .of_right (intBits_le_64 h1 h2)
theorem op_add:OpR X (binaryOp .Add) (rI0 fun i j=>.int (i + j)):=Bh fun _ _ _ _ _ _ _ q=>add_int q
theorem wt:OpR X (binaryOp .Sub) (rI0 fun i j=>.int (i - j)):=Bh fun _ _ _ _ _ _ _ q=>sub_int q
theorem op_mul:OpR X (binaryOp .Mult) (rI CMul fun i j=>.int (i * j)):=opI fun _ _ _ _ _ _ _ hc q=>mul_int q hc.ok
theorem rN:OpR X (binaryOp .FloorDiv) (rI vZ fun i j=>.int (i / j)):=opI fun i j _ _ _ _ _ hc q=>by
 have h1:(0:Int) < j:=hc.1
 have h2:j < 1073741824:=hc.2
 exact floordiv_int (by omega) (by rw [Int.fdiv_eq_ediv_of_nonneg i (by omega)]; exact q) (.inl (PyProof.noPylong_small (by omega)))
theorem ya:OpR X (binaryOp .Mod) (rI (fun _ j=>0 < j) fun i j=>.int (i % j)):=opI fun i j _ _ _ _ _ hc q=>by
 have h1:(0:Int) < j:=hc
 exact mod_int' (by omega) (by rw [Int.fmod_eq_emod_of_nonneg i (by omega)]; exact q)
theorem yG:OpR X (binaryOp .Pow) (rI xw fun i j=>.int (i ^ j.toNat)):=opI fun _ _ _ _ _ _ _ hc q=>pow_int_small hc.1 hc.2.1 hc.2.2 q
theorem unI {f:Value -> Sem Value} {g:Int -> Int}
  (rule:∀ (i:Int) (t:Tok) (s:Shared) (Q:Value -> Shared -> Prop) (E:Value -> Shared -> Prop),Q (.int (g i) s.toks) { s with toks:=s.toks + 1 } -> wpAny (model X.prog X.w) X.A (f (.int i t)) Q E s) :
  UnR X f (rU fun i=>.int (g i)):=by
 intro pins s σ H x v Q I rx h
 obtain ⟨i,rfl,q⟩:=h
 obtain ⟨t,rfl⟩:=rx
 exact rule i t s _ _ ⟨.int (g i),H,I.tok _,⟨_,rfl⟩,q⟩
theorem yI:UnR X (unaryOp .USub) (rU fun i=>.int (-i)):=unI fun _ _ _ _ _ q=>neg_int q
end
def Am:V -> V -> Bool
 | .non,.non=>true | .non,.int _=>true | .int _,.non=>true | .non,.bl _=>true | .bl _,.non=>true | .non,.str _=>true | .str _,.non=>true
 | .int _,.int _=>true | .bl _,.bl _=>true | .str _,.str _=>true | .byt _,.byt _=>true
 | .int _,.str _=>true | .str _,.int _=>true | .bl _,.str _=>true | .str _,.bl _=>true
 | _,_=>false
def rEq:R2:=fun x y H Q=>Am x y = true /\ Q (.bl (decide (x = y))) H
def rNe:R2:=fun x y H Q=>Am x y = true /\ Q (.bl (!decide (x = y))) H
section
variable {X:Cx} {a b c:Expr} {ta tb tc:TE} {pos:Pos}
theorem yR {pins:List (Addr × Obj)} {σ:St} {H:Hp} {s:Shared} {Q:VK} {k k':Bool} (I:Inv X pins σ H s) (q:Q (.bl k) H) (e:k = k'):EP X pins σ Q (.bool k') s:=by
 subst e
 exact ⟨.bl k,H,I,rfl,q⟩
theorem vQ:OpR X (compareOp .Lt) (rI0 fun i j=>.bl (decide (i < j))):=rG fun _ _ _ _ _ _ _ q=>lt_int q
theorem qC:OpR X (compareOp .LtE) (rI0 fun i j=>.bl (decide (i <= j))):=rG fun _ _ _ _ _ _ _ q=>le_int q
theorem vL:OpR X (compareOp .Gt) (rI0 fun i j=>.bl (decide (j < i))):=rG fun _ _ _ _ _ _ _ q=>gt_int q
theorem AG:OpR X (compareOp .GtE) (rI0 fun i j=>.bl (decide (j <= i))):=rG fun _ _ _ _ _ _ _ q=>ge_int q
def CY:HO -> Bool
 | .lst _=>true
 | .ins _ _ _=>true
 | _=>false
theorem OpR.or {f:Value -> Value -> Sem Value} {r r':R2} (h:OpR X f r) (h':OpR X f r'):OpR X f (fun x y H Q=>r x y H Q \/ r' x y H Q):=by
 intro pins s σ H x y v u Q I rx ry q
 rcases q with q | q
 ·exact h pins s σ H x y v u Q I rx ry q
 ·exact h' pins s σ H x y v u Q I rx ry q
theorem de (b:Expr) {op:CmpOp} (h:op ≠ .In:=by decide) (h2:op ≠ .NotIn:=by decide):behindInMarks op b = false:=by
 have e1:(op == CmpOp.In) = false:=by cases op <;> first | rfl | exact absurd rfl h
 have e2:(op == CmpOp.NotIn) = false:=by cases op <;> first | rfl | exact absurd rfl h2
 cases b <;> simp [behindInMarks,e1,e2]
theorem lV {op:CmpOp} {r:R2} (ho:OpR X (compareOp op) r) (ha:PE X a ta) (hb:PE X b tb) (hm:behindInMarks op b = false):PE X (.Compare a [op] [b] pos) (tOp r ta tb):=by
 intro pins s σ H Q I h
 exact wpAny_Compare1 (yH ha hb I h fun v u s2 x y H2 I2 rx ry q=>ho pins s2 σ H2 x y v u Q I2 rx ry q) hm
def qo (t:TE):TT:=fun σ H Q=>t σ H fun x H'=>∃ k,x = .bl k /\ Q k H'
theorem vd {op:CmpOp} {r:R2} (ho:OpR X (compareOp op) r) (ha:PE X a ta) (hb:PE X b tb) (hm:behindInMarks op b = false):PT X (.Compare a [op] [b] pos) (qo (tOp r ta tb)):=by
 intro pins s σ H Q I h
 refine wpAny_isTrue_Compare1 (thn (ha pins s σ H _ I h) fun v s1 ⟨x,H1,I1,r1,q1⟩=>thn (hb pins s1 σ H1 _ I1 q1) fun u s2 ⟨y,H2,I2,r2,q2⟩ =>
  thn (ho pins s2 σ H2 x y v u _ I2 r1 r2 q2) fun c s3 ⟨z,H3,I3,r3,k,e,q3⟩=>?_) hm
 subst e
 cases r3
 exact wpAny_truthy_bool ⟨H3,I3,q3⟩
def kL (r r':R2) (ta tb tc:TE):TE:=fun σ H Q=>ta σ H fun x H1=>tb σ H1 fun y H2=>r x y H2 fun z H3=>∃ k,z = .bl k /\
 (if k = true then tc σ H3 fun w' H4=>r' y w' H4 Q else Q (.bl false) H3)
theorem qJ {op op':CmpOp} {r r':R2} (ho:OpR X (compareOp op) r) (ho':OpR X (compareOp op') r') (ha:PE X a ta) (hb:PE X b tb) (hc:PE X c tc)
  (hm:lastMarks [op,op'] [b,c] = false:=by with_unfolding_all rfl):PE X (.Compare a [op,op'] [b,c] pos) (kL r r' ta tb tc):=by
 intro pins s σ H Q I h
 refine Compare_chain (thn (ha pins s σ H _ I h) fun v s1 ⟨x,H1,I1,r1,q1⟩=>chain_link (thn (hb pins s1 σ H1 _ I1 q1) fun u s2 ⟨y,H2,I2,r2,q2⟩ =>
  thn (ho pins s2 σ H2 x y v u _ I2 r1 r2 q2) fun d s3 ⟨z,H3,I3,r3,k,e,q3⟩=>?_)) hm
 subst e
 cases r3
 refine wpAny_truthy_bool ?_
 cases k with
 | false=>exact ite_ff ⟨.bl false,H3,I3,rfl,q3⟩
 | true=>exact ite_tt (chain_last (thn (hc pins s3 σ H3 _ I3 q3) fun w' s4 ⟨z',H4,I4,r4,q4⟩=>ho' pins s4 σ H4 y z' u w' Q I4 r2 r4 q4))
theorem pI {op op':CmpOp} {r r':R2} (ho:OpR X (compareOp op) r) (ho':OpR X (compareOp op') r') (ha:PE X a ta) (hb:PE X b tb) (hc:PE X c tc)
  (hm:lastMarks [op,op'] [b,c] = false:=by with_unfolding_all rfl):PT X (.Compare a [op,op'] [b,c] pos) (qo (kL r r' ta tb tc)):=by
 intro pins s σ H Q I h
 refine isTrue_chain (thn (ha pins s σ H _ I h) fun v s1 ⟨x,H1,I1,r1,q1⟩=>test_link (thn (hb pins s1 σ H1 _ I1 q1) fun u s2 ⟨y,H2,I2,r2,q2⟩ =>
  thn (ho pins s2 σ H2 x y v u _ I2 r1 r2 q2) fun d s3 ⟨z,H3,I3,r3,k,e,q3⟩=>?_)) hm
 subst e
 cases r3
 refine wpAny_truthy_bool ?_
 cases k with
 | false =>
  obtain ⟨k',e',q'⟩:=q3
  cases e'
  exact ite_ff ⟨H3,I3,q'⟩
 | true =>
  refine ite_tt (test_last (thn (hc pins s3 σ H3 _ I3 q3) fun w' s4 ⟨z',H4,I4,r4,q4⟩=>thn (ho' pins s4 σ H4 y z' u w' _ I4 r2 r4 q4) fun d' s5 ⟨z2,H5,I5,r5,k2,e2,q5⟩=>?_))
  subst e2
  cases r5
  exact wpAny_truthy_bool ⟨H5,I5,q5⟩
def pG (K:PySem.W.Frag) (x:V) (H:Hp) (k:Bool):Prop :=
 match x with
 | .non=>k = false
 | .bl b=>k = b
 | .int i=>k = (i != 0)
 | .str y=>y.length <= sizeLine /\ k = ((y.length:Int) != 0)
 | .byt y=>y.size <= sizeLine /\ k = ((y.size:Int) != 0)
 | .ref p=>(∃ xs,SqL K H p xs /\ k = !xs.isEmpty) \/ (∃ xs,SqT K H p xs /\ k = !xs.isEmpty) \/ ∃ kvs,H p = some (.dK kvs) /\ k = !kvs.isEmpty
 | _=>False
theorem k9 {κ:Type} {kvs:List (κ × V)} {vs:List (κ × Value)} (r:KV kvs vs):(!vs.isEmpty) = !kvs.isEmpty:=by
 cases r <;> rfl
theorem fM {xs:List V} {its:List Value} (r:Vals xs its):(!its.toArray.isEmpty) = !xs.isEmpty:=by
 cases r <;> simp
theorem eZ:(sizeLine:Nat) < 2 ^ 63:=by rw [sizeLine_eq]; decide
theorem kQ:BK X (fun x H Q=>∃ k,pG X.K x H k /\ Q k H):=by
 intro pins s σ H x v Q I rx h
 obtain ⟨k,e,q⟩:=h
 have hl:=eZ
 have hs:sizeLine = 16777216:=sizeLine_eq
 cases x with
 | non =>
  cases rx
  have e':k = false:=e
  subst e'
  exact truthy_none ⟨H,I,q⟩
 | bl b =>
  cases rx
  have e':k = b:=e
  subst e'
  exact wpAny_truthy_bool ⟨H,I,q⟩
 | int i =>
  obtain ⟨t,rfl⟩:=rx
  have e':k = (i != 0):=e
  subst e'
  exact PySem.P.truthy_int ⟨H,I,q⟩
 | str y =>
  obtain ⟨t,rfl⟩:=rx
  obtain ⟨hy,e'⟩:y.length <= sizeLine /\ k = ((y.length:Int) != 0):=e
  subst e'
  exact PySem.P.truthy_str (by omega) ⟨H,I.tok _,q⟩
 | byt y =>
  obtain ⟨t,rfl⟩:=rx
  obtain ⟨hy,e'⟩:y.size <= sizeLine /\ k = ((y.size:Int) != 0):=e
  subst e'
  exact PySem.W.truthy_bytes (by omega) ⟨H,I.tok _,q⟩
 | ref p =>
  cases rx
  have e':(∃ xs,SqL X.K H p xs /\ k = !xs.isEmpty) \/ (∃ xs,SqT X.K H p xs /\ k = !xs.isEmpty) \/ ∃ kvs,H p = some (.dK kvs) /\ k = !kvs.isEmpty:=e
  rcases e' with ⟨xs,hx,e'⟩ | ⟨xs,hx,e'⟩ | ⟨kvs,hx,e'⟩
  ·subst e'
   obtain ⟨its,r,pl,hz⟩:=I.list hx
   have hlen:=r.length
   exact wpAny_truthy_list pl.isList (by simp only [List.size_toArray]; omega) ⟨H,I.tok _,by rw [fM r]; exact q⟩
  ·subst e'
   obtain ⟨its,r,pl,hz⟩:=I.tuple hx
   have hlen:=r.length
   exact truthy_tuple pl (by simp only [List.size_toArray]; omega) ⟨H,I.tok _,by rw [fM r]; exact q⟩
  ·subst e'
   obtain ⟨hz,hS,vs,r,m⟩:kvs.length <= sizeLine /\ (p == sysModules) = false /\ ∃ vs,KV kvs vs /\ s.heap.DictOf (jd X.prog X.w) p vs:=I.hok p _ hx
   have hlen:kvs.length = vs.length:=Paired.length r
   exact wpAny_truthy_dict hS m (by omega) ⟨H,I.tok _,by rw [k9 r]; exact q⟩
 | _=>exact (show False from e).elim
theorem n8 (ha:PE X a ta) (he:∀ whole,isTrue a X.env whole = (do let v <- whole; standAt a.pos; holding [v] (truthy v))) :
  PT X a (fun σ H Q=>ta σ H fun x H'=>∃ k,pG X.K x H' k /\ Q k H'):=by
 intro pins s σ H Q I h
 exact isTrue_plain (thn (ha pins s σ H _ I h) fun v s1 ⟨x,H1,I1,r1,q1⟩=>kQ pins s1 σ H1 x v Q I1 r1 q1) (he _)
theorem op_add_str:OpR X (binaryOp .Add) (fun x y H Q=>∃ i j,x = .str i /\ y = .str j /\ i.length + j.length <= sizeLine /\ Q (.str (i ++ j)) H):=by
 intro pins s σ H x y v u Q I rx ry h
 obtain ⟨i,j,rfl,rfl,hz,q⟩:=h
 obtain ⟨t,rfl⟩:=rx
 obtain ⟨t',rfl⟩:=ry
 exact add_str (fun t' tk=>⟨.str (i ++ j),H,I.tok _,⟨_,rfl⟩,q⟩) hz
def zv (b:Expr):Prop:=∀ o i,subscripted b false o i = operate [o,i] (getItem o i)
theorem jD {x:V} {us:List Value} (r:Vals [x] us):∃ u,us = [u] /\ RelV x u:=by
 cases r with
 | cons r1 r2=>cases r2; exact ⟨_,rfl,r1⟩
theorem jE {x y:V} {us:List Value} (r:Vals [x,y] us):∃ u w',us = [u,w'] /\ RelV x u /\ RelV y w':=by
 cases r with
 | cons r1 r2 =>
  cases r2 with
  | cons r3 r4=>cases r4; exact ⟨_,_,rfl,r1,r3⟩
theorem nt (hc:X.calm = true):cX X (.builtin "min") (fun xs H Q=>∃ i j,xs = [.int i,.int j] /\ Q (.int (if j < i then j else i)) H):=by
 intro pins s σ H xs us Q I r h
 obtain ⟨i,j,rfl,q⟩:=h
 obtain ⟨u,w',rfl,⟨t,rfl⟩,⟨t',rfl⟩⟩:=jE r
 refine min_two_ints (I.ok.hd hc) fun h' tk k=>⟨_,H,I.kept k,?_,q⟩
 by_cases hj:j < i
 ·rw [if_pos hj,if_pos hj]; exact ⟨_,rfl⟩
 ·rw [if_neg hj,if_neg hj]; exact ⟨_,rfl⟩
def AL (K:PySem.W.Frag) (x:V) (H:Hp) (n:Nat):Prop :=
 match x with
 | .str y=>y.length <= sizeLine /\ n = y.length
 | .byt y=>y.size <= sizeLine /\ n = y.size
 | .ref p=>(∃ xs,SqL K H p xs /\ n = xs.length) \/ ∃ xs,SqT K H p xs /\ n = xs.length
 | _=>False
theorem jx:cX X (.builtin "len") (fun xs H Q=>∃ x n,xs = [x] /\ AL X.K x H n /\ Q (.int n) H):=by
 intro pins s σ H xs us Q I r h
 obtain ⟨x,n,rfl,e,q⟩:=h
 obtain ⟨u,rfl,rx⟩:=jD r
 have hl:=eZ
 have hs:sizeLine = 16777216:=sizeLine_eq
 cases x with
 | str y =>
  obtain ⟨t,rfl⟩:=rx
  obtain ⟨hy,e'⟩:y.length <= sizeLine /\ n = y.length:=e
  subst e'
  exact len_str (by omega) ⟨.int _,H,I.tok _,⟨_,rfl⟩,q⟩
 | byt y =>
  obtain ⟨t,rfl⟩:=rx
  obtain ⟨hy,e'⟩:y.size <= sizeLine /\ n = y.size:=e
  subst e'
  exact PySem.W.len_bytes (by omega) ⟨.int _,H,I.tok _,⟨_,rfl⟩,q⟩
 | ref p =>
  cases rx
  have e':(∃ xs,SqL X.K H p xs /\ n = xs.length) \/ ∃ xs,SqT X.K H p xs /\ n = xs.length:=e
  rcases e' with ⟨xs,hx,e'⟩ | ⟨xs,hx,e'⟩
  ·subst e'
   obtain ⟨its,r',pl,hz⟩:=I.list hx
   have hlen:=r'.length
   exact Calls.call_len_list pl.isList (by simp only [List.size_toArray]; omega) ⟨.int xs.length,H,I.tok _,⟨_,by simp only [List.size_toArray]; rw [hlen]⟩,q⟩
  ·subst e'
   obtain ⟨its,r',pl,hz⟩:=I.tuple hx
   have hlen:=r'.length
   exact len_tuple pl (by simp only [List.size_toArray]; omega) ⟨.int xs.length,H,I.tok _,⟨_,by simp only [List.size_toArray]; rw [hlen]⟩,q⟩
 | _=>exact (show False from e).elim
end
end L2
namespace L2
open PySem PySem.Spec PyProof.Rows
structure ObjM (h:Heap) (x dx C:Addr) (mA:Str -> Option Value):Prop where
 obj:h.get? x = some (PySem.W.instObj C dx)
 ns:h.Ns1 dx mA
 ne:dx ≠ x
theorem nL {h:Heap} {dx:Addr} {mA:Str -> Option Value} (n:h.Ns1 dx mA):∃ od,h.get? dx = some od /\ ∀ name,PySem.W.lookIn name od = some (mA name):=by
 obtain ⟨o,es,ep,ho,hd,hk,_,hm⟩:=n
 refine ⟨o,ho,fun name=>?_⟩
 have e:=hm name
 unfold nsFind findBy at e
 rw [<- Array.find?_toList] at e
 unfold PySem.W.lookIn
 rw [hd]
 dsimp only
 split
 ·rename_i y q
  rw [q] at e
  exact congrArg some e
 ·rename_i q
  rw [q] at e
  have a:es.toList.any (·.refKey) = false:=by
   rw [List.any_eq_false]
   intro y hy
   obtain ⟨z,t,hkey⟩:=hk y (Array.mem_toList_iff.mp hy)
   simp [DictEntry.refKey,hkey]
  have a':¬ es.toList.any (·.refKey) = true:=by rw [a]; exact Bool.false_ne_true
  rw [if_neg a']
  exact congrArg some e
theorem ObjM.look {h:Heap} {x dx C:Addr} {mA:Str -> Option Value} (I:ObjM h x dx C mA):∃ od,PySem.W.InstAt h x (PySem.W.instObj C dx) C (some od) /\ ∀ name,PySem.W.lookIn name od = some (mA name) :=
 let ⟨od,ho,hl⟩:=nL I.ns
 ⟨od,⟨I.obj,rfl,rfl,ho⟩,hl⟩
section
variable {prog:Program} {w:World} {A:Around} {E:Value -> Shared -> Prop} {s:Shared} {K:PySem.W.Frag} {x dx C f:Addr} {mA:Str -> Option Value} {name:Str} {v:Value}
end
def sk (f:Str) (v:V):List (Str × V) -> List (Str × V)
 | []=>[(f,v)]
 | (g,x) :: r=>if g = f then (g,v) :: r else (g,x) :: sk f v r
section
variable {P:Program} {w:World} {H H':Hp} {h h':Heap} {a C dx:Addr} {fs fs':List (Str × V)}
theorem tP (hok:HOk P w H h) (e:H a = some (.ins C dx fs)):∃ mA,ObjM h a dx C mA /\ (∀ f,yY (fs.lookup f) (mA f)) /\ PySem.Within mA (fs.map (·.1)) /\ fs.length <= 1000 /\ H dx = some (.own a):=by
 obtain ⟨d,z,ne,ob,mA,n,r,q⟩:=(show ObjOk P w H h a (.ins C dx fs) from hok a _ e)
 exact ⟨mA,⟨ob,n,ne⟩,r,q,z,d⟩
end
structure Cls (K:PySem.W.Frag) (C:Addr):Prop where
 pg:PySem.W.plainGet K C Str.empty = true
 hd:PySem.W.hasDictIn K C = true
 po:PySem.W.plainOver K C = true
 sa:PySem.W.findIn K (.ref C) "__setattr__" = some (some (.builtin "object.__setattr__"))
theorem Cls.get {K:PySem.W.Frag} {C:Addr} (c:Cls K C) (f:Str):PySem.W.plainGet K C f = true:=c.pg
def lu (K:PySem.W.Frag) (C:Addr) (f:Str):Prop:=PySem.W.findIn K (.ref C) f = some none
structure Con (K:PySem.W.Frag) (C:Addr) (f:Str) (v:V) (u:Value):Prop where
 at_:PySem.W.findIn K (.ref C) f = some (some u)
 rel:RelV v u
 get:PySem.W.specialIn K u "__get__" = some none
 cp:PySem.W.copiedNames.contains f = false
structure Du (K:PySem.W.Frag) (C:Addr) (m:Str) (f:Addr):Prop where
 at_:PySem.W.findIn K (.ref C) m = some (some (.ref f))
 fn:PySem.W.isFn K (.ref f) = true
 kp:PySem.W.keepIn K (.ref f) = true
section
variable {X:Cx} {pins:List (Addr × Obj)} {σ:St} {H:Hp} {s:Shared} {a C dx:Addr} {fs:List (Str × V)} {f:Str} {v:V} {A:Around} {E:Value -> Shared -> Prop}
end
def Dk (K:PySem.W.Frag) (ta:TE) (f:Str):TE:=fun σ H Q=>ta σ H fun x H1=>∃ a C dx fs v,x = .ref a /\ H1 a = some (.ins C dx fs) /\ Cls K C /\ lu K C f /\ fs.lookup f = some v /\ Q v H1
def DG (K:PySem.W.Frag) (ta:TE) (f:Str):TE:=fun σ H Q=>ta σ H fun x H1=>∃ a C dx fs v u,x = .ref a /\ H1 a = some (.ins C dx fs) /\ Cls K C /\ Con K C f v u /\ fs.lookup f = none /\ Q v H1
def Dn (K:PySem.W.Frag) (ta tv:TE) (f:Str):TS:=fun D σ H=>tv σ H fun y H1=>ta σ H1 fun x H2=>∃ a C dx fs,x = .ref a /\ H2 a = some (.ins C dx fs) /\ Cls K C /\ lu K C f /\ fs.length < 1000 /\
 D.nx σ (upd H2 a (.ins C dx (sk f y fs)))
def Ds (X:Cx) (op:Operator) (rd:V -> V -> Hp -> VK -> Prop):Prop :=
 ∀ (pins:List (Addr × Obj)) (s:Shared) (σ:St) (H:Hp) (x y:V) (u v:Value) (Q:VK),Inv X pins σ H s -> RelV x u -> RelV y v -> rd x y H Q -> wpAny (model X.prog X.w) X.A (inplaceOp op u v) (EP X pins σ Q) X.xe s
def BB (K:PySem.W.Frag) (ta tv:TE) (rd:V -> V -> Hp -> VK -> Prop) (f:Str):TS:=fun D σ H=>ta σ H fun x H1=>∃ a C dx fs v,x = .ref a /\ H1 a = some (.ins C dx fs) /\ Cls K C /\ lu K C f /\ fs.lookup f = some v /\
 tv σ H1 fun y H2=>rd v y H2 fun z H3=>∃ dx' fs',H3 a = some (.ins C dx' fs') /\ fs'.length < 1000 /\ D.nx σ (upd H3 a (.ins C dx' (sk f z fs')))
section
variable {X:Cx} {o e value:Expr} {f:Str} {pos pos' tpos:Pos} {ta tv:TE}
def Di:V -> V -> Hp -> VK -> Prop:=fun x y H Q=>∃ i j,x = .int i /\ y = .int j /\ Q (.int (i + j)) H
def Dz:V -> V -> Hp -> VK -> Prop:=fun x y H Q=>∃ i j,x = .int i /\ y = .int j /\ Q (.int (i - j)) H
end
section
variable {X:Cx} {pins:List (Addr × Obj)} {σ:St} {H:Hp} {s:Shared} {A:Around} {E:Value -> Shared -> Prop} {Q:Value -> Shared -> Prop} {c:Value} {b:Bool}
inductive fD (K:PySem.W.Frag) (H:Hp):V -> Value -> Prop where
 | non:fD K H .non (.type "NoneType")
 | bl (x:Bool):fD K H (.bl x) (.type "bool")
 | int (i:Int):fD K H (.int i) (.type "int")
 | str (x:Str):fD K H (.str x) (.type "str")
 | flt (x:UInt64):fD K H (.flt x) (.type "float")
 | lst {a:Addr} {xs:List V} (e:H a = some (.lst xs)):fD K H (.ref a) (.type "list")
 | frz {a:Addr} {o:Obj} {xs:List V} (e:H a = some (.frz o (.lst xs))):fD K H (.ref a) (.type "list")
 | tup {a:Addr} {xs:List V} (e:H a = some (.tup xs)):fD K H (.ref a) (.type "tuple")
 | dK {a:Addr} {kvs:List (Key × V)} (e:H a = some (.dK kvs)):fD K H (.ref a) (.type "dict")
 | dT {a:Addr} {kvs:List (List Key × V)} (e:H a = some (.dT kvs)):fD K H (.ref a) (.type "dict")
 | ins {a C dx:Addr} {fs:List (Str × V)} (e:H a = some (.ins C dx fs)) (cl:Cls K C) (ha:PySem.W.findIn K (.ref C) "__class__" = some (some (.builtin "object.__class__")))
   (hn:PySem.W.specialIn K (.builtin "object.__class__") "__get__" = some (some (.builtin "getset_descriptor.__get__"))) (htk:PySem.W.takesIn K (.builtin "object.__class__") = some true)
   (hm:PySem.W.mroIn K C (.type "object") = some true):fD K H (.ref a) (.ref C)
theorem dH {x:V} {u t:Value} (I:Inv X pins σ H s) (rx:RelV x u) (ty:fD X.K H x t) (e:PySem.W.kitOne X.K t c = some b) (h:∀ tk,Q (.bool b) { s with toks:=tk }) :
  wpAny (model X.prog X.w) A (call (.builtin "isinstance") [u,c]) Q E s:=by
 cases ty with
 | non=>cases (show u = Value.none from rx); exact PySem.W.kia_one PySem.W.kitx_none I.kIn True.intro e (fun z=>nomatch z) h
 | bl y=>cases (show u = Value.bool y from rx); exact PySem.W.kia_one PySem.W.kitx_bool I.kIn True.intro e (fun z=>nomatch z) h
 | int i=>obtain ⟨t,q⟩:=(show ∃ t,u = Value.int i t from rx); cases q; exact PySem.W.kia_one PySem.W.kitx_int I.kIn True.intro e (fun z=>nomatch z) h
 | str y=>obtain ⟨t,q⟩:=(show ∃ t,u = Value.str y t from rx); cases q; exact PySem.W.kia_one PySem.W.kitx_str I.kIn True.intro e (fun z=>nomatch z) h
 | flt y=>obtain ⟨t,q⟩:=(show ∃ t,u = Value.float y t from rx); cases q; exact PySem.W.kia_one PySem.W.kitx_float I.kIn True.intro e (fun z=>nomatch z) h
 | @lst a xs ea =>
  cases (show u = Value.ref a from rx)
  obtain ⟨_,_,n,_,h1⟩:=(show ObjOk X.prog X.w H s.heap a (.lst xs) from I.hok a _ ea)
  exact PySem.W.kia_one PySem.W.kitx_list I.kIn ⟨_,h1,rfl⟩ e (fun z=>nomatch z) h
 | @frz a ob xs ea =>
  cases (show u = Value.ref a from rx)
  obtain ⟨_,_,_,n,_,h1⟩:=(show ObjOk X.prog X.w H s.heap a (.frz ob (.lst xs)) from I.hok a _ ea)
  exact PySem.W.kia_one PySem.W.kitx_list I.kIn ⟨_,h1,rfl⟩ e (fun z=>nomatch z) h
 | @tup a xs ea =>
  cases (show u = Value.ref a from rx)
  obtain ⟨_,_,_,p⟩:=(show ObjOk X.prog X.w H s.heap a (.tup xs) from I.hok a _ ea)
  obtain ⟨o,h1,h2,_⟩:=p
  exact PySem.W.kia_one PySem.W.kitx_tuple I.kIn ⟨o,h1,h2⟩ e (fun z=>nomatch z) h
 | @dK a kvs ea =>
  cases (show u = Value.ref a from rx)
  obtain ⟨_,_,vs,_,p⟩:=(show ObjOk X.prog X.w H s.heap a (.dK kvs) from I.hok a _ ea)
  obtain ⟨o,es,ep,h1,h2,_⟩:=p
  exact PySem.W.kia_one PySem.W.kitx_dict I.kIn ⟨o,h1,h2.1⟩ e (fun z=>nomatch z) h
 | @dT a kvs ea =>
  cases (show u = Value.ref a from rx)
  obtain ⟨_,_,xs,_,o,es,ep,h1,h2,_⟩:=(show ObjOk X.prog X.w H s.heap a (.dT kvs) from I.hok a _ ea)
  exact PySem.W.kia_one PySem.W.kitx_dict I.kIn ⟨o,h1,h2.1⟩ e (fun z=>nomatch z) h
 | @ins a C dx fs ea cl ha hn htk hm =>
  cases (show u = Value.ref a from rx)
  obtain ⟨mA,O,_⟩:=tP I.hok ea
  obtain ⟨od,J,_⟩:=O.look
  exact PySem.W.kia_one (PySem.W.kitx_own (cl.get _) cl.hd ha hn htk hm) I.kIn J e (fun z=>nomatch z) h
end
end L2
namespace L2
open PySem PySem.Spec PyProof.Rows
structure Room (k:Nat) (A:Around):Prop where
 hd:A.handled = none
 dp:A.depth + 3 * k + 5 < recursionLimit
 un:A.units + 16 * k + 200 < cLine
theorem Room.deeper {k:Nat} {A:Around} (r:Room (k + 1) A) (env:Env):Room k (A.deeper env) :=
 ⟨r.hd,by have:=r.dp; show A.depth + 1 + 3 * k + 5 < _; omega,by have:=r.un; show A.units + 3 + 16 * k + 200 < _; omega⟩
theorem Room.depth {k:Nat} {A:Around} (r:Room k A):A.depth < recursionLimit:=by have:=r.dp; omega
theorem Room.units {k:Nat} {A:Around} (r:Room k A):A.units + 64 < cLine:=by have:=r.un; omega
def xl:TA:=fun _ H Q=>Q [] H
def l5 (ta:TE) (tr:TA):TA:=fun σ H Q=>ta σ H fun x H1=>tr σ H1 fun xs H2=>Q (x :: xs) H2
section
variable {X:Cx} {e:Expr} {es:List Expr} {te:TE} {t:TA} {pos:Pos}
theorem bD:PA X [] xl:=fun _ _ _ _ H Q I h=>Calls.spliced_nil ⟨[],H,I,.nil,h⟩
theorem aO (ha:PE X e te) (hr:PA X es t) (hs:starEach (e :: es) X.env = (false,eval e X.env) :: starEach es X.env:=by rfl):PA X (e :: es) (l5 te t):=by
 intro pos pins s σ H Q I h
 rw [hs]
 show wpAny _ _ (spliced ((false,eval e X.env) :: backTo pos (starEach es X.env))) _ _ s
 refine Calls.spliced_cons (thn (ha pins s σ H _ I h) fun u s1 ⟨x,H1,I1,r1,q1⟩=>?_)
 exact thn (hr pos pins s1 σ H1 _ I1 q1) fun us s2 ⟨xs,H2,I2,r2,q2⟩=>⟨x :: xs,H2,I2,.cons r1 r2,q2⟩
def yE (t:TA):TE:=fun σ H Q=>t σ H fun xs H1=>xs.length <= sizeLine /\ ∀ p,H1 p = none -> Q (.ref p) (upd H1 p (.tup xs))
def zB (t:TA):TE:=fun σ H Q=>t σ H fun xs H1=>xs.length <= sizeLine /\ ∀ p,H1 p = none -> Q (.ref p) (upd H1 p (.lst xs))
theorem kq {x1} (h:PA X es t):PE X (.Tuple es x1 pos) (yE t):=by
 intro pins s σ H Q I hq
 refine wpAny_Tuple_spliced (thn (h pos pins s σ H _ I hq) fun us s1 ⟨xs,H1,I1,r,z,q⟩=>⟨by rw [<- r.length]; exact z,?_⟩)
 have hf:H1 s1.heap.objs.size = none:=I1.hok.fresh (Nat.le_refl _)
 refine ⟨.ref s1.heap.objs.size,upd H1 s1.heap.objs.size (.tup xs),I1.laid (t':=s1.toks) (fun b u e=>Heap.get?_push_of_some _ e) (Nat.le_refl _) ?_,rfl,q _ hf⟩
 exact ⟨z,us,r,⟨_,Heap.get?_push_size _ rfl,rfl,_,rfl⟩⟩
theorem oX (h:PA X es t):PE X (.List es pos) (zB t):=by
 intro pins s σ H Q I hq
 refine wpAny_List_spliced (thn (h pos pins s σ H _ I hq) fun us s1 ⟨xs,H1,I1,r,z,q⟩=>⟨by rw [<- r.length]; exact z,?_⟩)
 have hf:H1 s1.heap.objs.size = none:=I1.hok.fresh (Nat.le_refl _)
 refine ⟨.ref s1.heap.objs.size,upd H1 s1.heap.objs.size (.lst xs),I1.laid (t':=s1.toks) (fun b u e=>Heap.get?_push_of_some _ e) (Nat.le_refl _) ?_,rfl,q _ hf⟩
 exact ⟨z,us,0,r,Heap.get?_push_size _ rfl⟩
end
abbrev Sp:=List V -> Hp -> VK -> XK -> Prop
abbrev CXT:=List Env -> Hp -> Shared -> XK -> Value -> Shared -> Prop
structure u9 (P:Program) (w:World) (K:PySem.W.Frag) (mg:Str -> Option Value) (base:Heap) (A:Around) (outer:List Env) (s:Shared) (H:Hp):Prop where
 frames:A.frames = some outer
 mod:Mod K mg base
 bs:∀ b o,base.get? b = some o -> s.heap.get? b = some o /\ H b = none
 bsz:base.objs.size <= s.heap.objs.size
 funs:s.heap.FunFrames base outer
 frf:∀ b ∈ frs outer,H b = none
 hok:HOk P w H s.heap
 bare:AllBare s.gens
def CE (outer:List Env) (P:Program) (w:World) (H:Hp) (s:Shared) (Q:VK) (u:Value) (s':Shared):Prop :=
 ∃ v H',s'.os = s.os /\ AllBare s'.gens /\ Un (frs outer) [] H H' s.heap s'.heap /\ HOk P w H' s'.heap /\ RelV v u /\ Q v H'
def CR (CX:CXT) (outer:List Env) (P:Program) (w:World) (H:Hp) (s:Shared) (Q:VK) (E:XK) (r:Result) (s':Shared):Prop :=
 match r with
 | .ok (.ret u)=>CE outer P w H s Q u s'
 | .ok _=>False
 | .error e=>CX outer H s E e s'
structure FnOk (P:Program) (w:World) (K:PySem.W.Frag) (mg:Str -> Option Value) (base:Heap) (CX:CXT) (k:Nat) (f:Addr) (fd:FuncData) (ps:List Str) (sp:Sp):Prop where
 len:∀ vs H Q E,sp vs H Q E -> vs.length = ps.length
 run:∀ (A:Around) (outer:List Env) (s:Shared) (H:Hp) (args:Args) (us:List Value) (vs:List V) (Q:VK) (E:XK),Room k A -> u9 P w K mg base A outer s H -> BindsTo s fd args (ps.zip us) -> Vals vs us -> sp vs H Q E ->
  codeAny (model P w) A (.call (.ref f) args) (CR CX outer P w H s Q E) s
theorem FnOk.imp {P:Program} {w:World} {K:PySem.W.Frag} {mg:Str -> Option Value} {base:Heap} {CX:CXT} {k:Nat} {f:Addr} {fd:FuncData} {ps:List Str} {sp sp':Sp} (F:FnOk P w K mg base CX k f fd ps sp)
  (h:∀ vs H Q E,sp' vs H Q E -> sp vs H Q E):FnOk P w K mg base CX k f fd ps sp' :=
 ⟨fun vs H Q E q=>F.len vs H Q E (h _ _ _ _ q),fun A outer s H args us vs Q E hr he hb hv hs=>F.run A outer s H args us vs Q E hr he hb hv (h _ _ _ _ hs)⟩
section
variable {X:Cx} {pins:List (Addr × Obj)} {σ:St} {H:Hp} {s s':Shared}
theorem Inv.env0 (I:Inv X pins σ H s):u9 X.prog X.w X.K X.mg X.base X.A X.stack s H :=
 ⟨I.ok.frames,I.ok.mod,I.bs,Nat.le_trans I.ok.bsz I.sz,I.stack,I.stkFree,I.hok,I.bare⟩
theorem Inv.after {Q:VK} {u:Value} (I:Inv X pins σ H s) (h:CE X.stack X.prog X.w H s Q u s'):EP X pins σ Q u s':=by
 obtain ⟨v,H',os,bare,un,hok,r,q⟩:=h
 obtain ⟨hh,g,d,t,os'⟩:=s'
 obtain rfl:os' = s.os:=os
 exact ⟨v,H',I.call (h':=hh) (g':=g) (d':=d) (t':=t) (ch:=[]) un hok bare (fun b z=>absurd z (by simp)),r,q⟩
end
def Bj (sp:Sp) (dvs:List V) (E:XK) (t:TA):TE:=fun σ H Q=>t σ H fun vs H1=>sp (vs ++ dvs) H1 Q E
def C9 (C:Addr) (m:Str) (sp:Sp) (dvs:List V) (E:XK) (ta:TE) (t:TA):TE:=fun σ H Q=>ta σ H fun x H1=>∃ a dx fs,x = .ref a /\ H1 a = some (.ins C dx fs) /\ fs.lookup m = none /\
 t σ H1 fun vs H2=>sp (x :: (vs ++ dvs)) H2 Q E
def CV (C:Addr) (sp:Sp) (dvs:List V) (E:XK) (t:TA):TE:=fun σ H Q=>t σ H fun vs H1=>∀ x dx,H1 x = none -> H1 dx = none -> dx ≠ x ->
 sp (.ref x :: (vs ++ dvs)) (upd (upd H1 dx (.own x)) x (.ins C dx [])) (fun v H2=>v = .non /\ Q (.ref x) H2) E
def Binds (K:PySem.W.Frag) (fd:FuncData) (ps:List Str) (ds:List Value):Prop :=
 ∀ (s:Shared) (us:List Value),K.In s.heap -> (us ++ ds).length = ps.length -> BindsTo s fd ⟨us,[]⟩ (ps.zip (us ++ ds))
theorem Binds.all {K:PySem.W.Frag} {fd:FuncData} {ps:List Str} (h:∀ us:List Value,us.length = ps.length -> bindArgs fd ⟨us,[]⟩ = pure (ps.zip us)):Binds K fd ps []:=fun s us _ hl=>by
 rw [List.append_nil] at hl ⊢
 exact .of_eq (h us hl)
def ko (CX:CXT) (X:Cx) (E:XK):Prop:=∀ (pins:List (Addr × Obj)) (σ:St) (H:Hp) (s:Shared) (e:Value) (s':Shared),Inv X pins σ H s -> CX X.stack H s E e s' -> X.xe e s'
section
variable {X:Cx} {CX:CXT} {k:Nat} {f C:Addr} {fd:FuncData} {ps:List Str} {sp:Sp} {dvs:List V} {ds:List Value} {E:XK} {x m:Str} {p pos apos:Pos} {e o:Expr} {es:List Expr} {ta:TE} {t:TA}
theorem yg {pins:List (Addr × Obj)} {σ:St} {H:Hp} {s:Shared} {Q:VK} {us:List Value} {vs:List V} (F:FnOk X.prog X.w X.K X.mg X.base CX k f fd ps sp) (hr:Room k X.A) (hb:Binds X.K fd ps ds) (hd:Vals dvs ds) (hx:ko CX X E)
  (I:Inv X pins σ H s) (r:Vals vs us) (h:sp (vs ++ dvs) H Q E):wpAny (model X.prog X.w) X.A (call (.ref f) us) (EP X pins σ Q) X.xe s:=by
 have r2:Vals (vs ++ dvs) (us ++ ds):=r.append hd
 have hl:(us ++ ds).length = ps.length:=by rw [<- r2.length]; exact F.len _ _ _ _ h
 refine wpAny_call (codeAny_mono (F.run X.A X.stack s H ⟨us,[]⟩ (us ++ ds) (vs ++ dvs) Q E hr I.env0 (hb s us I.kIn hl) r2 h) fun r s' hq=>?_)
 cases r with
 | error e=>exact hx pins σ H s e s' I hq
 | ok fl =>
  cases fl with
  | ret u=>exact I.after hq
  | next=>exact False.elim hq
  | brk=>exact False.elim hq
  | cont=>exact False.elim hq
theorem my (F:FnOk X.prog X.w X.K X.mg X.base CX k f fd ps sp) (hr:Room k X.A) (hg:Gl X x) (hm:X.mg x = some (.ref f)) (hk:PySem.W.keepIn X.K (.ref f) = true) (hb:Binds X.K fd ps ds) (hd:Vals dvs ds) (hx:ko CX X E)
  (ha:PA X (e :: es) t) (hdb:(x == ("__debug__":Str)) = false:=by decide) (he:starEach (e :: es) X.env = (false,eval e X.env) :: starEach es X.env:=by rfl) (hpl:(backTo pos (starEach es X.env)).any (·.1) = false:=by rfl) :
  PE X (.Call (.Name x p) (e :: es) [] pos) (Bj sp dvs E t):=by
 intro pins s σ H Q I h
 refine wpAny_Call_Name_kw (l9 I hg hm ?_ hdb)
 refine PySem.W.callWith_K (h₀:=X.base) I.ok.mod.kin hk (thn (ha pos pins s σ H _ I h) fun us s1 ⟨vs,H1,I1,r,q⟩=>⟨I1.kIn,?_⟩) he hpl
 exact yg F hr hb hd hx I1 r q
structure Mk (K:PySem.W.Frag) (C f:Addr):Prop where
 makes:PySem.W.makesIn K C = true
 init:PySem.W.findIn K (.ref C) "__init__" = some (some (.ref f))
 fn:PySem.W.isFn K (.ref f) = true
 kp:PySem.W.keepIn K (.ref C) = true
end
def PK (X:Cx) (kws:List Keyword) (t:TA):Prop :=
 ∀ (pos:Pos) (pins:List (Addr × Obj)) (s:Shared) (σ:St) (H:Hp) (Q:List V -> Hp -> Prop),Inv X pins σ H s -> t σ H Q -> wpAny (model X.prog X.w) X.A (evalAll ((backToKw pos (keywordEach kws X.env)).map (·.2))) (AP X pins σ Q) X.xe s
section
variable {X:Cx} {CX:CXT} {k:Nat} {f C:Addr} {fd:FuncData} {ps ks:List Str} {sp:Sp} {E:XK} {x m:Str} {p pos apos kpos:Pos} {e o:Expr} {es:List Expr} {kws:List Keyword} {te ta:TE} {t tk:TA} {nm:Option Str}
structure CJ (K:PySem.W.Frag) (fd:FuncData) (ps ks:List Str) (g:List Value -> List Value -> List Value) (gV:List V -> List V -> List V):Prop where
 to:∀ (s:Shared) (us ws:List Value),K.In s.heap -> (g us ws).length = ps.length -> BindsTo s fd ⟨us,ks.zip ws⟩ (ps.zip (g us ws))
 rel:∀ {vs:List V} {us:List Value} {zs:List V} {ws:List Value},Vals vs us -> Vals zs ws -> Vals (gV vs zs) (g us ws)
def Cc (sp:Sp) (gV:List V -> List V -> List V) (E:XK) (t tk:TA):TE:=fun σ H Q=>t σ H fun vs H1=>tk σ H1 fun zs H2=>sp (gV vs zs) H2 Q E
variable {g:List Value -> List Value -> List Value} {gV:List V -> List V -> List V}
end
structure ai (N P:List Str) (sc:Scope):Prop where
 kind:sc.kind = .function
 co:sc.isCoroutine = false
 gen:sc.isGenerator = false
 nd:N.Nodup
 pre:N.take P.length = P
 par:∀ x ∈ P,sc.names.lookup x = some .local \/ sc.names.lookup x = some .cell
 nofree:∀ y ∈ sc.names,y.2 ≠ .free
theorem gY {kindOf:Str -> Option NameKind} {x:Str}:∀ {binds:List (Str × Value)} {m:Str -> Option Value},(∀ v,(x,v) ∉ binds) -> bindL kindOf binds m x = m x
 | [],_,_=>rfl
 | (n,v) :: r,m,h=>by
  unfold bindL
  rw [gY fun w hw=>h w (List.mem_cons_of_mem _ hw)]
  split
  ·have:x ≠ n:=by rintro rfl; exact h v List.mem_cons_self
   simp [this]
  ·rfl
theorem gZ {kindOf:Str -> Option NameKind} {x:Str}:∀ {binds:List (Str × Value)} {m:Str -> Option Value},(∀ v,(x,v) ∉ binds) -> bindC kindOf binds m x = m x
 | [],_,_=>rfl
 | (n,v) :: r,m,h=>by
  unfold bindC
  rw [gZ fun w hw=>h w (List.mem_cons_of_mem _ hw)]
  split
  ·rfl
  ·have:x ≠ n:=by rintro rfl; exact h v List.mem_cons_self
   simp [this]
theorem hZ {kindOf:Str -> Option NameKind} {x:Str} {v:Value}:∀ {P:List Str} {vs:List Value} {i:Nat} {m:Str -> Option Value},P.Nodup -> P[i]? = some x -> vs[i]? = some v -> kindOf x = some .local ->
  bindL kindOf (P.zip vs) m x = some v
 | [],_,_,_,_,h,_,_=>by simp at h
 | _ :: _,[],_,_,_,_,h,_=>by simp at h
 | p :: P,w :: vs,0,m,nd,h1,h2,hk=>by
  simp at h1 h2; subst h1; subst h2
  show bindL kindOf ((p,w) :: P.zip vs) m p = _
  unfold bindL
  rw [gY fun v hv=>(List.nodup_cons.mp nd).1 (List.of_mem_zip hv).1,if_pos hk]
  simp
 | p :: P,w :: vs,i + 1,m,nd,h1,h2,hk=>by
  show bindL kindOf ((p,w) :: P.zip vs) m x = _
  unfold bindL
  exact hZ (i:=i) (List.nodup_cons.mp nd).2 (by simpa using h1) (by simpa using h2) hk
theorem gU {kindOf:Str -> Option NameKind} {x:Str} {v:Value}:∀ {P:List Str} {vs:List Value} {i:Nat} {m:Str -> Option Value},P.Nodup -> P[i]? = some x -> vs[i]? = some v -> kindOf x ≠ some .local ->
  bindC kindOf (P.zip vs) m x = some v
 | [],_,_,_,_,h,_,_=>by simp at h
 | _ :: _,[],_,_,_,_,h,_=>by simp at h
 | p :: P,w :: vs,0,m,nd,h1,h2,hk=>by
  simp at h1 h2; subst h1; subst h2
  show bindC kindOf ((p,w) :: P.zip vs) m p = _
  unfold bindC
  rw [gZ fun v hv=>(List.nodup_cons.mp nd).1 (List.of_mem_zip hv).1,if_neg hk]
  simp
 | p :: P,w :: vs,i + 1,m,nd,h1,h2,hk=>by
  show bindC kindOf ((p,w) :: P.zip vs) m x = _
  unfold bindC
  exact gU (i:=i) (List.nodup_cons.mp nd).2 (by simpa using h1) (by simpa using h2) hk
def start (N:List Str) (vs:List V):St:=vs.map some ++ List.replicate (N.length - vs.length) none
def eL (CX:CXT) (P:Program) (w:World) (K:PySem.W.Frag) (mg:Str -> Option Value) (base:Heap) (N:List Str) (qual:Str) (scope:Scope) (f:Addr) (cd:Value) (A:Around) (outer:List Env) (s:Shared) (H:Hp) (E:XK):Cx where
 prog:=P
 w:=w
 K:=K
 mg:=mg
 base:=base
 A:=A.deeper (envOfC qual scope s.heap.objs.size f cd)
 N:=N
 s₀:=s
 H₀:=H
 env:=envOfC qual scope s.heap.objs.size f cd
 outer:=outer
 stack:=envOfC qual scope s.heap.objs.size f cd :: outer
 ex:=[]
 calm:=true
 fn:=fun _=>true
 pn:=[]
 xe:=fun e s'=>wpAny (model P w) (A.deeper (envOfC qual scope s.heap.objs.size f cd)) (leaving (envOfC qual scope s.heap.objs.size f cd) e) (fun _ s''=>CX outer H s E e s'') (fun e' s''=>CX outer H s E e' s'') s'
theorem j4 {sc:Scope} {n:Nat} {x:Str} (h:sc.names.lookup x = some .cell):∃ c,(cellsFrom n sc.names []).lookup x = some c:=by
 have q:=PySem.W.cellsFrom_some sc.names n [] (.inl h)
 exact Option.isSome_iff_exists.mp q
theorem nJ {CX:CXT} {P:Program} {w:World} {K:PySem.W.Frag} {mg:Str -> Option Value} {base:Heap} {N ps:List Str} {qual:Str} {scope:Scope} {f:Addr} {cd:Value} {A:Around} {outer:List Env} {s s1:Shared} {H:Hp} {E:XK} {us:List Value} {vs:List V}
  (S:ai N ps scope) (hd:A.handled = none) (e0:u9 P w K mg base A outer s H) (hl:vs.length = ps.length) (r:Vals vs us)
  (x:InCallC s s.heap.objs.size (bindL (envOfC qual scope s.heap.objs.size f cd).kindOf (ps.zip us) fun _=>none) (cellsFrom (s.heap.objs.size + 1) scope.names []) (bindC (envOfC qual scope s.heap.objs.size f cd).kindOf (ps.zip us) fun _=>none) s1) :
  Inv (eL CX P w K mg base N qual scope f cd A outer s H E) [] (start N vs) H s1:=by
 have hpl:ps.length <= N.length:=by have:=congrArg List.length S.pre; rw [List.length_take] at this; omega
 obtain ⟨h1,tk,rfl,hk⟩:=x.done
 have noA:∀ b:Addr,b ∉ (eL CX P w K mg base N qual scope f cd A outer s H E).ex:=fun b z=>absurd (show b ∈ ([]:List Addr) from z) (by simp)
 refine ⟨⟨e0.mod,S.kind,rfl,rfl,Nat.le_refl _,fun y z c h1 h2=>?_,fun y hy=>?_,fun y c _ h=>?_,fun _=>hd,Around.frames_deeper e0.frames,.inr ⟨rfl,rfl⟩,fun b z=>absurd z (noA b),e0.bs,e0.bsz,fun b _ _=>noA b,fun b z=>absurd z (noA b),e0.funs,e0.frf⟩,
  rfl,e0.bare,Un.kept hk,⟨_,x.toInCall.ns,fun i y v h1 h2 h3=>?_⟩,fun y c h=>⟨_,x.cell y c h⟩,e0.hok.fresh (Nat.le_refl _),fun y c h=>?_,fun p hp=>absurd (show p ∈ ([]:List (Addr × Obj)) from hp) (by simp),e0.hok.kept hk,?_⟩
 ·exact name_of_addr x.apart (PySem.mem_of_lookup h1) (PySem.mem_of_lookup h2)
 ·have hy:scope.names.lookup y = some .cell \/ scope.names.lookup y = some .free:=hy
  rcases hy with hy | hy
  ·exact j4 hy
  ·exact absurd rfl (S.nofree _ (PySem.mem_of_lookup hy))
 ·exact Nat.le_of_lt (x.above y c (PySem.mem_of_lookup h))
 ·have hi:i < vs.length:=by
   unfold start at h2
   by_cases hi:i < vs.length
   ·exact hi
   ·rw [List.getElem?_append_right (by simpa using hi)] at h2
    rw [List.getElem?_replicate] at h2
    split at h2 <;> cases h2
  have ha:vs[i]? = some v:=by
   unfold start at h2
   rw [List.getElem?_append_left (by simpa using hi),List.getElem?_map] at h2
   cases e:vs[i]? with
   | none=>rw [e] at h2; cases h2
   | some a=>rw [e] at h2; cases h2; rfl
  obtain ⟨u,hu,rv⟩:=r.get ha
  have hp:ps[i]? = some y:=by
   rw [<- S.pre,List.getElem?_take_of_lt (by omega)]; exact h1
  have ndP:ps.Nodup:=by rw [<- S.pre]; exact S.nd.sublist (List.take_sublist _ _)
  refine ⟨u,rv,?_⟩
  rcases S.par y (List.mem_of_getElem? hp) with k | k
  ·exact .inl ⟨k,hZ ndP hp hu k⟩
  ·obtain ⟨c,e⟩:=j4 (n:=s.heap.objs.size + 1) k
   refine .inr ⟨.inl k,c,e,?_⟩
   have q:=x.cell y c e
   rw [gU ndP hp hu (by show scope.names.lookup y ≠ _; rw [k]; decide)] at q
   exact q
 ·exact e0.hok.fresh (Nat.le_of_lt (x.above y c (PySem.mem_of_lookup h)))
 ·unfold start
  show _ = N.length
  rw [List.length_append,List.length_map,List.length_replicate]
  omega
theorem vk {CX:CXT} {P:Program} {w:World} {K:PySem.W.Frag} {mg:Str -> Option Value} {base:Heap} {k:Nat} {f:Addr} {name qual:Str} {params:Arguments} {body:List Stmt} {scope:Scope} {dV kV doc pm cdv ct oc:Value} {an od:Option Addr}
  {osl:Array (Option Value)} {N ps:List Str} {sp:Sp} (lk:K.lookup f = some ⟨oc,od,.func (PySem.W.fnOf name qual params body scope dV kV doc pm an cdv ct),osl⟩) (hcd:PySem.W.codeIn K cdv qual = true) (S:ai N ps scope)
  (len:∀ vs H Q E,sp vs H Q E -> vs.length = ps.length)
  (hbody:∀ (A:Around) (outer:List Env) (s:Shared) (H:Hp) (vs:List V) (Q:VK) (E:XK),Room k (A.deeper (envOfC qual scope s.heap.objs.size f cdv)) -> sp vs H Q E ->
   ∃ t,PSs (eL CX P w K mg base N qual scope f cdv A outer s H E) body t /\ t { nx:=fun _ H'=>Q .non H',rt:=Q } (start N vs) H) :
  FnOk P w K mg base CX (k + 1) f (PySem.W.fnOf name qual params body scope dV kV doc pm an cdv ct) ps sp:=by
 refine ⟨len,fun A outer s H args us vs Q E hr e0 hb r hsp=>?_⟩
 have hl:=len _ _ _ _ hsp
 have KX:K.In s.heap:=e0.mod.kin.keeps fun b o e=>(e0.bs b o e).1
 have lim:s.heap.NoLimit:=e0.mod.nolimit.keeps fun b o e=>(e0.bs b o e).1
 have hkind:∀ y ∈ ps.zip us,scope.names.lookup y.1 = some .local \/ (scope.names.lookup y.1 = some .cell /\ ((cellsFrom (s.heap.objs.size + 1) scope.names []).lookup y.1).isSome = true):=fun ⟨n,v⟩ hy=>by
  rcases S.par n (List.of_mem_zip hy).1 with q | q
  ·exact .inl q
  ·exact .inr ⟨q,PySem.W.cellsFrom_some _ _ _ (.inl q)⟩
 refine codeAny_call_function hr.depth (KX _ _ lk) rfl S.co S.gen rfl (PySem.W.codeRec_of KX hcd) (hb _ _ _ _ ?_)
 refine wpAny_newFunctionEnv_cells S.kind hkind fun env he s1 x=>?_
 subst he
 refine ⟨lim.keeps x.toInCall.keep,codeAny_func ?_⟩
 obtain ⟨t,ht,hq⟩:=hbody A outer s H vs Q E (hr.deeper _) hsp
 have I:Inv (eL CX P w K mg base N qual scope f cdv A outer s H E) [] (start N vs) H s1:=nJ S hr.hd e0 hl r x
 refine wpAny_mono (ht [] s1 (start N vs) H _ I hq) (fun fl s' hs=>?_) fun e s' hs=>hs
 have fin:∀ {σ':St} {H':Hp} {v:V} {u:Value},Inv (eL CX P w K mg base N qual scope f cdv A outer s H E) [] σ' H' s' -> RelV v u -> Q v H' -> CE outer P w H s Q u s' :=
  fun {σ' H' v u} J rv q=>⟨v,H',J.os,J.bare,J.base,J.hok,rv,q⟩
 cases fl with
 | ret u =>
  obtain ⟨v,σ',H',J,rv,q⟩:=hs
  exact fin J rv q
 | next =>
  obtain ⟨σ',H',J,q⟩:=hs
  exact fin (v:=V.non) (u:=Value.none) J rfl q
 | brk =>
  obtain ⟨_,_,_,q⟩:=hs
  exact False.elim q
 | cont =>
  obtain ⟨_,_,_,q⟩:=hs
  exact False.elim q
end L2
namespace L2
open PySem PySem.Spec PyProof.Rows
section
variable {X:Cx} {x:Str} {p pos:Pos} {e:Expr} {es:List Expr} {t:TA} {id T:String} {r:List V -> Hp -> VK -> Prop}
def tCB (r:List V -> Hp -> VK -> Prop) (t:TA):TE:=fun σ H Q=>t σ H fun vs H1=>r vs H1 Q
theorem bU (hc:cX X (.builtin id) r) (hg:Gl X x) (hm:X.mg x = none) (hv:bootBuiltins x = some (.builtin id)) (ha:PA X (e :: es) t) (hn:x ≠ "__name__":=by decide) (hdb:(x == ("__debug__":Str)) = false:=by decide)
  (he:starEach (e :: es) X.env = (false,eval e X.env) :: starEach es X.env:=by rfl) (hpl:(backTo pos (starEach es X.env)).any (·.1) = false:=by rfl):PE X (.Call (.Name x p) (e :: es) [] pos) (tCB r t):=by
 intro pins s σ H Q I h
 refine wpAny_Call_Name_kw (dz I hg hm hv ?_ hn hdb)
 exact PyProof.Rows.callWith_builtin1 (thn (ha pos pins s σ H _ I h) fun us s1 ⟨vs,H1,I1,r1,q1⟩=>hc pins s1 σ H1 vs us Q I1 r1 q1) he hpl
theorem eO (hc:cX X (.type T) r) (hg:Gl X x) (hm:X.mg x = none) (hv:bootBuiltins x = some (.type T)) (ha:PA X (e :: es) t) (hn:x ≠ "__name__":=by decide) (hdb:(x == ("__debug__":Str)) = false:=by decide)
  (he:starEach (e :: es) X.env = (false,eval e X.env) :: starEach es X.env:=by rfl) (hpl:(backTo pos (starEach es X.env)).any (·.1) = false:=by rfl):PE X (.Call (.Name x p) (e :: es) [] pos) (tCB r t):=by
 intro pins s σ H Q I h
 refine wpAny_Call_Name_kw (dz I hg hm hv ?_ hn hdb)
 exact PyProof.Rows.callWith_type1 (thn (ha pos pins s σ H _ I h) fun us s1 ⟨vs,H1,I1,r1,q1⟩=>hc pins s1 σ H1 vs us Q I1 r1 q1) he hpl
end
end L2
namespace HT
open PySem PyProof.Rows
def lexLt:List Int -> List Int -> Bool
 | [],[]=>false
 | [],_ :: _=>true
 | _ :: _,[]=>false
 | x :: xs,y :: ys=>if x = y then lexLt xs ys else decide (x < y)
section
open PySem.SeqAt
open PySem.AutoSeq1 (wpAny_loadPart')
open PySem.MeetsSeq PySem.MeetsSeq2 PySem.MeetsSeq3
end
section
variable {prog:Program} {w:World} {A:Around} {E:Value -> Shared -> Prop} {s:Shared}
theorem cat_tup {t b:Addr} {vs ws:List Value} {Q:Value -> Shared -> Prop} (ht:IsTup s.heap t vs.toArray) (hb:IsTup s.heap b ws.toArray) (hv:vs ≠ [])
  (h1:ws = [] -> Q (.ref t) s) (h2:ws ≠ [] -> Q (.ref s.heap.objs.size) { s with heap:=s.heap.push { cls:=.type "tuple",data:=.seq (vs ++ ws).toArray } })
  (hsz:vs.length + ws.length <= sizeLine):wpAny (model prog w) A (binaryOp .Add (.ref t) (.ref b)) Q E s:=by
 obtain ⟨⟨cls,dd,data,sl⟩,ho,hc,n,hd⟩:=id ht
 obtain ⟨⟨cls2,dd2,data2,sl2⟩,ho2,hc2,n2,hd2⟩:=id hb
 simp only at hc hd hc2 hd2
 subst hc hd hc2 hd2
 have e:vs.toArray ++ ws.toArray = (vs ++ ws).toArray:=by simp
 by_cases hw:ws = []
 ·exact concat_meets ⟨_,ho,rfl⟩ ⟨_,ho2,rfl⟩ noFill_tuple_add seq_tuple_add PySem.F.slot_tuple_add PySem.F.entry_tuple_add (PySem.F.args_tuple_add_2 _ _)
   (tuple_addW1 t b vs.toArray ws.toArray n n2 dd dd2 sl sl2 (by simpa using hv) (by simp [hw])) ⟨ho,ho2,h1 hw⟩
 ·refine concat_meets ⟨_,ho,rfl⟩ ⟨_,ho2,rfl⟩ noFill_tuple_add seq_tuple_add PySem.F.slot_tuple_add PySem.F.entry_tuple_add (PySem.F.args_tuple_add_2 _ _)
   (tuple_addW2 t b vs.toArray ws.toArray n n2 dd dd2 sl sl2 (by simpa using hv) (by simpa using hw) (by rw [List.size_toArray,List.size_toArray]; exact hsz)) ⟨ho,ho2,?_⟩
  rw [e]
  exact h2 hw
def sIx (n d:Nat):Option Int -> Nat
 | none=>d
 | some v=>if v < 0 then (v + (n:Int)).toNat else min v.toNat n
theorem sIx_nat (n d k:Nat):sIx n d (some (k:Int)) = min k n:=by
 show (if (k:Int) < 0 then ((k:Int) + (n:Int)).toNat else min (k:Int).toNat n) = min k n
 rw [if_neg (by omega),Int.toNat_natCast]
theorem xN (n d:Nat) (hd:d <= n) (o:Option Int):sIx n d o <= n:=by
 cases o with
 | none=>exact hd
 | some v =>
  show (if v < 0 then (v + (n:Int)).toNat else min v.toNat n) <= n
  by_cases hv:v < 0
  ·rw [if_pos hv]; omega
  ·rw [if_neg hv]; exact Nat.min_le_right _ _
theorem lM (v:Int) (n d:Nat):(if v < 0 then max (v + (n:Int)) 0 else min v (n:Int)) = ((sIx n d (some v):Nat):Int):=by
 show (if v < 0 then max (v + (n:Int)) 0 else min v (n:Int)) = (((if v < 0 then (v + (n:Int)).toNat else min v.toNat n):Nat):Int)
 by_cases hv:v < 0
 ·simp only [if_pos hv]; omega
 ·simp only [if_neg hv]; omega
theorem kD (lo hi:Option Int) (n:Nat):Builtin.Slice.sliceAdjust lo hi 1 (n:Int) = (((sIx n 0 lo:Nat):Int),((sIx n n hi:Nat):Int)):=by
 have h1:¬ ((1:Int) < 0):=by omega
 unfold Builtin.Slice.sliceAdjust
 simp only [h1,if_false]
 refine Prod.ext ?_ ?_
 ·cases lo with
  | none=>rfl
  | some v=>exact lM v n 0
 ·cases hi with
  | none=>rfl
  | some v=>exact lM v n n
theorem k8 (i j:Nat):Builtin.Slice.slicePlaces (i:Int) (j:Int) 1 = j - i:=by
 unfold Builtin.Slice.slicePlaces
 have h1:(1:Int) > 0:=by omega
 simp only [h1,if_true,Int.ediv_one]
 split <;> omega
theorem fL {v:Value} {o:Option Int} {Q:Option Int -> Shared -> Prop} (p:IsPart v o) (h:Q o s):wpAny (model prog w) A (Builtin.Slice.slicePartIndex v) Q E s:=by
 cases p with
 | none=>exact slicePart_none h
 | int i t=>exact slicePart_int h
theorem sliceApplied_gen {sl:Addr} {vl vu:Value} {lo hi:Option Int} {n:Nat} {Q:Int × Int × Nat -> Shared -> Prop} (hs:s.heap.IsSliceOf sl vl vu .none) (pl:IsPart vl lo) (pu:IsPart vu hi)
  (h:Q (((sIx n 0 lo:Nat):Int),1,sIx n n hi - sIx n 0 lo) s):wpAny (model prog w) A (Builtin.Slice.sliceApplied (.ref sl) (pure (n:Int))) Q E s:=by
 obtain ⟨os,hos,hcs,hds⟩:=id hs
 unfold Builtin.Slice.sliceApplied Builtin.Slice.sliceFields
 refine wpAny_bind (wpAny_bind (wpAny_field hos hds (x:=vl) rfl (wpAny_bind (wpAny_field hos hds (x:=vu) rfl (wpAny_bind (wpAny_field hos hds (x:=.none) rfl (wpAny_pure ?_)))))))
 refine wpAny_bind (slicePart_none ?_)
 show wpAny _ _ (if ((1:Int) == 0) = true then _ else _) _ _ s
 rw [if_neg (by decide)]
 refine wpAny_bind (fL pl (wpAny_bind (fL pu (wpAny_bind (wpAny_pure ?_)))))
 show wpAny _ _ (match Builtin.Slice.sliceAdjust lo hi 1 (n:Int) with | (lo,hi)=>pure (lo,(1:Int),Builtin.Slice.slicePlaces lo hi 1)) _ _ s
 rw [kD lo hi n]
 show wpAny _ _ (pure (((sIx n 0 lo:Nat):Int),(1:Int),Builtin.Slice.slicePlaces ((sIx n 0 lo:Nat):Int) ((sIx n n hi:Nat):Int) 1)) _ _ s
 rw [k8]
 exact wpAny_pure h
theorem qW (xs:Array Value) (i k:Nat):((List.range k).filterMap fun (m:Nat)=>xs[((i:Int) + (m:Int) * 1).toNat]?).toArray = ((xs.toList.drop i).take k).toArray:=by
 have e:(fun (m:Nat)=>xs[((i:Int) + (m:Int) * 1).toNat]?) = fun m=>xs[i + m]?:=by
  funext m
  have:((i:Int) + (m:Int) * 1).toNat = i + m:=by omega
  rw [this]
 rw [e]
 have:=pick_run xs i k
 rw [List.filterMap_map] at this
 have e2:((fun x=>xs[x]?) ∘ fun x=>i + x) = fun m=>xs[i + m]?:=rfl
 rw [e2] at this
 rw [this]
theorem getItem_tuple_cut {t sl:Addr} {items:Array Value} {vl vu:Value} {lo hi:Option Int} {Q:Value -> Shared -> Prop} (ht:IsTup s.heap t items) (hs:s.heap.IsSliceOf sl vl vu .none) (pl:IsPart vl lo) (pu:IsPart vu hi)
  (hw:¬ (sIx items.size 0 lo = 0 /\ sIx items.size items.size hi = items.size))
  (h:Q (.ref s.heap.objs.size) { s with heap:=s.heap.push { cls:=.type "tuple",data:=.seq ((items.toList.drop (sIx items.size 0 lo)).take (sIx items.size items.size hi - sIx items.size 0 lo)).toArray } })
  (hsz:items.size <= sizeLine):wpAny (model prog w) A (getItem (.ref t) (.ref sl)) Q E s:=by
 have htake:sizeOk (.seq ((items.toList.drop (sIx items.size 0 lo)).take (sIx items.size items.size hi - sIx items.size 0 lo)).toArray):=by
  show ((items.toList.drop (sIx items.size 0 lo)).take (sIx items.size items.size hi - sIx items.size 0 lo)).toArray.size <= sizeLine
  rw [List.size_toArray,List.length_take,List.length_drop,Array.length_toList]
  omega
 have hj:sIx items.size items.size hi <= items.size:=xN _ _ (Nat.le_refl _) hi
 obtain ⟨os,hos,hcs,hds⟩:=id hs
 have hTs:s.TypeIs (.ref sl) "slice":=⟨os,hos,hcs⟩
 unfold getItem
 try with_reducible refine wpAny_holding ?_
 first | refine wpAny_bind (wpAny_pure ?_) | skip
 refine wpAny_bind (wpAny_sequenceKey ht.typeIs (by decide) ?_)
 refine wpAny_bind (wpAny_callSpecial?_slot (name:=Str.ofString "__getitem__") ht.typeIs PyProof.Rows.slot_tuple_getitem
  (wpAny_call_entry PyProof.Rows.slot_tuple_getitem ht.typeIs entry_tuple_getitem ?_ (args_tuple_getitem _ _)))
 show wpAny _ _ (Builtin.Tuple.tupleItemsOf (.ref t) >>= _) _ _ s
 refine wpAny_bind (tupleItemsOf_ ht ?_)
 refine wpAny_bind (wpAny_typeOf hTs ?_)
 rw [if_pos (by decide)]
 refine wpAny_bind (sliceApplied_gen hs pl pu ?_)
 have hno:¬ ((((sIx items.size 0 lo:Nat):Int) == 0 && (1:Int) == 1 && (sIx items.size items.size hi - sIx items.size 0 lo) == items.size) = true):=by
  intro q
  rw [Bool.and_eq_true,Bool.and_eq_true] at q
  have q1:((sIx items.size 0 lo:Nat):Int) = 0:=eq_of_beq q.1.1
  have q2:sIx items.size items.size hi - sIx items.size 0 lo = items.size:=eq_of_beq q.2
  exact hw ⟨by omega,by omega⟩
 show wpAny _ _ (if (((sIx items.size 0 lo:Nat):Int) == 0 && (1:Int) == 1 && (sIx items.size items.size hi - sIx items.size 0 lo) == items.size) = true then _ else _) _ _ s
 rw [if_neg hno,qW]
 first
  | exact wpAny_bind (m:=Builtin.Tuple.tupleExact _) (wpAny_newObj_type (wpAny_pure ⟨_,rfl,wpAny_pure h⟩) htake)
  | exact wpAny_bind (m:=Builtin.Tuple.tupleExact _) (wpAny_newObj_type (wpAny_bind (wpAny_pure (wpAny_pure ⟨_,rfl,wpAny_pure h⟩))) htake)
  | exact wpAny_bind (wpAny_bind (m:=Builtin.Tuple.tupleExact _) (wpAny_newObj_type (wpAny_pure (wpAny_pure ⟨_,rfl,wpAny_pure h⟩)) htake))
  | exact wpAny_bind (wpAny_bind (m:=Builtin.Tuple.tupleExact _) (wpAny_newObj_type (wpAny_pure ⟨_,rfl,wpAny_pure h⟩) htake))
end
end HT
namespace L2
open PySem PySem.Spec PyProof.Rows
abbrev TO:=St -> Hp -> (Option Int -> Hp -> Prop) -> Prop
def PO (X:Cx) (e:Option Expr) (t:TO):Prop :=
 ∀ (pins:List (Addr × Obj)) (s:Shared) (σ:St) (H:Hp) (Q:Option Int -> Hp -> Prop),Inv X pins σ H s -> t σ H Q ->
  wpAny (model X.prog X.w) X.A (evalPart e X.env) (fun u s'=>∃ o H',Inv X pins σ H' s' /\ IsPart u o /\ Q o H') X.xe s
def rF:TO:=fun _ H Q=>Q none H
def Aq (t:TE):TO:=fun σ H Q=>t σ H fun x H1=>∃ i,x = .int i /\ Q (some i) H1
section
variable {X:Cx} {e:Expr} {te:TE} {lo hi:Option Expr} {tl th:TO} {pos p2:Pos}
theorem um:PO X none rF:=by
 intro pins s σ H Q I h
 rw [evalPart_none]
 exact wpAny_pure ⟨none,H,I,.none,h⟩
theorem i3 (h:PE X e te):PO X (some e) (Aq te):=by
 intro pins s σ H Q I hw
 rw [evalPart_some]
 refine thn (h pins s σ H _ I hw) fun u s1 ⟨x,H1,I1,r1,q1⟩=>?_
 obtain ⟨i,rfl,q⟩:=q1
 obtain ⟨t,rfl⟩:=r1
 exact ⟨some i,H1,I1,.int i t,q⟩
def SlR (X:Cx) (r:V -> Option Int -> Option Int -> Hp -> VK -> Prop):Prop :=
 ∀ (pins:List (Addr × Obj)) (s:Shared) (σ:St) (H:Hp) (x:V) (v vl vu:Value) (lo hi:Option Int) (sl:Addr) (Q:VK),Inv X pins σ H s -> RelV x v -> s.heap.IsSliceOf sl vl vu .none -> IsPart vl lo -> IsPart vu hi -> r x lo hi H Q ->
  ∃ T id,typeLookup (.type T) "__getitem__" = pure (some (.builtin id)) /\ s.TypeIs v T /\ wpAny (model X.prog X.w) X.A (getItem v (.ref sl)) (EP X pins σ Q) X.xe s
theorem SlR.or {r r':V -> Option Int -> Option Int -> Hp -> VK -> Prop} (h:SlR X r) (h':SlR X r'):SlR X (fun x lo hi H Q=>r x lo hi H Q \/ r' x lo hi H Q):=by
 intro pins s σ H x v vl vu lo hi sl Q I rx hs pl pu q
 rcases q with q | q
 ·exact h pins s σ H x v vl vu lo hi sl Q I rx hs pl pu q
 ·exact h' pins s σ H x v vl vu lo hi sl Q I rx hs pl pu q
def tSl (r:V -> Option Int -> Option Int -> Hp -> VK -> Prop) (te:TE) (tl th:TO):TE:=fun σ H Q=>te σ H fun x H1=>tl σ H1 fun l H2=>th σ H2 fun u H3=>r x l u H3 Q
theorem j5 {r:V -> Option Int -> Option Int -> Hp -> VK -> Prop} (hr:SlR X r) (he:PE X e te) (hl:PO X lo tl) (hu:PO X hi th):PE X (.Subscript e (.Slice lo hi none p2) pos) (tSl r te tl th):=by
 intro pins s σ H Q I h
 refine Subscript_ (thn (he pins s σ H _ I h) fun v s1 ⟨x,H1,I1,r1,q1⟩=>?_)
 refine wpAny_Slice (thn (hl pins s1 σ H1 _ I1 q1) fun vl s2 ⟨l,H2,I2,pl,q2⟩=>thn (hu pins s2 σ H2 _ I2 q2) fun vu s3 ⟨u,H3,I3,pu,q3⟩=>?_)
 rw [evalPart_none]
 refine wpAny_pure ?_
 have I4:Inv X pins σ H3 { s3 with heap:=s3.heap.push { cls:=.type "slice",data:=.fields #[vl,vu,.none] } }:=I3.kept (t':=s3.toks) fun b ob q=>Heap.get?_push_of_some _ q
 obtain ⟨T,id,hT,ht,hg⟩:=hr pins { s3 with heap:=s3.heap.push { cls:=.type "slice",data:=.fields #[vl,vu,.none] } } σ H3 x v vl vu l u s3.heap.objs.size Q I4 r1 (Heap.IsSliceOf.new ..) pl pu q3
 show wpAny (model X.prog X.w) X.A (subscriptTail e (.Slice lo hi none p2) v (.ref s3.heap.objs.size)) (EP X pins σ Q) X.xe { s3 with heap:=s3.heap.push { cls:=.type "slice",data:=.fields #[vl,vu,.none] } }
 exact tail_any (ops:=[.ref s3.heap.objs.size,v]) ht hT hg (by with_unfolding_all rfl)
def dg (xs:List V) (lo hi:Option Int):List V:=(xs.drop (HT.sIx xs.length 0 lo)).take (HT.sIx xs.length xs.length hi - HT.sIx xs.length 0 lo)
theorem b9 (xs:List V) (lo hi:Option Int):(dg xs lo hi).length <= xs.length:=by
 unfold dg
 rw [List.length_take,List.length_drop]
 omega
def BO (K:PySem.W.Frag):V -> Option Int -> Option Int -> Hp -> VK -> Prop:=fun x lo hi H Q=>∃ a xs,x = .ref a /\ SqT K H a xs /\
 ¬ (HT.sIx xs.length 0 lo = 0 /\ HT.sIx xs.length xs.length hi = xs.length) /\ ∀ p,H p = none -> Q (.ref p) (upd H p (.tup (dg xs lo hi)))
theorem yQ:SlR X (BO X.K):=by
 intro pins s σ H x v vl vu lo hi sl Q I rx hs pl pu h
 obtain ⟨a,xs,rfl,hx,hw,q⟩:=h
 cases rx
 obtain ⟨its,r,ht,hz⟩:=I.tuple hx
 have hlen:its.toArray.size = xs.length:=by rw [List.size_toArray]; exact r.length.symm
 refine ⟨"tuple",_,PyProof.Rows.slot_tuple_getitem.lookup,ht.typeIs,?_⟩
 refine HT.getItem_tuple_cut ht hs pl pu (by rw [hlen]; exact hw) ?_ (by rw [hlen]; exact hz)
 rw [hlen]
 refine ⟨.ref s.heap.objs.size,_,I.laid (t':=s.toks) (o:=.tup (dg xs lo hi)) (fun b ob q=>Heap.get?_push_of_some _ q) (Nat.le_refl _) ?_,rfl,q _ (I.hok.fresh (Nat.le_refl _))⟩
 exact ⟨Nat.le_trans (b9 xs lo hi) hz,_,(r.drop (HT.sIx xs.length 0 lo)).take (HT.sIx xs.length xs.length hi - HT.sIx xs.length 0 lo),IsTup.new _ _⟩
def Dd (K:PySem.W.Frag):R2:=fun x y H Q=>∃ a b ns ms,x = .ref a /\ y = .ref b /\ SqT K H a (ns.map V.int) /\ SqT K H b (ms.map V.int) /\ Q (.bl (HT.lexLt ns ms)) H
def z0 (K:PySem.W.Frag):R2:=fun x y H Q=>∃ a b xs ys,x = .ref a /\ y = .ref b /\ SqT K H a xs /\ SqT K H b ys /\ xs ≠ [] /\ xs.length + ys.length <= sizeLine /\
 (ys = [] -> Q (.ref a) H) /\ (ys ≠ [] -> ∀ p,H p = none -> Q (.ref p) (upd H p (.tup (xs ++ ys))))
theorem Vals.nil_iff {xs:List V} {us:List Value} (r:Vals xs us):us = [] ↔ xs = []:=by
 cases r with
 | nil=>simp
 | cons _ _=>simp
theorem uW:OpR X (binaryOp .Add) (z0 X.K):=by
 intro pins s σ H x y v u Q I rx ry h
 obtain ⟨a,b,xs,ys,rfl,rfl,ha,hb,hx,hz,q1,q2⟩:=h
 cases rx
 cases ry
 obtain ⟨its,r1,p1,_⟩:=I.tuple ha
 obtain ⟨its2,r2,p2,_⟩:=I.tuple hb
 refine HT.cat_tup p1 p2 (fun z=>hx (r1.nil_iff.mp z)) (fun z=>⟨.ref a,H,I,rfl,q1 (r2.nil_iff.mp z)⟩) (fun z=>?_) (by rw [<- r1.length,<- r2.length]; exact hz)
 refine ⟨.ref s.heap.objs.size,_,I.laid (t':=s.toks) (o:=.tup (xs ++ ys)) (fun b ob q=>Heap.get?_push_of_some _ q) (Nat.le_refl _) ?_,rfl,q2 (fun w=>z (r2.nil_iff.mpr w)) _ (I.hok.fresh (Nat.le_refl _))⟩
 exact ⟨by rw [List.length_append]; exact hz,_,r1.append r2,IsTup.new _ _⟩
end
end L2
namespace L2
open PySem PySem.Spec PyProof.Rows
def ixN (n:Nat) (i:Int):Option Nat:=if 0 <= i then (if i < n then some i.toNat else none) else if -(n:Int) <= i then some (i + n).toNat else none
def atI {α:Type} (xs:List α) (i:Int):Option α:=(ixN xs.length i).bind fun j=>xs[j]?
theorem lP {n:Nat} {i:Int} {j:Nat} (h:ixN n i = some j):seqIndex? i n = some j /\ j < n /\ -(n:Int) <= i /\ i < n:=by
 unfold ixN at h
 by_cases h0:0 <= i
 ·rw [if_pos h0] at h
  by_cases h1:i < n
  ·rw [if_pos h1] at h
   have e:i.toNat = j:=Option.some.inj h
   exact ⟨by rw [seqIndex_of h0 h1,e],by omega,by omega,h1⟩
  ·rw [if_neg h1] at h; cases h
 ·rw [if_neg h0] at h
  by_cases h1:-(n:Int) <= i
  ·rw [if_pos h1] at h
   have e:(i + n).toNat = j:=Option.some.inj h
   exact ⟨by rw [seqIndex_neg (by omega) h1,e],by omega,h1,by omega⟩
  ·rw [if_neg h1] at h; cases h
theorem iT {α:Type} {xs:List α} {i:Int} {v:α} (h:atI xs i = some v):∃ j,seqIndex? i xs.length = some j /\ xs[j]? = some v /\ j < xs.length /\ -(xs.length:Int) <= i /\ i < xs.length:=by
 unfold atI at h
 cases e:ixN xs.length i with
 | none=>rw [e] at h; cases h
 | some j =>
  rw [e] at h
  obtain ⟨h1,h2,h3,h4⟩:=lP e
  exact ⟨j,h1,h,h2,h3,h4⟩
def lY (b:Expr):Prop:=∀ o i,subscripted b false o i = operate [o,i] (getItem o i)
def IxR (X:Cx) (r:R2):Prop :=
 ∀ (value slice:Expr) (pins:List (Addr × Obj)) (s:Shared) (σ:St) (H:Hp) (x y:V) (v u:Value) (Q:VK),Inv X pins σ H s -> RelV x v -> RelV y u -> r x y H Q ->
  subscripted slice false v u = operate [v,u] (getItem v u) -> wpAny (model X.prog X.w) X.A (subscriptTail value slice v u) (EP X pins σ Q) X.xe s
def MtR (X:Cx) (id:String) (r:V -> List V -> Hp -> VK -> Prop):Prop :=
 ∀ (pins:List (Addr × Obj)) (s:Shared) (σ:St) (H:Hp) (x:V) (xs:List V) (v:Value) (us:List Value) (Q:VK),Inv X pins σ H s -> RelV x v -> Vals xs us -> r x xs H Q ->
  wpAny (model X.prog X.w) X.A (call (.builtin id) (v :: us)) (EP X pins σ Q) X.xe s
section
variable {X:Cx} {a b:Expr} {ta tb:TE} {pos:Pos}
theorem IxR.or {r r':R2} (h:IxR X r) (h':IxR X r'):IxR X (fun x y H Q=>r x y H Q \/ r' x y H Q):=by
 intro value slice pins s σ H x y v u Q I rx ry q hs
 rcases q with q | q
 ·exact h value slice pins s σ H x y v u Q I rx ry q hs
 ·exact h' value slice pins s σ H x y v u Q I rx ry q hs
theorem zy {r:R2} (hr:IxR X r) (ha:PE X a ta) (hb:PE X b tb) (hs:lY b):PE X (.Subscript a b pos) (tOp r ta tb):=by
 intro pins s σ H Q I h
 exact Subscript_ (yH ha hb I h fun v u s2 x y H2 I2 rx ry q=>hr a b pins s2 σ H2 x y v u Q I2 rx ry q (hs _ _))
def zA (K:PySem.W.Frag):R2:=fun x y H Q=>∃ p xs i v,x = .ref p /\ y = .int i /\ SqL K H p xs /\ atI xs i = some v /\ Q v H
def AY (K:PySem.W.Frag):R2:=fun x y H Q=>∃ p xs i v,x = .ref p /\ y = .int i /\ SqT K H p xs /\ atI xs i = some v /\ Q v H
def AX:R2:=fun x y H Q=>∃ z i c,x = .str z /\ y = .int i /\ z.length <= sizeLine /\ atI z.cps.toList i = some c /\ Q (.str ⟨#[c]⟩) H
theorem tD:IxR X (zA X.K):=by
 intro value slice pins s σ H x y v u Q I rx ry h hs
 obtain ⟨p,xs,i,z,rfl,rfl,hq,he,q⟩:=h
 cases rx
 obtain ⟨t,rfl⟩:=ry
 obtain ⟨its,r,pl,hz⟩:=I.list hq
 obtain ⟨j,h1,h2,h3,h4,h5⟩:=iT he
 obtain ⟨w,ew,rw'⟩:=r.get h2
 have hl:=r.length
 have hn:=eZ
 have fin:EP X pins σ Q w s:=⟨z,H,I,rw',q⟩
 by_cases h0:0 <= i
 ·have hj:i.toNat = j:=by
   rw [seqIndex_of h0 h5] at h1
   exact Option.some.inj h1
  exact item_listR pl.isList h0 (by omega) (by rw [hj]; simpa using ew) fin hs
 ·have hj:(i + (its.toArray.size:Int)).toNat = j:=by
   rw [seqIndex_neg (by omega) h4] at h1
   rw [List.size_toArray,<- hl]
   exact Option.some.inj h1
  exact subscriptTail_builtinR (x:=w) pl.isList.typeIs slot_list_getitem.lookup
   (wpAny_getItem_list_neg (Q:=fun r s'=>r = w /\ EP X pins σ Q r s') pl.isList (by omega) (by rw [List.size_toArray] <;> omega) (by omega) (by rw [hj]; simpa using ew) ⟨rfl,fin⟩) hs
theorem xT:IxR X (AY X.K):=by
 intro value slice pins s σ H x y v u Q I rx ry h hs
 obtain ⟨p,xs,i,z,rfl,rfl,hq,he,q⟩:=h
 cases rx
 obtain ⟨t,rfl⟩:=ry
 obtain ⟨its,r,pl,hz⟩:=I.tuple hq
 obtain ⟨j,h1,h2,h3,h4,h5⟩:=iT he
 obtain ⟨w,ew,rw'⟩:=r.get h2
 have hl:=r.length
 have hn:=eZ
 have fin:EP X pins σ Q w s:=⟨z,H,I,rw',q⟩
 exact subscriptTail_builtinR (x:=w) pl.typeIs slot_tuple_getitem.lookup
  (getItem_tuple (j:=j) (Q:=fun r s'=>r = w /\ EP X pins σ Q r s') pl (by omega) (by omega) (by rw [List.size_toArray,<- hl]; exact h1) (by simpa using ew) ⟨rfl,fin⟩) hs
theorem xS:IxR X AX:=by
 intro value slice pins s σ H x y v u Q I rx ry h hs
 obtain ⟨z,i,c,rfl,rfl,hz,he,q⟩:=h
 obtain ⟨t,rfl⟩:=rx
 obtain ⟨t',rfl⟩:=ry
 obtain ⟨j,h1,h2,h3,h4,h5⟩:=iT he
 have hl:z.cps.toList.length = z.length:=by simp [Str.length]
 rw [hl] at h1 h4 h5
 have hn:=eZ
 exact tail_any (typeIs_str s z t) slot_str_getitem.lookup (getItem_str (c:=c) (by
  have e1:decide (i < -(2 ^ 63:Int)) = false:=decide_eq_false (by omega)
  have e2:decide (i >= 2 ^ 63) = false:=decide_eq_false (by omega)
  rw [e1,e2,Bool.or_false]) (by rw [h1]; simpa using h2) ⟨.str ⟨#[c]⟩,H,I.tok _,⟨_,rfl⟩,q⟩) hs
def rIx (K:PySem.W.Frag):R2:=fun x y H Q=>zA K x y H Q \/ AY K x y H Q \/ AX x y H Q
theorem kE (its:List Value) (n j:Nat) (u:Value):Obj.mapSeq (·.setIfInBounds j u) { cls:=.type "list",data:=.seq its.toArray n } = { cls:=.type "list",data:=.seq (its.set j u).toArray n }:=by
 simp [Obj.mapSeq]
theorem Inv.lst {pins:List (Addr × Obj)} {σ:St} {H:Hp} {s:Shared} {p:Addr} {xs:List V} (I:Inv X pins σ H s) (h:H p = some (.lst xs)) :
  ∃ (its:List Value) (n:Nat),Vals xs its /\ s.heap.get? p = some { cls:=.type "list",data:=.seq its.toArray n } /\ xs.length <= sizeLine:=by
 obtain ⟨z,its,n,r,e⟩:=I.hok p _ h
 exact ⟨its,n,r,e,z⟩
theorem Inv.lstUpd {pins:List (Addr × Obj)} {σ:St} {H:Hp} {s:Shared} {p:Addr} {xs ys:List V} {its its':List Value} {n n':Nat} {f:Obj -> Obj} (I:Inv X pins σ H s) (h:H p = some (.lst xs))
  (ho:s.heap.get? p = some { cls:=.type "list",data:=.seq its.toArray n }) (hf:f { cls:=.type "list",data:=.seq its.toArray n } = { cls:=.type "list",data:=.seq its'.toArray n' }) (r:Vals ys its') (hz:ys.length <= sizeLine) (t:Nat) :
  Inv X pins σ (upd H p (.lst ys)) { s with heap:=s.heap.update p f,toks:=t }:=by
 have e:(s.heap.update p f).get? p = some { cls:=.type "list",data:=.seq its'.toArray n' }:=by
  rw [Heap.get?_update_self f ho (by rw [hf] <;> rfl),hf]
 refine I.write (x:=p) (e:=p) (by rw [h]; trivial) (.inl rfl) (fun b u hb q=>(Heap.get?_update_other _ _ (Ne.symm hb)).trans q) ⟨_,e⟩ ?_
 exact ⟨hz,its',n',r,e⟩
def Ae:V -> V -> V -> Hp -> (Hp -> Prop) -> Prop:=fun o i v H Q=>∃ p xs k j,o = .ref p /\ i = .int k /\ H p = some (.lst xs) /\ ixN xs.length k = some j /\ Q (upd H p (.lst (xs.set j v)))
theorem oM:Bu X Ae:=by
 intro pins s σ H o i v ov iv u Q I ro ri rv h
 obtain ⟨p,xs,k,j,rfl,rfl,hp,hj,q⟩:=h
 cases ro
 obtain ⟨t,rfl⟩:=ri
 obtain ⟨its,n,r,ho,hz⟩:=I.lst hp
 obtain ⟨h1,h2,h3,h4⟩:=lP hj
 have hl:=r.length
 have hn:=eZ
 have I':Inv X pins σ (upd H p (.lst (xs.set j v))) { s with heap:=s.heap.update p (Obj.mapSeq (·.setIfInBounds j u)) } :=
  I.lstUpd hp ho (kE its n j u) (r.set rv j) (by rw [List.length_set]; exact hz) s.toks
 by_cases h0:0 <= k
 ·have hk:k.toNat = j:=by
   rw [seqIndex_of h0 h4] at h1
   exact Option.some.inj h1
  exact PySem.W.ki_setAt ho h0 (by omega) (by rw [List.size_toArray,<- hl]; exact h4) (by rw [hk]; exact ⟨_,I',q⟩)
 ·have hk:(k + (its.toArray.size:Int)).toNat = j:=by
   rw [seqIndex_neg (by omega) h3] at h1
   rw [List.size_toArray,<- hl]
   exact Option.some.inj h1
  exact PySem.W.ki_setBack ho (by omega) (by rw [List.size_toArray,<- hl]; exact h3) (by omega) (by rw [hk]; exact ⟨_,I',q⟩)
theorem iq (lo hi:Option Int) (n:Nat):(sliceBounds lo hi none n).1 = ((HT.sIx n 0 lo:Nat):Int) /\ (sliceBounds lo hi none n).2.1 = ((HT.sIx n n hi:Nat):Int) /\ (sliceBounds lo hi none n).2.2 = 1:=by
 refine ⟨?_,?_,rfl⟩
 ·cases lo with
  | none=>simp [sliceBounds,HT.sIx]
  | some i =>
   simp only [sliceBounds,HT.sIx,Option.getD_none,show (1:Int) > 0 by decide,if_true]
   by_cases h:i < 0
   ·simp only [h,if_true] <;> omega
   ·simp only [h,if_false] <;> omega
 ·cases hi with
  | none=>simp [sliceBounds,HT.sIx]
  | some i =>
   simp only [sliceBounds,HT.sIx,Option.getD_none,show (1:Int) > 0 by decide,if_true]
   by_cases h:i < 0
   ·simp only [h,if_true] <;> omega
   ·simp only [h,if_false] <;> omega
theorem gC (its:List Value) (lo hi:Option Int):slicePick its.toArray lo hi none = ((its.drop (HT.sIx its.length 0 lo)).take (HT.sIx its.length its.length hi - HT.sIx its.length 0 lo)).toArray:=by
 obtain ⟨h1,h2,h3⟩:=iq lo hi its.toArray.size
 unfold slicePick
 rw [h1,h2,h3]
 simp only [sliceRange_one,pick_run,List.size_toArray] <;> rfl
def yN (K:PySem.W.Frag):V -> Option Int -> Option Int -> Hp -> VK -> Prop:=fun x lo hi H Q=>∃ a xs,x = .ref a /\ SqL K H a xs /\ ∀ p,H p = none -> Q (.ref p) (upd H p (.lst (dg xs lo hi)))
theorem sl_list:SlR X (yN X.K):=by
 intro pins s σ H x v vl vu lo hi sl Q I rx hs pl pu h
 obtain ⟨a,xs,rfl,hx,q⟩:=h
 cases rx
 obtain ⟨its,r,ht,hz⟩:=I.list hx
 have hlen:=r.length
 refine ⟨"list",_,slot_list_getitem.lookup,ht.isList.typeIs,?_⟩
 refine wpAny_getItem_list_slice ht.isList hs pl pu .none (by simp) ?_ (by rw [List.size_toArray] <;> omega)
 rw [gC,<- hlen]
 refine ⟨.ref s.heap.objs.size,_,I.laid (t':=s.toks) (o:=.lst (dg xs lo hi)) (fun b ob q=>Heap.get?_push_of_some _ q) (Nat.le_refl _) ?_,rfl,q _ (I.hok.fresh (Nat.le_refl _))⟩
 exact ⟨Nat.le_trans (b9 xs lo hi) hz,_,0,(r.drop (HT.sIx xs.length 0 lo)).take (HT.sIx xs.length xs.length hi - HT.sIx xs.length 0 lo),Heap.get?_push_size _ rfl⟩
def pd:V -> Bool
 | .non=>true
 | .bl _=>true
 | .int _=>true
 | .str _=>true
 | _=>false
def eqV:V -> V -> Bool
 | .non,.non=>true
 | .bl a,.bl b=>a == b
 | .bl a,.int b=>(if a then 1 else 0) == b
 | .int a,.bl b=>a == (if b then 1 else 0)
 | .int a,.int b=>a == b
 | .str a,.str b=>a == b
 | _,_=>false
def eqU (x:V) (u:Value):Bool:=match u with
 | .none=>eqV .non x
 | .bool b=>eqV (.bl b) x
 | .int i _=>eqV (.int i) x
 | .str z _=>eqV (.str z) x
 | _=>false
def inV (x:V) (xs:List V):Bool:=xs.any fun y=>eqV y x
def rIn (K:PySem.W.Frag) (neg:Bool):R2:=fun x y H Q=>∃ p xs,y = .ref p /\ (SqL K H p xs \/ SqT K H p xs) /\ pd x = true /\ xs.all pd = true /\ Q (.bl (if neg then !inV x xs else inV x xs)) H
theorem iM:cX X (.type "list") (fun xs H Q=>∃ p ys,xs = [.ref p] /\ (SqL X.K H p ys \/ SqT X.K H p ys) /\ ∀ l,H l = none -> Q (.ref l) (upd H l (.lst ys))):=by
 intro pins s σ H xs us Q I r h
 obtain ⟨p,ys,rfl,hq,q⟩:=h
 obtain ⟨u,rfl,rx⟩:=jD r
 cases rx
 have fin:∀ (its:List Value),Vals ys its -> ys.length <= sizeLine -> ∀ (h':Heap) (c':Nat),(∀ b o',s.heap.get? b = some o' -> h'.get? b = some o') ->
   h'.get? s.heap.objs.size = some { cls:=.type "list",dict:=none,data:=.seq its.toArray c',slots:=#[] } -> EP X pins σ Q (.ref s.heap.objs.size) { s with heap:=h' }:=fun its r' hz h' c' kp e =>
  ⟨.ref s.heap.objs.size,_,I.laid (t':=s.toks) kp (Nat.le_refl _) (show ObjOk X.prog X.w _ h' _ (.lst ys) from ⟨hz,its,c',r',e⟩),rfl,q _ (I.hok.fresh (Nat.le_refl _))⟩
 rcases hq with hq | hq
 ·obtain ⟨its,r',pl,hz⟩:=I.list hq
  have hlen:=r'.length
  obtain ⟨o,ho,hc,n,hd⟩:=pl.isList
  exact call_list_seq p (.inl rfl) ho hc hd (fun h' c' kp e=>fin its r' hz h' c' kp e) (by simp only [List.size_toArray] <;> omega)
 ·obtain ⟨its,r',pl,hz⟩:=I.tuple hq
  have hlen:=r'.length
  obtain ⟨o,ho,hc,n,hd⟩:=pl
  exact call_list_seq p (.inr rfl) ho hc hd (fun h' c' kp e=>fin its r' hz h' c' kp e) (by simp only [List.size_toArray] <;> omega)
def tyV (K:PySem.W.Frag) (T:String) (x:V) (H:Hp):Prop:=match x with
 | .str _=>T = "str"
 | .int _=>T = "int"
 | .ref p=>(T = "list" /\ ∃ xs,SqL K H p xs) \/ (T = "tuple" /\ ∃ o,K.lookup p = some o /\ o.cls = .type "tuple" /\ o.dict = none) \/
   (T = "dict" /\ ((∃ kvs,H p = some (.dK kvs)) \/ ∃ kvs,H p = some (.dT kvs))) \/ (T = "set" /\ ∃ S n,H p = some (.set S n))
 | _=>False
theorem wN {pins:List (Addr × Obj)} {σ:St} {H:Hp} {s:Shared} {T:String} {x:V} {v:Value} (I:Inv X pins σ H s) (r:RelV x v) (ty:tyV X.K T x H) :
  s.TypeIs v T /\ ∀ a,v = .ref a -> ∃ ob,s.heap.get? a = some ob /\ ob.dict = none:=by
 cases x with
 | str z =>
  obtain ⟨t,rfl⟩:=r
  cases (show T = "str" from ty)
  exact ⟨typeIs_str s z t,fun _ e=>nomatch e⟩
 | int i =>
  obtain ⟨t,rfl⟩:=r
  cases (show T = "int" from ty)
  exact ⟨typeIs_int s i t,fun _ e=>nomatch e⟩
 | ref p =>
  cases r
  rcases ty with ⟨rfl,xs,hq⟩ | ⟨rfl,o,hk,hc,hd⟩ | ⟨rfl,hk⟩ | ⟨rfl,S,n,hk⟩
  ·obtain ⟨its,_,pl,_⟩:=I.list hq
   refine ⟨pl.isList.typeIs,fun a e=>?_⟩
   cases e
   obtain ⟨o,n,e,c,hd,_⟩:=pl
   exact ⟨o,e,hd⟩
  ·refine ⟨⟨o,I.kIn p o hk,hc⟩,fun a e=>?_⟩
   cases e
   exact ⟨o,I.kIn _ o hk,hd⟩
  ·have z:∃ o,s.heap.get? p = some o /\ o.ExactDict:=by
    rcases hk with ⟨kvs,hk⟩ | ⟨kvs,hk⟩
    ·obtain ⟨_,_,_,_,o,_,_,e,ex,_⟩:=I.hok p _ hk
     exact ⟨o,e,ex⟩
    ·obtain ⟨_,_,_,_,o,_,_,e,ex,_⟩:=I.hok p _ hk
     exact ⟨o,e,ex⟩
   obtain ⟨o,e,ex⟩:=z
   refine ⟨⟨o,e,ex.1⟩,fun a e2=>?_⟩
   cases e2
   exact ⟨o,e,ex.2.1⟩
  ·obtain ⟨o,_,_,_,e,ex,_⟩:=I.hok p _ hk
   refine ⟨⟨o,e,ex.1⟩,fun a e2=>?_⟩
   cases e2
   exact ⟨o,e,ex.2.1⟩
 | _=>exact False.elim ty
def Dp (K:PySem.W.Frag) (T:String) (r:V -> List V -> Hp -> VK -> Prop) (to:TE):TE:=fun σ H Q=>to σ H fun x H1=>tyV K T x H1 /\ r x [] H1 Q
def tBM (K:PySem.W.Frag) (T:String) (r:V -> List V -> Hp -> VK -> Prop) (to:TE) (t:TA):TE:=fun σ H Q=>to σ H fun x H1=>tyV K T x H1 /\ t σ H1 fun xs H2=>r x xs H2 Q
variable {o e:Expr} {es:List Expr} {to:TE} {t:TA} {name:Str} {apos cpos:Pos} {T id:String} {r:V -> List V -> Hp -> VK -> Prop}
theorem mr (pa:PlainAttrs T) (slot:Slot T name id) (hty:typeOf (.builtin id) = pure (.type "method_descriptor")) (hm:MtR X id r) (ho:PE X o to) (ha:PA X (e :: es) t)
  (hbase:attributeBase o name X.env (eval o X.env) = eval o X.env:=by rfl)
  (hfew:((backTo cpos (starEach (e :: es) X.env)).all (fun x=>!x.1) && (backToKw cpos (keywordEach [] X.env)).all (fun x=>x.1.isSome)
   && decide ((e :: es).length + ([]:List Keyword).length + (if ([]:List Keyword).isEmpty then 0 else 1) < 30)) = true:=by rfl)
  (hline:(apos.endLine == cpos.line) = true:=by rfl) (hs:starEach (e :: es) X.env = (false,eval e X.env) :: starEach es X.env:=by rfl) (hplain:(backTo cpos (starEach es X.env)).any (·.1) = false:=by rfl) :
  PE X (.Call (.Attribute o name apos) (e :: es) [] cpos) (tBM X.K T r to t):=by
 intro pins s σ H Q I h
 refine wpAny_Call_method_late hbase hfew hline rfl (thn (ho pins s σ H _ I h) fun v s1 ⟨x,H1,I1,r1,ty,q1⟩=>?_)
 obtain ⟨h1,h2⟩:=wN I1 r1 ty
 refine ⟨T,id,pa,slot,hty,h1,h2,?_⟩
 have hA:=ha cpos pins s1 σ H1 _ I1 q1
 rw [hs] at hA ⊢
 refine Calls.callWith_builtin (by show (false || (backTo cpos (starEach es X.env)).any (·.1)) = false; rw [hplain] <;> rfl) (Calls.evalArgs_plain ?_)
 exact thn hA fun us s2 ⟨vs,H2,I2,r2,q2⟩=>hm pins s2 σ H2 x vs v us Q I2 r1 r2 q2
end
end L2
namespace L2
open PySem PySem.Spec PyProof.Rows
def MtM (X:Cx) (id:String) (r:V -> List V -> Hp -> VK -> Prop):Prop :=
 ∀ (pins:List (Addr × Obj)) (s:Shared) (σ:St) (H:Hp) (x:V) (xs:List V) (v:Value) (us:List Value) (Q:VK),Inv X pins σ H s -> RelV x v -> Vals xs us -> r x xs H Q ->
  wpAny (model X.prog X.w) X.A (call (.builtin id) (v :: us)) (EP X pins σ Q) X.xe s
theorem Vals.one:∀ {x:V} {us:List Value},Vals [x] us -> ∃ u,us = [u] /\ RelV x u
 | _,_,.cons r .nil=>⟨_,rfl,r⟩
theorem Vals.eraseIdx:∀ {xs:List V} {us:List Value} (i:Nat),Vals xs us -> Vals (xs.eraseIdx i) (us.eraseIdx i)
 | _,_,_,.nil=>.nil
 | _,_,0,.cons _ t=>t
 | _,_,i + 1,.cons r t=>.cons r (Vals.eraseIdx i t)
theorem Vals.rep {xs:List V} {us:List Value} (h:Vals xs us):∀ k:Nat,Vals (List.replicate k xs).flatten (List.replicate k us).flatten
 | 0=>.nil
 | k + 1=>by
  rw [List.replicate_succ,List.replicate_succ,List.flatten_cons,List.flatten_cons]
  exact Vals.append h (Vals.rep h k)
theorem gM {α:Type}:∀ (l:List α) (i:Nat),(l.eraseIdx i).length <= l.length
 | [],_=>Nat.le_refl _
 | _ :: _,0=>Nat.le_succ _
 | _ :: r,i + 1=>Nat.succ_le_succ (gM r i)
theorem gN (its:List Value):∀ (k:Nat) (acc:List Value),
  List.foldl (fun x1 x2=>x1 ++ x2) acc.toArray (List.replicate k its.toArray) = (acc ++ (List.replicate k its).flatten).toArray
 | 0,acc=>by simp
 | k + 1,acc=>by
  have e:acc.toArray ++ its.toArray = (acc ++ its).toArray:=by simp
  have e2:(acc ++ its) ++ (List.replicate k its).flatten = acc ++ (List.replicate (k + 1) its).flatten:=by
   rw [List.replicate_succ,List.flatten_cons,List.append_assoc]
  rw [<- e2,<- gN its k (acc ++ its),<- e,List.replicate_succ,List.foldl_cons]
section
variable {X:Cx} {pins:List (Addr × Obj)} {σ:St} {H:Hp} {s:Shared} {l b:Addr} {xs ys zs:List V}
theorem Inv.lset {its its':List Value} {n:Nat} {f:Array Value -> Array Value} {t':Nat} (I:Inv X pins σ H s) (hH:H l = some (.lst xs))
  (e:s.heap.get? l = some { cls:=.type "list",data:=.seq its.toArray n }) (hf:f its.toArray = its'.toArray) (hv:Vals ys its') (hz:ys.length <= sizeLine) :
  Inv X pins σ (upd H l (.lst ys)) { s with heap:=s.heap.update l (Obj.mapSeq f),toks:=t' }:=by
 have q:=PySem.IsL.update e f
 rw [hf] at q
 refine I.write (x:=l) (e:=l) (by rw [hH]; exact trivial) (.inl rfl) (fun b' u hb hu=>(Heap.get?_update_other s.heap (Obj.mapSeq f) (Ne.symm hb)).trans hu) ⟨_,q⟩ ?_
 exact ⟨hz,its',_,hv,q⟩
theorem Inv.lnew {its:List Value} {t':Nat} (I:Inv X pins σ H s) (hv:Vals ys its) (hz:ys.length <= sizeLine) :
  Inv X pins σ (upd H s.heap.objs.size (.lst ys)) { s with heap:=s.heap.push { cls:=.type "list",data:=.seq its.toArray },toks:=t' } :=
 I.laid (fun _ _ q=>Heap.get?_push_of_some _ q) (Nat.le_refl _) ⟨hz,its,0,hv,Heap.get?_push_size _ rfl⟩
theorem Inv.fresh (I:Inv X pins σ H s):H s.heap.objs.size = none:=I.hok.fresh (Nat.le_refl _)
theorem Inv.lstM (I:Inv X pins σ H s) (hH:H l = some (.lst xs)):xs.length <= sizeLine /\ ∃ (its:List Value) (n:Nat),Vals xs its /\ xs.length = its.length /\ s.heap.get? l = some { cls:=.type "list",data:=.seq its.toArray n }:=by
 obtain ⟨z,its,n,r,e⟩:=I.hok l _ hH
 exact ⟨z,its,n,r,r.length,e⟩
theorem jV {n:Nat} (h:n <= sizeLine):Builtin.List.listTooLong n = false:=by
 unfold Builtin.List.listTooLong
 exact decide_eq_false (by omega)
end
section
variable {X:Cx}
def vc:V -> List V -> Hp -> VK -> Prop:=fun x vs H Q=>∃ l xs y,x = .ref l /\ vs = [y] /\ H l = some (.lst xs) /\ xs.length < sizeLine /\ Q .non (upd H l (.lst (xs ++ [y])))
theorem gK:MtM X "list.append" vc:=by
 intro pins s σ H x vs v us Q I rx rv h
 obtain ⟨l,xs,y,rfl,rfl,hH,hz,q⟩:=h
 cases rx
 obtain ⟨u,rfl,ru⟩:=rv.one
 obtain ⟨z,its,n,r,hl,e⟩:=I.lstM hH
 refine call_meets F.slot_list_append ⟨_,e,rfl⟩ F.entry_list_append (F.args_list_append_2 _ _) (PySem.list_append l its.toArray n u (by rw [List.size_toArray]; omega)) ⟨e,?_⟩
 refine ⟨.non,_,I.lset (its':=its ++ [u]) hH e (by simp) (r.append (.cons ru .nil)) ?_,rfl,q⟩
 rw [List.length_append,List.length_singleton]
 omega
def se:V -> List V -> Hp -> VK -> Prop:=fun x vs H Q=>∃ l b xs zs,x = .ref l /\ vs = [.ref b] /\ H l = some (.lst xs) /\ H b = some (.lst zs) /\ xs.length + zs.length <= sizeLine /\ Q .non (upd H l (.lst (xs ++ zs)))
theorem ni:MtM X "list.extend" se:=by
 intro pins s σ H x vs v us Q I rx rv h
 obtain ⟨l,b,xs,zs,rfl,rfl,hH,hB,hz,q⟩:=h
 cases rx
 obtain ⟨u,rfl,ru⟩:=rv.one
 cases ru
 obtain ⟨z,its,n,r,hl,e⟩:=I.lstM hH
 obtain ⟨z2,its2,n2,r2,hl2,e2⟩:=I.lstM hB
 have hsz:its.toArray.size + its2.toArray.size <= sizeLine:=by rw [List.size_toArray,List.size_toArray]; omega
 have hlong:¬ (!its.toArray.isEmpty && Builtin.List.listTooLong (its.toArray.size + its2.toArray.size)) = true:=by
  rw [jV hsz,Bool.and_false]
  exact Bool.false_ne_true
 refine call_meets F.slot_list_extend ⟨_,e,rfl⟩ F.entry_list_extend (F.args_list_extend_2 _ _)
  (AutoSeq1.list_extend_list_list_0 l its.toArray n b its2.toArray n2 hlong (by rw [List.size_toArray]; omega) (by omega)) ⟨e,e2,?_⟩
 refine ⟨.non,_,I.lset (its':=its ++ its2) hH e (by simp) (r.append r2) ?_,rfl,q⟩
 rw [List.length_append]
 omega
def DH:V -> List V -> Hp -> VK -> Prop:=fun x vs H Q=>∃ l xs y,x = .ref l /\ vs = [] /\ H l = some (.lst xs) /\ xs[xs.length - 1]? = some y /\ Q y (upd H l (.lst xs.dropLast))
def zk:V -> List V -> Hp -> VK -> Prop:=fun x vs H Q=>∃ l xs i k y,x = .ref l /\ vs = [.int i] /\ H l = some (.lst xs) /\ -(2 ^ 63) <= i /\ i < 2 ^ 63 /\ seqIndex? i xs.length = some k /\ xs[k]? = some y /\ Q y (upd H l (.lst (xs.eraseIdx k)))
theorem rj:MtM X "list.pop" zk:=by
 intro pins s σ H x vs v us Q I rx rv h
 obtain ⟨l,xs,i,k,y,rfl,rfl,hH,h1,h2,hk,hy,q⟩:=h
 cases rx
 obtain ⟨u,rfl,ru⟩:=rv.one
 obtain ⟨t,rfl⟩:=ru
 obtain ⟨z,its,n,r,hl,e⟩:=I.lstM hH
 obtain ⟨w,hw,rw'⟩:=r.get hy
 refine call_meets F.slot_list_pop ⟨_,e,rfl⟩ F.entry_list_pop (F.args_list_pop_2 _ _)
  (MeetsSeq.list_pop_at l its.toArray n i t k w (fitsIndex_both h1 h2) (by rw [List.size_toArray,<- hl]; exact hk) (by rw [<- Array.getElem?_toList]; exact hw) (by rw [List.size_toArray]; omega)) ⟨e,?_⟩
 refine ⟨y,_,I.lset (its':=its.eraseIdx k) hH e ?_ (r.eraseIdx k) ?_,rw',q⟩
 ·show its.toArray.eraseIdxIfInBounds k = (its.eraseIdx k).toArray
  rw [List.eraseIdxIfInBounds_toArray]
 ·have:=gM xs k
  omega
def AN:V -> List V -> Hp -> VK -> Prop:=fun x vs H Q=>∃ l xs,x = .ref l /\ vs = [] /\ H l = some (.lst xs) /\ Q .non (upd H l (.lst xs.reverse))
def BR:V -> List V -> Hp -> VK -> Prop:=fun x vs H Q=>∃ l xs,x = .ref l /\ vs = [] /\ H l = some (.lst xs) /\ Q .non (upd H l (.lst []))
def As:R2:=fun x y H Q=>∃ l b xs zs,x = .ref l /\ y = .ref b /\ H l = some (.lst xs) /\ H b = some (.lst zs) /\ xs.length + zs.length <= sizeLine /\ ∀ p,H p = none -> Q (.ref p) (upd H p (.lst (xs ++ zs)))
theorem op_cat:OpR X (binaryOp .Add) As:=by
 intro pins s σ H x y v u Q I rx ry h
 obtain ⟨l,b,xs,zs,rfl,rfl,hH,hB,hz,q⟩:=h
 cases rx
 cases ry
 obtain ⟨z,its,n,r,hl,e⟩:=I.lstM hH
 obtain ⟨z2,its2,n2,r2,hl2,e2⟩:=I.lstM hB
 refine PySem.P.add_list e e2 ?_ (by rw [List.size_toArray,List.size_toArray]; omega)
 have ea:its.toArray ++ its2.toArray = (its ++ its2).toArray:=by simp
 rw [ea]
 exact ⟨.ref _,_,I.lnew (t':=s.toks) (r.append r2) (by rw [List.length_append]; omega),rfl,q _ I.fresh⟩
def zw:R2:=fun x y H Q=>∃ l k xs,x = .ref l /\ y = .int k /\ H l = some (.lst xs) /\ -(2 ^ 63) <= k /\ k < 2 ^ 63 /\ xs.length * k.toNat <= sizeLine /\
 ∀ p,H p = none -> Q (.ref p) (upd H p (.lst (List.replicate k.toNat xs).flatten))
theorem sx {α:Type} (xs:List α) (k:Nat):(List.replicate k xs).flatten.length = k * xs.length:=by
 induction k with
 | zero=>simp
 | succ k ih=>rw [List.replicate_succ,List.flatten_cons,List.length_append,ih,Nat.succ_mul,Nat.add_comm]
theorem v7:OpR X (binaryOp .Mult) zw:=by
 intro pins s σ H x y v u Q I rx ry h
 obtain ⟨l,k,xs,rfl,rfl,hH,h1,h2,hz,q⟩:=h
 cases rx
 obtain ⟨t,rfl⟩:=ry
 obtain ⟨z,its,n,r,hl,e⟩:=I.lstM hH
 have hlen:its.toArray.size * k.toNat <= sizeLine:=by rw [List.size_toArray,<- hl]; exact hz
 have hcap:¬ its.toArray.size * k.toNat > (2 ^ 63 - 1) / 8:=by
  have:(sizeLine:Nat) <= (2 ^ 63 - 1) / 8:=by decide
  omega
 have hfit:¬ (!Builtin.List.listFitsIndex k) = true:=by
  rw [fitsIndex_both h1 h2]
  exact Bool.false_ne_true
 have hlong:¬ Builtin.List.listTooLong (its.toArray.size * k.toNat) = true:=by
  rw [jV hlen]
  exact Bool.false_ne_true
 have hnew:List.foldl (fun x1 x2=>x1 ++ x2) #[] (List.replicate (if its.toArray.isEmpty = true then 0 else k.toNat) its.toArray) = (List.replicate k.toNat its).flatten.toArray:=by
  have f0:∀ m:Nat,List.foldl (fun x1 x2=>x1 ++ x2) #[] (List.replicate m its.toArray) = (List.replicate m its).flatten.toArray:=fun m=>by
   have:=gN its m []
   rw [List.nil_append] at this
   exact this
  rw [f0]
  cases its with
  | nil=>simp
  | cons a r'=>rw [if_neg (by simp)]
 refine wpAny_binaryOp_repeat_ref (T:="list") (U:="int") (by decide) ⟨_,e,rfl⟩ (fun s'=>typeIs_int s' k t) noFill_list_mul F.fills_int_mul F.slot_int_rmul repeat_list F.slot_int_index.lookup
  (call_meets F.slot_int_rmul (typeIs_int s k t) F.entry_int_rmul (F.args_int_rmul_2 _ _) (int___rmul___int_list k t l its.toArray n)
   ⟨e,rfl,⟨_,e,rfl⟩,call_meets F.slot_list_mul ⟨_,e,rfl⟩ F.entry_list_mul (F.args_list_mul_2 _ _) (AutoListH.list___mul___list_int_3 l its.toArray n k t hfit hcap hlong) ⟨e,?_⟩⟩)
 rw [hnew]
 exact ⟨.ref _,_,I.lnew (t':=s.toks) (r.rep k.toNat) (by rw [sx,Nat.mul_comm]; exact hz),rfl,q _ I.fresh⟩
end
section
variable {prog:Program} {w:World} {A:Around} {E:Value -> Shared -> Prop} {s:Shared}
set_option maxRecDepth 100000 in
end
section
variable {X:Cx}
end
end L2
namespace Att
open PySem PySem.W PySem.Calls PyProof.Rows
theorem fy {P:Params} {h:Heap}:∀ (ns:List Int) (vs:List Value),WellAll P h vs (ns.map WData.int) -> IntsAre vs ns:=by
 intro ns
 induction ns with
 | nil =>
  intro vs w
  rw [List.map_nil] at w
  cases w
  exact .nil
 | cons n ns ih =>
  intro vs w
  rw [List.map_cons] at w
  cases w with
  | cons a b =>
   cases a
   exact .cons _ _ (ih _ b)
theorem nr {l:OpenLaw} {n:Nat} (hn:l.most = some n) {P:Params} {h:Heap} {args:List WData} {vals:List Value}
  (hpre:l.row.toRowW.claim.pre args = true) (hwl:WellAll P h vals args) :
  ∃ a vs ns,vals = [Value.ref a] /\ args = [WData.list (ns.map WData.int)] /\ h.get? a = some { cls:=.type "list",data:=.seq vs.toArray } /\ IntsAre vs ns /\ ns.length <= n:=by
 have hsh:WShape.hasAll [] args [.list .int] = true:=(pre_splitW hpre).1
 have hc:l.pre.holds [] { args:=args } = true:=(pre_splitW hpre).2
 obtain ⟨d,r,rfl,h1,h2⟩:=hasAllW_cons hsh
 obtain rfl:=hasAllW_nil h2
 obtain ⟨xs,rfl,h3⟩:=hasW_list h1
 obtain ⟨ns,rfl⟩:=items_int h3
 have hlen:ns.length <= n:=by
  unfold OpenLaw.pre at hc
  have h4:(WTm.not (.lt (.lit (.int (n:Int))) (.len (.arg 0)))).holds [] { args:=[.list (ns.map .int)] } = true:=by
   have h4:=(holds_andW hc).1
   rw [hn] at h4
   exact h4
  have h5:=condW_of h4 (w_not (w_lt w_lit (w_len_list (w_arg rfl))))
  rw [List.length_map] at h5
  refine Nat.le_of_not_lt fun q=>?_
  have q':(n:Int) < ((ns.length:Nat):Int):=by omega
  first
   | (rw [decide_eq_true q'] at h5; exact absurd h5 (by decide))
   | (simp at h5; omega)
 cases hwl with
 | cons w1 w2 =>
  cases w2
  cases w1 with
  | list ho hall=>exact ⟨_,_,ns,rfl,rfl,ho,fy ns _ hall,hlen⟩
theorem nu (l:OpenLaw) (args:List WData):l.row.toRowW.claim.post args (.bool true) args = true :=
 postW_of (r:=l.row.toRowW) (X:=(true == true))
  (show WShape.has [] (.bool true) .bool = true by first | rfl | decide | simp [WShape.has,WShape.arms,WShape.armsAll])
  (show (WTm.eq .res (.lit (.bool true))).value [] { args:=args,res:=some (.bool true),after:=args } = some (.bool (true == true)) from w_eq_bool (w_res rfl) w_lit) rfl
theorem attach_call {l:OpenLaw} {n:Nat} {q:Program} {loose:List Str} {XP:(Str -> Option Value) -> Heap -> Prop} {YP:World -> Heap -> Prop} {d:DefRec}
  (hn:l.most = some n) (hdf:d.params.defaults = [])
  (call:∀ (w:World) (s₀ s₁:Shared) (mg mb:Str -> Option Value) (fa:Addr) (o:Obj) (pm cd doc:Value) (a:Addr) (vs:List Value) (ns:List Int),
   Ground q loose [] XP w s₀ mg mb s₁.heap -> YP w s₁.heap ->
   s₁.heap.get? fa = some o -> o.data = .func (docDef d.name d.params d.body d.scope pm cd doc) -> s₁.heap.CodeRec cd d.name -> mg d.name = some (.ref fa) ->
   s₁.heap.get? a = some { cls:=.type "list",data:=.seq vs.toArray } -> IntsAre vs ns -> ns.length <= n -> s₁.gens = #[] ->
   codeAny (model l.prog w) callerA (.call (.ref fa) ⟨[.ref a],[]⟩) (fun r s'=>r = .ok (.ret (.bool true)) /\ OldK s₁.heap s'.heap /\ s'.os = s₁.os /\ AllBare s'.gens) s₁) :
  WalkO q loose XP YP l.row.toRowW d [] (fun f vs=>PySem.call f vs):=by
 intro w s₀ s₁ mg mb G Y fa o pm cd doc dV kV ho hd hcd hD hmg hg args vals as hpre hlay hrd hwl hlo
 obtain rfl:dV = .none:=Dflts.none hD hdf
 obtain rfl:kV = .none:=Dflts.noKw hD
 obtain ⟨a,vs,ns,rfl,rfl,hobj,hints,hlen⟩:=nr hn hpre hwl
 refine enter_call (codeAny_mono (call w s₀ s₁ mg mb fa o pm cd doc a vs ns G Y ho (fd_plain hd) hcd hmg hobj hints hlen hg) fun r s' hq=>?_)
 obtain ⟨rfl,h2,h3,h4⟩:=hq
 exact ⟨.inl ⟨.bool true,.bool true,[],rfl,fun _=>rfl,.bool true,nu l _,fun _=>⟨List.Pairwise.nil,fun _ hm=>(nomatch hm)⟩⟩,h2,h3,h4⟩
section
variable {prog:Program} {w:World} {A:Around} {E:Value -> Shared -> Prop} {s:Shared} {K:Frag}
def CB (h:Heap):Heap:={ h with objs:=#[] }
def BJ (h:Heap) (L d:Addr):List (Addr × Obj):=(List.range h.objs.size).filterMap fun a=>if a = L \/ a = d then none else (h.get? a).map fun o=>(a,o)
end
end Att
namespace L2
open PySem PySem.Spec PyProof.Rows
theorem dG:∀ {vs:List Value} {ns:List Int},IntsAre vs ns -> Vals (ns.map V.int) vs
 | _,_,.nil=>.nil
 | _,_,.cons n t h=>.cons ⟨t,rfl⟩ (dG h)
def oC (H:Hp):Prop:=∀ b,H b = none \/ ∃ o xs,H b = some (.frz o (.lst xs))
theorem pq {P:Program} {w:World} {K:PySem.W.Frag} {mg mb:Str -> Option Value} {CX:CXT} {k:Nat} {fa a:Addr} {fd:FuncData} {x:Str} {sp:Sp} {s₁:Shared} {vs:List Value} {ns:List Int}
  (KX:K.In s₁.heap) (hns:s₁.heap.Ns mainGlobals mg) (hb:s₁.heap.Ns builtinsNs mb) (hbb:∀ x:Str,x ≠ "__name__" -> mb x = bootBuiltins x) (hlim:s₁.heap.NoLimit) (hg:s₁.gens = #[])
  (ha:s₁.heap.get? a = some { cls:=.type "list",data:=.seq vs.toArray }) (hi:IntsAre vs ns) (hl:ns.length <= sizeLine) (hr:Room k callerA)
  (F:∀ base:Heap,K.In base -> base.Ns mainGlobals mg -> FnOk P w K mg base CX k fa fd [x] sp) (hbind:∀ (s:Shared) (u:Value),BindsTo s fd ⟨[u],[]⟩ [(x,u)])
  (hsp:∀ H:Hp,oC H -> SqL K H a (ns.map V.int) -> sp [.ref a] H (fun v _=>v = .bl true) fun _ _ _=>False)
  (hCX:∀ H e s',CX [] H s₁ (fun _ _ _=>False) e s' -> False) :
  codeAny (model P w) callerA (.call (.ref fa) ⟨[.ref a],[]⟩) (fun r s'=>r = .ok (.ret (.bool true)) /\ OldK s₁.heap s'.heap /\ s'.os = s₁.os /\ AllBare s'.gens) s₁:=by
 have rv:=dG hi
 have lenV:=hi.length
 -- from an abstract heap in which nothing but the script may be tracked
 have core:∀ H:Hp,oC H -> SqL K H a (ns.map V.int) -> HOk P w H s₁.heap -> (∀ b,H b ≠ none -> b = a) -> (H a ≠ none -> K.lookup a = none) ->
   codeAny (model P w) callerA (.call (.ref fa) ⟨[.ref a],[]⟩) (fun r s'=>r = .ok (.ret (.bool true)) /\ OldK s₁.heap s'.heap /\ s'.os = s₁.os /\ AllBare s'.gens) s₁:=by
  intro H hO hS hok hA hK
  have base_of:∀ {b:Addr} {o:Obj},s₁.heap.get? b = some o -> H b = none -> (i8 s₁.heap H).get? b = some o:=fun e n=>qU e n
  have noA:∀ {b:Addr} {o:Obj} {es:Array DictEntry} {ep:Nat},s₁.heap.get? b = some o -> o.data = .dict es ep -> H b = none:=fun {b o es ep} e d=>by
   cases q:H b with
   | none=>rfl
   | some u =>
    have e':b = a:=hA b (by rw [q]; simp)
    subst e'
    rw [ha] at e; cases e
    have d':Data.seq vs.toArray _ = Data.dict es ep:=d
    cases d'
  have nsK:∀ {b:Addr} {m:Str -> Option Value},s₁.heap.Ns b m -> (i8 s₁.heap H).Ns b m:=fun {b m} ⟨o,es,ep,e,d,r⟩=>⟨o,es,ep,base_of e (noA e d),d,r⟩
  have hKb:K.In (i8 s₁.heap H):=fun b o e=>base_of (KX b o e) (by
   cases q:H b with
   | none=>rfl
   | some u =>
    have e':b = a:=hA b (by rw [q]; simp)
    subst e'
    rw [hK (by rw [q]; simp)] at e; cases e)
  have hM:Mod K mg (i8 s₁.heap H):=⟨hKb,nsK hns,⟨mb,nsK hb,hbb⟩,let ⟨mc,h1,h2⟩:=hlim; ⟨mc,nsK h1,h2⟩⟩
  have e0:u9 P w K mg (i8 s₁.heap H) callerA [] s₁ H:=⟨rfl,hM,fun b o e=>uZ e,Nat.le_of_eq (mR _ _),trivial,fun b hb=>absurd (show b ∈ ([]:List Addr) from hb) (by simp),hok,.of_eq hg⟩
  refine codeAny_mono ((F _ hKb (nsK hns)).run callerA [] s₁ H ⟨[.ref a],[]⟩ [.ref a] [.ref a] _ _ hr e0 (hbind s₁ (.ref a)) (.cons rfl .nil) (hsp H hO hS)) fun r s' h=>?_
  cases r with
  | error e=>exact (hCX H e s' h).elim
  | ok fl =>
   cases fl with
   | next=>exact False.elim h
   | brk=>exact False.elim h
   | cont=>exact False.elim h
   | ret u =>
    obtain ⟨v,H',os,bare,un,hok',r',q⟩:=h
    have q':v = .bl true:=q
    subst q'
    obtain rfl:u = Value.bool true:=r'
    refine ⟨rfl,OldK.of_keep fun b o e=>?_,os,bare⟩
    cases q:H b with
    | none=>exact un.keep b o e q (by intro z; exact absurd (show b ∈ ([]:List Addr) from z) (by simp)) (by simp)
    | some u =>
     rcases hO b with z | ⟨ob,xs,z⟩
     ·rw [q] at z; cases z
     ·have z2:=un.frzs b ob _ z
      obtain ⟨e1,_⟩:=hok b _ z
      obtain ⟨e2,_⟩:=hok' b _ z2
      rw [e] at e1; cases e1
      exact e2
 cases hk:K.lookup a with
 | some o =>
  -- the script is one of the module's own objects
  have e:=KX a o hk
  rw [ha] at e
  cases e
  refine core (fun _=>none) (fun _=>.inl rfl) (.inr ⟨_,vs.toArray,_,hk,rfl,rfl,rfl,by rw [List.size_toArray,lenV]; exact hl,by simpa using rv⟩) (fun b u z=>by have z':(none:Option HO) = some u:=z; cases z') (fun b z=>absurd rfl z) fun z=>absurd rfl z
 | none =>
  refine core (fun b=>if b = a then some (.frz { cls:=.type "list",data:=.seq vs.toArray } (.lst (ns.map V.int))) else none) (fun b=>?_) (.inl (.inr ⟨{ cls:=.type "list",data:=.seq vs.toArray },if_pos rfl⟩)) (fun b u z=>?_) (fun b z=>?_) fun _=>hk
  ·by_cases hb:b = a
   ·exact .inr ⟨_,_,if_pos hb⟩
   ·exact .inl (if_neg hb)
  ·by_cases hb:b = a
   ·have z':=(if_pos hb).symm.trans z
    cases z'
    subst hb
    exact ⟨ha,by rw [List.length_map]; exact hl,vs,_,rv,ha⟩
   ·have z':=(if_neg hb).symm.trans z
    cases z'
  ·by_cases hb:b = a
   ·exact hb
   ·exact absurd (if_neg hb) z
end L2
namespace L2
open PySem PySem.Spec PyProof.Rows
abbrev KOf {K:PySem.W.Frag} {h:Heap} (_:K.In h):PySem.W.Frag:=K
theorem walk_of {l:PySem.W.OpenLaw} {n k:Nat} {q:Program} {loose:List Str} {XP:(Str -> Option Value) -> Heap -> Prop} {YP:World -> Heap -> Prop} {d:DefRec} {K:Params -> PySem.W.Frag} {CX:World -> CXT} {sp:World -> Sp} {x:Str}
  (hn:l.most = some n) (hn2:n <= sizeLine) (hdf:d.params.defaults = []) (hr:Room k callerA)
  (hY:∀ (w:World) (h:Heap),YP w h -> (K w.params).In h)
  (F:∀ (w:World) (mg:Str -> Option Value) (fa:Addr) (h:Heap),(K w.params).In h -> h.Ns mainGlobals mg -> mg d.name = some (.ref fa) ->
   ∃ fd:FuncData,(∀ (s:Shared) (u:Value),BindsTo s fd ⟨[u],[]⟩ [(x,u)]) /\
    ∀ base:Heap,(K w.params).In base -> base.Ns mainGlobals mg -> FnOk l.prog w (K w.params) mg base (CX w) k fa fd [x] (sp w))
  (hsp:∀ (w:World) (H:Hp) (a:Addr) (ns:List Int),ns.length <= n -> oC H -> SqL (K w.params) H a (ns.map V.int) -> sp w [.ref a] H (fun v _=>v = .bl true) fun _ _ _=>False)
  (hCX:∀ (w:World) (H:Hp) (s:Shared) (e:Value) (s':Shared),CX w [] H s (fun _ _ _=>False) e s' -> False) :
  PySem.W.WalkO q loose XP YP l.row.toRowW d [] (fun f vs=>PySem.call f vs):=by
 refine Att.attach_call hn hdf fun w s₀ s₁ mg mb fa o pm cd doc a vs ns G Y ho hd hcd hmg hobj hints hlen hg=>?_
 have KX:=hY w _ Y
 obtain ⟨fd,hb,hF⟩:=F w mg fa _ KX G.T.g hmg
 exact pq KX G.T.g G.T.b G.T.builtins G.T.nolimit hg hobj hints (Nat.le_trans hlen hn2) hr hF hb (fun H hO hS=>hsp w H a ns hlen hO hS) fun H e s'=>hCX w H s₁ e s'
end L2
namespace L2
open PySem PySem.Spec PyProof.Rows
def BC (s:Stmt) (j:Nat):Stmt:=match s with
 | .ClassDef _ _ _ body _ _ _ _ _ _ _=>body.getD j (.Pass ⟨0,0,0,0⟩)
 | _=>.Pass ⟨0,0,0,0⟩
def defArgs (s:Stmt):Arguments:=match s with
 | .FunctionDef _ a _ _ _ _ _ _ _ _=>a
 | _=>{ posonlyargs:=[],args:=[],vararg:=none,kwonlyargs:=[],kw_defaults:=[],kwarg:=none,defaults:=[] }
def defBody (s:Stmt):List Stmt:=match s with
 | .FunctionDef _ _ b _ _ _ _ _ _ _=>b
 | _=>[]
def defScope (s:Stmt):Scope:=match s with
 | .FunctionDef _ _ _ _ _ _ sc _ _ _=>sc
 | _=>{ kind:=.function,names:=[],isGenerator:=false,isCoroutine:=false }
abbrev CX0:CXT:=fun _ _ _ _ _ _=>False
abbrev E0:XK:=fun _ _ _=>False
theorem vH {X:Cx}:ko CX0 X E0:=fun _ _ _ _ _ _ _ h=>h.elim
structure Fun (K:PySem.W.Frag) (x qual:Str) (st:Stmt) (f:Addr) (fd:FuncData):Prop where
 ex:∃ (oc:Value) (od:Option Addr) (kV doc pm:Value) (an:Option Addr) (cdv ct:Value) (osl:Array (Option Value)),
  fd = PySem.W.fnOf x qual (defArgs st) (defBody st) (defScope st) .none kV doc pm an cdv ct /\ K.lookup f = some ⟨oc,od,.func fd,osl⟩ /\ PySem.W.codeIn K cdv qual = true
 kp:PySem.W.keepIn K (.ref f) = true
section
variable {P:Program} {w:World} {K:PySem.W.Frag} {mg:Str -> Option Value} {base:Heap}
theorem Fun.ok {x qual:Str} {st:Stmt} {f:Addr} {fd:FuncData} {N ps:List Str} {k:Nat} {sp:Sp} (F:Fun K x qual st f fd) (S:ai N ps (defScope st)) (len:∀ vs H Q E,sp vs H Q E -> vs.length = ps.length)
  (hbody:∀ (cdv:Value) (A:Around) (outer:List Env) (s:Shared) (H:Hp) (vs:List V) (Q:VK) (E:XK),Room k (A.deeper (envOfC qual (defScope st) s.heap.objs.size f cdv)) -> sp vs H Q E ->
   ∃ t,PSs (eL CX0 P w K mg base N qual (defScope st) f cdv A outer s H E).nox (defBody st) t /\ t { nx:=fun _ H'=>Q .non H',rt:=Q } (start N vs) H):FnOk P w K mg base CX0 (k + 1) f fd ps sp:=by
 obtain ⟨oc,od,kV,doc,pm,an,cdv,ct,osl,rfl,lk,hcd⟩:=F.ex
 refine vk lk hcd S len fun A outer s H vs Q E hr hsp=>?_
 obtain ⟨t,h,q⟩:=hbody cdv A outer s H vs Q E hr hsp
 exact ⟨t,h.nox,q⟩
theorem Fun.binds {x qual:Str} {st:Stmt} {f:Addr} {fd:FuncData} {ps:List Str} (F:Fun K x qual st f fd)
  (h:∀ (kV doc pm:Value) (an:Option Addr) (cdv ct:Value) (us:List Value),us.length = ps.length -> bindArgs (PySem.W.fnOf x qual (defArgs st) (defBody st) (defScope st) .none kV doc pm an cdv ct) ⟨us,[]⟩ = pure (ps.zip us)):Binds K fd ps []:=by
 obtain ⟨oc,od,kV,doc,pm,an,cdv,ct,osl,rfl,lk,hcd⟩:=F.ex
 exact .all (h kV doc pm an cdv ct)
theorem q0 {x qual:Str} {st:Stmt} {f:Addr} {oc:Value} {od an:Option Addr} {osl:Array (Option Value)} {kV doc pm cdv ct:Value} (l:K.lookup f = some ⟨oc,od,.func (PySem.W.fnOf x qual (defArgs st) (defBody st) (defScope st) .none kV doc pm an cdv ct),osl⟩)
  (c:PySem.W.codeIn K cdv qual = true) (k:PySem.W.keepIn K (.ref f) = true):Fun K x qual st f (PySem.W.fnOf x qual (defArgs st) (defBody st) (defScope st) .none kV doc pm an cdv ct):=⟨⟨oc,od,kV,doc,pm,an,cdv,ct,osl,rfl,l,c⟩,k⟩
end
section
variable {X:Cx}
theorem pv (i:Nat) {x:Str} {pos:Pos} (hN:X.N[i]? = some x:=by rfl) (hv:Vis X.env.scope x:=by first | exact Or.inl rfl | exact Or.inr (Or.inl rfl) | exact Or.inr (Or.inr rfl)) (hd:(x == ("__debug__":Str)) = false:=by decide)
  (hcd:(x == ("__classdict__":Str)) = false:=by decide):PE X (.Name x pos) (mY i):=cO hN hv hd hcd
end
def Same (H H':Hp):Prop:=∀ b o,H b = some o -> H' b = some o
theorem Same.refl (H:Hp):Same H H:=fun _ _ h=>h
theorem Same.trans {H H1 H2:Hp} (a:Same H H1) (b:Same H1 H2):Same H H2:=fun c o h=>b c o (a c o h)
end L2
namespace L2
open PySem PySem.Spec PyProof.Rows
section
variable {κ:Type} [DecidableEq κ]
def nC (kvs:List (κ × V)) (k:κ):Option V:=(kvs.find? fun kv=>decide (kv.1 = k)).map (·.2)
def x8 (kvs:List (κ × V)) (k:κ) (v:V):List (κ × V) :=
 if (kvs.any fun kv=>decide (kv.1 = k)) = true then kvs.map (fun kv=>if kv.1 = k then (kv.1,v) else kv) else kvs ++ [(k,v)]
def oN (kvs:List (κ × V)) (k:κ):List (κ × V):=kvs.filter fun kv=>decide (kv.1 ≠ k)
end
abbrev KT (H:Hp):List (List Key × V) -> List (List Key × Addr × Value) -> Prop:=Paired fun p q=>p.1 = q.1 /\ H q.2.1 = some (.tup (p.1.map kV)) /\ RelV p.2 q.2.2
section
variable {P:Program} {w:World} {H:Hp} {h:Heap} {a:Addr}
end
def nA (H:Hp) (a:Addr) (y:V) (r:Option V):Prop :=
 (∃ kvs k,Rd H a (.dK kvs) /\ y = kV k /\ r = nC kvs k) \/ ∃ kvs k b,Rd H a (.dT kvs) /\ y = .ref b /\ H b = some (.tup (k.map kV)) /\ r = nC kvs k
def A8 (H:Hp) (a:Addr) (y v:V) (H':Hp):Prop :=
 (∃ kvs k,H a = some (.dK kvs) /\ y = kV k /\ kvs.length < sizeLine /\ H' = upd H a (.dK (x8 kvs k v))) \/
 ∃ kvs k b,H a = some (.dT kvs) /\ y = .ref b /\ H b = some (.tup (k.map kV)) /\ kvs.length < sizeLine /\ H' = upd H a (.dT (x8 kvs k v))
section
variable {X:Cx} {pins:List (Addr × Obj)} {σ:St} {H:Hp} {s:Shared} {a:Addr} {y v:V} {u r:Value} {o:Option V} {A:Around} {E:Value -> Shared -> Prop}
end
section
variable {X:Cx} {pins:List (Addr × Obj)} {σ:St} {H:Hp} {s:Shared} {a:Addr} {kvs:List (Key × V)} {k:Key} {u:Value} {A:Around} {E:Value -> Shared -> Prop}
end
def Dx (i:Expr):Prop:=∀ ov iv,subscripted i false ov iv = operate [ov,iv] (getItem ov iv)
def CZ (td ty:TE):TE:=fun σ H Q=>td σ H fun x H1=>ty σ H1 fun y H2=>∃ a v,x = .ref a /\ nA H2 a y (some v) /\ Q v H2
def Dh (ty td:TE):TE:=fun σ H Q=>ty σ H fun y H1=>td σ H1 fun x H2=>∃ a o,x = .ref a /\ nA H2 a y o /\ Q (.bl o.isSome) H2
def BD (ty td:TE):TE:=fun σ H Q=>ty σ H fun y H1=>td σ H1 fun x H2=>∃ a o,x = .ref a /\ nA H2 a y o /\ Q (.bl (!o.isSome)) H2
def CO (td ty tv:TE):TS:=fun D σ H=>tv σ H fun v H1=>td σ H1 fun x H2=>ty σ H2 fun y H3=>∃ a H4,x = .ref a /\ A8 H3 a y v H4 /\ D.nx σ H4
def CU (td ty tv:TE) (rd:V -> V -> Hp -> VK -> Prop):TS:=fun D σ H=>td σ H fun x H1=>ty σ H1 fun y H2=>∃ a v,x = .ref a /\ nA H2 a y (some v) /\
 tv σ H2 fun y2 H3=>rd v y2 H3 fun z H4=>∃ H5,A8 H4 a y z H5 /\ D.nx σ H5
def Dc (td ty:TE):TS:=fun D σ H=>td σ H fun x H1=>ty σ H1 fun y H2=>∃ a kvs k,x = .ref a /\ H2 a = some (.dK kvs) /\ y = kV k /\ (nC kvs k).isSome = true /\ D.nx σ (upd H2 a (.dK (oN kvs k)))
section
variable {X:Cx} {o i e value:Expr} {pos pos' tpos:Pos} {td ty tv:TE}
end
def Cs:TE:=fun _ H Q=>∀ p,H p = none -> Q (.ref p) (upd H p (.dK []))
def BN:TE:=fun _ H Q=>∀ p,H p = none -> Q (.ref p) (upd H p (.dT []))
section
variable {X:Cx} {pos:Pos}
end
def kH:List (TE × TE) -> St -> Hp -> (List (V × V) -> Hp -> Prop) -> Prop
 | [],_,H,Q=>Q [] H
 | (tk,tv) :: r,σ,H,Q=>tk σ H fun x H1=>tv σ H1 fun y H2=>kH r σ H2 fun ps H3=>Q ((x,y) :: ps) H3
abbrev VV:List (V × V) -> List (Value × Value) -> Prop:=Paired fun p q=>RelV p.1 q.1 /\ RelV p.2 q.2
def PPs (X:Cx) (pos:Pos) (keys:List (Option Expr)) (values:List Expr) (trs:List (TE × TE)):Prop :=
 ∀ (pins:List (Addr × Obj)) (s:Shared) (σ:St) (H:Hp) (Q:List (V × V) -> Hp -> Prop),Inv X pins σ H s -> kH trs σ H Q ->
  wpAny (model X.prog X.w) X.A (evalPairs (pairTrees keys values X.env pos)) (fun vs s'=>∃ ps H',Inv X pins σ H' s' /\ VV ps vs /\ Q ps H') X.xe s
def zq (kvs more:List (Key × V)):List (Key × V):=more.foldl (fun acc kv=>x8 acc kv.1 kv.2) kvs
def C1 (trs:List (TE × TE)):TE:=fun σ H Q=>∀ p,H p = none -> kH trs σ (upd H p (.dK [])) fun ps H2=>H2 p = some (.dK []) /\ ∃ kvs:List (Key × V),ps = kvs.map (fun kv=>(kV kv.1,kv.2)) /\ kvs.length <= 15 /\ Q (.ref p) (upd H2 p (.dK (zq [] kvs)))
structure M1 (X:Cx) (o:Expr) (m:Str) (apos:Pos) (e:Expr) (cpos:Pos):Prop where
 base:attributeBase o m X.env (eval o X.env) = eval o X.env
 few:((backTo cpos (starEach [e] X.env)).all (fun x=>!x.1) && (backToKw cpos (keywordEach [] X.env)).all (fun x=>x.1.isSome)
  && decide (([e]:List Expr).length + ([]:List Keyword).length + (if ([]:List Keyword).isEmpty then 0 else 1) < 30)) = true
 line:(apos.endLine == cpos.line) = true
 aK:backTo cpos (starEach [e] X.env) = [(false,eval e X.env)]
structure M2 (X:Cx) (o:Expr) (m:Str) (apos:Pos) (e f:Expr) (cpos:Pos):Prop where
 base:attributeBase o m X.env (eval o X.env) = eval o X.env
 few:((backTo cpos (starEach [e,f] X.env)).all (fun x=>!x.1) && (backToKw cpos (keywordEach [] X.env)).all (fun x=>x.1.isSome)
  && decide (([e,f]:List Expr).length + ([]:List Keyword).length + (if ([]:List Keyword).isEmpty then 0 else 1) < 30)) = true
 line:(apos.endLine == cpos.line) = true
 aK:backTo cpos (starEach [e,f] X.env) = [(false,eval e X.env),(false,eval f X.env)]
def IsD (H:Hp) (a:Addr):Prop:=(∃ kvs,Rd H a (.dK kvs)) \/ ∃ kvs,Rd H a (.dT kvs)
section
variable {X:Cx} {pins:List (Addr × Obj)} {σ:St} {H:Hp} {s:Shared} {a:Addr} {y d:V} {u r:Value} {o:Option V} {A:Around} {E:Value -> Shared -> Prop}
end
def CF (td ty:TE):TE:=fun σ H Q=>td σ H fun x H1=>∃ a,x = .ref a /\ IsD H1 a /\ ty σ H1 fun y H2=>∃ o,nA H2 a y o /\ Q (o.getD .non) H2
def CL (td ty tx:TE):TE:=fun σ H Q=>td σ H fun x H1=>∃ a,x = .ref a /\ IsD H1 a /\ ty σ H1 fun y H2=>tx σ H2 fun z H3=>∃ o,nA H3 a y o /\ Q (o.getD z) H3
def Cj (td ty:TE):TE:=fun σ H Q=>td σ H fun x H1=>∃ a,x = .ref a /\ IsD H1 a /\ ty σ H1 fun y H2=>∃ kvs k v,H2 a = some (.dK kvs) /\ y = kV k /\ nC kvs k = some v /\ Q v (upd H2 a (.dK (oN kvs k)))
def CH (td ty tx:TE):TE:=fun σ H Q=>td σ H fun x H1=>∃ a,x = .ref a /\ IsD H1 a /\ ty σ H1 fun y H2=>tx σ H2 fun z H3=>∃ kvs k,H3 a = some (.dK kvs) /\ y = kV k /\
 (∀ v,nC kvs k = some v -> Q v (upd H3 a (.dK (oN kvs k)))) /\ (nC kvs k = none -> Q z H3)
section
variable {X:Cx} {o e f:Expr} {apos cpos:Pos} {td ty tx:TE}
end
section
variable {X:Cx} {pins:List (Addr × Obj)} {σ:St} {H:Hp} {s:Shared} {a:Addr} {kvs:List (Key × V)} {A:Around} {E:Value -> Shared -> Prop}
end
section
variable {X:Cx} {pins:List (Addr × Obj)} {σ:St} {H:Hp} {s:Shared} {a:Addr} {y:V} {u:Value} {A:Around} {E:Value -> Shared -> Prop}
end
end L2
namespace L2
open PySem PySem.Spec PyProof.Rows
section
variable {κ:Type} [DecidableEq κ]
end
end L2

set_option Elab.async false
set_option linter.all false
set_option maxRecDepth 100000
set_option maxHeartbeats 4000000
namespace L3
open PySem PySem.Spec PyProof.Rows L2
abbrev noX:Value -> Shared -> Prop:=fun _ _=>False
theorem gR {P:Program} {w:World} {H:Hp} {h:Heap} {a:Addr} {o:HO} (x:HOk P w H h) (hn:H a = none) (new:ObjOk P w (upd H a o) h a o):HOk P w (upd H a o) h:=by
 intro b u e
 by_cases hb:b = a
 ·subst hb
  rw [ao] at e
  cases e
  exact new
 ·rw [ag hb] at e
  refine (x b u e).stay (fun c v _ q=>q) (fun c q=>?_) (fun c xs q=>?_)
  ·rw [ag (aE q hn)]; exact q
  ·rw [ag (aE q hn)]; exact q
section
variable {prog:Program} {w:World} {A:Around} {R:Result -> Shared -> Prop} {s:Shared}
theorem kF {elt tg iter:Expr} {scope:Scope} {pos:Pos} {it acc:Value} {env:Env} (J:Nat -> Shared -> Prop)
  (turn:∀ n s,J n s -> wpAny (model prog w) A (pyNext it) (fun r s₁=>match r with
   | none=>R (.ok .next) s₁
   | some v=>wpAny (model prog w) A (letOwnedTupleGo tg it v) (fun _ s₂=>wpAny (model prog w) A (assign tg env v) (fun _ s₃ =>
     wpAny (model prog w) A (eval elt env) (fun y s₄=>wpAny (model prog w) A (call (.builtin "list.append") [acc,y]) (fun _ s₅=>∃ m,m < n /\ J m s₅) noX s₄) noX s₃) noX s₂) noX s₁) noX s)
  (n:Nat) (h:J n s):codeAny (model prog w) A (.compLoop (.ListComp elt [⟨tg,iter,[],0⟩] scope pos) 0 it acc env) R s:=by
 refine codeAny_loop rfl J (fun n s hJ=>?_) n h
 show wpAny _ A ((compTurn (.ListComp elt [⟨tg,iter,[],0⟩] scope pos) 0 it acc env).onRaise (fun x=>do noteFrame x env; theTreesLotGoes x)) _ _ s
 refine wpAny_noted ?_
 rw [compTurn_list]
 refine wpAny_bind (wpAny_standAt (wpAny_bind (wpAny_mono (turn n s hJ) (fun r s₁ h₁=>?_) fun _ _ z=>z.elim)))
 cases r with
 | none=>exact wpAny_pure h₁
 | some v =>
  refine wpAny_bind (wpAny_mono h₁ (fun _ s₂ h₂=>?_) fun _ _ z=>z.elim)
  refine wpAny_bind (wpAny_mono h₂ (fun _ s₃ h₃=>?_) fun _ _ z=>z.elim)
  refine wpAny_bind (wpAny_tests_nil ?_)
  exact wpAny_bind (wpAny_bind (wpAny_mono h₃ (fun y s₄ h₄=>wpAny_bind (wpAny_mono h₄ (fun _ s₅ h₅=>wpAny_pure (wpAny_pure ⟨rfl,h₅⟩)) fun _ _ z=>z.elim)) fun _ _ z=>z.elim))
end
def aj (X:Cx) (N:List Str) (scope:Scope) (cl:List (Str × Addr)) (C:Addr) (s:Shared) (H:Hp) (fp:List Addr):Cx where
 prog:=X.prog
 w:=X.w
 K:=X.K
 mg:=X.mg
 base:=X.base
 A:=X.A
 N:=N
 s₀:=s
 H₀:=H
 env:=compEnvC scope cl C X.env
 outer:=X.stack
 stack:=X.stack
 ex:=fp
 fn:=fun _=>false
 calm:=X.calm
 pn:=X.pn
 xe:=noX
structure nB (x:Str) (ys:List Str) (scope:Scope):Prop where
 kind:scope.kind = .function
 cell:∀ y ∈ scope.names,y.2 ≠ .cell
 nm:∀ y ∈ scope.names,y.2 = .local -> scope.names.lookup y.1 = some .local
 loc:scope.names.lookup x = some .local
 nd:(x :: ys).Nodup
inductive Clo (X:Cx):List (Str × Addr) -> Prop
 | nil:Clo X []
 | cons {y:Str} {c:Addr} {cl:List (Str × Addr)}:X.env.cells.lookup y = some c -> Clo X cl -> Clo X ((y,c) :: cl)
theorem Clo.get {X:Cx} {cl:List (Str × Addr)} (h:Clo X cl):∀ {y:Str} {c:Addr},cl.lookup y = some c -> X.env.cells.lookup y = some c:=by
 induction h with
 | nil=>intro y c e; cases e
 | @cons z d cl' hz _ ih =>
  intro y c e
  cases q:y == z with
  | true =>
   simp only [List.lookup_cons,q] at e
   cases e
   rw [eq_of_beq q]; exact hz
  | false =>
   simp only [List.lookup_cons,q] at e
   exact ih e
inductive Frees (X:Cx) (scope:Scope) (cl:List (Str × Addr)):List Str -> List Nat -> Prop
 | nil:Frees X scope cl [] []
 | cons {y:Str} {ys:List Str} {i:Nat} {is:List Nat} {c:Addr}:X.N[i]? = some y -> Vis X.env.scope y -> (X.env.kindOf y = some .cell \/ X.env.kindOf y = some .free) -> X.env.cells.lookup y = some c -> cl.lookup y = some c ->
   ((relabel scope X.env).names.lookup y = some .cell \/ (relabel scope X.env).names.lookup y = some .free) -> Frees X scope cl ys is -> Frees X scope cl (y :: ys) (i :: is)
theorem Frees.len {X:Cx} {scope:Scope} {cl:List (Str × Addr)} {ys:List Str} {is:List Nat} (F:Frees X scope cl ys is):is.length = ys.length:=by
 induction F with
 | nil=>rfl
 | cons _ _ _ _ _ _ _ ih=>rw [List.length_cons,List.length_cons,ih]
def br (σ:L2.St) (is:List Nat):L2.St:=is.map fun i=>(σ[i]?).join
theorem Frees.get {X:Cx} {scope:Scope} {cl:List (Str × Addr)} {ys:List Str} {is:List Nat} {σ:L2.St} (F:Frees X scope cl ys is):∀ {j:Nat} {y:Str} {v:V},ys[j]? = some y -> (br σ is)[j]? = some (some v) ->
  ∃ (i:Nat) (c:Addr),X.N[i]? = some y /\ σ[i]? = some (some v) /\ Vis X.env.scope y /\ (X.env.kindOf y = some .cell \/ X.env.kindOf y = some .free) /\ X.env.cells.lookup y = some c /\ cl.lookup y = some c /\
   ((relabel scope X.env).names.lookup y = some .cell \/ (relabel scope X.env).names.lookup y = some .free):=by
 induction F with
 | nil=>intro j y v e; simp at e
 | @cons z zs i is c h1 h2 h3 h4 h5 h6 _ ih =>
  intro j y v e1 e2
  unfold br at e2
  rw [List.map_cons] at e2
  cases j with
  | zero =>
   rw [List.getElem?_cons_zero] at e1 e2
   cases e1
   cases q:σ[i]? with
   | none=>rw [q] at e2; cases e2
   | some o =>
    rw [q] at e2
    have e3:o = some v:=Option.some.inj e2
    subst e3
    exact ⟨i,c,h1,q,h2,h3,h4,h5,h6⟩
  | succ j =>
   rw [List.getElem?_cons_succ] at e1 e2
   exact ih e1 e2
theorem jY {X:Cx} {pins:List (Addr × Obj)} {σ:L2.St} {H:Hp} {s:Shared} {x:Str} {ys:List Str} {is:List Nat} {scope:Scope} {cl:List (Str × Addr)} {fp:List Addr} {C:Addr} {h1:Heap} {t1:Nat} {m1:Str -> Option Value}
  (I:Inv X pins σ H s) (hf:∀ b ∈ fp,fW X pins H b) (hfo:∀ b ∈ fp,b < s.heap.objs.size) (S:nB x ys scope) (hcl:Clo X cl)
  (hfr:(scope.names.all fun p=>p.2 != .free || (cl.lookup p.1).isSome) = true) (fr:Frees X scope cl ys is)
  (hC:s.heap.objs.size <= C) (old:∀ b o,s.heap.get? b = some o -> h1.get? b = some o) (hn:h1.Ns C m1) :
  Inv (aj X (x :: ys) scope cl C s H fp) pins (none :: br σ is) H { s with heap:=h1,toks:=t1 }:=by
 have stk:∀ b,b ≠ X.env.locals -> b ∉ X.fs -> b ∉ frs X.stack:=fun b q1 q2 hb=>(List.mem_cons.mp (I.stkSub b hb)).elim q1 q2
 have key:∀ a k,(relabel scope X.env).names.lookup a = some k -> (k = .cell \/ k = .free) -> ∃ c,cl.lookup a = some c:=fun a k e hk=>by
  have hm:=PySem.mem_of_lookup e
  obtain ⟨⟨n,k0⟩,hp,ep⟩:=List.mem_map.mp hm
  have hk0:k0 = .free /\ n = a:=by
   dsimp only at ep
   split at ep
   ·rename_i hc
    simp only [Bool.and_eq_true] at hc
    exact ⟨eq_of_beq hc.1.1,(Prod.mk.inj ep).1⟩
   ·obtain ⟨e1,e2⟩:=Prod.mk.inj ep
    subst e2
    rcases hk with z | z
    ·exact absurd z (S.cell _ hp)
    ·exact ⟨z,e1⟩
  obtain ⟨z1,z2⟩:=hk0
  subst z1 z2
  have q:=List.all_eq_true.mp hfr _ hp
  have q2:(cl.lookup n).isSome = true:=by simpa using q
  exact Option.isSome_iff_exists.mp q2
 refine ⟨⟨I.ok.mod,S.kind,I.ok.glob,I.ok.blt,hC,fun a b c e1 e2=>I.ok.inj a b c (hcl.get e1) (hcl.get e2),fun a ha=>?_,fun a c e=>absurd e Bool.false_ne_true,I.ok.hd,I.ok.frames,.inl rfl,
   fun b hb=>⟨Nat.ne_of_lt (Nat.lt_of_lt_of_le (hfo b hb) hC),fun a c e=>(hf b hb).2.2.2.2.1 a c (hcl.get e)⟩,I.bs,Nat.le_trans I.ok.bsz I.sz,fun b o e hb=>?_,fun b hb=>stk b (hf b hb).2.1 (hf b hb).2.2.1,I.stack,I.stkFree⟩,
  rfl,I.bare,Un.kept old,⟨m1,hn,fun j y v e1 e2 e3=>?_⟩,fun a c e=>?_,I.hok.fresh hC,fun a c e=>I.freeC a c (hcl.get e),fun p hp=>?_,I.hok.kept old,?_⟩
 ·rcases ha with e | e
  ·exact key a _ e (.inl rfl)
  ·exact key a _ e (.inr rfl)
 ·rcases (hf b hb).2.2.2.1 with z | z
  ·exact I.ok.noex b o e z
  ·exact absurd (Nat.lt_of_lt_of_le (Heap.lt_size (I.ok.bs b o e).1) z) (Nat.lt_irrefl _)
 ·cases j with
  | zero =>
   have z:(none:Option V) = some v:=Option.some.inj e2
   cases z
  | succ j =>
   obtain ⟨i,c,g1,g2,g3,g4,g5,g6,g7⟩:=fr.get (σ:=σ) (show ys[j]? = some y from e1) (show (br σ is)[j]? = some (some v) from e2)
   obtain ⟨m0,hn0,hl0⟩:=I.loc
   obtain ⟨u,r,l⟩:=hl0 i y v g1 g2 g3
   rcases l with ⟨k,_⟩ | ⟨_,c',e',z⟩
   ·rcases g4 with q | q
    ·rw [k] at q; cases q
    ·rw [k] at q; cases q
   ·rw [g5] at e'
    cases e'
    obtain ⟨o,ho,hd⟩:=z
    exact ⟨u,r,.inr ⟨g7,c,g6,⟨o,old _ _ ho,hd⟩⟩⟩
 ·obtain ⟨v,o,ho,hd⟩:=I.cell a c (hcl.get e)
  exact ⟨v,o,old _ _ ho,hd⟩
 ·obtain ⟨e,n,ne,nf,d⟩:=I.pin p hp
  exact ⟨old _ _ e,n,Nat.ne_of_lt (Nat.lt_of_lt_of_le (Heap.lt_size e) hC),stk _ ne nf,d⟩
 ·show (none :: br σ is).length = (x :: ys).length
  unfold br
  rw [List.length_cons,List.length_cons,List.length_map,fr.len]
abbrev iG (its:List Value):Obj:={ cls:=.type "list",data:=.seq its.toArray its.length }
def ym (J:It) (te:TE) (σ':L2.St) (H1:Hp) (Q:VK):Prop:=∃ W:Nat -> Nat -> List V -> Hp -> Prop,(∃ m,W 0 m [] H1) /\ ∀ i m ys H,W i m ys H ->
 (J.stop i H /\ ys.length <= sizeLine /\ ∀ p,H p = none -> Q (.ref p) (upd H p (.lst ys))) \/
 (J.go i H /\ ys.length < sizeLine /\ ∀ x H',J.yld i H x H' -> te (some x :: σ') H' fun y H2=>∃ m',m' < m /\ W (i + 1) m' (ys ++ [y]) H2)
def C8 (wi:TI) (is:List Nat) (te:TE):TE:=fun σ H Q=>wi σ H fun J H1=>ym J te (br σ is) H1 Q
theorem mE {X:Cx} (hc:X.calm = true):cX X (.builtin "all") (fun xs H Q=>∃ (a:Addr) (bs:List Bool),xs = [.ref a] /\ SqL X.K H a (bs.map V.bl) /\ Q (.bl (bs.all id)) H):=by
 intro pins s σ H xs us Q I r h
 obtain ⟨a,bs,rfl,hS,q⟩:=h
 obtain ⟨u,rfl,ru⟩:=jD r
 cases ru
 obtain ⟨its,rv,p,hz⟩:=I.list hS
 have hlen:its.toArray.size = bs.length:=by rw [List.size_toArray,<- rv.length,List.length_map]
 have hlt:a < s.heap.objs.size:=by obtain ⟨o,e,_⟩:=p.isList; exact Heap.lt_size e
 refine call_all_walk (wpAny_pyIter_list p.isList ?_)
 refine ⟨s.heap.objs.size,_,_,_,_,_,fun i=>bs.getD i true,rfl,Walks.list (A:=X.A.in1) (show X.A.in1.handled = none from I.ok.hd hc) s.heap.objs.size a (Nat.ne_of_lt hlt) its.toArray,⟨⟨_,Heap.get?_push_size _ rfl,rfl,rfl⟩,p.isList.push _⟩,fun i v s' Q' E' hv hQ=>?_,fun h' tk k=>?_⟩
 ·have hv':its[i]? = some v:=by simpa using hv
  have hi:i < its.length:=(List.getElem?_eq_some_iff.mp hv').1
  have hib:i < bs.length:=by have:=rv.length; rw [List.length_map] at this; omega
  obtain ⟨w',e1,e2⟩:=rv.get (i:=i) (x:=.bl bs[i]) (by rw [List.getElem?_map,List.getElem?_eq_getElem hib]; rfl)
  rw [hv'] at e1
  cases e1
  cases e2
  refine wpAny_truthy_bool ?_
  have e3:bs.getD i true = bs[i]:=by rw [List.getD_eq_getElem?_getD,List.getElem?_eq_getElem hib]; rfl
  rw [<- e3]; exact hQ
 ·have e:(List.range its.toArray.size).all (fun i=>bs.getD i true) = bs.all id:=by
   rw [hlen,Bool.eq_iff_iff,List.all_eq_true,List.all_eq_true]
   constructor
   ·intro z b hb
    obtain ⟨i,hi,e⟩:=List.getElem_of_mem hb
    have:=z i (List.mem_range.mpr hi)
    rw [List.getD_eq_getElem?_getD,List.getElem?_eq_getElem hi] at this
    simpa [e] using this
   ·intro z i hi
    have hi':=List.mem_range.mp hi
    rw [List.getD_eq_getElem?_getD,List.getElem?_eq_getElem hi']
    exact z _ (List.getElem_mem hi')
  rw [e]
  exact ⟨.bl (bs.all id),H,I.kept (fun b o eo=>k b o (fun hm=>by
   have:b = s.heap.objs.size:=by simpa using hm
   exact absurd (this ▸ Heap.lt_size eo) (Nat.lt_irrefl _)) (Heap.get?_push_of_some _ eo)),rfl,q⟩
inductive Th where
 | non | bl (b:Bool) | int (i:Int) | str (x:Str) | tup (ts:List Th) | lst (ts:List Th)
mutual
def Has (K:PySem.W.Frag) (H:Hp):Th -> V -> Prop
 | .non,v=>v = .non
 | .bl b,v=>v = .bl b
 | .int i,v=>v = .int i
 | .str x,v=>v = .str x
 | .tup ts,v=>∃ a vs,v = .ref a /\ SqT K H a vs /\ HasL K H ts vs
 | .lst ts,v=>∃ a vs,v = .ref a /\ H a = some (.lst vs) /\ HasL K H ts vs
def HasL (K:PySem.W.Frag) (H:Hp):List Th -> List V -> Prop
 | [],vs=>vs = []
 | t :: ts,vs=>∃ v r,vs = v :: r /\ Has K H t v /\ HasL K H ts r
end
def Th.ty:Th -> String
 | .non=>"NoneType" | .bl _=>"bool" | .int _=>"int" | .str _=>"str" | .tup _=>"tuple" | .lst _=>"list"
def isI (c:String) (t:Th):Bool:=t.ty == c || (t.ty == "bool" && c == "int")
theorem kit_type {K:PySem.W.Frag} {A B:String}:PySem.W.kitOne K (.type A) (.type B) = PySem.W.kitOne [] (.type A) (.type B):=by
 unfold PySem.W.kitOne PySem.W.kitCls PySem.W.subIn
 rfl
theorem xp:∀ c ∈ ["tuple","str","bool","int","list"],∀ n ∈ ["NoneType","bool","int","str","tuple","list"],PySem.W.kitOne [] (.type n) (.type c) = some (n == c || (n == "bool" && c == "int")):=by decide +kernel
theorem xU (t:Th):t.ty ∈ ["NoneType","bool","int","str","tuple","list"]:=by cases t <;> simp [Th.ty]
theorem kW {c:String} (hc:c ∈ ["tuple","str","bool","int","list"]) (t:Th):PySem.W.kitOne [] (.type t.ty) (.type c) = some (isI c t):=xp c hc t.ty (xU t)
structure tY (K:PySem.W.Frag) (w:World) (a:Addr) (T:List (Str × V)):Prop where
 ex:∃ es n,K.lookup a = some ⟨.type "dict",none,.dict es n,#[]⟩ /\ PySem.W.KeysLit w.params es.toList /\ Paired (fun (p:Str × V) (e:DictEntry)=>(∃ t,e.key = .str p.1 t) /\ RelV p.2 e.val) T es.toList
 lo:(a == sysModules) = false
section
variable {X:Cx}
end
theorem eC {H:Hp} {p:Addr} (h:H p = none) (o:HO):Same H (upd H p o):=fun b u q=>by rw [ag (aE q h)]; exact q
def vm (K:PySem.W.Frag):R2:=fun x y H Q=>∃ a b xs ys,x = .ref a /\ y = .ref b /\ SqT K H a xs /\ SqT K H b ys /\ xs ≠ [] /\ xs.length + ys.length <= sizeLine /\ ∀ v H',Same H H' -> (∃ c,v = .ref c /\ SqT K H' c (xs ++ ys)) -> Q v H'
theorem sC {X:Cx}:OpR X (binaryOp .Add) (vm X.K):=fun pins s σ H x y v u Q I rx ry h=>by
 obtain ⟨a,b,xs,ys,e1,e2,h1,h2,hx,hz,q⟩:=h
 exact uW pins s σ H x y v u Q I rx ry ⟨a,b,xs,ys,e1,e2,h1,h2,hx,hz,fun z=>q _ _ (Same.refl _) ⟨a,rfl,by rw [z,List.append_nil]; exact h1⟩,fun _ p hp=>q _ _ (eC hp _) ⟨p,rfl,SqT.of ao⟩⟩
theorem oq {X:Cx} {x:Str} {T:String} {pos:Pos} (hg:Gl X x) (hm:X.mg x = none) (hv:bootBuiltins x = some (.type T)) (hn:x ≠ "__name__":=by decide) (hd:(x == ("__debug__":Str)) = false:=by decide):PE X (.Name x pos) (tC (.ty T)):=tF (v:=.ty T) hg hm hv rfl hn hd
theorem fv (ns:List Int):∀ k,k <= ns.length -> preSum (fun i=>ns.getD i 0) k = (ns.take k).sum
 | 0,_=>rfl
 | k + 1,h=>by
  have ih:=fv ns k (by omega)
  show preSum (fun i=>ns.getD i 0) k + ns.getD k 0 = _
  rw [ih,List.take_succ,List.sum_append,List.getD_eq_getElem?_getD,List.getElem?_eq_getElem (show k < ns.length by omega)]
  simp
theorem nM {X:Cx} (hc:X.calm = true):cX X (.builtin "sum") (fun xs H Q=>∃ (a:Addr) (ns:List Int),xs = [.ref a] /\ SqL X.K H a (ns.map V.int) /\ Q (.int ns.sum) H):=by
 intro pins s σ H xs us Q I r h
 obtain ⟨a,ns,rfl,hS,q⟩:=h
 obtain ⟨u,rfl,ru⟩:=jD r
 cases ru
 obtain ⟨its,rv,p,hz⟩:=I.list hS
 have hlen:its.toArray.size = ns.length:=by rw [List.size_toArray,<- rv.length,List.length_map]
 have hlt:a < s.heap.objs.size:=by obtain ⟨o,e,_⟩:=p.isList; exact Heap.lt_size e
 refine call_sum_walkG (wpAny_pyIter_list p.isList ?_)
 refine ⟨s.heap.objs.size,_,_,_,_,_,fun i=>ns.getD i 0,rfl,Walks.list (A:=X.A.in1) (show X.A.in1.handled = none from I.ok.hd hc) s.heap.objs.size a (Nat.ne_of_lt hlt) its.toArray,⟨⟨_,Heap.get?_push_size _ rfl,rfl,rfl⟩,p.isList.push _⟩,fun b hb=>?_,fun i v hv=>?_,fun h' tk t' k=>?_⟩
 ·show b < (s.heap.push _).objs.size
  rw [Heap.size_push]
  rcases List.mem_cons.mp hb with rfl | hb
  ·exact Nat.lt_succ_self _
  ·rw [List.mem_singleton.mp hb]; exact Nat.lt_succ_of_lt hlt
 ·have hv':its[i]? = some v:=by simpa using hv
  have hi:i < its.length:=(List.getElem?_eq_some_iff.mp hv').1
  have hib:i < ns.length:=by have:=rv.length; rw [List.length_map] at this; omega
  obtain ⟨w',e1,e2⟩:=rv.get (i:=i) (x:=.int ns[i]) (by rw [List.getElem?_map,List.getElem?_eq_getElem hib]; rfl)
  rw [hv'] at e1
  cases e1
  obtain ⟨t,rfl⟩:=e2
  have e3:ns.getD i 0 = ns[i]:=by rw [List.getD_eq_getElem?_getD,List.getElem?_eq_getElem hib]; rfl
  exact ⟨t,by show Value.int ns[i] t = Value.int (ns.getD i 0) t; rw [e3]⟩
 ·have e:preSum (fun i=>ns.getD i 0) its.toArray.size = ns.sum:=by
   rw [hlen,fv ns _ (Nat.le_refl _),List.take_length]
  rw [e]
  exact ⟨.int ns.sum,H,I.kept (fun b o eo=>k b o (fun hm=>by
   have:b = s.heap.objs.size:=by simpa using hm
   exact absurd (this ▸ Heap.lt_size eo) (Nat.lt_irrefl _)) (Heap.get?_push_of_some _ eo)),⟨t',rfl⟩,q⟩
mutual
def toD:Th -> PyData
 | .non=>.none
 | .bl b=>.bool b
 | .int i=>.int i
 | .str x=>.str x
 | .tup ts=>.tuple (fC ts)
 | .lst ts=>.list (fC ts)
def fC:List Th -> List PyData
 | []=>[]
 | t :: ts=>toD t :: fC ts
end
section
variable {X:Cx} {pins:List (Addr × Obj)} {σ:L2.St} {H:Hp} {s:Shared}
mutual
theorem Has.reads (I:Inv X pins σ H s):∀ {t:Th} {v:V} {u:Value},Has X.K H t v -> RelV v u -> ∃ as,Reads s.heap u (toD t) as
 | .non,_,u,h,r=>by
  obtain rfl:_ = V.non:=h
  obtain rfl:u = Value.none:=r
  exact ⟨_,.none⟩
 | .bl b,_,u,h,r=>by
  obtain rfl:_ = V.bl b:=h
  obtain rfl:u = Value.bool b:=r
  exact ⟨_,.bool b⟩
 | .int i,_,u,h,r=>by
  obtain rfl:_ = V.int i:=h
  obtain ⟨t,rfl⟩:∃ t,u = Value.int i t:=r
  exact ⟨_,.int i t⟩
 | .str x,_,u,h,r=>by
  obtain rfl:_ = V.str x:=h
  obtain ⟨t,rfl⟩:∃ t,u = Value.str x t:=r
  exact ⟨_,.str x t⟩
 | .tup ts,_,u,⟨a,vs,e,hS,hL⟩,r=>by
  subst e
  obtain rfl:u = Value.ref a:=r
  obtain ⟨its,rv,⟨o,h1,h2,n,h3⟩,_⟩:=I.tuple hS
  obtain ⟨as,ra⟩:=HasL.reads I hL rv
  exact ⟨_,.tuple h1 h2 h3 (by simpa using ra)⟩
 | .lst ts,_,u,⟨a,vs,e,hS,hL⟩,r=>by
  subst e
  obtain rfl:u = Value.ref a:=r
  obtain ⟨its,rv,⟨o,n,h1,h2,_,h3⟩,_⟩:=I.list (SqL.of hS)
  obtain ⟨as,ra⟩:=HasL.reads I hL rv
  exact ⟨_,.list h1 h2 h3 (by simpa using ra)⟩
theorem HasL.reads (I:Inv X pins σ H s):∀ {ts:List Th} {vs:List V} {us:List Value},HasL X.K H ts vs -> Vals vs us -> ∃ as,ReadsAll s.heap us (fC ts) as
 | [],vs,us,h,r=>by
  obtain rfl:vs = []:=h
  cases r
  exact ⟨_,.nil⟩
 | t :: ts,vs,us,⟨v,w',e,h1,h2⟩,r=>by
  subst e
  cases r with
  | cons r1 r2 =>
   obtain ⟨as,ra⟩:=Has.reads I h1 r1
   obtain ⟨bs,rb⟩:=HasL.reads I h2 r2
   exact ⟨_,.cons ra rb⟩
end
end
abbrev iX (t:Th):Prop:=SeqAt.shaped (toD t) = true
theorem lU {X:Cx} (hu:X.A.units + 64 < cLine):OpR X (compareOp .Eq) (fun x y H Q=>∃ t t',Has X.K H t x /\ Has X.K H t' y /\ iX t /\ iX t' /\ Q (.bl (PyData.eqv (toD t) (toD t'))) H):=by
 intro pins s σ H x y v u Q I rx ry h
 obtain ⟨t,t',h1,h2,o1,o2,q⟩:=h
 obtain ⟨as,ra⟩:=Has.reads I h1 rx
 obtain ⟨bs,rb⟩:=Has.reads I h2 ry
 exact PyProof.Rows.eq_dataH ra rb o1 o2 hu ⟨.bl _,H,I,rfl,q⟩
theorem uw {X:Cx} (hu:X.A.units + 64 < cLine):OpR X (compareOp .NotEq) (fun x y H Q=>∃ t t',Has X.K H t x /\ Has X.K H t' y /\ iX t /\ iX t' /\ Q (.bl (!PyData.eqv (toD t) (toD t'))) H):=by
 intro pins s σ H x y v u Q I rx ry h
 obtain ⟨t,t',h1,h2,o1,o2,q⟩:=h
 obtain ⟨as,ra⟩:=Has.reads I h1 rx
 obtain ⟨bs,rb⟩:=Has.reads I h2 ry
 exact PyProof.Rows.ne_dataH ra rb o1 o2 hu ⟨.bl _,H,I,rfl,q⟩
theorem Same.own {H0 H:Hp} {p:Addr} (s:Same H0 H) (h:H0 p = none) (o:HO):Same H0 (upd H p o):=fun b u q=>by rw [ag (aE q h)]; exact s b u q
section
variable {prog:Program} {w:World} {A:Around} {E:Value -> Shared -> Prop} {s:Shared}
theorem eI {t sl:Addr} {items:Array Value} {vl vu:Value} {lo hi:Option Int} {Q:Value -> Shared -> Prop} (ht:IsTup s.heap t items) (hs:s.heap.IsSliceOf sl vl vu .none) (pl:IsPart vl lo) (pu:IsPart vu hi)
  (hw:HT.sIx items.size 0 lo = 0 /\ HT.sIx items.size items.size hi = items.size) (h:Q (.ref t) s):wpAny (model prog w) A (getItem (.ref t) (.ref sl)) Q E s:=by
 obtain ⟨os,hos,hcs,hds⟩:=id hs
 have hTs:s.TypeIs (.ref sl) "slice":=⟨os,hos,hcs⟩
 unfold getItem
 try with_reducible refine wpAny_holding ?_
 first | refine wpAny_bind (wpAny_pure ?_) | skip
 refine wpAny_bind (wpAny_sequenceKey ht.typeIs (by decide) ?_)
 refine wpAny_bind (wpAny_callSpecial?_slot (name:=Str.ofString "__getitem__") ht.typeIs PyProof.Rows.slot_tuple_getitem
  (wpAny_call_entry PyProof.Rows.slot_tuple_getitem ht.typeIs entry_tuple_getitem ?_ (args_tuple_getitem _ _)))
 show wpAny _ _ (Builtin.Tuple.tupleItemsOf (.ref t) >>= _) _ _ s
 refine wpAny_bind (tupleItemsOf_ ht ?_)
 refine wpAny_bind (wpAny_typeOf hTs ?_)
 rw [if_pos (by decide)]
 refine wpAny_bind (HT.sliceApplied_gen hs pl pu ?_)
 have hyes:(((HT.sIx items.size 0 lo:Nat):Int) == 0 && (1:Int) == 1 && (HT.sIx items.size items.size hi - HT.sIx items.size 0 lo) == items.size) = true:=by
  rw [hw.1,hw.2]
  simp
 show wpAny _ _ (if (((HT.sIx items.size 0 lo:Nat):Int) == 0 && (1:Int) == 1 && (HT.sIx items.size items.size hi - HT.sIx items.size 0 lo) == items.size) = true then _ else _) _ _ s
 rw [if_pos hyes]
 unfold Builtin.Tuple.tupleIsExact
 refine wpAny_bind (wpAny_bind (wpAny_typeOf ht.typeIs (wpAny_pure ?_)))
 rw [if_pos (by decide)]
 first
  | exact wpAny_bind (wpAny_rule (wpAny_pure ⟨_,rfl,wpAny_pure h⟩))
  | exact wpAny_bind (wpAny_rule (wpAny_bind (wpAny_pure (wpAny_pure ⟨_,rfl,wpAny_pure h⟩))))
end
section
variable {X:Cx}
def xR (K:PySem.W.Frag):V -> Option Int -> Option Int -> Hp -> VK -> Prop:=fun x lo hi H Q=>∃ a xs,x = .ref a /\ SqT K H a xs /\ ∀ v H',Same H H' -> (∃ c,v = .ref c /\ SqT K H' c (dg xs lo hi)) -> Q v H'
theorem uY:SlR X (xR X.K):=by
 intro pins s σ H x v vl vu lo hi sl Q I rx hs pl pu h
 obtain ⟨a,xs,rfl,hx,q⟩:=h
 by_cases hw:HT.sIx xs.length 0 lo = 0 /\ HT.sIx xs.length xs.length hi = xs.length
 ·cases rx
  obtain ⟨its,r,ht,hz⟩:=I.tuple hx
  have hlen:its.toArray.size = xs.length:=by rw [List.size_toArray]; exact r.length.symm
  refine ⟨"tuple",_,PyProof.Rows.slot_tuple_getitem.lookup,ht.typeIs,?_⟩
  refine eI ht hs pl pu (by rw [hlen]; exact hw) ⟨.ref a,H,I,rfl,q _ _ (Same.refl H) ⟨a,rfl,?_⟩⟩
  have e:dg xs lo hi = xs:=by
   unfold dg
   rw [hw.1,hw.2]
   simp
  rw [e]
  exact hx
 ·exact yQ pins s σ H _ v vl vu lo hi sl Q I rx hs pl pu ⟨a,xs,rfl,hx,hw,fun p hp=>q _ _ (eC hp _) ⟨p,rfl,SqT.of ao⟩⟩
def DC:V -> Option Int -> Option Int -> Hp -> VK -> Prop:=fun x lo hi H Q=>∃ z,x = .str z /\ ((Builtin.Str.strSliceIndices lo hi 1 z.length).length == z.length) = true /\ Q (.str z) H
end
def Cg (K:PySem.W.Frag) (H:Hp) (F:Addr -> Prop) (a:Addr) (xs:List V):Prop:=(Rd H a (.tup xs) /\ F a) \/
 ∃ (o:Obj) (its:Array Value) (n:Nat),K.lookup a = some o /\ o.cls = .type "tuple" /\ o.data = .seq its n /\ its.size <= sizeLine /\ Vals xs its.toList
mutual
def BW (K:PySem.W.Frag) (H:Hp) (F:Addr -> Prop):Th -> V -> Prop
 | .non,v=>v = .non
 | .bl b,v=>v = .bl b
 | .int i,v=>v = .int i
 | .str x,v=>v = .str x
 | .tup ts,v=>∃ a vs,v = .ref a /\ Cg K H F a vs /\ qg K H F ts vs
 | .lst ts,v=>∃ a vs,v = .ref a /\ (H a = some (.lst vs) /\ F a) /\ qg K H F ts vs
def qg (K:PySem.W.Frag) (H:Hp) (F:Addr -> Prop):List Th -> List V -> Prop
 | [],vs=>vs = []
 | t :: ts,vs=>∃ v r,vs = v :: r /\ BW K H F t v /\ qg K H F ts r
end
section
variable {K:PySem.W.Frag} {H H':Hp} {F F':Addr -> Prop}
end
def CG (K:PySem.W.Frag):R2:=fun x y H Q=>∃ p xs i v,x = .ref p /\ y = .int i /\ (SqL K H p xs \/ SqT K H p xs) /\ atI xs i = some v /\ Q v H
theorem ix_any {X:Cx}:IxR X (CG X.K):=fun value slice pins s σ H x y v u Q I rx ry h hs=>by
 obtain ⟨p,xs,i,z,e1,e2,hq,ha,q⟩:=h
 rcases hq with hq | hq
 ·exact tD value slice pins s σ H x y v u Q I rx ry ⟨p,xs,i,z,e1,e2,hq,ha,q⟩ hs
 ·exact xT value slice pins s σ H x y v u Q I rx ry ⟨p,xs,i,z,e1,e2,hq,ha,q⟩ hs
def DB (K:PySem.W.Frag):V -> Option Int -> Option Int -> Hp -> VK -> Prop:=fun x lo hi H Q=>∃ a xs,x = .ref a /\ SqT K H a xs /\ (HT.sIx xs.length 0 lo = 0 /\ HT.sIx xs.length xs.length hi = xs.length) /\ Q (.ref a) H
section
variable {K:PySem.W.Frag} {H:Hp} {F:Addr -> Prop}
end
end L3

set_option Elab.async false
set_option linter.all false
set_option maxRecDepth 100000
set_option maxHeartbeats 4000000
namespace L3
open PySem PySem.Spec PySem.Builtin PySem.Builtin.Str PyProof.Rows L2
section
variable {X:Cx}
def C0 (K:PySem.W.Frag):V -> List V -> Hp -> VK -> Prop:=fun x vs H Q=>∃ z p ts,x = .str z /\ vs = [.ref p] /\ SqL K H p (ts.map V.str) /\ JoinOk z ts = true /\ Q (.str (PySem.Str.join z ts)) H
def B7:V -> List V -> Hp -> VK -> Prop:=fun x vs H Q=>∃ z y,x = .str z /\ vs = [.str y] /\ (y.length == 0) = false /\ z.length + 2 <= sizeLine /\ ∀ p,H p = none -> Q (.ref p) (upd H p (.lst ((Txt.split z y).map V.str)))
end
end L3

set_option Elab.async false
set_option linter.all false
set_option maxRecDepth 100000
set_option maxHeartbeats 4000000
namespace L3
open PySem PySem.Spec PyProof.Rows L2
def SqO (h:Heap):Bool -> Addr -> Array Value -> Prop
 | true,a,xs=>h.IsTuple a xs
 | false,a,xs=>h.IsList a xs
def ItO (h:Heap):Bool -> Addr -> Addr -> Nat -> Prop
 | true,it,a,n=>h.IsTupleIter it a n
 | false,it,a,n=>h.IsListIter it a n
theorem SqO.at {h h':Heap} {k:Bool} {a:Addr} {xs:Array Value} (x:SqO h k a xs) (e:∀ o,h.get? a = some o -> h'.get? a = some o):SqO h' k a xs:=by
 cases k <;> (obtain ⟨o,ho,r⟩:=x; exact ⟨o,e o ho,r⟩)
theorem ItO.at {h h':Heap} {k:Bool} {it a:Addr} {n:Nat} (x:ItO h k it a n) (e:∀ o,h.get? it = some o -> h'.get? it = some o):ItO h' k it a n:=by
 cases k <;> (obtain ⟨o,ho,r⟩:=x; exact ⟨o,e o ho,r⟩)
theorem ItO.obj {h:Heap} {k:Bool} {it a:Addr} {n:Nat} (x:ItO h k it a n):∃ o,h.get? it = some o /\ ∀ v,o.data ≠ .cell v:=by
 cases k <;> (obtain ⟨o,ho,_,d⟩:=x; exact ⟨o,ho,fun v z=>by rw [d] at z; cases z⟩)
theorem SqO.lt {h:Heap} {k:Bool} {a:Addr} {xs:Array Value} (x:SqO h k a xs):a < h.objs.size:=by
 cases k <;> (obtain ⟨o,ho,_⟩:=x; exact Heap.lt_size ho)
section
variable {prog:Program} {w:World} {A:Around} {E:Value -> Shared -> Prop} {s:Shared}
theorem kN {it t:Addr} {i:Nat} {xs:Array Value} {x:Value} {Q:Value -> Shared -> Prop} (hit:s.heap.IsTupleIter it t i) (ht:s.heap.IsTuple t xs) (hx:xs[i]? = some x)
  (q:∀ h',h'.IsTupleIter it t (i + 1) -> Heap.SameBut it s.heap h' -> Q x { s with heap:=h' }):wpAny (model prog w) A (Builtin.SmallTypes.nextOf (.ref it)) Q E s:=by
 obtain ⟨u,hu,cu,du⟩:=id hit; obtain ⟨v,hv,_,nv,dv⟩:=ht
 unfold Builtin.SmallTypes.nextOf
 refine wpAny_bind (wpAny_callSpecial?_slot (name:=Str.ofString "__next__") hit.typeIs F.slot_tuple_iterator_next (wpAny_call_entry F.slot_tuple_iterator_next hit.typeIs F.entry_tuple_iterator_next ?_ (F.args_tuple_iterator_next_1 _)))
 show wpAny _ _ (field (.ref it) 0 >>= _) _ _ _; refine wpAny_bind (wpAny_field hu du (x:=.ref t) rfl ?_)
 show wpAny _ _ (if (Value.ref t == Value.none) = true then _ else _) _ _ _; rw [if_neg (by intro z; cases z)]
 show wpAny _ _ (field (.ref it) 1 >>= _) _ _ _; refine wpAny_bind (wpAny_field hu du (x:=.int i 0) rfl ?_)
 show wpAny _ _ (seqItems? (.ref t) >>= _) _ _ _; refine wpAny_bind (wpAny_seqItems hv dv ?_)
 simp only [hx,Int.toNat_natCast]
 exact wpAny_bind (wpAny_setField hu du (by simp) (wpAny_pure ⟨x,rfl,wpAny_pure (q _ ⟨_,Heap.get?_update_self _ hu (Obj.isFreed_of_fields (Obj.data_mapFields du _)),(Obj.cls_mapFields ..).trans cu,by rw [Obj.data_mapFields du]; simp [rawInt]⟩ (Heap.SameBut.update ..))⟩))
theorem nI {it t:Addr} {i:Nat} {xs:Array Value} {Q:Value -> Shared -> Prop} (hh:A.handled = none) (hit:s.heap.IsTupleIter it t i) (ht:s.heap.IsTuple t xs) (hx:xs[i]? = none)
  (q:∀ h' e,Heap.ExtBut it s.heap h' -> (∃ o,h'.get? e = some o /\ o.cls = .type "StopIteration") -> E (.ref e) { s with heap:=h' }):wpAny (model prog w) A (Builtin.SmallTypes.nextOf (.ref it)) Q E s:=by
 obtain ⟨u,hu,cu,du⟩:=id hit; obtain ⟨v,hv,_,nv,dv⟩:=ht
 unfold Builtin.SmallTypes.nextOf
 refine wpAny_bind (wpAny_callSpecial?_slot (name:=Str.ofString "__next__") hit.typeIs F.slot_tuple_iterator_next (wpAny_call_entry F.slot_tuple_iterator_next hit.typeIs F.entry_tuple_iterator_next ?_ (F.args_tuple_iterator_next_1 _)))
 show wpAny _ _ (field (.ref it) 0 >>= _) _ _ _; refine wpAny_bind (wpAny_field hu du (x:=.ref t) rfl ?_)
 show wpAny _ _ (if (Value.ref t == Value.none) = true then _ else _) _ _ _; rw [if_neg (by intro z; cases z)]
 show wpAny _ _ (field (.ref it) 1 >>= _) _ _ _; refine wpAny_bind (wpAny_field hu du (x:=.int i 0) rfl ?_)
 show wpAny _ _ (seqItems? (.ref t) >>= _) _ _ _; refine wpAny_bind (wpAny_seqItems hv dv ?_)
 simp only [hx,Int.toNat_natCast]
 refine wpAny_bind (wpAny_rule (wpAny_bind (wpAny_setField hu du (by simp) ?_))); show wpAny _ _ (newExc (.type "StopIteration") [] >>= _) _ _ _
 refine wpAny_bind ?_; simp only [newTuple,newExc]
 refine wpAny_bind (wpAny_newObj_type ?_ (by size_fits)); refine wpAny_bind (m:=firstArgMember _ _) (wpAny_of_eq (a:=Value.none) (by first | rfl | (simp only [firstArgMember]; rfl)) (wpAny_newObj_type ?_ (by size_fits)))
 simp only [raiseNew]
 refine wpAny_bind (wpAny_handled ?_); first | rw [hh] | rw [show A.in1.handled = none from hh]
 exact wpAny_bind (wpAny_pure (wpAny_throw (q _ _ (((Heap.SameBut.update ..).extBut.push _).push _) ⟨_,Heap.get?_push_size _ rfl,rfl⟩)))
theorem bC {k:Bool} {it t:Addr} {i:Nat} {xs:Array Value} {x:Value} {Q:Value -> Shared -> Prop} (hit:ItO s.heap k it t i) (ht:SqO s.heap k t xs) (hx:xs[i]? = some x)
  (q:∀ h',ItO h' k it t (i + 1) -> Heap.SameBut it s.heap h' -> Q x { s with heap:=h' }):wpAny (model prog w) A (Builtin.SmallTypes.nextOf (.ref it)) Q E s:=by
 cases k with
 | false=>exact wpAny_nextOf_list_item (show s.heap.IsListIter it t i from hit) (show s.heap.IsList t xs from ht) hx q
 | true=>exact kN hit ht hx q
theorem dF {k:Bool} {it t:Addr} {i:Nat} {xs:Array Value} {Q:Value -> Shared -> Prop} (hh:A.handled = none) (hit:ItO s.heap k it t i) (ht:SqO s.heap k t xs) (hx:xs[i]? = none)
  (q:∀ h' e,Heap.ExtBut it s.heap h' -> (∃ o,h'.get? e = some o /\ o.cls = .type "StopIteration") -> E (.ref e) { s with heap:=h' }):wpAny (model prog w) A (Builtin.SmallTypes.nextOf (.ref it)) Q E s:=by
 cases k with
 | false=>exact wpAny_nextOf_list_end hh (show s.heap.IsListIter it t i from hit) (show s.heap.IsList t xs from ht) hx q
 | true=>exact nI hh hit ht hx q
theorem mL {z TI TO i1 i2 a1 a2:Addr} {k1 k2:Bool} {n m:Nat} {xs ys:Array Value} {x y a b:Value} {Q:Value -> Shared -> Prop} (D:ZipApart z TI TO i1 i2 a1 a2)
  (hz:IsZip s.heap z TI TO .none) (hI:IsPair s.heap TI (.ref i1) (.ref i2)) (hO:IsPair s.heap TO a b) (h1:ItO s.heap k1 i1 a1 n) (h2:ItO s.heap k2 i2 a2 m) (q1:SqO s.heap k1 a1 xs) (q2:SqO s.heap k2 a2 ys) (hx:xs[n]? = some x) (hy:ys[m]? = some y)
  (q:∀ h',IsZip h' z TI TO (rawInt s.heap.objs.size) -> IsPair h' TO x y -> ItO h' k1 i1 a1 (n + 1) -> ItO h' k2 i2 a2 (m + 1) -> IsPair h' s.heap.objs.size x y -> h'.objs.size = s.heap.objs.size + 1 ->
   (∀ c o,c ≠ z -> c ≠ TO -> c ≠ i1 -> c ≠ i2 -> s.heap.get? c = some o -> h'.get? c = some o) -> Q (.ref s.heap.objs.size) { s with heap:=h' }) :
  wpAny (model prog w) A (Builtin.«zip.__next__» ⟨[.ref z],[]⟩) (fun fin s'=>∃ v,fin = .done (.ret v) /\ Q v s') E s:=by
 show wpAny _ _ (field (.ref z) 2 >>= _) _ _ _; refine wpAny_bind (wpAny_field hz rfl (x:=.bool false) rfl ?_)
 show wpAny _ _ (field (.ref z) 3 >>= _) _ _ _; refine wpAny_bind (wpAny_field hz rfl (x:=.ref TI) rfl (wpAny_bind (wpAny_seqItems hI rfl ?_)))
 show wpAny _ _ (Builtin.SmallTypes.ownedTupleIsFree (.ref z) >>= _) _ _ _; refine wpAny_bind ?_
 unfold Builtin.SmallTypes.ownedTupleIsFree
 refine wpAny_bind (wpAny_field hz rfl (x:=.none) rfl (wpAny_pure ?_)); simp only [if_true]
 refine wpAny_bind (wpAny_rule (wpAny_bind (wpAny_field hz rfl (x:=.ref TO) rfl (wpAny_bind (wpAny_setField_rec hz (by simp) fun g1 z1 s1=>?_)))))
 replace z1:IsZip g1 z TI TO .ellipsis:=z1
 refine wpAny_bind ?_; simp only [List.forIn_cons,List.forIn_nil,List.zipIdx_cons,List.zipIdx_nil]
 refine wpAny_bind (wpAny_bind (wpAny_onRaise ?_)); show wpAny _ _ (Builtin.SmallTypes.nextOf (.ref i1) >>= _) _ _ _
 refine wpAny_bind (bC (h1.at fun o e=>s1.extBut _ _ D.i1z e) (q1.at fun o e=>s1.extBut _ _ D.l1z e) hx fun g2 r2 s2=>wpAny_pure ?_)
 have p2:IsPair g2 TO a b:=s2.extBut _ _ D.TOi1 (s1.extBut _ _ D.TOz hO)
 refine wpAny_bind (wpAny_seqItems p2 rfl (wpAny_bind (wpAny_updateSeq_pair p2 fun g3 p3 s3=>wpAny_bind (wpAny_letGo (wpAny_pure ?_)))))
 replace p3:IsPair g3 TO x b:=p3
 refine wpAny_bind (wpAny_bind (wpAny_onRaise ?_)); show wpAny _ _ (Builtin.SmallTypes.nextOf (.ref i2) >>= _) _ _ _
 refine wpAny_bind (bC (h2.at fun o e=>s3.extBut _ _ D.TOi2.symm (s2.extBut _ _ D.i12.symm (s1.extBut _ _ D.i2z e))) (q2.at fun o e=>s3.extBut _ _ D.l2TO (s2.extBut _ _ D.l2i1 (s1.extBut _ _ D.l2z e))) hy fun g4 r4 s4=>wpAny_pure ?_)
 have p4:IsPair g4 TO x b:=s4.extBut _ _ D.TOi2 p3
 refine wpAny_bind (wpAny_seqItems p4 rfl (wpAny_bind (wpAny_updateSeq_pair p4 fun g5 p5 s5=>wpAny_bind (wpAny_letGo (wpAny_pure (wpAny_pure ?_))))))
 replace p5:IsPair g5 TO x y:=p5
 refine wpAny_bind (wpAny_seqItems p5 rfl (wpAny_bind (wpAny_newTuple ?_)))
 have sz:g5.objs.size = s.heap.objs.size:=by rw [s5.1,s4.1,s3.1,s2.1,s1.1]
 have z5:IsZip g5 z TI TO .ellipsis:=s5.extBut _ _ D.TOz.symm (s4.extBut _ _ D.i2z.symm (s3.extBut _ _ D.TOz.symm (s2.extBut _ _ D.i1z.symm z1)))
 have k5:∀ c o,c ≠ z -> c ≠ TO -> c ≠ i1 -> c ≠ i2 -> s.heap.get? c = some o -> g5.get? c = some o:=fun c o n1 n2 n3 n4 e=>s5.extBut _ _ n2 (s4.extBut _ _ n4 (s3.extBut _ _ n2 (s2.extBut _ _ n3 (s1.extBut _ _ n1 e))))
 have r5:ItO g5 k1 i1 a1 (n + 1):=r2.at fun o e=>s5.extBut _ _ D.TOi1.symm (s4.extBut _ _ D.i12 (s3.extBut _ _ D.TOi1.symm e))
 have t5:ItO g5 k2 i2 a2 (m + 1):=r4.at fun o e=>s5.extBut _ _ D.TOi2.symm e
 have zlt:z < g5.objs.size:=Heap.lt_size z5
 show wpAny _ _ (Builtin.SmallTypes.ownedTupleHandOut (.ref z) (.ref g5.objs.size) >>= _) _ _ _; refine wpAny_bind ?_
 unfold Builtin.SmallTypes.ownedTupleHandOut
 have z6:IsZip (g5.push { cls:=.type "tuple",data:=.seq #[x,y] }) z TI TO .ellipsis:=Heap.get?_push_of_some _ z5
 refine wpAny_bind (wpAny_setField_rec z6 (by simp) fun g7 z7 s7=>?_)
 replace z7:IsZip g7 z TI TO (rawInt g5.objs.size):=z7
 refine wpAny_setField_rec z7 (by simp) fun g8 z8 s8=>?_
 replace z8:IsZip g8 z TI TO (rawInt g5.objs.size):=z8
 have up:∀ c o,c ≠ z -> g5.get? c = some o -> g8.get? c = some o:=fun c o n1 e=>s8.extBut _ _ n1 (s7.extBut _ _ n1 (Heap.get?_push_of_some _ e))
 have p8:IsPair g8 g5.objs.size x y:=s8.extBut _ _ (Nat.ne_of_gt zlt) (s7.extBut _ _ (Nat.ne_of_gt zlt) (Heap.get?_push_size _ rfl))
 have e8:g8.objs.size = g5.objs.size + 1:=by rw [s8.1,s7.1,Heap.size_push]
 rw [sz] at z8 p8 e8
 refine wpAny_pure ⟨_,rfl,?_⟩
 show Q (.ref g5.objs.size) _
 rw [sz]
 exact q g8 z8 (up _ _ D.TOz p5) (r5.at fun o e=>up _ o D.i1z e) (t5.at fun o e=>up _ o D.i2z e) p8 e8 fun c o n1 n2 n3 n4 e=>up c o n1 (k5 c o n1 n2 n3 n4 e)
theorem qt {z TI TO i1 i2 a1 a2:Addr} {k1 k2:Bool} {n m:Nat} {xs ys:Array Value} {a b:Value} {Q:Fin -> Shared -> Prop} (hh:A.handled = none) (D:ZipApart z TI TO i1 i2 a1 a2)
  (hz:IsZip s.heap z TI TO .none) (hI:IsPair s.heap TI (.ref i1) (.ref i2)) (hO:IsPair s.heap TO a b) (h1:ItO s.heap k1 i1 a1 n) (h2:ItO s.heap k2 i2 a2 m) (q1:SqO s.heap k1 a1 xs) (q2:SqO s.heap k2 a2 ys) (hend:xs[n]? = none \/ ys[m]? = none)
  (q:∀ h' e,(∀ c o,c ≠ z -> c ≠ TO -> c ≠ i1 -> c ≠ i2 -> s.heap.get? c = some o -> h'.get? c = some o) -> (∃ o,h'.get? e = some o /\ o.cls = .type "StopIteration") -> E (.ref e) { s with heap:=h' }) :
  wpAny (model prog w) A (Builtin.«zip.__next__» ⟨[.ref z],[]⟩) Q E s:=by
 show wpAny _ _ (field (.ref z) 2 >>= _) _ _ _; refine wpAny_bind (wpAny_field hz rfl (x:=.bool false) rfl ?_)
 show wpAny _ _ (field (.ref z) 3 >>= _) _ _ _; refine wpAny_bind (wpAny_field hz rfl (x:=.ref TI) rfl (wpAny_bind (wpAny_seqItems hI rfl ?_)))
 show wpAny _ _ (Builtin.SmallTypes.ownedTupleIsFree (.ref z) >>= _) _ _ _; refine wpAny_bind ?_
 unfold Builtin.SmallTypes.ownedTupleIsFree
 refine wpAny_bind (wpAny_field hz rfl (x:=.none) rfl (wpAny_pure ?_)); simp only [if_true]
 refine wpAny_bind (wpAny_rule (wpAny_bind (wpAny_field hz rfl (x:=.ref TO) rfl (wpAny_bind (wpAny_setField_rec hz (by simp) fun g1 z1 s1=>?_)))))
 replace z1:IsZip g1 z TI TO .ellipsis:=z1
 refine wpAny_bind ?_; simp only [List.forIn_cons,List.forIn_nil,List.zipIdx_cons,List.zipIdx_nil]
 refine wpAny_bind (wpAny_bind (wpAny_onRaise ?_)); show wpAny _ _ (Builtin.SmallTypes.nextOf (.ref i1) >>= _) _ _ _
 cases hx:xs[n]? with
 | none =>
  refine wpAny_bind (dF hh (h1.at fun o e=>s1.extBut _ _ D.i1z e) (q1.at fun o e=>s1.extBut _ _ D.l1z e) hx fun g2 e s2 he=>?_)
  obtain ⟨oe,ho,ce⟩:=he
  have z2:IsZip g2 z TI TO .ellipsis:=s2 _ _ D.i1z.symm z1
  have ez:e ≠ z:=fun y=>by subst y; rw [z2] at ho; cases ho; simp at ce
  exact wpAny_setField_rec z2 (by simp) fun g3 _ s3=>q g3 e (fun c o n1 _ n3 _ y=>s3.extBut _ _ n1 (s2 _ _ n3 (s1.extBut _ _ n1 y))) ⟨oe,s3.extBut _ _ ez ho,ce⟩
 | some x =>
  have hy:ys[m]? = none:=hend.elim (fun y=>by rw [hx] at y; cases y) id
  refine wpAny_bind (bC (h1.at fun o e=>s1.extBut _ _ D.i1z e) (q1.at fun o e=>s1.extBut _ _ D.l1z e) hx fun g2 r2 s2=>wpAny_pure ?_)
  have p2:IsPair g2 TO a b:=s2.extBut _ _ D.TOi1 (s1.extBut _ _ D.TOz hO)
  refine wpAny_bind (wpAny_seqItems p2 rfl (wpAny_bind (wpAny_updateSeq_pair p2 fun g3 p3 s3=>wpAny_bind (wpAny_letGo (wpAny_pure ?_)))))
  refine wpAny_bind (wpAny_bind (wpAny_onRaise ?_)); show wpAny _ _ (Builtin.SmallTypes.nextOf (.ref i2) >>= _) _ _ _
  refine wpAny_bind (dF hh (h2.at fun o e=>s3.extBut _ _ D.TOi2.symm (s2.extBut _ _ D.i12.symm (s1.extBut _ _ D.i2z e))) (q2.at fun o e=>s3.extBut _ _ D.l2TO (s2.extBut _ _ D.l2i1 (s1.extBut _ _ D.l2z e))) hy fun g4 e s4 he=>?_)
  obtain ⟨oe,ho,ce⟩:=he
  have z4:IsZip g4 z TI TO .ellipsis:=s4 _ _ D.i2z.symm (s3.extBut _ _ D.TOz.symm (s2.extBut _ _ D.i1z.symm z1))
  have ez:e ≠ z:=fun y=>by subst y; rw [z4] at ho; cases ho; simp at ce
  exact wpAny_setField_rec z4 (by simp) fun g5 _ s5=>q g5 e (fun c o n1 n2 n3 n4 y=>s5.extBut _ _ n1 (s4 _ _ n4 (s3.extBut _ _ n2 (s2.extBut _ _ n3 (s1.extBut _ _ n1 y))))) ⟨oe,s5.extBut _ _ ez ho,ce⟩
theorem fX {z TI TO i1 i2 a1 a2:Addr} {k1 k2:Bool} {n m:Nat} {xs ys:Array Value} {x y a b:Value} {Q:Option Value -> Shared -> Prop} (D:ZipApart z TI TO i1 i2 a1 a2)
  (hz:IsZip s.heap z TI TO .none) (hI:IsPair s.heap TI (.ref i1) (.ref i2)) (hO:IsPair s.heap TO a b) (h1:ItO s.heap k1 i1 a1 n) (h2:ItO s.heap k2 i2 a2 m) (q1:SqO s.heap k1 a1 xs) (q2:SqO s.heap k2 a2 ys) (hx:xs[n]? = some x) (hy:ys[m]? = some y)
  (q:∀ h',IsZip h' z TI TO (rawInt s.heap.objs.size) -> IsPair h' TO x y -> ItO h' k1 i1 a1 (n + 1) -> ItO h' k2 i2 a2 (m + 1) -> IsPair h' s.heap.objs.size x y -> h'.objs.size = s.heap.objs.size + 1 ->
   (∀ c o,c ≠ z -> c ≠ TO -> c ≠ i1 -> c ≠ i2 -> s.heap.get? c = some o -> h'.get? c = some o) -> Q (some (.ref s.heap.objs.size)) { s with heap:=h' }):wpAny (model prog w) A (pyNext (.ref z)) Q E s:=by
 have hT:s.TypeIs (.ref z) "zip":=⟨_,hz,rfl⟩
 unfold pyNext
 exact wpAny_bind (wpAny_attempt (wpAny_callSpecial?_slot (name:=Str.ofString "__next__") hT F.slot_zip_next (wpAny_call_entry F.slot_zip_next hT F.entry_zip_next (mL D hz hI hO h1 h2 q1 q2 hx hy fun h' y1 y2 y3 y4 y5 y6 y7=>wpAny_pure (q h' y1 y2 y3 y4 y5 y6 y7)) (F.args_zip_next_1 _))))
theorem ia {z TI TO i1 i2 a1 a2:Addr} {k1 k2:Bool} {n m:Nat} {xs ys:Array Value} {a b:Value} {Q:Option Value -> Shared -> Prop} (hh:A.handled = none) (D:ZipApart z TI TO i1 i2 a1 a2)
  (hz:IsZip s.heap z TI TO .none) (hI:IsPair s.heap TI (.ref i1) (.ref i2)) (hO:IsPair s.heap TO a b) (h1:ItO s.heap k1 i1 a1 n) (h2:ItO s.heap k2 i2 a2 m) (q1:SqO s.heap k1 a1 xs) (q2:SqO s.heap k2 a2 ys) (hend:xs[n]? = none \/ ys[m]? = none)
  (q:∀ h',(∀ c o,c ≠ z -> c ≠ TO -> c ≠ i1 -> c ≠ i2 -> s.heap.get? c = some o -> h'.get? c = some o) -> Q none { s with heap:=h' }):wpAny (model prog w) A (pyNext (.ref z)) Q E s:=by
 have hT:s.TypeIs (.ref z) "zip":=⟨_,hz,rfl⟩
 unfold pyNext
 refine wpAny_bind (wpAny_attempt (wpAny_callSpecial?_slot (name:=Str.ofString "__next__") hT F.slot_zip_next (wpAny_call_entry F.slot_zip_next hT F.entry_zip_next (qt hh D hz hI hO h1 h2 q1 q2 hend fun h' e hk he=>?_) (F.args_zip_next_1 _))))
 obtain ⟨o,ho,hc⟩:=he
 exact wpAny_bind (wpAny_isInstance (T:="StopIteration") (b:=true) ⟨o,ho,hc⟩ isSubtype_stop (wpAny_pure (q _ hk)))
end
def iZ (k:Bool) (a:Addr):Obj:=match k with
 | true=>{ cls:=.type "tuple_iterator",data:=.fields #[.ref a,.int 0 0] }
 | false=>{ cls:=.type "list_iterator",data:=.fields #[.ref a,.int 0 0] }
abbrev zO1 (h:Heap) (k1:Bool) (a1:Addr):Heap:=h.push (iZ k1 a1)
abbrev zO2 (h:Heap) (k1 k2:Bool) (a1 a2:Addr):Heap:=(zO1 h k1 a1).push (iZ k2 a2)
abbrev zO3 (h:Heap) (k1 k2:Bool) (a1 a2:Addr):Heap:=(zO2 h k1 k2 a1 a2).push { cls:=.type "tuple",data:=.seq #[.ref h.objs.size,.ref (zO1 h k1 a1).objs.size] }
abbrev zO4 (h:Heap) (k1 k2:Bool) (a1 a2:Addr):Heap:=(zO3 h k1 k2 a1 a2).push { cls:=.type "tuple",data:=.seq #[.none,.none] }
abbrev zO5 (h:Heap) (k1 k2:Bool) (a1 a2:Addr):Heap:=(zO4 h k1 k2 a1 a2).push { cls:=.type "zip",data:=.fields #[.none,.bool false,.bool false,.ref (zO2 h k1 k2 a1 a2).objs.size,.ref (zO3 h k1 k2 a1 a2).objs.size] }
theorem kM (k1 k2:Bool) (a1 a2:Addr) (xs ys:Array Value) :
  Meets (Builtin.«zip.__new__» ⟨[.type "zip",.ref a1,.ref a2],[]⟩) (fun _ R s=>SqO s.heap k1 a1 xs /\ SqO s.heap k2 a2 ys /\ R (.ok (.ret (.ref (zO4 s.heap k1 k2 a1 a2).objs.size))) { s with heap:=zO5 s.heap k1 k2 a1 a2 }) :=
 .of_wp fun prog w A R s h=>by
  obtain ⟨hp,g,d,tk,os⟩:=s; obtain ⟨q1,q2,h⟩:=h
  have hsub:=sub_zip
  cases k1 <;> cases k2
  ·have e1:Heap.IsList (Shared.heap ⟨hp,g,d,tk,os⟩) a1 xs:=q1
   have e2:Heap.IsList (Shared.heap ⟨hp.push { cls:=.type "list_iterator",data:=.fields #[.ref a1,.int 0 0] },g,d,tk,os⟩) a2 ys:=Heap.IsList.push q2 _
   wp_walk using wpAny_pyIter_list e1,wpAny_pyIter_list e2
   exact ⟨_,rfl,h⟩
  ·have e1:Heap.IsList (Shared.heap ⟨hp,g,d,tk,os⟩) a1 xs:=q1
   have e2:Heap.IsTuple (Shared.heap ⟨hp.push { cls:=.type "list_iterator",data:=.fields #[.ref a1,.int 0 0] },g,d,tk,os⟩) a2 ys:=Heap.IsTuple.push q2 _
   wp_walk using wpAny_pyIter_list e1,wpAny_pyIter_tuple e2
   exact ⟨_,rfl,h⟩
  ·have e1:Heap.IsTuple (Shared.heap ⟨hp,g,d,tk,os⟩) a1 xs:=q1
   have e2:Heap.IsList (Shared.heap ⟨hp.push { cls:=.type "tuple_iterator",data:=.fields #[.ref a1,.int 0 0] },g,d,tk,os⟩) a2 ys:=Heap.IsList.push q2 _
   wp_walk using wpAny_pyIter_tuple e1,wpAny_pyIter_list e2
   exact ⟨_,rfl,h⟩
  ·have e1:Heap.IsTuple (Shared.heap ⟨hp,g,d,tk,os⟩) a1 xs:=q1
   have e2:Heap.IsTuple (Shared.heap ⟨hp.push { cls:=.type "tuple_iterator",data:=.fields #[.ref a1,.int 0 0] },g,d,tk,os⟩) a2 ys:=Heap.IsTuple.push q2 _
   wp_walk using wpAny_pyIter_tuple e1,wpAny_pyIter_tuple e2
   exact ⟨_,rfl,h⟩
theorem lQ {h:Heap} {k:Bool} {it a:Addr} (e:h.get? it = some (iZ k a)):ItO h k it a 0:=by
 cases k <;> exact ⟨_,e,rfl,rfl⟩
theorem gO (k:Bool) (a:Addr):(iZ k a).isFreed = false:=by cases k <;> rfl
section
variable {prog:Program} {w:World} {A:Around} {E:Value -> Shared -> Prop} {s:Shared}
theorem lJ {k1 k2:Bool} {a1 a2:Addr} {xs ys:Array Value} {Q:Value -> Shared -> Prop} (q1:SqO s.heap k1 a1 xs) (q2:SqO s.heap k2 a2 ys)
  (h:∀ h',IsZip h' (s.heap.objs.size + 4) (s.heap.objs.size + 2) (s.heap.objs.size + 3) .none -> IsPair h' (s.heap.objs.size + 2) (.ref s.heap.objs.size) (.ref (s.heap.objs.size + 1)) ->
   IsPair h' (s.heap.objs.size + 3) .none .none -> ItO h' k1 s.heap.objs.size a1 0 -> ItO h' k2 (s.heap.objs.size + 1) a2 0 -> (∀ c o,s.heap.get? c = some o -> h'.get? c = some o) -> Q (.ref (s.heap.objs.size + 4)) { s with heap:=h' }) :
  wpAny (model prog w) A (call (.type "zip") [.ref a1,.ref a2]) Q E s:=by
 refine callType_new F.called_zip (by decide) (F.typeCall_zip_2 _ _) (F.newCall_zip_2 _ _) (fun obj=>F.args_object_init_3 obj _ _) F.entry_zip_new (kM k1 k2 a1 a2 xs ys) ⟨q1,q2,?_⟩
 have e1:(zO1 s.heap k1 a1).objs.size = s.heap.objs.size + 1:=Heap.size_push ..
 have e2:(zO2 s.heap k1 k2 a1 a2).objs.size = s.heap.objs.size + 2:=by rw [Heap.size_push,e1]
 have e3:(zO3 s.heap k1 k2 a1 a2).objs.size = s.heap.objs.size + 3:=by rw [Heap.size_push,e2]
 have e4:(zO4 s.heap k1 k2 a1 a2).objs.size = s.heap.objs.size + 4:=by rw [Heap.size_push,e3]
 have g5:(zO5 s.heap k1 k2 a1 a2).get? (zO4 s.heap k1 k2 a1 a2).objs.size = some _:=Heap.get?_push_size _ rfl
 have g4:(zO5 s.heap k1 k2 a1 a2).get? (zO3 s.heap k1 k2 a1 a2).objs.size = some _:=Heap.get?_push_of_some _ (Heap.get?_push_size _ rfl)
 have g3:(zO5 s.heap k1 k2 a1 a2).get? (zO2 s.heap k1 k2 a1 a2).objs.size = some _:=Heap.get?_push_of_some _ (Heap.get?_push_of_some _ (Heap.get?_push_size _ rfl))
 have g2:(zO5 s.heap k1 k2 a1 a2).get? (zO1 s.heap k1 a1).objs.size = some (iZ k2 a2):=Heap.get?_push_of_some _ (Heap.get?_push_of_some _ (Heap.get?_push_of_some _ (Heap.get?_push_size _ (gO k2 a2))))
 have g1:(zO5 s.heap k1 k2 a1 a2).get? s.heap.objs.size = some (iZ k1 a1):=Heap.get?_push_of_some _ (Heap.get?_push_of_some _ (Heap.get?_push_of_some _ (Heap.get?_push_of_some _ (Heap.get?_push_size _ (gO k1 a1)))))
 show _ /\ _
 rw [e2,e3,e4] at g5
 rw [e1,e2] at g3
 rw [e3] at g4
 rw [e1] at g2
 rw [e4]
 exact ⟨⟨_,g5,rfl⟩,h _ g5 g3 g4 (lQ g1) (lQ g2) fun c o x=>Heap.get?_push_of_some _ (Heap.get?_push_of_some _ (Heap.get?_push_of_some _ (Heap.get?_push_of_some _ (Heap.get?_push_of_some _ x))))⟩
end
end L3
namespace L3
open PySem PySem.Spec PyProof.Rows L2
def Sq (K:PySem.W.Frag) (H:Hp):Bool -> Addr -> List V -> Prop
 | true,a,xs=>SqT K H a xs
 | false,a,xs=>SqL K H a xs
section
variable {X:Cx} {pins:List (Addr × Obj)} {σ:L2.St} {H:Hp} {s:Shared}
theorem j1 (I:Inv X pins σ H s) {k:Bool} {a:Addr} {xs:List V} (h:Sq X.K H k a xs):∃ its:List Value,Vals xs its /\ SqO s.heap k a its.toArray /\ xs.length <= sizeLine:=by
 cases k with
 | true=>obtain ⟨its,r,p,z⟩:=I.tuple h; exact ⟨its,r,p,z⟩
 | false=>obtain ⟨its,r,p,z⟩:=I.list h; exact ⟨its,r,p.isList,z⟩
theorem mh (I:Inv X pins σ H s) {k:Bool} {a:Addr} {xs ys:List V} (h:Sq X.K H k a xs) (h':Sq X.K H k a ys):xs = ys:=by
 cases k with
 | true=>exact I.tuple_inj h h'
 | false=>exact I.list_inj h h'
theorem gb {h':Heap} {ch:List Addr} (I:Inv X pins σ H s) (hf:∀ b ∈ ch,H b = none) (k:∀ b o,b ∉ ch -> s.heap.get? b = some o -> h'.get? b = some o):HOk X.prog X.w H h':=fun b u e=>by
 have nit:∀ b u,H b = some u -> b ∉ ch:=fun b u e z=>by rw [hf b z] at e; cases e
 refine (I.hok b u e).stay (fun c v hc q=>k c v ?_ q) (fun _ q=>q) fun _ _ q=>q
 rcases hc with z | z
 ·rw [z]; exact nit b u e
 ·exact nit c _ z
theorem gz {h':Heap} {t':Nat} {ch:List Addr} (I:Inv X pins σ H s) (hf:∀ b ∈ ch,fW X pins H b) (k:∀ b o,b ∉ ch -> s.heap.get? b = some o -> h'.get? b = some o):Inv X pins σ H { s with heap:=h',toks:=t' }:=by
 refine I.step (g':=s.gens) (d':=s.drawn) (ch:=ch) (fun b hb=>⟨(hf b hb).2.2.2.1,(hf b hb).2.1,(hf b hb).2.2.2.2.1,(hf b hb).2.2.2.2.2⟩) (fun b o _ _ hc e _=>k b o hc e) (fun b o _ _ hc e _=>⟨o.slots,k b o hc e⟩) (fun _ _ _ _ n=>n)
  (fun b o hc e=>⟨o,k b o hc e⟩) (fun _ _ e=>e) (fun _ _ _ e=>e) (fun b ps e=>⟨#[],by rw [e]; simp⟩) (fun m hm=>?_) (gb I (fun b hb=>(hf b hb).1) k) I.bare
 obtain ⟨o,es,ep,ho,r⟩:=hm
 exact ⟨o,es,ep,k _ o (fun z=>(hf _ z).2.1 rfl) ho,r⟩
theorem dn {h':Heap} {t':Nat} {ch:List Addr} {a:Addr} {ys:List V} {its:List Value} (I:Inv X pins σ H s) (hf:∀ b ∈ ch,fW X pins H b) (k:∀ b o,b ∉ ch -> s.heap.get? b = some o -> h'.get? b = some o)
  (ha:s.heap.objs.size <= a) (hz:ys.length <= sizeLine) (hv:Vals ys its) (ht:IsTup h' a its.toArray):Inv X pins σ (upd H a (.tup ys)) { s with heap:=h',toks:=t' }:=by
 have fr:H a = none:=I.hok.fresh ha
 have na:∀ b o,s.heap.get? b = some o -> b ≠ a:=fun b o e=>Nat.ne_of_lt (Nat.lt_of_lt_of_le (Heap.lt_size e) ha)
 refine I.step (g':=s.gens) (d':=s.drawn) (ch:=ch) (fun b hb=>⟨(hf b hb).2.2.2.1,(hf b hb).2.1,(hf b hb).2.2.2.2.1,(hf b hb).2.2.2.2.2⟩) (fun b o _ _ hc e _=>k b o hc e) (fun b o _ _ hc e _=>⟨o.slots,k b o hc e⟩) (fun b o _ e n=>by rw [ag (na b o e)]; exact n)
  (fun b o hc e=>⟨o,k b o hc e⟩) (fun b u e=>by rw [ag (aE e fr)]; exact e) (fun b o u e=>by rw [ag (aE e fr)]; exact e) (fun b ps e=>⟨#[],by rw [ag (aE e fr),e]; simp⟩) (fun m hm=>?_)
  (gR (gb I (fun b hb=>(hf b hb).1) k) fr ⟨hz,its,hv,ht⟩) I.bare
 obtain ⟨o,es,ep,ho,r⟩:=hm
 exact ⟨o,es,ep,k _ o (fun z=>(hf _ z).2.1 rfl) ho,r⟩
end
def Itz (K:PySem.W.Frag) (k1 k2:Bool) (a1 a2:Addr):It :=
 ⟨fun i H=>∃ xs ys x y,Sq K H k1 a1 xs /\ Sq K H k2 a2 ys /\ xs[i]? = some x /\ ys[i]? = some y,
  fun i H v H'=>∃ p x y,v = .ref p /\ H p = none /\ H' = upd H p (.tup [x,y]) /\ (∀ xs,Sq K H k1 a1 xs -> xs[i]? = some x) /\ ∀ ys,Sq K H k2 a2 ys -> ys[i]? = some y,
  fun i H=>∃ xs ys,Sq K H k1 a1 xs /\ Sq K H k2 a2 ys /\ (xs.length <= i \/ ys.length <= i)⟩
def ZSt (z TI TO i1 i2:Addr) (k1 k2:Bool) (a1 a2:Addr) (i:Nat) (h:Heap):Prop :=
 IsZip h z TI TO .none /\ IsPair h TI (.ref i1) (.ref i2) /\ (∃ a b,IsPair h TO a b) /\ ItO h k1 i1 a1 i /\ ItO h k2 i2 a2 i
theorem qh {P:Program} {w:World} {K:PySem.W.Frag} {es:List Expr} {kt:Nat} {pt:Pos} {z TI TO i1 i2 a1 a2:Addr} {k1 k2:Bool} (D:ZipApart z TI TO i1 i2 a1 a2) :
  mZ P w K (.Tuple es kt pt) (Itz K k1 k2 a1 a2) [z,TI,TO,i1,i2] z (ZSt z TI TO i1 i2 k1 k2 a1 a2) where
 mem:=by simp
 obj:=fun i h st b hb=>by
  obtain ⟨q1,q2,⟨a,c,q3⟩,q4,q5⟩:=st
  simp only [List.mem_cons,List.not_mem_nil,or_false] at hb
  rcases hb with rfl | rfl | rfl | rfl | rfl
  ·exact ⟨_,q1,fun v y=>by cases y⟩
  ·exact ⟨_,q2,fun v y=>by cases y⟩
  ·exact ⟨_,q3,fun v y=>by cases y⟩
  ·exact q4.obj
  ·exact q5.obj
 keep:=fun i h h' st k=>by
  obtain ⟨q1,q2,⟨a,c,q3⟩,q4,q5⟩:=st
  exact ⟨k z (by simp) _ q1,k TI (by simp) _ q2,⟨a,c,k TO (by simp) _ q3⟩,q4.at fun o e=>k i1 (by simp) o e,q5.at fun o e=>k i2 (by simp) o e⟩
 item:=by
  intro X hP hw hK hc i pins s σ H E I hf st hg
  subst hP hw hK
  obtain ⟨xs,ys,x,y,s1,s2,hx,hy⟩:=hg
  obtain ⟨q1,q2,⟨a,c,q3⟩,q4,q5⟩:=st
  obtain ⟨its1,v1,o1,z1⟩:=j1 I s1
  obtain ⟨its2,v2,o2,z2⟩:=j1 I s2
  obtain ⟨u1,e1,r1⟩:=v1.get hx
  obtain ⟨u2,e2,r2⟩:=v2.get hy
  have lt:∀ b ∈ [z,TI,TO,i1,i2],b < s.heap.objs.size:=fun b hb=>by
   simp only [List.mem_cons,List.not_mem_nil,or_false] at hb
   rcases hb with rfl | rfl | rfl | rfl | rfl
   ·exact Heap.lt_size q1
   ·exact Heap.lt_size q2
   ·exact Heap.lt_size q3
   ·obtain ⟨o,e,_⟩:=q4.obj; exact Heap.lt_size e
   ·obtain ⟨o,e,_⟩:=q5.obj; exact Heap.lt_size e
  refine fX D q1 q2 q3 q4 q5 o1 o2 (x:=u1) (y:=u2) (by simpa using e1) (by simpa using e2) fun h' y1 y2 y3 y4 y5 y6 y7=>⟨_,rfl,?_⟩
  refine wpAny_letOwnedTupleGo_zip (s:={ s with heap:=h' }) y1 fun h2 w1 sb=>?_
  have sb':Heap.SameBut z h' h2:=sb
  have nz:s.heap.objs.size ≠ z:=Nat.ne_of_gt (lt z (by simp))
  have kk:∀ b o,b ∉ [z,TI,TO,i1,i2] -> s.heap.get? b = some o -> h2.get? b = some o:=fun b o hb e=>by
   simp only [List.mem_cons,List.not_mem_nil,or_false,not_or] at hb
   exact (sb'.2 b hb.1).trans (y7 b o hb.1 hb.2.2.1 hb.2.2.2.1 hb.2.2.2.2 e)
  have tp:IsTup h2 s.heap.objs.size [u1,u2].toArray:=⟨_,(sb'.2 _ nz).trans y5,rfl,_,rfl⟩
  refine ⟨.ref s.heap.objs.size,upd H s.heap.objs.size (.tup [x,y]),dn (s:=s) (t':=s.toks) I hf kk (Nat.le_refl _) (by show 2 <= sizeLine; decide) (.cons r1 (.cons r2 .nil)) tp,rfl,
   ⟨_,x,y,rfl,I.fresh,rfl,fun zs hz=>by rw [mh I hz s1]; exact hx,fun zs hz=>by rw [mh I hz s2]; exact hy⟩,?_,fun b hb=>?_⟩
  ·exact ⟨w1,(sb'.2 _ D.TIz).trans (y7 _ _ D.TIz D.TITO D.TIi1 D.TIi2 q2),⟨_,_,(sb'.2 _ D.TOz).trans y2⟩,y3.at fun o e=>(sb'.2 _ D.i1z).trans e,y4.at fun o e=>(sb'.2 _ D.i2z).trans e⟩
  ·rw [ag (Nat.ne_of_lt (lt b hb))]; exact (hf b hb).1
 done:=by
  intro X hP hw hK hc i pins s σ H E I hf st hg
  subst hP hw hK
  obtain ⟨xs,ys,s1,s2,hl⟩:=hg
  obtain ⟨q1,q2,⟨a,c,q3⟩,q4,q5⟩:=st
  obtain ⟨its1,v1,o1,z1⟩:=j1 I s1
  obtain ⟨its2,v2,o2,z2⟩:=j1 I s2
  have l1:=v1.length
  have l2:=v2.length
  refine ia (I.ok.hd hc) D q1 q2 q3 q4 q5 o1 o2 (hl.imp (fun q=>by simp; omega) fun q=>by simp; omega) fun h' hk=>⟨rfl,gz (t':=s.toks) I hf fun b o hb e=>?_⟩
  simp only [List.mem_cons,List.not_mem_nil,or_false,not_or] at hb
  exact hk b o hb.1 hb.2.2.1 hb.2.2.2.1 hb.2.2.2.2 e
 self:=fun _ _ _ _ _ st h=>wpAny_pyIter_zip st.1 h
section
variable {X:Cx}
def AU (K:PySem.W.Frag) (ta:TA):TI:=fun σ H R=>ta σ H fun vs H1=>∃ k1 k2 a1 a2,vs = [.ref a1,.ref a2] /\ (∃ xs,Sq K H1 k1 a1 xs) /\ (∃ ys,Sq K H1 k2 a2 ys) /\ R (Itz K k1 k2 a1 a2) H1
theorem zr {a b:Expr} {ta:TA} {p pos pt:Pos} {es:List Expr} {kt:Nat} (hg:Gl X "zip") (hm:X.mg "zip" = none) (ha:PA X [a,b] ta) (hs:starEach [a,b] X.env = [(false,eval a X.env),(false,eval b X.env)]:=by rfl) (hs2:starEach [b] X.env = [(false,eval b X.env)]:=by rfl) :
  PI X (.Tuple es kt pt) (.Call (.Name "zip" p) [a,b] [] pos) (AU X.K ta):=by
 intro pins s σ H R I h
 refine Call_ (dz I hg hm boot_zip (PyProof.Rows.callWith_type1 (thn (ha pos pins s σ H _ I h) fun us s1 ⟨vs,H1,I1,r1,q1⟩=>?_) (by rw [hs,hs2]) (by rw [hs2]; rfl)))
 obtain ⟨k1,k2,a1,a2,rfl,⟨xs,s1'⟩,⟨ys,s2'⟩,q⟩:=q1
 cases r1 with
 | cons r rr =>
  cases rr with
  | cons r' rr =>
   cases rr
   cases r
   cases r'
   obtain ⟨its1,v1,o1,z1⟩:=j1 I1 s1'
   obtain ⟨its2,v2,o2,z2⟩:=j1 I1 s2'
   refine lJ o1 o2 fun h' q1 q2 q3 q4 q5 kk=>?_
   refine wpAny_pyIter_zip (s:={ s1 with heap:=h' }) q1 ?_
   refine ⟨_,_,_,_,H1,rfl,I1.kept (t':=s1.toks) kk,qh (zipApart_new o1.lt o2.lt),⟨q1,q2,⟨_,_,q3⟩,q4,q5⟩,fun b hb=>?_,q⟩
   have hle:s1.heap.objs.size <= b:=by
    simp only [List.mem_cons,List.not_mem_nil,or_false] at hb
    rcases hb with e | e | e | e | e <;> (rw [e]; first | exact Nat.le_add_right _ _ | exact Nat.le_refl _)
   exact I1.fpOk hle (I1.hok.fresh hle)
end
structure aq (pre ys:List Str) (scope:Scope):Prop where
 kind:scope.kind = .function
 cell:∀ y ∈ scope.names,y.2 ≠ .cell
 nm:∀ y ∈ scope.names,y.2 = .local -> scope.names.lookup y.1 = some .local
 loc:∀ x ∈ pre,scope.names.lookup x = some .local
 nd:(pre ++ ys).Nodup
theorem qz {pre:List Str} {τ:L2.St} {j:Nat} {v:V} (e:(List.replicate pre.length none ++ τ)[j]? = some (some v)):∃ i,j = pre.length + i /\ τ[i]? = some (some v):=by
 by_cases hj:j < pre.length
 ·rw [List.getElem?_append_left (by rw [List.length_replicate]; exact hj),List.getElem?_replicate,if_pos hj] at e
  cases Option.some.inj e
 ·refine ⟨j - pre.length,by omega,?_⟩
  rw [List.getElem?_append_right (by rw [List.length_replicate]; omega),List.length_replicate] at e
  exact e
theorem mF {X:Cx} {pins:List (Addr × Obj)} {σ:L2.St} {H:Hp} {s:Shared} {pre ys:List Str} {is:List Nat} {scope:Scope} {cl:List (Str × Addr)} {fp:List Addr} {C:Addr} {h1:Heap} {t1:Nat} {m1:Str -> Option Value}
  (I:Inv X pins σ H s) (hf:∀ b ∈ fp,fW X pins H b) (hfo:∀ b ∈ fp,b < s.heap.objs.size) (S:aq pre ys scope) (hcl:Clo X cl)
  (hfr:(scope.names.all fun p=>p.2 != .free || (cl.lookup p.1).isSome) = true) (fr:Frees X scope cl ys is)
  (hC:s.heap.objs.size <= C) (old:∀ b o,s.heap.get? b = some o -> h1.get? b = some o) (hn:h1.Ns C m1) :
  Inv (aj X (pre ++ ys) scope cl C s H fp) pins (List.replicate pre.length none ++ br σ is) H { s with heap:=h1,toks:=t1 }:=by
 have stk:∀ b,b ≠ X.env.locals -> b ∉ X.fs -> b ∉ frs X.stack:=fun b q1 q2 hb=>(List.mem_cons.mp (I.stkSub b hb)).elim q1 q2
 have key:∀ a k,(relabel scope X.env).names.lookup a = some k -> (k = .cell \/ k = .free) -> ∃ c,cl.lookup a = some c:=fun a k e hk=>by
  have hm:=PySem.mem_of_lookup e
  obtain ⟨⟨n,k0⟩,hp,ep⟩:=List.mem_map.mp hm
  have hk0:k0 = .free /\ n = a:=by
   dsimp only at ep
   split at ep
   ·rename_i hc
    simp only [Bool.and_eq_true] at hc
    exact ⟨eq_of_beq hc.1.1,(Prod.mk.inj ep).1⟩
   ·obtain ⟨e1,e2⟩:=Prod.mk.inj ep
    subst e2
    rcases hk with z | z
    ·exact absurd z (S.cell _ hp)
    ·exact ⟨z,e1⟩
  obtain ⟨z1,z2⟩:=hk0
  subst z1 z2
  have q:=List.all_eq_true.mp hfr _ hp
  have q2:(cl.lookup n).isSome = true:=by simpa using q
  exact Option.isSome_iff_exists.mp q2
 refine ⟨⟨I.ok.mod,S.kind,I.ok.glob,I.ok.blt,hC,fun a b c e1 e2=>I.ok.inj a b c (hcl.get e1) (hcl.get e2),fun a ha=>?_,fun a c e=>absurd e Bool.false_ne_true,I.ok.hd,I.ok.frames,.inl rfl,
   fun b hb=>⟨Nat.ne_of_lt (Nat.lt_of_lt_of_le (hfo b hb) hC),fun a c e=>(hf b hb).2.2.2.2.1 a c (hcl.get e)⟩,I.bs,Nat.le_trans I.ok.bsz I.sz,fun b o e hb=>?_,fun b hb=>stk b (hf b hb).2.1 (hf b hb).2.2.1,I.stack,I.stkFree⟩,
  rfl,I.bare,Un.kept old,⟨m1,hn,fun j y v e1 e2 e3=>?_⟩,fun a c e=>?_,I.hok.fresh hC,fun a c e=>I.freeC a c (hcl.get e),fun p hp=>?_,I.hok.kept old,?_⟩
 ·rcases ha with e | e
  ·exact key a _ e (.inl rfl)
  ·exact key a _ e (.inr rfl)
 ·rcases (hf b hb).2.2.2.1 with z | z
  ·exact I.ok.noex b o e z
  ·exact absurd (Nat.lt_of_lt_of_le (Heap.lt_size (I.ok.bs b o e).1) z) (Nat.lt_irrefl _)
 ·obtain ⟨k,rfl,e2'⟩:=qz e2
  have e1':ys[k]? = some y:=by
   have e1'':(pre ++ ys)[pre.length + k]? = some y:=e1
   rw [List.getElem?_append_right (by omega),Nat.add_sub_cancel_left] at e1''
   exact e1''
  obtain ⟨i,c,g1,g2,g3,g4,g5,g6,g7⟩:=fr.get (σ:=σ) e1' e2'
  obtain ⟨m0,hn0,hl0⟩:=I.loc
  obtain ⟨u,r,l⟩:=hl0 i y v g1 g2 g3
  rcases l with ⟨k,_⟩ | ⟨_,c',e',z⟩
  ·rcases g4 with q | q
   ·rw [k] at q; cases q
   ·rw [k] at q; cases q
  ·rw [g5] at e'
   cases e'
   obtain ⟨o,ho,hd⟩:=z
   exact ⟨u,r,.inr ⟨g7,c,g6,⟨o,old _ _ ho,hd⟩⟩⟩
 ·obtain ⟨v,o,ho,hd⟩:=I.cell a c (hcl.get e)
  exact ⟨v,o,old _ _ ho,hd⟩
 ·obtain ⟨e,n,ne,nf,d⟩:=I.pin p hp
  exact ⟨old _ _ e,n,Nat.ne_of_lt (Nat.lt_of_lt_of_le (Heap.lt_size e) hC),stk _ ne nf,d⟩
 ·show (List.replicate pre.length none ++ br σ is).length = (pre ++ ys).length
  unfold br
  rw [List.length_append,List.length_append,List.length_replicate,List.length_map,fr.len]
def uQ (K:PySem.W.Frag) (J:It) (te:TE) (σ':L2.St) (H1:Hp) (Q:VK):Prop:=∃ W:Nat -> Nat -> List V -> Hp -> Prop,(∃ m,W 0 m [] H1) /\ ∀ i m ys H,W i m ys H ->
 (J.stop i H /\ ys.length <= sizeLine /\ ∀ p,H p = none -> Q (.ref p) (upd H p (.lst ys))) \/
 (J.go i H /\ ys.length < sizeLine /\ ∀ v H',J.yld i H v H' -> ∃ p a b,v = .ref p /\ SqT K H' p [a,b] /\ te (some a :: some b :: σ') H' fun y H2=>∃ m',m' < m /\ W (i + 1) m' (ys ++ [y]) H2)
def BE (K:PySem.W.Frag) (wi:TI) (is:List Nat) (te:TE):TE:=fun σ H Q=>wi σ H fun J H1=>uQ K J te (br σ is) H1 Q
end L3
namespace L3
open PySem PySem.Spec PyProof.Rows L2
end L3
namespace L3
open PySem PySem.Spec PyProof.Rows L2
structure FunD (K:PySem.W.Frag) (x qual:Str) (st:Stmt) (f:Addr) (fd:FuncData) (dV:Value):Prop where
 ex:∃ (oc:Value) (od:Option Addr) (kV doc pm:Value) (an:Option Addr) (cdv ct:Value) (osl:Array (Option Value)),
  fd = PySem.W.fnOf x qual (defArgs st) (defBody st) (defScope st) dV kV doc pm an cdv ct /\ K.lookup f = some ⟨oc,od,.func fd,osl⟩ /\ PySem.W.codeIn K cdv qual = true
 kp:PySem.W.keepIn K (.ref f) = true
section
variable {P:Program} {w:World} {K:PySem.W.Frag} {mg:Str -> Option Value} {base:Heap}
theorem FunD.ok {x qual:Str} {st:Stmt} {f:Addr} {fd:FuncData} {dV:Value} {N ps:List Str} {k:Nat} {sp:Sp} (F:FunD K x qual st f fd dV) (S:ai N ps (defScope st)) (len:∀ vs H Q E,sp vs H Q E -> vs.length = ps.length)
  (hb:∀ (cdv:Value) (A:Around) (outer:List Env) (s:Shared) (H:Hp) (vs:List V) (Q:VK) (E:XK),Room k (A.deeper (envOfC qual (defScope st) s.heap.objs.size f cdv)) -> sp vs H Q E ->
   ∃ t,PSs (eL CX0 P w K mg base N qual (defScope st) f cdv A outer s H E).nox (defBody st) t /\ t { nx:=fun _ H'=>Q .non H',rt:=Q } (start N vs) H):FnOk P w K mg base CX0 (k + 1) f fd ps sp:=by
 obtain ⟨oc,od,kV,doc,pm,an,cdv,ct,osl,rfl,lk,hcd⟩:=F.ex
 exact vk lk hcd S len fun A outer s H vs Q E hr hsp=>let ⟨t,h,q⟩:=hb cdv A outer s H vs Q E hr hsp; ⟨t,h.nox,q⟩
theorem FunD.binds {x qual:Str} {st:Stmt} {f:Addr} {fd:FuncData} {T:Addr} {o:Obj} {n:Nat} {its:Array Value} {ps:List Str} {ds:List Value} (F:FunD K x qual st f fd (.ref T)) (ho:K.lookup T = some o) (hs:o.data = .seq its n)
  (h:∀ (kV doc pm:Value) (an:Option Addr) (cdv ct:Value) (us:List Value),(us ++ ds).length = ps.length -> ∃ k:Option (Array Value) -> Sem (List (Str × Value)),bindArgs (PySem.W.fnOf x qual (defArgs st) (defBody st) (defScope st) (.ref T) kV doc pm an cdv ct) ⟨us,[]⟩ = seqItems? (.ref T) >>= k /\ k (some its) = pure (ps.zip (us ++ ds))):Binds K fd ps ds:=by
 obtain ⟨oc,od,kV,doc,pm,an,cdv,ct,osl,rfl,lk,hcd⟩:=F.ex
 intro s us KX hl
 obtain ⟨k,h1,h2⟩:=h kV doc pm an cdv ct us hl
 exact PySem.W.binds_K KX rfl ho hs h1 h2
theorem sv {x qual:Str} {st:Stmt} {f:Addr} {oc dV:Value} {od an:Option Addr} {osl:Array (Option Value)} {kV doc pm cdv ct:Value} (l:K.lookup f = some ⟨oc,od,.func (PySem.W.fnOf x qual (defArgs st) (defBody st) (defScope st) dV kV doc pm an cdv ct),osl⟩)
  (c:PySem.W.codeIn K cdv qual = true) (k:PySem.W.keepIn K (.ref f) = true):FunD K x qual st f (PySem.W.fnOf x qual (defArgs st) (defBody st) (defScope st) dV kV doc pm an cdv ct) dV:=⟨⟨oc,od,kV,doc,pm,an,cdv,ct,osl,rfl,l,c⟩,k⟩
end
end L3
namespace L3
open PySem PySem.Spec PyProof.Rows L2
section
variable {X:Cx}
theorem nG:cX X (.type "range") (fun xs H Q=>∃ i j,xs = [.int i,.int j] /\ ∀ p,H p = none -> Q (.ref p) (upd H p (.rng i j))):=by
 intro pins s σ H xs us Q I r h
 obtain ⟨i,j,rfl,q⟩:=h
 obtain ⟨u,w',rfl,⟨t,rfl⟩,⟨t',rfl⟩⟩:=jE r
 refine call_range_2 ?_
 exact ⟨.ref s.heap.objs.size,upd H s.heap.objs.size (.rng i j),I.laid (t':=s.toks + 1) (fun _ _ e=>Heap.get?_push_of_some _ e) (Nat.le_refl _) ⟨_,_,_,Heap.get?_push_size _ rfl⟩,rfl,q _ I.fresh⟩
theorem lC {lo:Int} {acc:Array Value} {n:Nat} (h:ItemsOf (fun (i:Nat) (v:Value)=>∃ t,v = Value.int (lo + (i:Int) * 1) t) acc n):Vals ((List.range n).map fun (k:Nat)=>V.int (lo + (k:Int))) acc.toList:=by
 have key:∀ (l:List Value) (m:Nat),l.length + m = n -> (∀ j v,l[j]? = some v -> ∃ t,v = Value.int (lo + ((m + j:Nat):Int)) t) -> Vals ((List.range' m l.length).map fun (k:Nat)=>V.int (lo + (k:Int))) l:=by
  intro l
  induction l with
  | nil=>intro m _ _; exact .nil
  | cons v l ih =>
   intro m hm hv
   obtain ⟨t,e⟩:=hv 0 v rfl
   rw [List.length_cons,List.range'_succ,List.map_cons]
   refine .cons ⟨t,by rw [e]; rfl⟩ (ih (m + 1) (by rw [List.length_cons] at hm; omega) fun j v' hj=>?_)
   obtain ⟨t',e'⟩:=hv (j + 1) v' hj
   exact ⟨t',by rw [e',show m + (j + 1) = m + 1 + j by omega]⟩
 have hl:acc.toList.length = n:=by rw [Array.length_toList]; exact h.1
 have:=key acc.toList 0 (by omega) fun j v hj=>by
  obtain ⟨t,e⟩:=h.2 j v (by simpa using hj)
  exact ⟨t,by rw [e,Int.mul_one,Nat.zero_add]⟩
 rw [hl] at this
 rw [List.range_eq_range']
 exact this
theorem km (hc:X.calm = true):cX X (.type "list") (fun xs H Q=>∃ p i j,xs = [.ref p] /\ H p = some (.rng i j) /\ (-(2 ^ 62) <= i /\ i < 2 ^ 62 /\ -(2 ^ 62) <= j /\ j < 2 ^ 62) /\ (j - i).toNat <= sizeLine /\ ∀ l,H l = none -> Q (.ref l) (upd H l (.lst ((List.range (j - i).toNat).map fun (k:Nat)=>V.int (i + (k:Int)))))):=by
 intro pins s σ H xs us Q I r h
 obtain ⟨p,i,j,rfl,hp,⟨b1,b2,b3,b4⟩,hz,q⟩:=h
 obtain ⟨u,rfl,ru⟩:=jD r
 cases ru
 obtain ⟨t,u,v,e⟩:=I.hok p _ hp
 refine call_list_range (I.ok.hd hc) e (small_one b1 b2 b3 b4) (n:=(j - i).toNat) (by rw [rangeSize_one]; split <;> omega) (Nat.le_trans hz (by decide)) fun h' tk acc' c' hk hS' hacc=>?_
 have hv:=lC hacc
 refine ⟨.ref s.heap.objs.size,upd H s.heap.objs.size (.lst ((List.range (j - i).toNat).map fun (k:Nat)=>V.int (i + (k:Int)))),I.laid (t':=tk) hk (Nat.le_refl _) ⟨?_,acc'.toList,c',hv,by rw [hS',Array.toArray_toList]⟩,rfl,q _ I.fresh⟩
 rw [List.length_map,List.length_range]
 exact hz
end
end L3
namespace L3
open PySem PySem.Spec PyProof.Rows L2
def Ite (K:PySem.W.Frag) (a:Addr):It :=
 ⟨fun i H=>∃ xs x,SqL K H a xs /\ xs[i]? = some x,
  fun i H v H'=>∃ p x,v = .ref p /\ H p = none /\ H' = upd H p (.tup [.int (i:Int),x]) /\ ∀ xs,SqL K H a xs -> xs[i]? = some x,
  fun i H=>∃ xs,SqL K H a xs /\ xs.length <= i⟩
theorem mW {P:Program} {w:World} {K:PySem.W.Frag} {es:List Expr} {kt:Nat} {pt:Pos} {e it a:Addr} (hne:e ≠ it):mZ P w K (.Tuple es kt pt) (Ite K a) [e,it] e (fun i h=>(∃ old,IsEnum h e it (i:Int) old) /\ h.IsListIter it a i) where
 mem:=by simp
 obj:=fun i h st b hb=>by
  obtain ⟨⟨old,q1⟩,q2⟩:=st
  simp only [List.mem_cons,List.not_mem_nil,or_false] at hb
  rcases hb with rfl | rfl
  ·exact ⟨_,q1,fun v y=>by cases y⟩
  ·obtain ⟨o,e',_,d⟩:=q2
   exact ⟨o,e',fun v y=>by rw [d] at y; cases y⟩
 keep:=fun i h h' st k=>by
  obtain ⟨⟨old,q1⟩,q2⟩:=st
  exact ⟨⟨old,k e (by simp) _ q1⟩,q2.at fun o z=>k it (by simp) o z⟩
 item:=by
  intro X hP hw hK hc i pins s σ H E I hf st hg
  subst hP hw hK
  obtain ⟨xs,x,s1,hx⟩:=hg
  obtain ⟨⟨old,q1⟩,q2⟩:=st
  obtain ⟨its,v1,o1,z1⟩:=I.list s1
  obtain ⟨u1,e1,r1⟩:=v1.get hx
  have lt:∀ b ∈ [e,it],b < s.heap.objs.size:=fun b hb=>by
   simp only [List.mem_cons,List.not_mem_nil,or_false] at hb
   rcases hb with rfl | rfl
   ·exact Heap.lt_size q1
   ·obtain ⟨o,e',_⟩:=q2; exact Heap.lt_size e'
  refine wpAny_pyNext_enum_item q1 q2 o1.isList (x:=u1) (by simpa using e1) hne fun h' y1 y2 y3 y4 y5=>⟨_,rfl,?_⟩
  refine wpAny_letOwnedTupleGo_enum (s:={ s with heap:=h',toks:=s.toks + 1 }) y1 fun h2 w1 sb=>?_
  have sb':Heap.SameBut e h' h2:=sb
  have nz:s.heap.objs.size ≠ e:=Nat.ne_of_gt (lt e (by simp))
  have kk:∀ b o,b ∉ [e,it] -> s.heap.get? b = some o -> h2.get? b = some o:=fun b o hb z=>by
   simp only [List.mem_cons,List.not_mem_nil,or_false,not_or] at hb
   exact (sb'.2 b hb.1).trans (y5 b o hb.1 hb.2 z)
  have tp:IsTup h2 s.heap.objs.size [.int (i:Int) s.toks,u1].toArray:=⟨_,(sb'.2 _ nz).trans y3,rfl,_,rfl⟩
  refine ⟨.ref s.heap.objs.size,upd H s.heap.objs.size (.tup [.int (i:Int),x]),dn (s:=s) (t':=s.toks + 1) I hf kk (Nat.le_refl _) (by show 2 <= sizeLine; decide) (.cons ⟨_,rfl⟩ (.cons r1 .nil)) tp,rfl,
   ⟨_,x,rfl,I.fresh,rfl,fun zs hz=>by rw [I.list_inj hz s1]; exact hx⟩,?_,fun b hb=>?_⟩
  ·exact ⟨⟨_,w1⟩,y2.at fun o z=>(sb'.2 _ (Ne.symm hne)).trans z⟩
  ·rw [ag (Nat.ne_of_lt (lt b hb))]; exact (hf b hb).1
 done:=by
  intro X hP hw hK hc i pins s σ H E I hf st hg
  subst hP hw hK
  obtain ⟨xs,s1,hl⟩:=hg
  obtain ⟨⟨old,q1⟩,q2⟩:=st
  obtain ⟨its,v1,o1,z1⟩:=I.list s1
  have l1:=v1.length
  refine wpAny_pyNext_enum_end (I.ok.hd hc) q1 q2 o1.isList (by simp; omega) fun h' eb=>⟨rfl,gz (t':=s.toks) I hf fun b o hb z=>eb b o (fun y=>hb (by simp [y])) z⟩
 self:=fun _ _ _ _ _ st h=>by
  obtain ⟨⟨old,q1⟩,_⟩:=st
  exact wpAny_pyIter_enum q1 h
section
variable {X:Cx}
def vP (K:PySem.W.Frag) (ta:TA):TI:=fun σ H R=>ta σ H fun vs H1=>∃ a,vs = [.ref a] /\ (∃ xs,SqL K H1 a xs) /\ R (Ite K a) H1
theorem rO {a:Expr} {ta:TA} {p pos pt:Pos} {es:List Expr} {kt:Nat} (hg:Gl X "enumerate") (hm:X.mg "enumerate" = none) (ha:PA X [a] ta) (hs:starEach [a] X.env = [(false,eval a X.env)]:=by rfl) :
  PI X (.Tuple es kt pt) (.Call (.Name "enumerate" p) [a] [] pos) (vP X.K ta):=by
 intro pins s σ H R I h
 refine Call_ (dz I hg hm boot_enumerate (PyProof.Rows.callWith_type1 (thn (ha pos pins s σ H _ I h) fun us s1 ⟨vs,H1,I1,r1,q1⟩=>?_) hs rfl))
 obtain ⟨a,rfl,⟨xs,s1'⟩,q⟩:=q1
 cases r1 with
 | cons r rr =>
  cases rr
  cases r
  obtain ⟨its,v1,o1,z1⟩:=I1.list s1'
  refine call_enumerate_list o1.isList fun h' q1 q2 _ kk=>?_
  refine wpAny_pyIter_enum (s:={ s1 with heap:=h' }) q1 ?_
  refine ⟨_,_,_,_,H1,rfl,I1.kept (t':=s1.toks) kk,mW (Nat.succ_ne_self _),⟨⟨_,q1⟩,q2⟩,fun b hb=>?_,q⟩
  have hle:s1.heap.objs.size <= b:=by
   simp only [List.mem_cons,List.not_mem_nil,or_false] at hb
   rcases hb with e | e <;> (rw [e]; first | exact Nat.le_add_right _ _ | exact Nat.le_refl _)
  exact I1.fpOk hle (I1.hok.fresh hle)
end
end L3
namespace L3
open PySem PySem.Spec PyProof.Rows L2
section
variable {prog:Program} {w:World} {A:Around} {R:Result -> Shared -> Prop} {s:Shared}
theorem kf {elt tg iter cnd:Expr} {scope:Scope} {pos:Pos} {it acc:Value} {env:Env} (J:Nat -> Shared -> Prop)
  (turn:∀ n s,J n s -> wpAny (model prog w) A (pyNext it) (fun r s₁=>match r with
   | none=>R (.ok .next) s₁
   | some v=>wpAny (model prog w) A (letOwnedTupleGo tg it v) (fun _ s₂=>wpAny (model prog w) A (assign tg env v) (fun _ s₃=>wpAny (model prog w) A (isTrue cnd env (eval cnd env)) (fun ok s₄=>if ok = true then
     wpAny (model prog w) A (eval elt env) (fun y s₅=>wpAny (model prog w) A (call (.builtin "list.append") [acc,y]) (fun _ s₆=>∃ m,m < n /\ J m s₆) noX s₅) noX s₄ else ∃ m,m < n /\ J m s₄) noX s₃) noX s₂) noX s₁) noX s)
  (n:Nat) (h:J n s):codeAny (model prog w) A (.compLoop (.ListComp elt [⟨tg,iter,[cnd],0⟩] scope pos) 0 it acc env) R s:=by
 refine codeAny_loop rfl J (fun n s hJ=>?_) n h
 show wpAny _ A ((compTurn (.ListComp elt [⟨tg,iter,[cnd],0⟩] scope pos) 0 it acc env).onRaise (fun x=>do noteFrame x env; theTreesLotGoes x)) _ _ s
 refine wpAny_noted ?_
 rw [compTurn_list]
 refine wpAny_bind (wpAny_standAt (wpAny_bind (wpAny_mono (turn n s hJ) (fun r s₁ h₁=>?_) fun _ _ z=>z.elim)))
 cases r with
 | none=>exact wpAny_pure h₁
 | some v =>
  refine wpAny_bind (wpAny_mono h₁ (fun _ s₂ h₂=>?_) fun _ _ z=>z.elim)
  refine wpAny_bind (wpAny_mono h₂ (fun _ s₃ h₃=>?_) fun _ _ z=>z.elim)
  refine wpAny_bind (wpAny_tests_one (wpAny_mono h₃ (fun ok s₄ h₄=>?_) fun _ _ z=>z.elim))
  cases ok with
  | true=>exact wpAny_bind (wpAny_bind (wpAny_mono h₄ (fun y s₅ h₅=>wpAny_bind (wpAny_mono h₅ (fun _ s₆ h₆=>wpAny_pure (wpAny_pure ⟨rfl,h₆⟩)) fun _ _ z=>z.elim)) fun _ _ z=>z.elim))
  | false=>exact wpAny_bind (wpAny_pure (wpAny_pure ⟨rfl,h₄⟩))
end
def oP (K:PySem.W.Frag) (J:It) (tc:TT) (te:TE) (σ':L2.St) (H1:Hp) (Q:VK):Prop:=∃ W:Nat -> Nat -> List V -> Hp -> Prop,(∃ m,W 0 m [] H1) /\ ∀ i m ys H,W i m ys H ->
 (J.stop i H /\ ys.length <= sizeLine /\ ∀ p,H p = none -> Q (.ref p) (upd H p (.lst ys))) \/
 (J.go i H /\ ys.length < sizeLine /\ ∀ v H',J.yld i H v H' -> ∃ p a b,v = .ref p /\ SqT K H' p [a,b] /\ tc (some a :: some b :: σ') H' fun ok H2=>if ok = true then te (some a :: some b :: σ') H2 fun y H3=>∃ m',m' < m /\ W (i + 1) m' (ys ++ [y]) H3 else ∃ m',m' < m /\ W (i + 1) m' ys H2)
def BA (K:PySem.W.Frag) (wi:TI) (is:List Nat) (tc:TT) (te:TE):TE:=fun σ H Q=>wi σ H fun J H1=>oP K J tc te (br σ is) H1 Q
end L3

set_option Elab.async false
set_option linter.all false
set_option maxRecDepth 100000
set_option maxHeartbeats 4000000
namespace L3
open PySem PySem.Spec PyProof.Rows L2
def rE (n:Nat) (J:It) (g:TG) (tc:TT) (te:TE) (σ':L2.St) (H1:Hp) (Q:VK):Prop:=∃ W:Nat -> Nat -> List V -> Hp -> Prop,(∃ m,W 0 m [] H1) /\ ∀ i m ys H,W i m ys H ->
 (J.stop i H /\ ys.length <= sizeLine /\ ∀ p,H p = none -> Q (.ref p) (upd H p (.lst ys))) \/
 (J.go i H /\ ys.length < sizeLine /\ ∀ x H',J.yld i H x H' -> g x (List.replicate n none ++ σ') H' fun σ2 H2=>(σ2.length = n + σ'.length /\ σ2.drop n = σ') /\ tc σ2 H2 fun ok H3=>if ok = true then te σ2 H3 fun y H4=>∃ m',m' < m /\ W (i + 1) m' (ys ++ [y]) H4 else ∃ m',m' < m /\ W (i + 1) m' ys H3)
def tR (n:Nat) (J:It) (g:TG) (te:TE) (σ':L2.St) (H1:Hp) (Q:VK):Prop:=∃ W:Nat -> Nat -> List V -> Hp -> Prop,(∃ m,W 0 m [] H1) /\ ∀ i m ys H,W i m ys H ->
 (J.stop i H /\ ys.length <= sizeLine /\ ∀ p,H p = none -> Q (.ref p) (upd H p (.lst ys))) \/
 (J.go i H /\ ys.length < sizeLine /\ ∀ x H',J.yld i H x H' -> g x (List.replicate n none ++ σ') H' fun σ2 H2=>(σ2.length = n + σ'.length /\ σ2.drop n = σ') /\ te σ2 H2 fun y H4=>∃ m',m' < m /\ W (i + 1) m' (ys ++ [y]) H4)
def eh (n:Nat) (wi:TI) (is:List Nat) (g:TG) (tc:TT) (te:TE):TE:=fun σ H Q=>wi σ H fun J H1=>rE n J g tc te (br σ is) H1 Q
def iS (n:Nat) (wi:TI) (is:List Nat) (g:TG) (te:TE):TE:=fun σ H Q=>wi σ H fun J H1=>tR n J g te (br σ is) H1 Q
theorem pL {n:Nat} {σ2 σ':L2.St} (h:σ2.drop n = σ') {j:Nat} {w:V} (e:(List.replicate n none ++ σ')[j]? = some (some w)):σ2[j]? = some (some w):=by
 by_cases hj:j < n
 ·rw [List.getElem?_append_left (by simpa using hj),List.getElem?_replicate,if_pos hj] at e
  cases Option.some.inj e
 ·rw [List.getElem?_append_right (by simpa using hj),List.length_replicate,<- h,List.getElem?_drop,Nat.add_sub_cancel' (by omega)] at e
  exact e
def CW (X:Cx) (cs:List Expr) (k:Bool -> Shared -> Prop) (s:Shared):Prop:=match cs with
 | []=>k true s
 | [c]=>wpAny (model X.prog X.w) X.A (isTrue c X.env (eval c X.env)) k noX s
 | _=>False
def PC (X:Cx) (cs:List Expr) (tc:TT):Prop:=∀ (pins:List (Addr × Obj)) (s:Shared) (σ:L2.St) (H:Hp) (Q:Bool -> Hp -> Prop),Inv X pins σ H s -> tc σ H Q -> CW X cs (fun ok s'=>∃ H',Inv X pins σ H' s' /\ Q ok H') s
theorem CW.mono {X:Cx} {cs:List Expr} {k k':Bool -> Shared -> Prop} {s:Shared} (h:CW X cs k s) (w:∀ b s,k b s -> k' b s):CW X cs k' s:=by
 match cs,h with
 | [],h=>exact w _ _ h
 | [c],h=>exact wpAny_mono h w fun _ _ z=>z
theorem jI {X:Cx} {elt tg iter:Expr} {cs:List Expr} {scope:Scope} {pos:Pos} {it acc:Value} {R:Result -> Shared -> Prop} {s:Shared} (J:Nat -> Shared -> Prop)
  (turn:∀ n s,J n s -> wpAny (model X.prog X.w) X.A (pyNext it) (fun r s₁=>match r with
   | none=>R (.ok .next) s₁
   | some v=>wpAny (model X.prog X.w) X.A (letOwnedTupleGo tg it v) (fun _ s₂=>wpAny (model X.prog X.w) X.A (assign tg X.env v) (fun _ s₃=>CW X cs (fun ok s₄=>if ok = true then
     wpAny (model X.prog X.w) X.A (eval elt X.env) (fun y s₅=>wpAny (model X.prog X.w) X.A (call (.builtin "list.append") [acc,y]) (fun _ s₆=>∃ m,m < n /\ J m s₆) noX s₅) noX s₄ else ∃ m,m < n /\ J m s₄) s₃) noX s₂) noX s₁) noX s)
  (n:Nat) (h:J n s) (hcs:cs.length <= 1):codeAny (model X.prog X.w) X.A (.compLoop (.ListComp elt [⟨tg,iter,cs,0⟩] scope pos) 0 it acc X.env) R s:=by
 match cs,hcs with
 | [],_=>exact kF J turn n h
 | [c],_=>exact kf J turn n h
theorem jn {X:Cx} {elt iter tg:Expr} {cs:List Expr} {pre:List Str} {pos:Pos} {scope:Scope} {cl:List (Str × Addr)} {ys:List Str} {is:List Nat} {wi:TI} {g:TG} {te:TE} {tc:TT} {use:Option (Value -> Sem Unit)} {Q:VK} {Qp:Value -> Shared -> Prop} {pins:List (Addr × Obj)} {s:Shared} {σ:L2.St} {H:Hp} {ip:Pos}
  (hc:X.calm = true) (hi:PI X tg iter wi) (hg:∀ C s H fp,PG (aj X (pre ++ ys) scope cl C s H fp) tg g) (he:∀ C s H fp,PE (aj X (pre ++ ys) scope cl C s H fp) elt te) (hcd:∀ C s H fp,PC (aj X (pre ++ ys) scope cl C s H fp) cs tc) (hcs:cs.length <= 1)
  (hclos:closureFor scope X.env = pure cl) (S:aq pre ys scope) (hcl:Clo X cl) (hfr:(scope.names.all fun p=>p.2 != .free || (cl.lookup p.1).isSome) = true) (fr:Frees X scope cl ys is) (hs:∀ v,foldedSetIterable iter X.env v = pure v)
  (fin:∀ (s4:Shared) (Hn:Hp) (D L:Addr) (m4:Str -> Option Value),Inv X pins σ Hn s4 -> s4.heap.Ns L m4 -> L ≠ X.env.locals -> (∀ a c,X.env.cells.lookup a = some c -> c ≠ L) -> Hn L = none -> X.s₀.heap.objs.size <= L -> (∀ p ∈ X.pn ++ pins,p.1 ≠ L) -> Q (.ref D) Hn -> compPost (model X.prog X.w) X.A X.xe use Qp (.ref D) L (.ok .next) s4)
  (I:Inv X pins σ H s) (h:eh pre.length wi is g tc te σ H Q) :
  wpAny (model X.prog X.w) X.A (comprehension (.ListComp elt [⟨tg,iter,cs,0⟩] scope pos) scope X.env ip (newList []) false (eval iter X.env) use) Qp X.xe s:=by
 refine wpAny_comprehension_free (use:=use) rfl hs hclos S.kind S.nm (thn (hi pins s σ H _ I h) fun xv s1 h1=>thn h1 fun itv s2 h2=>?_)
 obtain ⟨it,fp,tn,J,H2,rfl,I2,T,st2,f2,W,⟨m0,w0⟩,turn⟩:=h2
 have fpo:∀ b ∈ fp,b < s2.heap.objs.size:=fun b hb=>by
  obtain ⟨o,e,_⟩:=T.obj _ _ st2 b hb
  exact Heap.lt_size e
 refine wpAny_newObj_type (wpAny_newFunctionEnv S.cell (fun y hy=>by cases hy) (fun g' hns hsb=>?_) S.kind)
 dsimp only at hns hsb ⊢
 generalize hP2:s2.heap.push { cls:=.type "list",dict:=none,data:=.seq ([]:List Value).toArray } = P2 at hns hsb ⊢
 have hCs:P2.objs.size = s2.heap.objs.size + 1:=by rw [<- hP2,Heap.size_push]
 have hDC:s2.heap.objs.size ≠ P2.objs.size:=by omega
 have hle:s2.heap.objs.size <= P2.objs.size:=by omega
 have nc:∀ b o,s2.heap.get? b = some o -> b ≠ P2.objs.size:=fun b o e=>Nat.ne_of_lt (Nat.lt_of_lt_of_le (Heap.lt_size e) hle)
 have nd:∀ b o,s2.heap.get? b = some o -> b ≠ s2.heap.objs.size:=fun b o e=>Nat.ne_of_lt (Heap.lt_size e)
 have ndH:∀ b u,H2 b = some u -> b ≠ s2.heap.objs.size:=fun b u e=>Nat.ne_of_lt (I2.hok.lt e)
 have old:∀ b o,s2.heap.get? b = some o -> g'.get? b = some o:=fun b o e=>hsb.extBut b o (nc b o e) (Heap.get?_push_of_some _ (hP2 ▸ Heap.get?_push_of_some _ e))
 have accD:g'.get? s2.heap.objs.size = some (iG []):=hsb.extBut _ _ hDC (Heap.get?_push_of_some _ (hP2 ▸ Heap.get?_push_size _ rfl))
 have stkD:s2.heap.objs.size ∉ frs X.stack:=fun hb=>(List.mem_cons.mp (I2.stkSub _ hb)).elim (fun z=>absurd z (Nat.ne_of_gt I2.lt)) (I2.nofs (Nat.le_refl _))
 generalize hσ':br σ is = σ' at turn
 have I3:Inv (aj X (pre ++ ys) scope cl P2.objs.size s2 H2 fp) pins (List.replicate pre.length none ++ σ') H2 { s2 with heap:=g',toks:=s2.toks + ([]:List (Str × Value)).length }:=by rw [<- hσ']; exact mF (pre:=pre) I2 f2 fpo S hcl hfr fr hle old hns
 have stat:∀ {H':Hp} {o:Obj},(∀ b ∈ fp,H' b = none) -> ∀ b ∈ fp,fW (aj X (pre ++ ys) scope cl P2.objs.size s2 H2 fp) (pins ++ [(s2.heap.objs.size,o)]) H' b:=fun {H' o} hn b hb=>by
  refine ⟨hn b hb,Nat.ne_of_lt (Nat.lt_of_lt_of_le (fpo b hb) hle),fun z=>(List.mem_cons.mp (I2.stkSub _ z)).elim (f2 b hb).2.1 (f2 b hb).2.2.1,.inl hb,fun a c e=>(f2 b hb).2.2.2.2.1 a c (hcl.get e),fun p hp=>?_⟩
  rcases List.mem_append.mp hp with z | z
  ·exact (f2 b hb).2.2.2.2.2 p (List.mem_append_left _ z)
  ·rcases List.mem_append.mp z with z | z
   ·exact (f2 b hb).2.2.2.2.2 p (List.mem_append_right _ z)
   ·rw [List.mem_singleton.mp z]
    exact Nat.ne_of_gt (fpo b hb)
 have loop:codeAny (model X.prog X.w) X.A (.compLoop (.ListComp elt [⟨tg,iter,cs,0⟩] scope pos) 0 (.ref it) (.ref s2.heap.objs.size) (compEnvC scope cl P2.objs.size X.env))
   (compPost (model X.prog X.w) X.A X.xe use Qp (.ref s2.heap.objs.size) P2.objs.size) { s2 with heap:=g',toks:=s2.toks + ([]:List (Str × Value)).length }:=by
  refine jI (X:=aj X (pre ++ ys) scope cl P2.objs.size s2 H2 fp) (fun n s'=>∃ i zs its H',Inv (aj X (pre ++ ys) scope cl P2.objs.size s2 H2 fp) pins (List.replicate pre.length none ++ σ') H' s' /\ tn i s'.heap /\ (∀ b ∈ fp,H' b = none) /\ s'.heap.get? s2.heap.objs.size = some (iG its) /\ Vals zs its /\ H' s2.heap.objs.size = none /\ W i n zs H')
   ?_ m0 ⟨0,[],[],H2,I3,T.keep _ _ _ st2 (fun b _ o e=>old b o e),fun b hb=>(f2 b hb).1,accD,.nil,I2.hok.fresh (Nat.le_refl _),w0⟩ hcs
  rintro n s3 ⟨i,zs,its,H3,J3,st3,fr3,d3,rv3,nd3,w3⟩
  have hzl:=rv3.length
  have J3':Inv (aj X (pre ++ ys) scope cl P2.objs.size s2 H2 fp) (pins ++ [(s2.heap.objs.size,iG its)]) (List.replicate pre.length none ++ σ') H3 s3:=J3.pins_of fun p hp=>by
   rcases List.mem_append.mp hp with z | z
   ·exact J3.pin p (List.mem_append_right _ z)
   ·rw [List.mem_singleton.mp z]
    exact ⟨d3,nd3,hDC,stkD,fun v q=>by cases q⟩
  rcases turn i n zs H3 w3 with ⟨stop,hz,q⟩ | ⟨go,hz,step⟩
  ·refine wpAny_mono (T.done (aj X (pre ++ ys) scope cl P2.objs.size s2 H2 fp) rfl rfl rfl hc i _ s3 _ H3 noX J3' (stat fr3) st3 stop) (fun r s4 h4=>?_) fun _ _ z=>z.elim
   obtain ⟨hr,I4⟩:=h4
   subst hr
   obtain ⟨m4,hn4,_⟩:=id I4.loc
   have f4:H3 P2.objs.size = none:=I4.free
   have d4:s4.heap.get? s2.heap.objs.size = some (iG its):=(I4.pin (s2.heap.objs.size,iG its) (List.mem_append_right _ (List.mem_append_right _ (List.mem_singleton.mpr rfl)))).1
   have u4:Un (frs X.stack) fp H2 H3 s2.heap s4.heap:=I4.base
   have un:Un (frs X.stack) fp H2 (upd H3 s2.heap.objs.size (.lst zs)) s2.heap s4.heap :=
    ⟨u4.keep,u4.slot,fun b o e n hx=>by rw [ag (nd b o e)]; exact u4.free b o e n hx,u4.there,
     fun b xs q=>by rw [ag (ndH b _ q)]; exact u4.tups b xs q,fun b o u q=>by rw [ag (ndH b _ q)]; exact u4.frzs b o u q,fun b ps q=>by rw [ag (ndH b _ q)]; exact u4.tbls b ps q⟩
   have IX:Inv X pins σ (upd H3 s2.heap.objs.size (.lst zs)) s4:=I2.call' (s':=s4) (ch:=fp) I4.os un (gR I4.hok nd3 ⟨hz,its,its.length,rv3,d4⟩) I4.bare
    (fun b hb=>⟨(f2 b hb).2.2.2.1,(f2 b hb).2.1,(f2 b hb).2.2.2.2.1,(f2 b hb).2.2.2.2.2⟩)
   have cL:P2.objs.size ≠ X.env.locals:=Nat.ne_of_gt (Nat.lt_of_lt_of_le I2.lt hle)
   have cC:∀ a c,X.env.cells.lookup a = some c -> c ≠ P2.objs.size:=fun a c e=>by
    obtain ⟨v',o',ho',_⟩:=I2.cell a c e
    exact nc c o' ho'
   exact fin s4 _ s2.heap.objs.size P2.objs.size m4 IX hn4 cL cC (by rw [ag (Ne.symm hDC)]; exact f4) (Nat.le_trans I2.sz hle) (fun p hp=>nc p.1 _ (I2.pin p hp).1) (q _ nd3)
  ·refine wpAny_mono (T.item (aj X (pre ++ ys) scope cl P2.objs.size s2 H2 fp) rfl rfl rfl hc i _ s3 _ H3 noX J3' (stat fr3) st3 go) (fun r s4 h4=>?_) fun _ _ z=>z.elim
   obtain ⟨u,hr,h4⟩:=h4
   subst hr
   refine wpAny_mono h4 (fun _ s5 h5=>?_) fun _ _ z=>z.elim
   obtain ⟨v,H5,I5,r5,y5,st5,fr5⟩:=h5
   have I5':=I5.pinned (stat fr5) (T.obj _ _ st5)
   refine wpAny_mono (hg P2.objs.size s2 H2 fp _ s5 _ H5 v u _ I5' r5 (step v H5 y5)) (fun _ s6 h6=>?_) fun _ _ z=>z.elim
   obtain ⟨σ6,H6,I6,⟨hl6,hd6⟩,step'⟩:=h6
   have kC:∀ {H7:Hp} {s7:Shared},Inv (aj X (pre ++ ys) scope cl P2.objs.size s2 H2 fp) ((pins ++ [(s2.heap.objs.size,iG its)]) ++ gq fp s5.heap) σ6 H7 s7 -> Inv (aj X (pre ++ ys) scope cl P2.objs.size s2 H2 fp) pins (List.replicate pre.length none ++ σ') H7 s7:=fun I7=>I7.unpinned.unpinned.weak (by rw [hl6,List.length_append,List.length_replicate]) fun j w' e=>pL hd6 e
   refine CW.mono (hcd P2.objs.size s2 H2 fp _ s6 _ H6 _ I6 step') fun ok s6' h6'=>?_
   obtain ⟨H6',I6',q6⟩:=h6'
   cases ok with
   | false =>
    rw [if_neg Bool.false_ne_true] at q6
    obtain ⟨m',hm',w7⟩:=q6
    have pinD:=I6'.pin (s2.heap.objs.size,iG its) (List.mem_append_right _ (List.mem_append_left _ (List.mem_append_right _ (List.mem_singleton.mpr rfl))))
    rw [if_neg Bool.false_ne_true]
    refine ⟨m',hm',i + 1,zs,its,H6',kC I6',T.keep _ _ _ st5 fun b hb o e=>?_,fun b hb=>?_,pinD.1,rv3,pinD.2.1,w7⟩
    ·exact (I6'.pin (b,o) (List.mem_append_right _ (List.mem_append_right _ (bA hb e)))).1
    ·obtain ⟨o,e,_⟩:=T.obj _ _ st5 b hb
     exact (I6'.pin (b,o) (List.mem_append_right _ (List.mem_append_right _ (bA hb e)))).2.1
   | true =>
    rw [if_pos rfl] at q6 ⊢
    refine wpAny_mono (he P2.objs.size s2 H2 fp _ s6' _ H6' _ I6' q6) (fun yv s7 h7=>?_) fun _ _ z=>z.elim
    obtain ⟨y',H7,I7,r7,m',hm',w7⟩:=h7
    have pinD:=I7.pin (s2.heap.objs.size,iG its) (List.mem_append_right _ (List.mem_append_left _ (List.mem_append_right _ (List.mem_singleton.mpr rfl))))
    refine append_at (hsz:=by show its.toArray.size <= sizeLine; rw [List.size_toArray]; omega) pinD.1 fun h8 sb8 hD8=>?_
    have I8:Inv (aj X (pre ++ ys) scope cl P2.objs.size s2 H2 fp) pins (List.replicate pre.length none ++ σ') H7 { s7 with heap:=h8 }:=(kC I7).turned (t':=s7.toks) (it:=s2.heap.objs.size) (fun b o hb e=>(sb8.2 b hb).trans e) pinD.2.1 hDC (.inr (Nat.le_refl _))
     (fun a c e z=>by
      obtain ⟨v',o',ho',_⟩:=I2.cell a c (hcl.get e)
      exact nd c o' ho' z)
     (fun p hp=>nd p.1 _ (I2.pin p hp).1)
    refine ⟨m',hm',i + 1,zs ++ [y'],its ++ [yv],H7,I8,T.keep _ _ _ st5 fun b hb o e=>?_,fun b hb=>?_,?_,rv3.append (.cons r7 .nil),pinD.2.1,w7⟩
    ·exact (sb8.2 b (Nat.ne_of_lt (fpo b hb))).trans (I7.pin (b,o) (List.mem_append_right _ (List.mem_append_right _ (bA hb e)))).1
    ·obtain ⟨o,e,_⟩:=T.obj _ _ st5 b hb
     exact (I7.pin (b,o) (List.mem_append_right _ (List.mem_append_right _ (bA hb e)))).2.1
    ·show h8.get? s2.heap.objs.size = _
     rw [hD8]
     simp [iG]
 exact codeAny_compStart_list loop (T.self X.A 0 _ _ _ (T.keep _ _ _ st2 (fun b _ o e=>old b o e)) loop)
section
variable {X:Cx} {elt iter tg cnd:Expr} {pre:List Str} {pos spos pz:Pos} {z:Str} {jz:Nat} {scope:Scope} {cl:List (Str × Addr)} {ys:List Str} {is:List Nat} {wi:TI} {g:TG} {te:TE} {tc:TT}
theorem pcF (h:PT X cnd tc) (hx:∀ v s,X.xe v s -> False):PC X [cnd] tc:=fun pins s σ H Q I q=>wpAny_mono (h pins s σ H Q I q) (fun _ _ z=>z) fun v s z=>hx v s z
def tT:TT:=fun _ H Q=>Q true H
theorem pcN:PC X [] tT:=fun pins s σ H Q I q=>⟨H,I,q⟩
theorem goN {n:Nat} {σ:L2.St} {H:Hp} {Q:VK} (h:iS n wi is g te σ H Q):eh n wi is g tT te σ H Q:=h
theorem je {cs:List Expr} (hc:X.calm = true) (hi:PI X tg iter wi) (hg:∀ C s H fp,PG (aj X (pre ++ ys) scope cl C s H fp) tg g) (he:∀ C s H fp,PE (aj X (pre ++ ys) scope cl C s H fp) elt te) (hcd:∀ C s H fp,PC (aj X (pre ++ ys) scope cl C s H fp) cs tc) (hcs:cs.length <= 1)
  (hclos:closureFor scope X.env = pure cl) (S:aq pre ys scope) (hcl:Clo X cl) (hfr:(scope.names.all fun p=>p.2 != .free || (cl.lookup p.1).isSome) = true) (fr:Frees X scope cl ys is) (hs:∀ v,foldedSetIterable iter X.env v = pure v) :
  PE X (.ListComp elt [⟨tg,iter,cs,0⟩] scope pos) (eh pre.length wi is g tc te):=by
 intro pins s σ H Q I h
 rw [eval_ListComp]
 show wpAny _ _ (comprehension _ scope X.env _ (newList []) false (eval iter X.env) none) _ _ s
 refine jn hc hi hg he hcd hcs hclos S hcl hfr fr hs (fun s4 Hn D L m4 IX hn cL cC hL hz hp q=>?_) I h
 exact ⟨m4,hn,fun h' sb=>⟨.ref D,_,IX.turned (t':=s4.toks) (it:=L) (fun b o hb e=>(sb.2 b hb).trans e) hL cL (.inr hz) cC hp,rfl,q⟩⟩
theorem jJ {cs:List Expr} (hN:X.N.Nodup) (hj:X.N[jz]? = some z) (hzLoc:Loc X.env.scope z) (hsw:swapsWith (.ListComp elt [⟨tg,iter,cs,0⟩] scope pos) (some (.Name z pz)) spos.line X.env = pure true) (hc:X.calm = true) (hi:PI X tg iter wi) (hg:∀ C s H fp,PG (aj X (pre ++ ys) scope cl C s H fp) tg g) (he:∀ C s H fp,PE (aj X (pre ++ ys) scope cl C s H fp) elt te) (hcd:∀ C s H fp,PC (aj X (pre ++ ys) scope cl C s H fp) cs tc) (hcs:cs.length <= 1)
  (hclos:closureFor scope X.env = pure cl) (S:aq pre ys scope) (hcl:Clo X cl) (hfr:(scope.names.all fun p=>p.2 != .free || (cl.lookup p.1).isSome) = true) (fr:Frees X scope cl ys is) (hs:∀ v,foldedSetIterable iter X.env v = pure v) (hfn:X.fn z = true \/ X.env.scope.names.lookup z = some .local) :
  PS X (.Assign [.Name z pz] (.ListComp elt [⟨tg,iter,cs,0⟩] scope pos) spos) (kO (eh pre.length wi is g tc te) (bM jz)):=by
 intro pins s σ H D I h
 rw [exec_Assign_Name_used _ _ _ _ hsw]
 refine wpAny_bind (wpAny_standAt (wpAny_bind ?_)); show wpAny _ _ (do let _ <- comprehension (.ListComp elt [⟨tg,iter,cs,0⟩] scope pos) scope X.env _ (newList []) false (eval iter X.env) (some (assign (.Name z pz) X.env))) _ _ s
 refine wpAny_bind (thn (jn (use:=some (assign (.Name z pz) X.env)) (Qp:=fun _ s'=>SP X pins D .next s') hc hi hg he hcd hcs hclos S hcl hfr fr hs (fun s4 Hn d L m4 IX hn cL cC hL hz hp q=>?_) I h) fun _ s' hq=>wpAny_pure (wpAny_pure hq))
 show wpAny _ _ (assign (.Name z pz) X.env (.ref d)) _ _ s4
 refine wpAny_assign_Name (ie IX hN hj hzLoc (v:=.ref d) rfl (fun s5 I5 h5=>?_) hfn)
 obtain ⟨a5,sb5,ha5⟩:=h5
 have na:L ≠ a5:=ha5.elim (fun e=>by rw [e]; exact cL) fun e=>Ne.symm (cC _ _ e)
 exact ⟨m4,hn.sameBut sb5 na,fun h' sb=>⟨_,_,I5.turned (t':=s5.toks) (it:=L) (fun b o hb e=>(sb.2 b hb).trans e) hL cL (.inr hz) cC hp,q⟩⟩
theorem gQ (hc:X.calm = true) (hi:PI X tg iter wi) (hg:∀ C s H fp,PG (aj X (pre ++ ys) scope cl C s H fp) tg g) (he:∀ C s H fp,PE (aj X (pre ++ ys) scope cl C s H fp) elt te)
  (hclos:closureFor scope X.env = pure cl) (S:aq pre ys scope) (hcl:Clo X cl) (hfr:(scope.names.all fun p=>p.2 != .free || (cl.lookup p.1).isSome) = true) (fr:Frees X scope cl ys is) (hs:∀ v,foldedSetIterable iter X.env v = pure v:=by intro _; rfl) :
  PE X (.ListComp elt [⟨tg,iter,[],0⟩] scope pos) (iS pre.length wi is g te):=fun pins s σ H Q I h=>je hc hi hg he (fun _ _ _ _=>pcN) (Nat.zero_le _) hclos S hcl hfr fr hs pins s σ H Q I (goN h)
theorem nq (hc:X.calm = true) (hi:PI X tg iter wi) (hg:∀ C s H fp,PG (aj X (pre ++ ys) scope cl C s H fp) tg g) (he:∀ C s H fp,PE (aj X (pre ++ ys) scope cl C s H fp) elt te) (hcd:∀ C s H fp,PT (aj X (pre ++ ys) scope cl C s H fp) cnd tc)
  (hclos:closureFor scope X.env = pure cl) (S:aq pre ys scope) (hcl:Clo X cl) (hfr:(scope.names.all fun p=>p.2 != .free || (cl.lookup p.1).isSome) = true) (fr:Frees X scope cl ys is) (hs:∀ v,foldedSetIterable iter X.env v = pure v:=by intro _; rfl) :
  PE X (.ListComp elt [⟨tg,iter,[cnd],0⟩] scope pos) (eh pre.length wi is g tc te):=je hc hi hg he (fun _ _ _ _=>pcF (hcd _ _ _ _) fun _ _ z=>z) (Nat.le_refl _) hclos S hcl hfr fr hs
theorem mJ (hN:X.N.Nodup) (hj:X.N[jz]? = some z) (hzLoc:Loc X.env.scope z) (hsw:swapsWith (.ListComp elt [⟨tg,iter,[],0⟩] scope pos) (some (.Name z pz)) spos.line X.env = pure true) (hc:X.calm = true) (hi:PI X tg iter wi) (hg:∀ C s H fp,PG (aj X (pre ++ ys) scope cl C s H fp) tg g) (he:∀ C s H fp,PE (aj X (pre ++ ys) scope cl C s H fp) elt te)
  (hclos:closureFor scope X.env = pure cl) (S:aq pre ys scope) (hcl:Clo X cl) (hfr:(scope.names.all fun p=>p.2 != .free || (cl.lookup p.1).isSome) = true) (fr:Frees X scope cl ys is) (hs:∀ v,foldedSetIterable iter X.env v = pure v:=by intro _; rfl) (hfn:X.fn z = true \/ X.env.scope.names.lookup z = some .local:=by first | exact .inl rfl | exact .inr rfl | assumption) :
  PS X (.Assign [.Name z pz] (.ListComp elt [⟨tg,iter,[],0⟩] scope pos) spos) (kO (iS pre.length wi is g te) (bM jz)):=fun pins s σ H D I h=>jJ hN hj hzLoc hsw hc hi hg he (fun _ _ _ _=>pcN) (Nat.zero_le _) hclos S hcl hfr fr hs hfn pins s σ H D I (goN h)
theorem ij (hN:X.N.Nodup) (hj:X.N[jz]? = some z) (hzLoc:Loc X.env.scope z) (hsw:swapsWith (.ListComp elt [⟨tg,iter,[cnd],0⟩] scope pos) (some (.Name z pz)) spos.line X.env = pure true) (hc:X.calm = true) (hi:PI X tg iter wi) (hg:∀ C s H fp,PG (aj X (pre ++ ys) scope cl C s H fp) tg g) (he:∀ C s H fp,PE (aj X (pre ++ ys) scope cl C s H fp) elt te) (hcd:∀ C s H fp,PT (aj X (pre ++ ys) scope cl C s H fp) cnd tc)
  (hclos:closureFor scope X.env = pure cl) (S:aq pre ys scope) (hcl:Clo X cl) (hfr:(scope.names.all fun p=>p.2 != .free || (cl.lookup p.1).isSome) = true) (fr:Frees X scope cl ys is) (hs:∀ v,foldedSetIterable iter X.env v = pure v:=by intro _; rfl) (hfn:X.fn z = true \/ X.env.scope.names.lookup z = some .local:=by first | exact .inl rfl | exact .inr rfl | assumption) :
  PS X (.Assign [.Name z pz] (.ListComp elt [⟨tg,iter,[cnd],0⟩] scope pos) spos) (kO (eh pre.length wi is g tc te) (bM jz)):=jJ hN hj hzLoc hsw hc hi hg he (fun _ _ _ _=>pcF (hcd _ _ _ _) fun _ _ z=>z) (Nat.le_refl _) hclos S hcl hfr fr hs hfn
end
end L3

set_option Elab.async false
set_option linter.all false
set_option maxRecDepth 100000
set_option maxHeartbeats 4000000
namespace L3
open PySem PySem.Spec PyProof.Rows L2
abbrev cM (h:Heap) (z TI TO p:Addr) (f:Bool):Prop:=h.get? z = some { cls:=.type "zip",dict:=none,data:=.fields #[rawInt p,.bool f,.bool false,.ref TI,.ref TO],slots:=#[] }
section
variable {prog:Program} {w:World} {A:Around} {E:Value -> Shared -> Prop} {s:Shared}
theorem oV {a : Addr} {o : Obj} {Q : Option Obj → Shared → Prop} (ho : s.heap.get? a = some o) (h : Q (some o) s) : wpAny (model prog w) A (loadIfAlive a) Q E s :=
  fun _ _ _ => (ho ▸ h : Q (s.heap.get? a) s)
theorem Bd {z TI TO p:Addr} {f:Bool} {op:Obj} {Q:Bool -> Shared -> Prop} (hz:cM s.heap z TI TO p f) (hp:s.heap.get? p = some op)
  (q:∀ h',cM h' z TI TO p true -> Heap.SameBut z s.heap h' -> Q false { s with heap:=h' }):wpAny (model prog w) A (Builtin.SmallTypes.ownedTupleIsFree (.ref z)) Q E s:=by
 unfold Builtin.SmallTypes.ownedTupleIsFree
 refine wpAny_bind (wpAny_field hz rfl (x:=rawInt p) rfl ?_)
 show wpAny _ _ (loadIfAlive ((p:Int).toNat) >>= _) _ _ _
 rw [Int.toNat_natCast]
 refine wpAny_bind (oV hp ?_)
 rw [if_neg (by simp)]
 refine wpAny_bind (wpAny_field hz rfl (x := .bool f) rfl ?_)
 by_cases hf : f = true
 · subst hf
   rw [if_neg (by decide)]
   exact wpAny_pure (q s.heap hz (Heap.SameBut.refl _ _))
 · rw [Bool.not_eq_true] at hf
   subst hf
   rw [if_pos (by decide)]
   exact wpAny_bind (wpAny_setField_rec hz (by simp) fun g hg sg => wpAny_pure (q g hg sg))
theorem nK {z TI TO i1 i2 a1 a2 p:Addr} {f:Bool} {op:Obj} {k1 k2:Bool} {n m:Nat} {xs ys:Array Value} {x y:Value} {Q:Value -> Shared -> Prop} (D:ZipApart z TI TO i1 i2 a1 a2)
  (hz:cM s.heap z TI TO p f) (hp:s.heap.get? p = some op) (hI:IsPair s.heap TI (.ref i1) (.ref i2)) (h1:ItO s.heap k1 i1 a1 n) (h2:ItO s.heap k2 i2 a2 m) (q1:SqO s.heap k1 a1 xs) (q2:SqO s.heap k2 a2 ys) (hx:xs[n]? = some x) (hy:ys[m]? = some y)
  (q:∀ h',cM h' z TI TO p true -> ItO h' k1 i1 a1 (n + 1) -> ItO h' k2 i2 a2 (m + 1) -> IsPair h' s.heap.objs.size x y -> h'.objs.size = s.heap.objs.size + 1 ->
   (∀ c o,c ≠ z -> c ≠ i1 -> c ≠ i2 -> s.heap.get? c = some o -> h'.get? c = some o) -> Q (.ref s.heap.objs.size) { s with heap:=h' }) :
  wpAny (model prog w) A (Builtin.«zip.__next__» ⟨[.ref z],[]⟩) (fun fin s'=>∃ v,fin = .done (.ret v) /\ Q v s') E s:=by
 show wpAny _ _ (field (.ref z) 2 >>= _) _ _ _; refine wpAny_bind (wpAny_field hz rfl (x:=.bool false) rfl ?_)
 show wpAny _ _ (field (.ref z) 3 >>= _) _ _ _; refine wpAny_bind (wpAny_field hz rfl (x:=.ref TI) rfl (wpAny_bind (wpAny_seqItems hI rfl ?_)))
 show wpAny _ _ (Builtin.SmallTypes.ownedTupleIsFree (.ref z) >>= _) _ _ _; refine wpAny_bind (Bd hz hp fun g1 z1 s1=>?_)
 have s1':Heap.SameBut z s.heap g1:=s1
 simp only [Bool.false_eq_true,if_false]
 refine wpAny_bind ?_
 simp only [List.forIn_toArray,List.forIn_cons,List.forIn_nil]
 refine wpAny_bind (wpAny_bind (wpAny_holding ?_)); show wpAny _ _ (Builtin.SmallTypes.nextOf (.ref i1) >>= _) _ _ _
 refine wpAny_bind (bC (s:={ s with heap:=g1 }) (h1.at fun o e=>s1'.extBut _ _ D.i1z e) (q1.at fun o e=>s1'.extBut _ _ D.l1z e) hx fun g2 r2 s2=>wpAny_pure ?_)
 have s2':Heap.SameBut i1 g1 g2:=s2
 refine wpAny_pure ?_
 refine wpAny_bind (wpAny_bind (wpAny_holding ?_)); show wpAny _ _ (Builtin.SmallTypes.nextOf (.ref i2) >>= _) _ _ _
 refine wpAny_bind (bC (s:={ s with heap:=g2 }) (h2.at fun o e=>s2'.extBut _ _ D.i12.symm (s1'.extBut _ _ D.i2z e)) (q2.at fun o e=>s2'.extBut _ _ D.l2i1 (s1'.extBut _ _ D.l2z e)) hy fun g4 r4 s4=>wpAny_pure ?_)
 have s4':Heap.SameBut i2 g2 g4:=s4
 refine wpAny_pure (wpAny_pure ?_)
 refine wpAny_bind (wpAny_newTuple (hsz:=by show (2:Nat) <= sizeLine; decide) ?_)
 have sz:g4.objs.size = s.heap.objs.size:=by rw [s4'.1,s2'.1,s1'.1]
 refine wpAny_pure ⟨_,rfl,?_⟩
 show Q (.ref g4.objs.size) _
 have k4:∀ c o,c ≠ z -> c ≠ i1 -> c ≠ i2 -> s.heap.get? c = some o -> g4.get? c = some o:=fun c o n1 n3 n4 e=>s4'.extBut _ _ n4 (s2'.extBut _ _ n3 (s1'.extBut _ _ n1 e))
 rw [sz]
 refine q _ (Heap.get?_push_of_some _ (s4'.extBut _ _ D.i2z.symm (s2'.extBut _ _ D.i1z.symm z1))) (r2.at fun o e=>Heap.get?_push_of_some _ (s4'.extBut _ _ D.i12 e)) (r4.at fun o e=>Heap.get?_push_of_some _ e) ?_ ?_ fun c o n1 n3 n4 e=>Heap.get?_push_of_some _ (k4 c o n1 n3 n4 e)
 ·rw [<- sz]; exact Heap.get?_push_size _ rfl
 ·rw [Heap.size_push,sz]
theorem p9 {z TI TO i1 i2 a1 a2 p:Addr} {f:Bool} {op:Obj} {k1 k2:Bool} {n m:Nat} {xs ys:Array Value} {Q:Fin -> Shared -> Prop} (hh:A.handled = none) (D:ZipApart z TI TO i1 i2 a1 a2)
  (hz:cM s.heap z TI TO p f) (hp:s.heap.get? p = some op) (hI:IsPair s.heap TI (.ref i1) (.ref i2)) (h1:ItO s.heap k1 i1 a1 n) (h2:ItO s.heap k2 i2 a2 m) (q1:SqO s.heap k1 a1 xs) (q2:SqO s.heap k2 a2 ys) (hend:xs[n]? = none \/ ys[m]? = none)
  (q:∀ h' e,(∀ c o,c ≠ z -> c ≠ i1 -> c ≠ i2 -> s.heap.get? c = some o -> h'.get? c = some o) -> (∃ o,h'.get? e = some o /\ o.cls = .type "StopIteration") -> E (.ref e) { s with heap:=h' }) :
  wpAny (model prog w) A (Builtin.«zip.__next__» ⟨[.ref z],[]⟩) Q E s:=by
 show wpAny _ _ (field (.ref z) 2 >>= _) _ _ _; refine wpAny_bind (wpAny_field hz rfl (x:=.bool false) rfl ?_)
 show wpAny _ _ (field (.ref z) 3 >>= _) _ _ _; refine wpAny_bind (wpAny_field hz rfl (x:=.ref TI) rfl (wpAny_bind (wpAny_seqItems hI rfl ?_)))
 show wpAny _ _ (Builtin.SmallTypes.ownedTupleIsFree (.ref z) >>= _) _ _ _; refine wpAny_bind (Bd hz hp fun g1 z1 s1=>?_)
 have s1':Heap.SameBut z s.heap g1:=s1
 simp only [Bool.false_eq_true,if_false]
 refine wpAny_bind ?_
 simp only [List.forIn_toArray,List.forIn_cons,List.forIn_nil]
 refine wpAny_bind (wpAny_bind (wpAny_holding ?_)); show wpAny _ _ (Builtin.SmallTypes.nextOf (.ref i1) >>= _) _ _ _
 cases hx:xs[n]? with
 | none =>
  refine wpAny_bind (dF (s:={ s with heap:=g1 }) hh (h1.at fun o e=>s1'.extBut _ _ D.i1z e) (q1.at fun o e=>s1'.extBut _ _ D.l1z e) hx fun g2 e s2 he=>?_)
  exact q g2 e (fun c o n1 n3 _ y=>s2 _ _ n3 (s1'.extBut _ _ n1 y)) he
 | some x =>
  have hy:ys[m]? = none:=hend.elim (fun y=>by rw [hx] at y; cases y) id
  refine wpAny_bind (bC (s:={ s with heap:=g1 }) (h1.at fun o e=>s1'.extBut _ _ D.i1z e) (q1.at fun o e=>s1'.extBut _ _ D.l1z e) hx fun g2 r2 s2=>wpAny_pure ?_)
  have s2':Heap.SameBut i1 g1 g2:=s2
  refine wpAny_pure ?_
  refine wpAny_bind (wpAny_bind (wpAny_holding ?_)); show wpAny _ _ (Builtin.SmallTypes.nextOf (.ref i2) >>= _) _ _ _
  refine wpAny_bind (dF (s:={ s with heap:=g2 }) hh (h2.at fun o e=>s2'.extBut _ _ D.i12.symm (s1'.extBut _ _ D.i2z e)) (q2.at fun o e=>s2'.extBut _ _ D.l2i1 (s1'.extBut _ _ D.l2z e)) hy fun g4 e s4 he=>?_)
  exact q g4 e (fun c o n1 n3 n4 y=>s4 _ _ n4 (s2'.extBut _ _ n3 (s1'.extBut _ _ n1 y))) he
theorem lA {z TI TO i1 i2 a1 a2 p:Addr} {f:Bool} {op:Obj} {k1 k2:Bool} {n m:Nat} {xs ys:Array Value} {x y:Value} {Q:Option Value -> Shared -> Prop} (D:ZipApart z TI TO i1 i2 a1 a2)
  (hz:cM s.heap z TI TO p f) (hp:s.heap.get? p = some op) (hI:IsPair s.heap TI (.ref i1) (.ref i2)) (h1:ItO s.heap k1 i1 a1 n) (h2:ItO s.heap k2 i2 a2 m) (q1:SqO s.heap k1 a1 xs) (q2:SqO s.heap k2 a2 ys) (hx:xs[n]? = some x) (hy:ys[m]? = some y)
  (q:∀ h',cM h' z TI TO p true -> ItO h' k1 i1 a1 (n + 1) -> ItO h' k2 i2 a2 (m + 1) -> IsPair h' s.heap.objs.size x y -> h'.objs.size = s.heap.objs.size + 1 ->
   (∀ c o,c ≠ z -> c ≠ i1 -> c ≠ i2 -> s.heap.get? c = some o -> h'.get? c = some o) -> Q (some (.ref s.heap.objs.size)) { s with heap:=h' }):wpAny (model prog w) A (pyNext (.ref z)) Q E s:=by
 have hT:s.TypeIs (.ref z) "zip":=⟨_,hz,rfl⟩
 unfold pyNext
 exact wpAny_bind (wpAny_attempt (wpAny_callSpecial?_slot (name:=Str.ofString "__next__") hT F.slot_zip_next (wpAny_call_entry F.slot_zip_next hT F.entry_zip_next (nK D hz hp hI h1 h2 q1 q2 hx hy fun h' y1 y3 y4 y5 y6 y7=>wpAny_pure (q h' y1 y3 y4 y5 y6 y7)) (F.args_zip_next_1 _))))
theorem nN {z TI TO i1 i2 a1 a2 p:Addr} {f:Bool} {op:Obj} {k1 k2:Bool} {n m:Nat} {xs ys:Array Value} {Q:Option Value -> Shared -> Prop} (hh:A.handled = none) (D:ZipApart z TI TO i1 i2 a1 a2)
  (hz:cM s.heap z TI TO p f) (hp:s.heap.get? p = some op) (hI:IsPair s.heap TI (.ref i1) (.ref i2)) (h1:ItO s.heap k1 i1 a1 n) (h2:ItO s.heap k2 i2 a2 m) (q1:SqO s.heap k1 a1 xs) (q2:SqO s.heap k2 a2 ys) (hend:xs[n]? = none \/ ys[m]? = none)
  (q:∀ h',(∀ c o,c ≠ z -> c ≠ i1 -> c ≠ i2 -> s.heap.get? c = some o -> h'.get? c = some o) -> Q none { s with heap:=h' }):wpAny (model prog w) A (pyNext (.ref z)) Q E s:=by
 have hT:s.TypeIs (.ref z) "zip":=⟨_,hz,rfl⟩
 unfold pyNext
 refine wpAny_bind (wpAny_attempt (wpAny_callSpecial?_slot (name:=Str.ofString "__next__") hT F.slot_zip_next (wpAny_call_entry F.slot_zip_next hT F.entry_zip_next (p9 hh D hz hp hI h1 h2 q1 q2 hend fun h' e hk he=>?_) (F.args_zip_next_1 _))))
 obtain ⟨o,ho,hc⟩:=he
 exact wpAny_bind (wpAny_isInstance (T:="StopIteration") (b:=true) ⟨o,ho,hc⟩ isSubtype_stop (wpAny_pure (q _ hk)))
end
end L3
namespace L3
open PySem PySem.Spec PyProof.Rows L2
theorem lr:typeLookup (.type "zip") "__len__" = pure none:=by rw [typeLookup_type,builtinLookup_eq_fast]; kernel_rfl
theorem ke:typeLookup (.type "zip") "__length_hint__" = pure none:=by rw [typeLookup_type,builtinLookup_eq_fast]; kernel_rfl
def ZX (z TI TO i1 i2:Addr) (k1 k2:Bool) (a1 a2 S:Addr) (i:Nat) (h:Heap):Prop :=
 IsPair h TI (.ref i1) (.ref i2) /\ ItO h k1 i1 a1 i /\ ItO h k2 i2 a2 i /\ ((IsZip h z TI TO .none /\ ∃ a b,IsPair h TO a b) \/ ∃ p f op,cM h z TI TO p f /\ h.get? p = some op /\ S < p)
structure ZG (xs ys:Array Value) (S:Addr) (h:Heap) (as:List Addr):Prop where
 rise:as.Pairwise (· < ·)
 above:∀ a ∈ as,S < a
 pairs:∀ (j:Nat) (a:Addr),as[j]? = some a -> ∃ x y,xs[j]? = some x /\ ys[j]? = some y /\ IsPair h a x y
theorem ZG.there {xs ys : Array Value} {S : Addr} {h : Heap} {as : List Addr} (g : ZG xs ys S h as) {a : Addr} (ha : a ∈ as) : a < h.objs.size := by
 obtain ⟨j, hj⟩ := List.getElem?_of_mem ha
 obtain ⟨_, _, _, _, e⟩ := g.pairs j a hj
 exact Heap.lt_size e
theorem ZG.snoc {xs ys : Array Value} {S n : Addr} {h h' : Heap} {as : List Addr} {x y : Value} (g : ZG xs ys S h as) (hx : xs[as.length]? = some x) (hy : ys[as.length]? = some y) (hp : IsPair h' n x y) (hn : S < n) (hl : h.objs.size ≤ n)
  (up : ∀ a o, S < a → h.get? a = some o → h'.get? a = some o) : ZG xs ys S h' (as ++ [n]) where
 rise := by
  simp only [List.pairwise_append, List.pairwise_cons, List.mem_cons, List.not_mem_nil]
  exact ⟨g.rise, by simp, fun a ha b hb => hb.elim (fun e => e ▸ Nat.lt_of_lt_of_le (g.there ha) hl) False.elim⟩
 above := fun a ha => by
  simp only [List.mem_append, List.mem_cons, List.not_mem_nil, or_false] at ha
  exact ha.elim (g.above a) fun e => e ▸ hn
 pairs := fun j a e => by
  rw [List.getElem?_append] at e
  split at e
  ·obtain ⟨u, v, e1, e2, e3⟩ := g.pairs j a e
   exact ⟨u, v, e1, e2, up a _ (g.above a (List.mem_of_getElem? e)) e3⟩
  ·have hj : j - as.length = 0 := by
    by_cases hz : j - as.length = 0
    ·exact hz
    ·rw [List.getElem?_eq_none (by simp; omega)] at e; cases e
   have hj' : j = as.length := by omega
   rw [hj] at e
   cases e
   exact ⟨x, y, hj' ▸ hx, hj' ▸ hy, hp⟩
abbrev lObj_g (xs : List Value) (c : Nat) : Obj := { cls := .type "list", data := .seq xs.toArray c }
def keepB (S : Addr) (h h' : Heap) : Prop := ∀ b o, b ≠ S → h.get? b = some o → h'.get? b = some o
section
variable {prog : Program} {w : World} {A : Around} {E : Value → Shared → Prop} {s : Shared} {S it : Addr} {xs : List Value} {c : Nat}
theorem putL_g {f : Array Value → Array Value} {Q : Unit → Shared → Prop} (hS : s.heap.get? S = some (lObj_g xs c)) (h1 : xs.length ≤ sizeLine) (h2 : (f xs.toArray).size ≤ sizeLine + 1)
  (q : ∀ h' c', h'.get? S = some (lObj_g (f xs.toArray).toList c') → keepB S s.heap h' → Q () { s with heap := h' }) : wpAny (model prog w) A (updateSeq S f) Q E s :=
 wpAny_updateSeq hS rfl (q _ _ (Heap.get?_update_self (Obj.mapSeq f) hS rfl) fun _ _ hb e => by rw [Heap.get?_update_other _ _ hb.symm]; exact e) h1 h2
theorem grow_g {J J' : List Value → Heap → Prop} {N : Nat} {R : Result → Shared → Prop} {res : Value} (hN : N ≤ sizeLine) (keep : ∀ vs h h', J vs h → keepB S h h' → J vs h')
  (next : ∀ vs (h : Heap) (Q : Option Value → Shared → Prop) (E : Value → Shared → Prop), J vs h → vs.length < N → S < h.objs.size → (∀ v h', J (vs ++ [v]) h' → (∀ o, h.get? S = some o → h'.get? S = some o) → Q (some v) { s with heap := h' }) → wpAny (model prog w) A.in1 (pyNext (.ref it)) Q E { s with heap := h })
  (stop : ∀ vs (h : Heap) (Q : Option Value → Shared → Prop) (E : Value → Shared → Prop), J vs h → vs.length = N → (∀ h', J' vs h' → (∀ o, h.get? S = some o → h'.get? S = some o) → Q none { s with heap := h' }) → wpAny (model prog w) A.in1 (pyNext (.ref it)) Q E { s with heap := h })
  (hR : ∀ vs h c, vs.length = N → J' vs h → h.get? S = some (lObj_g vs c) → R (.ok (.ret res)) { s with heap := h }) (vs : List Value) (h : Heap) (c : Nat) (hl : vs.length ≤ N) (j : J vs h) (hS : h.get? S = some (lObj_g vs c)) :
  codeAny (model prog w) A (.builtin "list.extend.loop" ⟨[.ref S, .ref it, res], []⟩) R { s with heap := h } := by
 apply codeAny_builtin PySem.F.entry_extend_loop
 rw [Around.under_plainId PySem.F.plain_extend_loop]
 by_cases hn : vs.length = N
 ·exact wpAny_bind (stop vs h _ _ j hn fun g j' e => wpAny_pure (hR vs g c hn j' (e _ hS)))
 ·refine wpAny_bind (next vs h _ _ j (by omega) (Heap.lt_size hS) fun v g j' e => wpAny_bind (putL_g (f := (·.push v)) (s := { s with heap := g }) (e _ hS) (by omega) (by simp; omega) fun g' c' hg kg => wpAny_pure ⟨plainId_quiet PySem.F.plain_extend_loop _, ?_⟩))
  rw [show (vs.toArray.push v).toList = vs ++ [v] by simp] at hg
  exact grow_g hN keep next stop hR (vs ++ [v]) g' c' (by simp; omega) (keep _ _ _ j' kg) hg
termination_by N - vs.length
decreasing_by simp; omega
theorem gather_g {T : String} {room : Bool} {Q : Value → Shared → Prop} (hT : s.TypeIs (.ref it) T) (hl : (Value.type T == Value.type "list") = false) (ht : (Value.type T == Value.type "tuple") = false)
  (self : ∀ (h : Heap) (Q : Value → Shared → Prop) (E : Value → Shared → Prop), (∀ o, s.heap.get? it = some o → h.get? it = some o) → Q (.ref it) { s with heap := h } → wpAny (model prog w) A.in1.in1 (pyIter (.ref it)) Q E { s with heap := h })
  (look : ∀ (h : Heap) (Q : Bool → Shared → Prop) (E : Value → Shared → Prop), (∀ o, s.heap.get? it = some o → h.get? it = some o) → Q room { s with heap := h } → wpAny (model prog w) A.in1.in1 (Builtin.List.listLengthHint (.ref it)) Q E { s with heap := h })
  (go : ∀ (h : Heap) (c : Nat), (∀ b o, s.heap.get? b = some o → h.get? b = some o) → h.get? s.heap.objs.size = some (lObj_g [] c) →
   codeAny (model prog w) A.in1 (.builtin "list.extend.loop" ⟨[.ref s.heap.objs.size, .ref it, .none], []⟩) (wants (fun r s' => r = .none ∧ Q (.ref s.heap.objs.size) s') E) { s with heap := h }) :
  wpAny (model prog w) A (call (.type "list") [.ref it]) Q E s := by
 obtain ⟨oi, hi, ci⟩ := hT
 have lt : it < s.heap.objs.size := Heap.lt_size hi
 apply callType_codes (Q₁ := fun v s' => v = .ref s.heap.objs.size ∧ s' = { s with heap := s.heap.push (lObj_g [] 0) }) PySem.F.called_list (PySem.F.typeCall_list_1 _) PySem.F.entry_list_init (code_list_new _ ⟨rfl, rfl⟩)
 rintro _ _ ⟨rfl, rfl⟩
 have new : (s.heap.push (lObj_g [] 0)).get? s.heap.objs.size = some (lObj_g [] 0) := Heap.get?_push_size _ rfl
 have old : ∀ b o, s.heap.get? b = some o → (s.heap.push (lObj_g [] 0)).get? b = some o := fun b o e => Heap.get?_push_of_some _ e
 refine ⟨⟨_, new, rfl⟩, PySem.F.args_list_init_2 _ _, wpAny_bind (wpAny_bind (wpAny_seqItems new rfl (wpAny_pure ?_)))⟩
 refine wpAny_bind (putL_g (s := { s with heap := s.heap.push (lObj_g [] 0) }) (f := fun _ => #[]) new (Nat.zero_le _) (Nat.zero_le _) fun g c1 n1 k1 => wpAny_bind (wpAny_letGo ?_))
 have old1 : ∀ b o, s.heap.get? b = some o → g.get? b = some o := fun b o e => k1 b o (Nat.ne_of_lt (Heap.lt_size e)) (old b o e)
 refine wpAny_bind (wpAny_typeOf (T := T) ⟨oi, old1 _ _ hi, ci⟩ ?_)
 rw [if_neg (by simp [Builtin.List.listSameRef, hl, ht]; exact fun e => absurd e (Nat.ne_of_gt lt))]
 refine wpAny_bind (self g _ _ (old1 it) (wpAny_bind (wpAny_holding (look g _ _ (old1 it) ?_))))
 have last : ∀ h c, keepB s.heap.objs.size g h → h.get? s.heap.objs.size = some (lObj_g [] c) → codeAny (model prog w) A.in1 (.builtin "list.extend.loop" ⟨[.ref s.heap.objs.size, .ref it, .none], []⟩) (wants (fun r s' => r = .none ∧ Q (.ref s.heap.objs.size) s') E) { s with heap := h } :=
  fun h c k n => go h c (fun b o e => k b o (Nat.ne_of_lt (Heap.lt_size e)) (old1 b o e)) n
 have fin : ∀ h c, keepB s.heap.objs.size g h → h.get? s.heap.objs.size = some (lObj_g [] c) → wpAny (model prog w) A.in1.in1 (again (.builtin "list.extend.loop" ⟨[.ref s.heap.objs.size, .ref it, .none], []⟩))
   (fun fin s' => match fin with | .done f => wants (fun r s' => r = .none ∧ Q (.ref s.heap.objs.size) s') E (.ok f) s' | .again c' => c'.quiet = true ∧ codeAny (model prog w) A.in1 c' (wants (fun r s' => r = .none ∧ Q (.ref s.heap.objs.size) s') E) s')
   (fun e s' => wants (fun r s' => r = .none ∧ Q (.ref s.heap.objs.size) s') E (.error e) s') { s with heap := h } := fun h c k n => wpAny_pure ⟨plainId_quiet PySem.F.plain_extend_loop _, last h c k n⟩
 refine wpAny_ite_split (fun _ => wpAny_bind (wpAny_rule (wpAny_bind (wpAny_bind (putL_g (s := { s with heap := g }) (f := (·.push .none)) n1 (Nat.zero_le _) (by simp) fun g2 c2 n2 k2 => ?_))))) fun _ => fin g c1 (fun _ _ _ e => e) n1
 refine putL_g (s := { s with heap := g2 }) (f := (·.pop)) n2 (show 1 ≤ sizeLine by decide) (by simp) fun g3 c3 n3 k3 => ?_
 exact fin g3 c3 (fun b o hb e => k3 b o hb (k2 b o hb e)) n3
end
section
variable {prog:Program} {w:World} {A:Around} {E:Value -> Shared -> Prop} {s:Shared} {z TI TO i1 i2 a1 a2 S:Addr} {k1 k2:Bool} {xs ys:Array Value}
theorem uj {i:Nat} {x y:Value} {Q:Option Value -> Shared -> Prop} (D:ZipApart z TI TO i1 i2 a1 a2) (hb:∀ b ∈ [z,TI,TO,i1,i2,a1,a2],b < S) (hS:S < s.heap.objs.size) (st:ZX z TI TO i1 i2 k1 k2 a1 a2 S i s.heap) (q1:SqO s.heap k1 a1 xs) (q2:SqO s.heap k2 a2 ys) (hx:xs[i]? = some x) (hy:ys[i]? = some y)
  (q:∀ h',ZX z TI TO i1 i2 k1 k2 a1 a2 S (i + 1) h' -> IsPair h' s.heap.objs.size x y -> h'.objs.size = s.heap.objs.size + 1 -> (∀ c o,c ∉ [z,TO,i1,i2] -> s.heap.get? c = some o -> h'.get? c = some o) -> Q (some (.ref s.heap.objs.size)) { s with heap:=h' }) :
  wpAny (model prog w) A (pyNext (.ref z)) Q E s:=by
 obtain ⟨hI,h1,h2,hz⟩:=st
 rcases hz with ⟨hz,a,b,hO⟩ | ⟨p,f,op,hz,hp,hSp⟩
 ·refine fX D hz hI hO h1 h2 q1 q2 hx hy fun h' y1 y2 y3 y4 y5 y6 y7=>?_
  refine q h' ⟨y7 _ _ D.TIz D.TITO D.TIi1 D.TIi2 hI,y3,y4,.inr ⟨_,false,_,y1,y5,hS⟩⟩ y5 y6 fun c o hc e=>?_
  simp only [List.mem_cons,List.not_mem_nil,or_false,not_or] at hc
  exact y7 c o hc.1 hc.2.1 hc.2.2.1 hc.2.2.2 e
 ·have pz:∀ b ∈ [z,TI,TO,i1,i2,a1,a2],p ≠ b:=fun b h=>Nat.ne_of_gt (Nat.lt_trans (hb b h) hSp)
  refine lA D hz hp hI h1 h2 q1 q2 hx hy fun h' y1 y3 y4 y5 y6 y7=>?_
  refine q h' ⟨y7 _ _ D.TIz D.TIi1 D.TIi2 hI,y3,y4,.inr ⟨p,true,op,y1,y7 p op (pz _ (by simp)) (pz _ (by simp)) (pz _ (by simp)) hp,hSp⟩⟩ y5 y6 fun c o hc e=>?_
  simp only [List.mem_cons,List.not_mem_nil,or_false,not_or] at hc
  exact y7 c o hc.1 hc.2.2.1 hc.2.2.2 e
theorem rL {i:Nat} {Q:Option Value -> Shared -> Prop} (hh:A.handled = none) (D:ZipApart z TI TO i1 i2 a1 a2) (st:ZX z TI TO i1 i2 k1 k2 a1 a2 S i s.heap) (q1:SqO s.heap k1 a1 xs) (q2:SqO s.heap k2 a2 ys) (hend:xs[i]? = none \/ ys[i]? = none)
  (q:∀ h',(∀ c o,c ∉ [z,TO,i1,i2] -> s.heap.get? c = some o -> h'.get? c = some o) -> Q none { s with heap:=h' }):wpAny (model prog w) A (pyNext (.ref z)) Q E s:=by
 obtain ⟨hI,h1,h2,hz⟩:=st
 rcases hz with ⟨hz,a,b,hO⟩ | ⟨p,f,op,hz,hp,hSp⟩
 ·refine ia hh D hz hI hO h1 h2 q1 q2 hend fun h' y7=>q h' fun c o hc e=>?_
  simp only [List.mem_cons,List.not_mem_nil,or_false,not_or] at hc
  exact y7 c o hc.1 hc.2.1 hc.2.2.1 hc.2.2.2 e
 ·refine nN hh D hz hp hI h1 h2 q1 q2 hend fun h' y7=>q h' fun c o hc e=>?_
  simp only [List.mem_cons,List.not_mem_nil,or_false,not_or] at hc
  exact y7 c o hc.1 hc.2.2.1 hc.2.2.2 e
theorem ZX.keep {i : Nat} {h h' : Heap} (st : ZX z TI TO i1 i2 k1 k2 a1 a2 S i h) (hb : ∀ b ∈ [z, TI, TO, i1, i2, a1, a2], b < S) (hk : keepB S h h') : ZX z TI TO i1 i2 k1 k2 a1 a2 S i h' := by
 have pz : ∀ b ∈ [z, TI, TO, i1, i2, a1, a2], ∀ o, h.get? b = some o → h'.get? b = some o := fun b m o e => hk b o (Nat.ne_of_lt (hb b m)) e
 obtain ⟨hI, h1, h2, hz⟩ := st
 refine ⟨pz _ (by simp) _ hI, h1.at fun o e => pz _ (by simp) o e, h2.at fun o e => pz _ (by simp) o e, hz.imp ?_ ?_⟩
 ·rintro ⟨hz, a, b, hO⟩
  exact ⟨pz _ (by simp) _ hz, a, b, pz _ (by simp) _ hO⟩
 ·rintro ⟨p, f, op, hz, hp, hSp⟩
  exact ⟨p, f, op, pz _ (by simp) _ hz, hk _ _ (Nat.ne_of_gt hSp) hp, hSp⟩
def ZJ_g (z TI TO i1 i2 : Addr) (k1 k2 : Bool) (a1 a2 S : Addr) (xs ys : Array Value) (h₁ : Heap) (vs : List Value) (h : Heap) : Prop :=
 ∃ as, vs = as.map Value.ref ∧ ZX z TI TO i1 i2 k1 k2 a1 a2 S as.length h ∧ SqO h k1 a1 xs ∧ SqO h k2 a2 ys ∧ ZG xs ys S h as ∧ ∀ b o, b ≠ S → b ∉ [z, TO, i1, i2] → h₁.get? b = some o → h.get? b = some o
def ZE_g (z TO i1 i2 S : Addr) (xs ys : Array Value) (h₁ : Heap) (vs : List Value) (h : Heap) : Prop :=
 ∃ as, vs = as.map Value.ref ∧ ZG xs ys S h as ∧ ∀ b o, b ≠ S → b ∉ [z, TO, i1, i2] → h₁.get? b = some o → h.get? b = some o
theorem sW {Q : Value → Shared → Prop} (hh : A.handled = none) (D : ZipApart z TI TO i1 i2 a1 a2) (hb : ∀ b ∈ [z, TI, TO, i1, i2, a1, a2], b < s.heap.objs.size) (hn : min xs.size ys.size ≤ sizeLine)
  (hz : IsZip s.heap z TI TO .none) (hI : IsPair s.heap TI (.ref i1) (.ref i2)) (hO : ∃ a b, IsPair s.heap TO a b) (h1 : ItO s.heap k1 i1 a1 0) (h2 : ItO s.heap k2 i2 a2 0) (q1 : SqO s.heap k1 a1 xs) (q2 : SqO s.heap k2 a2 ys)
  (hQ : ∀ h' tk acc c as, (∀ b o, b ∉ [z, TO, i1, i2] → s.heap.get? b = some o → h'.get? b = some o) → h'.get? s.heap.objs.size = some { cls := .type "list", dict := none, data := .seq acc c, slots := #[] } → as.length = min xs.size ys.size → ZG xs ys s.heap.objs.size h' as →
   acc.toList = as.map Value.ref → Q (.ref s.heap.objs.size) { s with heap := h', toks := tk }) :
  wpAny (model prog w) A (call (.type "list") [.ref z]) Q E s := by
 obtain ⟨ta, tb, hO⟩ := hO
 have zt : ∀ h : Heap, (∀ o, s.heap.get? z = some o → h.get? z = some o) → ({ s with heap := h } : Shared).TypeIs (.ref z) "zip" := fun h k => ⟨_, k _ hz, rfl⟩
 have sub : ∀ b, b ∈ [z, TO, i1, i2] → b < s.heap.objs.size := fun b m => hb b (by simp only [List.mem_cons] at m ⊢; rcases m with e | e | e | e | e <;> simp_all)
 have nS : s.heap.objs.size ∉ [z, TO, i1, i2] := fun m => Nat.lt_irrefl _ (sub _ m)
 have nP : ∀ b, s.heap.objs.size < b → b ∉ [z, TO, i1, i2] := fun b g m => Nat.lt_asymm g (sub b m)
 have n1 : a1 ∉ [z, TO, i1, i2] := by simp [D.l1z, D.l1TO, D.l1i1, D.l1i2]
 have n2 : a2 ∉ [z, TO, i1, i2] := by simp [D.l2z, D.l2TO, D.l2i1, D.l2i2]
 have kS : ∀ {h h' : Heap}, (∀ c o, c ∉ [z, TO, i1, i2] → h.get? c = some o → h'.get? c = some o) → ∀ o, h.get? s.heap.objs.size = some o → h'.get? s.heap.objs.size = some o := fun k o e => k _ o nS e
 refine gather_g (T := "zip") (room := true) (zt _ fun _ e => e) (by decide) (by decide) (fun h Q' E' k q' => wpAny_pyIter_zip (k _ hz) q') (fun h Q' E' k q' => ?_) fun h c k hl => ?_
 ·unfold Builtin.List.listLengthHint
  exact wpAny_bind (wpAny_specialOf (zt h k) lr (wpAny_bind (wpAny_specialOf (zt h k) ke (wpAny_pure q'))))
 ·refine grow_g (N := min xs.size ys.size) (J := ZJ_g z TI TO i1 i2 k1 k2 a1 a2 s.heap.objs.size xs ys s.heap) (J' := ZE_g z TO i1 i2 s.heap.objs.size xs ys s.heap) hn ?_ ?_ ?_ ?_ [] h c (Nat.zero_le _) ?_ hl
  ·rintro vs g g' ⟨as, e, st, p1, p2, zg, r⟩ kp
   refine ⟨as, e, st.keep hb kp, p1.at fun o e => kp _ o (Nat.ne_of_lt (hb _ (by simp))) e, p2.at fun o e => kp _ o (Nat.ne_of_lt (hb _ (by simp))) e, ⟨zg.rise, zg.above, fun j a hj => ?_⟩, fun b o nb nm e => kp b o nb (r b o nb nm e)⟩
   obtain ⟨x, y, e1, e2, e3⟩ := zg.pairs j a hj
   exact ⟨x, y, e1, e2, kp a _ (Nat.ne_of_gt (zg.above a (List.mem_of_getElem? hj))) e3⟩
  ·rintro vs g Q' E' ⟨as, rfl, st, p1, p2, zg, r⟩ lt hs q'
   rw [List.length_map] at lt
   obtain ⟨x, hx⟩ : ∃ x, xs[as.length]? = some x := ⟨_, Array.getElem?_eq_getElem (by omega)⟩
   obtain ⟨y, hy⟩ : ∃ y, ys[as.length]? = some y := ⟨_, Array.getElem?_eq_getElem (by omega)⟩
   refine uj (s := { s with heap := g }) (S := s.heap.objs.size) D hb hs st p1 p2 hx hy fun g' st' pr sz kk => q' (.ref g.objs.size) g' ⟨as ++ [g.objs.size], by simp, ?_, p1.at fun o e => kk _ o n1 e, p2.at fun o e => kk _ o n2 e, ?_, fun b o nb nm e => kk b o nm (r b o nb nm e)⟩ (kS kk)
   ·rw [List.length_append]; exact st'
   ·exact zg.snoc hx hy pr hs (Nat.le_refl _) fun a o la e => kk a o (nP a la) e
  ·rintro vs g Q' E' ⟨as, rfl, st, p1, p2, zg, r⟩ eq q'
   rw [List.length_map] at eq
   refine rL (s := { s with heap := g }) (A := A.in1.in1) (S := s.heap.objs.size) hh D st p1 p2 (by rw [Array.getElem?_eq_none_iff, Array.getElem?_eq_none_iff]; omega) fun g' kk => q' g' ⟨as, rfl, ⟨zg.rise, zg.above, fun j a hj => ?_⟩, fun b o nb nm e => kk b o nm (r b o nb nm e)⟩ (kS kk)
   obtain ⟨x, y, e1, e2, e3⟩ := zg.pairs j a hj
   exact ⟨x, y, e1, e2, kk a _ (nP a (zg.above a (List.mem_of_getElem? hj))) e3⟩
  ·rintro vs g c' len ⟨as, rfl, zg, r⟩ hS
   exact ⟨rfl, hQ g s.toks _ c' as (fun b o nb e => r b o (Nat.ne_of_lt (Heap.lt_size e)) nb e) hS (by simpa using len) zg (by simp)⟩
  ·exact ⟨[], rfl, ⟨k _ _ hI, h1.at fun o e => k _ o e, h2.at fun o e => k _ o e, .inl ⟨k _ _ hz, ta, tb, k _ _ hO⟩⟩, q1.at fun o e => k _ o e, q2.at fun o e => k _ o e, ⟨.nil, by simp, by simp⟩, fun b o _ _ e => k b o e⟩
end
end L3
namespace L3
open PySem PySem.Spec PyProof.Rows L2
section
variable {X:Cx} {pins:List (Addr × Obj)} {σ:L2.St} {H H':Hp} {s:Shared} {h':Heap}
theorem qT {t':Nat} (I:Inv X pins σ H s) (k:∀ b u,s.heap.get? b = some u -> h'.get? b = some u) (hm:∀ b o,H b = some o -> H' b = some o) (hn:∀ b,H b = none -> b < s.heap.objs.size -> H' b = none)
  (hok:∀ b u,H b = none -> H' b = some u -> ObjOk X.prog X.w H' h' b u):Inv X pins σ H' { s with heap:=h',toks:=t' }:=by
 refine I.un ⟨fun b ob q _ _ _=>k b ob q,fun b ob q _ _ _=>⟨ob.slots,k b ob q⟩,fun b o q n _=>hn b n (Heap.lt_size q),fun b ob q _=>⟨ob,k b ob q⟩,fun b xs q=>hm b _ q,fun b o u q=>hm b _ q,fun b ps q=>⟨#[],by rw [hm b _ q]; simp⟩⟩ fun b u e=>?_
 cases hb:H b with
 | none=>exact hok b u hb e
 | some o =>
  rw [hm b o hb] at e
  cases e
  exact (I.hok b _ hb).stay (fun c v _ q=>k c v q) (fun c q=>hm c _ q) fun c xs q=>hm c _ q
def fz:Hp -> List Addr -> List V -> List V -> Hp
 | H,p :: ps,x :: xs,y :: ys=>fz (upd H p (.tup [x,y])) ps xs ys
 | H,_,_,_=>H
theorem cz:∀ {ps:List Addr} {xs ys:List V} {H:Hp} {b:Addr},b ∉ ps -> fz H ps xs ys b = H b
 | [],_,_,_,_,_=>by simp [fz]
 | p :: ps,[],_,_,_,_=>by simp [fz]
 | p :: ps,_ :: _,[],_,_,_=>by simp [fz]
 | p :: ps,x :: xs,y :: ys,H,b,hb=>by
  rw [List.mem_cons,not_or] at hb
  show fz (upd H p (.tup [x,y])) ps xs ys b = _
  rw [cz hb.2,ag hb.1]
theorem iu:∀ {ps:List Addr} {xs ys:List V} {H:Hp} {j:Nat} {p:Addr},ps.Pairwise (· < ·) -> ps.length <= xs.length -> ps.length <= ys.length -> ps[j]? = some p -> ∃ x y,xs[j]? = some x /\ ys[j]? = some y /\ fz H ps xs ys p = some (.tup [x,y])
 | [],_,_,_,_,_,_,_,_,h=>by simp at h
 | p :: ps,[],_,_,_,_,_,h1,_,_=>by simp at h1
 | p :: ps,_ :: _,[],_,_,_,_,_,h1,_=>by simp at h1
 | p :: ps,x :: xs,y :: ys,H,0,q,hp,_,_,h=>by
  cases h
  refine ⟨x,y,rfl,rfl,?_⟩
  show fz (upd H p (.tup [x,y])) ps xs ys p = _
  rw [cz (fun hm=>Nat.lt_irrefl _ ((List.pairwise_cons.mp hp).1 p hm)),ao]
 | p :: ps,x :: xs,y :: ys,H,j + 1,q,hp,h1,h2,h=>by
  obtain ⟨x',y',e1,e2,e3⟩:=iu (H:=upd H p (.tup [x,y])) (List.pairwise_cons.mp hp).2 (Nat.le_of_succ_le_succ h1) (Nat.le_of_succ_le_succ h2) (show ps[j]? = some q from h)
  exact ⟨x',y',e1,e2,e3⟩
def tLZ (K:PySem.W.Frag) (ta:TA):TE:=fun σ H Q=>ta σ H fun vs H1=>∃ k1 k2 a1 a2 xs ys,vs = [.ref a1,.ref a2] /\ Sq K H1 k1 a1 xs /\ Sq K H1 k2 a2 ys /\ ∀ l ps,ps.length = min xs.length ys.length -> ps.Pairwise (· < ·) -> (∀ p ∈ ps,H1 p = none /\ l < p) -> H1 l = none -> Q (.ref l) (upd (fz H1 ps xs ys) l (.lst (ps.map V.ref)))
theorem gS:∀ ps:List Addr,Vals (ps.map V.ref) (ps.map Value.ref)
 | []=>.nil
 | _ :: ps=>.cons rfl (gS ps)
theorem zZ {a b:Expr} {ta:TA} {p p2 pos pos2:Pos} (hc:X.calm = true) (hgl:Gl X "list") (hml:X.mg "list" = none) (hg:Gl X "zip") (hm:X.mg "zip" = none) (ha:PA X [a,b] ta)
  (hs:starEach [a,b] X.env = [(false,eval a X.env),(false,eval b X.env)]:=by rfl) (hs2:starEach [b] X.env = [(false,eval b X.env)]:=by rfl)
  (he:starEach [.Call (.Name "zip" p2) [a,b] [] pos2] X.env = (false,eval (.Call (.Name "zip" p2) [a,b] [] pos2) X.env) :: starEach [] X.env:=by rfl) :
  PE X (.Call (.Name "list" p) [.Call (.Name "zip" p2) [a,b] [] pos2] [] pos) (tLZ X.K ta):=by
 intro pins s σ H Q I h
 refine wpAny_Call_Name_kw (dz I hgl hml PyProof.Rows.boot_list ?_ (by decide) (by decide))
 refine PyProof.Rows.callWith_type1 ?_ he rfl
 rw [he]
 refine Calls.spliced_cons ?_
 refine Call_ (dz I hg hm boot_zip (PyProof.Rows.callWith_type1 (thn (ha pos2 pins s σ H _ I h) fun us s1 ⟨vs,H1,I1,r1,q1⟩=>?_) (by rw [hs,hs2]) (by rw [hs2]; rfl)))
 obtain ⟨k1,k2,a1,a2,xs,ys,rfl,s1',s2',q⟩:=q1
 cases r1 with
 | cons r rr =>
  cases rr with
  | cons r' rr =>
   cases rr
   cases r
   cases r'
   obtain ⟨its1,v1,o1,z1⟩:=j1 I1 s1'
   obtain ⟨its2,v2,o2,z2⟩:=j1 I1 s2'
   refine lJ o1 o2 fun h1 q1 q2 q3 q4 q5 kk=>Calls.spliced_nil ?_
   have D:=zipApart_new o1.lt o2.lt
   have lt1:=o1.lt
   have lt2:=o2.lt
   have zlt:s1.heap.objs.size + 4 < h1.objs.size:=Heap.lt_size q1
   have l1:=v1.length
   have l2:=v2.length
   refine sW (s:={ s1 with heap:=h1 }) (I.ok.hd hc) D (fun b hb=>?_) ?_ q1 q2 ⟨_,_,q3⟩ q4 q5 (o1.at fun o e=>kk _ o e) (o2.at fun o e=>kk _ o e) fun h' tk acc c as hk hS hl hG hacc=>?_
   ·simp only [List.mem_cons,List.not_mem_nil,or_false] at hb
    rcases hb with e | e | e | e | e | e | e <;> rw [e]
    ·exact zlt
    ·exact Nat.lt_of_le_of_lt (Nat.add_le_add_left (by decide) _) zlt
    ·exact Nat.lt_of_le_of_lt (Nat.add_le_add_left (by decide) _) zlt
    ·exact Nat.lt_of_le_of_lt (Nat.le_add_right _ _) zlt
    ·exact Nat.lt_of_le_of_lt (Nat.add_le_add_left (by decide) _) zlt
    ·exact Nat.lt_of_lt_of_le lt1 (Nat.le_trans (Nat.le_add_right _ _) (Nat.le_of_lt zlt))
    ·exact Nat.lt_of_lt_of_le lt2 (Nat.le_trans (Nat.le_add_right _ _) (Nat.le_of_lt zlt))
   ·simp; omega
   ·have hl':as.length = min xs.length ys.length:=by rw [hl]; simp; omega
    have kall:∀ b u,s1.heap.get? b = some u -> h'.get? b = some u:=fun b u e=>by
     have hlt:b < s1.heap.objs.size:=Heap.lt_size e
     refine hk b u (fun hm=>?_) (kk b u e)
     simp only [List.mem_cons,List.not_mem_nil,or_false] at hm
     rcases hm with z | z | z | z
     ·rw [z] at hlt; exact absurd (Nat.le_add_right _ 4) (Nat.not_le_of_lt hlt)
     ·rw [z] at hlt; exact absurd (Nat.le_add_right _ 3) (Nat.not_le_of_lt hlt)
     ·rw [z] at hlt; exact Nat.lt_irrefl _ hlt
     ·rw [z] at hlt; exact absurd (Nat.le_add_right _ 1) (Nat.not_le_of_lt hlt)
    have hge:s1.heap.objs.size <= h1.objs.size:=Nat.le_trans (Nat.le_add_right _ _) (Nat.le_of_lt zlt)
    have fre:∀ b,h1.objs.size <= b -> H1 b = none:=fun b hb=>I1.hok.fresh (Nat.le_trans hge hb)
    have hl1:h1.objs.size ∉ as:=fun hm=>Nat.lt_irrefl _ (hG.above _ hm)
    refine ⟨.ref h1.objs.size,upd (fz H1 as xs ys) h1.objs.size (.lst (as.map V.ref)),qT (s:=s1) I1 (t':=tk) kall (fun b o e=>?_) (fun b e hlt=>?_) (fun b u e e'=>?_),rfl,q _ as hl' hG.rise (fun p hp=>⟨fre p (Nat.le_of_lt (hG.above p hp)),hG.above p hp⟩) (fre _ (Nat.le_refl _))⟩
    ·have hb:b ∉ as:=fun hm=>by rw [fre b (Nat.le_of_lt (hG.above b hm))] at e; cases e
     rw [ag (fun z=>by rw [z,fre _ (Nat.le_refl _)] at e; cases e),cz hb]; exact e
    ·have hb:b ∉ as:=fun hm=>Nat.lt_irrefl _ (Nat.lt_trans (Nat.lt_of_lt_of_le hlt hge) (hG.above b hm))
     rw [ag (Nat.ne_of_lt (Nat.lt_of_lt_of_le hlt hge)),cz hb]; exact e
    ·by_cases hb:b = h1.objs.size
     ·subst hb
      rw [ao] at e'
      cases e'
      refine ⟨?_,acc.toList,c,by rw [hacc]; exact gS as,by rw [Array.toArray_toList]; exact hS⟩
      rw [List.length_map,hl']; omega
     ·rw [ag hb] at e'
      by_cases hm:b ∈ as
      ·obtain ⟨j,hj⟩:=List.mem_iff_getElem?.mp hm
       obtain ⟨x,y,e1,e2,e3⟩:=iu (H:=H1) (xs:=xs) (ys:=ys) hG.rise (by omega) (by omega) hj
       rw [e3] at e'
       cases e'
       obtain ⟨u1,u2,f1,f2,f3⟩:=hG.pairs j b hj
       obtain ⟨w1,g1,t1⟩:=v1.get e1
       obtain ⟨w2,g2,t2⟩:=v2.get e2
       have g1':its1.toArray[j]? = some w1:=by simpa using g1
       have g2':its2.toArray[j]? = some w2:=by simpa using g2
       rw [g1'] at f1
       rw [g2'] at f2
       cases f1
       cases f2
       exact ⟨by show 2 <= sizeLine; decide,[_,_],.cons t1 (.cons t2 .nil),⟨_,f3,rfl,_,rfl⟩⟩
      ·rw [cz hm,e] at e'; cases e'
end
end L3

set_option Elab.async false
set_option linter.all false
set_option maxRecDepth 100000
set_option maxHeartbeats 4000000
namespace L3
open PySem PySem.Spec PyProof.Rows L2
theorem dG:∀ {ns:List Int} {us:List Value},Vals (ns.map V.int) us -> IntsAre us ns
 | [],_,.nil=>.nil
 | n :: ns,_,.cons ⟨t,e⟩ r=>by cases e; exact .cons n t (dG r)
end L3
namespace L3
open PySem PySem.Spec PyProof.Rows L2
abbrev vN (h:Heap) (T:Addr) (a b c:Value):Prop:=h.get? T = some { cls:=.type "tuple",data:=.seq #[a,b,c] }
section
variable {prog:Program} {w:World} {A:Around} {E:Value -> Shared -> Prop} {s:Shared}
end
end L3
namespace L3
open PySem PySem.Spec PyProof.Rows L2
section
variable {prog:Program} {w:World} {A:Around} {E:Value -> Shared -> Prop} {s:Shared}
end
abbrev zP1 (h:Heap) (a1:Addr):Heap:=h.push (iZ false a1)
abbrev zP2 (h:Heap) (a1 a2:Addr):Heap:=(zP1 h a1).push (iZ false a2)
abbrev zP3 (h:Heap) (a1 a2 a3:Addr):Heap:=(zP2 h a1 a2).push (iZ false a3)
abbrev zP4 (h:Heap) (a1 a2 a3:Addr):Heap:=(zP3 h a1 a2 a3).push { cls:=.type "tuple",data:=.seq #[.ref h.objs.size,.ref (zP1 h a1).objs.size,.ref (zP2 h a1 a2).objs.size] }
abbrev zP5 (h:Heap) (a1 a2 a3:Addr):Heap:=(zP4 h a1 a2 a3).push { cls:=.type "tuple",data:=.seq #[.none,.none,.none] }
abbrev zP6 (h:Heap) (a1 a2 a3:Addr):Heap:=(zP5 h a1 a2 a3).push { cls:=.type "zip",data:=.fields #[.none,.bool false,.bool false,.ref (zP3 h a1 a2 a3).objs.size,.ref (zP4 h a1 a2 a3).objs.size] }
section
variable {prog:Program} {w:World} {A:Around} {E:Value -> Shared -> Prop} {s:Shared}
end
def Cd (K:PySem.W.Frag) (a1 a2 a3:Addr):It :=
 ⟨fun i H=>∃ xs ys zs x y z,SqL K H a1 xs /\ SqL K H a2 ys /\ SqL K H a3 zs /\ xs[i]? = some x /\ ys[i]? = some y /\ zs[i]? = some z,
  fun i H v H'=>∃ p x y z,v = .ref p /\ H p = none /\ H' = upd H p (.tup [x,y,z]) /\ (∀ xs,SqL K H a1 xs -> xs[i]? = some x) /\ (∀ ys,SqL K H a2 ys -> ys[i]? = some y) /\ ∀ zs,SqL K H a3 zs -> zs[i]? = some z,
  fun i H=>∃ xs ys zs,SqL K H a1 xs /\ SqL K H a2 ys /\ SqL K H a3 zs /\ (xs.length <= i \/ ys.length <= i \/ zs.length <= i)⟩
def Z3 (n a1 a2 a3:Nat) (i:Nat) (h:Heap):Prop :=
 IsZip h (n + 5) (n + 3) (n + 4) .none /\ vN h (n + 3) (.ref n) (.ref (n + 1)) (.ref (n + 2)) /\ (∃ a b c,vN h (n + 4) a b c) /\ ItO h false n a1 i /\ ItO h false (n + 1) a2 i /\ ItO h false (n + 2) a3 i
section
variable {X:Cx}
def C7 (K:PySem.W.Frag) (ta:TA):TI:=fun σ H R=>ta σ H fun vs H1=>∃ a1 a2 a3,vs = [.ref a1,.ref a2,.ref a3] /\ (∃ xs,SqL K H1 a1 xs) /\ (∃ ys,SqL K H1 a2 ys) /\ (∃ zs,SqL K H1 a3 zs) /\ R (Cd K a1 a2 a3) H1
end
end L3

set_option linter.all false
namespace M
open PySem (Str)
inductive T where
 | non | bl (b:Bool) | int (i:Int) | str (x:Str) | tup (ts:List T) | lst (ts:List T) | dct (ks vs:List T) | ins (c:Str) (fs:List Str) (vs:List T)
 | scr (ns:List Int)
 | gone
 deriving Inhabited
inductive Md where
 | s | d | o (m:Md)
 deriving DecidableEq,Inhabited
def Md.kid:Md -> Md
 | .s=>.s | .d=>.d | .o m=>m
def Md.up:Md -> Md
 | .d=>.d | m=>.o m
def Md.meet:Md -> Md -> Md
 | .s,_=>.s | .d,m=>m | .o _,.s=>.s | .o a,.d=>.o a | .o a,.o b=>.o (a.meet b)
def Md.le:Md -> Md -> Bool
 | .s,_=>true
 | .o a,.o b=>a.le b
 | .o _,.d=>true
 | .d,.d=>true
 | _,_=>false
abbrev W:=Md × T
abbrev Env:=List (Option W)
def LIM:Nat:=16777215
def T.leaf:T -> Bool
 | .non | .bl _ | .int _ | .str _ | .scr _=>true
 | _=>false
def T.isG:T -> Bool
 | .gone=>true
 | _=>false
def T.isN:T -> Bool
 | .non=>true
 | _=>false
def leaves (ts:List T):Bool:=ts.all T.leaf
inductive Op where
 | add | sub | mul | fdiv | mod | pow | neg | eq | ne | lt | le | gt | ge | is | isnot | isin | notin | ix | sl | sl1 | sl2 | sl3
 | len | isI (cs:List String) | max1 | count | fdivN | modN | list | tuple | sum | all | any | max | min | int | str | rng | sorted | join | split | abs | dict | get | lzip | isB | isnB
 deriving DecidableEq,Inhabited
inductive Ik where
 | seq | rng | enm | zip | sq2 | zip3
 deriving DecidableEq,Inhabited
inductive E where
 | var (i:Nat) | mv (i:Nat) | io (i:Nat) | cst (t:T) | glb (x:Str) (t:T)
 | tup (es:List E) | lst (h:Bool) (es:List E) | op (o:Op) (h:Bool) (es:List E) | wk (m:Md) (e:E)
 | and (a b:E) | or (a b:E) | not (a:E) | ifx (c a b:E) | chain (o p:Op) (a b c:E)
 | call (f:Nat) (es:List E) | comp (h:Bool) (k:Ik) (src:List E) (tg:List Nat) (cnd:Option E) (elt:E)
 | pop (i:Nat) (es:List E) | lenV (i:Nat)
 | tupA (es:List E) | qx (vs ls:List Nat) (e:E) | mvP (i:Nat) (p:List Nat)
 | callT (tab:List (Str × Nat)) (k:E) (es:List E) | inT (neg:Bool) (ks:List Str) (e:E) | ixT (tab:List (Str × T)) (e:E) | getT (tab:List (Str × T)) (e:E)
 deriving Inhabited
inductive X where
 | q (vs ls:List Nat) | l (vs:List Nat)
 deriving Inhabited
inductive S where
 | asg (x:X) (i:Nat) (e:E) | asgT (x:X) (is:List Nat) (e:E) | setI (x:X) (i:Nat) (k e:E)
 | exp (x:X) (e:E) | app (x:X) (i:Nat) (e:E) | ext (x:X) (i:Nat) (e:E)
 | ret (vs:List Nat) (e:E) | retN | ite (x:X) (c:E) (a b:List S)
 | forS (vs ls:List Nat) (k:Ik) (src:List E) (tg:List Nat) (body:List S) | whl (x:X) (c:E) (body:List S)
 | brk | pas | stop
 deriving Inhabited
structure Fn where
 ps:Nat
 ns:Nat
 io:List Nat
 body:List S
inductive Res (α:Type) where
 | ok (a:α) | ex (c:Str) (x:List T) | no
def Res.bind {α β:Type}:Res α -> (α -> Res β) -> Res β
 | .ok a,f=>f a
 | .ex c x,_=>.ex c x
 | .no,_=>.no
def ofO {α:Type}:Option α -> Res α
 | some a=>.ok a
 | none=>.no
inductive Fl where
 | nx (η:Env) | rt (w:W) (η:Env) | bk (η:Env) | ex (c:Str) (x:List T) (η:Env) | no
def truth:T -> Option Bool
 | .non=>some false | .bl b=>some b | .int i=>some (i != 0) | .str x=>some (x.cps.size != 0) | .tup ts=>some (!ts.isEmpty) | .lst ts=>some (!ts.isEmpty) | .dct ks _=>some (!ks.isEmpty) | .ins ..=>none | .scr ns=>some (!ns.isEmpty) | .gone=>none
def b2i:Bool -> Int
 | true=>1 | false=>0
mutual
def eqT:T -> T -> Bool
 | .non,.non=>true
 | .bl a,.bl b=>a == b
 | .bl a,.int i=>b2i a == i
 | .int i,.bl a=>i == b2i a
 | .int i,.int j=>i == j
 | .str x,.str y=>x == y
 | .tup ts,.tup us=>eqTs ts us
 | .lst ts,.lst us=>eqTs ts us
 | _,_=>false
def eqTs:List T -> List T -> Bool
 | [],[]=>true
 | t :: ts,u :: us=>eqT t u && eqTs ts us
 | _,_=>false
end
mutual
def dp:T -> Nat
 | .tup ts=>dps ts + 1
 | .lst ts=>dps ts + 1
 | .scr _=>1000
 | .dct _ _=>1000
 | .ins _ _ _=>1000
 | .gone=>1000
 | _=>0
def dps:List T -> Nat
 | []=>0
 | t :: ts=>max (dp t) (dps ts)
end
def sOk (x:Str):Bool:=x.cps.all (· < 0x110000) && decide (x.cps.size <= LIM)
def ixN (n:Nat) (i:Int):Option Nat:=if 0 <= i then (if i < n then some i.toNat else none) else if -(n:Int) <= i then some (i + n).toNat else none
def atI {α:Type} (xs:List α) (i:Int):Option α:=(ixN xs.length i).bind fun j=>xs[j]?
def sIx (n d:Nat):Option Int -> Nat
 | none=>d
 | some i=>if i < 0 then (i + n).toNat else min i.toNat n
def cut {α:Type} (xs:List α) (lo hi:Option Int):List α:=(xs.drop (sIx xs.length 0 lo)).take (sIx xs.length xs.length hi - sIx xs.length 0 lo)
def T.ty:T -> String
 | .non=>"NoneType" | .bl _=>"bool" | .int _=>"int" | .str _=>"str" | .tup _=>"tuple" | .lst _=>"list" | .dct ..=>"dict" | .ins ..=>"object" | .scr _=>"list" | .gone=>"gone"
def isOne (c:String) (t:T):Bool:=t.ty == c || (t.ty == "bool" && c == "int")
def bq:List T -> Option (List Int)
 | []=>some []
 | .int i :: ts=>(bq ts).map (i :: ·)
 | _ :: _=>none
def aW:List T -> Option (List Bool)
 | []=>some []
 | .bl b :: ts=>(aW ts).map (b :: ·)
 | _ :: _=>none
def elems:W -> Option (List T)
 | (_,.tup ts)=>some ts
 | (_,.lst ts)=>some ts
 | _=>none
def flatT:T -> Bool
 | .non | .bl _ | .int _ | .str _=>true
 | _=>false
def Bv:List Int -> Int
 | []=>0
 | [n]=>n
 | n :: ns=>max n (Bv ns)
def zipP:List T -> List T -> List T
 | t :: ts,u :: us=>.tup [t,u] :: zipP ts us
 | _,_=>[]
def newL (h:Bool) (m:Md) (ts:List T):Option W:=if h then (if leaves ts then some (.d,.lst ts) else none) else some (m.up,.lst ts)
def fits (n:Nat):Bool:=decide (n <= LIM)
def oSem:Op -> Bool -> List W -> Option W
 | .add,h,[(m,a),(n,b)]=>match a,b with
  | .int i,.int j=>some (.d,.int (i + j))
  | .str x,.str y=>if fits (x.cps.size + y.cps.size) then some (.d,.str (x ++ y)) else none
  | .lst ts,.lst us=>if fits (ts.length + us.length) then newL h (m.kid.meet n.kid) (ts ++ us) else none
  | .tup ts,.tup us=>if fits (ts.length + us.length) && !ts.isEmpty then some (.s,.tup (ts ++ us)) else none
  | _,_=>none
 | .sub,_,[(_,.int i),(_,.int j)]=>some (.d,.int (i - j))
 | .mul,h,[(m,a),(_,b)]=>match a,b with
  | .int i,.int j=>if (decide (i.natAbs < 18446744073709551616)) || (decide (j.natAbs < 18446744073709551616)) then some (.d,.int (i * j)) else none
  | .lst ts,.int k=>if decide (k.natAbs < 4611686018427387904) && fits (ts.length * k.toNat) then newL h .s (List.replicate k.toNat ts).flatten else none
  | _,_=>none
 | .fdiv,_,[(_,.int i),(_,.int j)]=>if decide (0 < j) && decide (j < 1073741824) then some (.d,.int (i / j)) else none
 | .mod,_,[(_,.int i),(_,.int j)]=>if decide (0 < j) then some (.d,.int (i % j)) else none
 | .pow,_,[(_,.int i),(_,.int j)]=>if decide (0 <= j) && decide (j <= 1000000) && decide (i.natAbs < 18446744073709551616) then some (.d,.int (i ^ j.toNat)) else none
 | .fdivN,_,[(_,.int i),(_,.int j)]=>if (j != 0) && decide (j.natAbs < 18446744073709551616) then some (.d,.int (i.fdiv j)) else none
 | .modN,_,[(_,.int i),(_,.int j)]=>if j != 0 then some (.d,.int (i.fmod j)) else none
 | .neg,_,[(_,.int i)]=>some (.d,.int (-i))
 | .eq,_,[(_,a),(_,b)]=>if decide (dp a <= 64) && decide (dp b <= 64) then some (.d,.bl (eqT a b)) else none
 | .ne,_,[(_,a),(_,b)]=>if decide (dp a <= 64) && decide (dp b <= 64) then some (.d,.bl (!eqT a b)) else none
 | .lt,_,[(_,.int i),(_,.int j)]=>some (.d,.bl (decide (i < j)))
 | .le,_,[(_,.int i),(_,.int j)]=>some (.d,.bl (decide (i <= j)))
 | .gt,_,[(_,.int i),(_,.int j)]=>some (.d,.bl (decide (j < i)))
 | .ge,_,[(_,.int i),(_,.int j)]=>some (.d,.bl (decide (j <= i)))
 | .is,_,[(_,a),(_,.non)]=>if a.isG then none else some (.d,.bl a.isN)
 | .isnot,_,[(_,a),(_,.non)]=>if a.isG then none else some (.d,.bl (!a.isN))
 | .ix,_,[(m,a),(_,.int i)]=>match a with
  | .lst ts=>(atI ts i).map fun t=>(m.kid,t)
  | .tup ts=>(atI ts i).map fun t=>(m.kid,t)
  | .str x=>(atI x.cps.toList i).map fun c=>(.d,.str ⟨#[c]⟩)
  | .scr ns=>(atI ns i).map fun n=>(.d,.int n)
  | _=>none
 | .sl,h,[(m,.lst ts)]=>newL h m.kid ts
 | .sl1,h,[(m,.lst ts),(_,.int i)]=>newL h m.kid (cut ts (some i) none)
 | .sl2,h,[(m,.lst ts),(_,.int i)]=>newL h m.kid (cut ts none (some i))
 | .sl3,h,[(m,.lst ts),(_,.int i),(_,.int j)]=>newL h m.kid (cut ts (some i) (some j))
 | .sl2,_,[(_,.scr ns),(_,.int i)]=>some (.d,.lst ((cut ns none (some i)).map T.int))
 | .sl1,_,[(_,.scr ns),(_,.int i)]=>some (.d,.lst ((cut ns (some i) none).map T.int))
 | .sl,_,[(_,.scr ns)]=>some (.d,.lst (ns.map T.int))
 | .sl1,_,[(_,.tup ts),(_,.int i)]=>some (.s,.tup (cut ts (some i) none))
 | .sl2,_,[(_,.tup ts),(_,.int i)]=>some (.s,.tup (cut ts none (some i)))
 | .sl3,_,[(_,.tup ts),(_,.int i),(_,.int j)]=>some (.s,.tup (cut ts (some i) (some j)))
 | .len,_,[(_,a)]=>match a with
  | .lst ts=>some (.d,.int ts.length)
  | .tup ts=>some (.d,.int ts.length)
  | .str x=>some (.d,.int x.cps.size)
  | .scr ns=>some (.d,.int ns.length)
  | .dct ks _=>some (.d,.int ks.length)
  | _=>none
 | .isI cs,_,[(_,a)]=>if a.isG then none else some (.d,.bl (cs.any fun c=>isOne c a))
 | .list,h,[(m,a)]=>match a with
  | .lst ts=>newL h m.kid ts
  | .tup ts=>newL h m.kid ts
  | .scr ns=>some (.d,.lst (ns.map T.int))
  | _=>none
 | .tuple,_,[(m,a)]=>match a with
  | .lst ts=>some (m.kid.up,.tup ts)
  | .tup ts=>some (m,.tup ts)
  | _=>none
 | .sum,_,[(_,.lst ts)]=>(bq ts).map fun ns=>(.d,.int ns.sum)
 | .all,_,[(_,.lst ts)]=>(aW ts).map fun bs=>(.d,.bl (bs.all id))
 | .any,_,[(_,.lst ts)]=>(aW ts).map fun bs=>(.d,.bl (bs.any id))
 | .max,_,[(_,.int i),(_,.int j)]=>some (.d,.int (if j > i then j else i))
 | .min,_,[(_,.int i),(_,.int j)]=>some (.d,.int (if j < i then j else i))
 | .rng,_,[(_,.int i),(_,.int j)]=>if decide (i.natAbs < 4611686018427387904) && decide (j.natAbs < 4611686018427387904) && fits (j - i).toNat then some (.d,.lst ((List.range (j - i).toNat).map fun (k:Nat)=>T.int (i + k))) else none
 | .isin,_,[(_,a),(n,b)]=>(elems (n,b)).bind fun ts=>if flatT a && ts.all flatT then some (.d,.bl (ts.any fun t=>eqT t a)) else none
 | .notin,_,[(_,a),(n,b)]=>(elems (n,b)).bind fun ts=>if flatT a && ts.all flatT then some (.d,.bl (!ts.any fun t=>eqT t a)) else none
 | .int,_,[(_,.int i)]=>some (.d,.int i)
 | .int,_,[(_,.bl b)]=>some (.d,.int (b2i b))
 | .abs,_,[(_,.int i)]=>some (.d,.int i.natAbs)
 | .max1,_,[(_,.lst ts)]=>(bq ts).bind fun ns=>if ns.isEmpty then none else some (.d,.int (Bv ns))
 | .count,_,[(_,.lst ts),(_,.bl b)]=>(aW ts).map fun bs=>(.d,.int (bs.count b))
 | .isB,_,[(_,.bl a),(_,.bl b)]=>some (.d,.bl (a == b))
 | .isnB,_,[(_,.bl a),(_,.bl b)]=>some (.d,.bl (!(a == b)))
 | .lzip,_,[(m,a),(n,b)]=>(elems (m,a)).bind fun ts=>(elems (n,b)).bind fun us=>some ((m.kid.meet n.kid).up.up,.lst (zipP ts us))
 | _,_,_=>none
def rd:Env -> Nat -> Option W
 | [],_=>none
 | o :: _,0=>o
 | _ :: η,i + 1=>rd η i
def wr:Env -> Nat -> Option W -> Env
 | [],_,_=>[]
 | _ :: η,0,w=>w :: η
 | o :: η,i + 1,w=>o :: wr η i w
abbrev put (η:Env) (i:Nat) (w:W):Env:=wr η i (some w)
abbrev del (η:Env) (i:Nat):Env:=wr η i none
def look:W -> Option W
 | (.s,t)=>some (.s,t)
 | (_,t)=>if t.leaf = true then some (.d,t) else none
def toS:Option W -> Option W
 | some (_,t)=>some (.s,t)
 | none=>none
def share:List Nat -> Env -> Env
 | [],η=>η
 | i :: is,η=>share is (wr η i (toS (rd η i)))
def lfO:Option W -> Option W
 | some (_,t)=>if t.leaf = true then some (.d,t) else none
 | none=>none
def gn:Env -> Env
 | []=>[]
 | _ :: η=>none :: gn η
def lh:List Nat -> Env -> Env -> Env
 | [],_,η=>η
 | i :: is,η0,η=>lh is η0 (wr η i (toS (rd η0 i)))
def fR:List Nat -> Env -> Env -> Env
 | [],_,η=>η
 | i :: is,η0,η=>fR is η0 (wr η i (lfO (rd η0 i)))
def dW (vs ls:List Nat) (η:Env):Env:=fR ls η (lh vs η (gn η))
def after (m:Md) (vs:List Nat) (η:Env):Env:=match m with
 | .d=>η
 | _=>share vs η
def aJ:List Nat -> List W -> Env -> Option Env
 | [],[],η=>some η
 | i :: is,w :: ws,η=>aJ is ws (put η i w)
 | _,_,_=>none
def cT (m:Md):Nat -> List T -> List (List W)
 | _,[]=>[]
 | i,t :: ts=>[(.d,.int i),(m,t)] :: cT m (i + 1) ts
def cU (m n:Md):List T -> List T -> List (List W)
 | t :: ts,u :: us=>[(m,t),(n,u)] :: cU m n ts us
 | _,_=>[]
def bO:List T -> Option (List (List W))
 | []=>some []
 | .tup [x,y] :: ts=>(bO ts).map ([(.s,x),(.s,y)] :: ·)
 | _ :: _=>none
def qV:List T -> List T -> List T -> List (List W)
 | t :: ts,u :: us,v :: vs=>[(.s,t),(.s,u),(.s,v)] :: qV ts us vs
 | _,_,_=>[]
def turns:Ik -> List W -> Option (List (List W))
 | .seq,[(_,.lst ts)]=>some (ts.map fun t=>[(.s,t)])
 | .seq,[(_,.tup ts)]=>some (ts.map fun t=>[(.s,t)])
 | .seq,[(_,.scr ns)]=>some (ns.map fun n=>[(.d,.int n)])
 | .rng,[(_,.int n)]=>if decide (n.natAbs < 4611686018427387904) && fits n.toNat then some ((List.range n.toNat).map fun (k:Nat)=>[(.d,.int k)]) else none
 | .rng,[(_,.int i),(_,.int j)]=>if decide (i.natAbs < 4611686018427387904) && decide (j.natAbs < 4611686018427387904) && fits (j - i).toNat then some ((List.range (j - i).toNat).map fun (k:Nat)=>[(.d,.int (i + k))]) else none
 | .enm,[(_,.lst ts)]=>some (cT .s 0 ts)
 | .zip,[(m,a),(n,b)]=>(elems (m,a)).bind fun ts=>(elems (n,b)).bind fun us=>some (cU .s .s ts us)
 | .sq2,[(_,.lst ts)]=>bO ts
 | .zip3,[(_,.lst ts),(_,.lst us),(_,.lst vs)]=>some (qV ts us vs)
 | _,_=>none
abbrev Call:=Nat -> List W -> Res (W × List W)
abbrev RE:=Res (W × Env)
def lf (m:Md) (t:T):Md:=if t.leaf = true then .d else m
def meets:List W -> Md
 | []=>.d
 | w :: ws=>(lf w.1 w.2).meet (meets ws)
def aK:List W -> List T
 | []=>[]
 | w :: ws=>w.2 :: aK ws
def ak:List Nat -> Env -> Env
 | [],η=>η
 | i :: is,η=>ak is (del η i)
def ios:List E -> List Nat
 | []=>[]
 | .io i :: es=>i :: ios es
 | _ :: es=>ios es
def putAll:List Nat -> List W -> Env -> Env
 | i :: is,w :: ws,η=>putAll is ws (put η i w)
 | _,_,η=>η
def iO:W -> List W -> Option (W × W)
 | (.s,_),_=>none
 | (m,.lst ts),[]=>(ts.getLast?).map fun t=>((m.kid,t),(m,.lst ts.dropLast))
 | (m,.lst (t :: ts)),[(_,.int 0)]=>some ((m.kid,t),(m,.lst ts))
 | _,_=>none
def gI:W -> W -> Option W
 | (.s,_),_=>none
 | (m,.lst ts),(n,t)=>if ts.length < LIM then some ((m.kid.meet (lf n t)).up,.lst (ts ++ [t])) else none
 | _,_=>none
def gB:W -> W -> Option W
 | (.s,_),_=>none
 | (m,.lst ts),(n,.lst us)=>if ts.length + us.length <= LIM then some ((m.kid.meet n.kid).up,.lst (ts ++ us)) else none
 | _,_=>none
def eg:W -> W -> W -> Option W
 | (.s,_),_,_=>none
 | (m,.lst ts),(_,.int j),(n,t)=>(ixN ts.length j).map fun k=>((m.kid.meet (lf n t)).up,.lst (ts.set k t))
 | _,_,_=>none
def fA:Option W -> Res Unit
 | some (_,.lst _)=>.ok ()
 | _=>.no
def xj:W -> Option (List W)
 | (m,.tup ts)=>some (ts.map fun t=>(m.kid,t))
 | _=>none
def ret {α:Type} (η:Env) (o:Option α):Res (α × Env):=match o with
 | some a=>.ok (a,η)
 | none=>.no
def onB {α:Type}:T -> (Env -> Res α) -> (Env -> Res α) -> Env -> Res α
 | .bl true,f,_,η=>f η
 | .bl false,_,g,η=>g η
 | _,_,_,_=>.no
def onT {α:Type} (f g:Env -> Res α) (p:W × Env):Res α:=match truth p.1.2 with
 | some true=>f p.2
 | some false=>g p.2
 | none=>.no
def okW {α:Type} (a:α) (η:Env):Res (α × Env):=.ok (a,η)
def kTup (p:List W × Env):RE:=.ok (((meets p.1).up,.tup (aK p.1)),p.2)
def qw (h:Bool) (p:List W × Env):RE:=.ok ((if h then (meets p.1).up else .o .s,.lst (aK p.1)),p.2)
def kWk (m:Md) (p:W × Env):RE:=ret p.2 (if m.le p.1.1 then some (m,p.1.2) else none)
def kOp (o:Op) (h:Bool) (p:List W × Env):RE:=ret p.2 (oSem o h p.1)
def mM (f:Env -> RE) (p:W × Env):RE:=onT f (okW p.1) p
def kOr (f:Env -> RE) (p:W × Env):RE:=onT (okW p.1) f p
def qK (p:W × Env):RE:=ret p.2 ((truth p.1.2).map fun b=>(.d,.bl (!b)))
def kC3 (q:Op) (y:W) (z:W × Env):RE:=ret z.2 (oSem q false [y,z.1])
def then' {α β:Type} (f:Env -> Res (α × Env)) (k:α × Env -> Res β) (η:Env):Res β:=(f η).bind k
def kC2 (o q:Op) (fc:Env -> RE) (x:W) (y:W × Env):RE:=(ret y.2 (oSem o false [x,y.1])).bind fun k=>onB k.1.2 (then' fc (kC3 q y.1)) (okW (.d,.bl false)) k.2
def kC1 (o q:Op) (fb fc:Env -> RE) (x:W × Env):RE:=(fb x.2).bind (kC2 o q fc x.1)
def kBack (is:List Nat) (η:Env) (r:W × List W):RE:=.ok (r.1,putAll is r.2 η)
def kCall (C:Call) (f:Nat) (is:List Nat) (p:List W × Env):RE:=(C f p.1).bind (kBack is p.2)
def fm (p:W × Env):Res (Option W × Env):=.ok (some p.1,p.2)
def bK (f:Env -> RE) (η:Env):Res (Option W × Env):=(f η).bind fm
def dU (c f:Env -> RE) (η:Env):Res (Option W × Env):=(c η).bind (onT (bK f) (okW none))
def aD (tg:List Nat) (f:Env -> Res (Option W × Env)):List (List W) -> Env -> List W -> Res (List W × Env)
 | [],η,acc=>.ok (acc,η)
 | ws :: r,η,acc=>(ofO (aJ tg ws η)).bind fun η1=>(f η1).bind fun p=>aD tg f r (ak tg p.2) (acc ++ p.1.toList)
def okD (w:W):Bool:=w.1 == .d || w.2.leaf
def ji (h:Bool) (q:List W × Env):RE:=ret q.2 (if h then (if q.1.all okD then some (.d,.lst (aK q.1)) else none) else some (.o .s,.lst (aK q.1)))
def eM (h:Bool) (k:Ik) (tg:List Nat) (f:Env -> Res (Option W × Env)) (p:List W × Env):RE:=(ret (ak tg p.2) (turns k p.1)).bind fun t=>(aD tg f t.1 t.2 []).bind (ji h)
def jH (f:Env -> Res (List W × Env)) (η:Env) (k:List W × Env -> RE) (_:Unit):RE:=(f η).bind k
def nH (i:Nat) (p:List W × Env):RE:=(ofO ((rd p.2 i).bind fun w=>iO w p.1)).bind fun r=>.ok (r.1,put p.2 i r.2)
def kCons (w:W) (q:List W × Env):Res (List W × Env):=.ok (w :: q.1,q.2)
def aU (f:Env -> Res (List W × Env)) (p:W × Env):Res (List W × Env):=(f p.2).bind (kCons p.1)
def pW:List Nat -> Md -> T -> Option (W × T)
 | [],m,t=>some ((m,t),.gone)
 | j :: p,m,.lst ts=>(ts[j]?).bind fun t=>(pW p m.kid t).map fun r=>(r.1,.lst (ts.set j r.2))
 | j :: p,m,.tup ts=>(ts[j]?).bind fun t=>(pW p m.kid t).map fun r=>(r.1,.tup (ts.set j r.2))
 | _ :: _,_,_=>none
def vO (p:List Nat) (w:W):Option (W × W):=(pW p w.1 w.2).map fun r=>(r.1,(w.1,r.2))
def zu (i:Nat) (η:Env) (r:W × W):RE:=.ok (r.1,put η i r.2)
def mG {α:Type} (tab:List (Str × α)) (f:α -> Env -> RE) (p:W × Env):RE:=match p.1.2 with
 | .str x=>match tab.lookup x with
  | some a=>f a p.2
  | none=>.no
 | _=>.no
def kCT (C:Call) (fa:Env -> Res (List W × Env)) (is:List Nat) (j:Nat) (η:Env):RE:=(fa η).bind (kCall C j is)
def kIn (neg:Bool) (ks:List Str) (p:W × Env):RE:=match p.1.2 with
 | .str x=>.ok ((.d,.bl (ks.contains x != neg)),p.2)
 | _=>.no
def okS (t:T) (η:Env):RE:=.ok ((.s,t),η)
def uB (tab:List (Str × T)) (p:W × Env):RE:=match p.1.2 with
 | .str x=>.ok ((.s,(tab.lookup x).getD .non),p.2)
 | _=>.no
def kX (vs:List Nat) (η:Env) (p:W × Env):RE:=.ok ((lf p.1.1 p.1.2,p.1.2),after (lf p.1.1 p.1.2) vs η)
def kIo (i:Nat) (p:List W × Env):Res (List W × Env):=(ofO (rd p.2 i)).bind fun w=>.ok (w :: p.1,del p.2 i)
section
variable (C:Call)
mutual
def evE:E -> Env -> RE
 | .var i,η=>ret η ((rd η i).bind look)
 | .mv i,η=>ret (del η i) (rd η i)
 | .io i,η=>ret (del η i) (rd η i)
 | .cst t,η=>.ok ((.d,t),η)
 | .glb _ t,η=>.ok ((.s,t),η)
 | .tup es,η=>(evL es η).bind kTup
 | .lst h es,η=>(evL es η).bind (qw h)
 | .wk m e,η=>(evE e η).bind (kWk m)
 | .op o h es,η=>(evL es η).bind (kOp o h)
 | .and a b,η=>(evE a η).bind (mM (evE b))
 | .or a b,η=>(evE a η).bind (kOr (evE b))
 | .not a,η=>(evE a η).bind qK
 | .ifx c a b,η=>(evE c η).bind (onT (evE a) (evE b))
 | .chain o q a b c,η=>(evE a η).bind (kC1 o q (evE b) (evE c))
 | .call f es,η=>(evA es η).bind (kCall C f (ios es))
 | .comp h k src tg none elt,η=>(evL src η).bind (eM h k tg (bK (evE elt)))
 | .comp h k src tg (some c) elt,η=>(evL src η).bind (eM h k tg (dU (evE c) (evE elt)))
 | .pop i es,η=>(fA (rd η i)).bind (jH (evL es) η (nH i))
 | .lenV i,η=>ret η ((rd η i).bind fun w=>oSem .len false [w])
 | .tupA es,η=>(evA es η).bind kTup
 | .qx vs ls e,η=>(evE e (dW vs ls η)).bind (kX vs η)
 | .mvP i p,η=>(ofO ((rd η i).bind (vO p))).bind (zu i η)
 | .callT tab k es,η=>(evE k η).bind (mG tab (kCT C (evA es) (ios es)))
 | .inT neg ks e,η=>(evE e η).bind (kIn neg ks)
 | .ixT tab e,η=>(evE e η).bind (mG tab okS)
 | .getT tab e,η=>(evE e η).bind (uB tab)
def evL:List E -> Env -> Res (List W × Env)
 | [],η=>.ok ([],η)
 | e :: es,η=>(evE e η).bind (aU (evL es))
def evA:List E -> Env -> Res (List W × Env)
 | [],η=>.ok ([],η)
 | .io i :: es,η=>(evA es η).bind (kIo i)
 | e :: es,η=>(evE e η).bind (aU (evA es))
end
def kT (η:Env) (p:W × Env):Res (Bool × Env):=ret η (truth p.1.2)
def kT2 (p:W × Env):Res (Bool × Env):=ret p.2 (truth p.1.2)
def evX:X -> E -> Env -> RE
 | .q vs ls,e,η=>(evE C e (dW vs ls η)).bind (kX vs η)
 | .l vs,e,η=>evE C e (share vs η)
def evT:X -> E -> Env -> Res (Bool × Env)
 | .q vs ls,e,η=>(evE C e (dW vs ls η)).bind (kT η)
 | .l vs,e,η=>(evE C e (share vs η)).bind kT2
def Fl.of {α:Type} (η:Env):Res α -> (α -> Fl) -> Fl
 | .ok a,f=>f a
 | .ex c x,_=>.ex c x η
 | .no,_=>.no
def Fl.seq:Fl -> (Env -> Fl) -> Fl
 | .nx η,f=>f η
 | z,_=>z
def Fl.turn:Fl -> (Env -> Fl) -> Fl
 | .nx η,f=>f η
 | .bk η,_=>.nx η
 | z,_=>z
def onF:Bool -> (Env -> Fl) -> (Env -> Fl) -> Env -> Fl
 | true,f,_,η=>f η
 | false,_,g,η=>g η
def dX (tg:List Nat) (f:Env -> Fl):List (List W) -> Env -> Fl
 | [],η=>.nx η
 | ws :: r,η=>Fl.of η (ofO (aJ tg ws η)) fun η1=>Fl.turn (f η1) (dX tg f r)
def kIf (f g:Env -> Fl) (p:Bool × Env):Fl:=onF p.1 f g p.2
def rk (f:Env -> Fl) (g:Env -> Fl) (η:Env):Fl:=Fl.turn (f η) g
def j3 (c:Env -> Res (Bool × Env)) (f:Env -> Fl):Nat -> Env -> Fl
 | 0,_=>.no
 | n + 1,η=>Fl.of η (c η) (kIf (rk f (j3 c f n)) .nx)
def nE:Nat:=1000000000000
def nxO (η:Env):Option Env -> Fl
 | some η=>.nx η
 | none=>.no
def uJ (i:Nat) (p:W × Env):Fl:=.nx (put p.2 i p.1)
def mC (is:List Nat) (p:W × Env):Fl:=nxO p.2 ((xj p.1).bind fun ws=>aJ is ws p.2)
def pj (i:Nat) (p:W × Env):Fl:=nxO p.2 (((rd p.2 i).bind fun w=>gI w p.1).map fun w=>put p.2 i w)
def ot (i:Nat) (p:W × Env):Fl:=nxO p.2 (((rd p.2 i).bind fun w=>gB w p.1).map fun w=>put p.2 i w)
def qA (i:Nat) (x:W) (q:W × Env):Fl:=nxO q.2 (((rd q.2 i).bind fun w=>eg w q.1 x).map fun w=>put q.2 i w)
def sU (i:Nat) (f:Env -> RE) (η:Env) (p:W × Env):Fl:=Fl.of η (f p.2) (qA i p.1)
def kP (f:Env -> RE) (η:Env) (k:W × Env -> Fl) (_:Unit):Fl:=Fl.of η (f η) k
def kNx (p:W × Env):Fl:=.nx p.2
def kRt (p:W × Env):Fl:=.rt p.1 p.2
def n5 (tg:List Nat) (f:Env -> Fl) (t:List (List W) × Env):Fl:=dX tg f t.1 t.2
def sy (vs:List Nat) (k:Ik) (tg:List Nat) (f:Env -> Fl) (η:Env) (p:List W × Env):Fl:=Fl.of η (ret (share vs η) (turns k p.1)) (n5 tg f)
mutual
def evS:S -> Env -> Fl
 | .asg x i e,η=>Fl.of η (evX C x e η) (uJ i)
 | .asgT x is e,η=>Fl.of η (evX C x e η) (mC is)
 | .setI x i k e,η=>Fl.of η (evX C x e η) (sU i (evX C x k) η)
 | .exp x e,η=>Fl.of η (evX C x e η) kNx
 | .app x i e,η=>Fl.of η (fA (rd η i)) (kP (evX C x e) η (pj i))
 | .ext x i e,η=>Fl.of η (fA (rd η i)) (kP (evX C x e) η (ot i))
 | .ret vs e,η=>Fl.of η (evE C e (share vs η)) kRt
 | .retN,η=>.rt (.d,.non) η
 | .ite x c a b,η=>Fl.of η (evT C x c η) (kIf (evSs a) (evSs b))
 | .forS vs ls k src tg body,η=>Fl.of η (evL C src (dW vs ls η)) (sy vs k tg (evSs body) η)
 | .whl x c body,η=>j3 (evT C x c) (evSs body) nE η
 | .brk,η=>.bk η
 | .pas,η=>.nx η
 | .stop,_=>.no
def evSs:List S -> Env -> Fl
 | [],η=>.nx η
 | s :: r,η=>Fl.seq (evS s η) (evSs r)
end
end
def backs:List Nat -> Env -> Option (List W)
 | [],_=>some []
 | i :: is,η=>(rd η i).bind fun w=>(backs is η).bind fun ws=>some (w :: ws)
def oY (w:W) (b:List W):Res (W × List W):=.ok (w,b)
def Fl.out (io:List Nat):Fl -> Res (W × List W)
 | .nx η=>(ofO (backs io η)).bind (oY (.d,.non))
 | .rt w η=>(ofO (backs io η)).bind (oY w)
 | .ex c x _=>.ex c x
 | _=>.no
def runF (C:Call) (f:Fn) (ws:List W):Res (W × List W) :=
 if ws.length = f.ps then Fl.out f.io (evSs C f.body (ws.map some ++ List.replicate f.ns none)) else .no
abbrev xA:=List Fn
def Bf (P:xA):Nat -> Call
 | 0=>fun _ _=>.no
 | n + 1=>fun f ws=>(ofO P[f]?).bind fun d=>runF (Bf P n) d ws
def om (n:Nat):List W -> Res (W × List W)
 | [(m,t)]=>if (lf m t == .d && (decide (dp t <= n) && decide (dp t <= 64))) = true then .ok ((.d,.non),[]) else .no
 | _=>.no
def rowsT:List Nat -> List T -> List T
 | [],_=>[]
 | n :: ns,ts=>.lst (ts.take n) :: rowsT ns (ts.drop n)
def natsOf:List T -> Option (List Nat)
 | []=>some []
 | .int (.ofNat n) :: ts=>(natsOf ts).map (n :: ·)
 | _ :: _=>none
def rowsW:List W -> Res (W × List W)
 | [(_,.lst ls),(m,.lst ts)]=>(ofO (natsOf ls)).bind fun ns=>.ok ((m.kid.up.up,.lst (rowsT ns ts)),[])
 | _=>.no
def callR (P:xA) (s r:Nat):Nat -> Call
 | 0=>fun _ _=>.no
 | n + 1=>fun f ws=>if f = s then om n ws else if f = r then rowsW ws else (ofO P[f]?).bind fun d=>runF (callR P s r n) d ws
def zP (P:xA) (s:Nat):Nat -> Call
 | 0=>fun _ _=>.no
 | n + 1=>fun f ws=>if f = s then om n ws else (ofO P[f]?).bind fun d=>runF (zP P s n) d ws
abbrev zf:Fn:={ ps:=0,ns:=0,io:=[],body:=[.stop] }
theorem zf_no (C:Call) (ws:List W):runF C zf ws = .no:=by cases ws <;> rfl
theorem wd (C:Call) (i:Nat) (η:Env):evE C (.var i) η = ret η ((rd η i).bind look):=rfl
theorem yB (C:Call) (i:Nat) (η:Env):evE C (.mv i) η = ret (del η i) (rd η i):=rfl
theorem yh (C:Call) (i:Nat) (η:Env):evE C (.io i) η = ret (del η i) (rd η i):=rfl
theorem xV (C:Call) (t:T) (η:Env):evE C (.cst t) η = .ok ((.d,t),η):=rfl
theorem yX (C:Call) (es:List E) (η:Env):evE C (.tup es) η = (evL C es η).bind kTup:=rfl
theorem wD (C:Call) (h:Bool) (es:List E) (η:Env):evE C (.lst h es) η = (evL C es η).bind (qw h):=rfl
theorem yM (C:Call) (o:Op) (h:Bool) (es:List E) (η:Env):evE C (.op o h es) η = (evL C es η).bind (kOp o h):=rfl
theorem rA (C:Call) (a:E) (b:E) (η:Env):evE C (.and a b) η = (evE C a η).bind (mM (evE C b)):=rfl
theorem tK (C:Call) (a:E) (b:E) (η:Env):evE C (.or a b) η = (evE C a η).bind (kOr (evE C b)):=rfl
theorem uy (C:Call) (a:E) (η:Env):evE C (.not a) η = (evE C a η).bind qK:=rfl
theorem t6 (C:Call) (c:E) (a:E) (b:E) (η:Env):evE C (.ifx c a b) η = (evE C c η).bind (onT (evE C a) (evE C b)):=rfl
theorem rH (C:Call) (o:Op) (q:Op) (a:E) (b:E) (c:E) (η:Env):evE C (.chain o q a b c) η = (evE C a η).bind (kC1 o q (evE C b) (evE C c)):=rfl
theorem uz (C:Call) (f:Nat) (es:List E) (η:Env):evE C (.call f es) η = (evA C es η).bind (kCall C f (ios es)):=rfl
theorem rR (C:Call) (h:Bool) (k:Ik) (src:List E) (tg:List Nat) (elt:E) (η:Env):evE C (.comp h k src tg none elt) η = (evL C src η).bind (eM h k tg (bK (evE C elt))):=rfl
theorem uI (C:Call) (h:Bool) (k:Ik) (src:List E) (tg:List Nat) (c:E) (elt:E) (η:Env):evE C (.comp h k src tg (some c) elt) η = (evL C src η).bind (eM h k tg (dU (evE C c) (evE C elt))):=rfl
theorem tM (C:Call) (i:Nat) (es:List E) (η:Env):evE C (.pop i es) η = (fA (rd η i)).bind (jH (evL C es) η (nH i)):=rfl
theorem kR (C:Call) (es:List E) (η:Env):evE C (.tupA es) η = (evA C es η).bind kTup:=rfl
theorem oS (C:Call) (vs ls:List Nat) (e:E) (η:Env):evE C (.qx vs ls e) η = (evE C e (dW vs ls η)).bind (kX vs η):=rfl
theorem kY (C:Call) (l:List E) (es:List E) (η:Env):evA C (.tupA l :: es) η = (evE C (.tupA l) η).bind (aU (evA C es)):=rfl
theorem qM (C:Call) (vs ls:List Nat) (e:E) (es:List E) (η:Env):evA C (.qx vs ls e :: es) η = (evE C (.qx vs ls e) η).bind (aU (evA C es)):=rfl
theorem xt (h:Bool) (m n:Md) (ts:List T) (i:Int):oSem .sl2 h [(m,.lst ts),(n,.int i)] = newL h m.kid (cut ts none (some i)):=rfl
theorem wg (h:Bool) (m n:Md) (ts:List T) (k:Int):oSem .mul h [(m,.lst ts),(n,.int k)] = if decide (k.natAbs < 4611686018427387904) && fits (ts.length * k.toNat) then newL h .s (List.replicate k.toNat ts).flatten else none:=rfl
theorem Bw (h:Bool) (m n:Md) (i j:Int):oSem .min h [(m,.int i),(n,.int j)] = some (.d,.int (if j < i then j else i)):=rfl
theorem Aw (h:Bool) (m n:Md) (i j:Int):oSem .rng h [(m,.int i),(n,.int j)] = if decide (i.natAbs < 4611686018427387904) && decide (j.natAbs < 4611686018427387904) && fits (j - i).toNat then some (.d,.lst ((List.range (j - i).toNat).map fun (k:Nat)=>T.int (i + k))) else none:=rfl
theorem zC (m:Md) (ts:List T):turns .enm [(m,.lst ts)] = some (cT .s 0 ts):=rfl
theorem uS (m n:Md) (ts us:List T):turns .zip [(m,.lst ts),(n,.lst us)] = some (cU .s .s ts us):=rfl
theorem rY (m n:Md) (ts us:List T):turns .zip [(m,.tup ts),(n,.tup us)] = some (cU .s .s ts us):=rfl
theorem wz (m:Md) (ns:List Int):turns .seq [(m,.scr ns)] = some (ns.map fun n=>[(.d,.int n)]):=rfl
def lkM:Md -> Md
 | .s=>.s | _=>.d
theorem Ct:lkM .s = .s:=rfl
theorem Cq:lkM .d = .d:=rfl
theorem B8 (m:Md):lkM (.o m) = .d:=rfl
theorem zt (m:Md) (i:Int):look (m,.int i) = some (lkM m,.int i):=by cases m <;> rfl
theorem AV (m:Md) (b:Bool):look (m,.bl b) = some (lkM m,.bl b):=by cases m <;> rfl
theorem Aj (m:Md) (x:Str):look (m,.str x) = some (lkM m,.str x):=by cases m <;> rfl
theorem Ab (m:Md):look (m,.non) = some (lkM m,.non):=by cases m <;> rfl
theorem xk (m n k:Md) (ts us vs:List T):turns .zip3 [(m,.lst ts),(n,.lst us),(k,.lst vs)] = some (qV ts us vs):=rfl
theorem kI (C:Call) (i:Nat) (η:Env):evE C (.lenV i) η = ret η ((rd η i).bind fun w=>oSem .len false [w]):=rfl
theorem kB (C:Call) (i:Nat) (es:List E) (η:Env):evA C (.lenV i :: es) η = (evE C (.lenV i) η).bind (aU (evA C es)):=rfl
theorem xX (C:Call) (η:Env):evA C [] η = .ok ([],η):=rfl
theorem zi (C:Call) (i:Nat) (es:List E) (η:Env):evA C (.io i :: es) η = (evA C es η).bind (kIo i):=rfl
theorem nO (C:Call) (i:Nat) (es:List E) (η:Env):evA C (.var i :: es) η = (evE C (.var i) η).bind (aU (evA C es)):=rfl
theorem oH (C:Call) (i:Nat) (es:List E) (η:Env):evA C (.mv i :: es) η = (evE C (.mv i) η).bind (aU (evA C es)):=rfl
theorem mS (C:Call) (t:T) (es:List E) (η:Env):evA C (.cst t :: es) η = (evE C (.cst t) η).bind (aU (evA C es)):=rfl
theorem m9 (C:Call) (l:List E) (es:List E) (η:Env):evA C (.tup l :: es) η = (evE C (.tup l) η).bind (aU (evA C es)):=rfl
theorem m6 (C:Call) (h:Bool) (l:List E) (es:List E) (η:Env):evA C (.lst h l :: es) η = (evE C (.lst h l) η).bind (aU (evA C es)):=rfl
theorem pD (C:Call) (o:Op) (h:Bool) (l:List E) (es:List E) (η:Env):evA C (.op o h l :: es) η = (evE C (.op o h l) η).bind (aU (evA C es)):=rfl
theorem m7 (C:Call) (a b:E) (es:List E) (η:Env):evA C (.and a b :: es) η = (evE C (.and a b) η).bind (aU (evA C es)):=rfl
theorem ou (C:Call) (a b:E) (es:List E) (η:Env):evA C (.or a b :: es) η = (evE C (.or a b) η).bind (aU (evA C es)):=rfl
theorem mU (C:Call) (a:E) (es:List E) (η:Env):evA C (.not a :: es) η = (evE C (.not a) η).bind (aU (evA C es)):=rfl
theorem m5 (C:Call) (c a b:E) (es:List E) (η:Env):evA C (.ifx c a b :: es) η = (evE C (.ifx c a b) η).bind (aU (evA C es)):=rfl
theorem j2 (C:Call) (o p:Op) (a b c:E) (es:List E) (η:Env):evA C (.chain o p a b c :: es) η = (evE C (.chain o p a b c) η).bind (aU (evA C es)):=rfl
theorem lz (C:Call) (f:Nat) (l:List E) (es:List E) (η:Env):evA C (.call f l :: es) η = (evE C (.call f l) η).bind (aU (evA C es)):=rfl
theorem kG (C:Call) (h:Bool) (k:Ik) (src:List E) (tg:List Nat) (cnd:Option E) (elt:E) (es:List E) (η:Env):evA C (.comp h k src tg cnd elt :: es) η = (evE C (.comp h k src tg cnd elt) η).bind (aU (evA C es)):=rfl
theorem ng (C:Call) (i:Nat) (l:List E) (es:List E) (η:Env):evA C (.pop i l :: es) η = (evE C (.pop i l) η).bind (aU (evA C es)):=rfl
theorem evA_eq {C:Call} {e:E} {es:List E} {η:Env} (he:∀ i,e ≠ .io i):evA C (e :: es) η = (evE C e η).bind (aU (evA C es)):=by
 cases e with
 | io i=>exact absurd rfl (he i)
 | _=>rfl
theorem uG (C:Call) (η:Env):evL C ([]) η = .ok ([],η):=rfl
theorem u7 (C:Call) (e:E) (es:List E) (η:Env):evL C (e :: es) η = (evE C e η).bind (aU (evL C es)):=rfl
theorem uf (C:Call) (x:X) (i:Nat) (e:E) (η:Env):evS C (.asg x i e) η = Fl.of η (evX C x e η) (uJ i):=rfl
theorem uP (C:Call) (x:X) (is:List Nat) (e:E) (η:Env):evS C (.asgT x is e) η = Fl.of η (evX C x e η) (mC is):=rfl
theorem su (C:Call) (x:X) (i:Nat) (k:E) (e:E) (η:Env):evS C (.setI x i k e) η = Fl.of η (evX C x e η) (sU i (evX C x k) η):=rfl
theorem uX (C:Call) (x:X) (e:E) (η:Env):evS C (.exp x e) η = Fl.of η (evX C x e η) kNx:=rfl
theorem tX (C:Call) (x:X) (i:Nat) (e:E) (η:Env):evS C (.app x i e) η = Fl.of η (fA (rd η i)) (kP (evX C x e) η (pj i)):=rfl
theorem rM (C:Call) (x:X) (i:Nat) (e:E) (η:Env):evS C (.ext x i e) η = Fl.of η (fA (rd η i)) (kP (evX C x e) η (ot i)):=rfl
theorem tH (C:Call) (vs:List Nat) (e:E) (η:Env):evS C (.ret vs e) η = Fl.of η (evE C e (share vs η)) kRt:=rfl
theorem uC (C:Call) (η:Env):evS C (.retN) η = .rt (.d,.non) η:=rfl
theorem uv (C:Call) (x:X) (c:E) (a:List S) (b:List S) (η:Env):evS C (.ite x c a b) η = Fl.of η (evT C x c η) (kIf (evSs C a) (evSs C b)):=rfl
theorem rZ (C:Call) (vs:List Nat) (ls:List Nat) (k:Ik) (src:List E) (tg:List Nat) (body:List S) (η:Env):evS C (.forS vs ls k src tg body) η = Fl.of η (evL C src (dW vs ls η)) (sy vs k tg (evSs C body) η):=rfl
theorem uK (C:Call) (x:X) (c:E) (body:List S) (η:Env):evS C (.whl x c body) η = j3 (evT C x c) (evSs C body) nE η:=rfl
theorem sE (C:Call) (η:Env):evS C (.brk) η = .bk η:=rfl
theorem uu (C:Call) (η:Env):evS C (.pas) η = .nx η:=rfl
theorem oJ (C:Call) (η:Env):evSs C ([]) η = .nx η:=rfl
theorem oA (C:Call) (s:S) (r:List S) (η:Env):evSs C (s :: r) η = Fl.seq (evS C s η) (evSs C r):=rfl
theorem tZ (C:Call) (vs:List Nat) (ls:List Nat) (e:E) (η:Env):evX C (.q vs ls) e η = (evE C e (dW vs ls η)).bind (kX vs η):=rfl
theorem ua (C:Call) (vs:List Nat) (e:E) (η:Env):evX C (.l vs) e η = evE C e (share vs η):=rfl
theorem tO (C:Call) (vs:List Nat) (ls:List Nat) (e:E) (η:Env):evT C (.q vs ls) e η = (evE C e (dW vs ls η)).bind (kT η):=rfl
theorem uF (C:Call) (vs:List Nat) (e:E) (η:Env):evT C (.l vs) e η = (evE C e (share vs η)).bind kT2:=rfl
theorem xg {α β:Type} (a:α) (f:α -> Res β):(Res.ok a).bind f = f a:=rfl
theorem BQ {α:Type} (η:Env) (a:α) (f:α -> Fl):Fl.of η (.ok a) f = f a:=rfl
theorem yy (η:Env) (f:Env -> Fl):Fl.seq (.nx η) f = f η:=rfl
theorem wQ (w:W) (η:Env) (f:Env -> Fl):Fl.seq (.rt w η) f = .rt w η:=rfl
theorem zg (η:Env) (f:Env -> Fl):Fl.seq (.bk η) f = .bk η:=rfl
theorem rQ (η:Env) (f:Env -> Fl):Fl.turn (.nx η) f = f η:=rfl
theorem uo (w:W) (η:Env) (f:Env -> Fl):Fl.turn (.rt w η) f = .rt w η:=rfl
theorem uO (η:Env) (f:Env -> Fl):Fl.turn (.bk η) f = .nx η:=rfl
theorem xW {α:Type} (f g:Env -> Res α) (η:Env):onB (.bl true) f g η = f η:=rfl
theorem zp {α:Type} (f g:Env -> Res α) (η:Env):onB (.bl false) f g η = g η:=rfl
theorem yK {α:Type} (f g:Env -> Res α) (m:Md) (b:Bool) (η:Env):onT f g ((m,.bl b),η) = onB (.bl b) f g η:=by cases b <;> rfl
theorem yP {α:Type} (f g:Env -> Res α) (m:Md) (η:Env):onT f g ((m,.bl true),η) = f η:=rfl
theorem wu {α:Type} (f g:Env -> Res α) (m:Md) (η:Env):onT f g ((m,.bl false),η) = g η:=rfl
theorem yc (f g:Env -> Fl) (η:Env):onF true f g η = f η:=rfl
theorem xm (f g:Env -> Fl) (η:Env):onF false f g η = g η:=rfl
theorem Bm {α:Type} (a:α):ofO (some a) = .ok a:=rfl
theorem Bn {α:Type} (η:Env) (a:α):ret η (some a) = .ok (a,η):=rfl
theorem zU (o:Option W) (η:Env):rd (o :: η) 0 = o:=rfl
theorem AA (o:Option W) (η:Env) (i:Nat):rd (o :: η) (i + 1) = rd η i:=rfl
theorem Ar (o w:Option W) (η:Env):wr (o :: η) 0 w = w :: η:=rfl
theorem Ah (o w:Option W) (η:Env) (i:Nat):wr (o :: η) (i + 1) w = o :: wr η i w:=rfl
theorem tS (t:T):look (.s,t) = some (.s,t):=rfl
theorem tI (m:Md) (i:Int):(look (.d,.int i)) = some (.d,.int i):=rfl
theorem t9 (m:Md) (b:Bool):(look (.d,.bl b)) = some (.d,.bl b):=rfl
theorem uA (x:Str):(look (.d,.str x)) = some (.d,.str x):=rfl
theorem tq:(look (.d,.non)) = some (.d,.non):=rfl
theorem AW (m:Md) (t:T):toS (some (m,t)) = some (.s,t):=rfl
theorem yb:toS none = none:=rfl
theorem pE (η:Env):share [] η = η:=rfl
theorem qy (i:Nat) (is:List Nat) (η:Env):share (i :: is) η = share is (wr η i (toS (rd η i))):=rfl
theorem qL:gn [] = []:=rfl
theorem oF (o:Option W) (η:Env):gn (o :: η) = none :: gn η:=rfl
theorem wF (vs ls:List Nat) (η:Env):dW vs ls η = fR ls η (lh vs η (gn η)):=rfl
theorem t7 (η0 η:Env):lh [] η0 η = η:=rfl
theorem rB (i:Nat) (is:List Nat) (η0 η:Env):lh (i :: is) η0 η = lh is η0 (wr η i (toS (rd η0 i))):=rfl
theorem pK (η0 η:Env):fR [] η0 η = η:=rfl
theorem oW (i:Nat) (is:List Nat) (η0 η:Env):fR (i :: is) η0 η = fR is η0 (wr η i (lfO (rd η0 i))):=rfl
theorem Ad (m:Md) (i:Int):lfO (some (m,.int i)) = some (.d,.int i):=rfl
theorem Bq (m:Md) (b:Bool):lfO (some (m,.bl b)) = some (.d,.bl b):=rfl
theorem zV (m:Md) (x:Str):lfO (some (m,.str x)) = some (.d,.str x):=rfl
theorem AM (m:Md):lfO (some (m,.non)) = some (.d,.non):=rfl
theorem pF (vs:List Nat) (η:Env):after .d vs η = η:=rfl
theorem qZ (vs:List Nat) (η:Env):after .s vs η = share vs η:=rfl
theorem oT (m:Md) (vs:List Nat) (η:Env):after (.o m) vs η = share vs η:=rfl
theorem zj (m:Md) (i:Int):lf m (.int i) = .d:=rfl
theorem y8 (m:Md) (b:Bool):lf m (.bl b) = .d:=rfl
theorem xO (m:Md) (x:Str):lf m (.str x) = .d:=rfl
theorem xM (m:Md):lf m .non = .d:=rfl
theorem wM (m:Md) (ts:List T):lf m (.lst ts) = m:=rfl
theorem zo (m:Md) (ts:List T):lf m (.tup ts) = m:=rfl
theorem xH (t:T):lf .d t = .d:=by unfold lf; split <;> rfl
theorem yS (m:Md):Md.s.le m = true:=by cases m <;> rfl
theorem sJ:Md.d.le .d = true:=rfl
theorem tj (m:Md):(Md.o m).le .d = true:=rfl
theorem uU (m n:Md):(Md.o m).le (.o n) = m.le n:=rfl
theorem xa (h:Bool) (m n:Md) (i j:Int):oSem .add h [(m,.int i),(n,.int j)] = some (.d,.int (i + j)):=rfl
theorem qq (h:Bool) (m n:Md) (ts us:List T):oSem .add h [(m,.lst ts),(n,.lst us)] = if fits (ts.length + us.length) then newL h (m.kid.meet n.kid) (ts ++ us) else none:=rfl
theorem qi (h:Bool) (m n:Md) (x y:Str):oSem .add h [(m,.str x),(n,.str y)] = if fits (x.cps.size + y.cps.size) then some (.d,.str (x ++ y)) else none:=rfl
theorem pV (h:Bool) (m n:Md) (ts us:List T):oSem .add h [(m,.tup ts),(n,.tup us)] = if fits (ts.length + us.length) && !ts.isEmpty then some (.s,.tup (ts ++ us)) else none:=rfl
theorem Be (h:Bool) (m n:Md) (i j:Int):oSem .sub h [(m,.int i),(n,.int j)] = some (.d,.int (i - j)):=rfl
theorem rn (h:Bool) (m n:Md) (i j:Int):oSem .mul h [(m,.int i),(n,.int j)] = if (decide (i.natAbs < 18446744073709551616)) || (decide (j.natAbs < 18446744073709551616)) then some (.d,.int (i * j)) else none:=rfl
theorem n9 (h:Bool) (m n:Md) (i j:Int):oSem .fdiv h [(m,.int i),(n,.int j)] = if decide (0 < j) && decide (j < 1073741824) then some (.d,.int (i / j)) else none:=rfl
theorem vh (h:Bool) (m n:Md) (i j:Int):oSem .mod h [(m,.int i),(n,.int j)] = if decide (0 < j) then some (.d,.int (i % j)) else none:=rfl
theorem zJ (h:Bool) (m n:Md) (i j:Int):oSem .pow h [(m,.int i),(n,.int j)] = if decide (0 <= j) && decide (j <= 1000000) && decide (i.natAbs < 18446744073709551616) then some (.d,.int (i ^ j.toNat)) else none:=rfl
theorem Bg (h:Bool) (m:Md) (i:Int):oSem .neg h [(m,.int i)] = some (.d,.int (-i)):=rfl
theorem ye (h:Bool) (m n:Md) (i j:Int):oSem .eq h [(m,.int i),(n,.int j)] = some (.d,.bl (i == j)):=rfl
theorem x5 (h:Bool) (m n:Md) (x y:Str):oSem .eq h [(m,.str x),(n,.str y)] = some (.d,.bl (x == y)):=rfl
theorem xn (h:Bool) (m n:Md) (a b:Bool):oSem .eq h [(m,.bl a),(n,.bl b)] = some (.d,.bl (a == b)):=rfl
theorem yV (h:Bool) (m n:Md) (i j:Int):oSem .ne h [(m,.int i),(n,.int j)] = some (.d,.bl (!(i == j))):=rfl
theorem wK (h:Bool) (m n:Md) (x y:Str):oSem .ne h [(m,.str x),(n,.str y)] = some (.d,.bl (!(x == y))):=rfl
theorem wC (h:Bool) (m n:Md) (a b:Bool):oSem .ne h [(m,.bl a),(n,.bl b)] = some (.d,.bl (!(a == b))):=rfl
theorem B6 (h:Bool) (m n:Md) (i j:Int):oSem .lt h [(m,.int i),(n,.int j)] = some (.d,.bl (decide (i < j))):=rfl
theorem BM (h:Bool) (m n:Md) (i j:Int):oSem .le h [(m,.int i),(n,.int j)] = some (.d,.bl (decide (i <= j))):=rfl
theorem CN (h:Bool) (m n:Md) (i j:Int):oSem .gt h [(m,.int i),(n,.int j)] = some (.d,.bl (decide (j < i))):=rfl
theorem Cv (h:Bool) (m n:Md) (i j:Int):oSem .ge h [(m,.int i),(n,.int j)] = some (.d,.bl (decide (j <= i))):=rfl
theorem Ak (h:Bool) (m n:Md) (ts:List T) (i:Int):oSem .ix h [(m,.lst ts),(n,.int i)] = (atI ts i).map fun t=>(m.kid,t):=rfl
theorem Bs (h:Bool) (m n:Md) (ts:List T) (i:Int):oSem .ix h [(m,.tup ts),(n,.int i)] = (atI ts i).map fun t=>(m.kid,t):=rfl
theorem xc (h:Bool) (m:Md) (ts:List T):oSem .len h [(m,.lst ts)] = some (.d,.int ts.length):=rfl
theorem yp (h:Bool) (m:Md) (ts:List T):oSem .len h [(m,.tup ts)] = some (.d,.int ts.length):=rfl
theorem yk (h:Bool) (m:Md) (ns:List Int):oSem .len h [(m,.scr ns)] = some (.d,.int ns.length):=rfl
theorem AI (h:Bool) (m n:Md) (ns:List Int) (i:Int):oSem .ix h [(m,.scr ns),(n,.int i)] = (atI ns i).map fun n=>(.d,.int n):=rfl
theorem Bk (h:Bool) (m n:Md) (ns:List Int) (i:Int):oSem .sl2 h [(m,.scr ns),(n,.int i)] = some (.d,.lst ((cut ns none (some i)).map T.int)):=rfl
theorem zl (m:Md) (ns:List Int):lf m (.scr ns) = .d:=rfl
theorem Av (m:Md) (ns:List Int):lfO (some (m,.scr ns)) = some (.d,.scr ns):=rfl
theorem uH (ns:List Int):look (.d,.scr ns) = some (.d,.scr ns):=rfl
theorem vV (h:Bool) (m:Md) (x:Str):oSem .len h [(m,.str x)] = some (.d,.int x.cps.size):=rfl
theorem A9 (cs:List String) (h:Bool) (m:Md) (a:T):oSem (.isI cs) h [(m,a)] = if a.isG then none else some (.d,.bl (cs.any fun c=>isOne c a)):=rfl
theorem zT:T.isG .non = false:=rfl
theorem Co (b:Bool):T.isG (.bl b) = false:=rfl
theorem Bp (i:Int):T.isG (.int i) = false:=rfl
theorem AJ (x:Str):T.isG (.str x) = false:=rfl
theorem Bb (ts:List T):T.isG (.tup ts) = false:=rfl
theorem zN (ts:List T):T.isG (.lst ts) = false:=rfl
theorem Al (ns:List Int):T.isG (.scr ns) = false:=rfl
theorem AZ:T.isN .non = true:=rfl
theorem BZ (b:Bool):T.isN (.bl b) = false:=rfl
theorem AB (i:Int):T.isN (.int i) = false:=rfl
theorem zE (x:Str):T.isN (.str x) = false:=rfl
theorem zK (ts:List T):T.isN (.tup ts) = false:=rfl
theorem Ay (ts:List T):T.isN (.lst ts) = false:=rfl
theorem sN (h:Bool) (m:Md) (ts:List T):oSem .list h [(m,.lst ts)] = newL h m.kid ts:=rfl
theorem tJ (h:Bool) (m:Md) (ts:List T):oSem .list h [(m,.tup ts)] = newL h m.kid ts:=rfl
theorem ux (h:Bool) (m n:Md) (i j:Int):oSem .fdivN h [(m,.int i),(n,.int j)] = if (j != 0) && decide (j.natAbs < 18446744073709551616) then some (.d,.int (i.fdiv j)) else none:=rfl
theorem xf (h:Bool) (m n:Md) (i j:Int):oSem .modN h [(m,.int i),(n,.int j)] = if j != 0 then some (.d,.int (i.fmod j)) else none:=rfl
theorem xZ (h:Bool) (m n:Md) (a b:Bool):oSem .isnB h [(m,.bl a),(n,.bl b)] = some (.d,.bl (!(a == b))):=rfl
theorem zH (m:Md) (ts:List T):turns .sq2 [(m,.lst ts)] = bO ts:=rfl
theorem xY (h:Bool) (m n:Md) (ts us:List T):oSem .lzip h [(m,.lst ts),(n,.lst us)] = some ((m.kid.meet n.kid).up.up,.lst (zipP ts us)):=rfl
theorem AE (h:Bool) (m:Md) (ts:List T):oSem .sum h [(m,.lst ts)] = (bq ts).map fun ns=>(.d,.int ns.sum):=rfl
theorem Bl (h:Bool) (m:Md) (ts:List T):oSem .all h [(m,.lst ts)] = (aW ts).map fun bs=>(.d,.bl (bs.all id)):=rfl
theorem yC (m:Md) (ts:List T):newL true m ts = if leaves ts then some (.d,.lst ts) else none:=rfl
theorem wX (m:Md) (ts:List T):newL false m ts = some (m.up,.lst ts):=rfl
theorem zc (m:Md) (ts:List T):turns .seq [(m,.lst ts)] = some (ts.map fun t=>[(.s,t)]):=rfl
theorem yZ (m:Md) (ts:List T):turns .seq [(m,.tup ts)] = some (ts.map fun t=>[(.s,t)]):=rfl
theorem pb (m:Md) (n:Int):turns .rng [(m,.int n)] = if decide (n.natAbs < 4611686018427387904) && fits n.toNat then some ((List.range n.toNat).map fun (k:Nat)=>[(.d,.int k)]) else none:=rfl
theorem qH (η:Env):aJ [] [] η = some η:=rfl
theorem oK (i:Nat) (is:List Nat) (w:W) (ws:List W) (η:Env):aJ (i :: is) (w :: ws) η = aJ is ws (put η i w):=rfl
theorem Ac {α β:Type} (f:α -> β) (a:α):(some a).map f = some (f a):=rfl
theorem qu (b:Bool):truth (.bl b) = some b:=rfl
theorem qY (i:Int):truth (.int i) = some (i != 0):=rfl
theorem rC {α β:Type} (a:α) (f:α -> Option β):(some a).bind f = f a:=rfl
theorem ve:Md.s.kid = .s:=rfl
theorem sR:Md.d.kid = .d:=rfl
theorem tV (m:Md):(Md.o m).kid = m:=rfl
theorem xQ:Md.s.up = .o .s:=rfl
theorem yn:Md.d.up = .d:=rfl
theorem xG (m:Md):(Md.o m).up = .o (.o m):=rfl
theorem q8 (m:Md):Md.s.meet m = .s:=by cases m <;> rfl
theorem ey (m:Md):Md.d.meet m = m:=by cases m <;> rfl
theorem nR (m:Md):(Md.o m).meet .s = .s:=rfl
theorem mQ (m:Md):(Md.o m).meet .d = .o m:=rfl
theorem mI (m n:Md):(Md.o m).meet (.o n) = .o (m.meet n):=rfl
theorem yz (n:Md) (ts:List T) (t:T):gI (.d,.lst ts) (n,t) = if ts.length < LIM then some ((lf n t).up,.lst (ts ++ [t])) else none:=by show (if _ then some ((Md.d.meet _).up,_) else none) = _; rw [ey]
theorem yw (m n:Md) (ts:List T) (t:T):gI (.o m,.lst ts) (n,t) = if ts.length < LIM then some ((m.meet (lf n t)).up,.lst (ts ++ [t])) else none:=rfl
theorem xK (n:Md) (ts us:List T):gB (.d,.lst ts) (n,.lst us) = if ts.length + us.length <= LIM then some (n.kid.up,.lst (ts ++ us)) else none:=by show (if _ then some ((Md.d.meet _).up,_) else none) = _; rw [ey]
theorem wj (m n:Md) (ts us:List T):gB (.o m,.lst ts) (n,.lst us) = if ts.length + us.length <= LIM then some ((m.meet n.kid).up,.lst (ts ++ us)) else none:=rfl
theorem yx (l n:Md) (ts:List T) (t:T) (j:Int):eg (.d,.lst ts) (l,.int j) (n,t) = (ixN ts.length j).map fun k=>((lf n t).up,.lst (ts.set k t)):=by show ((ixN ts.length j).map fun k=>((Md.d.meet _).up,_)) = _; rw [ey]
theorem x3 (m l n:Md) (ts:List T) (t:T) (j:Int):eg (.o m,.lst ts) (l,.int j) (n,t) = (ixN ts.length j).map fun k=>((m.meet (lf n t)).up,.lst (ts.set k t)):=rfl
theorem yF (m:Md) (ts:List T):fA (some (m,.lst ts)) = .ok ():=rfl
theorem yi (m:Md) (ts:List T):xj (m,.tup ts) = some (ts.map fun t=>(m.kid,t)):=rfl
theorem zS (η η':Env):nxO η (some η') = .nx η':=rfl
theorem pf (η:Env):backs [] η = some []:=rfl
theorem pP (i:Nat) (is:List Nat) (η:Env):backs (i :: is) η = (rd η i).bind fun w=>(backs is η).bind fun ws=>some (w :: ws):=rfl
theorem wy (io:List Nat) (η:Env):Fl.out io (.nx η) = (ofO (backs io η)).bind (oY (.d,.non)):=rfl
theorem w8 (io:List Nat) (w:W) (η:Env):Fl.out io (.rt w η) = (ofO (backs io η)).bind (oY w):=rfl
theorem x_run (C:Call) (f:Fn) (ws:List W) (h:ws.length = f.ps):runF C f ws = Fl.out f.io (evSs C f.body (ws.map some ++ List.replicate f.ns none)):=if_pos h
theorem at0 {α:Type} (a:α) (l:List α):atI (a :: l) 0 = some a:=by simp [atI,ixN]
theorem atN {α:Type} {xs:List α} {i:Int} {n:Nat} {a:α} (hi:i = n) (h:xs[n]? = some a):atI xs i = some a:=by
 subst hi
 have:=(List.getElem?_eq_some_iff.mp h).1
 rw [atI,ixN,if_pos (by omega),if_pos (by omega)]
 exact h
theorem at1 {α:Type} (a b:α) (l:List α):atI (a :: b :: l) 1 = some b:=atN (n:=1) rfl rfl
theorem at2 {α:Type} (a b c:α) (l:List α):atI (a :: b :: c :: l) 2 = some c:=atN (n:=2) rfl rfl
theorem at3 {α:Type} (a b c d:α) (l:List α):atI (a :: b :: c :: d :: l) 3 = some d:=atN (n:=3) rfl rfl
theorem at4 {α:Type} (a b c d e:α) (l:List α):atI (a :: b :: c :: d :: e :: l) 4 = some e:=atN (n:=4) rfl rfl
theorem aQ {α:Type} {tg:List Nat} {f:Env -> Res (Option W × Env)} {η:Env} {g:α -> List W} (w:α -> W):∀ (ts:List α) (acc:List W),(∀ x ∈ ts,∃ η1 η2,aJ tg (g x) η = some η1 /\ f η1 = .ok (some (w x),η2) /\ ak tg η2 = η) ->
  aD tg f (ts.map g) η acc = .ok (acc ++ ts.map w,η)
 | [],acc,_=>by rw [List.map_nil,List.map_nil,List.append_nil]; rfl
 | x :: ts,acc,h=>by
  obtain ⟨η1,η2,h1,h2,h3⟩:=h x List.mem_cons_self
  rw [List.map_cons,List.map_cons]
  show (ofO (aJ tg (g x) η)).bind _ = _
  rw [h1]
  show (f η1).bind _ = _
  rw [h2]
  show aD tg f (ts.map g) (ak tg η2) (acc ++ [w x]) = _
  rw [h3,aQ w ts _ fun y hy=>h y (List.mem_cons_of_mem _ hy),List.append_assoc]
  rfl
theorem hW {α:Type} {tg:List Nat} {f:Env -> Res (Option W × Env)} {g:α -> List W} (I:List α -> Env -> List W -> Prop):∀ (ts pre:List α) (η:Env) (acc:List W),I pre η acc ->
  (∀ p x r η acc,pre ++ ts = p ++ x :: r -> I p η acc -> ∃ η1 o η2,aJ tg (g x) η = some η1 /\ f η1 = .ok (o,η2) /\ I (p ++ [x]) (ak tg η2) (acc ++ o.toList)) ->
  ∃ ws η',aD tg f (ts.map g) η acc = .ok (ws,η') /\ I (pre ++ ts) η' ws
 | [],pre,η,acc,h,_=>⟨acc,η,rfl,by rw [List.append_nil]; exact h⟩
 | x :: ts,pre,η,acc,h,k=>by
  obtain ⟨η1,o,η2,h1,h2,h3⟩:=k pre x ts η acc rfl h
  obtain ⟨ws,η',e,hi⟩:=hW I ts (pre ++ [x]) (ak tg η2) (acc ++ o.toList) h3 (fun p y r η acc e=>k p y r η acc (by rw [<- e,List.append_assoc]; rfl))
  refine ⟨ws,η',?_,by rw [List.append_assoc] at hi; exact hi⟩
  rw [List.map_cons]
  show (ofO (aJ tg (g x) η)).bind _ = _
  rw [h1]
  show (f η1).bind _ = _
  rw [h2]
  exact e
theorem dS {α:Type} {tg:List Nat} {f:Env -> Fl} {g:α -> List W} (st:List α -> Env):∀ (ts pre:List α),(∀ p x r,pre ++ ts = p ++ x :: r -> ∃ η1,aJ tg (g x) (st p) = some η1 /\ f η1 = .nx (st (p ++ [x]))) ->
  dX tg f (ts.map g) (st pre) = .nx (st (pre ++ ts))
 | [],pre,_=>by rw [List.append_nil]; rfl
 | x :: ts,pre,h=>by
  obtain ⟨η1,h1,h2⟩:=h pre x ts rfl
  rw [List.map_cons]
  show Fl.of _ (ofO (aJ tg (g x) (st pre))) _ = _
  rw [h1]
  show Fl.turn (f η1) _ = _
  rw [h2]
  show dX tg f (ts.map g) (st (pre ++ [x])) = _
  rw [dS st ts (pre ++ [x]) fun p y r e=>h p y r (by rw [<- e,List.append_assoc]; rfl),List.append_assoc]
  rfl
theorem ml {α:Type} (g:α -> T) (ts:List α):(ts.map fun x=>((Md.d,g x):W)).all okD = true:=by
 rw [List.all_map,List.all_eq_true]; intro x _; rfl
end M

set_option Elab.async false
set_option linter.all false
set_option maxRecDepth 100000
set_option maxHeartbeats 4000000
namespace MR
open L2 L3 M
open PySem (Addr Str sizeLine)
abbrev Fp:=Addr -> Prop
def ScrR (K:PySem.W.Frag) (H:Hp) (a:Addr) (ns:List Int):Prop:=(∃ o,H a = some (.frz o (.lst (ns.map V.int)))) \/ SqL K (fun _=>none) a (ns.map V.int)
theorem ScrR.sq {K:PySem.W.Frag} {H:Hp} {a:Addr} {ns:List Int} (h:ScrR K H a ns):SqL K H a (ns.map V.int):=by
 rcases h with ⟨o,h⟩ | ((h | ⟨o,h⟩) | h)
 ·exact .inl (.inr ⟨o,h⟩)
 ·cases h
 ·cases h
 ·exact .inr h
theorem ScrR.keep {K:PySem.W.Frag} {H H':Hp} {a:Addr} {ns:List Int} (s:∀ a o u,H a = some (.frz o u) -> H' a = some (.frz o u)) (h:ScrR K H a ns):ScrR K H' a ns:=h.imp (fun ⟨o,e⟩=>⟨o,s a o _ e⟩) id
def LstR (K:PySem.W.Frag) (Z:Fp) (H:Hp) (G:Fp) (a:Addr) (xs:List V):Md -> Prop
 | .s=>Z a /\ H a = some (.lst xs)
 | _=>G a /\ H a = some (.lst xs)
mutual
def Rep (K:PySem.W.Frag) (Z:Fp) (H:Hp):Md -> T -> V -> Fp -> Prop
 | _,.non,v,_=>v = .non
 | _,.bl b,v,_=>v = .bl b
 | _,.int i,v,_=>v = .int i
 | _,.str x,v,_=>v = .str x /\ sOk x = true
 | m,.tup ts,v,G=>∃ a xs,v = .ref a /\ SqT K H a xs /\ xs.length <= LIM /\ RepL K Z H m.kid ts xs G
 | m,.lst ts,v,G=>∃ a xs,v = .ref a /\ xs.length <= LIM /\ LstR K Z H G a xs m /\ RepL K Z H m.kid ts xs (fun b=>G b /\ b ≠ a)
 | _,.dct _ _,_,_=>False
 | _,.ins _ _ _,_,_=>False
 | _,.gone,_,_=>True
 | _,.scr ns,v,_=>∃ a,v = .ref a /\ ns.length <= LIM /\ ScrR K H a ns
def RepL (K:PySem.W.Frag) (Z:Fp) (H:Hp):Md -> List T -> List V -> Fp -> Prop
 | _,[],xs,_=>xs = []
 | m,t :: ts,xs,G=>∃ x r G1 G2,xs = x :: r /\ (∀ a,G1 a -> G a) /\ (∀ a,G2 a -> G a) /\ (∀ a,G1 a -> ¬ G2 a) /\ Rep K Z H m t x G1 /\ RepL K Z H m ts r G2
end
section
variable {K:PySem.W.Frag} {Z Z':Fp} {H H':Hp} {m:Md} {t:T} {ts:List T} {v:V} {xs:List V} {G G':Fp}
theorem LstR.mono {a:Addr} (w:∀ a,G a -> G' a) (h:LstR K Z H G a xs m):LstR K Z H G' a xs m:=by
 cases m with
 | s=>exact h
 | d=>exact ⟨w _ h.1,h.2⟩
 | o m=>exact ⟨w _ h.1,h.2⟩
mutual
theorem Rep.mono:∀ {m:Md} {t:T} {v:V} {G G':Fp},(∀ a,G a -> G' a) -> Rep K Z H m t v G -> Rep K Z H m t v G'
 | _,.non,_,_,_,_,h=>h
 | _,.bl _,_,_,_,_,h=>h
 | _,.int _,_,_,_,_,h=>h
 | _,.str _,_,_,_,_,h=>h
 | m,.tup ts,v,G,G',w,⟨a,xs,e,q,l,r⟩=>⟨a,xs,e,q,l,RepL.mono w r⟩
 | m,.lst ts,v,G,G',w,⟨a,xs,e,l,q,r⟩=>⟨a,xs,e,l,q.mono w,RepL.mono (fun b hb=>⟨w b hb.1,hb.2⟩) r⟩
 | _,.dct _ _,_,_,_,_,h=>h.elim
 | _,.ins _ _ _,_,_,_,_,h=>h.elim
 | _,.gone,_,_,_,_,h=>h
 | _,.scr _,_,_,_,_,h=>h
theorem RepL.mono:∀ {m:Md} {ts:List T} {xs:List V} {G G':Fp},(∀ a,G a -> G' a) -> RepL K Z H m ts xs G -> RepL K Z H m ts xs G'
 | _,[],_,_,_,_,h=>h
 | m,t :: ts,xs,G,G',w,⟨x,r,G1,G2,e,h1,h2,hd,p,q⟩=>⟨x,r,G1,G2,e,fun a ha=>w a (h1 a ha),fun a ha=>w a (h2 a ha),hd,p,q⟩
end
def Stay (Z:Fp) (H H':Hp):Prop:=(∀ a o,Z a -> H a = some o -> H' a = some o) /\ (∀ a xs,Rd H a (.tup xs) -> Rd H' a (.tup xs)) /\ ∀ a o u,H a = some (.frz o u) -> H' a = some (.frz o u)
theorem Stay.sqt (s:Stay Z H H') {a:Addr} (h:SqT K H a xs):SqT K H' a xs:=by
 rcases h with h | h
 ·exact .inl (s.2.1 a xs h)
 ·exact .inr h
theorem LstR.keep {a:Addr} (s:Stay Z H H') (z:∀ a,Z a -> Z' a) (g:∀ a o,G a -> H a = some o -> H' a = some o) (h:LstR K Z H G a xs m):LstR K Z' H' G a xs m:=by
 cases m with
 | s=>exact ⟨z _ h.1,s.1 _ _ h.1 h.2⟩
 | d=>exact ⟨h.1,g _ _ h.1 h.2⟩
 | o m=>exact ⟨h.1,g _ _ h.1 h.2⟩
mutual
theorem Rep.keep (s:Stay Z H H') (z:∀ a,Z a -> Z' a):∀ {m:Md} {t:T} {v:V} {G:Fp},(∀ a o,G a -> H a = some o -> H' a = some o) -> Rep K Z H m t v G -> Rep K Z' H' m t v G
 | _,.non,_,_,_,h=>h
 | _,.bl _,_,_,_,h=>h
 | _,.int _,_,_,_,h=>h
 | _,.str _,_,_,_,h=>h
 | m,.tup ts,v,G,g,⟨a,xs,e,q,l,r⟩=>⟨a,xs,e,s.sqt q,l,RepL.keep s z g r⟩
 | m,.lst ts,v,G,g,⟨a,xs,e,l,q,r⟩=>⟨a,xs,e,l,q.keep s z g,RepL.keep s z (fun b o hb=>g b o hb.1) r⟩
 | _,.dct _ _,_,_,_,h=>h.elim
 | _,.ins _ _ _,_,_,_,h=>h.elim
 | _,.gone,_,_,_,h=>h
 | _,.scr _,_,_,_,⟨a,e,l,q⟩=>⟨a,e,l,q.keep s.2.2⟩
theorem RepL.keep (s:Stay Z H H') (z:∀ a,Z a -> Z' a):∀ {m:Md} {ts:List T} {xs:List V} {G:Fp},(∀ a o,G a -> H a = some o -> H' a = some o) -> RepL K Z H m ts xs G -> RepL K Z' H' m ts xs G
 | _,[],_,_,_,h=>h
 | m,t :: ts,xs,G,g,⟨x,r,G1,G2,e,h1,h2,hd,p,q⟩=>⟨x,r,G1,G2,e,h1,h2,hd,Rep.keep s z (fun a o ha=>g a o (h1 a ha)) p,RepL.keep s z (fun a o ha=>g a o (h2 a ha)) q⟩
end
theorem dN (Z:Fp) (H:Hp):Stay Z H H:=⟨fun _ _ _ h=>h,fun _ _ h=>h,fun _ _ _ h=>h⟩
theorem Rep.zmono (z:∀ a,Z a -> Z' a) (h:Rep K Z H m t v G):Rep K Z' H m t v G:=h.keep (dN Z H) z fun _ _ _ q=>q
theorem RepL.zmono (z:∀ a,Z a -> Z' a) (h:RepL K Z H m ts xs G):RepL K Z' H m ts xs G:=h.keep (dN Z H) z fun _ _ _ q=>q
theorem RepL.length:∀ {ts:List T} {xs:List V} {G:Fp},RepL K Z H m ts xs G -> xs.length = ts.length
 | [],_,_,h=>by rw [show _ = [] from h]; rfl
 | _ :: _,_,_,⟨x,r,G1,G2,e,_,_,_,_,q⟩=>by rw [e,List.length_cons,List.length_cons,RepL.length q]
theorem RepL.get:∀ {ts:List T} {xs:List V} {G:Fp} {i:Nat} {t:T},RepL K Z H m ts xs G -> ts[i]? = some t -> ∃ x,xs[i]? = some x /\ Rep K Z H m t x G
 | [],_,_,_,_,_,e=>by simp at e
 | _ :: _,_,_,0,_,⟨x,r,G1,G2,e,h1,_,_,p,_⟩,e2=>by
  rw [List.getElem?_cons_zero] at e2; cases e2
  exact ⟨x,by rw [e]; rfl,p.mono h1⟩
 | _ :: _,_,_,i + 1,_,⟨x,r,G1,G2,e,_,h2,_,_,q⟩,e2=>by
  rw [List.getElem?_cons_succ] at e2
  obtain ⟨y,hy,p⟩:=RepL.get q e2
  exact ⟨y,by rw [e,List.getElem?_cons_succ]; exact hy,p.mono h2⟩
theorem RepL.append:∀ {ts us:List T} {xs ys:List V} {G1 G2 G:Fp},(∀ a,G1 a -> G a) -> (∀ a,G2 a -> G a) -> (∀ a,G1 a -> ¬ G2 a) -> RepL K Z H m ts xs G1 -> RepL K Z H m us ys G2 -> RepL K Z H m (ts ++ us) (xs ++ ys) G
 | [],us,xs,ys,G1,G2,G,w1,w2,d,h,k=>by rw [show xs = [] from h]; exact k.mono w2
 | t :: ts,us,xs,ys,G1,G2,G,w1,w2,d,⟨x,r,A,B,e,h1,h2,hd,p,q⟩,k=>by
  rw [e]
  refine ⟨x,r ++ ys,A,fun a=>B a \/ G2 a,rfl,fun a ha=>w1 a (h1 a ha),fun a ha=>ha.elim (fun z=>w1 a (h2 a z)) (w2 a),fun a ha hb=>hb.elim (hd a ha) (d a (h1 a ha)),p,?_⟩
  exact RepL.append (fun a z=>.inl z) (fun a z=>.inr z) (fun a ha=>d a (h2 a ha)) q k
theorem RepL.one {x:V} (p:Rep K Z H m t x G):RepL K Z H m [t] [x] G:=⟨x,[],G,fun _=>False,rfl,fun _ h=>h,fun _ h=>h.elim,fun _ _ h=>h,p,rfl⟩
theorem RepL.take:∀ {ts:List T} {xs:List V} {G:Fp} (n:Nat),RepL K Z H m ts xs G -> RepL K Z H m (ts.take n) (xs.take n) G
 | [],_,_,n,h=>by rw [show _ = [] from h,List.take_nil,List.take_nil]; rfl
 | _ :: _,_,_,0,h=>rfl
 | _ :: _,_,_,n + 1,⟨x,r,A,B,e,h1,h2,hd,p,q⟩=>by rw [e]; exact ⟨x,r.take n,A,B,rfl,h1,h2,hd,p,RepL.take n q⟩
theorem RepL.drop:∀ {ts:List T} {xs:List V} {G:Fp} (n:Nat),RepL K Z H m ts xs G -> RepL K Z H m (ts.drop n) (xs.drop n) G
 | [],_,_,n,h=>by rw [show _ = [] from h,List.drop_nil,List.drop_nil]; rfl
 | _ :: _,_,_,0,h=>h
 | _ :: _,_,_,n + 1,⟨x,r,A,B,e,h1,h2,hd,p,q⟩=>by rw [e]; exact (RepL.drop n q).mono h2
theorem Rep.leaf {m':Md} (hs:∀ a o u,H a = some (.frz o u) -> H' a = some (.frz o u)) (hl:t.leaf = true) (h:Rep K Z H m t v G):Rep K Z' H' m' t v G':=by
 cases t with
 | non=>exact h
 | bl _=>exact h
 | int _=>exact h
 | str _=>exact h
 | scr _=>obtain ⟨a,e,l,q⟩:=h; exact ⟨a,e,l,q.keep hs⟩
 | _=>cases hl
theorem RepL.leaves {m':Md} (hs:∀ a o u,H a = some (.frz o u) -> H' a = some (.frz o u)):∀ {ts:List T} {xs:List V} {G G':Fp},leaves ts = true -> RepL K Z H m ts xs G -> RepL K Z' H' m' ts xs G'
 | [],_,_,_,_,h=>h
 | t :: ts,_,_,G',hl,⟨x,r,A,B,e,h1,h2,hd,p,q⟩=>by
  have h':(t.leaf && ts.all T.leaf) = true:=hl
  rw [Bool.and_eq_true] at h'
  exact ⟨x,r,fun _=>False,fun _=>False,e,fun _ z=>z.elim,fun _ z=>z.elim,fun _ z=>z.elim,p.leaf hs h'.1,RepL.leaves hs h'.2 q⟩
def no:Fp:=fun _=>False
mutual
theorem Rep.sh:∀ {m:Md} {t:T} {v:V} {G:Fp},Rep K Z H m t v G -> Rep K (fun a=>Z a \/ G a) H .s t v no
 | _,.non,_,_,h=>h
 | _,.bl _,_,_,h=>h
 | _,.int _,_,_,h=>h
 | _,.str _,_,_,h=>h
 | m,.tup ts,v,G,⟨a,xs,e,q,l,r⟩=>⟨a,xs,e,q,l,RepL.sh r⟩
 | m,.lst ts,v,G,⟨a,xs,e,l,q,r⟩=>⟨a,xs,e,l,by
   cases m with
   | s=>exact ⟨.inl q.1,q.2⟩
   | d=>exact ⟨.inr q.1,q.2⟩
   | o m=>exact ⟨.inr q.1,q.2⟩,(RepL.zmono (fun b hb=>hb.elim .inl fun z=>.inr z.1) (RepL.sh r)).mono fun _ z=>z.elim⟩
 | _,.dct _ _,_,_,h=>h.elim
 | _,.ins _ _ _,_,_,h=>h.elim
 | _,.gone,_,_,h=>h
 | _,.scr _,_,_,h=>h
theorem RepL.sh:∀ {m:Md} {ts:List T} {xs:List V} {G:Fp},RepL K Z H m ts xs G -> RepL K (fun a=>Z a \/ G a) H .s ts xs no
 | _,[],_,_,h=>h
 | m,t :: ts,xs,G,⟨x,r,G1,G2,e,h1,h2,hd,p,q⟩=>⟨x,r,no,no,e,fun _ z=>z,fun _ z=>z,fun _ z _=>z,Rep.zmono (fun b hb=>hb.imp id (h1 b)) (Rep.sh p),RepL.zmono (fun b hb=>hb.imp id (h2 b)) (RepL.sh q)⟩
end
theorem Ci:∀ a:Md,a.le .d = true
 | .s=>rfl | .d=>rfl | .o _=>rfl
theorem le_refl:∀ a:Md,a.le a = true
 | .s=>rfl | .d=>rfl | .o a=>le_refl a
theorem le_trans:∀ {a b c:Md},a.le b = true -> b.le c = true -> a.le c = true
 | .s,_,.s,_,_=>rfl
 | .s,_,.d,_,_=>rfl
 | .s,_,.o _,_,_=>rfl
 | .o a,.o b,.o c,h,k=>le_trans (a:=a) (b:=b) (c:=c) h k
 | .o a,.o b,.d,h,k=>rfl
 | .o a,.d,.d,h,k=>rfl
 | .d,.d,.d,_,_=>rfl
 | .d,.s,_,h,_=>by cases h
 | .d,.o _,_,h,_=>by cases h
 | .o _,.s,_,h,_=>by cases h
 | .o _,.o _,.s,_,k=>by cases k
 | .o _,.d,.s,_,k=>by cases k
 | .o _,.d,.o _,_,k=>by cases k
 | .d,.d,.s,_,k=>by cases k
 | .d,.d,.o _,_,k=>by cases k
theorem cJ:∀ a b:Md,(a.meet b).le a = true /\ (a.meet b).le b = true
 | .s,.s=>⟨rfl,rfl⟩
 | .s,.d=>⟨rfl,rfl⟩
 | .s,.o _=>⟨rfl,rfl⟩
 | .d,.s=>⟨rfl,rfl⟩
 | .d,.d=>⟨rfl,rfl⟩
 | .d,.o b=>⟨rfl,le_refl b⟩
 | .o _,.s=>⟨rfl,rfl⟩
 | .o a,.d=>⟨le_refl a,rfl⟩
 | .o a,.o b=>cJ a b
theorem oU:∀ {a b:Md},a.le b = true -> a.kid.le b.kid = true
 | .s,.s,_=>rfl
 | .s,.d,_=>rfl
 | .s,.o _,_=>by first | rfl | exact (by cases ‹Md› <;> rfl)
 | .o a,.o b,h=>h
 | .o a,.d,_=>Ci a
 | .d,.d,_=>rfl
 | .d,.s,h=>by cases h
 | .d,.o _,h=>by cases h
 | .o _,.s,h=>by cases h
theorem bV:∀ a:Md,a.up.kid = a
 | .s=>rfl | .d=>rfl | .o _=>rfl
theorem a8 (a:Md):a.up ≠ .s:=by cases a <;> intro h <;> cases h
theorem LstR.own {a:Addr} (hm:m ≠ .s):LstR K Z H G a xs m ↔ G a /\ H a = some (.lst xs):=by
 cases m with
 | s=>exact absurd rfl hm
 | d=>exact Iff.rfl
 | o m=>exact Iff.rfl
abbrev bu (Z G G':Fp):Fp:=fun a=>Z a \/ (G a /\ ¬ G' a)
mutual
theorem Rep.weak:∀ {m m':Md} {t:T} {v:V} {G:Fp},m'.le m = true -> Rep K Z H m t v G -> ∃ G',(∀ a,G' a -> G a) /\ Rep K (bu Z G G') H m' t v G'
 | m,m',.non,_,G,_,h=>⟨G,fun _ z=>z,h⟩
 | m,m',.bl _,_,G,_,h=>⟨G,fun _ z=>z,h⟩
 | m,m',.int _,_,G,_,h=>⟨G,fun _ z=>z,h⟩
 | m,m',.str _,_,G,_,h=>⟨G,fun _ z=>z,h⟩
 | m,m',.scr _,_,G,_,h=>⟨G,fun _ z=>z,h⟩
 | m,m',.tup ts,v,G,hm,⟨a,xs,e,q,l,r⟩=>by
  obtain ⟨G',h1,h2⟩:=RepL.weak (oU hm) r
  exact ⟨G',h1,a,xs,e,q,l,h2⟩
 | m,m',.lst ts,v,G,hm,h=>by
  cases m' with
  | s=>exact ⟨no,fun _ z=>z.elim,(Rep.sh h).zmono fun a ha=>ha.imp id fun z=>⟨z,fun q=>q⟩⟩
  | d =>
   cases m with
   | s=>cases hm
   | o _=>cases hm
   | d=>exact ⟨G,fun _ z=>z,h.zmono fun _ z=>.inl z⟩
  | o k =>
   have hne:m ≠ .s:=by rintro rfl; cases hm
   obtain ⟨a,xs,e,l,q,r⟩:=h
   rw [LstR.own hne] at q
   obtain ⟨G',h1,h2⟩:=RepL.weak (oU hm) r
   refine ⟨fun b=>G' b \/ b = a,fun b hb=>hb.elim (fun z=>(h1 b z).1) (fun z=>z ▸ q.1),a,xs,e,l,⟨.inr rfl,q.2⟩,?_⟩
   refine (h2.zmono fun b hb=>?_).mono fun b hb=>⟨.inl hb,(h1 b hb).2⟩
   rcases hb with z | ⟨⟨z1,z2⟩,z3⟩
   ·exact .inl z
   ·exact .inr ⟨z1,fun q=>q.elim z3 z2⟩
 | _,_,.dct _ _,_,_,_,h=>h.elim
 | _,_,.ins _ _ _,_,_,_,h=>h.elim
 | m,m',.gone,_,G,_,h=>⟨G,fun _ z=>z,h⟩
theorem RepL.weak:∀ {m m':Md} {ts:List T} {xs:List V} {G:Fp},m'.le m = true -> RepL K Z H m ts xs G -> ∃ G',(∀ a,G' a -> G a) /\ RepL K (bu Z G G') H m' ts xs G'
 | m,m',[],_,G,_,h=>⟨G,fun _ z=>z,h⟩
 | m,m',t :: ts,xs,G,hm,⟨x,r,G1,G2,e,h1,h2,hd,p,q⟩=>by
  obtain ⟨A,a1,a2⟩:=Rep.weak hm p
  obtain ⟨B,b1,b2⟩:=RepL.weak hm q
  refine ⟨fun b=>A b \/ B b,fun b hb=>hb.elim (fun z=>h1 b (a1 b z)) (fun z=>h2 b (b1 b z)),x,r,A,B,e,fun _ z=>.inl z,fun _ z=>.inr z,fun b za zb=>hd b (a1 b za) (b1 b zb),?_,?_⟩
  ·refine a2.zmono fun b hb=>hb.imp id fun z=>⟨h1 b z.1,fun q=>q.elim z.2 fun w=>hd b z.1 (b1 b w)⟩
  ·refine b2.zmono fun b hb=>hb.imp id fun z=>⟨h2 b z.1,fun q=>q.elim (fun w=>hd b (a1 b w) z.1) z.2⟩
end
def RepW (K:PySem.W.Frag) (Z:Fp) (H:Hp):List W -> List V -> Fp -> Prop
 | [],xs,_=>xs = []
 | w :: ws,xs,G=>∃ x r G1 G2,xs = x :: r /\ (∀ a,G1 a -> G a) /\ (∀ a,G2 a -> G a) /\ (∀ a,G1 a -> ¬ G2 a) /\ Rep K Z H w.1 w.2 x G1 /\ RepW K Z H ws r G2
theorem RepW.length:∀ {ws:List W} {xs:List V} {G:Fp},RepW K Z H ws xs G -> xs.length = ws.length
 | [],_,_,h=>by rw [show _ = [] from h]; rfl
 | _ :: _,_,_,⟨x,r,G1,G2,e,_,_,_,_,q⟩=>by rw [e,List.length_cons,List.length_cons,RepW.length q]
theorem RepW.mono:∀ {ws:List W} {xs:List V} {G G':Fp},(∀ a,G a -> G' a) -> RepW K Z H ws xs G -> RepW K Z H ws xs G'
 | [],_,_,_,_,h=>h
 | _ :: _,_,_,_,w,⟨x,r,G1,G2,e,h1,h2,hd,p,q⟩=>⟨x,r,G1,G2,e,fun a ha=>w a (h1 a ha),fun a ha=>w a (h2 a ha),hd,p,q⟩
theorem RepW.keep (s:Stay Z H H') (z:∀ a,Z a -> Z' a):∀ {ws:List W} {xs:List V} {G:Fp},(∀ a o,G a -> H a = some o -> H' a = some o) -> RepW K Z H ws xs G -> RepW K Z' H' ws xs G
 | [],_,_,_,h=>h
 | _ :: _,_,_,g,⟨x,r,G1,G2,e,h1,h2,hd,p,q⟩=>⟨x,r,G1,G2,e,h1,h2,hd,p.keep s z fun a o ha=>g a o (h1 a ha),RepW.keep s z (fun a o ha=>g a o (h2 a ha)) q⟩
theorem RepW.append:∀ {ws us:List W} {xs ys:List V} {G1 G2 G:Fp},(∀ a,G1 a -> G a) -> (∀ a,G2 a -> G a) -> (∀ a,G1 a -> ¬ G2 a) -> RepW K Z H ws xs G1 -> RepW K Z H us ys G2 -> RepW K Z H (ws ++ us) (xs ++ ys) G
 | [],us,xs,ys,G1,G2,G,w1,w2,d,h,k=>by rw [show xs = [] from h]; exact k.mono w2
 | t :: ts,us,xs,ys,G1,G2,G,w1,w2,d,⟨x,r,A,B,e,h1,h2,hd,p,q⟩,k=>by
  rw [e]
  refine ⟨x,r ++ ys,A,fun a=>B a \/ G2 a,rfl,fun a ha=>w1 a (h1 a ha),fun a ha=>ha.elim (fun z=>w1 a (h2 a z)) (w2 a),fun a ha hb=>hb.elim (hd a ha) (d a (h1 a ha)),p,?_⟩
  exact RepW.append (fun a z=>.inl z) (fun a z=>.inr z) (fun a ha=>d a (h2 a ha)) q k
theorem RepW.one {w:W} {x:V} (p:Rep K Z H w.1 w.2 x G):RepW K Z H [w] [x] G:=⟨x,[],G,no,rfl,fun _ h=>h,fun _ h=>h.elim,fun _ _ h=>h,p,rfl⟩
theorem eF:∀ {ws:List W} {w:W},w ∈ ws -> (meets ws).le (lf w.1 w.2) = true
 | u :: ws,w,h=>by
  rcases List.mem_cons.mp h with z | z
  ·subst z; exact (cJ _ _).1
  ·exact le_trans (cJ _ _).2 (eF z)
theorem Rep.lf (h:Rep K Z H m t v G):Rep K Z H (M.lf m t) t v G:=by
 unfold M.lf
 split
 ·rename_i hl; exact h.leaf (fun _ _ _ q=>q) hl
 ·exact h
theorem RepW.to {N:Md}:∀ {ws:List W} {xs:List V} {G:Fp},(∀ w ∈ ws,N.le (M.lf w.1 w.2) = true) -> RepW K Z H ws xs G -> ∃ G',(∀ a,G' a -> G a) /\ RepL K (bu Z G G') H N (aK ws) xs G'
 | [],_,G,_,h=>⟨G,fun _ z=>z,h⟩
 | w :: ws,xs,G,hm,⟨x,r,G1,G2,e,h1,h2,hd,p,q⟩=>by
  obtain ⟨A,a1,a2⟩:=Rep.weak (hm w List.mem_cons_self) p.lf
  obtain ⟨B,b1,b2⟩:=RepW.to (fun u hu=>hm u (List.mem_cons_of_mem _ hu)) q
  refine ⟨fun b=>A b \/ B b,fun b hb=>hb.elim (fun z=>h1 b (a1 b z)) (fun z=>h2 b (b1 b z)),x,r,A,B,e,fun _ z=>.inl z,fun _ z=>.inr z,fun b za zb=>hd b (a1 b za) (b1 b zb),?_,?_⟩
  ·refine a2.zmono fun b hb=>hb.imp id fun z=>⟨h1 b z.1,fun q=>q.elim z.2 fun w=>hd b z.1 (b1 b w)⟩
  ·refine b2.zmono fun b hb=>hb.imp id fun z=>⟨h2 b z.1,fun q=>q.elim (fun w=>hd b (a1 b w) z.1) z.2⟩
end
abbrev VK':=V -> Hp -> Prop
def Own (Z:Fp) (H:Hp) (F:Fp):Prop:=∀ a,F a -> ¬ Z a /\ ∃ xs,H a = some (.lst xs)
structure Step (Z:Fp) (H:Hp) (F:Fp) (Z':Fp) (H':Hp) (F':Fp):Prop where
 keep:∀ a o,H a = some o -> ¬ F a -> H' a = some o
 zm:∀ a,Z a -> Z' a
 zn:∀ a,Z' a -> Z a \/ F a \/ H a = none
 fn:∀ a,F' a -> F a \/ H a = none
 al:∀ a,H a ≠ none -> H' a ≠ none
 za:(∀ a,Z a -> H a ≠ none) -> ∀ a,Z' a -> H' a ≠ none
section
variable {K:PySem.W.Frag} {Z Z1 Z2 Z':Fp} {H H1 H2 H':Hp} {F F1 F2 F' R G:Fp}
theorem Step.refl (Z:Fp) (H:Hp) (F:Fp):Step Z H F Z H F:=⟨fun _ _ h _=>h,fun _ h=>h,fun _ h=>.inl h,fun _ h=>.inl h,fun _ h=>h,fun z=>z⟩
theorem Step.trans (s:Step Z H F Z1 H1 F1) (t:Step Z1 H1 F1 Z2 H2 F2):Step Z H F Z2 H2 F2 where
 keep:=fun a o h n=>t.keep a o (s.keep a o h n) fun q=>(s.fn a q).elim n fun z=>by rw [h] at z; cases z
 zm:=fun a h=>t.zm a (s.zm a h)
 zn:=fun a h=>by
  rcases t.zn a h with q | q | q
  ·exact s.zn a q
  ·exact .inr (s.fn a q)
  ·exact .inr (.inr (by
    cases e:H a with
    | none=>rfl
    | some o=>exact absurd q (s.al a (by rw [e]; simp))))
 fn:=fun a h=>by
  rcases t.fn a h with q | q
  ·exact s.fn a q
  ·exact .inr (by
    cases e:H a with
    | none=>rfl
    | some o=>exact absurd q (s.al a (by rw [e]; simp)))
 al:=fun a h=>t.al a (s.al a h)
 za:=fun z=>t.za (s.za z)
theorem Step.frame (R:Fp) (s:Step Z H F Z' H' F'):Step Z H (fun a=>F a \/ R a) Z' H' (fun a=>F' a \/ R a) where
 keep:=fun a o h n=>s.keep a o h fun q=>n (.inl q)
 zm:=s.zm
 zn:=fun a h=>(s.zn a h).imp id fun q=>q.imp .inl id
 fn:=fun a h=>h.elim (fun q=>(s.fn a q).imp .inl id) fun q=>.inl (.inr q)
 al:=s.al
 za:=s.za
theorem Step.mono (s:Step Z H F Z' H' F') (h1:∀ a,F a -> F1 a) (h2:∀ a,F2 a -> F' a):Step Z H F1 Z' H' F2 where
 keep:=fun a o h n=>s.keep a o h fun q=>n (h1 a q)
 zm:=s.zm
 zn:=fun a h=>(s.zn a h).imp id fun q=>q.imp (h1 a) id
 fn:=fun a h=>(s.fn a (h2 a h)).imp (h1 a) id
 al:=s.al
 za:=s.za
theorem Own.stay (o:Own Z H F) (s:Step Z H F Z' H' F'):Stay Z H H':=by
 refine ⟨fun a u hz h=>s.keep a u h fun q=>(o a q).1 hz,fun a xs h=>?_,fun a u v h=>s.keep a _ h fun q=>?_⟩
 ·rcases h with h | ⟨u,h⟩
  ·refine .inl (s.keep a _ h fun q=>?_)
   obtain ⟨_,ys,e⟩:=o a q
   rw [h] at e; cases e
  ·refine .inr ⟨u,s.keep a _ h fun q=>?_⟩
   obtain ⟨_,ys,e⟩:=o a q
   rw [h] at e; cases e
 ·obtain ⟨_,ys,e⟩:=o a q
  rw [h] at e; cases e
theorem Rep.frame {m:Md} {t:T} {v:V} (o:Own Z H F) (s:Step Z H F Z' H' F') (d:∀ a,G a -> ¬ F a) (h:Rep K Z H m t v G):Rep K Z' H' m t v G:=h.keep (o.stay s) s.zm fun a u ha e=>s.keep a u e (d a ha)
theorem RepW.frame {ws:List W} {xs:List V} (o:Own Z H F) (s:Step Z H F Z' H' F') (d:∀ a,G a -> ¬ F a) (h:RepW K Z H ws xs G):RepW K Z' H' ws xs G:=h.keep (o.stay s) s.zm fun a u ha e=>s.keep a u e (d a ha)
theorem Own.frame (o:Own Z H G) (s:Step Z H F Z' H' F') (d:∀ a,G a -> ¬ F a):Own Z' H' G /\ ∀ a,G a -> ¬ F' a:=by
 refine ⟨fun a ha=>?_,fun a ha q=>?_⟩
 ·obtain ⟨nz,xs,e⟩:=o a ha
  refine ⟨fun q=>?_,xs,s.keep a _ e (d a ha)⟩
  rcases s.zn a q with z | z | z
  ·exact nz z
  ·exact d a ha z
  ·rw [e] at z; cases z
 ·obtain ⟨nz,xs,e⟩:=o a ha
  rcases s.fn a q with z | z
  ·exact d a ha z
  ·rw [e] at z; cases z
end
abbrev Fps:=Nat -> Fp
def tot (Fs:Fps):Fp:=fun a=>∃ i,Fs i a
structure Gd (Z:Fp) (H:Hp) (Fs:Fps):Prop where
 own:Own Z H (tot Fs)
 dis:∀ i j a,Fs i a -> Fs j a -> i = j
 zal:∀ a,Z a -> H a ≠ none
structure Cf where
 sl:Nat -> Option Nat
 pv:Nat -> Option V
def Cm (K:PySem.W.Frag) (sl:Cf) (Z:Fp) (H:Hp) (η:Env) (σ:L2.St) (Fs:Fps):Prop :=
 ∀ i m t,rd η i = some (m,t) -> ∃ v,Rep K Z H m t v (Fs i) /\ (∀ j,sl.sl i = some j -> σ[j]? = some (some v)) /\ ∀ u,sl.pv i = some u -> v = u
structure At (K:PySem.W.Frag) (sl:Cf) (σ:L2.St) (Z:Fp) (H:Hp) (Fs:Fps) (η:Env) (G:Fp):Prop where
 gd:Gd Z H Fs
 env:Cm K sl Z H η σ Fs
 own:Own Z H G
 dis:∀ a,G a -> ¬ tot Fs a
 lk:∀ i u j,sl.pv i = some u -> sl.sl i = some j -> σ[j]? = some (some u)
 ln:∀ i j,sl.sl i = some j -> j < σ.length
section
variable {K:PySem.W.Frag} {sl:Cf} {σ:L2.St} {Z Z':Fp} {H H':Hp} {Fs Fs':Fps} {η η':Env} {G G' R:Fp}
theorem At.frame (a:At K sl σ Z H Fs η R) (b:At K sl σ Z' H' Fs' η' G) (s:Step Z H (tot Fs) Z' H' (fun c=>tot Fs' c \/ G c)) :
  At K sl σ Z' H' Fs' η' (fun c=>R c \/ G c) /\ Step Z H (fun c=>tot Fs c \/ R c) Z' H' (fun c=>tot Fs' c \/ (R c \/ G c)) /\ ∀ c,R c -> ¬ G c:=by
 have o:=a.own.frame s a.dis
 refine ⟨⟨b.gd,b.env,fun c hc=>hc.elim (o.1 c) (b.own c),fun c hc=>hc.elim (fun z q=>o.2 c z (.inl q)) (b.dis c),b.lk,b.ln⟩,(s.frame R).mono (fun _ z=>z) fun c hc=>?_,fun c z q=>o.2 c z (.inr q)⟩
 rcases hc with z | z | z
 ·exact .inl (.inl z)
 ·exact .inr z
 ·exact .inl (.inr z)
end
end MR
namespace MR
open L2 L3 M
open PySem (Addr Str sizeLine)
section
variable {K:PySem.W.Frag} {sl:Cf} {sf:Nat -> Option Nat} {C:Call} {σ:L2.St} {Z Z' Z1:Fp} {H H' H1:Hp} {Fs Fs' Fs1:Fps} {η η' η1:Env} {G G' R F:Fp}
theorem At.mono (a:At K sl σ Z H Fs η G) (h:∀ c,G' c -> G c):At K sl σ Z H Fs η G':=⟨a.gd,a.env,fun c hc=>a.own c (h c hc),fun c hc=>a.dis c (h c hc),a.lk,a.ln⟩
theorem At.bare (a:At K sl σ Z H Fs η G):At K sl σ Z H Fs η no:=a.mono fun _ z=>z.elim
def wE (K:PySem.W.Frag) (sl:Nat -> Option Nat) (C:Call) (e:E):TE:=fun σ H Q=>∃ pv Z Fs η w η',At K ⟨sl,pv⟩ σ Z H Fs η no /\ evE C e η = .ok (w,η') /\
 ∀ v Z' H' Fs' G,At K ⟨sl,pv⟩ σ Z' H' Fs' η' G -> Rep K Z' H' w.1 w.2 v G -> Step Z H (tot Fs) Z' H' (fun a=>tot Fs' a \/ G a) -> Q v H'
def wL (K:PySem.W.Frag) (sl:Nat -> Option Nat) (C:Call) (es:List E):TA:=fun σ H Q=>∃ pv Z Fs η ws η',At K ⟨sl,pv⟩ σ Z H Fs η no /\ evL C es η = .ok (ws,η') /\
 ∀ vs Z' H' Fs' G,At K ⟨sl,pv⟩ σ Z' H' Fs' η' G -> RepW K Z' H' ws vs G -> Step Z H (tot Fs) Z' H' (fun a=>tot Fs' a \/ G a) -> Q vs H'
theorem gD {e:E} {w:W} {Q:VK} (A:At K sl σ Z H Fs η R) (ev:evE C e η = .ok (w,η'))
  (k:∀ v Z' H' Fs' G,At K sl σ Z' H' Fs' η' (fun c=>R c \/ G c) -> Rep K Z' H' w.1 w.2 v G -> (∀ c,R c -> ¬ G c) -> Step Z H (tot Fs) Z' H' (fun a=>tot Fs' a \/ G a) ->
   Step Z H (fun c=>tot Fs c \/ R c) Z' H' (fun c=>tot Fs' c \/ (R c \/ G c)) -> Q v H'):wE K sl.sl C e σ H Q :=
 ⟨sl.pv,Z,Fs,η,w,η',A.bare,ev,fun v Z' H' Fs' G B r s=>by
  obtain ⟨h1,h2,h3⟩:=A.frame B s
  exact k v Z' H' Fs' G h1 r h3 s h2⟩
theorem BX {es:List E} {ws:List W} {Q:List V -> Hp -> Prop} (A:At K sl σ Z H Fs η R) (ev:evL C es η = .ok (ws,η'))
  (k:∀ vs Z' H' Fs' G,At K sl σ Z' H' Fs' η' (fun c=>R c \/ G c) -> RepW K Z' H' ws vs G -> (∀ c,R c -> ¬ G c) -> Step Z H (tot Fs) Z' H' (fun a=>tot Fs' a \/ G a) ->
   Step Z H (fun c=>tot Fs c \/ R c) Z' H' (fun c=>tot Fs' c \/ (R c \/ G c)) -> Q vs H'):wL K sl.sl C es σ H Q :=
 ⟨sl.pv,Z,Fs,η,ws,η',A.bare,ev,fun v Z' H' Fs' G B r s=>by
  obtain ⟨h1,h2,h3⟩:=A.frame B s
  exact k v Z' H' Fs' G h1 r h3 s h2⟩
theorem aa {α β:Type} {r:Res α} {f:α -> Res β} {b:β} (h:r.bind f = .ok b):∃ a,r = .ok a /\ f a = .ok b:=by
 cases r with
 | ok a=>exact ⟨a,rfl,h⟩
 | ex c x=>cases h
 | no=>cases h
theorem av {α:Type} {η:Env} {o:Option α} {b:α × Env} (h:ret η o = .ok b):∃ a,o = some a /\ b = (a,η):=by
 cases o with
 | none=>cases h
 | some a=>exact ⟨a,rfl,by cases h; rfl⟩
theorem cf {α:Type} {o:Option α} {b:α} (h:ofO o = .ok b):o = some b:=by
 cases o with
 | none=>cases h
 | some a=>cases h; rfl
theorem aC {e:E} {es:List E} {ws:List W} (h:evL C (e :: es) η = .ok (ws,η')):∃ w η1 us,evE C e η = .ok (w,η1) /\ evL C es η1 = .ok (us,η') /\ ws = w :: us:=by
 obtain ⟨⟨w,η1⟩,h1,h2⟩:=aa (show (evE C e η).bind (aU (evL C es)) = _ from h)
 obtain ⟨⟨us,η2⟩,h3,h4⟩:=aa (show (evL C es η1).bind (kCons w) = _ from h2)
 cases h4
 exact ⟨w,η1,us,h1,h3,rfl⟩
theorem cF {e:E} {es:List E} {ws:List W} (he:∀ i,e ≠ .io i) (h:evA C (e :: es) η = .ok (ws,η')):∃ w η1 us,evE C e η = .ok (w,η1) /\ evA C es η1 = .ok (us,η') /\ ws = w :: us:=by
 rw [evA_eq he] at h
 obtain ⟨⟨w,η1⟩,h1,h2⟩:=aa h
 obtain ⟨⟨us,η2⟩,h3,h4⟩:=aa (show (evA C es η1).bind (kCons w) = _ from h2)
 cases h4
 exact ⟨w,η1,us,h1,h3,rfl⟩
theorem eE {i:Nat} {es:List E} {ws:List W} (h:evA C (.io i :: es) η = .ok (ws,η')):∃ us η1 w,evA C es η = .ok (us,η1) /\ rd η1 i = some w /\ ws = w :: us /\ η' = del η1 i:=by
 obtain ⟨⟨us,η1⟩,h1,h2⟩:=aa (show (evA C es η).bind (kIo i) = _ from h)
 obtain ⟨w,h3,h4⟩:=aa (show (ofO (rd η1 i)).bind (fun w=>.ok (w :: us,del η1 i)) = _ from h2)
 cases h4
 exact ⟨us,η1,w,h1,cf h3,rfl,rfl⟩
theorem uc (e:E):(∃ i,e = .io i) \/ ∀ i,e ≠ .io i:=by
 cases e with
 | io i=>exact .inl ⟨i,rfl⟩
 | _=>exact .inr fun _ z=>by cases z
theorem fI:∀ {es:List E} {η η':Env} {ws:List W},evA C es η = .ok (ws,η') -> ws.length = es.length
 | [],_,_,_,h=>by cases h; rfl
 | e :: es,_,_,_,h=>by
  rcases uc e with ⟨i,rfl⟩ | he
  ·obtain ⟨us,η1,w,h1,_,rfl,_⟩:=eE h
   rw [List.length_cons,List.length_cons,fI h1]
  ·obtain ⟨w,η1,us,_,h2,rfl⟩:=cF he h
   rw [List.length_cons,List.length_cons,fI h2]
theorem rW {e:E} {es:List E} (σ:L2.St) (H:Hp) (Q:List V -> Hp -> Prop) (h:wL K sf C (e :: es) σ H Q):l5 (wE K sf C e) (wL K sf C es) σ H Q:=by
 obtain ⟨pv,Z,Fs,η,ws,η',A,ev,k⟩:=h
 obtain ⟨w,η1,us,h1,h2,rfl⟩:=aC ev
 refine gD A h1 fun x Z1 H1 Fs1 G1 A1 r1 _ s1 _=>?_
 have A1':=A1.mono (G':=G1) fun _ z=>.inr z
 refine BX A1' h2 fun xs Z2 H2 Fs2 G2 A2 r2 d2 s2 t2=>?_
 refine k (x :: xs) Z2 H2 Fs2 _ A2 ⟨x,xs,G1,G2,rfl,fun _ z=>.inl z,fun _ z=>.inr z,d2,r1.frame A1.gd.own s2 A1'.dis,r2⟩ ?_
 exact s1.trans t2
theorem vU (σ:L2.St) (H:Hp) (Q:List V -> Hp -> Prop) (h:wL K sf C [] σ H Q):xl σ H Q:=by
 obtain ⟨pv,Z,Fs,η,ws,η',A,ev,k⟩:=h
 cases ev
 exact k [] Z H Fs no A rfl ((Step.refl _ _ _).mono (fun _ z=>z) fun a ha=>ha.elim id fun z=>z.elim)
def Out (K:PySem.W.Frag) (Z:Fp) (H:Hp) (G:Fp) (w:W) (Q:VK):Prop:=∀ v Z' H' G',Rep K Z' H' w.1 w.2 v G' -> Own Z' H' G' -> Step Z H G Z' H' G' -> Q v H'
theorem At.op (A:At K sl σ Z H Fs η G) (o:Own Z' H' G') (s:Step Z H G Z' H' G'):At K sl σ Z' H' Fs η G' /\ Step Z H (fun c=>tot Fs c \/ G c) Z' H' (fun c=>tot Fs c \/ G' c):=by
 have d:∀ a,tot Fs a -> ¬ G a:=fun a h q=>A.dis a q h
 have f:=A.gd.own.frame s d
 refine ⟨⟨⟨f.1,A.gd.dis,s.za A.gd.zal⟩,fun i m t e=>?_,o,fun a ha q=>f.2 a q ha,A.lk,A.ln⟩,?_⟩
 ·obtain ⟨v,r,hv⟩:=A.env i m t e
  exact ⟨v,r.frame A.own s fun a ha=>d a ⟨i,ha⟩,hv⟩
 ·refine (s.frame (tot Fs)).mono (fun _ z=>z.symm) fun _ z=>z.symm
theorem b7 {w:W} {Q:VK} (A:At K sl σ Z1 H1 Fs1 η1 G) (s:Step Z H F Z1 H1 (fun a=>tot Fs1 a \/ G a))
  (k:∀ v Z' H' Fs' G,At K sl σ Z' H' Fs' η1 G -> Rep K Z' H' w.1 w.2 v G -> Step Z H F Z' H' (fun a=>tot Fs' a \/ G a) -> Q v H'):Out K Z1 H1 G w Q:=fun v Z' H' G' r o t=>by
 obtain ⟨B,u⟩:=A.op o t
 exact k v Z' H' Fs1 G' B r (s.trans u)
def Loc (K:PySem.W.Frag) (n:Nat) (o:Op) (h:Bool) (r:List V -> Hp -> VK -> Prop):Prop:=∀ (ws:List W) (w:W) (xs:List V) (Z:Fp) (H:Hp) (G:Fp) (Q:VK),ws.length = n -> oSem o h ws = some w -> RepW K Z H ws xs G -> Own Z H G -> (∀ a,Z a -> H a ≠ none) -> Out K Z H G w Q -> r xs H Q
theorem dy {o:Op} {h:Bool} {es:List E} {w:W} (e:evE C (.op o h es) η = .ok (w,η')):∃ ws,evL C es η = .ok (ws,η') /\ oSem o h ws = some w:=by
 obtain ⟨⟨ws,η1⟩,h1,h2⟩:=aa (show (evL C es η).bind (kOp o h) = _ from e)
 obtain ⟨a,h3,h4⟩:=av (show ret η1 (oSem o h ws) = _ from h2)
 cases h4
 exact ⟨ws,h1,h3⟩
theorem fK:∀ {es:List E} {η η':Env} {ws:List W},evL C es η = .ok (ws,η') -> ws.length = es.length
 | [],_,_,_,h=>by cases h; rfl
 | e :: es,_,_,_,h=>by
  obtain ⟨w,η1,us,_,h2,rfl⟩:=aC h
  rw [List.length_cons,List.length_cons,fK h2]
theorem gX {n:Nat} {o:Op} {h:Bool} {es:List E} {r:List V -> Hp -> VK -> Prop} (l:Loc K n o h r) (hn:es.length = n) (σ:L2.St) (H:Hp) (Q:VK) (hw:wE K sf C (.op o h es) σ H Q):tCB r (wL K sf C es) σ H Q:=by
 obtain ⟨pv,Z,Fs,η,w,η',A,ev,k⟩:=hw
 obtain ⟨ws,h1,h2⟩:=dy ev
 exact ⟨pv,Z,Fs,η,ws,η',A,h1,fun vs Z' H' Fs' G B r s=>l ws w vs Z' H' G Q ((fK h1).trans hn) h2 r B.own B.gd.zal (b7 B s k)⟩
theorem yD {o:Op} {h:Bool} {a:E} {r:V -> Hp -> VK -> Prop} (l:Loc K 1 o h fun xs H Q=>∀ x,xs = [x] -> r x H Q) (σ:L2.St) (H:Hp) (Q:VK) (hw:wE K sf C (.op o h [a]) σ H Q):tUn r (wE K sf C a) σ H Q:=by
 obtain ⟨pv,Z,Fs,η,w,η',A,ev,k⟩:=hw
 obtain ⟨ws,h1,h2⟩:=dy ev
 obtain ⟨wa,η1,us,e1,e2,rfl⟩:=aC h1
 cases e2
 refine ⟨pv,Z,Fs,η,wa,η',A,e1,fun x Z' H' Fs' G B r s=>l [wa] w [x] Z' H' G Q rfl h2 (RepW.one r) B.own B.gd.zal (b7 B s k) x rfl⟩
theorem aX {o:Op} {h:Bool} {a b:E} {r:R2} (l:Loc K 2 o h fun xs H Q=>∀ x y,xs = [x,y] -> r x y H Q) (σ:L2.St) (H:Hp) (Q:VK) (hw:wE K sf C (.op o h [a,b]) σ H Q):tOp r (wE K sf C a) (wE K sf C b) σ H Q:=by
 obtain ⟨pv,Z,Fs,η,w,η',A,ev,k⟩:=hw
 obtain ⟨ws,h1,h2⟩:=dy ev
 obtain ⟨wa,η1,us,e1,e2,rfl⟩:=aC h1
 obtain ⟨wb,η2,us,e3,e4,rfl⟩:=aC e2
 cases e4
 refine gD A e1 fun x Z1 H1 Fs1 G1 A1 r1 _ s1 _=>?_
 have A1':=A1.mono (G':=G1) fun _ z=>.inr z
 refine gD A1' e3 fun y Z2 H2 Fs2 G2 A2 r2 d2 s2 t2=>?_
 exact l [wa,wb] w [x,y] Z2 H2 _ Q rfl h2 ⟨x,[y],G1,G2,rfl,fun _ z=>.inl z,fun _ z=>.inr z,d2,r1.frame A1.gd.own s2 A1'.dis,RepW.one r2⟩ A2.own A2.gd.zal (b7 A2 (s1.trans t2) k) x y rfl
theorem cj:Own Z H no:=fun _ z=>z.elim
theorem Step.drop:Step Z H G Z H no:=(Step.refl Z H G).mono (fun _ z=>z) fun _ z=>z.elim
section
variable {Q:VK} {m:Md} {ts:List T} {xs:List V}
theorem aR {i:Int} (k:Out K Z H G (m,.int i) Q):Q (.int i) H:=k _ Z H no rfl cj .drop
theorem cK {b:Bool} (k:Out K Z H G (m,.bl b) Q):Q (.bl b) H:=k _ Z H no rfl cj .drop
theorem lE {x:Str} (k:Out K Z H G (m,.str x) Q) (h:sOk x = true):Q (.str x) H:=k _ Z H no ⟨rfl,h⟩ cj .drop
theorem jF {t:T} {v:V} (o:Own Z H G) (k:Out K Z H G (m,t) Q) (r:Rep K Z H m t v G):Q v H:=k v Z H G r o (.refl _ _ _)
theorem kg {p:Addr} {o:HO} (hp:H p = none):Stay Z H (upd H p o):=by
 have ne:∀ {a u},H a = some u -> a ≠ p:=fun {a u} e z=>by subst z; rw [hp] at e; cases e
 refine ⟨fun a u _ e=>?_,fun a xs e=>?_,fun a u v e=>?_⟩
 ·rw [ag (ne e)]; exact e
 ·rcases e with e | ⟨u,e⟩
  ·exact .inl (by rw [ag (ne e)]; exact e)
  ·exact .inr ⟨u,by rw [ag (ne e)]; exact e⟩
 ·rw [ag (ne e)]; exact e
theorem jP {p:Addr} {o:HO} (hp:H p = none) (ow:Own Z H G) (hg:∀ a,G' a -> G a \/ a = p) (z:Fp) (hz:∀ a,Z a -> z a) (hz':∀ a,z a -> Z a \/ G a):Step Z H G z (upd H p o) G':=by
 have ne:∀ {a u},H a = some u -> a ≠ p:=fun {a u} e q=>by subst q; rw [hp] at e; cases e
 have al:∀ a,H a ≠ none -> upd H p o a ≠ none:=fun a h=>by
  by_cases e:a = p
  ·rw [e,ao]; simp
  ·rw [ag e]; exact h
 refine ⟨fun a u e _=>by rw [ag (ne e)]; exact e,hz,fun a h=>(hz' a h).imp id .inl,fun a h=>(hg a h).imp id fun e=>by rw [e]; exact hp,al,fun q a h=>al a ?_⟩
 rcases hz' a h with c | c
 ·exact q a c
 ·obtain ⟨_,xs,e⟩:=ow a c
  rw [e]; simp
theorem bQ {p:Addr} (ow:Own Z H G) (za:∀ a,Z a -> H a ≠ none) (hg:∀ a,G' a -> G a) (hl:xs.length <= LIM) (r:RepL K (bu Z G G') H m.kid ts xs G') (hm:m ≠ .s) (k:Out K Z H G (m,.lst ts) Q) (hp:H p = none):Q (.ref p) (upd H p (.lst xs)):=by
 have ne:∀ {a u},H a = some u -> a ≠ p:=fun {a u} e q=>by subst q; rw [hp] at e; cases e
 have np:∀ a,G' a -> a ≠ p:=fun a h=>by obtain ⟨_,ys,e⟩:=ow a (hg a h); exact ne e
 refine k _ (bu Z G G') _ (fun a=>G' a \/ a = p) ⟨p,xs,rfl,hl,(LstR.own hm).mpr ⟨.inr rfl,ao⟩,?_⟩ ?_ (jP hp ow (fun a h=>h.imp (hg a) id) _ (fun a h=>.inl h) fun a h=>h.imp id And.left)
 ·refine (r.keep (kg hp) (fun _ z=>z) fun a u _ e=>by rw [ag (ne e)]; exact e).mono fun a h=>⟨.inl h,np a h⟩
 ·rintro a (h | h)
  ·obtain ⟨nz,ys,e⟩:=ow a (hg a h)
   exact ⟨fun z=>z.elim nz fun q=>q.2 h,ys,by rw [ag (ne e)]; exact e⟩
  ·subst h
   refine ⟨fun z=>z.elim (fun q=>za a q hp) fun q=>?_,xs,ao⟩
   obtain ⟨_,ys,e⟩:=ow a q.1
   rw [hp] at e; cases e
theorem lO {p:Addr} (ow:Own Z H G) (hg:∀ a,G' a -> G a) (hl:xs.length <= LIM) (r:RepL K (bu Z G G') H m.kid ts xs G') (k:Out K Z H G (m,.tup ts) Q) (hp:H p = none):Q (.ref p) (upd H p (.tup xs)):=by
 have ne:∀ {a u},H a = some u -> a ≠ p:=fun {a u} e q=>by subst q; rw [hp] at e; cases e
 refine k _ (bu Z G G') _ G' ⟨p,xs,rfl,.inl (.inl ao),hl,?_⟩ ?_ (jP hp ow (fun a h=>.inl (hg a h)) _ (fun a h=>.inl h) fun a h=>h.imp id And.left)
 ·exact r.keep (kg hp) (fun _ z=>z) fun a u _ e=>by rw [ag (ne e)]; exact e
 ·intro a h
  obtain ⟨nz,ys,e⟩:=ow a (hg a h)
  exact ⟨fun z=>z.elim nz fun q=>q.2 h,ys,by rw [ag (ne e)]; exact e⟩
theorem jq {v:V} {H':Hp} (ow:Own Z H G) (hg:∀ a,G' a -> G a) (hl:xs.length <= LIM) (r:RepL K (bu Z G G') H m.kid ts xs G') (k:Out K Z H G (m,.tup ts) Q) (same:∀ b o,H b = some o -> H' b = some o) (hv:∃ c,v = .ref c /\ SqT K H' c xs):Q v H':=by
 obtain ⟨c,rfl,hs⟩:=hv
 have al:∀ a,H a ≠ none -> H' a ≠ none:=fun a h=>by
  cases e:H a with
  | none=>exact absurd e h
  | some o=>rw [same a o e]; simp
 refine k _ (bu Z G G') _ G' ⟨c,xs,rfl,hs,hl,?_⟩ (fun a h=>?_) ⟨fun a o e _=>same a o e,fun a h=>.inl h,fun a h=>h.imp id fun q=>.inl q.1,fun a h=>.inl (hg a h),al,fun q a h=>al a ?_⟩
 ·refine r.keep ⟨fun a o _ e=>same a o e,fun a ys e=>?_,fun a o u e=>same a _ e⟩ (fun _ z=>z) fun a u _ e=>same a u e
  rcases e with e | ⟨u,e⟩
  ·exact .inl (same a _ e)
  ·exact .inr ⟨u,same a _ e⟩
 ·obtain ⟨nz,ys,e⟩:=ow a (hg a h)
  exact ⟨fun z=>z.elim nz fun q=>q.2 h,ys,same a _ e⟩
 ·rcases h with h | h
  ·exact q a h
  ·obtain ⟨_,ys,e⟩:=ow a h.1
   rw [e]; simp
theorem dA {p:Addr} {h:Bool} {w:W} (ow:Own Z H G) (za:∀ a,Z a -> H a ≠ none) (hl:xs.length <= LIM) (r:∃ G',(∀ a,G' a -> G a) /\ RepL K (bu Z G G') H m ts xs G') (hn:newL h m ts = some w) (k:Out K Z H G w Q) (hp:H p = none):Q (.ref p) (upd H p (.lst xs)):=by
 obtain ⟨G',hg,r⟩:=r
 unfold newL at hn
 split at hn
 ·split at hn
  ·rename_i hlv
   cases hn
   refine bQ (m:=.d) (G':=no) ow za (fun _ z=>z.elim) hl ?_ (by simp) k hp
   exact r.leaves (fun _ _ _ e=>e) hlv
  ·cases hn
 ·cases hn
  exact bQ (m:=m.up) ow za hg hl (by rw [bV]; exact r) (a8 m) k hp
end
end
end MR
namespace MR
open L2 L3 M
open PySem (Addr Str sizeLine)
section
variable {K:PySem.W.Frag} {h:Bool}
theorem gr {α β:Type} {ws:List α} {x y:β} (e:ws.length = [x,y].length):∃ a b,ws = [a,b]:=by
 match ws,e with
 | [a,b],_=>exact ⟨a,b,rfl⟩
theorem Ax {α β:Type} {ws:List α} {x:β} (e:ws.length = [x].length):∃ a,ws = [a]:=by
 match ws,e with
 | [a],_=>exact ⟨a,rfl⟩
theorem cw {Z:Fp} {H:Hp} {G:Fp} {u w:W} {x y:V} (r:RepW K Z H [u,w] [x,y] G):∃ G1 G2,(∀ a,G1 a -> G a) /\ (∀ a,G2 a -> G a) /\ (∀ a,G1 a -> ¬ G2 a) /\ Rep K Z H u.1 u.2 x G1 /\ Rep K Z H w.1 w.2 y G2:=by
 obtain ⟨x',r',G1,G2,e,h1,h2,d,p,y',r2,G3,G4,e2,h3,h4,d2,q,z⟩:=r
 cases e; cases e2
 exact ⟨G1,G3,h1,fun a ha=>h2 a (h3 a ha),fun a ha hb=>d a ha (h3 a hb),p,q⟩
theorem vn {Z:Fp} {H:Hp} {G:Fp} {w:W} {x:V} (r:RepW K Z H [w] [x] G):Rep K Z H w.1 w.2 x G:=by
 obtain ⟨x',r',G1,G2,e,h1,h2,d,p,z⟩:=r
 cases e
 exact p.mono h1
theorem dM {ws:List W} {xs:List V} {Z:Fp} {H:Hp} {G:Fp} {w:W} (hw:ws = [w]) (r:RepW K Z H ws xs G):∃ x,xs = [x] /\ Rep K Z H w.1 w.2 x G:=by
 subst hw
 obtain ⟨x,hx⟩:=Ax (x:=()) (show xs.length = [()].length from r.length)
 subst hx
 exact ⟨x,rfl,vn r⟩
theorem lx {n:Nat} (h:n <= LIM):n < sizeLine:=Nat.lt_of_le_of_lt h (by decide)
theorem bx {n:Nat} (h:n <= LIM):n <= sizeLine:=Nat.le_of_lt (lx h)
theorem cg {n:Nat} (h:fits n = true):n <= LIM:=of_decide_eq_true h
theorem pC {o:Op} {C:Int -> Int -> Prop} {g:Int -> Int -> T} (inv:∀ {u v w:W},oSem o h [u,v] = some w -> ∃ m n i j,u = (m,.int i) /\ v = (n,.int j) /\ C i j /\ w = (.d,g i j)) (gv:Int -> Int -> V) (hg:∀ {Z:Fp} {H:Hp} {G:Fp} {Q:VK} {i j:Int},Out K Z H G (.d,g i j) Q -> Q (gv i j) H) :
  Loc K 2 o h fun xs H Q=>∀ x y,xs = [x,y] -> rI C gv x y H Q:=by
 intro ws w xs Z H G Q hn e r ow za k x y hx
 subst hx
 obtain ⟨u,v,rfl⟩:=gr r.length.symm
 obtain ⟨m,n,i,j,rfl,rfl,c,rfl⟩:=inv e
 obtain ⟨G1,G2,_,_,_,r1,r2⟩:=cw r
 exact ⟨i,j,r1,r2,c,hg k⟩
theorem i5 {o:Op} {g:Int -> Int -> T} (inv:∀ {u v w:W},oSem o h [u,v] = some w -> ∃ m n i j,u = (m,.int i) /\ v = (n,.int j) /\ w = (.d,g i j)) (gv:Int -> Int -> V) (hg:∀ {Z:Fp} {H:Hp} {G:Fp} {Q:VK} {i j:Int},Out K Z H G (.d,g i j) Q -> Q (gv i j) H) :
  Loc K 2 o h fun xs H Q=>∀ x y,xs = [x,y] -> rI0 gv x y H Q:=by
 intro ws w xs Z H G Q hn e r ow za k x y hx
 subst hx
 obtain ⟨u,v,rfl⟩:=gr r.length.symm
 obtain ⟨m,n,i,j,rfl,rfl,rfl⟩:=inv e
 obtain ⟨G1,G2,_,_,_,r1,r2⟩:=cw r
 exact ⟨i,j,r1,r2,hg k⟩
theorem so {u v w:W} (e:oSem .sub h [u,v] = some w):∃ m n i j,u = (m,.int i) /\ v = (n,.int j) /\ w = (.d,.int (i - j)):=by
 obtain ⟨m,a⟩:=u; obtain ⟨n,b⟩:=v
 cases a <;> first | (cases e; done) | (cases b <;> first | (cases e; exact ⟨_,_,_,_,rfl,rfl,rfl⟩) | cases e)
theorem iJ {u v w:W} (e:oSem .lt h [u,v] = some w):∃ m n i j,u = (m,.int i) /\ v = (n,.int j) /\ w = (.d,.bl (decide (i < j))):=by
 obtain ⟨m,a⟩:=u; obtain ⟨n,b⟩:=v
 cases a <;> first | (cases e; done) | (cases b <;> first | (cases e; exact ⟨_,_,_,_,rfl,rfl,rfl⟩) | cases e)
theorem iz {u v w:W} (e:oSem .le h [u,v] = some w):∃ m n i j,u = (m,.int i) /\ v = (n,.int j) /\ w = (.d,.bl (decide (i <= j))):=by
 obtain ⟨m,a⟩:=u; obtain ⟨n,b⟩:=v
 cases a <;> first | (cases e; done) | (cases b <;> first | (cases e; exact ⟨_,_,_,_,rfl,rfl,rfl⟩) | cases e)
theorem qc {u v w:W} (e:oSem .gt h [u,v] = some w):∃ m n i j,u = (m,.int i) /\ v = (n,.int j) /\ w = (.d,.bl (decide (j < i))):=by
 obtain ⟨m,a⟩:=u; obtain ⟨n,b⟩:=v
 cases a <;> first | (cases e; done) | (cases b <;> first | (cases e; exact ⟨_,_,_,_,rfl,rfl,rfl⟩) | cases e)
theorem qF {u v w:W} (e:oSem .ge h [u,v] = some w):∃ m n i j,u = (m,.int i) /\ v = (n,.int j) /\ w = (.d,.bl (decide (j <= i))):=by
 obtain ⟨m,a⟩:=u; obtain ⟨n,b⟩:=v
 cases a <;> first | (cases e; done) | (cases b <;> first | (cases e; exact ⟨_,_,_,_,rfl,rfl,rfl⟩) | cases e)
theorem qE {u v w:W} (e:oSem .fdiv h [u,v] = some w):∃ m n i j,u = (m,.int i) /\ v = (n,.int j) /\ vZ i j /\ w = (.d,.int (i / j)):=by
 obtain ⟨m,a⟩:=u; obtain ⟨n,b⟩:=v
 cases a <;> first | (cases e; done) | (cases b <;> try (cases e; done))
 rename_i i j
 rw [n9] at e
 split at e
 ·rename_i hc
  rw [Bool.and_eq_true,decide_eq_true_eq,decide_eq_true_eq] at hc
  cases e
  exact ⟨_,_,_,_,rfl,rfl,hc,rfl⟩
 ·cases e
theorem tG {u v w:W} (e:oSem .mod h [u,v] = some w):∃ m n i j,u = (m,.int i) /\ v = (n,.int j) /\ (0 < j) /\ w = (.d,.int (i % j)):=by
 obtain ⟨m,a⟩:=u; obtain ⟨n,b⟩:=v
 cases a <;> first | (cases e; done) | (cases b <;> try (cases e; done))
 rename_i i j
 rw [vh] at e
 split at e
 ·rename_i hc
  rw [decide_eq_true_eq] at hc
  cases e
  exact ⟨_,_,_,_,rfl,rfl,hc,rfl⟩
 ·cases e
theorem rP {u v w:W} (e:oSem .pow h [u,v] = some w):∃ m n i j,u = (m,.int i) /\ v = (n,.int j) /\ xw i j /\ w = (.d,.int (i ^ j.toNat)):=by
 obtain ⟨m,a⟩:=u; obtain ⟨n,b⟩:=v
 cases a <;> first | (cases e; done) | (cases b <;> try (cases e; done))
 rename_i i j
 rw [zJ] at e
 split at e
 ·rename_i hc
  rw [Bool.and_eq_true,Bool.and_eq_true,decide_eq_true_eq,decide_eq_true_eq,decide_eq_true_eq] at hc
  cases e
  exact ⟨_,_,_,_,rfl,rfl,⟨hc.1.1,hc.1.2,hc.2⟩,rfl⟩
 ·cases e
theorem tw:Loc K 2 .sub h fun xs H Q=>∀ x y,xs = [x,y] -> rI0 (fun i j=>.int (i - j)) x y H Q:=i5 so _ fun k=>aR k
theorem zd:Loc K 2 .lt h fun xs H Q=>∀ x y,xs = [x,y] -> rI0 (fun i j=>.bl (decide (i < j))) x y H Q:=i5 iJ _ fun k=>cK k
theorem pH:Loc K 2 .gt h fun xs H Q=>∀ x y,xs = [x,y] -> rI0 (fun i j=>.bl (decide (j < i))) x y H Q:=i5 qc _ fun k=>cK k
theorem wJ:Loc K 2 .ge h fun xs H Q=>∀ x y,xs = [x,y] -> rI0 (fun i j=>.bl (decide (j <= i))) x y H Q:=i5 qF _ fun k=>cK k
theorem qk:Loc K 2 .fdiv h fun xs H Q=>∀ x y,xs = [x,y] -> rI vZ (fun i j=>.int (i / j)) x y H Q:=pC qE _ fun k=>aR k
theorem ue:Loc K 2 .mod h fun xs H Q=>∀ x y,xs = [x,y] -> rI (fun _ j=>0 < j) (fun i j=>.int (i % j)) x y H Q:=pC tG _ fun k=>aR k
theorem rK:Loc K 2 .pow h fun xs H Q=>∀ x y,xs = [x,y] -> rI xw (fun i j=>.int (i ^ j.toNat)) x y H Q:=pC rP _ fun k=>aR k
theorem sd:Loc K 1 .neg h fun xs H Q=>∀ x,xs = [x] -> rU (fun i=>.int (-i)) x H Q:=by
 intro ws w xs Z H G Q hn e r ow za k x hx
 subst hx
 obtain ⟨⟨m,a⟩,rfl⟩:=Ax r.length.symm
 cases a <;> first | (cases e; exact ⟨_,vn r,aR k⟩) | cases e
theorem a0 {Z:Fp} {H:Hp} {G:Fp} {m:Md} {ts:List T} {v:V} (r:Rep K Z H m (.lst ts) v G):∃ a xs,v = .ref a /\ H a = some (.lst xs) /\ xs.length <= LIM /\ RepL K Z H m.kid ts xs G:=by
 obtain ⟨a,xs,e,l,q,p⟩:=r
 exact ⟨a,xs,e,by cases m <;> exact q.2,l,p.mono fun _ z=>z.1⟩
theorem cW {Z:Fp} {H:Hp} {G:Fp} {m:Md} {ts:List T} {v:V} (r:Rep K Z H m (.tup ts) v G):∃ a xs,v = .ref a /\ SqT K H a xs /\ xs.length <= LIM /\ RepL K Z H m.kid ts xs G:=r
theorem eD {Z:Fp} {H:Hp} {G G1 G2:Fp} {m n:Md} {ts us:List T} {xs ys:List V} (w1:∀ a,G1 a -> G a) (w2:∀ a,G2 a -> G a) (d:∀ a,G1 a -> ¬ G2 a) (r1:RepL K Z H m ts xs G1) (r2:RepL K Z H n us ys G2) :
  ∃ G',(∀ a,G' a -> G a) /\ RepL K (bu Z G G') H (m.meet n) (ts ++ us) (xs ++ ys) G':=by
 obtain ⟨A,a1,a2⟩:=RepL.weak (cJ m n).1 r1
 obtain ⟨B,b1,b2⟩:=RepL.weak (cJ m n).2 r2
 refine ⟨fun b=>A b \/ B b,fun b hb=>hb.elim (fun z=>w1 b (a1 b z)) fun z=>w2 b (b1 b z),RepL.append (fun _ z=>.inl z) (fun _ z=>.inr z) (fun b za zb=>d b (a1 b za) (b1 b zb)) (a2.zmono fun b hb=>?_) (b2.zmono fun b hb=>?_)⟩
 ·exact hb.imp id fun z=>⟨w1 b z.1,fun q=>q.elim z.2 fun w=>d b z.1 (b1 b w)⟩
 ·exact hb.imp id fun z=>⟨w2 b z.1,fun q=>q.elim (fun w=>d b (a1 b w) z.1) z.2⟩
theorem tQ {p q:Str} (h1:sOk p = true) (h2:sOk q = true) (hl:p.cps.size + q.cps.size <= LIM):sOk (p ++ q) = true:=by
 unfold sOk at *
 rw [Bool.and_eq_true] at *
 refine ⟨?_,decide_eq_true ?_⟩
 ·show Array.all (p.cps ++ q.cps) _ = true
  rw [Array.all_append,Bool.and_eq_true]
  exact ⟨h1.1,h2.1⟩
 ·show (p.cps ++ q.cps).size <= LIM
  rw [Array.size_append]
  exact hl
theorem sZ (rT:R2) (hT:∀ {Z:Fp} {H:Hp} {G:Fp} {Q:VK} {a b:Addr} {xs ys:List V} {ts:List T},SqT K H a xs -> SqT K H b ys -> xs ≠ [] -> xs.length + ys.length <= LIM -> Own Z H G -> (∃ G',(∀ a,G' a -> G a) /\ RepL K (bu Z G G') H .s ts (xs ++ ys) G') -> Out K Z H G (.s,.tup ts) Q -> rT (.ref a) (.ref b) H Q) :
  Loc K 2 .add h fun xs H Q=>∀ x y,xs = [x,y] -> rI0 (fun i j=>.int (i + j)) x y H Q \/ (∃ i j,x = .str i /\ y = .str j /\ i.length + j.length <= sizeLine /\ Q (.str (i ++ j)) H) \/ As x y H Q \/ rT x y H Q:=by
 intro ws w xs Z H G Q hn e r ow za k x y hx
 subst hx
 obtain ⟨⟨m,a⟩,⟨n,b⟩,rfl⟩:=gr r.length.symm
 obtain ⟨G1,G2,w1,w2,d,r1,r2⟩:=cw r
 cases a <;> first | (cases e; done) | (cases b <;> try (cases e; done))
 ·cases e
  exact .inl ⟨_,_,r1,r2,aR k⟩
 ·rename_i p q
  rw [qi] at e
  split at e
  ·rename_i hf
   cases e
   refine .inr (.inl ⟨p,q,r1.1,r2.1,bx (cg hf),lE k ?_⟩)
   exact tQ r1.2 r2.2 (cg hf)
  ·cases e
 ·rename_i ts us
  rw [pV] at e
  split at e
  ·rename_i hf
   cases e
   rw [Bool.and_eq_true] at hf
   obtain ⟨a,xs,rfl,hs,hl,p⟩:=cW r1
   obtain ⟨b,ys,rfl,hs2,hl2,p2⟩:=cW r2
   have hlen:=cg hf.1
   have e1:=p.length
   have e2:=p2.length
   refine .inr (.inr (.inr (hT hs hs2 ?_ (by omega) ow ?_ k)))
   ·rintro rfl
    cases ts with
    | nil=>simp at hf
    | cons _ _=>simp at e1
   ·refine ⟨no,fun _ z=>z.elim,RepL.append (G1:=no) (G2:=no) (fun _ z=>z) (fun _ z=>z) (fun _ z _=>z) ((RepL.sh p).zmono fun b hb=>?_) ((RepL.sh p2).zmono fun b hb=>?_)⟩
    ·exact hb.imp id fun z=>⟨w1 b z,fun q=>q⟩
    ·exact hb.imp id fun z=>⟨w2 b z,fun q=>q⟩
  ·cases e
 ·rename_i ts us
  rw [qq] at e
  split at e
  ·rename_i hf
   obtain ⟨a,xs,rfl,hs,hl,p⟩:=a0 r1
   obtain ⟨b,ys,rfl,hs2,hl2,p2⟩:=a0 r2
   have hlen:=cg hf
   have e1:=p.length
   have e2:=p2.length
   have hl3:(xs ++ ys).length <= LIM:=by rw [List.length_append]; omega
   refine .inr (.inr (.inl ⟨a,b,xs,ys,rfl,rfl,hs,hs2,bx (by omega),fun q hq=>?_⟩))
   exact dA ow za hl3 (eD w1 w2 d p p2) e k hq
  ·cases e
theorem rX:Loc K 2 .mul h fun xs H Q=>∀ x y,xs = [x,y] -> rI CMul (fun i j=>.int (i * j)) x y H Q \/ zw x y H Q:=by
 intro ws w xs Z H G Q hn e r ow za k x y hx
 subst hx
 obtain ⟨⟨m,a⟩,⟨n,b⟩,rfl⟩:=gr r.length.symm
 obtain ⟨G1,G2,w1,w2,d,r1,r2⟩:=cw r
 cases a <;> first | (cases e; done) | (cases b <;> try (cases e; done))
 ·rename_i i j
  rw [rn] at e
  split at e
  ·rename_i hc
   cases e
   refine .inl ⟨i,j,r1,r2,?_,aR k⟩
   rw [Bool.or_eq_true,decide_eq_true_eq,decide_eq_true_eq] at hc
   have h64:(2:Int) ^ 64 = 18446744073709551616:=by decide
   unfold CMul
   rw [h64]
   omega
  ·cases e
 ·rename_i ts j
  have e':(if decide (j.natAbs < 4611686018427387904) && fits (ts.length * j.toNat) then newL h .s (List.replicate j.toNat ts).flatten else none) = some w:=e
  split at e'
  ·rename_i hc
   rw [Bool.and_eq_true,decide_eq_true_eq] at hc
   obtain ⟨a,xs,rfl,hs,hl,p⟩:=a0 r1
   have hlen:=cg hc.2
   have e1:=p.length
   have hl3:((List.replicate j.toNat xs).flatten).length <= LIM:=by
    rw [List.length_flatten,List.map_replicate,List.sum_replicate_nat,e1,Nat.mul_comm]; exact hlen
   refine .inr ⟨a,j,xs,rfl,r2,hs,by omega,by omega,bx (by rw [e1]; exact hlen),fun q hq=>?_⟩
   refine dA ow za hl3 ⟨no,fun _ z=>z.elim,?_⟩ e' k hq
   have ps:=(RepL.sh p).zmono (Z':=bu Z G no) fun b hb=>hb.imp id fun z=>⟨w1 b z,fun q=>q⟩
   generalize j.toNat = c
   induction c with
   | zero=>exact rfl
   | succ c ih=>exact RepL.append (fun _ z=>z) (fun _ z=>z) (fun _ z _=>z) ps ih
  ·cases e'
theorem p7 {Z:Fp} {H:Hp} {G:Fp} {m:Md} {ts:List T} {xs:List V} {i:Int} {t:T} (p:RepL K Z H m ts xs G) (e:M.atI ts i = some t):∃ x,L2.atI xs i = some x /\ Rep K Z H m t x G:=by
 unfold M.atI at e
 have hn:M.ixN ts.length i = L2.ixN xs.length i:=by rw [p.length]; rfl
 cases e1:M.ixN ts.length i with
 | none=>rw [e1] at e; cases e
 | some j =>
  rw [e1] at e
  obtain ⟨x,hx,r⟩:=p.get (show ts[j]? = some t from e)
  refine ⟨x,?_,r⟩
  unfold L2.atI
  rw [<- hn,e1]
  exact hx
theorem rJ {x:Str} {c:Nat} (h:sOk x = true) (hc:c ∈ x.cps.toList):sOk ⟨#[c]⟩ = true:=by
 unfold sOk at *
 rw [Bool.and_eq_true] at *
 refine ⟨?_,rfl⟩
 have h1:=h.1
 rw [Array.all_eq_true'] at h1
 have h2:=h1 c (Array.mem_def.mpr hc)
 rw [Array.all_eq_true']
 intro y hy
 have:y = c:=by simpa using hy
 rw [this]; exact h2
theorem iV {x:Str} (h:sOk x = true):x.cps.size <= LIM:=by
 unfold sOk at h
 rw [Bool.and_eq_true,decide_eq_true_eq] at h
 exact h.2
theorem vT:Loc K 2 .ix h fun xs H Q=>∀ x y,xs = [x,y] -> (∃ p xs i v,x = .ref p /\ y = .int i /\ (SqL K H p xs \/ SqT K H p xs) /\ L2.atI xs i = some v /\ Q v H) \/ (∃ z i c,x = .str z /\ y = .int i /\ z.length <= sizeLine /\ L2.atI z.cps.toList i = some c /\ Q (.str ⟨#[c]⟩) H):=by
 intro ws w xs Z H G Q hn e r ow za k x y hx
 subst hx
 obtain ⟨⟨m,a⟩,⟨n,b⟩,rfl⟩:=gr r.length.symm
 obtain ⟨G1,G2,w1,w2,d,r1,r2⟩:=cw r
 cases b with
 | int i =>
  cases a with
  | lst ts =>
   obtain ⟨a,xs,rfl,hs,hl,p⟩:=a0 r1
   have e':(M.atI ts i).map (fun t=>(m.kid,t)) = some w:=e
   cases e1:M.atI ts i with
   | none=>rw [e1] at e'; cases e'
   | some t =>
    rw [e1] at e'; cases e'
    obtain ⟨v,hv,rv⟩:=p7 p e1
    exact .inl ⟨a,xs,i,v,rfl,r2,.inl (.inl (.inl hs)),hv,jF ow k (rv.mono w1)⟩
  | tup ts =>
   obtain ⟨a,xs,rfl,hs,hl,p⟩:=cW r1
   have e':(M.atI ts i).map (fun t=>(m.kid,t)) = some w:=e
   cases e1:M.atI ts i with
   | none=>rw [e1] at e'; cases e'
   | some t =>
    rw [e1] at e'; cases e'
    obtain ⟨v,hv,rv⟩:=p7 p e1
    exact .inl ⟨a,xs,i,v,rfl,r2,.inr hs,hv,jF ow k (rv.mono w1)⟩
  | str z =>
   have e':(M.atI z.cps.toList i).map (fun c=>((.d,.str ⟨#[c]⟩):W)) = some w:=e
   cases e1:M.atI z.cps.toList i with
   | none=>rw [e1] at e'; cases e'
   | some c =>
    rw [e1] at e'; cases e'
    refine .inr ⟨z,i,c,r1.1,r2,bx (iV r1.2),e1,lE k (rJ r1.2 ?_)⟩
    unfold M.atI at e1
    cases e2:M.ixN z.cps.toList.length i with
    | none=>rw [e2] at e1; cases e1
    | some j=>rw [e2] at e1; exact List.mem_of_getElem? e1
  | scr ns =>
   obtain ⟨a,rfl,hL,hs⟩:=r1
   have e':(M.atI ns i).map (fun n=>((.d,.int n):W)) = some w:=e
   cases e1:M.atI ns i with
   | none=>rw [e1] at e'; cases e'
   | some n =>
    rw [e1] at e'; cases e'
    refine .inl ⟨a,_,i,.int n,rfl,r2,.inl hs.sq,?_,aR k⟩
    unfold M.atI at e1
    unfold L2.atI
    rw [List.length_map]
    cases e2:M.ixN ns.length i with
    | none=>rw [e2] at e1; cases e1
    | some j =>
     rw [e2] at e1
     rw [show L2.ixN ns.length i = some j from e2]
     show (ns.map V.int)[j]? = _
     rw [List.getElem?_map,show ns[j]? = some n from e1]
     rfl
  | _=>cases e
 | _=>cases a <;> cases e
theorem sA:Loc K 1 .len h fun xs H Q=>∃ x n,xs = [x] /\ (match x with
  | .str y=>y.length <= sizeLine /\ n = y.length
  | .byt y=>y.size <= sizeLine /\ n = y.size
  | .ref p=>(∃ xs,SqL K H p xs /\ n = xs.length) \/ ∃ xs,SqT K H p xs /\ n = xs.length
  | _=>False) /\ Q (.int (n:Nat)) H:=by
 intro ws w xs Z H G Q hn e r ow za k
 match ws,hn with
 | [(m,a)],_ =>
  obtain ⟨x,rfl,r1⟩:=dM rfl r
  cases a with
  | lst ts =>
   obtain ⟨a,xs,hx,hs,hl,p⟩:=a0 r1
   cases e
   refine ⟨x,ts.length,rfl,?_,aR k⟩
   rw [show x = .ref a from hx]
   exact .inl ⟨xs,.inl (.inl hs),p.length.symm⟩
  | tup ts =>
   obtain ⟨a,xs,hx,hs,hl,p⟩:=cW r1
   cases e
   refine ⟨x,ts.length,rfl,?_,aR k⟩
   rw [show x = .ref a from hx]
   exact .inr ⟨xs,hs,p.length.symm⟩
  | str z =>
   cases e
   refine ⟨x,z.length,rfl,?_,aR k⟩
   rw [show x = .str z from r1.1]
   exact ⟨bx (iV r1.2),rfl⟩
  | scr ns =>
   obtain ⟨a,hx,hL,hs⟩:=r1
   cases e
   refine ⟨x,ns.length,rfl,?_,aR k⟩
   rw [show x = .ref a from hx]
   exact .inl ⟨_,hs.sq,by rw [List.length_map]⟩
  | dct ks vs=>exact (show False from r1).elim
  | _=>cases e
theorem iw {Z:Fp} {H:Hp} {G:Fp} {m:Md}:∀ ns:List Int,RepL K Z H m (ns.map T.int) (ns.map V.int) G
 | []=>rfl
 | n :: ns=>⟨.int n,ns.map V.int,no,no,rfl,fun _ z=>z.elim,fun _ z=>z.elim,fun _ z=>z.elim,rfl,iw ns⟩
theorem pU:Loc K 1 .list h fun xs H Q=>∃ p ys,xs = [.ref p] /\ (SqL K H p ys \/ SqT K H p ys) /\ ∀ l,H l = none -> Q (.ref l) (upd H l (.lst ys)):=by
 intro ws w xs Z H G Q hn e r ow za k
 match ws,hn with
 | [(m,a)],_ =>
  obtain ⟨x,rfl,r1⟩:=dM rfl r
  cases a with
  | lst ts =>
   obtain ⟨a,xs,hx,hs,hl,p⟩:=a0 r1
   refine ⟨a,xs,by rw [hx],.inl (.inl (.inl hs)),fun q hq=>dA ow za hl ⟨G,fun _ z=>z,p.zmono fun _ z=>.inl z⟩ e k hq⟩
  | tup ts =>
   obtain ⟨a,xs,hx,hs,hl,p⟩:=cW r1
   refine ⟨a,xs,by rw [hx],.inr hs,fun q hq=>dA ow za hl ⟨G,fun _ z=>z,p.zmono fun _ z=>.inl z⟩ e k hq⟩
  | scr ns =>
   obtain ⟨a,hx,hL,hs⟩:=r1
   cases e
   refine ⟨a,_,by rw [hx],.inl hs.sq,fun q hq=>bQ (G':=no) ow za (fun _ z=>z.elim) (by rw [List.length_map]; exact hL) (iw ns) (by simp) k hq⟩
  | _=>cases e
theorem rm {Z:Fp} {H:Hp} {G:Fp} {m:Md}:∀ {ts:List T} {ns:List Int} {xs:List V},bq ts = some ns -> RepL K Z H m ts xs G -> xs = ns.map V.int:=by
 intro ts
 induction ts generalizing G with
 | nil=>intro ns xs e r; cases e; exact r
 | cons t ts ih =>
  intro ns xs e r
  obtain ⟨x,r',G1,G2,rfl,_,_,_,p,q⟩:=r
  cases t with
  | int i =>
   cases e1:bq ts with
   | none=>simp [bq,e1] at e
   | some ms =>
    have:ns = i :: ms:=by simpa [bq,e1] using e.symm
    subst this
    rw [List.map_cons,<- ih e1 q,show x = .int i from p]
  | _=>cases e
theorem m8 {Z:Fp} {H:Hp} {G:Fp} {m:Md}:∀ {ts:List T} {ns:List Bool} {xs:List V},aW ts = some ns -> RepL K Z H m ts xs G -> xs = ns.map V.bl:=by
 intro ts
 induction ts generalizing G with
 | nil=>intro ns xs e r; cases e; exact r
 | cons t ts ih =>
  intro ns xs e r
  obtain ⟨x,r',G1,G2,rfl,_,_,_,p,q⟩:=r
  cases t with
  | bl i =>
   cases e1:aW ts with
   | none=>simp [aW,e1] at e
   | some ms =>
    have:ns = i :: ms:=by simpa [aW,e1] using e.symm
    subst this
    rw [List.map_cons,<- ih e1 q,show x = .bl i from p]
  | _=>cases e
theorem tU:Loc K 1 .sum h fun xs H Q=>∃ (a:Addr) (ns:List Int),xs = [.ref a] /\ SqL K H a (ns.map V.int) /\ Q (.int ns.sum) H:=by
 intro ws w xs Z H G Q hn e r ow za k
 match ws,hn with
 | [(m,a)],_ =>
  obtain ⟨x,rfl,r1⟩:=dM rfl r
  cases a with
  | lst ts =>
   obtain ⟨a,xs,hx,hs,hl,p⟩:=a0 r1
   have e':(bq ts).map (fun ns=>((.d,.int ns.sum):W)) = some w:=e
   cases e1:bq ts with
   | none=>rw [e1] at e'; cases e'
   | some ns =>
    rw [e1] at e'; cases e'
    rw [rm e1 p] at hs
    exact ⟨a,ns,by rw [hx],.inl (.inl hs),aR k⟩
  | _=>cases e
theorem sP:Loc K 1 .all h fun xs H Q=>∃ (a:Addr) (bs:List Bool),xs = [.ref a] /\ SqL K H a (bs.map V.bl) /\ Q (.bl (bs.all id)) H:=by
 intro ws w xs Z H G Q hn e r ow za k
 match ws,hn with
 | [(m,a)],_ =>
  obtain ⟨x,rfl,r1⟩:=dM rfl r
  cases a with
  | lst ts =>
   obtain ⟨a,xs,hx,hs,hl,p⟩:=a0 r1
   have e':(aW ts).map (fun ns=>((.d,.bl (ns.all id)):W)) = some w:=e
   cases e1:aW ts with
   | none=>rw [e1] at e'; cases e'
   | some ns =>
    rw [e1] at e'; cases e'
    rw [m8 e1 p] at hs
    exact ⟨a,ns,by rw [hx],.inl (.inl hs),cK k⟩
  | _=>cases e
theorem sL:Loc K 2 .min h fun xs H Q=>∃ i j,xs = [.int i,.int j] /\ Q (.int (if j < i then j else i)) H:=by
 intro ws w xs Z H G Q hn e r ow za k
 match ws,hn with
 | [(m,a),(n,b)],_ =>
  obtain ⟨x,y,hx⟩:∃ x y,xs = [x,y]:=gr (x:=()) (y:=()) (show xs.length = [(),()].length from r.length)
  subst hx
  obtain ⟨G1,G2,_,_,_,r1,r2⟩:=cw r
  cases a <;> first | (cases e; done) | (cases b <;> first | (cases e; exact ⟨_,_,by rw [show x = _ from r1,show y = _ from r2],aR k⟩) | cases e)
end
end MR
namespace MR
open L2 L3 M
open PySem (Addr Str sizeLine)
section
variable {K:PySem.W.Frag} {sl:Cf} {sf:Nat -> Option Nat} {C:Call} {σ:L2.St} {Z Z' Z1:Fp} {H H' H1:Hp} {Fs Fs' Fs1:Fps} {η η' η1:Env} {G G' R F:Fp}
mutual
theorem Rep.sany:∀ {t:T} {v:V} {G G':Fp},Rep K Z H .s t v G -> Rep K Z H .s t v G'
 | .non,_,_,_,h=>h
 | .bl _,_,_,_,h=>h
 | .int _,_,_,_,h=>h
 | .str _,_,_,_,h=>h
 | .scr _,_,_,_,h=>h
 | .tup ts,_,_,_,⟨a,xs,e,q,l,r⟩=>⟨a,xs,e,q,l,RepL.sany r⟩
 | .lst ts,_,_,_,⟨a,xs,e,l,q,r⟩=>⟨a,xs,e,l,q,RepL.sany r⟩
 | .dct _ _,_,_,_,h=>h.elim
 | .ins _ _ _,_,_,_,h=>h.elim
 | .gone,_,_,_,h=>h
theorem RepL.sany:∀ {ts:List T} {xs:List V} {G G':Fp},RepL K Z H .s ts xs G -> RepL K Z H .s ts xs G'
 | [],_,_,_,h=>h
 | t :: ts,xs,_,_,⟨x,r,G1,G2,e,h1,h2,hd,p,q⟩=>⟨x,r,no,no,e,fun _ z=>z.elim,fun _ z=>z.elim,fun _ z=>z.elim,Rep.sany p,RepL.sany q⟩
end
theorem bw:∀ (η:Env) (i j:Nat) (o:Option W),rd (wr η i o) j = if j = i /\ i < η.length then o else rd η j
 | [],i,j,o=>by simp [wr,rd]
 | p :: η,0,0,o=>by simp [wr,rd]
 | p :: η,0,j + 1,o=>by simp [wr,rd]
 | p :: η,i + 1,0,o=>by simp [wr,rd]
 | p :: η,i + 1,j + 1,o=>by
  show rd (wr η i o) j = _
  rw [bw η i j o]
  simp [rd]
theorem eJ:∀ {η:Env} {i:Nat} {w:W},rd η i = some w -> i < η.length
 | [],_,_,h=>by cases h
 | _ :: _,0,_,_=>by simp
 | _ :: η,i + 1,_,h=>by have:=eJ (η:=η) (i:=i) h; simp; exact this
theorem eS (h:∀ a,F a -> G a):Step Z H G Z H F:=(Step.refl Z H G).mono (fun _ z=>z) h
theorem yq {i j:Nat} (hs:sf i = some j) (σ:L2.St) (H:Hp) (Q:VK) (h:wE K sf C (.var i) σ H Q):mY j σ H Q:=by
 obtain ⟨pv,Z,Fs,η,w,η',A,ev,k⟩:=h
 obtain ⟨w',e1,e2⟩:=av (show ret η ((rd η i).bind look) = _ from ev)
 cases e2
 cases e3:rd η i with
 | none=>rw [e3] at e1; cases e1
 | some u =>
  rw [e3] at e1
  obtain ⟨m,t⟩:=u
  obtain ⟨v,r,hv⟩:=A.env i m t e3
  refine ⟨v,hv.1 j hs,k v Z H Fs no A ?_ (eS fun a ha=>ha.elim id fun z=>z.elim)⟩
  cases m with
  | s=>cases e1; exact r.sany
  | d =>
   have e1':(if t.leaf = true then some (Md.d,t) else none) = some w:=e1
   split at e1'
   ·rename_i hl; cases e1'; exact r.leaf (fun _ _ _ q=>q) hl
   ·cases e1'
  | o m =>
   have e1':(if t.leaf = true then some (Md.d,t) else none) = some w:=e1
   split at e1'
   ·rename_i hl; cases e1'; exact r.leaf (fun _ _ _ q=>q) hl
   ·cases e1'
def wR (Fs:Fps) (i:Nat):Fps:=fun j a=>j ≠ i /\ Fs j a
theorem y9 {e:E} {i j:Nat} (he:∀ η,evE C e η = ret (del η i) (rd η i)) (hs:sf i = some j) (σ:L2.St) (H:Hp) (Q:VK) (h:wE K sf C e σ H Q):mY j σ H Q:=by
 obtain ⟨pv,Z,Fs,η,w,η',A,ev,k⟩:=h
 rw [he] at ev
 obtain ⟨w',e1,e2⟩:=av ev
 cases e2
 obtain ⟨m,t⟩:=w
 obtain ⟨v,r,hv⟩:=A.env i m t e1
 refine ⟨v,hv.1 j hs,k v Z H (wR Fs i) (Fs i) ⟨⟨fun a ⟨l,h1,h2⟩=>A.gd.own a ⟨l,h2⟩,fun l l' a h1 h2=>A.gd.dis l l' a h1.2 h2.2,A.gd.zal⟩,fun l m' t' e=>?_,fun a ha=>A.gd.own a ⟨i,ha⟩,fun a ha ⟨l,h1,h2⟩=>h1 (A.gd.dis l i a h2 ha),A.lk,A.ln⟩ r (eS fun a ha=>ha.elim (fun ⟨l,h1,h2⟩=>⟨l,h2⟩) fun z=>⟨i,z⟩)⟩
 rw [bw] at e
 split at e
 ·cases e
 ·rename_i hne
  obtain ⟨v',r',hv'⟩:=A.env l m' t' e
  have hli:l ≠ i:=fun z=>hne ⟨z,eJ e1⟩
  exact ⟨v',r'.mono fun a ha=>⟨hli,ha⟩,hv'⟩
theorem ja {t:T} {v:V} (hv:∀ {Z:Fp} {H:Hp},Rep K Z H .d t v no) (σ:L2.St) (H:Hp) (Q:VK) (h:wE K sf C (.cst t) σ H Q):tC v σ H Q:=by
 obtain ⟨pv,Z,Fs,η,w,η',A,ev,k⟩:=h
 cases ev
 exact k v Z H Fs no A hv (eS fun a ha=>ha.elim id fun z=>z.elim)
theorem yA {es:List E} (hn:es.length <= LIM) (σ:L2.St) (H:Hp) (Q:VK) (h:wE K sf C (.tup es) σ H Q):yE (wL K sf C es) σ H Q:=by
 obtain ⟨pv,Z,Fs,η,w,η',A,ev,k⟩:=h
 obtain ⟨⟨ws,η1⟩,h1,h2⟩:=aa (show (evL C es η).bind kTup = _ from ev)
 cases h2
 refine ⟨pv,Z,Fs,η,ws,_,A,h1,fun vs Z' H' Fs' G B r s=>?_⟩
 have hl:vs.length <= LIM:=by rw [r.length,fK h1]; exact hn
 obtain ⟨G',g1,g2⟩:=RepW.to (fun u hu=>eF hu) r
 refine ⟨bx hl,fun p hp=>lO (m:=(meets ws).up) B.own g1 hl (by rw [bV]; exact g2) (b7 B s k) hp⟩
theorem wW {b:Bool} {es:List E} (hn:es.length <= LIM) (σ:L2.St) (H:Hp) (Q:VK) (h:wE K sf C (.lst b es) σ H Q):zB (wL K sf C es) σ H Q:=by
 obtain ⟨pv,Z,Fs,η,w,η',A,ev,k⟩:=h
 obtain ⟨⟨ws,η1⟩,h1,h2⟩:=aa (show (evL C es η).bind (qw b) = _ from ev)
 cases h2
 refine ⟨pv,Z,Fs,η,ws,_,A,h1,fun vs Z' H' Fs' G B r s=>?_⟩
 have hl:vs.length <= LIM:=by rw [r.length,fK h1]; exact hn
 refine ⟨bx hl,fun p hp=>?_⟩
 cases b with
 | true =>
  obtain ⟨G',g1,g2⟩:=RepW.to (fun u hu=>eF hu) r
  exact bQ (m:=(meets ws).up) B.own B.gd.zal g1 hl (by rw [bV]; exact g2) (a8 _) (b7 B s k) hp
 | false =>
  obtain ⟨G',g1,g2⟩:=RepW.to (N:=.s) (fun u hu=>by cases lf u.1 u.2 <;> rfl) r
  exact bQ (m:=.o .s) B.own B.gd.zal g1 hl g2 (by simp) (b7 B s k) hp
def wT (K:PySem.W.Frag) (sl:Nat -> Option Nat) (C:Call) (e:E):TT:=fun σ H Q=>∃ pv Z Fs η w η' b,At K ⟨sl,pv⟩ σ Z H Fs η no /\ evE C e η = .ok (w,η') /\ truth w.2 = some b /\
 ∀ Z' H' Fs',At K ⟨sl,pv⟩ σ Z' H' Fs' η' no -> Step Z H (tot Fs) Z' H' (tot Fs') -> Q b H'
def TrV (K:PySem.W.Frag) (x:V) (H:Hp) (k:Bool):Prop :=
 match x with
 | .non=>k = false
 | .bl b=>k = b
 | .int i=>k = (i != 0)
 | .str y=>y.length <= sizeLine /\ k = ((y.length:Int) != 0)
 | .ref p=>(∃ xs,SqL K H p xs /\ k = !xs.isEmpty) \/ (∃ xs,SqT K H p xs /\ k = !xs.isEmpty)
 | _=>False
theorem cY {α β:Type} {xs:List α} {ys:List β} (h:xs.length = ys.length):xs.isEmpty = ys.isEmpty:=by
 cases xs <;> cases ys <;> first | rfl | simp at h
theorem fg {m:Md} {t:T} {v:V} {b:Bool} (e:truth t = some b) (r:Rep K Z H m t v G):TrV K v H b:=by
 cases t with
 | non=>cases e; rw [show v = _ from r]; rfl
 | bl c=>cases e; rw [show v = _ from r]; rfl
 | int i=>cases e; rw [show v = _ from r]; rfl
 | str x =>
  cases e; rw [show v = _ from r.1]
  refine ⟨bx (iV r.2),?_⟩
  show (x.cps.size != 0) = (((x.cps.size:Nat):Int) != 0)
  cases x.cps.size with
  | zero=>rfl
  | succ n=>simp; omega
 | tup ts =>
  obtain ⟨a,xs,rfl,hs,hl,p⟩:=cW r
  cases e
  exact .inr ⟨xs,hs,by rw [cY p.length]⟩
 | lst ts =>
  obtain ⟨a,xs,rfl,hs,hl,p⟩:=a0 r
  cases e
  exact .inl ⟨xs,.inl (.inl hs),by rw [cY p.length]⟩
 | scr ns =>
  obtain ⟨a,rfl,hL,hs⟩:=r
  cases e
  exact .inl ⟨_,hs.sq,by rw [cY (List.length_map ..)]⟩
 | dct _ _=>exact r.elim
 | ins _ _ _=>cases e
 | gone=>cases e
theorem lj {e:E} {w:W} {b:Bool} {Q:Bool -> Hp -> Prop} (A:At K sl σ Z H Fs η no) (ev:evE C e η = .ok (w,η')) (ht:truth w.2 = some b) (k:∀ Z' H' Fs',At K sl σ Z' H' Fs' η' no -> Step Z H (tot Fs) Z' H' (tot Fs') -> Q b H'):wT K sl.sl C e σ H Q:=⟨sl.pv,Z,Fs,η,w,η',b,A,ev,ht,k⟩
theorem bo {α:Type} {f g:Env -> Res α} {p:W × Env} {r:α} (h:onT f g p = .ok r):∃ b,truth p.1.2 = some b /\ (if b = true then f p.2 else g p.2) = .ok r:=by
 unfold onT at h
 split at h
 ·rename_i e; exact ⟨true,e,h⟩
 ·rename_i e; exact ⟨false,e,h⟩
 ·cases h
theorem yr {e:E} (σ:L2.St) (H:Hp) (Q:Bool -> Hp -> Prop) (h:wT K sf C (.not e) σ H Q):zF (wT K sf C e) σ H Q:=by
 obtain ⟨pv,Z,Fs,η,w,η',b,A,ev,ht,k⟩:=h
 obtain ⟨⟨u,η1⟩,h1,h2⟩:=aa (show (evE C e η).bind qK = _ from ev)
 obtain ⟨w',e1,e2⟩:=av (show ret η1 ((truth u.2).map fun b=>((.d,.bl (!b)):W)) = _ from h2)
 cases e2
 cases e3:truth u.2 with
 | none=>rw [e3] at e1; cases e1
 | some c =>
  rw [e3] at e1; cases e1
  have:b = !c:=by cases ht; rfl
  subst this
  exact lj A h1 e3 k
theorem wY {a b:E} (σ:L2.St) (H:Hp) (Q:Bool -> Hp -> Prop) (h:wT K sf C (.and a b) σ H Q):Bo (wT K sf C a) (wT K sf C b) σ H Q:=by
 obtain ⟨pv,Z,Fs,η,w,η',c,A,ev,ht,k⟩:=h
 obtain ⟨⟨u,η1⟩,h1,h2⟩:=aa (show (evE C a η).bind (mM (evE C b)) = _ from ev)
 obtain ⟨d,h3,h4⟩:=bo (show onT (evE C b) (okW u) (u,η1) = _ from h2)
 refine lj A h1 h3 fun Z1 H1 Fs1 A1 s1=>?_
 cases d with
 | true=>rw [if_pos rfl] at h4 ⊢; exact lj A1 h4 ht fun Z2 H2 Fs2 A2 s2=>k Z2 H2 Fs2 A2 (s1.trans s2)
 | false =>
  rw [if_neg Bool.false_ne_true] at h4 ⊢
  cases h4
  cases (h3.symm.trans ht)
  exact k Z1 H1 Fs1 A1 s1
theorem Bi {a b:E} (σ:L2.St) (H:Hp) (Q:Bool -> Hp -> Prop) (h:wT K sf C (.or a b) σ H Q):tOr (wT K sf C a) (wT K sf C b) σ H Q:=by
 obtain ⟨pv,Z,Fs,η,w,η',c,A,ev,ht,k⟩:=h
 obtain ⟨⟨u,η1⟩,h1,h2⟩:=aa (show (evE C a η).bind (kOr (evE C b)) = _ from ev)
 obtain ⟨d,h3,h4⟩:=bo (show onT (okW u) (evE C b) (u,η1) = _ from h2)
 refine lj A h1 h3 fun Z1 H1 Fs1 A1 s1=>?_
 cases d with
 | false=>rw [if_neg Bool.false_ne_true] at h4 ⊢; exact lj A1 h4 ht fun Z2 H2 Fs2 A2 s2=>k Z2 H2 Fs2 A2 (s1.trans s2)
 | true =>
  rw [if_pos rfl] at h4 ⊢
  cases h4
  cases (h3.symm.trans ht)
  exact k Z1 H1 Fs1 A1 s1
theorem yO {c a b:E} (σ:L2.St) (H:Hp) (Q:VK) (h:wE K sf C (.ifx c a b) σ H Q):tIf (wT K sf C c) (wE K sf C a) (wE K sf C b) σ H Q:=by
 obtain ⟨pv,Z,Fs,η,w,η',A,ev,k⟩:=h
 obtain ⟨⟨u,η1⟩,h1,h2⟩:=aa (show (evE C c η).bind (onT (evE C a) (evE C b)) = _ from ev)
 obtain ⟨d,h3,h4⟩:=bo h2
 refine lj A h1 h3 fun Z1 H1 Fs1 A1 s1=>?_
 cases d with
 | true=>rw [if_pos rfl] at h4 ⊢; exact ⟨pv,Z1,Fs1,η1,w,η',A1,h4,fun v Z' H' Fs' G B r s=>k v Z' H' Fs' G B r (s1.trans s)⟩
 | false=>rw [if_neg Bool.false_ne_true] at h4 ⊢; exact ⟨pv,Z1,Fs1,η1,w,η',A1,h4,fun v Z' H' Fs' G B r s=>k v Z' H' Fs' G B r (s1.trans s)⟩
theorem we {a b:E} (σ:L2.St) (H:Hp) (Q:VK) (h:wE K sf C (.and a b) σ H Q):wE K sf C a σ H fun x H1=>∃ k,TrV K x H1 k /\ if k = true then wE K sf C b σ H1 Q else Q x H1:=by
 obtain ⟨pv,Z,Fs,η,w,η',A,ev,k⟩:=h
 obtain ⟨⟨u,η1⟩,h1,h2⟩:=aa (show (evE C a η).bind (mM (evE C b)) = _ from ev)
 obtain ⟨d,h3,h4⟩:=bo (show onT (evE C b) (okW u) (u,η1) = _ from h2)
 refine ⟨pv,Z,Fs,η,u,η1,A,h1,fun v Z1 H1 Fs1 G B r s=>⟨d,fg h3 r,?_⟩⟩
 cases d with
 | true=>rw [if_pos rfl] at h4 ⊢; exact ⟨pv,Z1,Fs1,η1,w,η',B.bare,h4,fun v' Z' H' Fs' G' B' r' s'=>k v' Z' H' Fs' G' B' r' ((s.mono (fun _ z=>z) fun _ z=>.inl z).trans s')⟩
 | false =>
  rw [if_neg Bool.false_ne_true] at h4 ⊢
  cases h4
  exact k v Z1 H1 Fs1 G B r s
theorem Af {a b:E} (σ:L2.St) (H:Hp) (Q:VK) (h:wE K sf C (.or a b) σ H Q):wE K sf C a σ H fun x H1=>∃ k,TrV K x H1 k /\ if k = true then Q x H1 else wE K sf C b σ H1 Q:=by
 obtain ⟨pv,Z,Fs,η,w,η',A,ev,k⟩:=h
 obtain ⟨⟨u,η1⟩,h1,h2⟩:=aa (show (evE C a η).bind (kOr (evE C b)) = _ from ev)
 obtain ⟨d,h3,h4⟩:=bo (show onT (okW u) (evE C b) (u,η1) = _ from h2)
 refine ⟨pv,Z,Fs,η,u,η1,A,h1,fun v Z1 H1 Fs1 G B r s=>⟨d,fg h3 r,?_⟩⟩
 cases d with
 | false=>rw [if_neg Bool.false_ne_true] at h4 ⊢; exact ⟨pv,Z1,Fs1,η1,w,η',B.bare,h4,fun v' Z' H' Fs' G' B' r' s'=>k v' Z' H' Fs' G' B' r' ((s.mono (fun _ z=>z) fun _ z=>.inl z).trans s')⟩
 | true =>
  rw [if_pos rfl] at h4 ⊢
  cases h4
  exact k v Z1 H1 Fs1 G B r s
end
end MR
namespace MR
open L2 L3 M
open PySem (Addr Str sizeLine)
section
variable {K:PySem.W.Frag} {sl:Cf} {sf:Nat -> Option Nat} {C:Call} {σ:L2.St} {Z Z' Z1:Fp} {H H' H1:Hp} {Fs Fs' Fs1:Fps} {η η' η1:Env} {G G' R F:Fp}
structure Wk (K:PySem.W.Frag) (J:It) (Z:Fp) (H0:Hp) (ts:List (List W)):Prop where
 go:∀ H i,Stay Z H0 H -> i < ts.length -> J.go i H
 stop:∀ H i,Stay Z H0 H -> ts.length <= i -> J.stop i H
 len:ts.length <= LIM
def pQ (K:PySem.W.Frag) (J:It) (Z:Fp) (H0:Hp) (ts:List (List W)):Prop :=
 ∀ H i x H',Stay Z H0 H -> i < ts.length -> J.yld i H x H' -> H' = H /\ ∃ w,ts[i]? = some [w] /\ Rep K Z H w.1 w.2 x no
def Cy (K:PySem.W.Frag) (J:It) (Z:Fp) (H0:Hp) (ts:List (List W)):Prop :=
 ∀ H i x H',Stay Z H0 H -> i < ts.length -> J.yld i H x H' -> ∃ p y z u w,x = .ref p /\ (∀ b o,H b = some o -> H' b = some o) /\ SqT K H' p [y,z] /\ ts[i]? = some [u,w] /\ Rep K Z H u.1 u.2 y no /\ Rep K Z H w.1 w.2 z no
theorem jG (same:∀ b o,H b = some o -> H' b = some o):Stay Z H H':=by
 refine ⟨fun a o _ e=>same a o e,fun a ys e=>?_,fun a o u e=>same a _ e⟩
 rcases e with e | ⟨u,e⟩
 ·exact .inl (same a _ e)
 ·exact .inr ⟨u,same a _ e⟩
theorem gk (same:∀ a o,H a = some o -> H' a = some o):Step Z H G Z H' G:=by
 have al:∀ a,H a ≠ none -> H' a ≠ none:=fun a h=>by
  cases e:H a with
  | none=>exact absurd e h
  | some o=>rw [same a o e]; simp
 exact ⟨fun a o h _=>same a o h,fun _ h=>h,fun _ h=>.inl h,fun _ h=>.inl h,al,fun z a h=>al a (z a h)⟩
theorem rl {p:Addr} {o:HO} (hp:H p = none):∀ b u,H b = some u -> upd H p o b = some u:=fun a u e=>by
 have:a ≠ p:=fun q=>by subst q; rw [hp] at e; cases e
 rw [ag this]; exact e
def Yld (K:PySem.W.Frag) (J:It) (Z:Fp) (H0:Hp) (ts:List (List W)):Nat -> Prop
 | 1=>pQ K J Z H0 ts
 | 2=>Cy K J Z H0 ts
 | _=>False
def wI (K:PySem.W.Frag) (sl:Nat -> Option Nat) (C:Call) (n:Nat) (k:Ik) (src:List E):TI:=fun σ H R=>∃ pv Z Fs η ws η' ts,At K ⟨sl,pv⟩ σ Z H Fs η no /\ evL C src η = .ok (ws,η') /\ turns k ws = some ts /\
 ∀ J Z' H' Fs',At K ⟨sl,pv⟩ σ Z' H' Fs' η' no -> Step Z H (tot Fs) Z' H' (tot Fs') -> Wk K J Z' H' ts -> Yld K J Z' H' ts n -> R J H'
theorem At.freeze (A:At K sl σ Z H Fs η G):At K sl σ (fun a=>Z a \/ G a) H Fs η no:=by
 refine ⟨⟨fun a ha=>⟨fun z=>z.elim (A.gd.own a ha).1 fun q=>A.dis a q ha,(A.gd.own a ha).2⟩,A.gd.dis,fun a h=>h.elim (A.gd.zal a) fun q=>?_⟩,fun i m t e=>?_,cj,fun _ z=>z.elim,A.lk,A.ln⟩
 ·obtain ⟨_,xs,e⟩:=A.own a q
  rw [e]; simp
 ·obtain ⟨v,r,h⟩:=A.env i m t e
  exact ⟨v,r.zmono fun a h=>.inl h,h⟩
theorem aV (o:Own Z' H' G) (s:Step Z H F Z' H' (fun a=>F' a \/ G a)):Step Z H F (fun a=>Z' a \/ G a) H' F' where
 keep:=s.keep
 zm:=fun a h=>.inl (s.zm a h)
 zn:=fun a h=>h.elim (s.zn a) fun q=>.inr (s.fn a (.inr q))
 fn:=fun a h=>s.fn a (.inl h)
 al:=s.al
 za:=fun z a h=>h.elim (s.za z a) fun q=>by
  obtain ⟨_,xs,e⟩:=o a q
  rw [e]; simp
theorem bF {a:Addr} {xs:List V} {H0:Hp} (s:Stay Z H0 H) (hz:Z a) (h:H0 a = some (.lst xs)):SqL K H a xs:=.inl (.inl (s.1 a _ hz h))
theorem vb {a:Addr} {xs:List V} {ts:List T} (hL:xs.length <= LIM) (hz:Z a) (h:H a = some (.lst xs)) (r:RepL K Z H .s ts xs no):Wk K (Itl K a) Z H (ts.map fun t=>[(.s,t)]) /\ pQ K (Itl K a) Z H (ts.map fun t=>[(.s,t)]):=by
 have hl:=r.length
 refine ⟨⟨fun H' i s hi=>?_,fun H' i s hi=>?_,by rw [List.length_map]; omega⟩,fun H' i x H'' s hi y=>?_⟩
 ·rw [List.length_map] at hi
  exact ⟨xs,xs[i]'(by omega),bF s hz h,by simp⟩
 ·rw [List.length_map] at hi
  exact ⟨xs,bF s hz h,by omega⟩
 ·rw [List.length_map] at hi
  obtain ⟨rfl,y⟩:=y
  have hx:=y xs (bF s hz h)
  obtain ⟨x',hx',rx⟩:=r.get (show ts[i]? = some ts[i] by simp)
  rw [hx] at hx'; cases hx'
  refine ⟨rfl,(.s,ts[i]),by rw [List.getElem?_map,show ts[i]? = some ts[i] by simp]; rfl,rx.keep s (fun _ z=>z) fun _ _ z=>z.elim⟩
theorem x9 {a:Addr} {xs:List V} {ts:List T} (hL:xs.length <= LIM) (h:SqT K H a xs) (r:RepL K Z H .s ts xs no):Wk K (Itt K a) Z H (ts.map fun t=>[(.s,t)]) /\ pQ K (Itt K a) Z H (ts.map fun t=>[(.s,t)]):=by
 have hl:=r.length
 refine ⟨⟨fun H' i s hi=>?_,fun H' i s hi=>?_,by rw [List.length_map]; omega⟩,fun H' i x H'' s hi y=>?_⟩
 ·rw [List.length_map] at hi
  exact ⟨xs,xs[i]'(by omega),s.sqt h,by simp⟩
 ·rw [List.length_map] at hi
  exact ⟨xs,s.sqt h,by omega⟩
 ·rw [List.length_map] at hi
  obtain ⟨rfl,y⟩:=y
  have hx:=y xs (s.sqt h)
  obtain ⟨x',hx',rx⟩:=r.get (show ts[i]? = some ts[i] by simp)
  rw [hx] at hx'; cases hx'
  refine ⟨rfl,(.s,ts[i]),by rw [List.getElem?_map,show ts[i]? = some ts[i] by simp]; rfl,rx.keep s (fun _ z=>z) fun _ _ z=>z.elim⟩
theorem wm {lo:Int} {n:Nat} (hL:n <= LIM):Wk K (Itr lo n) Z H ((List.range n).map fun (k:Nat)=>[(.d,.int (lo + k))]) /\ pQ K (Itr lo n) Z H ((List.range n).map fun (k:Nat)=>[(.d,.int (lo + k))]):=by
 refine ⟨⟨fun H' i s hi=>by show i < n; simpa using hi,fun H' i s hi=>by show n <= i; simpa using hi,by simpa using hL⟩,fun H' i x H'' s hi y=>?_⟩
 obtain ⟨rfl,rfl⟩:=y
 refine ⟨rfl,(.d,.int (lo + i)),?_,rfl⟩
 rw [List.length_map,List.length_range] at hi
 rw [List.getElem?_map,List.getElem?_range hi]
 rfl
theorem kx {a:Addr} {ns:List Int} {H0:Hp} (s:Stay Z H0 H) (h:ScrR K H0 a ns):SqL K H a (ns.map V.int):=(h.keep s.2.2).sq
theorem xP {a:Addr} {ns:List Int} (hL:ns.length <= LIM) (h:ScrR K H a ns):Wk K (Itl K a) Z H (ns.map fun n=>[(.d,.int n)]) /\ pQ K (Itl K a) Z H (ns.map fun n=>[(.d,.int n)]):=by
 refine ⟨⟨fun H' i s hi=>?_,fun H' i s hi=>?_,by rw [List.length_map]; exact hL⟩,fun H' i x H'' s hi y=>?_⟩
 ·rw [List.length_map] at hi
  exact ⟨_,(ns.map V.int)[i]'(by rw [List.length_map]; exact hi),kx s h,by simp⟩
 ·rw [List.length_map] at hi
  exact ⟨_,kx s h,by rw [List.length_map]; exact hi⟩
 ·rw [List.length_map] at hi
  obtain ⟨rfl,y⟩:=y
  have hx:=y _ (kx s h)
  refine ⟨rfl,(.d,.int ns[i]),by rw [List.getElem?_map,show ns[i]? = some ns[i] by simp]; rfl,?_⟩
  rw [List.getElem?_map,show ns[i]? = some ns[i] by simp] at hx
  exact (Option.some.inj hx).symm
theorem yj {e:E} (σ:L2.St) (H:Hp) (R:It -> Hp -> Prop) (h:wI K sf C 1 .seq [e] σ H R):qr K (wE K sf C e) σ H R \/ AR K (wE K sf C e) σ H R:=by
 obtain ⟨pv,Z,Fs,η,ws,η',ts,A,ev,ht,k⟩:=h
 obtain ⟨⟨m,a⟩,η1,us,e1,e2,rfl⟩:=aC ev
 cases e2
 cases a with
 | lst ts' =>
  cases ht
  refine .inl ⟨pv,Z,Fs,η,_,_,A,e1,fun v Z' H' Fs' G B r s=>?_⟩
  obtain ⟨a,xs,rfl,l,q,p⟩:=Rep.sh r
  obtain ⟨w1,w2⟩:=vb l q.1 q.2 p.sany
  exact ⟨a,rfl,⟨xs,.inl (.inl q.2)⟩,k _ _ H' Fs' B.freeze (aV B.own s) w1 w2⟩
 | tup ts' =>
  cases ht
  refine .inr ⟨pv,Z,Fs,η,_,_,A,e1,fun v Z' H' Fs' G B r s=>?_⟩
  obtain ⟨a,xs,rfl,q,l,p⟩:=Rep.sh r
  obtain ⟨w1,w2⟩:=x9 l q p.sany
  exact ⟨a,rfl,⟨xs,q⟩,k _ _ H' Fs' B.freeze (aV B.own s) w1 w2⟩
 | scr ns =>
  cases ht
  refine .inl ⟨pv,Z,Fs,η,_,_,A,e1,fun v Z' H' Fs' G B r s=>?_⟩
  obtain ⟨a,rfl,hl,q⟩:=r
  obtain ⟨w1,w2⟩:=xP (Z:=fun a=>Z' a \/ G a) hl q
  exact ⟨a,rfl,⟨_,q.sq⟩,k _ _ H' Fs' B.freeze (aV B.own s) w1 w2⟩
 | _=>cases ht
theorem p62:(2:Int) ^ 62 = 4611686018427387904:=by decide
theorem u5 {e:E} (σ:L2.St) (H:Hp) (R:It -> Hp -> Prop) (h:wI K sf C 1 .rng [e] σ H R):vo (wL K sf C [e]) σ H R:=by
 obtain ⟨pv,Z,Fs,η,ws,η',ts,A,ev,ht,k⟩:=h
 refine ⟨pv,Z,Fs,η,ws,η',A,ev,fun vs Z' H' Fs' G B r s=>?_⟩
 obtain ⟨⟨m,a⟩,η1,us,e1,e2,rfl⟩:=aC ev
 cases e2
 obtain ⟨x,rfl,r1⟩:=dM rfl r
 cases a with
 | int n =>
  rw [pb] at ht
  split at ht
  ·rename_i hc
   rw [Bool.and_eq_true,decide_eq_true_eq] at hc
   cases ht
   refine ⟨n,by rw [show x = _ from r1],by rw [p62]; omega,by rw [p62]; omega,?_⟩
   obtain ⟨w1,w2⟩:=wm (K:=K) (Z:=fun a=>Z' a \/ G a) (H:=H') (lo:=0) (n:=n.toNat) (cg hc.2)
   have hz:∀ k:Nat,(0:Int) + (k:Int) = k:=fun k=>by omega
   simp only [hz] at w1 w2
   exact k _ _ H' Fs' B.freeze (aV B.own s) w1 w2
  ·cases ht
 | _=>cases ht
theorem vD {m:Md} {t:T} {v:V} {ts:List T} (e:elems (m,t) = some ts) (r:Rep K Z H m t v G):∃ k a xs,v = .ref a /\ xs.length <= LIM /\ RepL K (fun a=>Z a \/ G a) H .s ts xs no /\ ∀ H',Stay (fun a=>Z a \/ G a) H H' -> Sq K H' k a xs:=by
 cases t with
 | lst us =>
  cases e
  obtain ⟨a,xs,rfl,l,q,p⟩:=Rep.sh r
  exact ⟨false,a,xs,rfl,l,p.sany,fun H' s=>bF s q.1 q.2⟩
 | tup us =>
  cases e
  obtain ⟨a,xs,rfl,q,l,p⟩:=Rep.sh r
  exact ⟨true,a,xs,rfl,l,p.sany,fun H' s=>s.sqt q⟩
 | _=>cases e
theorem kc {m n:Md}:∀ {ts us:List T} {i:Nat} {t u:T},ts[i]? = some t -> us[i]? = some u -> (cU m n ts us)[i]? = some [(m,t),(n,u)]
 | t :: ts,u :: us,0,_,_,h,h'=>by cases h; cases h'; rfl
 | t :: ts,u :: us,i + 1,_,_,h,h'=>kc (ts:=ts) (us:=us) (i:=i) h h'
 | [],_,_,_,_,h,_=>by simp at h
 | _ :: _,[],_,_,_,_,h'=>by simp at h'
theorem dB {m n:Md}:∀ {ts us:List T},(cU m n ts us).length = min ts.length us.length
 | [],_=>by simp [cU]
 | _ :: _,[]=>by simp [cU]
 | t :: ts,u :: us=>by
  show (cU m n ts us).length + 1 = _
  rw [dB]; simp
theorem xF {e e':E} (σ:L2.St) (H:Hp) (R:It -> Hp -> Prop) (h:wI K sf C 2 .zip [e,e'] σ H R):AU K (wL K sf C [e,e']) σ H R:=by
 obtain ⟨pv,Z,Fs,η,ws,η',ts,A,ev,ht,k⟩:=h
 refine ⟨pv,Z,Fs,η,ws,η',A,ev,fun vs Z' H' Fs' G B r s=>?_⟩
 obtain ⟨⟨m,a⟩,η1,us,e1,e2,rfl⟩:=aC ev
 obtain ⟨⟨n,b⟩,η2,us,e3,e4,rfl⟩:=aC e2
 cases e4
 obtain ⟨x,y,hx⟩:∃ x y,vs = [x,y]:=gr (x:=()) (y:=()) (show vs.length = [(),()].length from r.length)
 subst hx
 obtain ⟨G1,G2,g1,g2,_,r1,r2⟩:=cw r
 have ht':((elems (m,a)).bind fun ts=>(elems (n,b)).bind fun us=>some (cU .s .s ts us)) = some ts:=ht
 cases ea:elems (m,a) with
 | none=>rw [ea] at ht'; cases ht'
 | some t1 =>
  cases eb:elems (n,b) with
  | none=>rw [ea,eb] at ht'; cases ht'
  | some t2 =>
   rw [ea,eb] at ht'; cases ht'
   obtain ⟨k1,a1,xs,rfl,L1,p1,q1⟩:=vD ea r1
   obtain ⟨k2,a2,ys,rfl,L2',p2,q2⟩:=vD eb r2
   have z1:∀ c,(Z' c \/ G1 c) -> (Z' c \/ G c):=fun c h=>h.imp id (g1 c)
   have z2:∀ c,(Z' c \/ G2 c) -> (Z' c \/ G c):=fun c h=>h.imp id (g2 c)
   have st1:∀ H0,Stay (fun c=>Z' c \/ G c) H' H0 -> Sq K H0 k1 a1 xs:=fun H0 s=>q1 H0 ⟨fun c o hc=>s.1 c o (z1 c hc),s.2⟩
   have st2:∀ H0,Stay (fun c=>Z' c \/ G c) H' H0 -> Sq K H0 k2 a2 ys:=fun H0 s=>q2 H0 ⟨fun c o hc=>s.1 c o (z2 c hc),s.2⟩
   have l1:=p1.length
   have l2:=p2.length
   refine ⟨k1,k2,a1,a2,rfl,⟨xs,st1 _ (dN _ _)⟩,⟨ys,st2 _ (dN _ _)⟩,k _ _ H' Fs' B.freeze (aV B.own s) ⟨fun H0 i s hi=>?_,fun H0 i s hi=>?_,by rw [dB]; omega⟩ fun H0 i x H1 s hi y=>?_⟩
   ·rw [dB] at hi
    exact ⟨xs,ys,xs[i]'(by omega),ys[i]'(by omega),st1 _ s,st2 _ s,by simp,by simp⟩
   ·rw [dB] at hi
    exact ⟨xs,ys,st1 _ s,st2 _ s,by omega⟩
   ·rw [dB] at hi
    obtain ⟨p,x1,y1,rfl,hp,rfl,hx,hy⟩:=y
    have hi1:i < t1.length:=by omega
    have hi2:i < t2.length:=by omega
    obtain ⟨x',hx',rx⟩:=p1.get (show t1[i]? = some t1[i] by simp)
    obtain ⟨y',hy',ry⟩:=p2.get (show t2[i]? = some t2[i] by simp)
    rw [hx xs (st1 _ s)] at hx'; cases hx'
    rw [hy ys (st2 _ s)] at hy'; cases hy'
    exact ⟨p,x1,y1,(.s,t1[i]),(.s,t2[i]),rfl,rl hp,.inl (.inl ao),kc (by simp) (by simp),(rx.zmono z1).keep s (fun _ z=>z) fun _ _ z=>z.elim,(ry.zmono z2).keep s (fun _ z=>z) fun _ _ z=>z.elim⟩
theorem gP {m:Md}:∀ {ts:List T} {n i:Nat} {t:T},ts[i]? = some t -> (cT m n ts)[i]? = some [(.d,.int ((n + i:Nat):Int)),(m,t)]
 | t :: ts,n,0,_,h=>by cases h; rfl
 | t :: ts,n,i + 1,_,h=>by
  have:=gP (m:=m) (ts:=ts) (n:=n + 1) (i:=i) h
  rw [show n + 1 + i = n + (i + 1) by omega] at this
  exact this
 | [],_,_,_,h=>by simp at h
theorem cG {m:Md}:∀ {ts:List T} {n:Nat},(cT m n ts).length = ts.length
 | [],_=>rfl
 | t :: ts,n=>by show (cT m (n + 1) ts).length + 1 = ts.length + 1; rw [cG]
theorem v8 {e:E} (σ:L2.St) (H:Hp) (R:It -> Hp -> Prop) (h:wI K sf C 2 .enm [e] σ H R):vP K (wL K sf C [e]) σ H R:=by
 obtain ⟨pv,Z,Fs,η,ws,η',ts,A,ev,ht,k⟩:=h
 refine ⟨pv,Z,Fs,η,ws,η',A,ev,fun vs Z' H' Fs' G B r s=>?_⟩
 obtain ⟨⟨m,a⟩,η1,us,e1,e2,rfl⟩:=aC ev
 cases e2
 obtain ⟨x,rfl,r1⟩:=dM rfl r
 obtain ⟨t1,rfl⟩:∃ t1,a = .lst t1:=by cases a <;> first | exact ⟨_,rfl⟩ | cases ht
 cases ht
 obtain ⟨a,xs,rfl,l,q,p⟩:=Rep.sh r1
 have l1:=p.length
 refine ⟨a,rfl,⟨xs,.inl (.inl q.2)⟩,k _ _ H' Fs' B.freeze (aV B.own s) ⟨fun H0 i s hi=>?_,fun H0 i s hi=>?_,by rw [cG]; omega⟩ fun H0 i x H1 s hi y=>?_⟩
 ·rw [cG] at hi
  exact ⟨xs,xs[i]'(by omega),bF s q.1 q.2,by simp⟩
 ·rw [cG] at hi
  exact ⟨xs,bF s q.1 q.2,by omega⟩
 ·rw [cG] at hi
  obtain ⟨p',x1,rfl,hp,rfl,hx⟩:=y
  obtain ⟨x',hx',rx⟩:=p.get (show t1[i]? = some t1[i] by simp)
  rw [hx xs (bF s q.1 q.2)] at hx'; cases hx'
  refine ⟨p',.int i,x1,(.d,.int ((0 + i:Nat):Int)),(.s,t1[i]),rfl,rl hp,.inl (.inl ao),gP (by simp),?_,rx.sany.keep s (fun _ z=>z) fun _ _ z=>z.elim⟩
  show V.int (i:Int) = V.int ((0 + i:Nat):Int)
  rw [Nat.zero_add]
theorem fU:∀ {ts:List T} {ps:List (List W)} {i:Nat} {t:T},bO ts = some ps -> ts[i]? = some t -> ∃ x y,t = .tup [x,y] /\ ps[i]? = some [(.s,x),(.s,y)]
 | [],_,_,_,_,h=>by simp at h
 | u :: ts,ps,i,t,e,h=>by
  match u,e with
  | .tup [x,y],e =>
   have e':(bO ts).map ([(.s,x),(.s,y)] :: ·) = some ps:=e
   cases e1:bO ts with
   | none=>rw [e1] at e'; cases e'
   | some qs =>
    rw [e1] at e'
    cases e'
    cases i with
    | zero=>cases h; exact ⟨x,y,rfl,rfl⟩
    | succ i=>exact fU (ts:=ts) (ps:=qs) (i:=i) e1 h
theorem gw:∀ {ts:List T} {ps:List (List W)},bO ts = some ps -> ps.length = ts.length
 | [],_,e=>by cases e; rfl
 | u :: ts,ps,e=>by
  match u,e with
  | .tup [x,y],e =>
   have e':(bO ts).map ([(.s,x),(.s,y)] :: ·) = some ps:=e
   cases e1:bO ts with
   | none=>rw [e1] at e'; cases e'
   | some qs =>
    rw [e1] at e'
    cases e'
    rw [List.length_cons,List.length_cons,gw e1]
theorem yt {e:E} (σ:L2.St) (H:Hp) (R:It -> Hp -> Prop) (h:wI K sf C 2 .sq2 [e] σ H R):qr K (wE K sf C e) σ H R:=by
 obtain ⟨pv,Z,Fs,η,ws,η',ts,A,ev,ht,k⟩:=h
 obtain ⟨⟨m,a⟩,η1,us,e1,e2,rfl⟩:=aC ev
 cases e2
 obtain ⟨t1,rfl⟩:∃ t1,a = .lst t1:=by cases a <;> first | exact ⟨_,rfl⟩ | cases ht
 have ht':bO t1 = some ts:=ht
 have hlen:=gw ht'
 refine ⟨pv,Z,Fs,η,_,_,A,e1,fun v Z' H' Fs' G B r s=>?_⟩
 obtain ⟨a,xs,rfl,l,q,p⟩:=Rep.sh r
 have hl:=p.length
 refine ⟨a,rfl,⟨xs,.inl (.inl q.2)⟩,k _ _ H' Fs' B.freeze (aV B.own s) ⟨fun H0 i s hi=>?_,fun H0 i s hi=>?_,by omega⟩ fun H0 i x H1 s hi y=>?_⟩
 ·exact ⟨xs,xs[i]'(by omega),bF s q.1 q.2,by simp⟩
 ·exact ⟨xs,bF s q.1 q.2,by omega⟩
 ·obtain ⟨rfl,y⟩:=y
  have hx:=y xs (bF s q.1 q.2)
  have hi':i < t1.length:=by omega
  obtain ⟨x',hx',rx⟩:=p.get (show t1[i]? = some t1[i] by simp)
  rw [hx] at hx'; cases hx'
  obtain ⟨u,w,et,eu⟩:=fU ht' (show t1[i]? = some t1[i] by simp)
  rw [et] at rx
  obtain ⟨c,ys,rfl,hq,_,y1,r1,G1,G2,rfl,g1,g2,d,p1,y2,r2,G3,G4,e2,g3,g4,d2,p2,q2⟩:=rx
  cases e2
  obtain rfl:r2 = []:=q2
  refine ⟨c,y1,y2,(.s,u),(.s,w),rfl,fun _ _ e=>e,s.sqt hq,eu,(p1.mono (G':=no) fun a h=>(g1 a h).1).sany.keep s (fun _ z=>z) fun _ _ z=>z.elim,(p2.mono (G':=no) fun a h=>(g2 a (g3 a h)).1).sany.keep s (fun _ z=>z) fun _ _ z=>z.elim⟩
end
end MR
namespace MR
open L2 L3 M
open PySem (Addr Str sizeLine)
section
variable {K:PySem.W.Frag} {sl:Cf} {sf sg:Nat -> Option Nat} {C:Call} {σ σ2:L2.St} {Z Z' Z1:Fp} {H H' H1:Hp} {Fs Fs' Fs1:Fps} {η η' η1:Env} {G G' R F:Fp} {tg is:List Nat} {pv val:Nat -> Option V}
theorem aI:∀ (tg:List Nat) (η:Env) (i:Nat),rd (ak tg η) i = if i ∈ tg then none else rd η i
 | [],η,i=>by simp [ak]
 | t :: tg,η,i=>by
  show rd (ak tg (wr η t none)) i = _
  rw [aI tg,bw]
  by_cases h1:i ∈ tg
  ·simp [h1]
  ·by_cases h2:i = t
   ·subst h2
    rw [if_neg h1,if_pos List.mem_cons_self]
    split
    ·rfl
    ·rename_i hn
     cases e:rd η i with
     | none=>rfl
     | some w=>exact absurd ⟨rfl,eJ e⟩ hn
   ·rw [if_neg h1,if_neg (show ¬ i ∈ t :: tg by simp [h1,h2]),if_neg (show ¬ (i = t /\ t < η.length) from fun h=>h2 h.1)]
def Nn (η η':Env):Prop:=∀ i,rd η i = none -> rd η' i = none
theorem Nn.refl (η:Env):Nn η η:=fun _ h=>h
theorem Nn.trans {a b c:Env} (h:Nn a b) (k:Nn b c):Nn a c:=fun i e=>k i (h i e)
theorem kJ (η:Env) (j:Nat):Nn η (del η j):=fun i e=>by
 rw [bw]; split
 ·rfl
 ·exact e
theorem oa {η:Env} {j:Nat} {w:W} (h:rd η j ≠ none):Nn η (put η j w):=fun i e=>by
 rw [bw]; split
 ·rename_i hc; rw [<- hc.1] at h; exact absurd e h
 ·exact e
theorem eY:∀ {is:List Nat} {ws:List W} {η0 η:Env},(∀ i ∈ is,rd η0 i ≠ none) -> Nn η0 η -> Nn η0 (putAll is ws η)
 | [],_,_,_,_,h=>h
 | _ :: _,[],_,_,_,h=>h
 | i :: is,w :: ws,η0,η,hi,h=>by
  show Nn η0 (putAll is ws (put η i w))
  refine eY (fun j hj=>hi j (List.mem_cons_of_mem _ hj)) fun j e=>?_
  rw [bw]; split
  ·rename_i hc; rw [hc.1] at e; exact absurd e (hi i List.mem_cons_self)
  ·exact h j e
theorem fP {f:Env -> Res (Option W × Env)} (hf:∀ {η o η'},f η = .ok (o,η') -> Nn η η'):∀ {ts:List (List W)} {η η':Env} {acc ws:List W},(∀ i ∈ tg,rd η i = none) -> aD tg f ts η acc = .ok (ws,η') -> Nn η η'
 | [],η,η',acc,ws,_,h=>by cases h; exact Nn.refl _
 | t :: ts,η,η',acc,ws,ht,h=>by
  obtain ⟨η1,h1,h2⟩:=aa (show (ofO (aJ tg t η)).bind (fun η1=>(f η1).bind fun p=>aD tg f ts (ak tg p.2) (acc ++ p.1.toList)) = _ from h)
  obtain ⟨⟨o,η2⟩,h3,h4⟩:=aa h2
  have hb:∀ {tg:List Nat} {t:List W} {η η1:Env},aJ tg t η = some η1 -> ∀ i,i ∉ tg -> rd η1 i = rd η i:=fun {tg}=>by
   induction tg with
   | nil=>intro t η η1 h i hi; cases t with
    | nil=>cases h; rfl
    | cons _ _=>cases h
   | cons j tg ih=>intro t η η1 h i hi; cases t with
    | nil=>cases h
    | cons w t =>
     have:=ih (show aJ tg t (put η j w) = some η1 from h) i (fun z=>hi (List.mem_cons_of_mem _ z))
     rw [this,bw,if_neg fun z=>hi (by rw [z.1]; exact List.mem_cons_self)]
  have e1:=hb (cf h1)
  have hd:∀ i,rd η i = none -> rd (ak tg η2) i = none:=fun i e=>by
   rw [aI]
   split
   ·rfl
   ·rename_i hi
    exact hf h3 i (by rw [e1 i hi]; exact e)
  exact Nn.trans (b:=ak tg η2) hd (fP hf (fun i hi=>by rw [aI,if_pos hi]) h4)
def gc (sf sg:Nat -> Option Nat) (tg:List Nat) (is:List Nat):Prop :=
 ∀ i j,sg i = some j -> (∃ k:Nat,tg[k]? = some i /\ j = k) \/ (i ∉ tg /\ ∃ (k j0:Nat),j = tg.length + k /\ is[k]? = some j0 /\ sf i = some j0)
theorem At.pin (A:At K ⟨sf,pv⟩ σ Z H Fs η G):∃ val,(∀ i u,pv i = some u -> val i = some u) /\ At K ⟨sf,val⟩ σ Z H Fs η G /\ ∀ i m t,rd η i = some (m,t) -> val i ≠ none:=by
 have ch:∀ i,∃ o:Option V,(∀ u,pv i = some u -> o = some u) /\ (∀ u j,o = some u -> sf i = some j -> σ[j]? = some (some u)) /\ ∀ m t,rd η i = some (m,t) -> ∃ v,o = some v /\ Rep K Z H m t v (Fs i) /\ (∀ j,sf i = some j -> σ[j]? = some (some v)):=fun i=>by
  cases e:rd η i with
  | none=>exact ⟨pv i,fun _ h=>h,fun u j h hs=>A.lk i u j h hs,fun _ _ h=>by cases h⟩
  | some w =>
   obtain ⟨m,t⟩:=w
   obtain ⟨v,r,h1,h2⟩:=A.env i m t e
   refine ⟨some v,fun u h=>by rw [h2 u h],fun u j h hs=>?_,fun m' t' h=>by cases h; exact ⟨v,rfl,r,h1⟩⟩
   cases h
   exact h1 j hs
 obtain ⟨val,hval⟩:=Classical.axiomOfChoice ch
 refine ⟨val,fun i u h=>(hval i).1 u h,⟨A.gd,fun i m t e=>?_,A.own,A.dis,fun i u j h hs=>(hval i).2.1 u j h hs,A.ln⟩,fun i m t e=>?_⟩
 ·obtain ⟨v,h1,r,h2⟩:=(hval i).2.2 m t e
  exact ⟨v,r,h2,fun u hu=>by rw [show val i = some u from hu] at h1; cases h1; rfl⟩
 ·obtain ⟨v,h1,r,h2⟩:=(hval i).2.2 m t e
  rw [h1]; simp
theorem At.unpin (h:∀ i u,pv i = some u -> val i = some u) (A:At K ⟨sf,val⟩ σ Z H Fs η G):At K ⟨sf,pv⟩ σ Z H Fs η G :=
 ⟨A.gd,fun i m t e=>let ⟨v,r,h1,h2⟩:=A.env i m t e; ⟨v,r,h1,fun u hu=>h2 u (h i u hu)⟩,A.own,A.dis,fun i u j hu hs=>A.lk i u j (h i u hu) hs,A.ln⟩
def inV (val:Nat -> Option V) (tg:List Nat):Nat -> Option V:=fun i=>if i ∈ tg then none else val i
theorem At.into (I:gc sf sg tg is) (ht:∀ i ∈ tg,rd η i = none) (hσ:∀ (k j0:Nat) (v:V),is[k]? = some j0 -> σ[j0]? = some (some v) -> σ2[tg.length + k]? = some (some v)) (hl:∀ i j,sg i = some j -> j < σ2.length) (A:At K ⟨sf,val⟩ σ Z H Fs η G):At K ⟨sg,inV val tg⟩ σ2 Z H Fs η G:=by
 refine ⟨A.gd,fun i m t e=>?_,A.own,A.dis,fun i u j hu hs=>?_,hl⟩
 ·have hi:i ∉ tg:=fun h=>by rw [ht i h] at e; cases e
  obtain ⟨v,r,h1,h2⟩:=A.env i m t e
  refine ⟨v,r,fun j hj=>?_,fun u hu=>h2 u (by have h3:inV val tg i = some u:=hu; unfold inV at h3; rw [if_neg hi] at h3; exact h3)⟩
  rcases I i j hj with ⟨k,hk,_⟩ | ⟨_,k,j0,rfl,hk,hs⟩
  ·exact absurd (List.mem_of_getElem? hk) hi
  ·exact hσ k j0 v hk (h1 j0 hs)
 ·have hi:i ∉ tg:=fun h=>by
   have hu':inV val tg i = some u:=hu
   unfold inV at hu'; rw [if_pos h] at hu'; cases hu'
  have hu':val i = some u:=by have h3:inV val tg i = some u:=hu; unfold inV at h3; rw [if_neg hi] at h3; exact h3
  rcases I i j hs with ⟨k,hk,_⟩ | ⟨_,k,j0,rfl,hk,hs⟩
  ·exact absurd (List.mem_of_getElem? hk) hi
  ·exact hσ k j0 u hk (A.lk i u j0 hu' hs)
theorem At.outof (ht:∀ i ∈ tg,rd η i = none) (hv:∀ i m t,rd η i = some (m,t) -> val i ≠ none) (lk:∀ i u j,val i = some u -> sf i = some j -> σ[j]? = some (some u)) (ln:∀ i j,sf i = some j -> j < σ.length) (A:At K ⟨sg,inV val tg⟩ σ2 Z H Fs η G):At K ⟨sf,val⟩ σ Z H Fs η G:=by
 refine ⟨A.gd,fun i m t e=>?_,A.own,A.dis,lk,ln⟩
 have hi:i ∉ tg:=fun h=>by rw [ht i h] at e; cases e
 obtain ⟨v,r,h1,h2⟩:=A.env i m t e
 cases hu:val i with
 | none=>exact absurd hu (hv i m t e)
 | some u =>
  have:v = u:=h2 u (by show inV val tg i = some u; unfold inV; rw [if_neg hi]; exact hu)
  subst this
  exact ⟨v,r,fun j hj=>lk i v j hu hj,fun u' hu'=>by rw [show val i = some u' from hu'] at hu; cases hu; rfl⟩
end
section
variable {C:Call}
def CI:List Nat -> Env -> Prop:=fun tg η=>∀ i ∈ tg,rd η i = none
theorem gp:∀ (vs:List Nat) (η:Env),Nn η (M.share vs η)
 | [],η=>fun _ e=>e
 | v :: vs,η=>Nn.trans (b:=wr η v (toS (rd η v))) (fun i e=>by
   rw [bw]; split
   ·rename_i hc; rw [<- hc.1,e]; rfl
   ·exact e) (gp vs _)
theorem qN (m:Md) (vs:List Nat) (η:Env):Nn η (after m vs η):=by
 cases m with
 | d=>exact fun _ e=>e
 | s=>exact gp vs η
 | o _=>exact gp vs η
theorem jA {α:Type} {tab:List (Str × α)} {f:α -> Env -> RE} {p:W × Env} {r:W × Env} (h:mG tab f p = .ok r):∃ x a,p.1.2 = .str x /\ tab.lookup x = some a /\ f a p.2 = .ok r:=by
 unfold mG at h
 split at h
 ·rename_i x hx
  split at h
  ·rename_i a ha; exact ⟨x,a,hx,ha,h⟩
  ·cases h
 ·cases h
theorem sF {neg:Bool} {ks:List Str} {p r:W × Env} (h:kIn neg ks p = .ok r):∃ x,p.1.2 = .str x /\ r.2 = p.2 /\ r.1 = (.d,.bl (ks.contains x != neg)):=by
 unfold kIn at h
 split at h
 ·rename_i x hx; cases h; exact ⟨x,hx,rfl,rfl⟩
 ·cases h
theorem oh {tab:List (Str × T)} {p r:W × Env} (h:uB tab p = .ok r):∃ x,p.1.2 = .str x /\ r.2 = p.2 /\ r.1 = (.s,(tab.lookup x).getD .non):=by
 unfold uB at h
 split at h
 ·rename_i x hx; cases h; exact ⟨x,hx,rfl,rfl⟩
 ·cases h
mutual
theorem ay:∀ (e:E) {η η':Env} {w:W},evE C e η = .ok (w,η') -> Nn η η'
 | .var i,η,η',w,h=>by obtain ⟨_,_,e⟩:=av (show ret η ((rd η i).bind look) = _ from h); cases e; exact Nn.refl _
 | .mv i,η,η',w,h=>by obtain ⟨_,_,e⟩:=av (show ret (del η i) (rd η i) = _ from h); cases e; exact kJ _ _
 | .io i,η,η',w,h=>by obtain ⟨_,_,e⟩:=av (show ret (del η i) (rd η i) = _ from h); cases e; exact kJ _ _
 | .cst t,η,η',w,h=>by cases h; exact Nn.refl _
 | .glb _ t,η,η',w,h=>by cases h; exact Nn.refl _
 | .tup es,η,η',w,h=>by
  obtain ⟨⟨ws,η1⟩,h1,h2⟩:=aa (show (evL C es η).bind kTup = _ from h)
  cases h2; exact ej es h1
 | .lst b es,η,η',w,h=>by
  obtain ⟨⟨ws,η1⟩,h1,h2⟩:=aa (show (evL C es η).bind (qw b) = _ from h)
  cases h2; exact ej es h1
 | .wk m e,η,η',w,h=>by
  obtain ⟨⟨u,η1⟩,h1,h2⟩:=aa (show (evE C e η).bind (kWk m) = _ from h)
  obtain ⟨_,_,e3⟩:=av (show ret η1 _ = _ from h2)
  cases e3; exact ay e h1
 | .op o b es,η,η',w,h=>by
  obtain ⟨ws,h1,h2⟩:=dy h
  exact ej es h1
 | .and a b,η,η',w,h=>by
  obtain ⟨⟨u,η1⟩,h1,h2⟩:=aa (show (evE C a η).bind (mM (evE C b)) = _ from h)
  obtain ⟨d,h3,h4⟩:=bo (show onT (evE C b) (okW u) (u,η1) = _ from h2)
  cases d with
  | true=>rw [if_pos rfl] at h4; exact (ay a h1).trans (ay b h4)
  | false=>rw [if_neg Bool.false_ne_true] at h4; cases h4; exact ay a h1
 | .or a b,η,η',w,h=>by
  obtain ⟨⟨u,η1⟩,h1,h2⟩:=aa (show (evE C a η).bind (kOr (evE C b)) = _ from h)
  obtain ⟨d,h3,h4⟩:=bo (show onT (okW u) (evE C b) (u,η1) = _ from h2)
  cases d with
  | false=>rw [if_neg Bool.false_ne_true] at h4; exact (ay a h1).trans (ay b h4)
  | true=>rw [if_pos rfl] at h4; cases h4; exact ay a h1
 | .not a,η,η',w,h=>by
  obtain ⟨⟨u,η1⟩,h1,h2⟩:=aa (show (evE C a η).bind qK = _ from h)
  obtain ⟨_,_,e3⟩:=av (show ret η1 _ = _ from h2)
  cases e3; exact ay a h1
 | .ifx c a b,η,η',w,h=>by
  obtain ⟨⟨u,η1⟩,h1,h2⟩:=aa (show (evE C c η).bind (onT (evE C a) (evE C b)) = _ from h)
  obtain ⟨d,h3,h4⟩:=bo h2
  cases d with
  | true=>rw [if_pos rfl] at h4; exact (ay c h1).trans (ay a h4)
  | false=>rw [if_neg Bool.false_ne_true] at h4; exact (ay c h1).trans (ay b h4)
 | .chain o q a b c,η,η',w,h=>by
  obtain ⟨⟨x,η1⟩,h1,h2⟩:=aa (show (evE C a η).bind (kC1 o q (evE C b) (evE C c)) = _ from h)
  obtain ⟨⟨y,η2⟩,h3,h4⟩:=aa (show (evE C b η1).bind (kC2 o q (evE C c) x) = _ from h2)
  obtain ⟨⟨k,η3⟩,h5,h6⟩:=aa (show (ret η2 (oSem o false [x,y])).bind (fun k=>onB k.1.2 (then' (evE C c) (kC3 q y)) (okW (.d,.bl false)) k.2) = _ from h4)
  obtain ⟨k',_,e5⟩:=av h5
  have e6:η3 = η2:=congrArg Prod.snd e5
  have n2:=(ay a h1).trans (ay b h3)
  have h6':onB k.2 (then' (evE C c) (kC3 q y)) (okW (.d,.bl false)) η2 = .ok (w,η'):=by rw [<- e6]; exact h6
  generalize k.2 = kk at h6'
  cases kk with
  | bl b =>
   cases b with
   | true =>
    obtain ⟨⟨z,η4⟩,h7,h8⟩:=aa (show (evE C c η2).bind (kC3 q y) = _ from h6')
    obtain ⟨z',_,e8⟩:=av (show ret η4 (oSem q false [y,z]) = _ from h8)
    have e9:η' = η4:=congrArg Prod.snd e8
    rw [e9]
    exact n2.trans (ay c h7)
   | false=>cases h6'; exact n2
  | _=>cases h6'
 | .call f es,η,η',w,h=>by
  obtain ⟨⟨ws,η1⟩,h1,h2⟩:=aa (show (evA C es η).bind (kCall C f (ios es)) = _ from h)
  obtain ⟨⟨u,us⟩,h3,h4⟩:=aa (show (C f ws).bind (kBack (ios es) η1) = _ from h2)
  cases h4
  exact eY (fY es h1) (dZ es h1)
 | .comp b k src tg none elt,η,η',w,h=>by
  obtain ⟨⟨ws,η1⟩,h1,h2⟩:=aa (show (evL C src η).bind (eM b k tg (bK (evE C elt))) = _ from h)
  obtain ⟨⟨ts,η2⟩,h3,h4⟩:=aa (show (ret (ak tg η1) (turns k ws)).bind (fun t=>(aD tg (bK (evE C elt)) t.1 t.2 []).bind (ji b)) = _ from h2)
  obtain ⟨_,_,e3⟩:=av h3
  have e4:η2 = ak tg η1:=congrArg Prod.snd e3
  subst e4
  obtain ⟨⟨us,η3⟩,h5,h6⟩:=aa (show (aD tg (bK (evE C elt)) ts (ak tg η1) []).bind (ji b) = _ from h4)
  obtain ⟨_,_,e6⟩:=av (show ret η3 _ = _ from h6)
  have e7:η' = η3:=congrArg Prod.snd e6
  subst e7
  refine (ej src h1).trans (Nn.trans (b:=ak tg η1) (fun i e=>by rw [aI]; split <;> first | rfl | exact e) (fP (fun {η o η'} hf=>?_) (fun i hi=>by rw [aI,if_pos hi]) h5))
  obtain ⟨⟨u,η4⟩,h7,h8⟩:=aa (show (evE C elt η).bind fm = _ from hf)
  cases h8
  exact ay elt h7
 | .comp b k src tg (some c) elt,η,η',w,h=>by
  obtain ⟨⟨ws,η1⟩,h1,h2⟩:=aa (show (evL C src η).bind (eM b k tg (dU (evE C c) (evE C elt))) = _ from h)
  obtain ⟨⟨ts,η2⟩,h3,h4⟩:=aa (show (ret (ak tg η1) (turns k ws)).bind (fun t=>(aD tg (dU (evE C c) (evE C elt)) t.1 t.2 []).bind (ji b)) = _ from h2)
  obtain ⟨_,_,e3⟩:=av h3
  have e4:η2 = ak tg η1:=congrArg Prod.snd e3
  subst e4
  obtain ⟨⟨us,η3⟩,h5,h6⟩:=aa (show (aD tg (dU (evE C c) (evE C elt)) ts (ak tg η1) []).bind (ji b) = _ from h4)
  obtain ⟨_,_,e6⟩:=av (show ret η3 _ = _ from h6)
  have e7:η' = η3:=congrArg Prod.snd e6
  subst e7
  refine (ej src h1).trans (Nn.trans (b:=ak tg η1) (fun i e=>by rw [aI]; split <;> first | rfl | exact e) (fP (fun {η o η'} hf=>?_) (fun i hi=>by rw [aI,if_pos hi]) h5))
  obtain ⟨⟨u,η4⟩,h7,h8⟩:=aa (show (evE C c η).bind (onT (bK (evE C elt)) (okW none)) = _ from hf)
  obtain ⟨d,h9,h10⟩:=bo h8
  cases d with
  | true =>
   rw [if_pos rfl] at h10
   obtain ⟨⟨u2,η5⟩,h11,h12⟩:=aa (show (evE C elt η4).bind fm = _ from h10)
   cases h12
   exact (ay c h7).trans (ay elt h11)
  | false =>
   rw [if_neg Bool.false_ne_true] at h10
   cases h10
   exact ay c h7
 | .pop i es,η,η',w,h=>by
  obtain ⟨_,_,h0⟩:=aa (show (fA (rd η i)).bind (jH (evL C es) η (nH i)) = _ from h)
  obtain ⟨⟨ws,η1⟩,h1,h2⟩:=aa (show (evL C es η).bind (nH i) = _ from h0)
  obtain ⟨r,h3,h4⟩:=aa (show (ofO ((rd η1 i).bind fun w=>iO w ws)).bind (fun r=>.ok (r.1,put η1 i r.2)) = _ from h2)
  cases h4
  refine (ej es h1).trans (oa ?_)
  have:=cf h3
  intro e; rw [e] at this; cases this
 | .lenV i,η,η',w,h=>by obtain ⟨_,_,e⟩:=av (show ret η ((rd η i).bind fun w=>oSem .len false [w]) = _ from h); cases e; exact Nn.refl _
 | .tupA es,η,η',w,h=>by
  obtain ⟨⟨ws,η1⟩,h1,h2⟩:=aa (show (evA C es η).bind kTup = _ from h)
  cases h2; exact dZ es h1
 | .qx vs ls e,η,η',w,h=>by
  obtain ⟨⟨u,η1⟩,h1,h2⟩:=aa (show (evE C e (dW vs ls η)).bind (kX vs η) = _ from h)
  cases h2
  exact qN _ vs η
 | .mvP i p,η,η',w,h=>by
  obtain ⟨r,h1,h2⟩:=aa (show (ofO ((rd η i).bind (vO p))).bind (zu i η) = _ from h)
  cases h2
  refine oa fun e=>?_
  have:=cf h1
  rw [e] at this; cases this
 | .callT tab k es,η,η',w,h=>by
  obtain ⟨⟨u,η1⟩,h1,h2⟩:=aa (show (evE C k η).bind (mG tab (kCT C (evA C es) (ios es))) = _ from h)
  obtain ⟨x,j,_,_,h3⟩:=jA h2
  obtain ⟨⟨ws,η2⟩,h4,h5⟩:=aa (show (evA C es η1).bind (kCall C j (ios es)) = _ from h3)
  obtain ⟨⟨r,bs⟩,h6,h7⟩:=aa (show (C j ws).bind (kBack (ios es) η2) = _ from h5)
  cases h7
  exact (ay k h1).trans (eY (fY es h4) (dZ es h4))
 | .inT neg ks e,η,η',w,h=>by
  obtain ⟨⟨u,η1⟩,h1,h2⟩:=aa (show (evE C e η).bind (kIn neg ks) = _ from h)
  obtain ⟨x,_,e2,_⟩:=sF h2
  cases e2; exact ay e h1
 | .ixT tab e,η,η',w,h=>by
  obtain ⟨⟨u,η1⟩,h1,h2⟩:=aa (show (evE C e η).bind (mG tab okS) = _ from h)
  obtain ⟨x,j,_,_,h3⟩:=jA h2
  cases h3; exact ay e h1
 | .getT tab e,η,η',w,h=>by
  obtain ⟨⟨u,η1⟩,h1,h2⟩:=aa (show (evE C e η).bind (uB tab) = _ from h)
  obtain ⟨x,_,e2,_⟩:=oh h2
  cases e2; exact ay e h1
theorem ej:∀ (es:List E) {η η':Env} {ws:List W},evL C es η = .ok (ws,η') -> Nn η η'
 | [],η,η',ws,h=>by cases h; exact Nn.refl _
 | e :: es,η,η',ws,h=>by
  obtain ⟨w,η1,us,h1,h2,_⟩:=aC h
  exact (ay e h1).trans (ej es h2)
theorem dZ:∀ (es:List E) {η η':Env} {ws:List W},evA C es η = .ok (ws,η') -> Nn η η'
 | [],η,η',ws,h=>by cases h; exact Nn.refl _
 | e :: es,η,η',ws,h=>by
  rcases uc e with ⟨i,hi⟩ | he
  ·subst hi
   obtain ⟨us,η1,w,h1,_,_,h4⟩:=eE h
   rw [h4]
   exact (dZ es h1).trans (kJ _ _)
  ·obtain ⟨w,η1,us,h1,h2,_⟩:=cF he h
   exact (ay e h1).trans (dZ es h2)
theorem fY:∀ (es:List E) {η η':Env} {ws:List W},evA C es η = .ok (ws,η') -> ∀ i ∈ ios es,rd η i ≠ none
 | [],_,_,_,_,i,hi=>by simp [ios] at hi
 | e :: es,η,η',ws,h,i,hi=>by
  rcases uc e with ⟨j,hj⟩ | he
  ·subst hj
   obtain ⟨us,η1,w,h1,h2,_,_⟩:=eE h
   rcases List.mem_cons.mp (show i ∈ j :: ios es from hi) with z | z
   ·subst z
    exact fun z=>by rw [dZ es h1 i z] at h2; cases h2
   ·exact fY es h1 i z
  ·obtain ⟨w,η1,us,h1,h2,_⟩:=cF he h
   have hi':i ∈ ios es:=by
    cases e with
    | io j=>exact absurd rfl (he j)
    | _=>exact hi
   exact fun z=>fY es h2 i hi' (ay e h1 i z)
end
end
section
variable {K:PySem.W.Frag} {sl:Cf} {sf sg:Nat -> Option Nat} {C:Call} {σ σ2:L2.St} {Z Z' Z1:Fp} {H H' H1:Hp} {Fs Fs' Fs1:Fps} {η η' η1 ηb:Env} {G G' R F:Fp} {tg is:List Nat} {pv val:Nat -> Option V}
def gT (K:PySem.W.Frag):Nat -> TG
 | 1=>bM 0
 | 2=>pA K 2 (dY (bM 0) (dY (bM 1) pR))
 | _=>fun _ _ _ _=>False
theorem At.put1 {i:Nat} {w:W} {x:V} (A:At K sl σ Z H Fs η G) (r:Rep K Z H w.1 w.2 x (Fs i)) (hl:∀ j,sl.sl i = some j -> σ[j]? = some (some x)) (hp:sl.pv i = none):At K sl σ Z H Fs (put η i w) G:=by
 refine ⟨A.gd,fun j m t e=>?_,A.own,A.dis,A.lk,A.ln⟩
 rw [bw] at e
 split at e
 ·rename_i hc
  cases e
  obtain ⟨rfl,_⟩:=hc
  exact ⟨x,r,hl,fun u hu=>by rw [hp] at hu; cases hu⟩
 ·exact A.env j m t e
theorem jk {k j0:Nat} {v:V} (h1:is[k]? = some j0) (h2:σ[j0]? = some (some v)):(br σ is)[k]? = some (some v):=by
 unfold br
 rw [List.getElem?_map,h1]
 show some ((σ[j0]?).join) = _
 rw [h2]
 rfl
theorem g9 (I:gc sf sg tg is) (h:σ2.length = tg.length + is.length):∀ i j,sg i = some j -> j < σ2.length:=fun i j hj=>by
 rcases I i j hj with ⟨k,hk,rfl⟩ | ⟨_,k,j0,rfl,hk,_⟩
 ·have:=(List.getElem?_eq_some_iff.mp hk).1
  omega
 ·have:=(List.getElem?_eq_some_iff.mp hk).1
  omega
theorem nF {n i:Nat} {J:It} {ts:List (List W)} {ws:List W} {x:V} {Q:L2.St -> Hp -> Prop} (hn:tg.length = n) (nd:tg.Nodup) (I:gc sf sg tg is) (hz:∀ a,Z1 a -> Z a) (st:Stay Z1 H1 H) (yl:Yld K J Z1 H1 ts n) (A:At K ⟨sf,val⟩ σ Z H Fs η G)
  (ht:∀ i ∈ tg,rd η i = none) (hw:ts[i]? = some ws) (hb:aJ tg ws η = some ηb) (y:J.yld i H x H')
  (k:∀ σ2 H2,At K ⟨sg,inV val tg⟩ σ2 Z H2 Fs ηb G -> Step Z H no Z H2 no -> (σ2.length = n + (br σ is).length /\ σ2.drop n = br σ is) -> Q σ2 H2):gT K n x (List.replicate n none ++ br σ is) H' Q:=by
 have hi:i < ts.length:=(List.getElem?_eq_some_iff.mp hw).1
 have own0:∀ {t:Nat},t ∈ tg -> inV val tg t = none:=fun {t} h=>if_pos h
 match n,yl with
 | 1,yl =>
  obtain ⟨e0,w,hw',r⟩:=yl H i x H' st hi y
  rw [e0]
  rw [hw] at hw'; cases hw'
  match tg,hn with
  | [t],_ =>
   cases hb
   have r':Rep K Z H w.1 w.2 x (Fs t):=(r.zmono hz).mono fun _ z=>z.elim
   refine k _ H ?_ (Step.refl _ _ _) ⟨by simp [Nat.add_comm],rfl⟩
   refine (A.into (σ2:=some x :: br σ is) I ht (fun k j0 v h1 h2=>?_) (g9 I (by simp [br,Nat.add_comm]))).put1 r' (fun j hj=>?_) (own0 (by simp))
   ·rw [List.length_singleton,Nat.add_comm,List.getElem?_cons_succ]; exact jk h1 h2
   ·rcases I t j hj with ⟨k,hk,rfl⟩ | ⟨h,_⟩
    ·cases j with
     | zero=>rfl
     | succ _=>simp at hk
    ·exact absurd (List.mem_singleton.mpr rfl) h
 | 2,yl =>
  obtain ⟨p,y1,z1,u,w,rfl,sm,hq,hw',r1,r2⟩:=yl H i x H' st hi y
  rw [hw] at hw'; cases hw'
  match tg,hn with
  | [t,t'],_ =>
   cases hb
   have hne:t ≠ t':=fun z=>by simp [z] at nd
   have s1:Step Z H G Z H' G:=gk sm
   have o1:Own Z H' G:=fun a ha=>by
    obtain ⟨nz,ys,e⟩:=A.own a ha
    exact ⟨nz,ys,sm _ _ e⟩
   obtain ⟨A1,_⟩:=A.op o1 s1
   have sn:Stay Z H H':=jG sm
   have r1':Rep K Z H' u.1 u.2 y1 (Fs t):=((r1.zmono hz).keep sn (fun _ z=>z) fun _ _ z=>z.elim).mono fun _ z=>z.elim
   have r2':Rep K Z H' w.1 w.2 z1 (Fs t'):=((r2.zmono hz).keep sn (fun _ z=>z) fun _ _ z=>z.elim).mono fun _ z=>z.elim
   have s0:Step Z H no Z H' no:=gk sm
   refine ⟨p,[y1,z1],rfl,hq,rfl,y1,[z1],rfl,z1,[],rfl,rfl,k (some y1 :: some z1 :: br σ is) _ ?_ s0 ⟨by simp; omega,rfl⟩⟩
   refine ((A1.into (σ2:=some y1 :: some z1 :: br σ is) I ht (fun k j0 v h1 h2=>?_) (g9 I (by simp [br]; omega))).put1 r1' (fun j hj=>?_) (own0 (by simp))).put1 r2' (fun j hj=>?_) (own0 (by simp))
   ·rw [show [t,t'].length + k = k + 1 + 1 by simp; omega,List.getElem?_cons_succ,List.getElem?_cons_succ]; exact jk h1 h2
   ·rcases I t j hj with ⟨k,hk,rfl⟩ | ⟨h,_⟩
    ·match j,hk with
     | 0,_=>rfl
     | 1,hk=>exact absurd (Option.some.inj hk).symm hne
    ·exact absurd (by simp) h
   ·rcases I t' j hj with ⟨k,hk,rfl⟩ | ⟨h,_⟩
    ·match j,hk with
     | 0,hk=>exact absurd (Option.some.inj hk) hne
     | 1,_=>rfl
    ·exact absurd (by simp) h
def fB (Fs:Fps) (tg:List Nat):Fps:=fun j a=>j ∉ tg /\ Fs j a
theorem cx {a:Addr} (h:tot (fB Fs tg) a):tot Fs a:=let ⟨j,_,h2⟩:=h; ⟨j,h2⟩
theorem At.dels (A:At K sl σ Z H Fs η G):At K sl σ Z H (fB Fs tg) (ak tg η) G:=by
 refine ⟨⟨fun a h=>A.gd.own a (cx h),fun i j a h1 h2=>A.gd.dis i j a h1.2 h2.2,A.gd.zal⟩,fun i m t e=>?_,A.own,fun a h q=>A.dis a h (cx q),A.lk,A.ln⟩
 rw [aI] at e
 split at e
 ·cases e
 ·rename_i hi
  obtain ⟨v,r,h⟩:=A.env i m t e
  exact ⟨v,r.mono fun a ha=>⟨hi,ha⟩,h⟩
theorem gg:∀ {tg:List Nat} {t:List W} {η η1:Env},aJ tg t η = some η1 -> ∀ i,i ∉ tg -> rd η1 i = rd η i
 | [],[],η,η1,h,i,_=>by cases h; rfl
 | [],_ :: _,_,_,h,_,_=>by cases h
 | _ :: _,[],_,_,h,_,_=>by cases h
 | j :: tg,w :: t,η,η1,h,i,hi=>by
  rw [gg (show aJ tg t (put η j w) = some η1 from h) i fun z=>hi (List.mem_cons_of_mem _ z),bw,if_neg fun z=>hi (by rw [z.1]; exact List.mem_cons_self)]
structure CSt (K:PySem.W.Frag) (sf:Nat -> Option Nat) (val:Nat -> Option V) (σ:L2.St) (tg:List Nat) (f:Env -> Res (Option W × Env)) (ts:List (List W)) (η0:Env) (us:List W) (η3:Env) (Z1:Fp) (H1:Hp) (F1:Fp) (i:Nat) (ys:List V) (H:Hp):Prop where
 ex:∃ (Z:Fp) (Fs:Fps) (η:Env) (acc:List W) (G:Fp),At K ⟨sf,val⟩ σ Z H Fs η G /\ RepW K Z H acc ys G /\ aD tg f (ts.drop i) η acc = .ok (us,η3) /\ (∀ j ∈ tg,rd η j = none) /\ (∀ j ∈ tg,∀ a,¬ Fs j a) /\ Nn η0 η /\ Step Z1 H1 F1 Z H (fun a=>tot Fs a \/ G a)
 len:ys.length <= i
theorem n6 {h:Bool} {us:List W} {ys:List V} {w:W} {Q:VK} (o:Own Z H G) (za:∀ a,Z a -> H a ≠ none) (r:RepW K Z H us ys G) (hl:ys.length <= LIM) (hn:(if h then (if us.all okD then some ((.d,.lst (aK us)):W) else none) else some (.o .s,.lst (aK us))) = some w) (k:Out K Z H G w Q):∀ p,H p = none -> Q (.ref p) (upd H p (.lst ys)):=by
 intro p hp
 cases h with
 | true =>
  rw [if_pos rfl] at hn
  split at hn
  ·rename_i ha
   cases hn
   rw [List.all_eq_true] at ha
   obtain ⟨G',g1,g2⟩:=RepW.to (N:=.d) (fun u hu=>by
    have:=ha u hu
    unfold okD at this
    rw [Bool.or_eq_true] at this
    unfold M.lf
    split
    ·rfl
    ·rename_i hnl
     rcases this with z | z
     ·rw [eq_of_beq z]; rfl
     ·exact absurd z hnl) r
   exact bQ (m:=.d) o za g1 hl g2 (by simp) k hp
  ·cases hn
 | false =>
  rw [if_neg Bool.false_ne_true] at hn
  cases hn
  obtain ⟨G',g1,g2⟩:=RepW.to (N:=.s) (fun u hu=>by cases M.lf u.1 u.2 <;> rfl) r
  exact bQ (m:=.o .s) o za g1 hl g2 (by simp) k hp
end
end MR
namespace MR
open L2 L3 M
open PySem (Addr Str sizeLine)
section
variable {K:PySem.W.Frag} {sf sg:Nat -> Option Nat} {C:Call} {tg is:List Nat}
theorem il {α:Type} {l:List α} {i:Nat} {a:α} (h:l[i]? = some a):l.drop i = a :: l.drop (i + 1):=by
 obtain ⟨h1,h2⟩:=List.getElem?_eq_some_iff.mp h
 rw [List.drop_eq_getElem_cons h1,h2]
theorem jY {h:Bool} {k:Ik} {f:Env -> Res (Option W × Env)} {p:List W × Env} {w:W} {η':Env} (e:eM h k tg f p = .ok (w,η')):∃ ts us,turns k p.1 = some ts /\ aD tg f ts (ak tg p.2) [] = .ok (us,η') /\ (if h then (if us.all okD then some ((.d,.lst (aK us)):W) else none) else some (.o .s,.lst (aK us))) = some w:=by
 obtain ⟨⟨ts,η2⟩,h3,h4⟩:=aa (show (ret (ak tg p.2) (turns k p.1)).bind (fun t=>(aD tg f t.1 t.2 []).bind (ji h)) = _ from e)
 obtain ⟨ts',ht,e3⟩:=av h3
 have e4:ts = ts':=congrArg Prod.fst e3
 have e5:η2 = ak tg p.2:=congrArg Prod.snd e3
 subst e4 e5
 obtain ⟨⟨us,η3⟩,h5,h6⟩:=aa (show (aD tg f ts (ak tg p.2) []).bind (ji h) = _ from h4)
 obtain ⟨w',hw,e6⟩:=av (show ret η3 (if h then (if us.all okD then some ((.d,.lst (aK us)):W) else none) else some (.o .s,.lst (aK us))) = _ from h6)
 have e7:w = w':=congrArg Prod.fst e6
 have e8:η' = η3:=congrArg Prod.snd e6
 subst e7 e8
 exact ⟨ts,us,ht,h5,hw⟩
theorem kl {f:Env -> Res (Option W × Env)} {t:List W} {ts:List (List W)} {η η3:Env} {acc us:List W} (e:aD tg f (t :: ts) η acc = .ok (us,η3)):∃ ηb o ηc,aJ tg t η = some ηb /\ f ηb = .ok (o,ηc) /\ aD tg f ts (ak tg ηc) (acc ++ o.toList) = .ok (us,η3):=by
 obtain ⟨η1,h1,h2⟩:=aa (show (ofO (aJ tg t η)).bind (fun η1=>(f η1).bind fun p=>aD tg f ts (ak tg p.2) (acc ++ p.1.toList)) = _ from e)
 obtain ⟨⟨o,η2⟩,h3,h4⟩:=aa h2
 exact ⟨η1,o,η2,cf h1,h3,h4⟩
theorem hX {n:Nat} {h:Bool} {k:Ik} {src:List E} {f:Env -> Res (Option W × Env)} {te:L2.St -> Hp -> (Option V -> Hp -> Prop) -> Prop} (hn:tg.length = n) (nd:tg.Nodup) (I:gc sf sg tg is)
  (hf:∀ {η o η'},f η = .ok (o,η') -> Nn η η')
  (hte:∀ {val:Nat -> Option V} {σ2:L2.St} {Z:Fp} {H:Hp} {Fs:Fps} {η ηc:Env} {R:Fp} {o:Option W} {Q:Option V -> Hp -> Prop},At K ⟨sg,val⟩ σ2 Z H Fs η R -> f η = .ok (o,ηc) ->
   (∀ oy Z' H' Fs' G,At K ⟨sg,val⟩ σ2 Z' H' Fs' ηc (fun c=>R c \/ G c) -> (match o,oy with | some w,some y=>Rep K Z' H' w.1 w.2 y G | none,none=>True | _,_=>False) -> (∀ c,R c -> ¬ G c) -> Step Z H (tot Fs) Z' H' (fun a=>tot Fs' a \/ G a) -> Q oy H') -> te σ2 H Q)
  {e:E} (he:∀ η,evE C e η = (evL C src η).bind (eM h k tg f)) (σ:L2.St) (H:Hp) (Q:VK) (hw:wE K sf C e σ H Q) :
  wI K sf C n k src σ H fun J H1=>∃ W:Nat -> Nat -> List V -> Hp -> Prop,(∃ m,W 0 m [] H1) /\ ∀ i m ys H,W i m ys H ->
   (J.stop i H /\ ys.length <= sizeLine /\ ∀ p,H p = none -> Q (.ref p) (upd H p (.lst ys))) \/
   (J.go i H /\ ys.length < sizeLine /\ ∀ x H',J.yld i H x H' -> gT K n x (List.replicate n none ++ br σ is) H' fun σ2 H2=>(σ2.length = n + (br σ is).length /\ σ2.drop n = br σ is) /\ te σ2 H2 fun oy H3=>∃ m',m' < m /\ W (i + 1) m' (ys ++ oy.toList) H3):=by
 obtain ⟨pv,Z,Fs,η,w,η',A,ev,kk⟩:=hw
 rw [he] at ev
 obtain ⟨⟨ws,η1⟩,h1,h2⟩:=aa ev
 obtain ⟨ts,us,ht,h3,h4⟩:=jY h2
 refine ⟨pv,Z,Fs,η,ws,η1,ts,A,h1,ht,fun J Z1 H1 Fs1 A1 s1 wk yl=>?_⟩
 obtain ⟨val,v1,A2,v2⟩:=(A1.dels (tg:=tg)).pin
 have s1':Step Z H (tot Fs) Z1 H1 (tot (fB Fs1 tg)):=s1.mono (fun _ z=>z) fun _ z=>cx z
 refine ⟨fun i m ys H=>m = ts.length - i /\ i <= ts.length /\ CSt K sf val σ tg f ts (ak tg η1) us η' Z1 H1 (tot (fB Fs1 tg)) i ys H,⟨ts.length,by simp,Nat.zero_le _,⟨⟨Z1,fB Fs1 tg,ak tg η1,[],no,A2,rfl,h3,fun j hj=>by rw [aI,if_pos hj],fun j hj a ha=>ha.1 hj,Nn.refl _,(Step.refl _ _ _).mono (fun _ z=>z) fun a ha=>ha.elim id fun z=>z.elim⟩,Nat.le_refl _⟩⟩,?_⟩
 rintro i m ys H0 ⟨rfl,hi,⟨⟨Zi,Fsi,ηi,acc,Ga,Ai,ra,hc,htg,hfp,hnn,si⟩,hlen⟩⟩
 have st:Stay Z1 H1 H0:=A2.gd.own.stay si
 have hL:=wk.len
 by_cases hlt:i < ts.length
 ·right
  refine ⟨wk.go H0 i st hlt,Nat.lt_of_le_of_lt (Nat.le_trans hlen hi) (lx hL),fun x H2 y=>?_⟩
  have hw:ts[i]? = some ts[i]:=by simp [hlt]
  rw [il hw] at hc
  obtain ⟨ηb,o,ηc,hb,hfe,hc2⟩:=kl hc
  refine nF hn nd I si.zm st yl Ai htg hw hb y fun σ2 H3 A3 s3 hσ=>⟨hσ,?_⟩
  refine hte A3 hfe fun oy Z4 H4 Fs4 G4 A4 r4 d4 s4=>⟨ts.length - (i + 1),by omega,rfl,hlt,⟨?_,?_⟩⟩
  ·have ra3:RepW K Zi H3 acc ys Ga:=ra.frame cj s3 fun _ _ z=>z
   have ra4:RepW K Z4 H4 acc ys Ga:=ra3.frame A3.gd.own s4 A3.dis
   have vv:∀ j m t,rd (ak tg ηc) j = some (m,t) -> val j ≠ none:=fun j m t e=>by
    rw [aI] at e
    split at e
    ·cases e
    ·rename_i hj
     have n1:rd ηb j ≠ none:=fun z=>by rw [hf hfe j z] at e; cases e
     rw [gg hb j hj] at n1
     have n2:rd (ak tg η1) j ≠ none:=fun z=>n1 (hnn j z)
     cases e2:rd (ak tg η1) j with
     | none=>exact absurd e2 n2
     | some u=>exact v2 j u.1 u.2 e2
   have A5:=(A4.dels (tg:=tg)).outof (sf:=sf) (σ:=σ) (val:=val) (fun j hj=>by rw [aI,if_pos hj]) vv Ai.lk Ai.ln
   have s5:Step Z1 H1 (tot (fB Fs1 tg)) Z4 H4 (fun a=>tot (fB Fs4 tg) a \/ (Ga a \/ G4 a)):=by
    refine (si.trans (((s3.frame (fun a=>tot Fsi a \/ Ga a)).mono (fun a ha=>ha.elim (fun z=>z.elim) id) fun a ha=>.inr ha).trans (s4.frame Ga))).mono (fun _ z=>z) fun a ha=>?_
    rcases ha with z | z | z
    ·exact .inl (.inl (cx z))
    ·exact .inr z
    ·exact .inl (.inr z)
   refine ⟨Z4,fB Fs4 tg,ak tg ηc,acc ++ o.toList,fun c=>Ga c \/ G4 c,A5,?_,hc2,fun j hj=>by rw [aI,if_pos hj],fun j hj a ha=>ha.1 hj,fun j e=>?_,s5⟩
   ·cases o with
    | none =>
     cases oy with
     | none=>rw [Option.toList_none,Option.toList_none,List.append_nil,List.append_nil]; exact ra4.mono fun _ z=>.inl z
     | some _=>exact r4.elim
    | some w4 =>
     cases oy with
     | none=>exact r4.elim
     | some y4=>exact RepW.append (fun _ z=>.inl z) (fun _ z=>.inr z) d4 ra4 (RepW.one r4)
   ·have e':=hnn j e
    rw [aI]
    split
    ·rfl
    ·rename_i hj
     exact hf hfe j (by rw [gg hb j hj]; exact e')
  ·have:ys.length <= i:=hlen
   cases oy <;> simp <;> omega
 ·left
  have hi':i = ts.length:=by omega
  subst hi'
  rw [List.drop_length] at hc
  cases hc
  refine ⟨wk.stop H0 _ st (Nat.le_refl _),bx (Nat.le_trans hlen hL),n6 Ai.own Ai.gd.zal ra (Nat.le_trans hlen hL) h4 (b7 (Ai.unpin v1) (s1'.trans si) kk)⟩
theorem gy {n:Nat} {h:Bool} {k:Ik} {src:List E} {elt:E} (hn:tg.length = n) (nd:tg.Nodup) (I:gc sf sg tg is) (σ:L2.St) (H:Hp) (Q:VK) (hw:wE K sf C (.comp h k src tg none elt) σ H Q):iS n (wI K sf C n k src) is (gT K n) (wE K sg C elt) σ H Q:=by
 refine hX (te:=fun σ2 H Q=>wE K sg C elt σ2 H fun y H'=>Q (some y) H') hn nd I (fun {η o η'} hf=>?_) (fun {val σ2 Z H Fs η ηc R o Q} A hf k=>?_) (fun η=>rfl) σ H Q hw
 ·obtain ⟨⟨u,η4⟩,h7,h8⟩:=aa (show (evE C elt η).bind fm = _ from hf)
  cases h8
  exact ay elt h7
 ·obtain ⟨⟨u,η4⟩,h7,h8⟩:=aa (show (evE C elt η).bind fm = _ from hf)
  cases h8
  exact gD A h7 fun v Z' H' Fs' G B r d s _=>k (some v) Z' H' Fs' G B r d s
theorem fQ {n:Nat} {h:Bool} {k:Ik} {src:List E} {elt cnd:E} (hn:tg.length = n) (nd:tg.Nodup) (I:gc sf sg tg is) (σ:L2.St) (H:Hp) (Q:VK) (hw:wE K sf C (.comp h k src tg (some cnd) elt) σ H Q):eh n (wI K sf C n k src) is (gT K n) (wT K sg C cnd) (wE K sg C elt) σ H Q:=by
 have main:=hX (te:=fun σ2 H Q=>wT K sg C cnd σ2 H fun ok H2=>if ok = true then wE K sg C elt σ2 H2 fun y H'=>Q (some y) H' else Q none H2) hn nd I (f:=dU (evE C cnd) (evE C elt)) (fun {η o η'} hf=>by
  obtain ⟨⟨u,η4⟩,h7,h8⟩:=aa (show (evE C cnd η).bind (onT (bK (evE C elt)) (okW none)) = _ from hf)
  obtain ⟨d,h9,h10⟩:=bo h8
  cases d with
  | true =>
   rw [if_pos rfl] at h10
   obtain ⟨⟨u2,η5⟩,h11,h12⟩:=aa (show (evE C elt η4).bind fm = _ from h10)
   cases h12
   exact (ay cnd h7).trans (ay elt h11)
  | false =>
   rw [if_neg Bool.false_ne_true] at h10
   cases h10
   exact ay cnd h7) (fun {val σ2 Z H Fs η ηc R o Q} A hf k=>by
  obtain ⟨⟨u,η4⟩,h7,h8⟩:=aa (show (evE C cnd η).bind (onT (bK (evE C elt)) (okW none)) = _ from hf)
  obtain ⟨d,h9,h10⟩:=bo h8
  refine lj A.bare h7 h9 fun Z1 H1 Fs1 A1 s1=>?_
  have A1':=A.frame (A1.mono (G':=no) fun _ z=>z) (s1.mono (fun _ z=>z) fun a ha=>ha.elim id fun z=>z.elim)
  have A2:=A1'.1.mono (G':=R) fun _ z=>.inl z
  cases d with
  | true =>
   rw [if_pos rfl] at h10 ⊢
   obtain ⟨⟨u2,η5⟩,h11,h12⟩:=aa (show (evE C elt η4).bind fm = _ from h10)
   cases h12
   exact gD A2 h11 fun v Z' H' Fs' G B r d s _=>k (some v) Z' H' Fs' G B r d (s1.trans s)
  | false =>
   rw [if_neg Bool.false_ne_true] at h10 ⊢
   cases h10
   exact k none Z1 H1 Fs1 no (A2.mono fun _ z=>z.elim id fun q=>q.elim) trivial (fun _ _ z=>z) (s1.mono (fun _ z=>z) fun a ha=>ha.elim id fun z=>z.elim)) (fun η=>rfl) σ H Q hw
 refine (?_:∀ {a b:It -> Hp -> Prop},(∀ J H1,a J H1 -> b J H1) -> wI K sf C n k src σ H a -> wI K sf C n k src σ H b) ?_ main
 ·rintro a b hab ⟨pv,Z,Fs,η,ws,η',ts,A,ev,ht,kk⟩
  exact ⟨pv,Z,Fs,η,ws,η',ts,A,ev,ht,fun J Z' H' Fs' A' s' w' y'=>hab J H' (kk J Z' H' Fs' A' s' w' y')⟩
 ·rintro J H1 ⟨W,w0,turn⟩
  refine ⟨W,w0,fun i m ys H w=>?_⟩
  rcases turn i m ys H w with c | ⟨go,hz,step⟩
  ·exact .inl c
  ·refine .inr ⟨go,hz,fun x H' y=>?_⟩
   have st:=step x H' y
   simp only [Option.toList_some,Option.toList_none,List.append_nil] at st
   exact st
end
end MR
namespace MR
open L2 L3 M
open PySem (Addr Str sizeLine)
section
variable {K:PySem.W.Frag} {sl:Cf} {sf sg:Nat -> Option Nat} {C:Call} {σ σ2:L2.St} {Z Z' Z1:Fp} {H H' H1:Hp} {Fs Fs' Fs1:Fps} {η η' η1 ηb:Env} {G G' G1 R F:Fp} {tg is:List Nat} {pv val:Nat -> Option V}
def ny (Fs:Fps) (i:Nat) (G:Fp):Fps:=fun j a=>(j = i /\ G a) \/ (j ≠ i /\ Fs j a)
theorem bf {i:Nat} {a:Addr} (h:tot (ny Fs i G) a):tot Fs a \/ G a:=by
 obtain ⟨j,h | h⟩:=h
 ·exact .inr h.2
 ·exact .inl ⟨j,h.2⟩
theorem At.put {i:Nat} {w:W} {x:V} (A:At K sl σ Z H Fs η G) (r:Rep K Z H w.1 w.2 x G1) (h1:∀ a,G1 a -> G a) (h2:∀ a,R a -> G a) (hd:∀ a,R a -> ¬ G1 a) (hl:∀ j,sl.sl i = some j -> σ[j]? = some (some x)) (hp:∀ u,sl.pv i = some u -> x = u) :
  At K sl σ Z H (ny Fs i G1) (M.put η i w) R:=by
 refine ⟨⟨fun a h=>(bf h).elim (A.gd.own a) fun q=>A.own a (h1 a q),fun j k a hj hk=>?_,A.gd.zal⟩,fun j m t e=>?_,fun a h=>A.own a (h2 a h),fun a h q=>(bf q).elim (A.dis a (h2 a h)) (hd a h),A.lk,A.ln⟩
 ·rcases hj with ⟨rfl,hj⟩ | ⟨nj,hj⟩
  ·rcases hk with ⟨rfl,_⟩ | ⟨nk,hk⟩
   ·rfl
   ·exact absurd ⟨k,hk⟩ (A.dis a (h1 a hj))
  ·rcases hk with ⟨rfl,hk⟩ | ⟨nk,hk⟩
   ·exact absurd ⟨j,hj⟩ (A.dis a (h1 a hk))
   ·exact A.gd.dis j k a hj hk
 ·rw [bw] at e
  split at e
  ·rename_i hc
   cases e
   obtain ⟨rfl,_⟩:=hc
   exact ⟨x,r.mono fun a h=>.inl ⟨rfl,h⟩,hl,hp⟩
  ·rename_i hc
   obtain ⟨v,r',h'⟩:=A.env j m t e
   by_cases hj:j = i
   ·subst hj
    exact absurd ⟨rfl,eJ e⟩ hc
   ·exact ⟨v,r'.mono fun a h=>.inr ⟨hj,h⟩,h'⟩
def wA (K:PySem.W.Frag) (sl:Nat -> Option Nat) (C:Call) (es:List E):TA:=fun σ H Q=>∃ pv Z Fs η ws η',At K ⟨sl,pv⟩ σ Z H Fs η no /\ evA C es η = .ok (ws,η') /\
 ∀ vs Z' H' Fs' G,At K ⟨sl,pv⟩ σ Z' H' Fs' η' G -> RepW K Z' H' ws vs G -> Step Z H (tot Fs) Z' H' (fun a=>tot Fs' a \/ G a) -> (∀ (k i:Nat) (u:V),es[k]? = some (.io i) -> pv i = some u -> vs[k]? = some u) -> Q vs H'
theorem w5 (σ:L2.St) (H:Hp) (Q:List V -> Hp -> Prop) (h:wA K sf C [] σ H Q):xl σ H Q:=by
 obtain ⟨pv,Z,Fs,η,ws,η',A,ev,k⟩:=h
 cases ev
 exact k [] Z H Fs no A rfl ((Step.refl _ _ _).mono (fun _ z=>z) fun a ha=>ha.elim id fun z=>z.elim) fun k i u h _=>by simp at h
theorem Cz {es:List E} {ws:List W} {Q:List V -> Hp -> Prop} (A:At K sl σ Z H Fs η R) (ev:evA C es η = .ok (ws,η'))
  (k:∀ vs Z' H' Fs' G,At K sl σ Z' H' Fs' η' (fun c=>R c \/ G c) -> RepW K Z' H' ws vs G -> (∀ c,R c -> ¬ G c) -> Step Z H (tot Fs) Z' H' (fun a=>tot Fs' a \/ G a) ->
   Step Z H (fun c=>tot Fs c \/ R c) Z' H' (fun c=>tot Fs' c \/ (R c \/ G c)) -> (∀ (k i:Nat) (u:V),es[k]? = some (.io i) -> sl.pv i = some u -> vs[k]? = some u) -> Q vs H'):wA K sl.sl C es σ H Q :=
 ⟨sl.pv,Z,Fs,η,ws,η',A.bare,ev,fun v Z' H' Fs' G B r s hio=>by
  obtain ⟨h1,h2,h3⟩:=A.frame B s
  exact k v Z' H' Fs' G h1 r h3 s h2 hio⟩
theorem pX {e:E} {es:List E} (he:∀ i,e ≠ .io i) (σ:L2.St) (H:Hp) (Q:List V -> Hp -> Prop) (h:wA K sf C (e :: es) σ H Q):l5 (wE K sf C e) (wA K sf C es) σ H Q:=by
 obtain ⟨pv,Z,Fs,η,ws,η',A,ev,k⟩:=h
 obtain ⟨w,η1,us,h1,h2,rfl⟩:=cF he ev
 refine gD A h1 fun x Z1 H1 Fs1 G1 A1 r1 _ s1 _=>?_
 have A1':=A1.mono (G':=G1) fun _ z=>.inr z
 refine Cz A1' h2 fun xs Z2 H2 Fs2 G2 A2 r2 d2 s2 t2 hio=>?_
 refine k (x :: xs) Z2 H2 Fs2 _ A2 ⟨x,xs,G1,G2,rfl,fun _ z=>.inl z,fun _ z=>.inr z,d2,r1.frame A1.gd.own s2 A1'.dis,r2⟩ (s1.trans t2) fun k i u h hu=>?_
 cases k with
 | zero=>exact absurd (Option.some.inj h) (he i)
 | succ k=>exact hio k i u h hu
theorem nU {i j:Nat} {es:List E} (hs:sf i = some j) (σ:L2.St) (H:Hp) (Q:List V -> Hp -> Prop) (h:wA K sf C (.io i :: es) σ H Q):l5 (mY j) (wA K sf C es) σ H Q:=by
 obtain ⟨pv,Z,Fs,η,ws,η',A,ev,k⟩:=h
 obtain ⟨us,η1,w,h1,h2,rfl,rfl⟩:=eE ev
 obtain ⟨m,t⟩:=w
 cases e0:rd η i with
 | none=>rw [dZ es h1 i e0] at h2; cases h2
 | some w0 =>
  obtain ⟨v,_,hv⟩:=A.env i w0.1 w0.2 e0
  refine ⟨v,hv.1 j hs,pv,Z,Fs,η,us,η1,A,h1,fun xs Z2 H2 Fs2 G2 A2 r2 s2 hio=>?_⟩
  obtain ⟨v',r,hv'⟩:=A2.env i m t h2
  have ev':v' = v:=by
   have e1:=hv.1 j hs
   rw [hv'.1 j hs] at e1
   exact Option.some.inj (Option.some.inj e1)
  subst ev'
  have A3:At K ⟨sf,pv⟩ σ Z2 H2 (wR Fs2 i) (del η1 i) (fun a=>Fs2 i a \/ G2 a):=by
   refine ⟨⟨fun a ⟨l,h1,h2⟩=>A2.gd.own a ⟨l,h2⟩,fun l l' a h1 h2=>A2.gd.dis l l' a h1.2 h2.2,A2.gd.zal⟩,fun l m' t' e=>?_,fun a ha=>ha.elim (fun z=>A2.gd.own a ⟨i,z⟩) (A2.own a),fun a ha ⟨l,h1,h2⟩=>ha.elim (fun z=>h1 (A2.gd.dis l i a h2 z)) fun z=>A2.dis a z ⟨l,h2⟩,A2.lk,A2.ln⟩
   rw [bw] at e
   split at e
   ·cases e
   ·rename_i hne
    obtain ⟨v'',r',hv''⟩:=A2.env l m' t' e
    have hli:l ≠ i:=fun z=>hne ⟨z,eJ h2⟩
    exact ⟨v'',r'.mono fun a ha=>⟨hli,ha⟩,hv''⟩
  refine k (v' :: xs) Z2 H2 (wR Fs2 i) _ A3 ⟨v',xs,Fs2 i,G2,rfl,fun _ z=>.inl z,fun _ z=>.inr z,fun a z y=>A2.dis a y ⟨i,z⟩,r,r2⟩ (s2.mono (fun _ z=>z) fun a ha=>?_) fun k i' u h hu=>?_
  ·rcases ha with ⟨l,_,z⟩ | z | z
   ·exact .inl ⟨l,z⟩
   ·exact .inl ⟨i,z⟩
   ·exact .inr z
  ·cases k with
   | zero=>cases h; rw [<- hv'.2 u hu]; rfl
   | succ k=>exact hio k i' u h hu
def atV (io:List Nat) (vs:List V):List V:=io.filterMap fun i=>vs[i]?
def spC (K:PySem.W.Frag) (C:Call) (f:Nat) (io:List Nat):List V -> Hp -> VK -> Prop:=fun vs H Q=>∃ Z ws G w bs,RepW K Z H ws vs G /\ Own Z H G /\ (∀ a,Z a -> H a ≠ none) /\ C f ws = .ok (w,bs) /\
 ∀ v Z' H' G1 G2,Rep K Z' H' w.1 w.2 v G1 -> RepW K Z' H' bs (atV io vs) G2 -> (∀ a,G1 a -> ¬ G2 a) -> Own Z' H' (fun a=>G1 a \/ G2 a) -> Step Z H G Z' H' (fun a=>G1 a \/ G2 a) -> Q v H'
def fo:List E -> Nat -> List Nat
 | [],_=>[]
 | .io _ :: es,n=>n :: fo es (n + 1)
 | _ :: es,n=>fo es (n + 1)
theorem vI {vs:List V}:∀ {es:List E} {n:Nat},(∀ (k i:Nat) (u:V),es[k]? = some (.io i) -> pv i = some u -> vs[n + k]? = some u) -> (∀ i ∈ ios es,pv i ≠ none) -> (ios es).filterMap pv = atV (fo es n) vs
 | [],_,_,_=>rfl
 | e :: es,n,h,hv=>by
  have rest:(∀ i ∈ ios es,pv i ≠ none) -> (ios es).filterMap pv = atV (fo es (n + 1)) vs:=fun q=>vI (fun k i u hk hu=>by have:=h (k + 1) i u hk hu; rw [show n + (k + 1) = n + 1 + k by omega] at this; exact this) q
  cases e with
  | io i =>
   cases hu:pv i with
   | none=>exact absurd hu (hv i (by simp [ios]))
   | some u =>
    have h0:=h 0 i u rfl hu
    rw [Nat.add_zero] at h0
    show (i :: ios es).filterMap pv = (n :: fo es (n + 1)).filterMap fun i=>vs[i]?
    rw [List.filterMap_cons,List.filterMap_cons,hu,h0]
    exact congrArg (u :: ·) (rest fun j hj=>hv j (by simp [ios,hj]))
  | _=>exact rest fun j hj=>hv j hj
theorem At.putAll:∀ {is:List Nat} {bs:List W} {Fs:Fps} {η:Env} {G2:Fp},At K ⟨sf,val⟩ σ Z H Fs η (fun a=>R a \/ G2 a) -> (∀ a,R a -> ¬ G2 a) -> RepW K Z H bs (is.filterMap val) G2 -> (∀ i ∈ is,val i ≠ none) -> ∃ Fs',At K ⟨sf,val⟩ σ Z H Fs' (M.putAll is bs η) R /\ ∀ a,tot Fs' a -> tot Fs a \/ G2 a
 | [],bs,Fs,η,G2,A,_,_,_=>⟨Fs,A.mono fun _ z=>.inl z,fun _ z=>.inl z⟩
 | i :: is,[],Fs,η,G2,A,_,_,_=>⟨Fs,A.mono fun _ z=>.inl z,fun _ z=>.inl z⟩
 | i :: is,b :: bs,Fs,η,G2,A,hd,r,hv=>by
  cases hu:val i with
  | none=>exact absurd hu (hv i List.mem_cons_self)
  | some u =>
   rw [List.filterMap_cons,hu] at r
   obtain ⟨x,r',A1,A2,e,a1,a2,ad,p,q⟩:=r
   cases e
   have B:=At.put (i:=i) (R:=fun a=>R a \/ A2 a) (G1:=A1) A p (fun a h=>.inr (a1 a h)) (fun a h=>h.imp id (a2 a)) (fun a h q=>h.elim (fun z=>hd a z (a1 a q)) fun z=>ad a q z) (fun j hj=>A.lk i u j hu hj) (fun u' hu'=>by rw [show val i = some u' from hu'] at hu; cases hu; rfl)
   obtain ⟨Fs',B1,B2⟩:=At.putAll (is:=is) (bs:=bs) B (fun a h q=>hd a h (a2 a q)) q fun j hj=>hv j (List.mem_cons_of_mem _ hj)
   exact ⟨Fs',B1,fun a h=>(B2 a h).elim (fun z=>(bf z).imp id (a1 a)) fun z=>.inr (a2 a z)⟩
theorem mq {f:Nat} {es:List E} {io:List Nat} (hio:fo es 0 = io \/ ios es = []) (σ:L2.St) (H:Hp) (Q:VK) (h:wE K sf C (.call f es) σ H Q):wA K sf C es σ H fun vs H1=>spC K C f io vs H1 Q:=by
 obtain ⟨pv,Z,Fs,η,w,η',A,ev,k⟩:=h
 obtain ⟨⟨ws,η1⟩,h1,h2⟩:=aa (show (evA C es η).bind (kCall C f (ios es)) = _ from ev)
 obtain ⟨⟨u,bs⟩,h3,h4⟩:=aa (show (C f ws).bind (kBack (ios es) η1) = _ from h2)
 cases h4
 obtain ⟨val,v1,A2,v2⟩:=A.pin
 have hvn:∀ i ∈ ios es,val i ≠ none:=fun i hi=>by
  cases e:rd η i with
  | none=>exact absurd e (fY es h1 i hi)
  | some q=>exact v2 i q.1 q.2 e
 refine ⟨val,Z,Fs,η,ws,η1,A2,h1,fun vs Z1 H1 Fs1 G B r s hv=>?_⟩
 refine ⟨Z1,ws,G,u,bs,r,B.own,B.gd.zal,h3,fun v Z2 H2 G1 G2 r1 r2 d o st=>?_⟩
 obtain ⟨B2,s2⟩:=B.op o st
 have fin:∃ Fs',At K ⟨sf,val⟩ σ Z2 H2 Fs' (M.putAll (ios es) bs η1) G1 /\ ∀ a,tot Fs' a -> tot Fs1 a \/ G2 a:=by
  rcases hio with e | e
  ·have e2:=vI (pv:=val) (es:=es) (n:=0) (vs:=vs) (fun k i u' hk hu=>by rw [Nat.zero_add]; exact hv k i u' hk hu) hvn
   rw [e] at e2
   rw [<- e2] at r2
   exact At.putAll B2 d r2 hvn
  ·rw [e]
   exact ⟨Fs1,B2.mono fun _ z=>.inl z,fun _ z=>.inl z⟩
 obtain ⟨Fs',B3,hF⟩:=fin
 refine k v Z2 H2 Fs' G1 (B3.unpin v1) r1 ((s.trans s2).mono (fun _ z=>z) fun a ha=>?_)
 rcases ha with z | z
 ·exact (hF a z).imp id .inr
 ·exact .inr (.inl z)
end
end MR
namespace MR
open L2 L3 M
open PySem (Addr Str sizeLine)
section
variable {K:PySem.W.Frag} {sl:Cf} {sf sg:Nat -> Option Nat} {C:Call} {σ σ2:L2.St} {Z Z' Z1:Fp} {H H' H1:Hp} {Fs Fs' Fs1:Fps} {η η' η1 ηb:Env} {G G' G1 R F F':Fp} {tg is vs ls:List Nat} {pv val:Nat -> Option V}
theorem qP (o:Option W):toS (toS o) = toS o:=by
 cases o with
 | none=>rfl
 | some w=>rfl
theorem gA:∀ (vs:List Nat) (η:Env) (i:Nat),rd (share vs η) i = if i ∈ vs then toS (rd η i) else rd η i
 | [],η,i=>by simp [share]
 | v :: vs,η,i=>by
  show rd (share vs (wr η v (toS (rd η v)))) i = _
  rw [gA vs,bw]
  by_cases h2:i = v
  ·subst h2
   rw [if_pos (show i ∈ i :: vs from List.mem_cons_self)]
   by_cases hl:i < η.length
   ·rw [if_pos (show i = i /\ i < η.length from ⟨rfl,hl⟩)]
    split
    ·exact qP _
    ·rfl
   ·have e:rd η i = none:=by
     cases e:rd η i with
     | none=>rfl
     | some w=>exact absurd (eJ e) hl
    rw [if_neg (show ¬ (i = i /\ i < η.length) from fun h=>hl h.2),e]
    split <;> rfl
  ·rw [if_neg (show ¬ (i = v /\ v < η.length) from fun h=>h2 h.1)]
   by_cases h1:i ∈ vs
   ·rw [if_pos h1,if_pos (List.mem_cons_of_mem _ h1)]
   ·rw [if_neg h1,if_neg (by simp [h1,h2])]
theorem jU:∀ (η:Env) (i:Nat),rd (gn η) i = none
 | [],_=>rfl
 | _ :: _,0=>rfl
 | _ :: η,i + 1=>jU η i
theorem ma:∀ (vs:List Nat) (η0 η:Env) (i:Nat) (w:W),rd (lh vs η0 η) i = some w -> rd η i = some w \/ (i ∈ vs /\ toS (rd η0 i) = some w)
 | [],_,_,_,_,h=>.inl h
 | v :: vs,η0,η,i,w,h=>by
  rcases ma vs η0 (wr η v (toS (rd η0 v))) i w h with e | e
  ·rw [bw] at e
   split at e
   ·rename_i hc; obtain ⟨rfl,_⟩:=hc; exact .inr ⟨List.mem_cons_self,e⟩
   ·exact .inl e
  ·exact .inr ⟨List.mem_cons_of_mem _ e.1,e.2⟩
theorem jC:∀ (vs:List Nat) (η0 η:Env) (i:Nat) (w:W),rd (fR vs η0 η) i = some w -> rd η i = some w \/ lfO (rd η0 i) = some w
 | [],_,_,_,_,h=>.inl h
 | v :: vs,η0,η,i,w,h=>by
  rcases jC vs η0 (wr η v (lfO (rd η0 v))) i w h with e | e
  ·rw [bw] at e
   split at e
   ·rename_i hc; obtain ⟨rfl,_⟩:=hc; exact .inr e
   ·exact .inl e
  ·exact .inr e
theorem sX {i:Nat} {w:W} (h:rd (dW vs ls η) i = some w):∃ m t,rd η i = some (m,t) /\ ((i ∈ vs /\ w = (.s,t)) \/ (t.leaf = true /\ w = (.d,t))):=by
 rcases jC ls η _ i w h with e | e
 ·rcases ma vs η _ i w e with e | ⟨hi,e⟩
  ·rw [jU] at e; cases e
  ·cases q:rd η i with
   | none=>rw [q] at e; cases e
   | some u=>rw [q] at e; cases e; exact ⟨u.1,u.2,rfl,.inl ⟨hi,rfl⟩⟩
 ·cases q:rd η i with
  | none=>rw [q] at e; cases e
  | some u =>
   rw [q] at e
   obtain ⟨m,t⟩:=u
   have e':(if t.leaf = true then some ((.d,t):W) else none) = some w:=e
   split at e'
   ·rename_i hl; cases e'; exact ⟨m,t,rfl,.inr ⟨hl,rfl⟩⟩
   ·cases e'
def cR (Fs:Fps) (vs:List Nat):Fp:=fun a=>∃ i,i ∈ vs /\ Fs i a
def qO:Fps:=fun _ _=>False
theorem ck {a:Addr} (h:cR Fs vs a):tot Fs a:=let ⟨i,_,h⟩:=h; ⟨i,h⟩
theorem iE {a:Addr} (h:tot qO a):False:=let ⟨_,h⟩:=h; h
theorem At.quiet (A:At K sl σ Z H Fs η no):At K sl σ (fun a=>Z a \/ cR Fs vs a) H qO (dW vs ls η) no:=by
 refine ⟨⟨fun a h=>(iE h).elim,fun _ _ _ h=>h.elim,fun a h=>h.elim (A.gd.zal a) fun q=>?_⟩,fun i m t e=>?_,cj,fun _ z=>z.elim,A.lk,A.ln⟩
 ·obtain ⟨_,xs,e⟩:=A.gd.own a (ck q)
  rw [e]; simp
 ·obtain ⟨m',t',e1,e2⟩:=sX e
  obtain ⟨v,r,h⟩:=A.env i m' t' e1
  rcases e2 with ⟨hi,e2⟩ | ⟨hl,e2⟩
  ·cases e2
   exact ⟨v,(r.sh.zmono fun a h=>h.imp id fun q=>⟨i,hi,q⟩).sany,h⟩
  ·cases e2
   exact ⟨v,r.leaf (fun _ _ _ q=>q) hl,h⟩
mutual
theorem Rep.dany:∀ {t:T} {v:V} {G:Fp},Rep K Z H .d t v G -> Rep K Z' H .d t v G
 | .non,_,_,h=>h
 | .bl _,_,_,h=>h
 | .int _,_,_,h=>h
 | .str _,_,_,h=>h
 | .scr _,_,_,h=>h
 | .tup ts,_,_,⟨a,xs,e,q,l,r⟩=>⟨a,xs,e,q,l,RepL.dany r⟩
 | .lst ts,_,_,⟨a,xs,e,l,q,r⟩=>⟨a,xs,e,l,q,RepL.dany r⟩
 | .dct _ _,_,_,h=>h.elim
 | .ins _ _ _,_,_,h=>h.elim
 | .gone,_,_,h=>h
theorem RepL.dany:∀ {ts:List T} {xs:List V} {G:Fp},RepL K Z H .d ts xs G -> RepL K Z' H .d ts xs G
 | [],_,_,h=>h
 | t :: ts,xs,_,⟨x,r,G1,G2,e,h1,h2,hd,p,q⟩=>⟨x,r,G1,G2,e,h1,h2,hd,Rep.dany p,RepL.dany q⟩
end
theorem ed (A:At K sl σ Z H Fs η no) (B:Own Z' H' G) (zal:∀ a,Z' a -> H' a ≠ none) (s:Step (fun a=>Z a \/ cR Fs vs a) H F Z' H' (fun a=>F' a \/ G a)) (hF:∀ a,¬ F a) :
  At K sl σ (fun a=>Z' a /\ ¬ cR Fs vs a) H' Fs η G /\ Step Z H (tot Fs) (fun a=>Z' a /\ ¬ cR Fs vs a) H' (fun a=>tot Fs a \/ G a):=by
 have keep:∀ a o,H a = some o -> H' a = some o:=fun a o e=>s.keep a o e (hF a)
 have zz:∀ a,Z a -> Z' a /\ ¬ cR Fs vs a:=fun a h=>⟨s.zm a (.inl h),fun q=>(A.gd.own a (ck q)).1 h⟩
 have nz:∀ a,tot Fs a -> ¬ (Z' a /\ ¬ cR Fs vs a):=fun a h q=>by
  obtain ⟨nz,xs,e⟩:=A.gd.own a h
  rcases s.zn a q.1 with z | z | z
  ·exact z.elim nz q.2
  ·exact hF a z
  ·rw [e] at z; cases z
 have gd:∀ a,G a -> ¬ tot Fs a:=fun a h q=>by
  obtain ⟨_,xs,e⟩:=A.gd.own a q
  rcases s.fn a (.inr h) with z | z
  ·exact hF a z
  ·rw [e] at z; cases z
 refine ⟨⟨⟨fun a h=>?_,A.gd.dis,fun a h=>zal a h.1⟩,fun i m t e=>?_,fun a h=>⟨fun q=>(B a h).1 q.1,(B a h).2⟩,gd,A.lk,A.ln⟩,⟨fun a o e _=>keep a o e,zz,fun a h=>?_,fun a h=>?_,s.al,fun _ a h=>zal a h.1⟩⟩
 ·obtain ⟨_,xs,e⟩:=A.gd.own a h
  exact ⟨nz a h,xs,keep a _ e⟩
 ·obtain ⟨v,r,h⟩:=A.env i m t e
  refine ⟨v,r.keep ⟨fun a o _ e=>keep a o e,fun a xs e=>?_,fun a o u e=>keep a _ e⟩ zz fun a o _ e=>keep a o e,h⟩
  rcases e with e | ⟨u,e⟩
  ·exact .inl (keep a _ e)
  ·exact .inr ⟨u,keep a _ e⟩
 ·rcases s.zn a h.1 with z | z | z
  ·exact z.elim .inl fun q=>absurd q h.2
  ·exact (hF a z).elim
  ·exact .inr (.inr z)
 ·rcases h with h | h
  ·exact .inl h
  ·exact (s.fn a (.inr h)).elim (fun z=>(hF a z).elim) .inr
theorem At.share (A:At K sl σ Z H Fs η G):At K sl σ (fun a=>Z a \/ cR Fs vs a) H (fB Fs vs) (M.share vs η) G /\ ∀ {Z0 H0 F0},Step Z0 H0 F0 Z H (fun a=>tot Fs a \/ G a) -> Step Z0 H0 F0 (fun a=>Z a \/ cR Fs vs a) H (fun a=>tot (fB Fs vs) a \/ G a):=by
 refine ⟨⟨⟨fun a h=>?_,fun i j a h1 h2=>A.gd.dis i j a h1.2 h2.2,fun a h=>h.elim (A.gd.zal a) fun q=>?_⟩,fun i m t e=>?_,fun a h=>⟨fun z=>z.elim (A.own a h).1 fun q=>A.dis a h (ck q),(A.own a h).2⟩,fun a h q=>A.dis a h (cx q),A.lk,A.ln⟩,fun {Z0 H0 F0} s=>⟨s.keep,fun a h=>.inl (s.zm a h),fun a h=>h.elim (s.zn a) fun q=>.inr (s.fn a (.inl (ck q))),fun a h=>s.fn a (h.imp cx id),s.al,fun z a h=>h.elim (s.za z a) fun q=>?_⟩⟩
 ·obtain ⟨i,hi,h'⟩:=h
  obtain ⟨nz,xs,e⟩:=A.gd.own a ⟨i,h'⟩
  exact ⟨fun z=>z.elim nz fun ⟨j,hj,q⟩=>hi (A.gd.dis i j a h' q ▸ hj),xs,e⟩
 ·obtain ⟨_,xs,e⟩:=A.gd.own a (ck q)
  rw [e]; simp
 ·rw [gA] at e
  split at e
  ·rename_i hi
   cases q:rd η i with
   | none=>rw [q] at e; cases e
   | some u =>
    rw [q] at e; cases e
    obtain ⟨v,r,h⟩:=A.env i u.1 u.2 q
    exact ⟨v,(r.sh.zmono fun a h=>h.imp id fun q=>⟨i,hi,q⟩).sany,h⟩
  ·rename_i hi
   obtain ⟨v,r,h⟩:=A.env i m t e
   exact ⟨v,(r.zmono fun a h=>.inl h).mono fun a h=>⟨hi,h⟩,h⟩
 ·obtain ⟨_,xs,e⟩:=A.gd.own a (ck q)
  rw [e]; simp
theorem jl {x:X} {e:E} {w:W} {Q:VK} (A:At K sl σ Z H Fs η no) (ev:evX C x e η = .ok (w,η')) (k:∀ v Z' H' Fs' G,At K sl σ Z' H' Fs' η' G -> Rep K Z' H' w.1 w.2 v G -> Step Z H (tot Fs) Z' H' (fun a=>tot Fs' a \/ G a) -> Q v H'):wE K sl.sl C e σ H Q:=by
 cases x with
 | q vs ls =>
  obtain ⟨⟨u,η2⟩,h1,h2⟩:=aa (show (evE C e (dW vs ls η)).bind (kX vs η) = _ from ev)
  cases h2
  generalize hm0:M.lf u.1 u.2 = m0 at k
  refine ⟨sl.pv,_,qO,_,_,η2,A.quiet (vs:=vs) (ls:=ls),h1,fun v Z' H' Fs' G B r0 s=>?_⟩
  have r:=r0.lf
  rw [hm0] at r
  obtain ⟨B1,s1⟩:=ed A B.own B.gd.zal s fun a h=>iE h
  have other:Q v H' \/ m0 = .d:=by
   by_cases hd:m0 = .d
   ·exact .inr hd
   ·refine .inl ?_
    have e':after m0 vs η = share vs η:=by
     cases hm:m0 with
     | d=>exact absurd hm hd
     | s=>rfl
     | o m=>rfl
    obtain ⟨B2,s2⟩:=B1.share (vs:=vs)
    have zz:∀ a,(Z' a /\ ¬ cR Fs vs a) \/ cR Fs vs a -> Z' a:=fun a h=>h.elim And.left fun q=>s.zm a (.inr q)
    have zz':∀ a,Z' a -> (Z' a /\ ¬ cR Fs vs a) \/ cR Fs vs a:=fun a h=>(Classical.em (cR Fs vs a)).elim .inr fun q=>.inl ⟨h,q⟩
    exact k v _ H' _ G (e' ▸ B2) (r.zmono zz') (s2 s1)
  rcases other with q | hd
  ·exact q
  ·have e':after m0 vs η = η:=by rw [hd]; rfl
   refine k v _ H' Fs G (e'.symm ▸ B1) ?_ s1
   subst hd
   exact r.dany
 | l vs =>
  obtain ⟨B,s0⟩:=A.share (vs:=vs)
  have s1:=s0 ((Step.refl Z H (tot Fs)).mono (F2:=fun a=>tot Fs a \/ no a) (fun _ z=>z) fun a h=>h.elim id fun z=>z.elim)
  refine ⟨sl.pv,_,_,_,w,η',B,ev,fun v Z' H' Fs' G B' r s=>k v Z' H' Fs' G B' r ((s1.mono (fun _ z=>z) fun a h=>.inl h).trans s)⟩
theorem AF {x:X} {e:E} {b:Bool} {Q:Bool -> Hp -> Prop} (A:At K sl σ Z H Fs η no) (ev:evT C x e η = .ok (b,η')) (k:∀ Z' H' Fs',At K sl σ Z' H' Fs' η' no -> Step Z H (tot Fs) Z' H' (tot Fs') -> Q b H'):wT K sl.sl C e σ H Q:=by
 cases x with
 | q vs ls =>
  obtain ⟨⟨u,η2⟩,h1,h2⟩:=aa (show (evE C e (dW vs ls η)).bind (kT η) = _ from ev)
  obtain ⟨b',h3,e3⟩:=av (show ret η (truth u.2) = _ from h2)
  cases e3
  refine ⟨sl.pv,_,qO,_,u,η2,b,A.quiet (vs:=vs) (ls:=ls),h1,h3,fun Z' H' Fs' B s=>?_⟩
  obtain ⟨B1,s1⟩:=ed (G:=no) A cj B.gd.zal (s.mono (F2:=fun a=>tot Fs' a \/ no a) (fun _ z=>z) fun a h=>h.elim id fun z=>z.elim) fun a h=>iE h
  exact k _ H' Fs B1 (s1.mono (fun _ z=>z) fun a h=>.inl h)
 | l vs =>
  obtain ⟨⟨u,η2⟩,h1,h2⟩:=aa (show (evE C e (M.share vs η)).bind kT2 = _ from ev)
  obtain ⟨b',h3,e3⟩:=av (show ret η2 (truth u.2) = _ from h2)
  cases e3
  obtain ⟨B,s0⟩:=A.share (vs:=vs)
  have s1:=s0 ((Step.refl Z H (tot Fs)).mono (F2:=fun a=>tot Fs a \/ no a) (fun _ z=>z) fun a h=>h.elim id fun z=>z.elim)
  exact ⟨sl.pv,_,_,_,u,_,b,B,h1,h3,fun Z' H' Fs' B' s=>k Z' H' Fs' B' ((s1.mono (fun _ z=>z) fun a h=>.inl h).trans s)⟩
end
end MR
namespace MR
open L2 L3 M
open PySem (Addr Str sizeLine)
section
variable {K:PySem.W.Frag} {sl:Cf} {sf sg:Nat -> Option Nat} {C:Call} {σ σ2:L2.St} {Z Z' Z1:Fp} {H H' H1:Hp} {Fs Fs' Fs1:Fps} {η η' η1 ηb:Env} {G G' G1 R F F':Fp} {tg is vs ls io:List Nat} {pv val:Nat -> Option V} {D:bY}
def Fin (K:PySem.W.Frag) (sl:Cf) (Z:Fp) (H:Hp) (F:Fp) (D:bY):Fl -> Prop
 | .nx η'=>∀ σ' Z' H' Fs',At K sl σ' Z' H' Fs' η' no -> Step Z H F Z' H' (tot Fs') -> D.nx σ' H'
 | .rt w η'=>∀ v σ' Z' H' Fs' G,At K sl σ' Z' H' Fs' η' G -> Rep K Z' H' w.1 w.2 v G -> Step Z H F Z' H' (fun a=>tot Fs' a \/ G a) -> D.rt v H'
 | .bk η'=>∀ σ' Z' H' Fs',At K sl σ' Z' H' Fs' η' no -> Step Z H F Z' H' (tot Fs') -> D.bk σ' H'
 | _=>False
theorem Fin.step {fl:Fl} (s:Step Z H F Z1 H1 F') (h:Fin K sl Z H F D fl):Fin K sl Z1 H1 F' D fl:=by
 cases fl with
 | nx η=>exact fun σ' Z' H' Fs' A t=>h σ' Z' H' Fs' A (s.trans t)
 | rt w η=>exact fun v σ' Z' H' Fs' G A r t=>h v σ' Z' H' Fs' G A r (s.trans t)
 | bk η=>exact fun σ' Z' H' Fs' A t=>h σ' Z' H' Fs' A (s.trans t)
 | _=>exact h.elim
structure oG (sf:Nat -> Option Nat) (io:List Nat) (pv:Nat -> Option V):Prop where
 inj:∀ i i' j,sf i = some j -> sf i' = some j -> i = i'
 io:∀ i,i ∉ io -> pv i = none
def wS (K:PySem.W.Frag) (sf:Nat -> Option Nat) (io:List Nat) (C:Call) (st:S):TS:=fun D σ H=>∃ pv Z Fs η,oG sf io pv /\ At K ⟨sf,pv⟩ σ Z H Fs η no /\ Fin K ⟨sf,pv⟩ Z H (tot Fs) D (evS C st η)
def wSs (K:PySem.W.Frag) (sf:Nat -> Option Nat) (io:List Nat) (C:Call) (st:List S):TS:=fun D σ H=>∃ pv Z Fs η,oG sf io pv /\ At K ⟨sf,pv⟩ σ Z H Fs η no /\ Fin K ⟨sf,pv⟩ Z H (tot Fs) D (evSs C st η)
theorem ub (D:bY) (σ:L2.St) (H:Hp) (h:wSs K sf io C [] D σ H):vi D σ H:=by
 obtain ⟨pv,Z,Fs,η,N,A,f⟩:=h
 exact f σ Z H Fs A (Step.refl _ _ _)
theorem nY {s:S} {r:List S} (D:bY) (σ:L2.St) (H:Hp) (h:wSs K sf io C (s :: r) D σ H):Aa (wS K sf io C s) (wSs K sf io C r) D σ H:=by
 obtain ⟨pv,Z,Fs,η,N,A,f⟩:=h
 refine ⟨pv,Z,Fs,η,N,A,?_⟩
 have f':Fin K ⟨sf,pv⟩ Z H (tot Fs) D (Fl.seq (evS C s η) (evSs C r)):=f
 cases e:evS C s η with
 | nx η1 =>
  rw [e] at f'
  exact fun σ' Z' H' Fs' A' t=>⟨pv,Z',Fs',η1,N,A',f'.step t⟩
 | rt w η1=>rw [e] at f'; exact f'
 | bk η1=>rw [e] at f'; exact f'
 | ex c x η1=>rw [e] at f'; exact f'.elim
 | no=>rw [e] at f'; exact f'.elim
theorem uE {s:S} (D:bY) (σ:L2.St) (H:Hp) (h:wSs K sf io C [s] D σ H):wS K sf io C s D σ H:=by
 obtain ⟨pv,Z,Fs,η,N,A,f⟩:=h
 refine ⟨pv,Z,Fs,η,N,A,?_⟩
 have f':Fin K ⟨sf,pv⟩ Z H (tot Fs) D (Fl.seq (evS C s η) (evSs C [])):=f
 cases e:evS C s η with
 | nx η1=>rw [e] at f'; exact f'
 | rt w η1=>rw [e] at f'; exact f'
 | bk η1=>rw [e] at f'; exact f'
 | ex c x η1=>rw [e] at f'; exact f'.elim
 | no=>rw [e] at f'; exact f'.elim
theorem bh {α:Type} {r:Res α} {g:α -> Fl} (f:Fin K sl Z H F D (Fl.of η r g)):∃ a,r = .ok a /\ Fin K sl Z H F D (g a):=by
 cases r with
 | ok a=>exact ⟨a,rfl,f⟩
 | ex c x=>exact f.elim
 | no=>exact f.elim
theorem fJ {o:Option Env} (f:Fin K sl Z H F D (nxO η o)):∃ η',o = some η' /\ Fin K sl Z H F D (.nx η'):=by
 cases o with
 | some a=>exact ⟨a,rfl,f⟩
 | none=>exact f.elim
theorem At.setR {i j:Nat} {w:W} {x:V} (N:oG sf io pv) (hi:i ∉ io) (hs:sf i = some j) (A:At K ⟨sf,pv⟩ σ Z H Fs η G) (r:Rep K Z H w.1 w.2 x G1) (q1:∀ a,G1 a -> G a) (q2:∀ a,R a -> G a) (q3:∀ a,R a -> ¬ G1 a):At K ⟨sf,pv⟩ (σ.set j (some x)) Z H (ny Fs i G1) (M.put η i w) R:=by
 have hj:j < σ.length:=A.ln i j hs
 have B:At K ⟨fun k=>if k = i then none else sf k,pv⟩ (σ.set j (some x)) Z H Fs (M.del η i) G:=by
  refine ⟨A.gd,fun l m t e=>?_,A.own,A.dis,fun l u k hu hk=>?_,fun l k hk=>?_⟩
  ·rw [bw] at e
   split at e
   ·cases e
   ·rename_i hne
    obtain ⟨v,r',h1,h2⟩:=A.env l m t e
    have hl:l ≠ i:=fun z=>hne ⟨z,by rw [<- z]; exact eJ e⟩
    refine ⟨v,r',fun k hk=>?_,h2⟩
    have hk':sf l = some k:=by have:(if l = i then none else sf l) = some k:=hk; rw [if_neg hl] at this; exact this
    have hjk:j ≠ k:=fun z=>hl (N.inj l i k hk' (by rw [<- z]; exact hs))
    rw [List.getElem?_set_ne hjk]
    exact h1 k hk'
  ·have hl:l ≠ i:=fun z=>by
    have hu':pv l = some u:=hu
    rw [z,N.io i hi] at hu'; cases hu'
   have hk':sf l = some k:=by have:(if l = i then none else sf l) = some k:=hk; rw [if_neg hl] at this; exact this
   have hjk:j ≠ k:=fun z=>hl (N.inj l i k hk' (by rw [<- z]; exact hs))
   rw [List.getElem?_set_ne hjk]
   exact A.lk l u k hu hk'
  ·have hk':sf l = some k:=by
    have:(if l = i then none else sf l) = some k:=hk
    split at this
    ·cases this
    ·exact this
   rw [List.length_set]
   exact A.ln l k hk'
 have B2:=At.put (i:=i) (w:=w) (G1:=G1) (R:=R) B r q1 q2 q3 (fun k hk=>by have hk':(if i = i then none else sf i) = some k:=hk; rw [if_pos rfl] at hk'; cases hk') (fun u hu=>by have:=N.io i hi; rw [show pv i = some u from hu] at this; cases this)
 have e1:M.put (M.del η i) i w = M.put η i w:=by
  have:∀ (η:Env) (i:Nat) (a b:Option W),wr (wr η i a) i b = wr η i b:=fun η=>by
   induction η with
   | nil=>intro i a b; rfl
   | cons o η ih=>intro i a b; cases i with
    | zero=>rfl
    | succ i=>show o :: wr (wr η i a) i b = o :: wr η i b; rw [ih]
  exact this η i none (some w)
 rw [e1] at B2
 refine ⟨B2.gd,fun l m t e=>?_,B2.own,B2.dis,fun l u k hu hk=>?_,fun l k hk=>by rw [List.length_set]; exact A.ln l k hk⟩
 ·obtain ⟨v,r',h1,h2⟩:=B2.env l m t e
  by_cases hl:l = i
  ·subst hl
   rw [bw] at e
   split at e
   ·cases e
    refine ⟨x,r.mono fun a h=>.inl ⟨rfl,h⟩,fun k hk=>?_,fun u hu=>by have:=N.io l hi; rw [show pv l = some u from hu] at this; cases this⟩
    have:k = j:=by rw [show sf l = some k from hk] at hs; cases hs; rfl
    subst this
    rw [List.getElem?_set_self hj]
   ·rename_i hc
    exact absurd ⟨rfl,eJ e⟩ hc
  ·refine ⟨v,r',fun k hk=>h1 k ?_,h2⟩
   show (if l = i then none else sf l) = some k
   rw [if_neg hl]; exact hk
 ·by_cases hl:l = i
  ·subst hl
   have:=N.io l hi
   rw [show pv l = some u from hu] at this; cases this
  ·exact B2.lk l u k hu (show (if l = i then none else sf l) = some k by rw [if_neg hl]; exact hk)
theorem At.set {i j:Nat} {w:W} {x:V} (N:oG sf io pv) (hi:i ∉ io) (hs:sf i = some j) (A:At K ⟨sf,pv⟩ σ Z H Fs η G) (r:Rep K Z H w.1 w.2 x G):At K ⟨sf,pv⟩ (σ.set j (some x)) Z H (ny Fs i G) (M.put η i w) no:=At.setR N hi hs A r (fun _ h=>h) (fun _ z=>z.elim) (fun _ z=>z.elim)
theorem i6 {x:X} {i j:Nat} {e:E} (hi:i ∉ io) (hs:sf i = some j) (D:bY) (σ:L2.St) (H:Hp) (h:wS K sf io C (.asg x i e) D σ H):kO (wE K sf C e) (bM j) D σ H:=by
 obtain ⟨pv,Z,Fs,η,N,A,f⟩:=h
 obtain ⟨⟨w,η1⟩,h1,h2⟩:=bh (show Fin K ⟨sf,pv⟩ Z H (tot Fs) D (Fl.of η (evX C x e η) (uJ i)) from f)
 refine jl (sl:=⟨sf,pv⟩) A h1 fun v Z' H' Fs' G B r s=>?_
 exact h2 _ Z' H' _ (At.set N hi hs B r) (s.mono (fun _ z=>z) fun a ha=>bf ha)
theorem xy {e:E} (D:bY) (σ:L2.St) (H:Hp) (h:wS K sf io C (.ret vs e) D σ H):Ao (wE K sf C e) D σ H:=by
 obtain ⟨pv,Z,Fs,η,N,A,f⟩:=h
 obtain ⟨⟨w,η1⟩,h1,h2⟩:=bh (show Fin K ⟨sf,pv⟩ Z H (tot Fs) D (Fl.of η (evE C e (M.share vs η)) kRt) from f)
 exact jl (sl:=⟨sf,pv⟩) (x:=.l vs) A h1 fun v Z' H' Fs' G B r s=>h2 v σ Z' H' Fs' G B r s
theorem v9 {x:X} {c:E} {a b:List S} (D:bY) (σ:L2.St) (H:Hp) (h:wS K sf io C (.ite x c a b) D σ H):zL (wT K sf C c) (wSs K sf io C a) (wSs K sf io C b) D σ H:=by
 obtain ⟨pv,Z,Fs,η,N,A,f⟩:=h
 obtain ⟨⟨k,η1⟩,h1,h2⟩:=bh (show Fin K ⟨sf,pv⟩ Z H (tot Fs) D (Fl.of η (evT C x c η) (kIf (evSs C a) (evSs C b))) from f)
 refine AF (sl:=⟨sf,pv⟩) A h1 fun Z' H' Fs' B s=>?_
 cases k with
 | true=>rw [if_pos rfl]; exact ⟨pv,Z',Fs',η1,N,B,Fin.step s h2⟩
 | false=>rw [if_neg Bool.false_ne_true]; exact ⟨pv,Z',Fs',η1,N,B,Fin.step s h2⟩
theorem iN {m:Md} {ts:List T} {v:V} (hm:m ≠ .s) (r:Rep K Z H m (.lst ts) v G):∃ a xs,v = .ref a /\ xs.length <= LIM /\ G a /\ H a = some (.lst xs) /\ RepL K Z H m.kid ts xs (fun b=>G b /\ b ≠ a):=by
 obtain ⟨a,xs,e,l,q,p⟩:=r
 rw [LstR.own hm] at q
 exact ⟨a,xs,e,l,q.1,q.2,p⟩
theorem lG {i:Nat} {a:Addr} {ts':List T} {xs':List V} {m':Md} (hm:m' ≠ .s) (A:At K ⟨sf,pv⟩ σ Z H Fs η G) {w0:W} (hi:rd η i = some w0) (ha:Fs i a) (hx:∀ j,sf i = some j -> σ[j]? = some (some (.ref a))) (hl:xs'.length <= LIM) (hpv:∀ u,pv i = some u -> V.ref a = u)
  (hg:∀ b,G' b -> (Fs i b \/ G b) /\ b ≠ a) (hR:∀ b,R b -> (Fs i b \/ G b) /\ b ≠ a) (hRG:∀ b,R b -> ¬ G' b) (p:RepL K (fun b=>Z b \/ ((Fs i b \/ G b) /\ b ≠ a /\ ¬ G' b /\ ¬ R b)) H m'.kid ts' xs' G') {Q:Hp -> Prop}
  (k:∀ Z' Fs',At K ⟨sf,pv⟩ σ Z' (upd H a (.lst xs')) Fs' (M.put η i (m',.lst ts')) R -> Step Z H (fun b=>tot Fs b \/ G b) Z' (upd H a (.lst xs')) (fun b=>tot Fs' b \/ R b) -> (∀ {m t v},Rep K (fun b=>Z b \/ ((Fs i b \/ G b) /\ b ≠ a /\ ¬ G' b /\ ¬ R b)) H m t v R -> Rep K Z' (upd H a (.lst xs')) m t v R) -> Q (upd H a (.lst xs'))):Q (upd H a (.lst xs')):=by
 have hta:tot Fs a:=⟨i,ha⟩
 obtain ⟨nza,ys,hya⟩:=A.gd.own a hta
 have nGa:¬ G a:=fun q=>A.dis a q hta
 have zdef:∀ b,(Z b \/ ((Fs i b \/ G b) /\ b ≠ a /\ ¬ G' b /\ ¬ R b)) -> b ≠ a:=fun b h z=>by
  subst z
  rcases h with h | h
  ·exact nza h
  ·exact h.2.1 rfl
 have keep:∀ b o,H b = some o -> b ≠ a -> upd H a (.lst xs') b = some o:=fun b o e hb=>by rw [ag hb]; exact e
 have neT:∀ b xs,H b = some (.tup xs) -> b ≠ a:=fun b xs e z=>by rw [z,hya] at e; cases e
 have neF:∀ b o u,H b = some (.frz o u) -> b ≠ a:=fun b o u e z=>by rw [z,hya] at e; cases e
 have stay:∀ {Y:Fp},(∀ b,Y b -> b ≠ a) -> Stay Y H (upd H a (.lst xs')):=fun {Y} hY=>⟨fun b o hb e=>keep b o e (hY b hb),fun b xs e=>by
  rcases e with e | ⟨u,e⟩
  ·exact .inl (keep b _ e (neT b xs e))
  ·exact .inr ⟨u,keep b _ e (neF b u _ e)⟩,fun b o u e=>keep b _ e (neF b o u e)⟩
 have al:∀ b,H b ≠ none -> upd H a (.lst xs') b ≠ none:=fun b h=>by
  by_cases e:b = a
  ·rw [e,ao]; simp
  ·rw [ag e]; exact h
 have zal':∀ b,(Z b \/ ((Fs i b \/ G b) /\ b ≠ a /\ ¬ G' b /\ ¬ R b)) -> H b ≠ none:=fun b h=>by
  rcases h with h | ⟨h | h,_⟩
  ·exact A.gd.zal b h
  ·obtain ⟨_,zs,e⟩:=A.gd.own b ⟨i,h⟩; rw [e]; simp
  ·obtain ⟨_,zs,e⟩:=A.own b h; rw [e]; simp
 have listAt:∀ b,(tot Fs b \/ G b) -> ∃ zs,upd H a (.lst xs') b = some (.lst zs):=fun b h=>by
  by_cases e:b = a
  ·exact ⟨xs',by rw [e,ao]⟩
  ·rcases h with h | h
   ·obtain ⟨_,zs,q⟩:=A.gd.own b h; exact ⟨zs,by rw [ag e]; exact q⟩
   ·obtain ⟨_,zs,q⟩:=A.own b h; exact ⟨zs,by rw [ag e]; exact q⟩
 have nZ:∀ b,(Fs i b \/ G b) -> ¬ Z b:=fun b h z=>h.elim (fun y=>(A.gd.own b ⟨i,y⟩).1 z) fun y=>(A.own b y).1 z
 have eg:∀ b,tot (ny Fs i fun b=>G' b \/ b = a) b -> (∃ j,j ≠ i /\ Fs j b) \/ G' b \/ b = a:=fun b h=>by
  obtain ⟨j,h | h⟩:=h
  ·exact .inr h.2
  ·exact .inl ⟨j,h⟩
 refine k (fun b=>Z b \/ ((Fs i b \/ G b) /\ b ≠ a /\ ¬ G' b /\ ¬ R b)) (ny Fs i fun b=>G' b \/ b = a) ⟨⟨fun b h=>⟨fun z=>?_,?_⟩,fun j l b hj hk=>?_,fun b h=>al b (zal' b h)⟩,fun l m t e=>?_,fun b h=>⟨fun z=>?_,listAt b ((hR b h).1.imp (fun z=>⟨i,z⟩) id)⟩,fun b h q=>?_,A.lk,A.ln⟩ ⟨fun b o e n=>keep b o e fun z=>n (.inl (z ▸ hta)),fun b h=>.inl h,fun b h=>h.imp id fun q=>.inl (q.1.imp (fun z=>⟨i,z⟩) id),fun b h=>?_,al,fun _ b h=>al b (zal' b h)⟩ fun {m t v} r=>r.keep (stay zdef) (fun _ z=>z) fun b o hb e=>keep b o e (hR b hb).2
 ·rcases eg b h with ⟨j,hj,q⟩ | q | q
  ·rcases z with z | ⟨z | z,_⟩
   ·exact (A.gd.own b ⟨j,q⟩).1 z
   ·exact hj (A.gd.dis j i b q z)
   ·exact A.dis b z ⟨j,q⟩
  ·rcases z with z | z
   ·exact nZ b (hg b q).1 z
   ·exact z.2.2.1 q
  ·exact zdef b z q
 ·rcases eg b h with ⟨j,hj,q⟩ | q | q
  ·exact listAt b (.inl ⟨j,q⟩)
  ·exact listAt b ((hg b q).1.imp (fun z=>⟨i,z⟩) id)
  ·exact ⟨xs',by rw [q,ao]⟩
 ·have key:∀ {j:Nat},(G' b \/ b = a) -> Fs j b -> j = i:=fun {j} h q=>by
   rcases h with h | h
   ·rcases (hg b h).1 with y | y
    ·exact A.gd.dis j i b q y
    ·exact absurd ⟨j,q⟩ (A.dis b y)
   ·rw [h] at q; exact A.gd.dis j i a q ha
  rcases hj with ⟨rfl,hj⟩ | ⟨nj,hj⟩
  ·rcases hk with ⟨rfl,_⟩ | ⟨nk,hk⟩
   ·rfl
   ·exact absurd (key hj hk) nk
  ·rcases hk with ⟨rfl,hk⟩ | ⟨nk,hk⟩
   ·exact absurd (key hk hj) nj
   ·exact A.gd.dis j l b hj hk
 ·rw [bw] at e
  split at e
  ·rename_i hc
   obtain ⟨rfl,_⟩:=hc
   cases e
   refine ⟨.ref a,⟨a,xs',rfl,hl,(LstR.own hm).mpr ⟨.inl ⟨rfl,.inr rfl⟩,ao⟩,?_⟩,hx,hpv⟩
   exact (p.keep (stay zdef) (fun _ z=>z) fun b o hb e=>keep b o e (hg b hb).2).mono fun b hb=>⟨.inl ⟨rfl,.inl hb⟩,(hg b hb).2⟩
  ·rename_i hc
   have hl':l ≠ i:=fun z=>hc ⟨z,eJ hi⟩
   obtain ⟨v,r,h⟩:=A.env l m t e
   have nea:∀ b,Fs l b -> b ≠ a:=fun b q z=>hl' (A.gd.dis l i a (z ▸ q) ha)
   exact ⟨v,((r.keep (stay fun b hb z=>nza (z ▸ hb)) (fun _ z=>z) fun b o hb e=>keep b o e (nea b hb)).zmono fun b h=>.inl h).mono fun b h=>.inr ⟨hl',h⟩,h⟩
 ·rcases z with z | z
  ·exact nZ b (hR b h).1 z
  ·exact z.2.2.2 h
 ·rcases eg b q with ⟨j,hj,y⟩ | y | y
  ·rcases (hR b h).1 with z | z
   ·exact hj (A.gd.dis j i b y z)
   ·exact A.dis b z ⟨j,y⟩
  ·exact hRG b h y
  ·exact (hR b h).2 y
 ·rcases h with h | h
  ·rcases eg b h with ⟨j,_,q⟩ | q | q
   ·exact .inl (.inl ⟨j,q⟩)
   ·exact .inl ((hg b q).1.imp (fun z=>⟨i,z⟩) id)
   ·exact .inl (.inl (q ▸ hta))
  ·exact .inl ((hR b h).1.imp (fun z=>⟨i,z⟩) id)
theorem change {i:Nat} {a:Addr} {ts':List T} {xs':List V} {m':Md} (hm:m' ≠ .s) (A:At K ⟨sf,pv⟩ σ Z H Fs η G) {w0:W} (hi:rd η i = some w0) (ha:Fs i a) (hx:∀ j,sf i = some j -> σ[j]? = some (some (.ref a))) (hl:xs'.length <= LIM) (hpv:∀ u,pv i = some u -> V.ref a = u)
  (hg:∀ b,G' b -> (Fs i b \/ G b) /\ b ≠ a) (p:RepL K (fun b=>Z b \/ ((Fs i b \/ G b) /\ b ≠ a /\ ¬ G' b)) H m'.kid ts' xs' G') {Q:Hp -> Prop}
  (k:∀ Z' Fs',At K ⟨sf,pv⟩ σ Z' (upd H a (.lst xs')) Fs' (M.put η i (m',.lst ts')) no -> Step Z H (fun b=>tot Fs b \/ G b) Z' (upd H a (.lst xs')) (tot Fs') -> Q (upd H a (.lst xs'))):Q (upd H a (.lst xs')) :=
 lG (R:=no) hm A hi ha hx hl hpv hg (fun _ z=>z.elim) (fun _ z=>z.elim) (p.zmono fun b h=>h.imp id fun q=>⟨q.1,q.2.1,q.2.2,fun z=>z⟩) fun Z' Fs' B s _=>k Z' Fs' B (s.mono (fun _ z=>z) fun _ z=>.inl z)
end
end MR
namespace MR
open L2 L3 M
open PySem (Addr Str sizeLine)
section
variable {K:PySem.W.Frag} {sl:Cf} {sf sg:Nat -> Option Nat} {C:Call} {σ σ2:L2.St} {Z Z' Z1:Fp} {H H' H1:Hp} {Fs Fs' Fs1:Fps} {η η' η1 ηb:Env} {G G' G1 R F F':Fp} {tg is vs ls io:List Nat} {pv val:Nat -> Option V} {D:bY}
theorem kh {o:Option W} {u:Unit} (h:fA o = .ok u):∃ m ts,o = some (m,.lst ts):=by
 cases o with
 | none=>cases h
 | some w =>
  obtain ⟨m,t⟩:=w
  cases t with
  | lst ts=>exact ⟨m,ts,rfl⟩
  | _=>cases h
theorem At.listAt {i j:Nat} {m:Md} {ts:List T} (hs:sf i = some j) (A:At K ⟨sf,pv⟩ σ Z H Fs η G) (h:rd η i = some (m,.lst ts)):∃ a xs,σ[j]? = some (some (.ref a)) /\ H a = some (.lst xs):=by
 obtain ⟨v,r,hl,_⟩:=A.env i m _ h
 obtain ⟨a,xs,rfl,hx,_⟩:=a0 r
 exact ⟨a,xs,hl j hs,hx⟩
theorem At.ourList {i j:Nat} {a:Addr} {m:Md} {ts:List T} (hs:sf i = some j) (hm:m ≠ .s) (hj:σ[j]? = some (some (.ref a))) (A:At K ⟨sf,pv⟩ σ Z H Fs η G) (h:rd η i = some (m,.lst ts)) :
  ∃ xs,xs.length <= LIM /\ Fs i a /\ H a = some (.lst xs) /\ RepL K Z H m.kid ts xs (fun b=>Fs i b /\ b ≠ a) /\ (∀ u,pv i = some u -> V.ref a = u):=by
 obtain ⟨v,r,hl,hp⟩:=A.env i m _ h
 have e:=hl j hs
 rw [hj] at e
 cases e
 obtain ⟨b,xs,e,l,g,hx,p⟩:=iN hm r
 cases e
 exact ⟨xs,l,g,hx,p,hp⟩
theorem pO {u w r:W} (h:gI u w = some r):∃ m ts,u = (m,.lst ts) /\ m ≠ .s /\ ts.length < LIM /\ r = ((m.kid.meet (lf w.1 w.2)).up,.lst (ts ++ [w.2])):=by
 obtain ⟨m,t⟩:=u
 obtain ⟨n,t'⟩:=w
 cases m with
 | s=>cases h
 | d =>
  cases t with
  | lst ts =>
   have h':(if ts.length < LIM then some ((((Md.d.kid.meet (lf n t')).up,.lst (ts ++ [t'])):W)) else none) = some r:=h
   split at h'
   ·rename_i hl; cases h'; exact ⟨.d,ts,rfl,by simp,hl,rfl⟩
   ·cases h'
  | _=>cases h
 | o m =>
  cases t with
  | lst ts =>
   have h':(if ts.length < LIM then some (((((Md.o m).kid.meet (lf n t')).up,.lst (ts ++ [t'])):W)) else none) = some r:=h
   split at h'
   ·rename_i hl; cases h'; exact ⟨.o m,ts,rfl,by simp,hl,rfl⟩
   ·cases h'
  | _=>cases h
theorem oI {u w r:W} (h:gB u w = some r):∃ m ts n us,u = (m,.lst ts) /\ w = (n,.lst us) /\ m ≠ .s /\ ts.length + us.length <= LIM /\ r = ((m.kid.meet n.kid).up,.lst (ts ++ us)):=by
 obtain ⟨m,t⟩:=u
 obtain ⟨n,t'⟩:=w
 cases m with
 | s=>cases h
 | d =>
  cases t with
  | lst ts =>
   cases t' with
   | lst us =>
    have h':(if ts.length + us.length <= LIM then some ((((Md.d.kid.meet n.kid).up,.lst (ts ++ us)):W)) else none) = some r:=h
    split at h'
    ·rename_i hl; cases h'; exact ⟨.d,ts,n,us,rfl,rfl,by simp,hl,rfl⟩
    ·cases h'
   | _=>cases h
  | _=>cases h
 | o m =>
  cases t with
  | lst ts =>
   cases t' with
   | lst us =>
    have h':(if ts.length + us.length <= LIM then some (((((Md.o m).kid.meet n.kid).up,.lst (ts ++ us)):W)) else none) = some r:=h
    split at h'
    ·rename_i hl; cases h'; exact ⟨.o m,ts,n,us,rfl,rfl,by simp,hl,rfl⟩
    ·cases h'
   | _=>cases h
  | _=>cases h
theorem oQ {u k w r:W} (h:eg u k w = some r):∃ m ts n j q,u = (m,.lst ts) /\ k = (n,.int j) /\ m ≠ .s /\ M.ixN ts.length j = some q /\ r = ((m.kid.meet (lf w.1 w.2)).up,.lst (ts.set q w.2)):=by
 obtain ⟨m,t⟩:=u
 obtain ⟨n,t'⟩:=k
 cases m with
 | s=>cases h
 | d =>
  cases t with
  | lst ts =>
   cases t' with
   | int j =>
    have h':(M.ixN ts.length j).map (fun k=>(((Md.d.kid.meet (lf w.1 w.2)).up,.lst (ts.set k w.2)):W)) = some r:=h
    cases e:M.ixN ts.length j with
    | none=>rw [e] at h'; cases h'
    | some q=>rw [e] at h'; cases h'; exact ⟨.d,ts,n,j,q,rfl,rfl,by simp,e,rfl⟩
   | _=>cases h
  | _=>cases h
 | o m =>
  cases t with
  | lst ts =>
   cases t' with
   | int j =>
    have h':(M.ixN ts.length j).map (fun k=>((((Md.o m).kid.meet (lf w.1 w.2)).up,.lst (ts.set k w.2)):W)) = some r:=h
    cases e:M.ixN ts.length j with
    | none=>rw [e] at h'; cases h'
    | some q=>rw [e] at h'; cases h'; exact ⟨.o m,ts,n,j,q,rfl,rfl,by simp,e,rfl⟩
   | _=>cases h
  | _=>cases h
theorem qD {a:Addr} {m:Md} {ts:List T} {xs:List V} {w:W} {y:V} {A0:Fp} (hA:∀ b,A0 b -> b ≠ a) (hG:∀ b,G b -> b ≠ a) (d:∀ b,A0 b -> ¬ G b) (p:RepL K Z H m ts xs A0) (r:Rep K Z H w.1 w.2 y G) :
  ∃ G',(∀ b,G' b -> (A0 b \/ G b) /\ b ≠ a) /\ RepL K (fun b=>Z b \/ ((A0 b \/ G b) /\ b ≠ a /\ ¬ G' b)) H (m.meet (lf w.1 w.2)) (ts ++ [w.2]) (xs ++ [y]) G':=by
 obtain ⟨G',g1,g2⟩:=eD (G:=fun b=>A0 b \/ G b) (fun _ z=>.inl z) (fun _ z=>.inr z) d p (RepL.one r.lf)
 have ne:∀ b,(A0 b \/ G b) -> b ≠ a:=fun b h=>h.elim (hA b) (hG b)
 exact ⟨G',fun b h=>⟨g1 b h,ne b (g1 b h)⟩,g2.zmono fun b h=>h.imp id fun q=>⟨q.1,ne b q.1,q.2⟩⟩
theorem yu {x:X} {i j:Nat} {e:E} (hs:sf i = some j) (D:bY) (σ:L2.St) (H:Hp) (h:wS K sf io C (.app x i e) D σ H) :
  ∃ a xs,σ[j]? = some (some (.ref a)) /\ H a = some (.lst xs) /\ wE K sf C e σ H fun y H1=>∃ xs,H1 a = some (.lst xs) /\ xs.length < sizeLine /\ D.nx σ (upd H1 a (.lst (xs ++ [y]))):=by
 obtain ⟨pv,Z,Fs,η,N,A,f⟩:=h
 obtain ⟨u,h0,h1⟩:=bh (show Fin K ⟨sf,pv⟩ Z H (tot Fs) D (Fl.of η (fA (rd η i)) (kP (evX C x e) η (pj i))) from f)
 obtain ⟨m0,t0,h00⟩:=kh h0
 obtain ⟨a,xs0,hj,ha⟩:=A.listAt hs h00
 obtain ⟨⟨w,η1⟩,h2,h3⟩:=bh (show Fin K ⟨sf,pv⟩ Z H (tot Fs) D (Fl.of η (evX C x e η) (pj i)) from h1)
 obtain ⟨η2,h4,h5⟩:=fJ (show Fin K ⟨sf,pv⟩ Z H (tot Fs) D (nxO η1 (((rd η1 i).bind fun u=>gI u w).map fun u=>M.put η1 i u)) from h3)
 refine ⟨a,xs0,hj,ha,jl (sl:=⟨sf,pv⟩) A h2 fun y Z' H' Fs' G B r s=>?_⟩
 cases e1:rd η1 i with
 | none=>rw [e1] at h4; cases h4
 | some u1 =>
  rw [e1] at h4
  cases e2:gI u1 w with
  | none=>rw [show (some u1).bind (fun u=>gI u w) = gI u1 w from rfl,e2] at h4; cases h4
  | some r1 =>
   rw [show (some u1).bind (fun u=>gI u w) = gI u1 w from rfl,e2] at h4
   cases h4
   obtain ⟨m,ts,rfl,hm,hlen,rfl⟩:=pO e2
   obtain ⟨xs,hl,hf,hx,p,hpv⟩:=B.ourList hs hm hj e1
   have e3:=p.length
   obtain ⟨G',g1,g2⟩:=qD (a:=a) (fun b h=>h.2) (fun b h z=>B.dis b h ⟨i,z ▸ hf⟩) (fun b h q=>B.dis b q ⟨i,h.1⟩) p r
   refine ⟨xs,hx,lx hl,?_⟩
   refine change (K:=K) (m':=(m.kid.meet (lf w.1 w.2)).up) (a8 _) B e1 hf (fun k hk=>by rw [show sf i = some k from hk] at hs; cases hs; exact hj) (by rw [List.length_append,e3,List.length_singleton]; omega) hpv (fun b h=>⟨(g1 b h).1.imp And.left id,(g1 b h).2⟩) (ts':=ts ++ [w.2]) (by rw [bV]; exact g2.zmono fun b h=>h.imp id fun q=>⟨q.1.imp And.left id,q.2⟩) fun Z2 Fs2 B2 s2=>h5 σ Z2 _ Fs2 B2 (s.trans s2)
theorem wc {x:X} {i j:Nat} {e:E} (hs:sf i = some j) (D:bY) (σ:L2.St) (H:Hp) (h:wS K sf io C (.ext x i e) D σ H) :
  ∃ a xs,σ[j]? = some (some (.ref a)) /\ H a = some (.lst xs) /\ wE K sf C e σ H fun y H1=>∃ b xs zs,y = .ref b /\ H1 a = some (.lst xs) /\ H1 b = some (.lst zs) /\ xs.length + zs.length <= sizeLine /\ D.nx σ (upd H1 a (.lst (xs ++ zs))):=by
 obtain ⟨pv,Z,Fs,η,N,A,f⟩:=h
 obtain ⟨u,h0,h1⟩:=bh (show Fin K ⟨sf,pv⟩ Z H (tot Fs) D (Fl.of η (fA (rd η i)) (kP (evX C x e) η (ot i))) from f)
 obtain ⟨m0,t0,h00⟩:=kh h0
 obtain ⟨a,xs0,hj,ha⟩:=A.listAt hs h00
 obtain ⟨⟨w,η1⟩,h2,h3⟩:=bh (show Fin K ⟨sf,pv⟩ Z H (tot Fs) D (Fl.of η (evX C x e η) (ot i)) from h1)
 obtain ⟨η2,h4,h5⟩:=fJ (show Fin K ⟨sf,pv⟩ Z H (tot Fs) D (nxO η1 (((rd η1 i).bind fun u=>gB u w).map fun u=>M.put η1 i u)) from h3)
 refine ⟨a,xs0,hj,ha,jl (sl:=⟨sf,pv⟩) A h2 fun y Z' H' Fs' G B r s=>?_⟩
 cases e1:rd η1 i with
 | none=>rw [e1] at h4; cases h4
 | some u1 =>
  rw [e1] at h4
  cases e2:gB u1 w with
  | none=>rw [show (some u1).bind (fun u=>gB u w) = gB u1 w from rfl,e2] at h4; cases h4
  | some r1 =>
   rw [show (some u1).bind (fun u=>gB u w) = gB u1 w from rfl,e2] at h4
   cases h4
   obtain ⟨m,ts,n,us,rfl,rfl,hm,hlen,rfl⟩:=oI e2
   obtain ⟨xs,hl,hf,hx,p,hpv⟩:=B.ourList hs hm hj e1
   obtain ⟨b,zs,rfl,hb,hl2,p2⟩:=a0 r
   have e3:=p.length
   have e4:=p2.length
   have hG:∀ b,G b -> b ≠ a:=fun b h z=>B.dis b h ⟨i,z ▸ hf⟩
   obtain ⟨G',g1,g2⟩:=eD (G:=fun b=>(Fs' i b /\ b ≠ a) \/ G b) (fun _ z=>.inl z) (fun _ z=>.inr z) (fun b h q=>B.dis b q ⟨i,h.1⟩) p p2
   have ne:∀ b,((Fs' i b /\ b ≠ a) \/ G b) -> b ≠ a:=fun b h=>h.elim And.right (hG b)
   refine ⟨b,xs,zs,rfl,hx,hb,bx (by omega),?_⟩
   refine change (K:=K) (m':=(m.kid.meet n.kid).up) (a8 _) B e1 hf (fun k hk=>by rw [show sf i = some k from hk] at hs; cases hs; exact hj) (by rw [List.length_append]; omega) hpv (fun b h=>⟨(g1 b h).imp And.left id,ne b (g1 b h)⟩) (ts':=ts ++ us) (by rw [bV]; exact g2.zmono fun b h=>h.imp id fun q=>⟨q.1.imp And.left id,ne b q.1,q.2⟩) fun Z2 Fs2 B2 s2=>h5 σ Z2 _ Fs2 B2 (s.trans s2)
theorem RepL.setAt:∀ {ts:List T} {xs:List V} {A0 G0 G:Fp} {q:Nat} {t:T} {y:V} {m:Md},(∀ b,A0 b -> G b) -> (∀ b,G0 b -> G b) -> (∀ b,A0 b -> ¬ G0 b) -> RepL K Z H m ts xs A0 -> Rep K Z H m t y G0 -> RepL K Z H m (ts.set q t) (xs.set q y) G
 | [],xs,A0,G0,G,q,t,y,m,w1,w2,d,h,r=>by rw [show xs = [] from h]; exact rfl
 | u :: ts,xs,A0,G0,G,0,t,y,m,w1,w2,d,⟨x,r',A,B,e,h1,h2,hd,p,q⟩,r=>by
  rw [e]
  exact ⟨y,r',G0,B,rfl,w2,fun a h=>w1 a (h2 a h),fun a h q=>d a (h2 a q) h,r,q⟩
 | u :: ts,xs,A0,G0,G,n + 1,t,y,m,w1,w2,d,⟨x,r',A,B,e,h1,h2,hd,p,q⟩,r=>by
  rw [e]
  refine ⟨x,r'.set n y,A,fun a=>B a \/ G0 a,rfl,fun a h=>w1 a (h1 a h),fun a h=>h.elim (fun z=>w1 a (h2 a z)) (w2 a),fun a h q=>q.elim (hd a h) (d a (h1 a h)),p,?_⟩
  exact RepL.setAt (fun _ z=>.inl z) (fun _ z=>.inr z) (fun b h=>d b (h2 b h)) q r
theorem fT (vs:List Nat) (η:Env):Nn η (M.share vs η):=fun i e=>by
 rw [gA]; split
 ·rw [e]; rfl
 ·exact e
theorem yf {x:X} {e:E} {w:W} (h:evX C x e η = .ok (w,η')):Nn η η':=by
 cases x with
 | q vs ls =>
  obtain ⟨⟨u,η2⟩,h1,h2⟩:=aa (show (evE C e (dW vs ls η)).bind (kX vs η) = _ from h)
  cases h2
  show Nn η (after (M.lf u.1 u.2) vs η)
  cases hm:M.lf u.1 u.2 with
  | d=>intro i e; exact e
  | s=>exact fT vs η
  | o m=>exact fT vs η
 | l vs=>exact (fT vs η).trans (ay e h)
theorem uh {x:X} {i j:Nat} {k e:E} (hs:sf i = some j) (D:bY) (σ:L2.St) (H:Hp) (h:wS K sf io C (.setI x i k e) D σ H) :
  wE K sf C e σ H fun y H1=>mY j σ H1 fun o H1=>wE K sf C k σ H1 fun z H2=>∃ a xs n q,o = .ref a /\ z = .int n /\ H2 a = some (.lst xs) /\ L2.ixN xs.length n = some q /\ D.nx σ (upd H2 a (.lst (xs.set q y))):=by
 obtain ⟨pv,Z,Fs,η,N,A,f⟩:=h
 obtain ⟨⟨w,η1⟩,h2,h3⟩:=bh (show Fin K ⟨sf,pv⟩ Z H (tot Fs) D (Fl.of η (evX C x e η) (sU i (evX C x k) η)) from f)
 obtain ⟨⟨kw,η2⟩,h6,h7⟩:=bh (show Fin K ⟨sf,pv⟩ Z H (tot Fs) D (Fl.of η (evX C x k η1) (qA i w)) from h3)
 obtain ⟨η3,h4,h5⟩:=fJ (show Fin K ⟨sf,pv⟩ Z H (tot Fs) D (nxO η2 (((rd η2 i).bind fun u=>eg u kw w).map fun u=>M.put η2 i u)) from h7)
 refine jl (sl:=⟨sf,pv⟩) A h2 fun y Z' H' Fs' G B r s=>?_
 cases e1:rd η2 i with
 | none=>rw [e1] at h4; cases h4
 | some u1 =>
  rw [e1] at h4
  cases e2:eg u1 kw w with
  | none=>rw [show (some u1).bind (fun u=>eg u kw w) = eg u1 kw w from rfl,e2] at h4; cases h4
  | some r1 =>
   rw [show (some u1).bind (fun u=>eg u kw w) = eg u1 kw w from rfl,e2] at h4
   cases h4
   obtain ⟨m,ts,n,jj,q,rfl,rfl,hm,hq,rfl⟩:=oQ e2
   have n1:rd η1 i ≠ none:=fun z=>by rw [yf h6 i z] at e1; cases e1
   cases e3:rd η1 i with
   | none=>exact absurd e3 n1
   | some u3 =>
    obtain ⟨v3,r3,l3,p3⟩:=B.env i u3.1 u3.2 e3
    refine ⟨v3,l3 j hs,jl (sl:=⟨sf,pv⟩) B.bare h6 fun z Z2 H2 Fs2 G2 B2 rz s2=>?_⟩
    obtain ⟨B3,s3,d3⟩:=B.frame B2 s2
    have r':=r.frame B.gd.own s2 B.dis
    have B4:=B3.mono (G':=G) fun _ z=>.inl z
    obtain ⟨v4,r4,l4,p4⟩:=B4.env i m _ e1
    have hv:v3 = v4:=by have e5:=l3 j hs; have e6:=l4 j hs; rw [e5] at e6; cases e6; rfl
    subst hv
    obtain ⟨a,xs,rfl,hl,hf,hx,p⟩:=iN hm r4
    have e7:=p.length
    obtain ⟨A1,a1,a2⟩:=RepL.weak (cJ m.kid (lf w.1 w.2)).1 p
    obtain ⟨A2,b1,b2⟩:=Rep.weak (cJ m.kid (lf w.1 w.2)).2 r'.lf
    have dis:∀ b,(Fs2 i b /\ b ≠ a) -> ¬ G b:=fun b h q=>B4.dis b q ⟨i,h.1⟩
    have hG:∀ b,G b -> b ≠ a:=fun b h z=>B4.dis b h ⟨i,z ▸ hf⟩
    refine ⟨a,xs,jj,q,rfl,show z = _ from rz,hx,by rw [e7]; exact hq,?_⟩
    refine change (K:=K) (G':=fun b=>A1 b \/ A2 b) (m':=(m.kid.meet (lf w.1 w.2)).up) (a8 _) B4 e1 hf (fun k hk=>by rw [show sf i = some k from hk] at hs; cases hs; exact l3 _ hk) (by rw [List.length_set]; exact hl) p4 (fun b h=>h.elim (fun z=>⟨.inl (a1 b z).1,(a1 b z).2⟩) fun z=>⟨.inr (b1 b z),hG b (b1 b z)⟩) (ts':=ts.set q w.2) ?_ fun Z5 Fs5 B5 s5=>h5 σ Z5 _ Fs5 B5 ((s.trans (s3.mono (fun _ z=>z) fun b h=>h.imp id .inl)).trans s5)
    rw [bV]
    refine RepL.setAt (A0:=A1) (G0:=A2) (fun _ z=>.inl z) (fun _ z=>.inr z) (fun b h q=>dis b (a1 b h) (b1 b q)) (a2.zmono fun b h=>?_) (b2.zmono fun b h=>?_)
    ·exact h.imp id fun q=>⟨.inl q.1.1,q.1.2,fun z=>z.elim q.2 fun z=>dis b q.1 (b1 b z)⟩
    ·exact h.imp id fun q=>⟨.inr q.1,hG b q.1,fun z=>z.elim (fun z=>dis b (a1 b z) q.1) q.2⟩
theorem qI {u:W} {ws:List W} {r:W × W} (h:iO u ws = some r):∃ m ts,u = (m,.lst ts) /\ m ≠ .s /\ ((ws = [] /\ ∃ t,ts.getLast? = some t /\ r = ((m.kid,t),(m,.lst ts.dropLast))) \/ (∃ n t us,ws = [(n,.int 0)] /\ ts = t :: us /\ r = ((m.kid,t),(m,.lst us)))):=by
 obtain ⟨m,t⟩:=u
 have key:∀ m:Md,m ≠ .s -> iO (m,t) ws = some r -> ∃ m' ts,(m,t) = (m',.lst ts) /\ m' ≠ .s /\ ((ws = [] /\ ∃ t,ts.getLast? = some t /\ r = ((m'.kid,t),(m',.lst ts.dropLast))) \/ (∃ n t us,ws = [(n,.int 0)] /\ ts = t :: us /\ r = ((m'.kid,t),(m',.lst us)))):=fun m hm h=>by
  unfold iO at h
  split at h
  ·cases h
  ·rename_i m1 ts1 hq1 hq2 hq3
   cases hq2
   cases e:ts1.getLast? with
   | none=>rw [e] at h; cases h
   | some t=>rw [e] at h; cases h; exact ⟨_,ts1,rfl,hm,.inl ⟨rfl,t,e,rfl⟩⟩
  ·rename_i m1 t1 ts1 n1 hq1 hq2 hq3
   cases hq2
   cases h
   exact ⟨_,_,rfl,hm,.inr ⟨_,_,_,rfl,rfl,rfl⟩⟩
  ·cases h
 cases m with
 | s=>cases h
 | d=>exact key .d (by simp) h
 | o m=>exact key (.o m) (by simp) h
theorem va {i j:Nat} {b:E} (hs:sf i = some j) (hb:b = .cst (.int 0)) (σ:L2.St) (H:Hp) (Q:VK) (h:wE K sf C (.pop i [b]) σ H Q):∃ a xs y,σ[j]? = some (some (.ref a)) /\ H a = some (.lst (y :: xs)) /\ Q y (upd H a (.lst xs)):=by
 subst hb
 obtain ⟨pv,Z,Fs,η,w,η',A,ev,k⟩:=h
 obtain ⟨_,_,h0⟩:=aa (show (fA (rd η i)).bind (jH (evL C [.cst (.int 0)]) η (nH i)) = _ from ev)
 obtain ⟨r,h3,h4⟩:=aa (show (ofO ((rd η i).bind fun w=>iO w [(.d,.int 0)])).bind (fun r=>.ok (r.1,M.put η i r.2)) = _ from h0)
 cases h4
 have h5:=cf h3
 cases e1:rd η i with
 | none=>rw [e1] at h5; cases h5
 | some u =>
  rw [e1] at h5
  obtain ⟨m,ts,rfl,hm,⟨e,_⟩ | ⟨n,t,us,_,rfl,rfl⟩⟩:=qI (show iO u [(.d,.int 0)] = some r from h5)
  ·cases e
  ·obtain ⟨v,r4,l4,p4⟩:=A.env i m _ e1
   obtain ⟨a,xs,rfl,hl,hf,hx,p⟩:=iN hm r4
   obtain ⟨y,xs1,G2,G1,rfl,g2,g1,d,ry,p1⟩:=p
   refine ⟨a,xs1,y,l4 j hs,hx,?_⟩
   have hl1:xs1.length <= LIM:=by rw [List.length_cons] at hl; omega
   refine lG (K:=K) (G':=G1) (R:=G2) (Q:=fun H'=>Q y H') hm A e1 hf (fun k hk=>l4 k hk) hl1 p4 (fun b h=>⟨.inl (g1 b h).1,(g1 b h).2⟩) (fun b h=>⟨.inl (g2 b h).1,(g2 b h).2⟩) (fun b h z=>d b h z) (ts':=us) (p1.zmono fun b h=>.inl h) fun Z' Fs' B s tr=>?_
   exact k y Z' _ Fs' G2 B (tr (ry.zmono fun b h=>.inl h)) (s.mono (fun b h=>h.elim id fun z=>z.elim) fun _ z=>z)
end
end MR
namespace MR
open L2 L3 M
open PySem (Addr Str sizeLine)
section
variable {K:PySem.W.Frag} {sl:Cf} {sf sg:Nat -> Option Nat} {C:Call} {σ σ2:L2.St} {Z Z' Z1:Fp} {H H' H1:Hp} {Fs Fs' Fs1:Fps} {η η' η1 ηb:Env} {G G' G1 R F F':Fp} {tg is vs ls io:List Nat} {pv val:Nat -> Option V} {D:bY}
def gF (K:PySem.W.Frag):List Nat -> TG
 | [j]=>bM j
 | [j,l]=>pA K 2 (dY (bM j) (dY (bM l) pR))
 | _=>fun _ _ _ _=>False
theorem qe {fl:Fl} {g:Env -> Fl} (f:Fin K sl Z H F D (Fl.turn fl g)):(∃ η',fl = .nx η' /\ Fin K sl Z H F D (g η')) \/ (∃ η',fl = .bk η' /\ Fin K sl Z H F D (.nx η')) \/ (∃ w η',fl = .rt w η' /\ Fin K sl Z H F D (.rt w η')):=by
 cases fl with
 | nx η=>exact .inl ⟨η,rfl,f⟩
 | bk η=>exact .inr (.inl ⟨η,rfl,f⟩)
 | rt w η=>exact .inr (.inr ⟨w,η,rfl,f⟩)
 | ex c x η=>exact f.elim
 | no=>exact f.elim
theorem ka {fl:Fl} {g:Env -> Fl} {N:L2.St -> Hp -> Prop} (f:Fin K sl Z H F D (Fl.turn fl g)) (hN:∀ η' σ' Z' H' Fs',fl = .nx η' -> Fin K sl Z H F D (g η') -> At K sl σ' Z' H' Fs' η' no -> Step Z H F Z' H' (tot Fs') -> N σ' H'):Fin K sl Z H F { D with nx:=N,ct:=N,bk:=D.nx } fl:=by
 rcases qe f with ⟨η',rfl,f⟩ | ⟨η',rfl,f⟩ | ⟨w,η',rfl,f⟩
 ·exact fun σ' Z' H' Fs' A s=>hN η' σ' Z' H' Fs' rfl f A s
 ·exact f
 ·exact f
theorem pw {n i:Nat} {J:It} {ts:List (List W)} {ws:List W} {js:List Nat} {x:V} {Q:L2.St -> Hp -> Prop} (hn:tg.length = n) (nd:tg.Nodup) (N:oG sf io pv) (hio:∀ t ∈ tg,t ∉ io) (hjs:tg.map sf = js.map some) (hz:∀ a,Z1 a -> Z a) (st:Stay Z1 H1 H) (yl:Yld K J Z1 H1 ts n) (A:At K ⟨sf,pv⟩ σ Z H Fs η no)
  (hw:ts[i]? = some ws) (hb:aJ tg ws η = some ηb) (y:J.yld i H x H') (k:∀ σ2 H2 Fs2,At K ⟨sf,pv⟩ σ2 Z H2 Fs2 ηb no -> Step Z H (tot Fs) Z H2 (tot Fs2) -> Q σ2 H2):gF K js x σ H' Q:=by
 have hi:i < ts.length:=(List.getElem?_eq_some_iff.mp hw).1
 match n,yl with
 | 1,yl =>
  obtain ⟨e0,w,hw',r⟩:=yl H i x H' st hi y
  rw [e0]
  rw [hw] at hw'; cases hw'
  match tg,hn,js,hjs with
  | [t],_,[j],hjs =>
   cases hb
   have hs:sf t = some j:=by simpa using hjs
   exact k _ H _ (At.set N (hio t (by simp)) hs A (r.zmono hz)) ((Step.refl _ _ _).mono (fun _ z=>z) fun a h=>(bf h).elim id fun z=>z.elim)
  | [t],_,[],hjs=>simp at hjs
  | [t],_,_ :: _ :: _,hjs=>simp at hjs
 | 2,yl =>
  obtain ⟨p,y1,z1,u,w,rfl,sm,hq,hw',r1,r2⟩:=yl H i x H' st hi y
  rw [hw] at hw'; cases hw'
  match tg,hn,js,hjs with
  | [t,t'],_,[j,j'],hjs =>
   cases hb
   have hs:sf t = some j:=by simp at hjs; exact hjs.1
   have hs':sf t' = some j':=by simp at hjs; exact hjs.2
   have s0:Step Z H no Z H' no:=gk sm
   obtain ⟨A1,s1⟩:=A.op cj s0
   have sn:Stay Z H H':=jG sm
   have r1':Rep K Z H' u.1 u.2 y1 no:=(r1.zmono hz).keep sn (fun _ z=>z) fun _ _ z=>z.elim
   have r2':Rep K Z H' w.1 w.2 z1 no:=(r2.zmono hz).keep sn (fun _ z=>z) fun _ _ z=>z.elim
   have A2:=At.set N (hio t (by simp)) hs A1 r1'
   have A3:=At.set N (hio t' (by simp)) hs' A2 r2'
   refine ⟨p,[y1,z1],rfl,hq,rfl,y1,[z1],rfl,z1,[],rfl,rfl,k _ _ _ A3 (s1.mono (fun a h=>h.elim id fun z=>z.elim) fun a h=>?_)⟩
   rcases bf h with h | h
   ·exact .inl ((bf h).elim id fun z=>z.elim)
   ·exact h.elim
  | [t,t'],_,[],hjs=>simp at hjs
  | [t,t'],_,[_],hjs=>simp at hjs
  | [t,t'],_,_ :: _ :: _ :: _,hjs=>simp at hjs
theorem oD {n:Nat} {k:Ik} {src:List E} {js:List Nat} {body:List S} (hn:tg.length = n) (nd:tg.Nodup) (hio:∀ t ∈ tg,t ∉ io) (hjs:tg.map sf = js.map some) (D:bY) (σ:L2.St) (H:Hp) (h:wS K sf io C (.forS vs ls k src tg body) D σ H) :
  Br (wI K sf C n k src) (gF K js) (wSs K sf io C body) D σ H:=by
 obtain ⟨pv,Z,Fs,η,N,A,f⟩:=h
 obtain ⟨⟨ws,η2⟩,h1,h2⟩:=bh (show Fin K ⟨sf,pv⟩ Z H (tot Fs) D (Fl.of η (evL C src (dW vs ls η)) (sy vs k tg (evSs C body) η)) from f)
 obtain ⟨⟨ts,η3⟩,h3,h4⟩:=bh (show Fin K ⟨sf,pv⟩ Z H (tot Fs) D (Fl.of η (ret (M.share vs η) (turns k ws)) (n5 tg (evSs C body))) from h2)
 obtain ⟨ts',ht,e3⟩:=av h3
 have e4:ts = ts':=congrArg Prod.fst e3
 have e5:η3 = M.share vs η:=congrArg Prod.snd e3
 subst e4 e5
 have h4':Fin K ⟨sf,pv⟩ Z H (tot Fs) D (dX tg (evSs C body) ts (M.share vs η)):=h4
 refine ⟨pv,_,qO,_,ws,η2,ts,A.quiet (vs:=vs) (ls:=ls),h1,ht,fun J Z1 H1 Fs1 B s wk yl=>?_⟩
 obtain ⟨B1,s1⟩:=ed (G:=no) A cj B.gd.zal (s.mono (F2:=fun a=>tot Fs1 a \/ no a) (fun _ z=>z) fun a h=>h.elim id fun z=>z.elim) fun a h=>iE h
 obtain ⟨B2,s2⟩:=B1.share (vs:=vs)
 have s3:=(s2 s1).mono (F2:=tot (fB Fs vs)) (fun _ z=>z) fun _ z=>.inl z
 have zz:∀ a,Z1 a -> ((Z1 a /\ ¬ cR Fs vs a) \/ cR Fs vs a):=fun a h=>(Classical.em (cR Fs vs a)).elim .inr fun q=>.inl ⟨h,q⟩
 refine ⟨fun i m σ' H'=>m = ts.length - i /\ i <= ts.length /\ ∃ Zi Fsi ηi,At K ⟨sf,pv⟩ σ' Zi H' Fsi ηi no /\ Step (fun a=>(Z1 a /\ ¬ cR Fs vs a) \/ cR Fs vs a) H1 (tot (fB Fs vs)) Zi H' (tot Fsi) /\ Fin K ⟨sf,pv⟩ Zi H' (tot Fsi) D (dX tg (evSs C body) (ts.drop i) ηi),⟨ts.length,by simp,Nat.zero_le _,_,_,_,B2,Step.refl _ _ _,h4'.step s3⟩,?_⟩
 rintro i m σi H0 ⟨rfl,hi,Zi,Fsi,ηi,Ai,si,fi⟩
 have st:Stay Z1 H1 H0:=by
  have:=B2.gd.own.stay si
  exact ⟨fun a o h=>this.1 a o (zz a h),this.2⟩
 by_cases hlt:i < ts.length
 ·right
  refine ⟨wk.go H0 i st hlt,_,fun σ' H' hw=>⟨ts.length - (i + 1),by omega,hw⟩,fun x H' y=>?_⟩
  have hw:ts[i]? = some ts[i]:=by simp [hlt]
  rw [il hw] at fi
  obtain ⟨ηb,hb,fb⟩:=bh (show Fin K ⟨sf,pv⟩ Zi H0 (tot Fsi) D (Fl.of ηi (ofO (aJ tg ts[i] ηi)) fun η1=>Fl.turn (evSs C body η1) (dX tg (evSs C body) (ts.drop (i + 1)))) from fi)
  refine pw hn nd N hio hjs (fun a h=>si.zm a (zz a h)) st yl Ai hw (cf hb) y fun σ2 H2 Fs2 A2 t2=>?_
  refine ⟨pv,Zi,Fs2,ηb,N,A2,ka (fb.step t2) fun η' σ' Z' H' Fs' _ f' A' s'=>⟨rfl,hlt,Z',Fs',η',A',(si.trans t2).trans s',f'.step s'⟩⟩
 ·left
  have hi':i = ts.length:=by omega
  subst hi'
  rw [List.drop_length] at fi
  exact ⟨wk.stop H0 _ st (Nat.le_refl _),fi σi Zi H0 Fsi Ai (Step.refl _ _ _)⟩
theorem xr {x:X} {c:E} {body:List S} (D:bY) (σ:L2.St) (H:Hp) (h:wS K sf io C (.whl x c body) D σ H):pT (wT K sf C c) (wSs K sf io C body) D σ H:=by
 obtain ⟨pv,Z,Fs,η,N,A,f⟩:=h
 have f':Fin K ⟨sf,pv⟩ Z H (tot Fs) D (j3 (evT C x c) (evSs C body) nE η):=f
 refine ⟨fun m σ' H'=>∃ Z' Fs' η',At K ⟨sf,pv⟩ σ' Z' H' Fs' η' no /\ Fin K ⟨sf,pv⟩ Z' H' (tot Fs') D (j3 (evT C x c) (evSs C body) m η'),⟨nE,Z,Fs,η,A,f'⟩,?_⟩
 rintro m σ1 H1 ⟨Z1,Fs1,η1,A1,f1⟩
 cases m with
 | zero=>exact f1.elim
 | succ m =>
  obtain ⟨⟨b,η2⟩,h1,h2⟩:=bh (show Fin K ⟨sf,pv⟩ Z1 H1 (tot Fs1) D (Fl.of η1 (evT C x c η1) (kIf (rk (evSs C body) (j3 (evT C x c) (evSs C body) m)) .nx)) from f1)
  refine AF (sl:=⟨sf,pv⟩) A1 h1 fun Z2 H2 Fs2 B s=>?_
  cases b with
  | true =>
   rw [if_pos rfl]
   refine ⟨_,fun σ' H' hw=>⟨m,Nat.lt_succ_self m,hw⟩,pv,Z2,Fs2,η2,N,B,ka (Fin.step s (show Fin K ⟨sf,pv⟩ Z1 H1 (tot Fs1) D (Fl.turn (evSs C body η2) (j3 (evT C x c) (evSs C body) m)) from h2)) fun η' σ' Z' H' Fs' _ f' A' s'=>⟨Z',Fs',η',A',f'.step s'⟩⟩
  | false =>
   rw [if_neg Bool.false_ne_true]
   exact (show Fin K ⟨sf,pv⟩ Z1 H1 (tot Fs1) D (.nx η2) from h2) σ1 Z2 H2 Fs2 B s
theorem sH {x:X} {t t' j j':Nat} {e:E} (hne:t ≠ t') (hi:t ∉ io) (hi':t' ∉ io) (hs:sf t = some j) (hs':sf t' = some j') (D:bY) (σ:L2.St) (H:Hp) (h:wS K sf io C (.asgT x [t,t'] e) D σ H) :
  kO (wE K sf C e) (pA K 2 (dY (bM j) (dY (bM j') pR))) D σ H:=by
 obtain ⟨pv,Z,Fs,η,N,A,f⟩:=h
 obtain ⟨⟨w,η1⟩,h1,h2⟩:=bh (show Fin K ⟨sf,pv⟩ Z H (tot Fs) D (Fl.of η (evX C x e η) (mC [t,t'])) from f)
 obtain ⟨η2,h3,h4⟩:=fJ (show Fin K ⟨sf,pv⟩ Z H (tot Fs) D (nxO η1 ((xj w).bind fun ws=>aJ [t,t'] ws η1)) from h2)
 refine jl (sl:=⟨sf,pv⟩) A h1 fun v Z' H' Fs' G B r s=>?_
 obtain ⟨m,t0⟩:=w
 cases t0 with
 | tup ts =>
  have h3':aJ [t,t'] (ts.map fun t=>(m.kid,t)) η1 = some η2:=h3
  match ts,h3' with
  | [a,b],h3' =>
   cases h3'
   obtain ⟨p,xs,rfl,hq,hl,y1,r1,G1,G2,rfl,g1,g2,d,p1,y2,r2,G3,G4,e2,g3,g4,d2,p2,q⟩:=r
   cases e2
   obtain rfl:r2 = []:=q
   have B1:=At.setR (w:=(m.kid,a)) (R:=G3) N hi hs B p1 g1 (fun a h=>g2 a (g3 a h)) (fun a h z=>d a z (g3 a h))
   have B2:=At.set (w:=(m.kid,b)) N hi' hs' B1 p2
   refine ⟨p,[y1,y2],rfl,hq,rfl,y1,[y2],rfl,y2,[],rfl,rfl,h4 _ Z' H' _ B2 (s.mono (fun _ z=>z) fun a h=>?_)⟩
   rcases bf h with h | h
   ·exact (bf h).imp id (g1 a)
   ·exact .inr (g2 a (g3 a h))
  | [],h3'=>cases h3'
  | [_],h3'=>cases h3'
  | _ :: _ :: _ :: _,h3'=>cases h3'
 | _=>cases h3
end
end MR

set_option Elab.async false
set_option linter.all false
set_option maxRecDepth 100000
set_option maxHeartbeats 4000000
namespace MR
open PySem PySem.Spec PyProof.Rows L2 L3
section
variable {X:Cx} {sf sg:Nat -> Option Nat} {C:M.Call} {pos p2:Pos} {ea eb ec:Expr} {a b c:M.E} {h:Bool} {n:Nat}
theorem az {e:Expr} {t t':TE} (h:PE X e t) (hw:∀ σ H Q,t' σ H Q -> t σ H Q):PE X e t':=fun pins s σ H Q I q=>h pins s σ H Q I (hw σ H Q q)
theorem mx {e:Expr} {t t':TT} (h:PT X e t) (hw:∀ σ H Q,t' σ H Q -> t σ H Q):PT X e t':=fun pins s σ H Q I q=>h pins s σ H Q I (hw σ H Q q)
theorem vf {e:Expr} {t t':TT} (h:PW X e t) (hw:∀ σ H Q,t' σ H Q -> t σ H Q):PW X e t':=fun whole pins s σ H Q I q=>h whole pins s σ H Q I (hw σ H Q q)
theorem jy {es:List Expr} {t t':TA} (h:PA X es t) (hw:∀ σ H Q,t' σ H Q -> t σ H Q):PA X es t':=fun pos pins s σ H Q I q=>h pos pins s σ H Q I (hw σ H Q q)
theorem cA {s:Stmt} {t t':TS} (h:PS X s t) (hw:∀ D σ H,t' D σ H -> t D σ H):PS X s t':=fun pins s σ H D I q=>h pins s σ H D I (hw D σ H q)
theorem ki {s:List Stmt} {t t':TS} (h:PSs X s t) (hw:∀ D σ H,t' D σ H -> t D σ H):PSs X s t':=fun pins s σ H D I q=>h pins s σ H D I (hw D σ H q)
theorem jQ {tg e:Expr} {t t':TI} (h:PI X tg e t) (hw:∀ σ H R,t' σ H R -> t σ H R):PI X tg e t':=fun pins s σ H R I q=>h pins s σ H R I (hw σ H R q)
theorem zx {tg e:Expr} {t t':TI} (h:PI X tg e t) (h':PI X tg e t'):PI X tg e (fun σ H R=>t σ H R \/ t' σ H R):=fun pins s σ H R I q=>q.elim (h pins s σ H R I) (h' pins s σ H R I)
abbrev SE (X:Cx) (sf:Nat -> Option Nat) (C:M.Call) (me:Expr) (e:M.E):Prop:=PE X me (wE X.K sf C e)
abbrev SB (X:Cx) (sf:Nat -> Option Nat) (C:M.Call) (me:Expr) (e:M.E):Prop:=PT X me (wT X.K sf C e)
abbrev SL (X:Cx) (sf:Nat -> Option Nat) (C:M.Call) (me:List Expr) (es:List M.E):Prop:=PA X me (wL X.K sf C es)
abbrev SA (X:Cx) (sf:Nat -> Option Nat) (C:M.Call) (me:List Expr) (es:List M.E):Prop:=PA X me (wA X.K sf C es)
abbrev SS (X:Cx) (sf:Nat -> Option Nat) (io:List Nat) (C:M.Call) (ms:Stmt) (s:M.S):Prop:=PS X ms (wS X.K sf io C s)
abbrev SSs (X:Cx) (sf:Nat -> Option Nat) (io:List Nat) (C:M.Call) (ms:List Stmt) (s:List M.S):Prop:=PSs X ms (wSs X.K sf io C s)
theorem sV (j:Nat) {i:Nat} {x:Str} (hs:sf i = some j:=by rfl) (hN:X.N[j]? = some x:=by rfl) (hv:Vis X.env.scope x:=by first | exact Or.inl rfl | exact Or.inr (Or.inl rfl) | exact Or.inr (Or.inr rfl)) (hd:(x == ("__debug__":Str)) = false:=by decide)
  (hcd:(x == ("__classdict__":Str)) = false:=by decide):SE X sf C (.Name x pos) (.var i):=az (cO hN hv hd hcd) (yq hs)
theorem sM (j:Nat) {i:Nat} {x:Str} (hs:sf i = some j:=by rfl) (hN:X.N[j]? = some x:=by rfl) (hv:Vis X.env.scope x:=by first | exact Or.inl rfl | exact Or.inr (Or.inl rfl) | exact Or.inr (Or.inr rfl)) (hd:(x == ("__debug__":Str)) = false:=by decide)
  (hcd:(x == ("__classdict__":Str)) = false:=by decide):SE X sf C (.Name x pos) (.mv i):=az (cO hN hv hd hcd) (y9 (fun _=>rfl) hs)
theorem sI {i:Int} {k:Nat}:SE X sf C (.Constant (.int i) k pos) (.cst (.int i)):=az kU (ja fun {_ _}=>rfl)
theorem sO {i:Bool} {k:Nat}:SE X sf C (.Constant (.bool i) k pos) (.cst (.bl i)):=az AQ (ja fun {_ _}=>rfl)
theorem rD (s:String) (hl:s.length <= 1000):M.sOk (Str.ofString s) = true:=by
 unfold M.sOk
 rw [Str.ofString_eq_toList,Bool.and_eq_true]
 refine ⟨?_,decide_eq_true ?_⟩
 ·rw [Array.all_eq_true']
  intro x hx
  rw [List.mem_toArray,List.mem_map] at hx
  obtain ⟨c,_,rfl⟩:=hx
  refine decide_eq_true ?_
  have:=c.valid
  have h2:c.toNat < 0x110000:=by
   have h3:=c.valid
   unfold UInt32.isValidChar Nat.isValidChar at h3
   show c.val.toNat < _
   omega
  exact h2
 ·rw [List.size_toArray,List.length_map,String.length_toList]
  exact Nat.le_trans hl (by decide)
theorem sS {s:String} {k:Nat} (hl:s.length <= 1000:=by decide):SE X sf C (.Constant (.str (Str.ofString s)) k pos) (.cst (.str (Str.ofString s))):=az xD (ja fun {_ _}=>⟨rfl,rD s hl⟩)
theorem sl0:SL X sf C [] []:=jy bD vU
theorem slc {es:List Expr} {bs:List M.E} (ha:SE X sf C ea a) (hb:SL X sf C es bs) (hs:starEach (ea :: es) X.env = (false,eval ea X.env) :: starEach es X.env:=by rfl):SL X sf C (ea :: es) (a :: bs):=jy (aO ha hb hs) rW
theorem sT {es:List Expr} {bs:List M.E} {x1:Nat} (h:SL X sf C es bs) (hn:bs.length <= M.LIM:=by decide):SE X sf C (.Tuple es x1 pos) (.tup bs):=az (kq h) (yA hn)
theorem sLs {es:List Expr} {bs:List M.E} (hh:SL X sf C es bs) (hn:bs.length <= M.LIM:=by decide):SE X sf C (.List es pos) (.lst h bs):=az (oX hh) (wW hn)
theorem b8 (ha:SE X sf C ea a) (hb:SE X sf C eb b):SE X sf C (.BinOp ea .Add eb pos) (.op .add h [a,b]) :=
 az (fx (op_add.or (op_add_str.or (op_cat.or sC))) ha hb) (aX (sZ (vm X.K) fun {Z H G Q a b xs ys ts} h1 h2 h3 h4 ow r k=>by
  obtain ⟨G',g1,g2⟩:=r
  refine ⟨a,b,xs,ys,rfl,rfl,h1,h2,h3,bx h4,fun v H' same hv=>jq (m:=.s) ow g1 ?_ g2 k same hv⟩
  rw [List.length_append]; exact h4))
theorem gG (ha:SE X sf C ea a) (hb:SE X sf C eb b):SE X sf C (.BinOp ea .Sub eb pos) (.op .sub h [a,b]):=az (fx wt ha hb) (aX tw)
theorem gx (ha:SE X sf C ea a) (hb:SE X sf C eb b):SE X sf C (.BinOp ea .Mult eb pos) (.op .mul h [a,b]):=az (fx (op_mul.or v7) ha hb) (aX rX)
theorem Bx (ha:SE X sf C ea a) (hb:SE X sf C eb b):SE X sf C (.BinOp ea .FloorDiv eb pos) (.op .fdiv h [a,b]):=az (fx rN ha hb) (aX qk)
theorem gH (ha:SE X sf C ea a) (hb:SE X sf C eb b):SE X sf C (.BinOp ea .Mod eb pos) (.op .mod h [a,b]):=az (fx ya ha hb) (aX ue)
theorem jW (ha:SE X sf C ea a) (hb:SE X sf C eb b):SE X sf C (.BinOp ea .Pow eb pos) (.op .pow h [a,b]):=az (fx yG ha hb) (aX rK)
theorem Cp (ha:SE X sf C ea a):SE X sf C (.UnaryOp .USub ea pos) (.op .neg h [a]):=az (zX yI ha) (yD sd)
theorem sGt (ha:SE X sf C ea a) (hb:SE X sf C eb b):SE X sf C (.Compare ea [.Gt] [eb] pos) (.op .gt h [a,b]):=az (lV vL ha hb (de _)) (aX pH)
theorem sIx (ha:SE X sf C ea a) (hb:SE X sf C eb b) (hs:lY eb:=by intro _ _; rfl):SE X sf C (.Subscript ea eb pos) (.op .ix h [a,b]):=az (zy (ix_any.or xS) ha hb hs) (aX vT)
mutual
def th:M.T -> Th
 | .non=>.non | .bl b=>.bl b | .int i=>.int i | .str x=>.str x | .tup ts=>.tup (ths ts) | .lst ts=>.lst (ths ts) | .dct _ _=>.non | .ins _ _ _=>.non | .scr _=>.non | .gone=>.non
def ths:List M.T -> List Th
 | []=>[]
 | t :: ts=>th t :: ths ts
end
mutual
theorem lR {K:PySem.W.Frag} {Z:Fp} {H:Hp}:∀ {t:M.T} {m:M.Md} {v:V} {G:Fp} {n:Nat},M.dp t <= n -> n <= 64 -> Rep K Z H m t v G -> Has K H (th t) v /\ (toD (th t)).canLay0 = true /\ (toD (th t)).depth <= n
 | .non,_,_,_,_,_,_,r=>⟨r,rfl,Nat.zero_le _⟩
 | .bl _,_,_,_,_,_,_,r=>⟨r,rfl,Nat.zero_le _⟩
 | .int _,_,_,_,_,_,_,r=>⟨r,rfl,Nat.zero_le _⟩
 | .str x,_,_,_,_,_,_,r=>⟨r.1,by have h:=r.2; unfold M.sOk at h; rw [Bool.and_eq_true] at h; exact h.1,Nat.zero_le _⟩
 | .tup ts,m,v,G,n,hd,hn,⟨a,xs,e,q,l,r⟩=>by
  have hd':M.dps ts + 1 <= n:=hd
  match n,hd' with
  | n + 1,hd' =>
   obtain ⟨h1,h2,h3⟩:=fV (n:=n) (by omega) (by omega) r
   exact ⟨⟨a,xs,e,q,h1⟩,h2,Nat.succ_le_succ h3⟩
 | .lst ts,m,v,G,n,hd,hn,⟨a,xs,e,l,q,r⟩=>by
  have hd':M.dps ts + 1 <= n:=hd
  match n,hd' with
  | n + 1,hd' =>
   obtain ⟨h1,h2,h3⟩:=fV (n:=n) (by omega) (by omega) r
   exact ⟨⟨a,xs,e,by cases m <;> exact q.2,h1⟩,h2,Nat.succ_le_succ h3⟩
 | .dct _ _,_,_,_,_,hd,hn,_=>by have:1000 <= 64:=Nat.le_trans hd hn; omega
 | .ins _ _ _,_,_,_,_,hd,hn,_=>by have:1000 <= 64:=Nat.le_trans hd hn; omega
 | .gone,_,_,_,_,hd,hn,_=>by have:1000 <= 64:=Nat.le_trans hd hn; omega
 | .scr _,_,_,_,_,hd,hn,_=>by have:1000 <= 64:=Nat.le_trans hd hn; omega
theorem fV {K:PySem.W.Frag} {Z:Fp} {H:Hp}:∀ {ts:List M.T} {m:M.Md} {xs:List V} {G:Fp} {n:Nat},M.dps ts <= n -> n <= 64 -> RepL K Z H m ts xs G -> HasL K H (ths ts) xs /\ PyData.canLayAll0 (fC (ths ts)) = true /\ PyData.depthAll (fC (ths ts)) <= n
 | [],_,_,_,_,_,_,r=>⟨r,rfl,Nat.zero_le _⟩
 | t :: ts,m,xs,G,n,hd,hn,⟨x,r,G1,G2,e,_,_,_,p,q⟩=>by
  have hd':max (M.dp t) (M.dps ts) <= n:=hd
  obtain ⟨h1,h2,h3⟩:=lR (n:=n) (by omega) hn p
  obtain ⟨k1,k2,k3⟩:=fV (n:=n) (by omega) hn q
  refine ⟨⟨x,r,e,h1,k1⟩,?_,?_⟩
  ·show ((toD (th t)).canLay0 && PyData.canLayAll0 (fC (ths ts))) = true
   rw [h2,k2]; rfl
  ·show max (toD (th t)).depth (PyData.depthAll (fC (ths ts))) <= n
   omega
end
mutual
theorem kA:∀ (t u:M.T),M.dp t <= 64 -> M.dp u <= 64 -> PyData.eqv (toD (th t)) (toD (th u)) = M.eqT t u
 | .dct _ _,_,h,_=>by have:1000 <= 64:=h; omega
 | .ins _ _ _,_,h,_=>by have:1000 <= 64:=h; omega
 | .gone,_,h,_=>by have:1000 <= 64:=h; omega
 | .scr _,_,h,_=>by have:1000 <= 64:=h; omega
 | .non,u,_,h=>by cases u <;> first | rfl | (have:1000 <= 64:=h; omega)
 | .bl a,u,_,h=>by cases u <;> first | rfl | (cases a <;> rfl) | (have:1000 <= 64:=h; omega)
 | .int i,u,_,h=>by
  cases u with
  | bl b=>cases b <;> rfl
  | _=>first | rfl | (have:1000 <= 64:=h; omega)
 | .str x,u,_,h=>by cases u <;> first | rfl | (have:1000 <= 64:=h; omega)
 | .tup ts,u,h1,h=>by
  cases u with
  | tup us=>exact iK ts us (by have:M.dps ts + 1 <= 64:=h1; omega) (by have:M.dps us + 1 <= 64:=h; omega)
  | _=>first | rfl | (have:1000 <= 64:=h; omega)
 | .lst ts,u,h1,h=>by
  cases u with
  | lst us=>exact iK ts us (by have:M.dps ts + 1 <= 64:=h1; omega) (by have:M.dps us + 1 <= 64:=h; omega)
  | _=>first | rfl | (have:1000 <= 64:=h; omega)
theorem iK:∀ (ts us:List M.T),M.dps ts <= 64 -> M.dps us <= 64 -> PyData.eqvAll (fC (ths ts)) (fC (ths us)) = M.eqTs ts us
 | [],[],_,_=>rfl
 | [],_ :: _,_,_=>rfl
 | _ :: _,[],_,_=>rfl
 | t :: ts,u :: us,h1,h2=>by
  have h1':max (M.dp t) (M.dps ts) <= 64:=h1
  have h2':max (M.dp u) (M.dps us) <= 64:=h2
  show (PyData.eqv (toD (th t)) (toD (th u)) && PyData.eqvAll (fC (ths ts)) (fC (ths us))) = (M.eqT t u && M.eqTs ts us)
  rw [kA t u (by omega) (by omega),iK ts us (by omega) (by omega)]
end
theorem iI {K:PySem.W.Frag} {Z:Fp} {H:Hp} {t:M.T} {m:M.Md} {v:V} {G:Fp} (hd:M.dp t <= 64) (r:Rep K Z H m t v G):Has K H (th t) v /\ iX (th t):=by
 obtain ⟨h1,h2,h3⟩:=lR hd (Nat.le_refl _) r
 refine ⟨h1,?_⟩
 show ((toD (th t)).canLay0 && decide ((toD (th t)).depth <= 64)) = true
 rw [h2,decide_eq_true h3]; rfl
theorem ox {K:PySem.W.Frag}:Loc K 2 .eq h fun xs H Q=>∀ x y,xs = [x,y] -> ∃ t t',Has K H t x /\ Has K H t' y /\ iX t /\ iX t' /\ Q (.bl (PyData.eqv (toD t) (toD t'))) H:=by
 intro ws w xs Z H G Q hn e r ow za k x y hx
 subst hx
 obtain ⟨⟨m,a⟩,⟨n,b⟩,rfl⟩:=gr r.length.symm
 obtain ⟨G1,G2,w1,w2,d,r1,r2⟩:=cw r
 have e':(if decide (M.dp a <= 64) && decide (M.dp b <= 64) then some ((.d,.bl (M.eqT a b)):M.W) else none) = some w:=e
 split at e'
 ·rename_i hc
  rw [Bool.and_eq_true,decide_eq_true_eq,decide_eq_true_eq] at hc
  cases e'
  obtain ⟨h1,o1⟩:=iI hc.1 r1
  obtain ⟨h2,o2⟩:=iI hc.2 r2
  refine ⟨th a,th b,h1,h2,o1,o2,?_⟩
  rw [kA a b hc.1 hc.2]
  exact cK k
 ·cases e'
theorem yd {K:PySem.W.Frag}:Loc K 2 .ne h fun xs H Q=>∀ x y,xs = [x,y] -> ∃ t t',Has K H t x /\ Has K H t' y /\ iX t /\ iX t' /\ Q (.bl (!PyData.eqv (toD t) (toD t'))) H:=by
 intro ws w xs Z H G Q hn e r ow za k x y hx
 subst hx
 obtain ⟨⟨m,a⟩,⟨n,b⟩,rfl⟩:=gr r.length.symm
 obtain ⟨G1,G2,w1,w2,d,r1,r2⟩:=cw r
 have e':(if decide (M.dp a <= 64) && decide (M.dp b <= 64) then some ((.d,.bl (!M.eqT a b)):M.W) else none) = some w:=e
 split at e'
 ·rename_i hc
  rw [Bool.and_eq_true,decide_eq_true_eq,decide_eq_true_eq] at hc
  cases e'
  obtain ⟨h1,o1⟩:=iI hc.1 r1
  obtain ⟨h2,o2⟩:=iI hc.2 r2
  refine ⟨th a,th b,h1,h2,o1,o2,?_⟩
  rw [kA a b hc.1 hc.2]
  exact cK k
 ·cases e'
theorem sEq (hr:Room n X.A) (ha:SE X sf C ea a) (hb:SE X sf C eb b):SE X sf C (.Compare ea [.Eq] [eb] pos) (.op .eq h [a,b]):=az (lV (lU hr.units) ha hb (de _)) (aX ox)
theorem ifN {α:Type} {b:Bool} {x:Option α} {y:α} (h:(if b = true then none else x) = some y):b = false /\ x = some y:=by cases b <;> first | exact ⟨rfl,h⟩ | cases h
theorem l6 {K:PySem.W.Frag} {Z:Fp} {H:Hp} {G:Fp} {m:M.Md} {ts:List M.T} {xs:List V} (lo hi:Option Int) (r:RepL K Z H m ts xs G):RepL K Z H m (M.cut ts lo hi) (dg xs lo hi) G:=by
 have e:=r.length
 have hs:∀ n d o,HT.sIx n d o = M.sIx n d o:=fun n d o=>by cases o <;> rfl
 have hc:dg xs lo hi = (xs.drop (M.sIx ts.length 0 lo)).take (M.sIx ts.length ts.length hi - M.sIx ts.length 0 lo):=by
  unfold dg
  rw [hs,hs,e]
 rw [hc]
 exact (r.drop _).take _
theorem qf (ns:List Int) (lo hi:Option Int):dg (ns.map V.int) lo hi = (M.cut ns lo hi).map V.int:=by
 have hs:∀ n d o,HT.sIx n d o = M.sIx n d o:=fun n d o=>by cases o <;> rfl
 unfold dg M.cut
 rw [hs,hs,List.length_map,List.map_take,List.map_drop]
theorem xu {α:Type} (xs:List α) (lo hi:Option Int):(M.cut xs lo hi).length <= xs.length:=by
 unfold M.cut
 rw [List.length_take,List.length_drop]; omega
theorem ze {K:PySem.W.Frag} {Z:Fp} {H:Hp} {G G1:Fp} {Q:VK} {m:M.Md} {a:M.T} {x:V} {w:M.W} {lo hi:Option Int} (hg:∀ b,G1 b -> G b) (ow:Own Z H G) (za:∀ a,Z a -> H a ≠ none) (r:Rep K Z H m a x G1)
  (e:(match a with | .lst ts=>M.newL h m.kid (M.cut ts lo hi) | .tup ts=>some ((.s,.tup (M.cut ts lo hi)):M.W) | .scr ns=>some (.d,.lst ((M.cut ns lo hi).map M.T.int)) | _=>none) = some w) (k:Out K Z H G w Q):yN K x lo hi H Q \/ xR K x lo hi H Q:=by
 cases a with
 | lst ts =>
  obtain ⟨p,xs,rfl,hs,hl,q⟩:=a0 r
  refine .inl ⟨p,xs,rfl,.inl (.inl hs),fun l hl'=>?_⟩
  exact dA ow za (Nat.le_trans (b9 xs lo hi) hl) ⟨G1,hg,(l6 lo hi q).zmono fun _ z=>.inl z⟩ e k hl'
 | tup ts =>
  obtain ⟨p,xs,rfl,hs,hl,q⟩:=cW r
  cases e
  refine .inr ⟨p,xs,rfl,hs,fun v H' same hv=>?_⟩
  exact jq (m:=.s) (G':=no) ow (fun _ z=>z.elim) (Nat.le_trans (b9 xs lo hi) hl) ((RepL.sh (l6 lo hi q)).zmono fun b hb=>hb.imp id fun z=>⟨hg b z,fun q=>q⟩) k same hv
 | scr ns =>
  obtain ⟨p,rfl,hL,hs⟩:=r
  cases e
  refine .inl ⟨p,_,rfl,hs.sq,fun l hl'=>?_⟩
  rw [qf]
  exact bQ (m:=.d) (G':=no) ow za (fun _ z=>z.elim) (by rw [List.length_map]; exact Nat.le_trans (xu ns lo hi) hL) (iw _) (by simp) k hl'
 | _=>cases e
theorem oO {p3:Pos} (ha:SE X sf C ea a) (hb:SE X sf C eb b):SE X sf C (.Subscript ea (.Slice none (some eb) none p3) pos) (.op .sl2 h [a,b]) :=
 az (j5 (sl_list.or uY) ha um (i3 hb)) (fun σ H Q hw=>aX (r:=fun x y H Q=>∃ i,y = .int i /\ (yN X.K x none (some i) H Q \/ xR X.K x none (some i) H Q)) (by
  intro ws w xs Z H G Q hn e r ow za k x y hx
  subst hx
  obtain ⟨⟨m,a⟩,⟨n,b⟩,rfl⟩:=gr r.length.symm
  obtain ⟨G1,G2,w1,w2,d,r1,r2⟩:=cw r
  cases b with
  | int i=>exact ⟨i,r2,ze (h:=h) (lo:=none) (hi:=some i) w1 ow za r1 (by cases a <;> exact e) k⟩
  | _=>cases a <;> cases e) σ H Q hw)
theorem ju {K:PySem.W.Frag}:Loc K 1 .len h fun xs H Q=>∃ x n,xs = [x] /\ AL K x H n /\ Q (.int n) H:=by
 intro ws w xs Z H G Q hn e r ow za k
 obtain ⟨x,n,hx,hm,q⟩:=sA (h:=h) ws w xs Z H G Q hn e r ow za k
 exact ⟨x,n,hx,by cases x <;> exact hm,q⟩
section
variable {p:Pos} {x1:Str}
theorem dj (hm:X.mg "len" = none) (hg:Gl X "len":=by rfl) (ha:SE X sf C ea a) (hs:starEach [ea] X.env = (false,eval ea X.env) :: starEach [] X.env:=by rfl) (hpl:(backTo pos (starEach [] X.env)).any (·.1) = false:=by rfl):SE X sf C (.Call (.Name "len" p) [ea] [] pos) (.op .len h [a]) :=
 az (bU jx hg hm PySem.boot_len (slc ha sl0 hs) (by decide) (by decide) hs hpl) (gX ju rfl)
theorem wB (hc:X.calm = true:=by rfl) (hm:X.mg "sum" = none) (hg:Gl X "sum":=by rfl) (ha:SE X sf C ea a) (hs:starEach [ea] X.env = (false,eval ea X.env) :: starEach [] X.env:=by rfl) (hpl:(backTo pos (starEach [] X.env)).any (·.1) = false:=by rfl):SE X sf C (.Call (.Name "sum" p) [ea] [] pos) (.op .sum h [a]) :=
 az (bU (nM hc) hg hm (by rfl) (slc ha sl0 hs) (by decide) (by decide) hs hpl) (gX tU rfl)
theorem w6 (hc:X.calm = true:=by rfl) (hm:X.mg "all" = none) (hg:Gl X "all":=by rfl) (ha:SE X sf C ea a) (hs:starEach [ea] X.env = (false,eval ea X.env) :: starEach [] X.env:=by rfl) (hpl:(backTo pos (starEach [] X.env)).any (·.1) = false:=by rfl):SE X sf C (.Call (.Name "all" p) [ea] [] pos) (.op .all h [a]) :=
 az (bU (mE hc) hg hm (by rfl) (slc ha sl0 hs) (by decide) (by decide) hs hpl) (gX sP rfl)
theorem j6 (hm:X.mg "list" = none) (hg:Gl X "list":=by rfl) (ha:SE X sf C ea a) (hs:starEach [ea] X.env = (false,eval ea X.env) :: starEach [] X.env:=by rfl) (hpl:(backTo pos (starEach [] X.env)).any (·.1) = false:=by rfl):SE X sf C (.Call (.Name "list" p) [ea] [] pos) (.op .list h [a]) :=
 az (eO iM hg hm PyProof.Rows.boot_list (slc ha sl0 hs) (by decide) (by decide) hs hpl) (gX pU rfl)
theorem BG (hc:X.calm = true:=by rfl) (hm:X.mg "min" = none) (hg:Gl X "min":=by rfl) (ha:SE X sf C ea a) (hb:SE X sf C eb b) (hs:starEach [ea,eb] X.env = (false,eval ea X.env) :: starEach [eb] X.env:=by rfl) (hs2:starEach [eb] X.env = (false,eval eb X.env) :: starEach [] X.env:=by rfl) (hpl:(backTo pos (starEach [eb] X.env)).any (·.1) = false:=by rfl):SE X sf C (.Call (.Name "min" p) [ea,eb] [] pos) (.op .min h [a,b]) :=
 az (bU (nt hc) hg hm (by rfl) (slc ha (slc hb sl0 hs2) hs) (by decide) (by decide) hs hpl) (gX sL rfl)
end
theorem iY {K:PySem.W.Frag} {x:V} {H:Hp} {k:Bool} (h:TrV K x H k):pG K x H k:=by
 cases x with
 | ref p=>exact h.imp id .inl
 | byt _=>exact h.elim
 | _=>exact h
theorem tB (ha:SE X sf C ea a) (he:∀ whole,isTrue ea X.env whole = (do let v <- whole; standAt ea.pos; holding [v] (truthy v)):=by intro _; rfl):SB X sf C ea a :=
 mx (n8 ha he) fun σ H Q h=>by
  obtain ⟨pv,Z,Fs,η,w,η',b,A,ev,ht,k⟩:=h
  exact ⟨pv,Z,Fs,η,w,η',A,ev,fun v Z' H' Fs' G B r s=>⟨b,iY (fg ht r),k Z' H' Fs' B.bare (s.mono (fun _ z=>z) fun _ z=>.inl z)⟩⟩
theorem gL (ha:SB X sf C ea a):SB X sf C (.UnaryOp .Not ea pos) (.not a):=mx (xE ha) yr
theorem vt {σ:L2.St} {H:Hp} {Q:Bool -> Hp -> Prop} (hb:∀ η w η',M.evE C a η = .ok (w,η') -> ∃ b,w.2 = .bl b) (h:wT X.K sf C a σ H Q):qo (wE X.K sf C a) σ H Q:=by
 obtain ⟨pv,Z,Fs,η,w,η',b,A,ev,ht,k⟩:=h
 refine ⟨pv,Z,Fs,η,w,η',A,ev,fun v Z' H' Fs' G B r s=>⟨b,?_,k Z' H' Fs' B.bare (s.mono (fun _ z=>z) fun _ z=>.inl z)⟩⟩
 obtain ⟨b',hb'⟩:=hb _ _ _ ev
 rw [hb'] at ht r
 cases ht
 exact r
theorem zO {o:M.Op} (ho:∀ u v w,M.oSem o h [u,v] = some w -> ∃ b,w.2 = .bl b):∀ η w η',M.evE C (.op o h [a,b]) η = .ok (w,η') -> ∃ b,w.2 = .bl b:=fun η w η' e=>by
 obtain ⟨ws,h1,h2⟩:=dy e
 obtain ⟨u,η1,us,_,e2,rfl⟩:=aC h1
 obtain ⟨v,η2,us,_,e4,rfl⟩:=aC e2
 cases e4
 exact ho u v w h2
theorem dP {op:CmpOp} {r:R2} {o:M.Op} (ho:OpR X (compareOp op) r) (ha:SE X sf C ea a) (hb:SE X sf C eb b) (hm:behindInMarks op eb = false) (hl:∀ σ H Q,wE X.K sf C (.op o h [a,b]) σ H Q -> tOp r (wE X.K sf C a) (wE X.K sf C b) σ H Q)
  (hbl:∀ u v w,M.oSem o h [u,v] = some w -> ∃ b,w.2 = .bl b):SB X sf C (.Compare ea [op] [eb] pos) (.op o h [a,b]) :=
 mx (vd ho ha hb hm) fun σ H Q hw=>hl σ H _ (vt (zO hbl) hw)
theorem zI {u v w:M.W} (e:M.oSem .eq h [u,v] = some w):∃ b,w.2 = .bl b:=by
 obtain ⟨m,a⟩:=u; obtain ⟨n,b⟩:=v
 have e':(if decide (M.dp a <= 64) && decide (M.dp b <= 64) then some ((.d,.bl (M.eqT a b)):M.W) else none) = some w:=e
 split at e'
 ·cases e'; exact ⟨_,rfl⟩
 ·cases e'
theorem AO {u v w:M.W} (e:M.oSem .ne h [u,v] = some w):∃ b,w.2 = .bl b:=by
 obtain ⟨m,a⟩:=u; obtain ⟨n,b⟩:=v
 have e':(if decide (M.dp a <= 64) && decide (M.dp b <= 64) then some ((.d,.bl (!M.eqT a b)):M.W) else none) = some w:=e
 split at e'
 ·cases e'; exact ⟨_,rfl⟩
 ·cases e'
theorem rV (ha:SE X sf C ea a) (hb:SE X sf C eb b):SB X sf C (.Compare ea [.Lt] [eb] pos) (.op .lt h [a,b]):=dP vQ ha hb (de _) (aX zd) fun u v w e=>by obtain ⟨_,_,_,_,_,_,rfl⟩:=iJ e; exact ⟨_,rfl⟩
theorem ud (ha:SE X sf C ea a) (hb:SE X sf C eb b):SB X sf C (.Compare ea [.Gt] [eb] pos) (.op .gt h [a,b]):=dP vL ha hb (de _) (aX pH) fun u v w e=>by obtain ⟨_,_,_,_,_,_,rfl⟩:=qc e; exact ⟨_,rfl⟩
theorem BV (ha:SE X sf C ea a) (hb:SE X sf C eb b):SB X sf C (.Compare ea [.GtE] [eb] pos) (.op .ge h [a,b]):=dP AG ha hb (de _) (aX wJ) fun u v w e=>by obtain ⟨_,_,_,_,_,_,rfl⟩:=qF e; exact ⟨_,rfl⟩
theorem a9 (hr:Room n X.A) (ha:SE X sf C ea a) (hb:SE X sf C eb b):SB X sf C (.Compare ea [.Eq] [eb] pos) (.op .eq h [a,b]):=dP (lU hr.units) ha hb (de _) (aX ox) fun u v w e=>zI e
theorem pN (hr:Room n X.A) (ha:SE X sf C ea a) (hb:SE X sf C eb b):SB X sf C (.Compare ea [.NotEq] [eb] pos) (.op .ne h [a,b]):=dP (uw hr.units) ha hb (de _) (aX yd) fun u v w e=>AO e
abbrev SW (X:Cx) (sf:Nat -> Option Nat) (C:M.Call) (me:Expr) (e:M.E):Prop:=PW X me (wT X.K sf C e)
theorem wA1 (ha:SB X sf C ea a):SW X sf C (.BoolOp .And [ea] pos) a:=ug ha
theorem wO1 (ha:SB X sf C ea a):SW X sf C (.BoolOp .Or [ea] pos) a:=xi ha
theorem x4 {rest:List Expr} (ha:SB X sf C ea a) (hb:SW X sf C (.BoolOp .And (eb :: rest) pos) b):SW X sf C (.BoolOp .And (ea :: eb :: rest) pos) (.and a b):=vf (wx ha hb) wY
theorem wOr {rest:List Expr} (ha:SB X sf C ea a) (hb:SW X sf C (.BoolOp .Or (eb :: rest) pos) b):SW X sf C (.BoolOp .Or (ea :: eb :: rest) pos) (.or a b):=vf (Au ha hb) Bi
theorem tW (h:SW X sf C ea a):SB X sf C ea a:=h.pt
theorem sIf (hc:SB X sf C ec c) (ha:SE X sf C ea a) (hb:SE X sf C eb b):SE X sf C (.IfExp ec ea eb pos) (.ifx c a b):=az (qm hc ha hb) yO
theorem ff {tg:Expr} (ha:SE X sf C ea a):PI X tg ea (wI X.K sf C 1 .seq [a]):=jQ (zx (iB ha) (y0 ha)) yj
theorem ku {tg:Expr} {p:Pos} (hm:X.mg "range" = none) (hg:Gl X "range":=by rfl) (ha:SE X sf C ea a) (hs:starEach [ea] X.env = [(false,eval ea X.env)]:=by rfl):PI X tg (.Call (.Name "range" p) [ea] [] pos) (wI X.K sf C 1 .rng [a]):=jQ (mO hg hm (slc ha sl0 hs) hs) u5
theorem qp {es:List Expr} {kt:Nat} {pt p:Pos} (hc:X.calm = true:=by rfl) (hm:X.mg "zip" = none) (hg:Gl X "zip":=by rfl) (ha:SE X sf C ea a) (hb:SE X sf C eb b) (hs:starEach [ea,eb] X.env = [(false,eval ea X.env),(false,eval eb X.env)]:=by rfl) (hs2:starEach [eb] X.env = [(false,eval eb X.env)]:=by rfl):PI X (.Tuple es kt pt) (.Call (.Name "zip" p) [ea,eb] [] pos) (wI X.K sf C 2 .zip [a,b]):=jQ (zr hg hm (slc ha (slc hb sl0 hs2) (by rw [hs,hs2])) hs hs2) xF
def lkN:List Nat -> Nat -> Nat -> Option Nat
 | [],_,_=>none
 | t :: ts,n,i=>if i = t then some n else lkN ts (n + 1) i
theorem lK:∀ {l:List Nat} {n i j:Nat},lkN l n i = some j -> ∃ k,l[k]? = some i /\ j = n + k /\ i ∉ l.take k
 | [],_,_,_,h=>by cases h
 | t :: ts,n,i,j,h=>by
  have h':(if i = t then some n else lkN ts (n + 1) i) = some j:=h
  split at h'
  ·rename_i e; cases h'; exact ⟨0,by rw [e]; rfl,rfl,by simp⟩
  ·rename_i e
   obtain ⟨k,h1,h2,h3⟩:=lK h'
   exact ⟨k + 1,h1,by omega,by rw [List.take_succ_cons,List.mem_cons]; exact fun z=>z.elim e h3⟩
def inF (tg ls:List Nat):Nat -> Option Nat:=lkN (tg ++ ls) 0
theorem cy {tg ls is:List Nat} (h:ls.map sf = is.map some):gc sf (inF tg ls) tg is:=fun i j hj=>by
 obtain ⟨k,h1,h2,h3⟩:=lK (show lkN (tg ++ ls) 0 i = some j from hj)
 rw [Nat.zero_add] at h2
 subst h2
 by_cases hk:j < tg.length
 ·rw [List.getElem?_append_left hk] at h1
  exact .inl ⟨j,h1,rfl⟩
 ·have hk':tg.length <= j:=Nat.le_of_not_lt hk
  rw [List.getElem?_append_right hk'] at h1
  refine .inr ⟨fun hi=>h3 ?_,?_⟩
  ·rw [List.take_append,List.take_of_length_le hk']
   exact List.mem_append_left _ hi
  ·have e1:(ls.map sf)[j - tg.length]? = some (sf i):=by rw [List.getElem?_map,h1]; rfl
   rw [h,List.getElem?_map] at e1
   cases e2:is[j - tg.length]? with
   | none=>rw [e2] at e1; cases e1
   | some j0 =>
    rw [e2] at e1
    exact ⟨j - tg.length,j0,by omega,e2,(Option.some.inj e1).symm⟩
theorem xC {x:Str} {px:Pos} {ys:List Str} {scope:Scope} {cl:List (Str × Addr)} (S:aq [x] ys scope) (Ca:Addr) (s:Shared) (H:Hp) (fp:List Addr):PG (aj X ([x] ++ ys) scope cl Ca s H fp) (.Name x px) (gT X.K 1) :=
 bR (X:=aj X ([x] ++ ys) scope cl Ca s H fp) (i:=0) (x:=x) (pos:=px) S.nd rfl (.inl (lookup_relabel_local (S.loc x (by simp)))) (.inr (lookup_relabel_local (S.loc x (by simp))))
theorem xq {x y:Str} {px py pt:Pos} {kt:Nat} {ys:List Str} {scope:Scope} {cl:List (Str × Addr)} (hc:X.calm = true) (S:aq [x,y] ys scope) (Ca:Addr) (s:Shared) (H:Hp) (fp:List Addr):PG (aj X ([x,y] ++ ys) scope cl Ca s H fp) (.Tuple [.Name x px,.Name y py] kt pt) (gT X.K 2) :=
 kr (X:=aj X ([x,y] ++ ys) scope cl Ca s H fp) (pos:=pt) (k:=kt) (n:=2) hc (cB (bR (pos:=px) (i:=0) (x:=x) S.nd rfl (.inl (lookup_relabel_local (S.loc x (by simp)))) (.inr (lookup_relabel_local (S.loc x (by simp))))) (cB (bR (pos:=py) (i:=1) (x:=y) S.nd rfl (.inl (lookup_relabel_local (S.loc y (by simp)))) (.inr (lookup_relabel_local (S.loc y (by simp))))) iP))
end
end MR

set_option Elab.async false
set_option linter.all false
set_option maxRecDepth 100000
set_option maxHeartbeats 4000000
namespace MR
open PySem PySem.Spec PyProof.Rows L2 L3
section
variable {X:Cx} {sf sg:Nat -> Option Nat} {C:M.Call} {pos p2:Pos} {ea eb ec:Expr} {a b c:M.E} {h:Bool} {n:Nat} {io:List Nat}
section
variable {elt iter cnd:Expr} {x y:Str} {px py pt:Pos} {kt:Nat} {scope:Scope} {cl:List (Str × Addr)} {ys:List Str} {tg ls is:List Nat} {k:M.Ik} {src:List M.E} {e cd:M.E}
theorem sC1 (ls:List Nat) (is:List Nat) (cl:List (Str × Addr)) (ys:List Str) {t:Nat} (hi:PI X (.Name x px) iter (wI X.K sf C 1 k src)) (he:∀ Ca s H fp,SE (aj X ([x] ++ ys) scope cl Ca s H fp) (inF [t] ls) C elt e)
  (S:aq [x] ys scope) (hcl:Clo X cl) (fr:Frees X scope cl ys is) (hc:X.calm = true:=by rfl) (hl:ls.map sf = is.map some:=by rfl)
  (hclos:closureFor scope X.env = pure cl:=by with_unfolding_all rfl) (hfr:(scope.names.all fun p=>p.2 != .free || (cl.lookup p.1).isSome) = true:=by rfl)
  (hs:∀ v,foldedSetIterable iter X.env v = pure v:=by intro _; rfl):SE X sf C (.ListComp elt [⟨.Name x px,iter,[],0⟩] scope pos) (.comp h k src [t] none e) :=
 az (gQ (pre:=[x]) hc hi (xC S) (fun Ca s H fp=>he Ca s H fp) hclos S hcl hfr fr hs) (gy rfl (by simp) (cy hl))
theorem sC2 (ls:List Nat) (is:List Nat) (cl:List (Str × Addr)) (ys:List Str) {t t':Nat} (hi:PI X (.Tuple [.Name x px,.Name y py] kt pt) iter (wI X.K sf C 2 k src)) (he:∀ Ca s H fp,SE (aj X ([x,y] ++ ys) scope cl Ca s H fp) (inF [t,t'] ls) C elt e)
  (S:aq [x,y] ys scope) (hcl:Clo X cl) (fr:Frees X scope cl ys is) (hc:X.calm = true:=by rfl) (hl:ls.map sf = is.map some:=by rfl) (nd:[t,t'].Nodup:=by decide)
  (hclos:closureFor scope X.env = pure cl:=by with_unfolding_all rfl) (hfr:(scope.names.all fun p=>p.2 != .free || (cl.lookup p.1).isSome) = true:=by rfl)
  (hs:∀ v,foldedSetIterable iter X.env v = pure v:=by intro _; rfl):SE X sf C (.ListComp elt [⟨.Tuple [.Name x px,.Name y py] kt pt,iter,[],0⟩] scope pos) (.comp h k src [t,t'] none e) :=
 az (gQ (pre:=[x,y]) hc hi (xq hc S) (fun Ca s H fp=>he Ca s H fp) hclos S hcl hfr fr hs) (gy rfl nd (cy hl))
theorem Ck (ls:List Nat) (is:List Nat) (cl:List (Str × Addr)) (ys:List Str) {t t':Nat} (hi:PI X (.Tuple [.Name x px,.Name y py] kt pt) iter (wI X.K sf C 2 k src)) (hcd:∀ Ca s H fp,SB (aj X ([x,y] ++ ys) scope cl Ca s H fp) (inF [t,t'] ls) C cnd cd) (he:∀ Ca s H fp,SE (aj X ([x,y] ++ ys) scope cl Ca s H fp) (inF [t,t'] ls) C elt e)
  (S:aq [x,y] ys scope) (hcl:Clo X cl) (fr:Frees X scope cl ys is) (hc:X.calm = true:=by rfl) (hl:ls.map sf = is.map some:=by rfl) (nd:[t,t'].Nodup:=by decide)
  (hclos:closureFor scope X.env = pure cl:=by with_unfolding_all rfl) (hfr:(scope.names.all fun p=>p.2 != .free || (cl.lookup p.1).isSome) = true:=by rfl)
  (hs:∀ v,foldedSetIterable iter X.env v = pure v:=by intro _; rfl):SE X sf C (.ListComp elt [⟨.Tuple [.Name x px,.Name y py] kt pt,iter,[cnd],0⟩] scope pos) (.comp h k src [t,t'] (some cd) e) :=
 az (nq (pre:=[x,y]) hc hi (xq hc S) (fun Ca s H fp=>he Ca s H fp) (fun Ca s H fp=>hcd Ca s H fp) hclos S hcl hfr fr hs) (fQ rfl nd (cy hl))
end
def spS (K:PySem.W.Frag) (C:M.Call) (f:Nat) (io:List Nat):Sp:=fun vs H Q _=>spC K C f io vs H Q
theorem sa0:SA X sf C [] []:=jy bD w5
theorem sac {es:List Expr} {bs:List M.E} (ha:SE X sf C ea a) (hb:SA X sf C es bs) (he:∀ i,a ≠ .io i:=by intro _ z; cases z) (hs:starEach (ea :: es) X.env = (false,eval ea X.env) :: starEach es X.env:=by rfl):SA X sf C (ea :: es) (a :: bs):=jy (aO ha hb hs) (pX he)
theorem sai (j:Nat) {i:Nat} {x:Str} {es:List Expr} {bs:List M.E} (hb:SA X sf C es bs) (hs:sf i = some j:=by rfl) (hN:X.N[j]? = some x:=by rfl) (hv:Vis X.env.scope x:=by first | exact Or.inl rfl | exact Or.inr (Or.inl rfl) | exact Or.inr (Or.inr rfl)) (hd:(x == ("__debug__":Str)) = false:=by decide)
  (hcd:(x == ("__classdict__":Str)) = false:=by decide) (hst:starEach (.Name x pos :: es) X.env = (false,eval (.Name x pos) X.env) :: starEach es X.env:=by rfl):SA X sf C (.Name x pos :: es) (.io i :: bs):=jy (aO (cO hN hv hd hcd) hb hst) (nU hs)
def ae (P:Program) (w:World) (K:PySem.W.Frag) (mg:Str -> Option Value) (base:Heap) (n:Nat) (C:M.Call) (x:Str) (f:Nat) (io:List Nat):Prop :=
 ∃ fa fd ps,FnOk P w K mg base CX0 n fa fd ps (spS K C f io) /\ mg x = some (.ref fa) /\ PySem.W.keepIn K (.ref fa) = true /\ Binds K fd ps []
theorem af {x:Str} {p:Pos} {f:Nat} {es:List Expr} {bs:List M.E} (c:ae X.prog X.w X.K X.mg X.base n C x f io) (hr:Room n X.A) (ha:SA X sf C (ea :: es) bs) (hio:fo bs 0 = io \/ M.ios bs = []:=by first | exact .inl rfl | exact .inr rfl) (hg:Gl X x:=by rfl) (hdb:(x == ("__debug__":Str)) = false:=by decide)
  (he:starEach (ea :: es) X.env = (false,eval ea X.env) :: starEach es X.env:=by rfl) (hpl:(backTo pos (starEach es X.env)).any (·.1) = false:=by rfl):SE X sf C (.Call (.Name x p) (ea :: es) [] pos) (.call f bs):=by
 obtain ⟨fa,fd,ps,F,hm,hk,hb⟩:=c
 refine az (my (E:=E0) F hr hg hm hk hb .nil vH ha hdb he hpl) fun σ H Q hw=>?_
 have h2:=mq hio σ H Q hw
 obtain ⟨pv,Z,Fs,η,ws,η',A,ev,k⟩:=h2
 exact ⟨pv,Z,Fs,η,ws,η',A,ev,fun vs Z' H' Fs' G B r s hv=>by show spS X.K C f io (vs ++ []) H' Q E0; rw [List.append_nil]; exact k vs Z' H' Fs' G B r s hv⟩
theorem ss0:SSs X sf io C [] []:=ki rS ub
theorem ss1 {s:Stmt} {t:M.S} (hs:SS X sf io C s t):SSs X sf io C [s] [t]:=ki (i7 hs) uE
theorem ssc {s:Stmt} {t:M.S} {r:List Stmt} {u:List M.S} (hs:SS X sf io C s t) (hr:SSs X sf io C r u):SSs X sf io C (s :: r) (t :: u):=ki (dE hs hr) nY
theorem aG (j:Nat) {i:Nat} {x:Str} {xx:M.X} {pos':Pos} (hN:X.N.Nodup) (ha:SE X sf C ea a) (hi:i ∉ io:=by decide) (hs:sf i = some j:=by rfl) (hj:X.N[j]? = some x:=by rfl) (hx:L2.Loc X.env.scope x:=by first | exact Or.inl rfl | exact Or.inr rfl)
  (hsw:swapsWith ea (some (.Name x pos')) pos.line X.env = pure false:=by rfl) (hf:X.fn x = true \/ X.env.scope.names.lookup x = some .local:=by first | exact .inl rfl | exact .inr rfl):SS X sf io C (.Assign [.Name x pos'] ea pos) (.asg xx i a):=cA (iC (i:=j) hN hj hx ha hsw hf) (i6 hi hs)
theorem au {vs:List Nat} (ha:SE X sf C ea a):SS X sf io C (.Return (some ea) pos) (.ret vs a):=cA (ph ha) xy
theorem zIf {xx:M.X} {r u:List Stmt} {s t:List M.S} (hc:SB X sf C ec c) (ha:SSs X sf io C r s) (hb:SSs X sf io C u t):SS X sf io C (.If ec r u pos) (.ite xx c s t):=cA (An hc ha hb) v9
theorem Cb {xx:M.X} {r:List Stmt} {s:List M.S} (hc:SB X sf C ec c) (ha:SSs X sf io C r s) (hp:PassesOwn (model X.prog X.w) X.A X.env X.xe:=by exact PassesOwn.never):SS X sf io C (.While ec r [] pos) (.whl xx c s):=cA (oz hp hc ha) xr
theorem gJ (j:Nat) {t:Nat} {x:Str} {px:Pos} {iter:Expr} {r:List Stmt} {s:List M.S} {vs ls:List Nat} {k:M.Ik} {src:List M.E} (hN:X.N.Nodup) (hi:PI X (.Name x px) iter (wI X.K sf C 1 k src)) (ha:SSs X sf io C r s) (hio:∀ u ∈ [t],u ∉ io:=by decide) (hjs:[t].map sf = [j].map some:=by rfl) (hj:X.N[j]? = some x:=by rfl) (hx:L2.Loc X.env.scope x:=by first | exact Or.inl rfl | exact Or.inr rfl)
  (hc:X.calm = true:=by rfl) (hp:PassesOwn (model X.prog X.w) X.A X.env X.xe:=by exact PassesOwn.never) (hf:X.fn x = true \/ X.env.scope.names.lookup x = some .local:=by first | exact .inl rfl | exact .inr rfl) (hs:∀ x,foldedSetIterable iter X.env x = pure x:=by intro _; rfl):SS X sf io C (.For (.Name x px) iter r [] pos) (.forS vs ls k src [t] s) :=
 cA (kZ hp hc hi (bR (i:=j) hN hj hx hf) ha hs) (oD rfl (by simp) hio hjs)
theorem nX (j l:Nat) {t u:Nat} {x y:Str} {px py pt:Pos} {kt:Nat} {iter:Expr} {r:List Stmt} {s:List M.S} {vs ls:List Nat} {k:M.Ik} {src:List M.E} (hN:X.N.Nodup) (hi:PI X (.Tuple [.Name x px,.Name y py] kt pt) iter (wI X.K sf C 2 k src)) (ha:SSs X sf io C r s) (hio:∀ v ∈ [t,u],v ∉ io:=by decide) (nd:[t,u].Nodup:=by decide) (hjs:[t,u].map sf = [j,l].map some:=by rfl) (hj:X.N[j]? = some x:=by rfl) (hl:X.N[l]? = some y:=by rfl)
  (hx:L2.Loc X.env.scope x:=by first | exact Or.inl rfl | exact Or.inr rfl) (hy:L2.Loc X.env.scope y:=by first | exact Or.inl rfl | exact Or.inr rfl)
  (hc:X.calm = true:=by rfl) (hp:PassesOwn (model X.prog X.w) X.A X.env X.xe:=by exact PassesOwn.never) (hf:X.fn x = true \/ X.env.scope.names.lookup x = some .local:=by first | exact .inl rfl | exact .inr rfl) (hf':X.fn y = true \/ X.env.scope.names.lookup y = some .local:=by first | exact .inl rfl | exact .inr rfl) (hs:∀ x,foldedSetIterable iter X.env x = pure x:=by intro _; rfl):SS X sf io C (.For (.Tuple [.Name x px,.Name y py] kt pt) iter r [] pos) (.forS vs ls k src [t,u] s) :=
 cA (kZ hp hc hi (kr (n:=2) hc (cB (bR (i:=j) hN hj hx hf) (cB (bR (i:=l) hN hl hy hf') iP))) ha hs) (oD rfl nd hio hjs)
theorem kn (j:Nat) {i:Nat} {x:Str} {xx:M.X} {apos cpos px:Pos} (ha:SE X sf C ea a) (hs:sf i = some j:=by rfl) (hN:X.N[j]? = some x:=by rfl) (hv:Vis X.env.scope x:=by first | exact Or.inl rfl | exact Or.inr (Or.inl rfl) | exact Or.inr (Or.inr rfl)) (hd:(x == ("__debug__":Str)) = false:=by decide) (hcd:(x == ("__classdict__":Str)) = false:=by decide)
  (hbase:attributeBase (.Name x px) "append" X.env (eval (.Name x px) X.env) = eval (.Name x px) X.env:=by rfl)
  (hfew:((backTo cpos (starEach [ea] X.env)).all (fun x=>!x.1) && (backToKw cpos (keywordEach [] X.env)).all (fun x=>x.1.isSome) && decide ([ea].length + ([]:List Keyword).length + (if ([]:List Keyword).isEmpty then 0 else 1) < 30)) = true:=by rfl)
  (hline:(apos.endLine == cpos.line) = true:=by rfl) (hst:starEach [ea] X.env = (false,eval ea X.env) :: starEach [] X.env:=by rfl) (hplain:(backTo cpos (starEach [] X.env)).any (·.1) = false:=by rfl) (hsw:swapsWith (.Call (.Attribute (.Name x px) "append" apos) [ea] [] cpos) none pos.line X.env = pure false:=by rfl) :
  SS X sf io C (.Expr (.Call (.Attribute (.Name x px) "append" apos) [ea] [] cpos) pos) (.app xx i a) :=
 cA (jc (mr PySem.F.plainAttrs_list PySem.F.slot_list_append PySem.F.type_list_append gK (cO hN hv hd hcd) (aO ha bD hst) hbase hfew hline hst hplain) hsw) fun D σ H hw=>by
  obtain ⟨p,xs,hj,hp,pv,Z,Fs,η,w,η',A,ev,k⟩:=yu hs D σ H hw
  refine ⟨.ref p,hj,.inl ⟨rfl,xs,.inl (.inl hp)⟩,pv,Z,Fs,η,w,η',A,ev,fun v Z' H' Fs' G B r s=>?_⟩
  obtain ⟨ys,h1,h2,h3⟩:=k v Z' H' Fs' G B r s
  exact ⟨p,ys,v,rfl,rfl,h1,h2,h3⟩
theorem yo (j:Nat) {i:Nat} {x:Str} {xx:M.X} {apos cpos px:Pos} (ha:SE X sf C ea a) (hs:sf i = some j:=by rfl) (hN:X.N[j]? = some x:=by rfl) (hv:Vis X.env.scope x:=by first | exact Or.inl rfl | exact Or.inr (Or.inl rfl) | exact Or.inr (Or.inr rfl)) (hd:(x == ("__debug__":Str)) = false:=by decide) (hcd:(x == ("__classdict__":Str)) = false:=by decide)
  (hbase:attributeBase (.Name x px) "extend" X.env (eval (.Name x px) X.env) = eval (.Name x px) X.env:=by rfl)
  (hfew:((backTo cpos (starEach [ea] X.env)).all (fun x=>!x.1) && (backToKw cpos (keywordEach [] X.env)).all (fun x=>x.1.isSome) && decide ([ea].length + ([]:List Keyword).length + (if ([]:List Keyword).isEmpty then 0 else 1) < 30)) = true:=by rfl)
  (hline:(apos.endLine == cpos.line) = true:=by rfl) (hst:starEach [ea] X.env = (false,eval ea X.env) :: starEach [] X.env:=by rfl) (hplain:(backTo cpos (starEach [] X.env)).any (·.1) = false:=by rfl) (hsw:swapsWith (.Call (.Attribute (.Name x px) "extend" apos) [ea] [] cpos) none pos.line X.env = pure false:=by rfl) :
  SS X sf io C (.Expr (.Call (.Attribute (.Name x px) "extend" apos) [ea] [] cpos) pos) (.ext xx i a) :=
 cA (jc (mr PySem.F.plainAttrs_list PySem.F.slot_list_extend PySem.F.type_list_extend ni (cO hN hv hd hcd) (aO ha bD hst) hbase hfew hline hst hplain) hsw) fun D σ H hw=>by
  obtain ⟨p,xs,hj,hp,pv,Z,Fs,η,w,η',A,ev,k⟩:=wc hs D σ H hw
  refine ⟨.ref p,hj,.inl ⟨rfl,xs,.inl (.inl hp)⟩,pv,Z,Fs,η,w,η',A,ev,fun v Z' H' Fs' G B r s=>?_⟩
  obtain ⟨b,ys,zs,rfl,h1,h2,h3,h4⟩:=k v Z' H' Fs' G B r s
  exact ⟨p,b,ys,zs,rfl,rfl,h1,h2,h3,h4⟩
theorem qG (j:Nat) {i:Nat} {x:Str} {xx:M.X} {px ps:Pos} (ha:SE X sf C ea a) (hb:SE X sf C eb b) (hs:sf i = some j:=by rfl) (hN:X.N[j]? = some x:=by rfl) (hv:Vis X.env.scope x:=by first | exact Or.inl rfl | exact Or.inr (Or.inl rfl) | exact Or.inr (Or.inr rfl)) (hd:(x == ("__debug__":Str)) = false:=by decide) (hcd:(x == ("__classdict__":Str)) = false:=by decide)
  (has:∀ v,assign (.Subscript (.Name x px) eb ps) X.env v = (do
   let ov <- holding [v] (eval (.Name x px) X.env)
   let iv <- holding [v,ov] (eval eb X.env)
   standAt ps
   holding [v,ov,iv] (setItem ov iv v)
   release [v,ov,iv] []):=by intro _; rfl)
  (h1:swapsWithSole [.Subscript (.Name x px) eb ps] ea pos.line X.env = pure false:=by rfl) (h2:swappedStores [.Subscript (.Name x px) eb ps] ea X.env = pure none:=by rfl) (h3:(assignEach [.Subscript (.Name x px) eb ps] X.env).map (·.2) = [assign (.Subscript (.Name x px) eb ps) X.env]:=by rfl) :
  SS X sf io C (.Assign [.Subscript (.Name x px) eb ps] ea pos) (.setI xx i b a) :=
 cA (rh ha (x6 (cO hN hv hd hcd) hb oM has) h1 h2 h3) fun D σ H hw=>by
  obtain ⟨pv,Z,Fs,η,w,η',A,ev,k⟩:=uh hs D σ H hw
  refine ⟨pv,Z,Fs,η,w,η',A,ev,fun v Z' H' Fs' G B r s=>?_⟩
  obtain ⟨o,ho,pv2,Z2,Fs2,η2,w2,η3,A2,ev2,k2⟩:=k v Z' H' Fs' G B r s
  refine ⟨o,ho,pv2,Z2,Fs2,η2,w2,η3,A2,ev2,fun z Z3 H3 Fs3 G3 B3 r3 s3=>?_⟩
  obtain ⟨q,xs,n,m,rfl,rfl,g1,g2,g3⟩:=k2 z Z3 H3 Fs3 G3 B3 r3 s3
  exact ⟨q,xs,n,m,rfl,rfl,g1,g2,g3⟩
end
end MR

set_option Elab.async false
set_option linter.all false
set_option maxRecDepth 100000
set_option maxHeartbeats 4000000
namespace MR
open PySem PySem.Spec PyProof.Rows L2 L3
section
variable {K:PySem.W.Frag} {Z:Fp} {H:Hp}
theorem iQ:∀ {ws:List M.W} {n i:Nat} {w:M.W},M.rd (ws.map some ++ List.replicate n none) i = some w -> ws[i]? = some w
 | [],0,i,w,h=>by simp [M.rd] at h
 | [],n + 1,0,w,h=>by simp [List.replicate_succ,M.rd] at h
 | [],n + 1,i + 1,w,h=>by
  have:M.rd (([]:List M.W).map some ++ List.replicate n none) i = some w:=by simpa [List.replicate_succ,M.rd] using h
  have:=iQ this
  simp at this
 | u :: ws,n,0,w,h=>by simpa [M.rd] using h
 | u :: ws,n,i + 1,w,h=>by
  have:M.rd (ws.map some ++ List.replicate n none) i = some w:=by simpa [M.rd] using h
  simpa using iQ this
theorem qQ:∀ {ws:List M.W} {vs:List V} {G:Fp},RepW K Z H ws vs G -> ∃ Fs:Fps,(∀ i a,Fs i a -> G a) /\ (∀ i j a,Fs i a -> Fs j a -> i = j) /\ ∀ i w,ws[i]? = some w -> ∃ v,vs[i]? = some v /\ Rep K Z H w.1 w.2 v (Fs i)
 | [],vs,G,_=>⟨fun _=>no,fun _ _ h=>h.elim,fun _ _ _ h=>h.elim,fun i w h=>by simp at h⟩
 | w :: ws,vs,G,⟨x,r,G1,G2,e,h1,h2,hd,p,q⟩=>by
  obtain ⟨Fs,f1,f2,f3⟩:=qQ q
  subst e
  refine ⟨fun i=>match i with | 0=>G1 | i + 1=>Fs i,fun i a h=>?_,fun i j a hi hj=>?_,fun i u h=>?_⟩
  ·cases i with
   | zero=>exact h1 a h
   | succ i=>exact h2 a (f1 i a h)
  ·cases i with
   | zero =>
    cases j with
    | zero=>rfl
    | succ j=>exact absurd (f1 j a hj) (hd a hi)
   | succ i =>
    cases j with
    | zero=>exact absurd (f1 i a hi) (hd a hj)
    | succ j=>exact congrArg (· + 1) (f2 i j a hi hj)
  ·cases i with
   | zero=>simp only [List.getElem?_cons_zero,Option.some.injEq] at h; subst h; exact ⟨x,rfl,p⟩
   | succ i=>simpa using f3 i u (by simpa using h)
def slN (n:Nat):Nat -> Option Nat:=fun i=>if i < n then some i else none
theorem cn {sl:Cf} {σ:L2.St} {Fs:Fps} {η:M.Env} {G:Fp} {vs:List V} (A:At K sl σ Z H Fs η G):∀ {io:List Nat} {bs:List M.W},io.Nodup -> (∀ i ∈ io,sl.pv i = vs[i]? /\ i < vs.length) -> M.backs io η = some bs -> RepW K Z H bs (atV io vs) (fun a=>∃ i ∈ io,Fs i a)
 | [],bs,_,_,h=>by
  simp only [M.backs,Option.some.injEq] at h; subst h; rfl
 | i :: io,bs,nd,hv,h=>by
  simp only [M.backs] at h
  cases e:M.rd η i with
  | none=>rw [e] at h; cases h
  | some w =>
   rw [e] at h
   simp only [Option.bind_some] at h
   cases e2:M.backs io η with
   | none=>rw [e2] at h; cases h
   | some ws =>
    rw [e2] at h
    simp only [Option.bind_some,Option.some.injEq] at h
    subst h
    obtain ⟨v,r,_,hp⟩:=A.env i w.1 w.2 e
    have hi:=hv i List.mem_cons_self
    obtain ⟨u,hu⟩:∃ u,vs[i]? = some u:=⟨vs[i]'hi.2,List.getElem?_eq_getElem hi.2⟩
    have:=hp u (hi.1.trans hu)
    subst this
    refine ⟨v,atV io vs,Fs i,fun a=>∃ j ∈ io,Fs j a,?_,fun a h=>⟨i,List.mem_cons_self,h⟩,fun a ⟨j,hj,h⟩=>⟨j,List.mem_cons_of_mem _ hj,h⟩,fun a h ⟨j,hj,h'⟩=>?_,r,cn A (List.nodup_cons.mp nd).2 (fun j hj=>hv j (List.mem_cons_of_mem _ hj)) e2⟩
    ·rw [atV,List.filterMap_cons,hu]; rfl
    ·exact (List.nodup_cons.mp nd).1 (A.gd.dis i j a h h' ▸ hj)
end
section
variable {P:Program} {w:World} {K:PySem.W.Frag} {mg:Str -> Option Value} {base:Heap}
theorem jw {Z:Fp} {H:Hp} {ws:List M.W} {vs:List V} {G:Fp} {N:List Str} {n:Nat} {io:List Nat} (r:RepW K Z H ws vs G) (o:Own Z H G) (z:∀ a,Z a -> H a ≠ none) (hl:vs.length <= N.length) :
  ∃ Fs,(∀ a,tot Fs a -> G a) /\ At K ⟨slN N.length,fun i=>if i ∈ io then vs[i]? else none⟩ (L2.start N vs) Z H Fs (ws.map some ++ List.replicate n none) no:=by
 obtain ⟨Fs,f1,f2,f3⟩:=qQ r
 have st:∀ i v,vs[i]? = some v -> (L2.start N vs)[i]? = some (some v):=fun i v h=>by
  have hi:=(List.getElem?_eq_some_iff.mp h).1
  rw [L2.start,List.getElem?_append_left (by simpa using hi),List.getElem?_map,h]; rfl
 refine ⟨Fs,fun a ⟨i,h⟩=>f1 i a h,⟨⟨fun a ⟨i,h⟩=>o a (f1 i a h),f2,z⟩,fun i m t e=>?_,fun a h=>h.elim,fun a h=>h.elim,fun i u j hu hj=>?_,fun i j hj=>?_⟩⟩
 ·obtain ⟨v,hv,rp⟩:=f3 i (m,t) (iQ e)
  refine ⟨v,rp,fun j hj=>?_,fun u hu=>?_⟩
  ·simp only [slN] at hj
   split at hj
   ·cases hj; exact st i v hv
   ·cases hj
  ·simp only at hu
   split at hu
   ·rw [hv] at hu; cases hu; rfl
   ·cases hu
 ·simp only at hu
  simp only [slN] at hj
  split at hj
  ·cases hj
   split at hu
   ·exact st i u hu
   ·cases hu
  ·cases hj
 ·simp only [slN] at hj
  split at hj
  ·cases hj
   rename_i h
   rw [L2.start,List.length_append,List.length_map,List.length_replicate]; omega
  ·cases hj
theorem Fun.okM {x qual:Str} {st:Stmt} {f:Addr} {fd:FuncData} {N ps:List Str} {k:Nat} {C:M.Call} {d:M.Fn} (F:L2.Fun K x qual st f fd) (S:ai N ps (defScope st)) (hps:d.ps = ps.length) (hle:ps.length <= N.length) (nd:d.io.Nodup) (hio:∀ i ∈ d.io,i < ps.length)
  (hbody:∀ (cdv:Value) (A:Around) (outer:List Env) (s:Shared) (H:Hp) (E:XK),Room k (A.deeper (envOfC qual (defScope st) s.heap.objs.size f cdv)) ->
   SSs (eL CX0 P w K mg base N qual (defScope st) f cdv A outer s H E).nox (slN N.length) d.io C (defBody st) d.body) {g:Nat} {C':M.Call} (hC:∀ ws,C' g ws = M.runF C d ws):FnOk P w K mg base CX0 (k + 1) f fd ps (spS K C' g d.io):=by
 have len:∀ vs H Q E,spS K C' g d.io vs H Q E -> vs.length = ps.length:=fun vs H Q E ⟨Z,ws,G,w,bs,r,_,_,hr,_⟩=>by
  rw [hC] at hr
  unfold M.runF at hr
  split at hr
  ·rename_i h; rw [r.length,h,hps]
  ·cases hr
 refine F.ok S len fun cdv A outer s H vs Q E hr h=>⟨_,hbody cdv A outer s H E hr,?_⟩
 have hlen:=len vs H Q E h
 obtain ⟨Z,ws,G,w,bs,r,o,z,hc,q⟩:=h
 rw [hC] at hc
 have hwl:ws.length = d.ps:=by rw [<- r.length,hlen,hps]
 rw [M.x_run _ _ _ hwl] at hc
 obtain ⟨Fs,ft,A0⟩:=jw (n:=d.ns) (io:=d.io) r o z (N:=N) (by omega)
 refine ⟨_,Z,Fs,_,⟨fun i i' j h h'=>?_,fun i h=>if_neg h⟩,A0,?_⟩
 ·simp only [slN] at h h'
  split at h
  ·split at h'
   ·cases h; cases h'; rfl
   ·cases h'
  ·cases h
 have hv:∀ i ∈ d.io,(if i ∈ d.io then vs[i]? else none) = vs[i]? /\ i < vs.length:=fun i hi=>⟨if_pos hi,hlen ▸ hio i hi⟩
 cases e:M.evSs C d.body (ws.map some ++ List.replicate d.ns none) with
 | nx η =>
  rw [e] at hc
  intro σ' Z' H' Fs' A' t
  simp only [M.Fl.out] at hc
  cases e2:M.backs d.io η with
  | none=>rw [e2] at hc; cases hc
  | some cs =>
   rw [e2] at hc
   cases hc
   refine q .non Z' H' no _ rfl (cn A' nd hv e2) (fun _ h=>h.elim) (fun a h=>h.elim (fun z=>z.elim) fun ⟨i,_,z⟩=>A'.gd.own a ⟨i,z⟩) (t.mono ft fun a h=>h.elim (fun z=>z.elim) fun ⟨i,_,z⟩=>⟨i,z⟩)
 | rt u η =>
  rw [e] at hc
  intro v σ' Z' H' Fs' G' A' rp t
  simp only [M.Fl.out] at hc
  cases e2:M.backs d.io η with
  | none=>rw [e2] at hc; cases hc
  | some cs =>
   rw [e2] at hc
   cases hc
   exact q v Z' H' G' _ rp (cn A' nd hv e2) (fun a h ⟨i,_,z⟩=>A'.dis a h ⟨i,z⟩) (fun a h=>h.elim (A'.own a) fun ⟨i,_,z⟩=>A'.gd.own a ⟨i,z⟩) (t.mono ft fun a h=>h.elim .inr fun ⟨i,_,z⟩=>.inl ⟨i,z⟩)
 | bk η=>rw [e] at hc; cases hc
 | ex c x η=>rw [e] at hc; cases hc
 | no=>rw [e] at hc; cases hc
end
end MR

set_option Elab.async false
set_option linter.all false
set_option maxRecDepth 100000
set_option maxHeartbeats 4000000
namespace MR
open PySem PySem.Spec PyProof.Rows L2 L3
def TopV (K:PySem.W.Frag) (H:Hp):Th -> V -> Prop
 | .tup _,x=>∃ a vs,x = .ref a /\ SqT K H a vs
 | .lst _,x=>∃ a vs,x = .ref a /\ SqL K H a vs
 | .non,x=>x = .non
 | .bl b,x=>x = .bl b
 | .int i,x=>x = .int i
 | .str z,x=>x = .str z
theorem rq {X:Cx} {c:String} (hc:c ∈ ["tuple","str","bool","int","list"]):cX X (.builtin "isinstance") (fun xs H Q=>∃ x t,xs = [x,.ty c] /\ TopV X.K H t x /\ Q (.bl (isI c t)) H):=by
 intro pins s σ H xs us Q I r h
 obtain ⟨x,t,rfl,ht,q⟩:=h
 obtain ⟨u,w',rfl,ru,rw'⟩:=jE r
 cases rw'
 have e:PySem.W.kitOne X.K (.type t.ty) (.type c) = some (isI c t):=kit_type.trans (kW hc t)
 have fin:∀ tk,EP X pins σ Q (.bool (isI c t)) { s with toks:=tk }:=fun tk=>⟨.bl (isI c t),H,I.tok tk,rfl,q⟩
 cases t with
 | non =>
  obtain rfl:x = .non:=ht
  exact dH I ru .non e fin
 | bl b =>
  obtain rfl:x = .bl b:=ht
  exact dH I ru (.bl b) e fin
 | int i =>
  obtain rfl:x = .int i:=ht
  exact dH I ru (.int i) e fin
 | str z =>
  obtain rfl:x = .str z:=ht
  exact dH I ru (.str z) e fin
 | tup ts =>
  obtain ⟨a,vs,rfl,hS⟩:=ht
  cases ru
  obtain ⟨its,_,p,_⟩:=I.tuple hS
  obtain ⟨o,h1,h2,_⟩:=p
  exact PySem.W.kia_one PySem.W.kitx_tuple I.kIn ⟨o,h1,h2⟩ e (fun z=>nomatch z) fin
 | lst ts =>
  obtain ⟨a,vs,rfl,hS⟩:=ht
  cases ru
  obtain ⟨its,_,p,_⟩:=I.list hS
  obtain ⟨o,n,h1,h2,_⟩:=p
  exact PySem.W.kia_one PySem.W.kitx_list I.kIn ⟨o,h1,h2⟩ e (fun z=>nomatch z) fin
theorem uT {X:Cx} {c1 c2:String} (h1:c1 ∈ ["tuple","str","bool","int","list"]) (h2:c2 ∈ ["tuple","str","bool","int","list"]) :
  cX X (.builtin "isinstance") (fun xs H Q=>∃ x t p,xs = [x,.ref p] /\ SqT X.K H p [.ty c1,.ty c2] /\ TopV X.K H t x /\ Q (.bl (isI c1 t || isI c2 t)) H):=by
 intro pins s σ H xs us Q I r h
 obtain ⟨x,t,p,rfl,hp,ht,q⟩:=h
 obtain ⟨u,w',rfl,ru,rw'⟩:=jE r
 cases rw'
 obtain ⟨its,rv,pt,_⟩:=I.tuple hp
 obtain ⟨y1,y2,rfl,r1,r2⟩:=jE rv
 cases r1
 cases r2
 obtain ⟨⟨oc,od,odt,osl⟩,g1,g2,n,g3⟩:=pt
 have g2':oc = .type "tuple":=g2
 have g3':odt = .seq _ n:=g3
 subst g2' g3'
 have e1:PySem.W.kitOne X.K (.type t.ty) (.type c1) = some (isI c1 t):=kit_type.trans (kW h1 t)
 have e2:PySem.W.kitOne X.K (.type t.ty) (.type c2) = some (isI c2 t):=kit_type.trans (kW h2 t)
 have e:PySem.W.kitAny X.K (.type t.ty) [.type c1,.type c2] = some (isI c1 t || isI c2 t):=by
  unfold PySem.W.kitAny
  rw [e1]
  cases isI c1 t with
  | true=>rfl
  | false =>
   unfold PySem.W.kitAny
   rw [e2]
   cases isI c2 t <;> rfl
 have fin:∀ tk,EP X pins σ Q (.bool (isI c1 t || isI c2 t)) { s with toks:=tk }:=fun tk=>⟨.bl _,H,I.tok tk,rfl,q⟩
 cases t with
 | non =>
  obtain rfl:x = .non:=ht
  cases ru
  exact PySem.W.kia_tup PySem.W.kitx_none I.kIn True.intro g1 e (fun z=>nomatch z) fin
 | bl b =>
  obtain rfl:x = .bl b:=ht
  cases ru
  exact PySem.W.kia_tup PySem.W.kitx_bool I.kIn True.intro g1 e (fun z=>nomatch z) fin
 | int i =>
  obtain rfl:x = .int i:=ht
  obtain ⟨t,rfl⟩:=ru
  exact PySem.W.kia_tup PySem.W.kitx_int I.kIn True.intro g1 e (fun z=>nomatch z) fin
 | str z =>
  obtain rfl:x = .str z:=ht
  obtain ⟨t,rfl⟩:=ru
  exact PySem.W.kia_tup PySem.W.kitx_str I.kIn True.intro g1 e (fun z=>nomatch z) fin
 | tup ts =>
  obtain ⟨a,vs,rfl,hS⟩:=ht
  cases ru
  obtain ⟨its,_,⟨o,q1,q2,_⟩,_⟩:=I.tuple hS
  exact PySem.W.kia_tup PySem.W.kitx_tuple I.kIn ⟨o,q1,q2⟩ g1 e (fun z=>nomatch z) fin
 | lst ts =>
  obtain ⟨a,vs,rfl,hS⟩:=ht
  cases ru
  obtain ⟨its,_,⟨o,n,q1,q2,_⟩,_⟩:=I.list hS
  exact PySem.W.kia_tup PySem.W.kitx_list I.kIn ⟨o,q1,q2⟩ g1 e (fun z=>nomatch z) fin
def thT:M.T -> Th
 | .non=>.non | .bl b=>.bl b | .int i=>.int i | .str x=>.str x | .tup _=>.tup [] | .lst _=>.lst [] | .scr _=>.lst [] | .dct _ _=>.non | .ins _ _ _=>.non | .gone=>.non
theorem lN {K:PySem.W.Frag} {Z:Fp} {H:Hp} {t:M.T} {m:M.Md} {x:V} {G:Fp} (hg:t.isG = false) (r:Rep K Z H m t x G):TopV K H (thT t) x /\ (thT t).ty = t.ty:=by
 cases t with
 | non=>exact ⟨r,rfl⟩
 | bl _=>exact ⟨r,rfl⟩
 | int _=>exact ⟨r,rfl⟩
 | str _=>exact ⟨r.1,rfl⟩
 | tup _=>obtain ⟨p,xs,e,q,_⟩:=r; exact ⟨⟨p,xs,e,q⟩,rfl⟩
 | lst _=>obtain ⟨p,xs,e,_,q,_⟩:=r; exact ⟨⟨p,xs,e,.inl (.inl (by cases m <;> exact q.2))⟩,rfl⟩
 | scr _=>obtain ⟨p,e,_,q⟩:=r; exact ⟨⟨p,_,e,q.sq⟩,rfl⟩
 | dct _ _=>exact r.elim
 | ins _ _ _=>exact r.elim
 | gone=>cases hg
theorem jb {t:Th} {u:M.T} {c:String} (h:t.ty = u.ty):isI c t = M.isOne c u:=by unfold isI M.isOne; rw [h]
section
variable {X:Cx} {sf sg:Nat -> Option Nat} {C:M.Call} {pos p2 p3:Pos} {ea eb ec:Expr} {a b c:M.E} {h:Bool} {n:Nat} {io:List Nat}
theorem lH {Z:Fp} {H H1:Hp} {G:Fp} (same:∀ a o,H a = some o -> H1 a = some o):Step Z H G Z H1 G:=by
 have al:∀ a,H a ≠ none -> H1 a ≠ none:=fun a h=>by
  cases e:H a with
  | none=>exact absurd e h
  | some o=>rw [same a o e]; simp
 exact ⟨fun a o h _=>same a o h,fun _ h=>h,fun _ h=>.inl h,fun _ h=>.inl h,al,fun z a h=>al a (z a h)⟩
theorem jN {K:PySem.W.Frag} {Z:Fp} {H H1:Hp} {G:Fp} {w:M.W} {Q:VK} (same:∀ a o,H a = some o -> H1 a = some o) (k:Out K Z H G w Q):Out K Z H1 G w Q:=fun v Z' H' G' r o t=>k v Z' H' G' r o ((lH same).trans t)
theorem eA {H:Hp} {p:Addr} {o:HO} (hp:H p = none):∀ a u,H a = some u -> upd H p o a = some u:=fun a u e=>by
 have:a ≠ p:=fun q=>by subst q; rw [hp] at e; cases e
 rw [ag this]; exact e
theorem TopV.same {K:PySem.W.Frag} {H H1:Hp} {t:Th} {x:V} (sm:∀ a o,H a = some o -> H1 a = some o) (h:TopV K H t x):TopV K H1 t x:=by
 cases t with
 | tup _ =>
  obtain ⟨a,vs,e,q⟩:=h
  refine ⟨a,vs,e,?_⟩
  rcases q with (z | ⟨o,z⟩) | z
  ·exact .inl (.inl (sm _ _ z))
  ·exact .inl (.inr ⟨o,sm _ _ z⟩)
  ·exact .inr z
 | lst _ =>
  obtain ⟨a,vs,e,q⟩:=h
  refine ⟨a,vs,e,?_⟩
  rcases q with (z | ⟨o,z⟩) | z
  ·exact .inl (.inl (sm _ _ z))
  ·exact .inl (.inr ⟨o,sm _ _ z⟩)
  ·exact .inr z
 | _=>exact h
theorem cZ {c:String} {k:Str} (hc:c ∈ ["tuple","str","bool","int","list"]) (hv:bootBuiltins k = some (.type c)) (hm:X.mg "isinstance" = none) (hm2:X.mg k = none) (ha:SE X sf C ea a) (hg:Gl X "isinstance":=by rfl) (hg2:Gl X k:=by rfl) (hn:k ≠ "__name__":=by decide) (hd:(k == ("__debug__":Str)) = false:=by decide)
  (hs:starEach [ea,.Name k p2] X.env = (false,eval ea X.env) :: starEach [.Name k p2] X.env:=by rfl) (hs2:starEach [.Name k p2] X.env = (false,eval (.Name k p2) X.env) :: starEach [] X.env:=by rfl) (hpl:(backTo pos (starEach [.Name k p2] X.env)).any (·.1) = false:=by rfl) :
  SE X sf C (.Call (.Name "isinstance" p3) [ea,.Name k p2] [] pos) (.op (.isI [c]) h [a]) :=
 az (bU (rq hc) hg hm PyProof.Rows.boot_isinstance (aO ha (aO (oq hg2 hm2 hv hn hd) bD hs2) hs) (by decide) (by decide) hs hpl) fun σ H Q hw=>by
  obtain ⟨pv,Z,Fs,η,w,η',A,ev,k⟩:=hw
  obtain ⟨ws,h1,h2⟩:=dy ev
  obtain ⟨⟨m,u⟩,η1,us,e1,e2,rfl⟩:=aC h1
  cases e2
  obtain ⟨hug,h2⟩:=ifN (show (if u.isG = true then none else some _) = _ from h2)
  cases h2
  refine ⟨pv,Z,Fs,η,(m,u),η',A,e1,fun x Z' H' Fs' G B r s=>?_⟩
  obtain ⟨t1,t2⟩:=lN hug r
  refine ⟨x,thT u,rfl,t1,?_⟩
  have:=cK (b7 B s k)
  rw [jb t2]
  rw [show ([c].any fun c=>M.isOne c u) = M.isOne c u by simp] at this
  exact this
theorem AS {c1 c2:String} {k1 k2:Str} {p4 pt:Pos} {kt:Nat} (hc1:c1 ∈ ["tuple","str","bool","int","list"]) (hv1:bootBuiltins k1 = some (.type c1)) (hc2:c2 ∈ ["tuple","str","bool","int","list"]) (hv2:bootBuiltins k2 = some (.type c2)) (hm:X.mg "isinstance" = none) (hm1:X.mg k1 = none) (hm2:X.mg k2 = none) (ha:SE X sf C ea a)
  (hg:Gl X "isinstance":=by rfl) (hg1:Gl X k1:=by rfl) (hg2:Gl X k2:=by rfl) (hn1:k1 ≠ "__name__":=by decide) (hd1:(k1 == ("__debug__":Str)) = false:=by decide) (hn2:k2 ≠ "__name__":=by decide) (hd2:(k2 == ("__debug__":Str)) = false:=by decide)
  (hs:starEach [ea,.Tuple [.Name k1 p2,.Name k2 p4] kt pt] X.env = (false,eval ea X.env) :: starEach [.Tuple [.Name k1 p2,.Name k2 p4] kt pt] X.env:=by rfl) (hs2:starEach [.Tuple [.Name k1 p2,.Name k2 p4] kt pt] X.env = (false,eval (.Tuple [.Name k1 p2,.Name k2 p4] kt pt) X.env) :: starEach [] X.env:=by rfl)
  (hs3:starEach [.Name k1 p2,.Name k2 p4] X.env = (false,eval (.Name k1 p2) X.env) :: starEach [.Name k2 p4] X.env:=by rfl) (hs4:starEach [.Name k2 p4] X.env = (false,eval (.Name k2 p4) X.env) :: starEach [] X.env:=by rfl) (hpl:(backTo pos (starEach [.Tuple [.Name k1 p2,.Name k2 p4] kt pt] X.env)).any (·.1) = false:=by rfl) :
  SE X sf C (.Call (.Name "isinstance" p3) [ea,.Tuple [.Name k1 p2,.Name k2 p4] kt pt] [] pos) (.op (.isI [c1,c2]) h [a]) :=
 az (bU (uT hc1 hc2) hg hm PyProof.Rows.boot_isinstance (aO ha (aO (kq (aO (oq hg1 hm1 hv1 hn1 hd1) (aO (oq hg2 hm2 hv2 hn2 hd2) bD hs4) hs3)) bD hs2) hs) (by decide) (by decide) hs hpl) fun σ H Q hw=>by
  obtain ⟨pv,Z,Fs,η,w,η',A,ev,k⟩:=hw
  obtain ⟨ws,h1,h2⟩:=dy ev
  obtain ⟨⟨m,u⟩,η1,us,e1,e2,rfl⟩:=aC h1
  cases e2
  obtain ⟨hug,h2⟩:=ifN (show (if u.isG = true then none else some _) = _ from h2)
  cases h2
  refine ⟨pv,Z,Fs,η,(m,u),η',A,e1,fun x Z' H' Fs' G B r s=>?_⟩
  refine ⟨(by show 2 <= sizeLine; decide),fun p hp=>?_⟩
  have st:=lH (Z:=Z') (G:=fun a=>tot Fs' a \/ G a) (eA (o:=.tup [.ty c1,.ty c2]) hp)
  obtain ⟨t0,t2⟩:=lN hug r
  have t1:=t0.same (eA (o:=.tup [.ty c1,.ty c2]) hp)
  refine ⟨x,thT u,p,rfl,.inl (.inl ao),t1,?_⟩
  have:=cK (jN (eA (o:=.tup [.ty c1,.ty c2]) hp) (b7 B s k))
  rw [jb t2,jb t2]
  rw [show ([c1,c2].any fun c=>M.isOne c u) = (M.isOne c1 u || M.isOne c2 u) by simp] at this
  exact this
theorem BS (hm:X.mg "list" = none) (hm2:X.mg "range" = none) (ha:SE X sf C ea a) (hb:SE X sf C eb b) (hc:X.calm = true:=by rfl) (hg:Gl X "list":=by rfl) (hg2:Gl X "range":=by rfl)
  (hs:starEach [.Call (.Name "range" p3) [ea,eb] [] p2] X.env = (false,eval (.Call (.Name "range" p3) [ea,eb] [] p2) X.env) :: starEach [] X.env:=by rfl) (hpl:(backTo pos (starEach [] X.env)).any (·.1) = false:=by rfl)
  (hs3:starEach [ea,eb] X.env = (false,eval ea X.env) :: starEach [eb] X.env:=by rfl) (hs4:starEach [eb] X.env = (false,eval eb X.env) :: starEach [] X.env:=by rfl) (hpl2:(backTo p2 (starEach [eb] X.env)).any (·.1) = false:=by rfl) {p4:Pos} :
  SE X sf C (.Call (.Name "list" p4) [.Call (.Name "range" p3) [ea,eb] [] p2] [] pos) (.op .rng h [a,b]) :=
 az (eO (km hc) hg hm PyProof.Rows.boot_list (aO (eO nG hg2 hm2 PyProof.Rows.boot_range (aO ha (aO hb bD hs4) hs3) (by decide) (by decide) hs3 hpl2) bD hs) (by decide) (by decide) hs hpl) fun σ H Q hw=>by
  obtain ⟨pv,Z,Fs,η,w,η',A,ev,k⟩:=hw
  obtain ⟨ws,h1,h2⟩:=dy ev
  obtain ⟨⟨m,u⟩,η1,us,e1,e2,rfl⟩:=aC h1
  obtain ⟨⟨m',u'⟩,η2,us,e3,e4,rfl⟩:=aC e2
  cases e4
  cases u with
  | int i =>
   cases u' with
   | int j =>
    have h3:(if (decide (i.natAbs < 4611686018427387904) && decide (j.natAbs < 4611686018427387904) && M.fits (j - i).toNat) = true then some ((.d,.lst ((List.range (j - i).toNat).map fun (k:Nat)=>M.T.int (i + k))):M.W) else none) = some w:=h2
    split at h3
    ·rename_i hc
     rw [Bool.and_eq_true,Bool.and_eq_true,decide_eq_true_eq,decide_eq_true_eq] at hc
     cases h3
     refine ⟨pv,Z,Fs,η,(m,.int i),η1,A,e1,fun x Z1 H1 Fs1 G1 A1 r1 s1=>gD A1 e3 fun y Z2 H2 Fs2 G2 A2 r2 d2 s2 t2=>?_⟩
     cases r1
     cases r2
     refine ⟨i,j,rfl,fun p hp=>⟨p,i,j,rfl,ao,⟨by omega,by omega,by omega,by omega⟩,bx (cg hc.2),fun l hl=>?_⟩⟩
     have sm:=eA (o:=.rng i j) hp
     have ow:Own Z2 (upd H2 p (.rng i j)) (fun c=>G1 c \/ G2 c):=fun a ha=>by
      obtain ⟨z1,ys,z2⟩:=A2.own a ha
      exact ⟨z1,ys,sm a _ z2⟩
     have za:∀ a,Z2 a -> upd H2 p (.rng i j) a ≠ none:=fun a ha q=>by
      cases e:H2 a with
      | none=>exact A2.gd.zal a ha e
      | some o=>rw [sm a o e] at q; cases q
     have kk:=jN sm (b7 A2 (s1.trans t2) k)
     refine bQ (m:=.d) (G':=no) ow za (fun _ z=>z.elim) ?_ ?_ (by simp) kk hl
     ·rw [List.length_map,List.length_range]; exact cg hc.2
     ·have q1:((List.range (j - i).toNat).map fun (k:Nat)=>M.T.int (i + (k:Int))) = ((List.range (j - i).toNat).map fun (k:Nat)=>i + (k:Int)).map M.T.int:=by rw [List.map_map]; rfl
      have q2:((List.range (j - i).toNat).map fun (k:Nat)=>V.int (i + (k:Int))) = ((List.range (j - i).toNat).map fun (k:Nat)=>i + (k:Int)).map V.int:=by rw [List.map_map]; rfl
      rw [q1,q2]
      exact iw _
    ·cases h3
   | _=>cases h2
  | _=>cases u' <;> cases h2
theorem vA (j:Nat) {i:Nat} {x:Str} {apos cpos px pk:Pos} {kk:Nat} (hs:sf i = some j:=by rfl) (hN:X.N[j]? = some x:=by rfl) (hv:Vis X.env.scope x:=by first | exact Or.inl rfl | exact Or.inr (Or.inl rfl) | exact Or.inr (Or.inr rfl)) (hd:(x == ("__debug__":Str)) = false:=by decide) (hcd:(x == ("__classdict__":Str)) = false:=by decide)
  (hbase:attributeBase (.Name x px) "pop" X.env (eval (.Name x px) X.env) = eval (.Name x px) X.env:=by rfl)
  (hfew:((backTo cpos (starEach [.Constant (.int 0) kk pk] X.env)).all (fun x=>!x.1) && (backToKw cpos (keywordEach [] X.env)).all (fun x=>x.1.isSome) && decide ([Expr.Constant (.int 0) kk pk].length + ([]:List Keyword).length + (if ([]:List Keyword).isEmpty then 0 else 1) < 30)) = true:=by rfl)
  (hline:(apos.endLine == cpos.line) = true:=by rfl) (hst:starEach [.Constant (.int 0) kk pk] X.env = (false,eval (.Constant (.int 0) kk pk) X.env) :: starEach [] X.env:=by rfl) (hplain:(backTo cpos (starEach [] X.env)).any (·.1) = false:=by rfl) :
  SE X sf C (.Call (.Attribute (.Name x px) "pop" apos) [.Constant (.int 0) kk pk] [] cpos) (.pop i [.cst (.int 0)]) :=
 az (mr PySem.F.plainAttrs_list PySem.F.slot_list_pop PySem.F.type_list_pop rj (cO hN hv hd hcd) (aO kU bD hst) hbase hfew hline hst hplain) fun σ H Q hw=>by
  obtain ⟨a,xs,y,hj,hp,q⟩:=va hs rfl σ H Q hw
  exact ⟨.ref a,hj,.inl ⟨rfl,_,.inl (.inl hp)⟩,a,_,0,0,y,rfl,rfl,hp,by decide,by decide,by simp [seqIndex?],rfl,q⟩
theorem vG {es:List Expr} {kt:Nat} {pt p:Pos} (hm:X.mg "enumerate" = none) (hg:Gl X "enumerate":=by rfl) (ha:SE X sf C ea a) (hs:starEach [ea] X.env = [(false,eval ea X.env)]:=by rfl):PI X (.Tuple es kt pt) (.Call (.Name "enumerate" p) [ea] [] pos) (wI X.K sf C 2 .enm [a]):=jQ (rO hg hm (slc ha sl0 hs) hs) v8
end
end MR

set_option Elab.async false
set_option linter.all false
set_option maxRecDepth 100000
set_option maxHeartbeats 4000000
namespace MR
open PySem PySem.Spec PyProof.Rows L2 L3
structure Txt (mg:Str -> Option Value):Prop where
 isin:mg "isinstance" = none
 int:mg "int" = none
 tup:mg "tuple" = none
 list:mg "list" = none
 bool:mg "bool" = none
 sum:mg "sum" = none
 len:mg "len" = none
 all:mg "all" = none
 zip:mg "zip" = none
 range:mg "range" = none
 enum:mg "enumerate" = none
 any:mg "any" = none
 max:mg "max" = none
 min:mg "min" = none
 sorted:mg "sorted" = none
 str:mg "str" = none
 repr:mg "repr" = none
 abs:mg "abs" = none
 dict:mg "dict" = none
 set:mg "set" = none
 rev:mg "reversed" = none
theorem frc {X:Cx} {scope:Scope} {cl:List (Str × Addr)} {y:Str} {ys:List Str} {i:Nat} {is:List Nat} {c:Addr} (r:Frees X scope cl ys is) (h1:X.N[i]? = some y:=by rfl) (h2:Vis X.env.scope y:=by first | exact Or.inl rfl | exact Or.inr (Or.inl rfl) | exact Or.inr (Or.inr rfl)) (h3:X.env.kindOf y = some .cell \/ X.env.kindOf y = some .free:=by first | exact Or.inl rfl | exact Or.inr rfl)
  (h4:X.env.cells.lookup y = some c:=by rfl) (h5:cl.lookup y = some c:=by rfl) (h6:(relabel scope X.env).names.lookup y = some .cell \/ (relabel scope X.env).names.lookup y = some .free:=by first | exact Or.inl rfl | exact Or.inr rfl):Frees X scope cl (y :: ys) (i :: is):=.cons h1 h2 h3 h4 h5 h6 r
theorem eN {X:Cx} {y:Str} {c:Addr} {cl:List (Str × Addr)} (r:Clo X cl) (h:X.env.cells.lookup y = some c:=by rfl):Clo X ((y,c) :: cl):=.cons h r
section
variable {X:Cx} {sf sg:Nat -> Option Nat} {C:M.Call} {pos p2 p3:Pos} {ea eb ec:Expr} {a b c:M.E} {h:Bool} {n:Nat} {io:List Nat}
section
variable {elt iter cnd:Expr} {x y:Str} {px py pt:Pos} {kt:Nat} {scope:Scope} {tg:List Nat} {k:M.Ik} {src:List M.E} {e cd:M.E}
theorem zC1 (j:Nat) (ls:List Nat) (is:List Nat) (cl:List (Str × Addr)) (ys:List Str) {z:Str} {pz spos:Pos} {xx:M.X} {i t:Nat} (hi:PI X (.Name x px) iter (wI X.K sf C 1 k src)) (he:∀ Ca s H fp,SE (aj X ([x] ++ ys) scope cl Ca s H fp) (inF [t] ls) C elt e)
  (S:aq [x] ys scope) (hcl:Clo X cl) (fr:Frees X scope cl ys is) (hN:X.N.Nodup) (hni:i ∉ io:=by decide) (hsj:sf i = some j:=by rfl) (hj:X.N[j]? = some z:=by rfl) (hz:L2.Loc X.env.scope z:=by first | exact Or.inl rfl | exact Or.inr rfl)
  (hsw:swapsWith (.ListComp elt [⟨(.Name x px),iter,[],0⟩] scope pos) (some (.Name z pz)) spos.line X.env = pure true:=by rfl) (hc:X.calm = true:=by rfl) (hl:ls.map sf = is.map some:=by rfl)
  (hclos:closureFor scope X.env = pure cl:=by with_unfolding_all rfl) (hfr:(scope.names.all fun p=>p.2 != .free || (cl.lookup p.1).isSome) = true:=by rfl)
  (hs:∀ v,foldedSetIterable iter X.env v = pure v:=by intro _; rfl) (hfn:X.fn z = true \/ X.env.scope.names.lookup z = some .local:=by first | exact .inl rfl | exact .inr rfl):SS X sf io C (.Assign [.Name z pz] (.ListComp elt [⟨(.Name x px),iter,[],0⟩] scope pos) spos) (.asg xx i (.comp h k src [t] none e)) :=
 cA (mJ (pre:=[x]) hN hj hz hsw hc hi (xC S) (fun Ca s H fp=>he Ca s H fp) hclos S hcl hfr fr hs hfn) fun D σ H hw=>gy rfl (by simp) (cy hl) σ H _ (i6 hni hsj D σ H hw)
theorem CM (j:Nat) (ls:List Nat) (is:List Nat) (cl:List (Str × Addr)) (ys:List Str) {z:Str} {pz spos:Pos} {xx:M.X} {i t:Nat} (hi:PI X (.Name x px) iter (wI X.K sf C 1 k src)) (hcd:∀ Ca s H fp,SB (aj X ([x] ++ ys) scope cl Ca s H fp) (inF [t] ls) C cnd cd) (he:∀ Ca s H fp,SE (aj X ([x] ++ ys) scope cl Ca s H fp) (inF [t] ls) C elt e)
  (S:aq [x] ys scope) (hcl:Clo X cl) (fr:Frees X scope cl ys is) (hN:X.N.Nodup) (hni:i ∉ io:=by decide) (hsj:sf i = some j:=by rfl) (hj:X.N[j]? = some z:=by rfl) (hz:L2.Loc X.env.scope z:=by first | exact Or.inl rfl | exact Or.inr rfl)
  (hsw:swapsWith (.ListComp elt [⟨(.Name x px),iter,[cnd],0⟩] scope pos) (some (.Name z pz)) spos.line X.env = pure true:=by rfl) (hc:X.calm = true:=by rfl) (hl:ls.map sf = is.map some:=by rfl)
  (hclos:closureFor scope X.env = pure cl:=by with_unfolding_all rfl) (hfr:(scope.names.all fun p=>p.2 != .free || (cl.lookup p.1).isSome) = true:=by rfl)
  (hs:∀ v,foldedSetIterable iter X.env v = pure v:=by intro _; rfl) (hfn:X.fn z = true \/ X.env.scope.names.lookup z = some .local:=by first | exact .inl rfl | exact .inr rfl):SS X sf io C (.Assign [.Name z pz] (.ListComp elt [⟨(.Name x px),iter,[cnd],0⟩] scope pos) spos) (.asg xx i (.comp h k src [t] (some cd) e)) :=
 cA (ij (pre:=[x]) hN hj hz hsw hc hi (xC S) (fun Ca s H fp=>he Ca s H fp) (fun Ca s H fp=>hcd Ca s H fp) hclos S hcl hfr fr hs hfn) fun D σ H hw=>fQ rfl (by simp) (cy hl) σ H _ (i6 hni hsj D σ H hw)
theorem BI (j:Nat) (ls:List Nat) (is:List Nat) (cl:List (Str × Addr)) (ys:List Str) {z:Str} {pz spos:Pos} {xx:M.X} {i t t':Nat} (hi:PI X (.Tuple [.Name x px,.Name y py] kt pt) iter (wI X.K sf C 2 k src)) (hcd:∀ Ca s H fp,SB (aj X ([x,y] ++ ys) scope cl Ca s H fp) (inF [t,t'] ls) C cnd cd) (he:∀ Ca s H fp,SE (aj X ([x,y] ++ ys) scope cl Ca s H fp) (inF [t,t'] ls) C elt e)
  (S:aq [x,y] ys scope) (hcl:Clo X cl) (fr:Frees X scope cl ys is) (hN:X.N.Nodup) (hni:i ∉ io:=by decide) (hsj:sf i = some j:=by rfl) (hj:X.N[j]? = some z:=by rfl) (hz:L2.Loc X.env.scope z:=by first | exact Or.inl rfl | exact Or.inr rfl)
  (hsw:swapsWith (.ListComp elt [⟨(.Tuple [.Name x px,.Name y py] kt pt),iter,[cnd],0⟩] scope pos) (some (.Name z pz)) spos.line X.env = pure true:=by rfl) (hc:X.calm = true:=by rfl) (hl:ls.map sf = is.map some:=by rfl) (nd:[t,t'].Nodup:=by decide)
  (hclos:closureFor scope X.env = pure cl:=by with_unfolding_all rfl) (hfr:(scope.names.all fun p=>p.2 != .free || (cl.lookup p.1).isSome) = true:=by rfl)
  (hs:∀ v,foldedSetIterable iter X.env v = pure v:=by intro _; rfl) (hfn:X.fn z = true \/ X.env.scope.names.lookup z = some .local:=by first | exact .inl rfl | exact .inr rfl):SS X sf io C (.Assign [.Name z pz] (.ListComp elt [⟨(.Tuple [.Name x px,.Name y py] kt pt),iter,[cnd],0⟩] scope pos) spos) (.asg xx i (.comp h k src [t,t'] (some cd) e)) :=
 cA (ij (pre:=[x,y]) hN hj hz hsw hc hi (xq hc S) (fun Ca s H fp=>he Ca s H fp) (fun Ca s H fp=>hcd Ca s H fp) hclos S hcl hfr fr hs hfn) fun D σ H hw=>fQ rfl nd (cy hl) σ H _ (i6 hni hsj D σ H hw)
end
def cN (P:Program) (w:World) (K:PySem.W.Frag) (mg:Str -> Option Value) (base:Heap) (n:Nat) (C:M.Call) (x:Str) (f:Nat) (io:List Nat) (t:M.T):Prop :=
 ∃ fa fd ps d dv,FnOk P w K mg base CX0 n fa fd ps (spS K C f io) /\ mg x = some (.ref fa) /\ PySem.W.keepIn K (.ref fa) = true /\ Binds K fd ps [d] /\ RelV dv d /\ ∀ Z H m G,Rep K Z H m t dv G
theorem fS {t:M.T}:∀ {bs:List M.E} {η η':M.Env} {ws:List M.W},M.evA C (bs ++ [.cst t]) η = .ok (ws,η') -> ∃ us,M.evA C bs η = .ok (us,η') /\ ws = us ++ [(.d,t)]
 | [],η,η',ws,e=>by
  obtain ⟨u,η1,us,e1,e2,rfl⟩:=cF (fun _ z=>by cases z) (show M.evA C [.cst t] η = _ from e)
  cases e1
  cases e2
  exact ⟨[],rfl,rfl⟩
 | b :: bs,η,η',ws,e=>by
  rcases uc b with ⟨i,rfl⟩ | hb
  ·obtain ⟨us,η1,w,h1,h2,rfl,rfl⟩:=eE (show M.evA C (.io i :: (bs ++ [.cst t])) η = _ from e)
   obtain ⟨vs,h3,rfl⟩:=fS h1
   refine ⟨w :: vs,?_,rfl⟩
   show (M.evA C bs η).bind (M.kIo i) = _
   rw [h3]
   show (M.ofO (M.rd η1 i)).bind _ = _
   rw [h2]
   rfl
  ·obtain ⟨u,η1,us,e1,e2,rfl⟩:=cF hb (show M.evA C (b :: (bs ++ [.cst t])) η = _ from e)
   obtain ⟨vs,h1,rfl⟩:=fS e2
   refine ⟨u :: vs,?_,rfl⟩
   rw [M.evA_eq hb,e1]
   show (M.evA C bs η1).bind (M.kCons u) = _
   rw [h1]
   rfl
theorem lZ {x:Str} {p:Pos} {f:Nat} {es:List Expr} {bs bs':List M.E} {t:M.T} (c:cN X.prog X.w X.K X.mg X.base n C x f io t) (hr:Room n X.A) (ha:SA X sf C (ea :: es) bs) (hbs:bs' = bs ++ [.cst t]:=by rfl) (hio:fo bs' 0 = io \/ M.ios bs' = []:=by first | exact .inl rfl | exact .inr rfl) (hg:Gl X x:=by rfl) (hdb:(x == ("__debug__":Str)) = false:=by decide)
  (he:starEach (ea :: es) X.env = (false,eval ea X.env) :: starEach es X.env:=by rfl) (hpl:(backTo pos (starEach es X.env)).any (·.1) = false:=by rfl):SE X sf C (.Call (.Name x p) (ea :: es) [] pos) (.call f bs'):=by
 obtain ⟨fa,fd,ps,d,dv,F,hm,hk,hb,hd,hR⟩:=c
 refine az (my (E:=E0) F hr hg hm hk hb (.cons hd .nil) vH ha hdb he hpl) fun σ H Q hw=>?_
 subst hbs
 obtain ⟨pv,Z,Fs,η,ws,η',A,ev,k⟩:=mq hio σ H Q hw
 obtain ⟨us,h1,rfl⟩:=fS ev
 refine ⟨pv,Z,Fs,η,us,η',A,h1,fun vs Z' H' Fs' G B r s hv=>?_⟩
 have hl:us.length = bs.length:=fI h1
 refine k (vs ++ [dv]) Z' H' Fs' G B (RepW.append (G1:=G) (G2:=no) (fun _ z=>z) (fun _ z=>z.elim) (fun _ _ z=>z) r (RepW.one (hR _ _ _ _))) s fun j i u hj hu=>?_
 by_cases q:j < bs.length
 ·rw [List.getElem?_append_left q] at hj
  have:=hv j i u hj hu
  rw [List.getElem?_append_left (by rw [r.length]; omega)]
  exact this
 ·rw [List.getElem?_append_right (by omega)] at hj
  cases e:j - bs.length with
  | zero=>rw [e] at hj; simp at hj
  | succ m=>rw [e] at hj; simp at hj
end
end MR

set_option Elab.async false
set_option linter.all false
set_option maxRecDepth 100000
set_option maxHeartbeats 4000000
namespace MR
open PySem PySem.Spec PyProof.Rows L2 L3
section
variable {P:Program} {w:World} {K:PySem.W.Frag} {mg:Str -> Option Value} {base:Heap}
theorem FunD.okM {dV:Value} {x qual:Str} {st:Stmt} {f:Addr} {fd:FuncData} {N ps:List Str} {k:Nat} {C:M.Call} {d:M.Fn} (F:L3.FunD K x qual st f fd dV) (S:ai N ps (defScope st)) (hps:d.ps = ps.length) (hle:ps.length <= N.length) (nd:d.io.Nodup) (hio:∀ i ∈ d.io,i < ps.length)
  (hbody:∀ (cdv:Value) (A:Around) (outer:List Env) (s:Shared) (H:Hp) (E:XK),Room k (A.deeper (envOfC qual (defScope st) s.heap.objs.size f cdv)) ->
   SSs (eL CX0 P w K mg base N qual (defScope st) f cdv A outer s H E).nox (slN N.length) d.io C (defBody st) d.body) {g:Nat} {C':M.Call} (hC:∀ ws,C' g ws = M.runF C d ws):FnOk P w K mg base CX0 (k + 1) f fd ps (spS K C' g d.io):=by
 have len:∀ vs H Q E,spS K C' g d.io vs H Q E -> vs.length = ps.length:=fun vs H Q E ⟨Z,ws,G,w,bs,r,_,_,hr,_⟩=>by
  rw [hC] at hr
  unfold M.runF at hr
  split at hr
  ·rename_i h; rw [r.length,h,hps]
  ·cases hr
 refine F.ok S len fun cdv A outer s H vs Q E hr h=>⟨_,hbody cdv A outer s H E hr,?_⟩
 have hlen:=len vs H Q E h
 obtain ⟨Z,ws,G,w,bs,r,o,z,hc,q⟩:=h
 rw [hC] at hc
 have hwl:ws.length = d.ps:=by rw [<- r.length,hlen,hps]
 rw [M.x_run _ _ _ hwl] at hc
 obtain ⟨Fs,ft,A0⟩:=jw (n:=d.ns) (io:=d.io) r o z (N:=N) (by omega)
 refine ⟨_,Z,Fs,_,⟨fun i i' j h h'=>?_,fun i h=>if_neg h⟩,A0,?_⟩
 ·simp only [slN] at h h'
  split at h
  ·split at h'
   ·cases h; cases h'; rfl
   ·cases h'
  ·cases h
 have hv:∀ i ∈ d.io,(if i ∈ d.io then vs[i]? else none) = vs[i]? /\ i < vs.length:=fun i hi=>⟨if_pos hi,hlen ▸ hio i hi⟩
 cases e:M.evSs C d.body (ws.map some ++ List.replicate d.ns none) with
 | nx η =>
  rw [e] at hc
  intro σ' Z' H' Fs' A' t
  simp only [M.Fl.out] at hc
  cases e2:M.backs d.io η with
  | none=>rw [e2] at hc; cases hc
  | some cs =>
   rw [e2] at hc
   cases hc
   refine q .non Z' H' no _ rfl (cn A' nd hv e2) (fun _ h=>h.elim) (fun a h=>h.elim (fun z=>z.elim) fun ⟨i,_,z⟩=>A'.gd.own a ⟨i,z⟩) (t.mono ft fun a h=>h.elim (fun z=>z.elim) fun ⟨i,_,z⟩=>⟨i,z⟩)
 | rt u η =>
  rw [e] at hc
  intro v σ' Z' H' Fs' G' A' rp t
  simp only [M.Fl.out] at hc
  cases e2:M.backs d.io η with
  | none=>rw [e2] at hc; cases hc
  | some cs =>
   rw [e2] at hc
   cases hc
   exact q v Z' H' G' _ rp (cn A' nd hv e2) (fun a h ⟨i,_,z⟩=>A'.dis a h ⟨i,z⟩) (fun a h=>h.elim (A'.own a) fun ⟨i,_,z⟩=>A'.gd.own a ⟨i,z⟩) (t.mono ft fun a h=>h.elim .inr fun ⟨i,_,z⟩=>.inl ⟨i,z⟩)
 | bk η=>rw [e] at hc; cases hc
 | ex c x η=>rw [e] at hc; cases hc
 | no=>rw [e] at hc; cases hc
theorem yW {us:List Value} {d:Value} (h:(us ++ [d]).length = 3):∃ a b,us = [a,b]:=by
 match us,h with
 | [a,b],_=>exact ⟨a,b,rfl⟩
 | [],h=>cases h
 | [_],h=>cases h
 | _ :: _ :: _ :: _,h=>simp at h
theorem jh {C:M.Call} {g:Nat} {io:List Nat} {vs:List V} {H:Hp} {Q:VK} {E:XK} (hC:∀ ws,C g ws = .no) (h:spS K C g io vs H Q E):False:=by
 obtain ⟨Z,ws,G,w,bs,_,_,_,e,_⟩:=h
 rw [hC] at e
 cases e
theorem fn0 {f:Addr} {fd:FuncData} {ps:List Str} {k g:Nat} {io:List Nat} {C:M.Call} (hC:∀ ws,C g ws = .no):FnOk P w K mg base CX0 k f fd ps (spS K C g io) :=
 ⟨fun _ _ _ _ h=>(jh hC h).elim,fun _ _ _ _ _ _ _ _ _ _ _ _ _ h=>(jh hC h).elim⟩
theorem kj {Z:Fp} {H:Hp} {a:Addr} {ns:List Int} (hO:oC H) (hl:ns.length <= 63) (h:SqL K H a (ns.map V.int)):Rep K Z H .d (.scr ns) (.ref a) no:=by
 refine ⟨a,rfl,Nat.le_trans hl (by decide),?_⟩
 rcases h with (z | ⟨o,z⟩) | z
 ·rcases hO a with y | ⟨o,xs,y⟩ <;> rw [y] at z <;> cases z
 ·exact .inl ⟨o,z⟩
 ·exact .inr (.inr z)
theorem yJ {H:Hp} {a:Addr} {ns:List Int} {C:M.Call} {ix:Nat} (hp:∃ m bs,C ix [(.d,.scr ns)] = .ok ((m,.bl true),bs)) (hl:ns.length <= 63) (hO:oC H) (h:SqL K H a (ns.map V.int)):spS K C ix [] [.ref a] H (fun v _=>v = .bl true) fun _ _ _=>False:=by
 obtain ⟨m,bs,e⟩:=hp
 exact ⟨no,[(.d,.scr ns)],no,(m,.bl true),bs,RepW.one (kj hO hl h),cj,fun _ z=>z.elim,e,fun v Z' H' G1 G2 r _ _ _ _=>r⟩
end
theorem walkM {C:M.Call} {ix k:Nat} {l:PySem.W.OpenLaw} {q:Program} {loose:List Str} {XP:(Str -> Option Value) -> Heap -> Prop} {YP:World -> Heap -> Prop} {d:DefRec} {K:Params -> PySem.W.Frag} (hp:∀ ns:List Int,ns.length <= 63 -> ∃ m bs,C ix [(.d,.scr ns)] = .ok ((m,.bl true),bs)) (hn:l.most = some 63) (hdf:d.params.defaults = []) (hr:Room k callerA)
  (hY:∀ (w:World) (h:Heap),YP w h -> (K w.params).In h)
  (F:∀ (w:World) (mg:Str -> Option Value) (fa:Addr) (h:Heap),(K w.params).In h -> h.Ns mainGlobals mg -> mg d.name = some (.ref fa) ->
   ∃ fd:FuncData,(∀ (s:Shared) (u:Value),BindsTo s fd ⟨[u],[]⟩ [("script",u)]) /\ ∀ base:Heap,(K w.params).In base -> base.Ns mainGlobals mg -> FnOk l.prog w (K w.params) mg base CX0 k fa fd ["script"] (spS (K w.params) C ix [])) :
  PySem.W.WalkO q loose XP YP l.row.toRowW d [] (fun f vs=>PySem.call f vs) :=
 L2.walk_of (n:=63) (k:=k) (x:="script") (CX:=fun _=>CX0) (sp:=fun w=>spS (K w.params) C ix []) hn (by decide) hdf hr hY F (fun _ _ a ns hl hO hS=>yJ (hp ns hl) hl hO hS) fun _ _ _ _ _ z=>z
end MR

set_option Elab.async false
set_option linter.all false
set_option maxRecDepth 100000
set_option maxHeartbeats 4000000
namespace MR
open PySem PySem.Spec PyProof.Rows L2 L3
mutual
def AD (K:PySem.W.Frag) (H:Hp):Th -> V -> List Addr -> Prop
 | .non,v,as=>v = .non /\ as = []
 | .bl b,v,as=>v = .bl b /\ as = []
 | .int i,v,as=>v = .int i /\ as = []
 | .str x,v,as=>v = .str x /\ as = []
 | .tup ts,v,as=>∃ a vs,v = .ref a /\ SqT K H a vs /\ oj K H ts vs as
 | .lst ts,v,as=>∃ a vs bs,v = .ref a /\ H a = some (.lst vs) /\ oj K H ts vs bs /\ as = a :: bs
def oj (K:PySem.W.Frag) (H:Hp):List Th -> List V -> List Addr -> Prop
 | [],vs,as=>vs = [] /\ as = []
 | t :: ts,vs,as=>∃ v r b c,vs = v :: r /\ AD K H t v b /\ oj K H ts r c /\ as = b ++ c
end
structure SBs (as:List Addr) (H H':Hp):Prop where
 keep:∀ b u,b ∉ as -> H b = some u -> H' b = some u
 al:∀ b,H b ≠ none -> H' b ≠ none
instance {as:List Addr} {H H':Hp}:CoeFun (SBs as H H') (fun _=>∀ b u,b ∉ as -> H b = some u -> H' b = some u):=⟨fun s=>s.keep⟩
def WSx:Nat -> Th -> Prop
 | 0,_=>False
 | _ + 1,.non=>True
 | _ + 1,.bl _=>True
 | _ + 1,.int _=>True
 | _ + 1,.str _=>True
 | n + 1,.tup ts=>ts.length <= M.LIM /\ ∀ u ∈ ts,WSx n u
 | n + 1,.lst ts=>ts.length <= M.LIM /\ ∀ u ∈ ts,WSx n u
def Bz (K:PySem.W.Frag) (n:Nat):Sp:=fun vs H Q _=>∃ (v:V) (t:Th) (as:List Addr),vs = [v] /\ AD K H t v as /\ as.Nodup /\ WSx n t /\ ∀ H',SBs as H H' -> Q .non H'
end MR

set_option Elab.async false
set_option linter.all false
set_option maxRecDepth 100000
set_option maxHeartbeats 4000000
namespace MR
open PySem PySem.Spec PyProof.Rows L2 L3
section
variable {X:Cx} {sf sg:Nat -> Option Nat} {io:List Nat} {C:M.Call} {pos p2:Pos} {ea eb ec:Expr} {a b c:M.E} {h:Bool} {n:Nat}
theorem ui {rest:List Expr} {ta tb:TE} (ha:PE X ea ta) (hb:PE X (.BoolOp .And (eb :: rest) pos) tb):PE X (.BoolOp .And (ea :: eb :: rest) pos) (fun σ H Q=>ta σ H fun x H1=>∃ k,pG X.K x H1 k /\ if k = true then tb σ H1 Q else Q x H1):=by
 intro pins s σ H Q I h
 refine BoolOp_and (thn (ha pins s σ H _ I h) fun v s1 ⟨x,H1,I1,r1,q1⟩=>?_)
 refine thn (kQ pins s1 σ H1 x v (fun k H2=>if k = true then tb σ H2 Q else Q x H2) I1 r1 q1) fun k s2 ⟨H2,I2,q2⟩=>?_
 cases k with
 | true=>exact hb pins s2 σ H2 Q I2 (by rw [if_pos rfl] at q2; exact q2)
 | false=>exact ⟨x,H2,I2,r1,by rw [if_neg Bool.false_ne_true] at q2; exact q2⟩
theorem wG {rest:List Expr} {ta tb:TE} (ha:PE X ea ta) (hb:PE X (.BoolOp .Or (eb :: rest) pos) tb):PE X (.BoolOp .Or (ea :: eb :: rest) pos) (fun σ H Q=>ta σ H fun x H1=>∃ k,pG X.K x H1 k /\ if k = true then Q x H1 else tb σ H1 Q):=by
 intro pins s σ H Q I h
 refine BoolOp_or (thn (ha pins s σ H _ I h) fun v s1 ⟨x,H1,I1,r1,q1⟩=>?_)
 refine thn (kQ pins s1 σ H1 x v (fun k H2=>if k = true then Q x H2 else tb σ H2 Q) I1 r1 q1) fun k s2 ⟨H2,I2,q2⟩=>?_
 cases k with
 | false=>exact hb pins s2 σ H2 Q I2 (by rw [if_neg Bool.false_ne_true] at q2; exact q2)
 | true=>exact ⟨x,H2,I2,r1,by rw [if_pos rfl] at q2; exact q2⟩
theorem vA1 (ha:SE X sf C ea a):SE X sf C (.BoolOp .And [ea] pos) a:=oB ha
theorem vO1 (ha:SE X sf C ea a):SE X sf C (.BoolOp .Or [ea] pos) a:=oB ha
theorem jR {rest:List Expr} (ha:SE X sf C ea a) (hb:SE X sf C (.BoolOp .And (eb :: rest) pos) b):SE X sf C (.BoolOp .And (ea :: eb :: rest) pos) (.and a b):=az (ui ha hb) fun σ H Q h=>by
 obtain ⟨pv,Z,Fs,η,w,η',A,ev,k⟩:=we σ H Q h
 exact ⟨pv,Z,Fs,η,w,η',A,ev,fun v Z' H' Fs' G B r s=>let ⟨c,t,q⟩:=k v Z' H' Fs' G B r s; ⟨c,iY t,q⟩⟩
theorem vOr {rest:List Expr} (ha:SE X sf C ea a) (hb:SE X sf C (.BoolOp .Or (eb :: rest) pos) b):SE X sf C (.BoolOp .Or (ea :: eb :: rest) pos) (.or a b):=az (wG ha hb) fun σ H Q h=>by
 obtain ⟨pv,Z,Fs,η,w,η',A,ev,k⟩:=Af σ H Q h
 exact ⟨pv,Z,Fs,η,w,η',A,ev,fun v Z' H' Fs' G B r s=>let ⟨c,t,q⟩:=k v Z' H' Fs' G B r s; ⟨c,iY t,q⟩⟩
theorem sBW (h:SE X sf C ea a):SE X sf C ea a:=h
theorem Az {st:Stmt}:SS X sf io C st .stop:=fun pins s σ H D I q=>by
 obtain ⟨pv,Z,Fs,η,N,A,f⟩:=q
 exact (show False from f).elim
end
end MR

set_option Elab.async false
set_option linter.all false
set_option maxRecDepth 100000
set_option maxHeartbeats 4000000
namespace MR
open PySem PySem.Spec PyProof.Rows L2 L3
section
variable {K:PySem.W.Frag} {Z:Fp} {H H':Hp} {G G' Gn:Fp} {Q:VK}
theorem ib (same:∀ b o,H b = some o -> H' b = some o):Stay Z H H':=by
 refine ⟨fun a o _ e=>same a o e,fun a ys e=>?_,fun a o u e=>same a _ e⟩
 rcases e with e | ⟨u,e⟩
 ·exact .inl (same a _ e)
 ·exact .inr ⟨u,same a _ e⟩
theorem jv {w:M.W} {v:V} (ow:Own Z H G) (za:∀ a,Z a -> H a ≠ none) (hg:∀ a,G' a -> G a) (same:∀ b o,H b = some o -> H' b = some o) (hn:∀ a,Gn a -> H a = none /\ ∃ xs,H' a = some (.lst xs))
  (r:Rep K (bu Z G G') H' w.1 w.2 v (fun a=>G' a \/ Gn a)) (k:Out K Z H G w Q):Q v H':=by
 have al:∀ a,H a ≠ none -> H' a ≠ none:=fun a h=>by
  cases e:H a with
  | none=>exact absurd e h
  | some o=>rw [same a o e]; simp
 refine k v (bu Z G G') H' _ r (fun a h=>?_) ⟨fun a o e _=>same a o e,fun a h=>.inl h,fun a h=>h.imp id fun q=>.inl q.1,fun a h=>h.elim (fun z=>.inl (hg a z)) fun z=>.inr (hn a z).1,al,fun q a h=>al a ?_⟩
 ·rcases h with h | h
  ·obtain ⟨nz,ys,e⟩:=ow a (hg a h)
   exact ⟨fun z=>z.elim nz fun q=>q.2 h,ys,same a _ e⟩
  ·obtain ⟨e,ys,e'⟩:=hn a h
   refine ⟨fun z=>z.elim (fun q=>za a q e) fun q=>?_,ys,e'⟩
   obtain ⟨_,zs,e2⟩:=ow a q.1
   rw [e] at e2; cases e2
 ·rcases h with h | h
  ·exact q a h
  ·obtain ⟨_,ys,e⟩:=ow a h.1
   rw [e]; simp
theorem RepL.split {m:M.Md}:∀ {ts us:List M.T} {xs ys:List V} {G:Fp},xs.length = ts.length -> RepL K Z H m (ts ++ us) (xs ++ ys) G -> ∃ G1 G2,(∀ a,G1 a -> G a) /\ (∀ a,G2 a -> G a) /\ (∀ a,G1 a -> ¬ G2 a) /\ RepL K Z H m ts xs G1 /\ RepL K Z H m us ys G2
 | [],us,[],ys,G,_,r=>⟨no,G,fun _ z=>z.elim,fun _ z=>z,fun _ z=>z.elim,rfl,r⟩
 | t :: ts,us,x :: xs,ys,G,hl,⟨x',r',A,B,e,a1,a2,ad,p,q⟩=>by
  cases e
  obtain ⟨G1,G2,g1,g2,gd,q1,q2⟩:=RepL.split (Nat.succ.inj hl) q
  exact ⟨fun a=>A a \/ G1 a,G2,fun a h=>h.elim (a1 a) fun z=>a2 a (g1 a z),fun a h=>a2 a (g2 a h),fun a h z=>h.elim (fun y=>ad a y (g2 a z)) fun y=>gd a y z,⟨x,xs,A,G1,rfl,fun _ z=>.inl z,fun _ z=>.inr z,fun a h z=>ad a h (g1 a z),p,q1⟩,q2⟩
 | [],_,_ :: _,_,_,hl,_=>by cases hl
 | _ :: _,_,[],_,_,hl,_=>by cases hl
theorem RepL.cut {m:M.Md}:∀ (n:Nat) {ts:List M.T} {xs:List V} {G:Fp},RepL K Z H m ts xs G -> ∃ G1 G2,(∀ a,G1 a -> G a) /\ (∀ a,G2 a -> G a) /\ (∀ a,G1 a -> ¬ G2 a) /\ RepL K Z H m (ts.take n) (xs.take n) G1 /\ RepL K Z H m (ts.drop n) (xs.drop n) G2:=fun n ts xs G r=>by
 refine RepL.split (by rw [List.length_take,List.length_take,r.length]) ?_
 rw [List.take_append_drop,List.take_append_drop]
 exact r
theorem l7 {N:M.Md}:∀ {ts us:List M.T} {xs ys:List V} {ps:List Addr} {A B:Fp},RepL K Z H N ts xs A -> RepL K Z H N us ys B -> (∀ a,A a -> ¬ B a) -> ps.length = min xs.length ys.length -> (∀ (j:Nat) (p:Addr),ps[j]? = some p -> ∃ x y,xs[j]? = some x /\ ys[j]? = some y /\ SqT K H p [x,y]) ->
  RepL K Z H N.up (M.zipP ts us) (ps.map V.ref) (fun a=>A a \/ B a)
 | [],us,xs,ys,ps,A,B,r1,_,_,hl,_=>by
  cases (show xs = [] from r1)
  rw [List.length_nil,Nat.zero_min] at hl
  cases List.length_eq_zero_iff.mp hl
  rfl
 | _ :: _,[],xs,ys,ps,A,B,_,r2,_,hl,_=>by
  cases (show ys = [] from r2)
  rw [List.length_nil,Nat.min_zero] at hl
  cases List.length_eq_zero_iff.mp hl
  rfl
 | t :: ts,u :: us,xs,ys,ps,A,B,⟨x,r,A1,A2,e,a1,a2,ad,p,q⟩,⟨y,r',B1,B2,e',b1,b2,bd,p',q'⟩,d,hl,hp=>by
  cases e
  cases e'
  match ps,hl,hp with
  | [],hl,_=>rw [List.length_cons,List.length_cons] at hl; simp at hl
  | c :: ps,hl,hp =>
   refine ⟨.ref c,ps.map V.ref,fun a=>A1 a \/ B1 a,fun a=>A2 a \/ B2 a,rfl,fun a h=>h.imp (a1 a) (b1 a),fun a h=>h.imp (a2 a) (b2 a),fun a h z=>?_,?_,l7 q q' (fun a h z=>d a (a2 a h) (b2 a z)) (by rw [List.length_cons,List.length_cons,List.length_cons] at hl; omega) fun j p h=>hp (j + 1) p h⟩
   ·rcases h with h | h <;> rcases z with z | z
    ·exact ad a h z
    ·exact d a (a1 a h) (b2 a z)
    ·exact d a (a2 a z) (b1 a h)
    ·exact bd a h z
   ·obtain ⟨x',y',e1,e2,hq⟩:=hp 0 c rfl
    cases e1
    cases e2
    refine ⟨c,[x,y],rfl,hq,(by decide:2 <= M.LIM),?_⟩
    rw [bV]
    exact ⟨x,[y],A1,B1,rfl,fun _ z=>.inl z,fun _ z=>.inr z,fun a h z=>d a (a1 a h) (b1 a z),p,RepL.one p'⟩
theorem hU {m:M.Md} {a:M.T} {ts:List M.T} {v:V} {G:Fp} (e:M.elems (m,a) = some ts) (r:Rep K Z H m a v G):∃ k p xs,v = .ref p /\ Sq K H k p xs /\ xs.length <= M.LIM /\ RepL K Z H m.kid ts xs G:=by
 cases a with
 | lst us =>
  cases e
  obtain ⟨p,xs,rfl,hs,hl,q⟩:=a0 r
  exact ⟨false,p,xs,rfl,SqL.of hs,hl,q⟩
 | tup us =>
  cases e
  obtain ⟨p,xs,rfl,hs,hl,q⟩:=cW r
  exact ⟨true,p,xs,rfl,hs,hl,q⟩
 | _=>cases e
theorem qB {h:Bool}:Loc K 2 .lzip h fun vs H1 Q=>∃ k1 k2 a1 a2 xs ys,vs = [.ref a1,.ref a2] /\ Sq K H1 k1 a1 xs /\ Sq K H1 k2 a2 ys /\ ∀ l ps,ps.length = min xs.length ys.length -> ps.Pairwise (· < ·) -> (∀ p ∈ ps,H1 p = none /\ l < p) -> H1 l = none -> Q (.ref l) (upd (fz H1 ps xs ys) l (.lst (ps.map V.ref))):=by
 intro ws w vs Z H G Q hn e r ow za k
 match ws,hn,r,e with
 | [(m,a),(n,b)],_,r,e =>
  obtain ⟨x,y,rfl⟩:∃ x y,vs = [x,y]:=by
   have:=r.length
   match vs,this with
   | [x,y],_=>exact ⟨x,y,rfl⟩
  obtain ⟨G1,G2,w1,w2,d,r1,r2⟩:=cw r
  have e0:((M.elems (m,a)).bind fun ts=>(M.elems (n,b)).bind fun us=>some (((m.kid.meet n.kid).up.up,.lst (M.zipP ts us)):M.W)) = some w:=e
  cases ea:M.elems (m,a) with
  | none=>rw [ea] at e0; cases e0
  | some ts =>
   cases eb:M.elems (n,b) with
   | none=>rw [ea,eb] at e0; cases e0
   | some us =>
    rw [ea,eb] at e0
    cases e0
    obtain ⟨k1,p1,xs,rfl,s1,l1,q1⟩:=hU ea r1
    obtain ⟨k2,p2,ys,rfl,s2,l2,q2⟩:=hU eb r2
    refine ⟨k1,k2,p1,p2,xs,ys,rfl,s1,s2,fun l ps hl hr hp hl0=>?_⟩
    obtain ⟨G',hg,rr⟩:=eD w1 w2 d q1 q2
    have hlp:l ∉ ps:=fun hm=>Nat.lt_irrefl _ (hp l hm).2
    have same:∀ b o,H b = some o -> upd (fz H ps xs ys) l (.lst (ps.map V.ref)) b = some o:=fun b o e=>by
     have h1:b ≠ l:=fun z=>by rw [z,hl0] at e; cases e
     have h2:b ∉ ps:=fun z=>by rw [(hp b z).1] at e; cases e
     rw [ag h1,cz h2]; exact e
    have rr':=rr.keep (Z':=bu Z G G') (ib same) (fun _ z=>z) fun a o _ e=>same a o e
    obtain ⟨A,B,a1,a2,ad,qa,qb⟩:=RepL.split q1.length rr'
    refine jv (w:=((m.kid.meet n.kid).up.up,.lst (M.zipP ts us))) (K:=K) (G':=G') (Gn:=fun a=>a = l) ow za hg same (fun a h=>by rw [h]; exact ⟨hl0,_,ao⟩) ⟨l,ps.map V.ref,rfl,by rw [List.length_map,hl]; omega,(LstR.own (a8 _)).mpr ⟨.inr rfl,ao⟩,?_⟩ k
    rw [bV]
    refine (l7 qa qb ad hl fun j p hj=>?_).mono fun b hb=>?_
    ·obtain ⟨x,y,e1,e2,e3⟩:=iu (H:=H) (xs:=xs) (ys:=ys) hr (by omega) (by omega) hj
     refine ⟨x,y,e1,e2,.inl (.inl ?_)⟩
     rw [ag (fun z=>hlp (by rw [<- z]; exact List.mem_of_getElem? hj))]; exact e3
    ·have hbG:G' b:=hb.elim (a1 b) (a2 b)
     refine ⟨.inl hbG,fun z=>?_⟩
     obtain ⟨_,zs,e⟩:=ow b (hg b hbG)
     rw [z,hl0] at e; cases e
end
section
variable {X:Cx} {sf sg:Nat -> Option Nat} {io:List Nat} {C:M.Call} {pos pos2 p p2:Pos} {ea eb ec:Expr} {a b c:M.E} {h:Bool} {n:Nat}
theorem sLZ (hml:X.mg "list" = none) (hm:X.mg "zip" = none) (ha:SE X sf C ea a) (hb:SE X sf C eb b) (hc:X.calm = true:=by rfl) (hgl:Gl X "list":=by rfl) (hg:Gl X "zip":=by rfl)
  (hs:starEach [ea,eb] X.env = [(false,eval ea X.env),(false,eval eb X.env)]:=by rfl) (hs2:starEach [eb] X.env = [(false,eval eb X.env)]:=by rfl)
  (he:starEach [.Call (.Name "zip" p2) [ea,eb] [] pos2] X.env = (false,eval (.Call (.Name "zip" p2) [ea,eb] [] pos2) X.env) :: starEach [] X.env:=by rfl) :
  SE X sf C (.Call (.Name "list" p) [.Call (.Name "zip" p2) [ea,eb] [] pos2] [] pos) (.op .lzip h [a,b]) :=
 az (zZ hc hgl hml hg hm (slc ha (slc hb sl0 hs2) (by rw [hs,hs2])) hs hs2 he) (gX qB rfl)
end
theorem mV {H H2:Hp} {p:Addr} (s:Same H H2) (h:H2 p = none):H p = none:=by
 cases e:H p with
 | none=>rfl
 | some o=>rw [s p o e] at h; cases h
theorem fO {K:PySem.W.Frag} {H H':Hp} {a:Addr} {xs:List V} (e:Same H H') (h:SqL K H a xs):SqL K H' a xs:=by
 rcases h with (z | ⟨o,z⟩) | z
 ·exact .inl (.inl (e _ _ z))
 ·exact .inl (.inr ⟨o,e _ _ z⟩)
 ·exact .inr z
def f6 (ls:List Nat):List V:=ls.map fun (n:Nat)=>V.int (n:Int)
def RowsAt (H H':Hp) (ra:Addr):List Nat -> List V -> List Addr -> Prop
 | [],_,ps=>ps = []
 | n :: ns,ws,ps=>∃ p r,ps = p :: r /\ H p = none /\ p ≠ ra /\ p ∉ r /\ H' p = some (.lst (ws.take n)) /\ RowsAt H H' ra ns (ws.drop n) r
theorem RowsAt.length {H H':Hp} {ra:Addr}:∀ {ns:List Nat} {ws:List V} {ps:List Addr},RowsAt H H' ra ns ws ps -> ps.length = ns.length
 | [],_,_,h=>by rw [show _ = [] from h,List.length_nil]
 | _ :: _,_,_,⟨_,_,e,_,_,_,_,q⟩=>by rw [e,List.length_cons,List.length_cons,q.length]
theorem RowsAt.new {H H':Hp} {ra:Addr}:∀ {ns:List Nat} {ws:List V} {ps:List Addr},RowsAt H H' ra ns ws ps -> ∀ p ∈ ps,H p = none /\ p ≠ ra /\ ∃ xs,H' p = some (.lst xs)
 | [],_,_,h,p,hp=>by rw [show _ = [] from h] at hp; cases hp
 | _ :: _,_,_,⟨_,_,e,h1,h2,_,h3,q⟩,p,hp=>by
  rw [e] at hp
  rcases List.mem_cons.mp hp with z | z
  ·rw [z]; exact ⟨h1,h2,_,h3⟩
  ·exact q.new p z
theorem RowsAt.keep {H H1 H2:Hp} {ra:Addr} (k:∀ b o,b ≠ ra -> H1 b = some o -> H2 b = some o):∀ {ns:List Nat} {ws:List V} {ps:List Addr},RowsAt H H1 ra ns ws ps -> RowsAt H H2 ra ns ws ps
 | [],_,_,h=>h
 | _ :: _,_,_,⟨p,r,e,h1,h2,h4,h3,q⟩=>⟨p,r,e,h1,h2,h4,k _ _ h2 h3,q.keep k⟩
theorem RowsAt.snoc {H H':Hp} {ra p:Addr} {n:Nat} (h1:H p = none) (h2:p ≠ ra):∀ {ns:List Nat} {ws:List V} {ps:List Addr},RowsAt H H' ra ns ws ps -> p ∉ ps -> H' p = some (.lst ((ws.drop ns.sum).take n)) -> RowsAt H H' ra (ns ++ [n]) ws (ps ++ [p])
 | [],ws,_,h,_,h3=>by rw [show _ = [] from h]; exact ⟨p,[],rfl,h1,h2,List.not_mem_nil,h3,rfl⟩
 | m :: ns,ws,_,⟨c,r,e,k1,k2,k4,k3,q⟩,hn,h3=>by
  rw [e] at hn ⊢
  rw [List.mem_cons,not_or] at hn
  rw [List.sum_cons,<- List.drop_drop] at h3
  refine ⟨c,r ++ [p],rfl,k1,k2,fun z=>?_,k3,RowsAt.snoc h1 h2 q hn.2 h3⟩
  rcases List.mem_append.mp z with z | z
  ·exact k4 z
  ·exact hn.1 (List.mem_singleton.mp z).symm
def mn (K:PySem.W.Frag):Sp:=fun vs H Q _=>∃ (la ta:Addr) (ns:List Nat) (ws:List V),vs = [.ref la,.ref ta] /\ SqL K H la (f6 ns) /\ SqL K H ta ws /\ ns.length <= M.LIM /\
 ∀ ra ps H',Same H H' -> H ra = none -> H' ra = some (.lst (ps.map V.ref)) -> RowsAt H H' ra ns ws ps -> Q (.ref ra) H'
theorem jr {K:PySem.W.Frag} {Z:Fp} {H:Hp} {G:Fp} {m:M.Md}:∀ {ts:List M.T} {ns:List Nat} {xs:List V} {G:Fp},M.natsOf ts = some ns -> RepL K Z H m ts xs G -> xs = f6 ns
 | [],ns,xs,_,e,r=>by cases e; exact r
 | t :: ts,ns,xs,G,e,⟨x,r,A,B,ex,_,_,_,p,q⟩=>by
  cases t with
  | int i =>
   cases i with
   | ofNat n =>
    have e':(M.natsOf ts).map (n :: ·) = some ns:=e
    cases h:M.natsOf ts with
    | none=>rw [h] at e'; cases e'
    | some ms =>
     rw [h] at e'
     cases e'
     rw [ex,jr (G:=B) h q,show x = _ from p]
     rfl
   | negSucc n=>cases e
  | _=>cases e
theorem jZ {K:PySem.W.Frag} {Z:Fp} {H H':Hp} {N:M.Md} {ra:Addr}:∀ {ns:List Nat} {ts:List M.T} {ws:List V} {ps:List Addr} {A:Fp},RowsAt H H' ra ns ws ps -> RepL K Z H' N ts ws A -> ws.length <= M.LIM -> (∀ a,A a -> H a ≠ none) -> RepL K Z H' N.up (M.rowsT ns ts) (ps.map V.ref) (fun a=>A a \/ a ∈ ps)
 | [],_,_,_,_,h,_,_,_=>by rw [show _ = [] from h]; rfl
 | n :: ns,ts,ws,_,A,⟨p,r,e,h1,h2,h4,h3,q⟩,rr,hl,ha=>by
  rw [e]
  obtain ⟨G1,G2,g1,g2,gd,q1,q2⟩:=RepL.cut n rr
  have np:∀ a,A a -> a ≠ p:=fun a h z=>ha a h (by rw [z]; exact h1)
  refine ⟨.ref p,r.map V.ref,fun a=>G1 a \/ a = p,fun a=>G2 a \/ a ∈ r,rfl,fun a h=>h.elim (fun z=>.inl (g1 a z)) fun z=>.inr (by rw [z]; exact List.mem_cons_self),fun a h=>h.elim (fun z=>.inl (g2 a z)) fun z=>.inr (List.mem_cons_of_mem _ z),fun a h z=>?_,
   ⟨p,ws.take n,rfl,by rw [List.length_take]; omega,(LstR.own (a8 N)).mpr ⟨.inr rfl,h3⟩,by rw [bV]; exact q1.mono fun a h=>⟨.inl h,np a (g1 a h)⟩⟩,jZ q q2 (by rw [List.length_drop]; omega) fun a h=>ha a (g2 a h)⟩
  rcases h with h | h <;> rcases z with z | z
  ·exact gd a h z
  ·exact ha a (g1 a h) (q.new a z).1
  ·rw [h] at z; exact np p (g2 p z) rfl
  ·rw [h] at z; exact h4 z
theorem qR {K:PySem.W.Frag} {C:M.Call} {g:Nat} {vs:List V} {H:Hp} {Q:VK} {E:XK} (hC:∀ ws,C g ws = M.rowsW ws) (h:spS K C g [] vs H Q E):mn K vs H Q E:=by
 obtain ⟨Z,ws,G,w,bs,r,ow,za,e,q⟩:=h
 rw [hC] at e
 match ws,e,r with
 | [(m1,.lst ls),(m,.lst ts)],e,r =>
  obtain ⟨ns,e1,e2⟩:=aa (show (M.ofO (M.natsOf ls)).bind (fun ns=>M.Res.ok (((m.kid.up.up,.lst (M.rowsT ns ts)):M.W),([]:List M.W))) = .ok (w,bs) from e)
  have e1':=cf e1
  cases e2
  obtain ⟨x,y,rfl⟩:∃ x y,vs = [x,y]:=by
   have:=r.length
   match vs,this with
   | [x,y],_=>exact ⟨x,y,rfl⟩
  obtain ⟨G1,G2,w1,w2,d,r1,r2⟩:=cw r
  obtain ⟨la,xs,rfl,hs,hl,q1⟩:=a0 r1
  obtain ⟨ta,ys,rfl,hs2,hl2,q2⟩:=a0 r2
  have ex:=jr (G:=G1) e1' q1
  subst ex
  have hln:ns.length <= M.LIM:=by unfold f6 at hl; rw [List.length_map] at hl; exact hl
  refine ⟨la,ta,ns,ys,rfl,SqL.of hs,SqL.of hs2,hln,fun ra ps H' same hra hrs hR=>?_⟩
  have same':∀ b o,H b = some o -> H' b = some o:=same
  have key:Out K Z H G (m.kid.up.up,.lst (M.rowsT ns ts)) Q:=fun v Z' H2 G' rv o t=>q v Z' H2 G' no rv rfl (fun _ _ z=>z) (fun a h=>h.elim (o a) fun z=>z.elim) (t.mono (fun _ z=>z) fun a h=>h.elim id fun z=>z.elim)
  have hG:∀ a,G2 a -> H a ≠ none:=fun a h=>by obtain ⟨_,zs,e⟩:=ow a (w2 a h); rw [e]; simp
  have q2':=(q2.zmono (Z':=bu Z G G2) fun _ z=>.inl z).keep (H':=H') (Z':=bu Z G G2) (ib same') (fun _ z=>z) fun a o _ e=>same' a o e
  refine jv (w:=(m.kid.up.up,.lst (M.rowsT ns ts))) (K:=K) (G':=G2) (Gn:=fun a=>a = ra \/ a ∈ ps) ow za w2 same' (fun a h=>?_) ⟨ra,ps.map V.ref,rfl,by rw [List.length_map,hR.length]; exact hln,(LstR.own (a8 _)).mpr ⟨.inr (.inl rfl),hrs⟩,?_⟩ key
  ·rcases h with h | h
   ·rw [h]; exact ⟨hra,_,hrs⟩
   ·exact ⟨(hR.new a h).1,(hR.new a h).2.2⟩
  ·rw [bV]
   refine (jZ hR q2' hl2 hG).mono fun b hb=>?_
   rcases hb with z | z
   ·exact ⟨.inl z,fun y=>hG b z (by rw [y]; exact hra)⟩
   ·exact ⟨.inr (.inr z),(hR.new b z).2.1⟩
 | [],e,_=>cases e
 | [(_,t)],e,_=>cases t <;> cases e
 | (_,t) :: (_,u) :: _ :: _,e,_=>cases t <;> first | (cases e; done) | (cases u <;> cases e)
 | [(_,.non),_],e,_=>cases e
 | [(_,.bl _),_],e,_=>cases e
 | [(_,.int _),_],e,_=>cases e
 | [(_,.str _),_],e,_=>cases e
 | [(_,.tup _),_],e,_=>cases e
 | [(_,.dct _ _),_],e,_=>cases e
 | [(_,.ins _ _ _),_],e,_=>cases e
 | [(_,.gone),_],e,_=>cases e
 | [(_,.scr _),_],e,_=>cases e
 | [(_,.lst _),(_,.non)],e,_=>cases e
 | [(_,.lst _),(_,.bl _)],e,_=>cases e
 | [(_,.lst _),(_,.int _)],e,_=>cases e
 | [(_,.lst _),(_,.str _)],e,_=>cases e
 | [(_,.lst _),(_,.tup _)],e,_=>cases e
 | [(_,.lst _),(_,.dct _ _)],e,_=>cases e
 | [(_,.lst _),(_,.ins _ _ _)],e,_=>cases e
 | [(_,.lst _),(_,.gone)],e,_=>cases e
 | [(_,.lst _),(_,.scr _)],e,_=>cases e
end MR

set_option Elab.async false
set_option linter.all false
set_option maxRecDepth 100000
set_option maxHeartbeats 4000000
namespace MR
open PySem PySem.Spec PyProof.Rows L2 L3
section
variable {X:Cx} {sf sg:Nat -> Option Nat} {io:List Nat} {C:M.Call} {pos p2:Pos} {ea eb ec:Expr} {a b c:M.E} {h:Bool} {n:Nat}
theorem ik {K:PySem.W.Frag} {o p:M.Op} {g g':Int -> Int -> Bool} (inv:∀ {u v w:M.W},M.oSem o false [u,v] = some w -> ∃ m n i j,u = (m,.int i) /\ v = (n,.int j) /\ w = (.d,.bl (g i j))) (inv':∀ {u v w:M.W},M.oSem p false [u,v] = some w -> ∃ m n i j,u = (m,.int i) /\ v = (n,.int j) /\ w = (.d,.bl (g' i j)))
  (σ:L2.St) (H:Hp) (Q:VK) (hw:wE K sf C (.chain o p a b c) σ H Q):kL (rI0 fun i j=>.bl (g i j)) (rI0 fun i j=>.bl (g' i j)) (wE K sf C a) (wE K sf C b) (wE K sf C c) σ H Q:=by
 obtain ⟨pv,Z,Fs,η,w,η',A,ev,k⟩:=hw
 obtain ⟨⟨x,η1⟩,h1,h2⟩:=aa (show (M.evE C a η).bind (M.kC1 o p (M.evE C b) (M.evE C c)) = _ from ev)
 obtain ⟨⟨y,η2⟩,h3,h4⟩:=aa (show (M.evE C b η1).bind (M.kC2 o p (M.evE C c) x) = _ from h2)
 obtain ⟨⟨kk,η3⟩,h5,h6⟩:=aa (show (M.ret η2 (M.oSem o false [x,y])).bind (fun k=>M.onB k.1.2 (M.then' (M.evE C c) (M.kC3 p y)) (M.okW (.d,.bl false)) k.2) = _ from h4)
 obtain ⟨k',e5,e5'⟩:=av h5
 cases e5'
 obtain ⟨m1,m2,i,j,rfl,rfl,rfl⟩:=inv e5
 have dr:∀ {Z:Fp} {H:Hp} {F Z1:Fp} {H1:Hp} {Fs1:Fps} {G1:Fp},Step Z H F Z1 H1 (fun a=>tot Fs1 a \/ G1 a) -> Step Z H F Z1 H1 (tot Fs1):=fun s=>s.mono (fun _ z=>z) fun _ z=>.inl z
 refine gD A h1 fun vx Z1 H1 Fs1 G1 A1 r1 _ s1 _=>?_
 have A1':=A1.bare
 refine gD A1' h3 fun vy Z2 H2 Fs2 G2 A2 r2 _ s2 _=>⟨i,j,r1,r2,g i j,rfl,?_⟩
 have A2':=A2.bare
 have s12:=(dr s1).trans (dr s2)
 have h6':M.onB (.bl (g i j)) (M.then' (M.evE C c) (M.kC3 p (m2,.int j))) (M.okW (.d,.bl false)) η2 = .ok (w,η'):=h6
 cases hg:g i j with
 | true =>
  rw [hg] at h6'
  rw [if_pos rfl]
  obtain ⟨⟨z,η4⟩,h7,h8⟩:=aa (show (M.evE C c η2).bind (M.kC3 p (m2,.int j)) = _ from h6')
  obtain ⟨z',e8,e8'⟩:=av (show M.ret η4 (M.oSem p false [(m2,.int j),z]) = _ from h8)
  cases e8'
  obtain ⟨n1,n2,i',j',e9,rfl,rfl⟩:=inv' e8
  cases e9
  refine gD A2' h7 fun vz Z3 H3 Fs3 G3 A3 r3 _ s3 _=>⟨j,j',r2,r3,?_⟩
  exact k _ Z3 H3 Fs3 no A3.bare rfl ((s12.trans (dr s3)).mono (fun _ z=>z) fun _ z=>z.elim id fun q=>q.elim)
 | false =>
  rw [hg] at h6'
  rw [if_neg Bool.false_ne_true]
  cases h6'
  exact k _ Z2 H2 Fs2 no A2' rfl (s12.mono (fun _ z=>z) fun _ z=>z.elim id fun q=>q.elim)
theorem qj {o p:M.Op} {g g':Int -> Int -> Bool} (inv:∀ {u v w:M.W},M.oSem o false [u,v] = some w -> ∃ m n i j,u = (m,.int i) /\ v = (n,.int j) /\ w = (.d,.bl (g i j))) (inv':∀ {u v w:M.W},M.oSem p false [u,v] = some w -> ∃ m n i j,u = (m,.int i) /\ v = (n,.int j) /\ w = (.d,.bl (g' i j))) :
  ∀ η w η',M.evE C (.chain o p a b c) η = .ok (w,η') -> ∃ b,w.2 = .bl b:=fun η w η' ev=>by
 obtain ⟨⟨x,η1⟩,h1,h2⟩:=aa (show (M.evE C a η).bind (M.kC1 o p (M.evE C b) (M.evE C c)) = _ from ev)
 obtain ⟨⟨y,η2⟩,h3,h4⟩:=aa (show (M.evE C b η1).bind (M.kC2 o p (M.evE C c) x) = _ from h2)
 obtain ⟨⟨kk,η3⟩,h5,h6⟩:=aa (show (M.ret η2 (M.oSem o false [x,y])).bind (fun k=>M.onB k.1.2 (M.then' (M.evE C c) (M.kC3 p y)) (M.okW (.d,.bl false)) k.2) = _ from h4)
 obtain ⟨k',e5,e5'⟩:=av h5
 cases e5'
 obtain ⟨m1,m2,i,j,rfl,rfl,rfl⟩:=inv e5
 have h6':M.onB (.bl (g i j)) (M.then' (M.evE C c) (M.kC3 p (m2,.int j))) (M.okW (.d,.bl false)) η2 = .ok (w,η'):=h6
 cases hg:g i j with
 | true =>
  rw [hg] at h6'
  obtain ⟨⟨z,η4⟩,h7,h8⟩:=aa (show (M.evE C c η2).bind (M.kC3 p (m2,.int j)) = _ from h6')
  obtain ⟨z',e8,e8'⟩:=av (show M.ret η4 (M.oSem p false [(m2,.int j),z]) = _ from h8)
  cases e8'
  obtain ⟨n1,n2,i',j',e9,rfl,rfl⟩:=inv' e8
  exact ⟨_,rfl⟩
 | false =>
  rw [hg] at h6'
  cases h6'
  exact ⟨_,rfl⟩
theorem lF (ha:SE X sf C ea a) (hb:SE X sf C eb b) (hc:SE X sf C ec c) (hm:lastMarks [.LtE,.LtE] [eb,ec] = false:=by with_unfolding_all rfl):SE X sf C (.Compare ea [.LtE,.LtE] [eb,ec] pos) (.chain .le .le a b c) :=
 az (qJ qC qC ha hb hc hm) (ik iz iz)
theorem uD (ha:SE X sf C ea a) (hb:SE X sf C eb b) (hc:SE X sf C ec c) (hm:lastMarks [.LtE,.Lt] [eb,ec] = false:=by with_unfolding_all rfl):SB X sf C (.Compare ea [.LtE,.Lt] [eb,ec] pos) (.chain .le .lt a b c) :=
 mx (pI qC vQ ha hb hc hm) fun σ H Q hw=>ik iz iJ σ H _ (vt (qj iz iJ) hw)
theorem oZ:OpR X (compareOp .IsNot) (fun x y H Q=>∃ a b,x = .bl a /\ y = .bl b /\ Q (.bl (!(a == b))) H):=by
 intro pins s σ H x y v u Q I rx ry h
 obtain ⟨a,b,rfl,rfl,q⟩:=h
 cases rx
 cases ry
 cases a <;> cases b <;> exact wpAny_pure (yR I q rfl)
theorem jX {u v w:M.W} (e:M.oSem .isnB h [u,v] = some w):∃ m n a b,u = (m,.bl a) /\ v = (n,.bl b) /\ w = (.d,.bl (!(a == b))):=by
 obtain ⟨m,a⟩:=u; obtain ⟨n,b⟩:=v
 cases a with
 | bl a =>
  cases b with
  | bl b=>cases e; exact ⟨_,_,_,_,rfl,rfl,rfl⟩
  | _=>cases e
 | _=>cases b <;> cases e
theorem pZ {K:PySem.W.Frag}:Loc K 2 .isnB h fun xs H Q=>∀ x y,xs = [x,y] -> ∃ a b,x = .bl a /\ y = .bl b /\ Q (.bl (!(a == b))) H:=by
 intro ws w xs Z H G Q hn e r ow za k x y hx
 subst hx
 obtain ⟨u,v,rfl⟩:=gr r.length.symm
 obtain ⟨G1,G2,w1,w2,d,r1,r2⟩:=cw r
 obtain ⟨m,n,a,b,rfl,rfl,rfl⟩:=jX e
 exact ⟨a,b,r1,r2,cK k⟩
theorem yU (ha:SE X sf C ea a) (hb:SE X sf C eb b):SB X sf C (.Compare ea [.IsNot] [eb] pos) (.op .isnB h [a,b]):=dP oZ ha hb (de _) (aX pZ) fun u v w e=>by obtain ⟨_,_,_,_,_,_,rfl⟩:=jX e; exact ⟨_,rfl⟩
theorem A6 {tg:Expr} (ha:SE X sf C ea a):PI X tg ea (wI X.K sf C 2 .sq2 [a]):=jQ (iB ha) yt
theorem zG (j l:Nat) {t u:Nat} {x y:Str} {px py pt:Pos} {kt:Nat} {xx:M.X} (hN:X.N.Nodup) (ha:SE X sf C ea a) (hne:t ≠ u:=by decide) (hi:t ∉ io:=by decide) (hi':u ∉ io:=by decide) (hs:sf t = some j:=by rfl) (hs':sf u = some l:=by rfl) (hj:X.N[j]? = some x:=by rfl) (hl:X.N[l]? = some y:=by rfl)
  (hx:L2.Loc X.env.scope x:=by first | exact Or.inl rfl | exact Or.inr rfl) (hy:L2.Loc X.env.scope y:=by first | exact Or.inl rfl | exact Or.inr rfl) (hc:X.calm = true:=by rfl)
  (hf:X.fn x = true \/ X.env.scope.names.lookup x = some .local:=by first | exact .inl rfl | exact .inr rfl) (hf':X.fn y = true \/ X.env.scope.names.lookup y = some .local:=by first | exact .inl rfl | exact .inr rfl)
  (hsw:swapsWithSole [.Tuple [.Name x px,.Name y py] kt pt] ea pos.line X.env = pure false:=by rfl) (hw:swappedStores [.Tuple [.Name x px,.Name y py] kt pt] ea X.env = pure none:=by rfl) :
  SS X sf io C (.Assign [.Tuple [.Name x px,.Name y py] kt pt] ea pos) (.asgT xx [t,u] a) :=
 cA (rh ha (kr (n:=2) hc (cB (bR (i:=j) hN hj hx hf) (cB (bR (i:=l) hN hl hy hf') iP))) hsw hw) (sH hne hi hi' hs hs')
theorem ur {u w:M.W} (e:M.oSem .len false [u] = some w):∃ n:Nat,w = (.d,.int n):=by
 obtain ⟨m,a⟩:=u
 cases a <;> first | (cases e; exact ⟨_,rfl⟩) | (cases e; done)
theorem lT (j:Nat) {i:Nat} {x:Str} {p px:Pos} (hm:X.mg "len" = none) (hg:Gl X "len":=by rfl) (hs:sf i = some j:=by rfl) (hN:X.N[j]? = some x:=by rfl) (hv:Vis X.env.scope x:=by first | exact Or.inl rfl | exact Or.inr (Or.inl rfl) | exact Or.inr (Or.inr rfl)) (hd:(x == ("__debug__":Str)) = false:=by decide)
  (hcd:(x == ("__classdict__":Str)) = false:=by decide) (hst:starEach [.Name x px] X.env = (false,eval (.Name x px) X.env) :: starEach [] X.env:=by rfl) (hpl:(backTo pos (starEach [] X.env)).any (·.1) = false:=by rfl):SE X sf C (.Call (.Name "len" p) [.Name x px] [] pos) (.lenV i) :=
 az (bU jx hg hm PySem.boot_len (aO (cO hN hv hd hcd) bD hst) (by decide) (by decide) hst hpl) fun σ H Q hw=>by
  obtain ⟨pv,Z,Fs,η,w,η',A,ev,k⟩:=hw
  obtain ⟨w',e1,e2⟩:=av (show M.ret η ((M.rd η i).bind fun w=>M.oSem .len false [w]) = _ from ev)
  cases e2
  cases e0:M.rd η i with
  | none=>rw [e0] at e1; cases e1
  | some w0 =>
   rw [e0] at e1
   have e1':M.oSem .len false [w0] = some w:=e1
   obtain ⟨n,rfl⟩:=ur e1'
   obtain ⟨v,r,hv'⟩:=A.env i w0.1 w0.2 e0
   obtain ⟨x',n',hx,hl,hq⟩:=ju (K:=X.K) (h:=false) [w0] (.d,.int n) [v] Z H (Fs i) (fun v' _=>v' = .int n) rfl e1' (RepW.one r) (fun a ha=>A.gd.own a ⟨i,ha⟩) A.gd.zal (fun _ _ _ _ r _ _=>r)
   cases hx
   cases hq
   exact ⟨v,hv'.1 j hs,v,n,rfl,hl,k _ Z H Fs no A rfl ((Step.refl _ _ _).mono (fun _ z=>z) fun a ha=>ha.elim id fun z=>z.elim)⟩
end
end MR

set_option Elab.async false
set_option linter.all false
set_option maxRecDepth 100000
set_option maxHeartbeats 4000000
namespace MR
open PySem PySem.Spec PyProof.Rows L2 L3
section
variable {X:Cx} {sf sg:Nat -> Option Nat} {C:M.Call} {pos p2 p3:Pos} {ea eb ec:Expr} {a b c:M.E} {h:Bool} {n:Nat} {io:List Nat}
theorem sGc {x:Str} {i:Int} (hm:∃ t,X.mg x = some (.int i t)) (hg:Gl X x:=by rfl) (hd:(x == ("__debug__":Str)) = false:=by decide):SE X sf C (.Name x pos) (.cst (.int i)):=by
 obtain ⟨t,hm⟩:=hm
 exact az (sY (v:=.int i) hg hm ⟨t,rfl⟩ hd) (ja rfl)
theorem uk {K:PySem.W.Frag} {es:List M.E} (hn:es.length <= M.LIM) (σ:L2.St) (H:Hp) (Q:VK) (h:wE K sf C (.tupA es) σ H Q):yE (wA K sf C es) σ H Q:=by
 obtain ⟨pv,Z,Fs,η,w,η',A,ev,k⟩:=h
 obtain ⟨⟨ws,η1⟩,h1,h2⟩:=aa (show (M.evA C es η).bind M.kTup = _ from ev)
 cases h2
 refine ⟨pv,Z,Fs,η,ws,_,A,h1,fun vs Z' H' Fs' G B r s _=>?_⟩
 have hl:vs.length <= M.LIM:=by rw [r.length,fI h1]; exact hn
 obtain ⟨G',g1,g2⟩:=RepW.to (fun u hu=>eF hu) r
 refine ⟨bx hl,fun p hp=>lO (m:=(M.meets ws).up) B.own g1 hl (by rw [bV]; exact g2) (b7 B s k) hp⟩
theorem sTA {es:List Expr} {bs:List M.E} {x1:Nat} (h:SA X sf C es bs) (hn:bs.length <= M.LIM:=by decide):SE X sf C (.Tuple es x1 pos) (.tupA bs):=az (kq h) (uk hn)
theorem zQ {K:PySem.W.Frag} {vs ls:List Nat} {e:M.E} (σ:L2.St) (H:Hp) (Q:VK) (h:wE K sf C (.qx vs ls e) σ H Q):wE K sf C e σ H Q:=by
 obtain ⟨pv,Z,Fs,η,w,η',A,ev,k⟩:=h
 exact jl (x:=.q vs ls) (sl:=⟨sf,pv⟩) A ev k
theorem sQ {vs ls:List Nat} (ha:SE X sf C ea a):SE X sf C ea (.qx vs ls a):=az ha zQ
def vC (K:PySem.W.Frag) (H:Hp):List Nat -> V -> V -> Prop
 | [],v,u=>u = v
 | j :: p,v,u=>∃ a xs x,v = .ref a /\ (SqL K H a xs \/ SqT K H a xs) /\ xs[j]? = some x /\ vC K H p x u
def wP (K:PySem.W.Frag) (sf:Nat -> Option Nat) (i:Nat) (p:List Nat):TE:=fun σ H Q=>∃ j v u,sf i = some j /\ σ[j]? = some (some v) /\ vC K H p v u /\ Q u H
abbrev SP (X:Cx) (sf:Nat -> Option Nat) (me:Expr) (i:Nat) (p:List Nat):Prop:=PE X me (wP X.K sf i p)
def sk (Fs:Fps) (i:Nat) (G:Fp):Fps:=fun l a=>(l = i /\ G a) \/ (l ≠ i /\ Fs l a)
def zW (K:PySem.W.Frag) (t:M.T) (v:V):Prop:=∀ (Z:Fp) (H:Hp),Rep K Z H .s t v no
def Dq (K:PySem.W.Frag) (w:World) (mg:Str -> Option Value) (x:Str) (tab:List (Str × M.T)):Prop :=
 ∃ a T,mg x = some (.ref a) /\ tY K w a T /\ ∀ z,match tab.lookup z with
  | some t=>∃ v,T.lookup z = some v /\ zW K t v
  | none=>T.lookup z = none
def Dl (K:PySem.W.Frag) (w:World) (mg:Str -> Option Value) (x:Str) (ks:List Str):Prop:=∃ a T,mg x = some (.ref a) /\ tY K w a T /\ ∀ z,(T.lookup z).isSome = ks.contains z
def De (P:Program) (w:World) (K:PySem.W.Frag) (mg:Str -> Option Value) (base:Heap) (n:Nat) (C:M.Call) (x:Str) (tab:List (Str × Nat)):Prop :=
 ∃ a T,mg x = some (.ref a) /\ tY K w a T /\ ∀ z f,tab.lookup z = some f -> ∃ fa fd ps,T.lookup z = some (.ref fa) /\ FnOk P w K mg base CX0 n fa fd ps (spS K C f []) /\ PySem.W.keepIn K (.ref fa) = true /\ Binds K fd ps []
end
end MR

set_option Elab.async false
set_option linter.all false
set_option maxRecDepth 100000
set_option maxHeartbeats 4000000
namespace MR
open PySem PySem.Spec PyProof.Rows L2 L3
section
variable {X:Cx} {sf:Nat -> Option Nat} {C:M.Call} {me:Expr} {f:Nat} {bs:List M.E}
theorem AK (h:∀ ws,C f ws = .no):SE X sf C me (.call f bs):=fun pins s σ H Q I ⟨pv,Z,Fs,η,w,η',A,ev,k⟩=>by
 obtain ⟨⟨ws,η1⟩,h1,h2⟩:=aa (show (M.evA C bs η).bind (M.kCall C f (M.ios bs)) = _ from ev)
 rw [show M.kCall C f (M.ios bs) (ws,η1) = (C f ws).bind (M.kBack (M.ios bs) η1) from rfl,h] at h2
 cases h2
end
theorem fsc {N P:List Str} {sc:Scope} (h1:sc.kind = .function:=by rfl) (h2:sc.isCoroutine = false:=by rfl) (h3:sc.isGenerator = false:=by rfl) (h4:N.Nodup:=by decide +kernel) (h5:N.take P.length = P:=by rfl) (h6:∀ x ∈ P,sc.names.lookup x = some .local \/ sc.names.lookup x = some .cell:=by decide +kernel) (h7:∀ y ∈ sc.names,y.2 ≠ .free:=by decide +kernel):ai N P sc:=⟨h1,h2,h3,h4,h5,h6,h7⟩
theorem csc {pre ys:List Str} {scope:Scope} (h1:scope.kind = .function:=by rfl) (h2:∀ y ∈ scope.names,y.2 ≠ .cell:=by decide +kernel) (h3:∀ y ∈ scope.names,y.2 = .local -> scope.names.lookup y.1 = some .local:=by decide +kernel) (h4:∀ x ∈ pre,scope.names.lookup x = some .local:=by decide +kernel) (h5:(pre ++ ys).Nodup:=by decide +kernel):aq pre ys scope:=⟨h1,h2,h3,h4,h5⟩
section
variable {P:Program} {w:World} {K:PySem.W.Frag} {mg:Str -> Option Value} {base:Heap} {x:Str} {st:Stmt} {ps N:List Str} {n g:Nat} {io:List Nat} {C C':M.Call} {d:Value} {t:M.T}
structure Df (K:PySem.W.Frag) (mg:Str -> Option Value) (x:Str) (st:Stmt) (ps:List Str):Prop where
 ex:∃ f fd,Fun K x x st f fd /\ Binds K fd ps [] /\ mg x = some (.ref f)
structure DfD (K:PySem.W.Frag) (mg:Str -> Option Value) (x:Str) (st:Stmt) (ps:List Str) (d:Value):Prop where
 ex:∃ f fd dV,FunD K x x st f fd dV /\ Binds K fd ps [] /\ Binds K fd ps [d] /\ mg x = some (.ref f)
theorem Df.ok (e:Df K mg x st ps) (h:∀ f fd,Fun K x x st f fd -> FnOk P w K mg base CX0 n f fd ps (spS K C g io)):ae P w K mg base n C x g io:=by
 obtain ⟨f,fd,F,b,m⟩:=e.ex
 exact ⟨f,fd,ps,h f fd F,m,F.kp,b⟩
theorem Df.z (e:Df K mg x st ps) (hC:∀ ws,C g ws = .no:=by intro _; rfl):ae P w K mg base n C x g io:=e.ok fun _ _ _=>fn0 hC
theorem Df.s (fn:M.Fn) (e:Df K mg x st ps) (S:ai N ps (defScope st))
  (hb:∀ {f:Addr} {cdv:Value} {A:Around} {outer:List Env} {s:Shared} {H:Hp} {E:XK},Room n (A.deeper (envOfC x (defScope st) s.heap.objs.size f cdv)) -> SSs (eL CX0 P w K mg base N x (defScope st) f cdv A outer s H E).nox (slN N.length) fn.io C (defBody st) fn.body)
  (hC:∀ ws,C' g ws = M.runF C fn ws:=by intro _; rfl) (hps:fn.ps = ps.length:=by rfl) (hle:ps.length <= N.length:=by decide) (nd:fn.io.Nodup:=by decide) (hio:∀ i ∈ fn.io,i < ps.length:=by decide):ae P w K mg base (n + 1) C' x g fn.io :=
 e.ok fun _ _ F=>Fun.okM F S hps hle nd hio (fun _ _ _ _ _ _ h=>hb h) hC
theorem DfD.ok (e:DfD K mg x st ps d) (h:∀ f fd dV,FunD K x x st f fd dV -> FnOk P w K mg base CX0 n f fd ps (spS K C g io)):ae P w K mg base n C x g io:=by
 obtain ⟨f,fd,dV,F,b,_,m⟩:=e.ex
 exact ⟨f,fd,ps,h f fd dV F,m,F.kp,b⟩
theorem DfD.okD {dv:V} (e:DfD K mg x st ps d) (h:∀ f fd dV,FunD K x x st f fd dV -> FnOk P w K mg base CX0 n f fd ps (spS K C g io)) (hr:RelV dv d) (ht:∀ Z H m G,Rep K Z H m t dv G):cN P w K mg base n C x g io t:=by
 obtain ⟨f,fd,dV,F,_,b,m⟩:=e.ex
 exact ⟨f,fd,ps,d,dv,h f fd dV F,m,F.kp,b,hr,ht⟩
theorem DfD.z (e:DfD K mg x st ps d) (hC:∀ ws,C g ws = .no:=by intro _; rfl):ae P w K mg base n C x g io:=e.ok fun _ _ _ _=>fn0 hC
theorem DfD.zD {b:Bool} (e:DfD K mg x st ps (.bool b)) (hC:∀ ws,C g ws = .no:=by intro _; rfl):cN P w K mg base n C x g io (.bl b):=e.okD (dv:=.bl b) (fun _ _ _ _=>fn0 hC) rfl fun _ _ _ _=>rfl
theorem DfD.fn (fn:M.Fn) {f:Addr} {fd:FuncData} {dV:Value} (F:FunD K x x st f fd dV) (S:ai N ps (defScope st))
  (hb:∀ {f:Addr} {cdv:Value} {A:Around} {outer:List Env} {s:Shared} {H:Hp} {E:XK},Room n (A.deeper (envOfC x (defScope st) s.heap.objs.size f cdv)) -> SSs (eL CX0 P w K mg base N x (defScope st) f cdv A outer s H E).nox (slN N.length) fn.io C (defBody st) fn.body)
  (hC:∀ ws,C' g ws = M.runF C fn ws) (hps:fn.ps = ps.length) (hle:ps.length <= N.length) (nd:fn.io.Nodup) (hio:∀ i ∈ fn.io,i < ps.length):FnOk P w K mg base CX0 (n + 1) f fd ps (spS K C' g fn.io):=FunD.okM F S hps hle nd hio (fun _ _ _ _ _ _ h=>hb h) hC
theorem DfD.s (fn:M.Fn) (e:DfD K mg x st ps d) (S:ai N ps (defScope st))
  (hb:∀ {f:Addr} {cdv:Value} {A:Around} {outer:List Env} {s:Shared} {H:Hp} {E:XK},Room n (A.deeper (envOfC x (defScope st) s.heap.objs.size f cdv)) -> SSs (eL CX0 P w K mg base N x (defScope st) f cdv A outer s H E).nox (slN N.length) fn.io C (defBody st) fn.body)
  (hC:∀ ws,C' g ws = M.runF C fn ws:=by intro _; rfl) (hps:fn.ps = ps.length:=by rfl) (hle:ps.length <= N.length:=by decide) (nd:fn.io.Nodup:=by decide) (hio:∀ i ∈ fn.io,i < ps.length:=by decide):ae P w K mg base (n + 1) C' x g fn.io :=
 e.ok fun _ _ _ F=>DfD.fn fn F S hb hC hps hle nd hio
theorem DfD.sD {b:Bool} (fn:M.Fn) (e:DfD K mg x st ps (.bool b)) (S:ai N ps (defScope st))
  (hb:∀ {f:Addr} {cdv:Value} {A:Around} {outer:List Env} {s:Shared} {H:Hp} {E:XK},Room n (A.deeper (envOfC x (defScope st) s.heap.objs.size f cdv)) -> SSs (eL CX0 P w K mg base N x (defScope st) f cdv A outer s H E).nox (slN N.length) fn.io C (defBody st) fn.body)
  (hC:∀ ws,C' g ws = M.runF C fn ws:=by intro _; rfl) (hps:fn.ps = ps.length:=by rfl) (hle:ps.length <= N.length:=by decide) (nd:fn.io.Nodup:=by decide) (hio:∀ i ∈ fn.io,i < ps.length:=by decide):cN P w K mg base (n + 1) C' x g fn.io (.bl b) :=
 e.okD (dv:=.bl b) (fun _ _ _ F=>DfD.fn fn F S hb hC hps hle nd hio) rfl fun _ _ _ _=>rfl
def Raw (K:PySem.W.Frag) (x:Str) (st:Stmt) (dV:Value):Prop:=∃ f oc od sl kV dc pm an cd ct,PySem.W.nsIn K mainGlobals x = some (some (.ref f)) /\ K.lookup f = some ⟨oc,od,.func (PySem.W.fnOf x x (defArgs st) (defBody st) (defScope st) dV kV dc pm an cd ct),sl⟩ /\ PySem.W.codeIn K cd x = true /\ PySem.W.keepIn K (.ref f) = true
theorem aS {h:Heap} (X:K.In h) (G:h.Ns mainGlobals mg) (r:Raw K x st .none) (hb:∀ (kV doc pm:Value) (an:Option Addr) (cdv ct:Value) (us:List Value),us.length = ps.length -> bindArgs (PySem.W.fnOf x x (defArgs st) (defBody st) (defScope st) .none kV doc pm an cdv ct) ⟨us,[]⟩ = pure (ps.zip us)):Df K mg x st ps:=by
 obtain ⟨f,oc,od,sl,kV,dc,pm,an,cd,ct,h1,h2,h3,h4⟩:=r
 have F:=q0 (st:=st) h2 h3 h4
 exact ⟨f,_,F,F.binds hb,PySem.W.mg_of X G h1⟩
def RawD (K:PySem.W.Frag) (x:Str) (st:Stmt) (v:Value):Prop:=∃ T o m,Raw K x st (.ref T) /\ K.lookup T = some o /\ o.data = .seq #[v] m
theorem wq {h:Heap} {v:Value} (X:K.In h) (G:h.Ns mainGlobals mg) (r:RawD K x st v)
  (hb:∀ (T:Addr) (kV doc pm:Value) (an:Option Addr) (cdv ct:Value) (us:List Value),(us ++ []).length = ps.length -> ∃ k:Option (Array Value) -> Sem (List (Str × Value)),bindArgs (PySem.W.fnOf x x (defArgs st) (defBody st) (defScope st) (.ref T) kV doc pm an cdv ct) ⟨us,[]⟩ = seqItems? (.ref T) >>= k /\ k (some #[v]) = pure (ps.zip (us ++ [])))
  (hd:∀ (T:Addr) (kV doc pm:Value) (an:Option Addr) (cdv ct:Value) (us:List Value),(us ++ [v]).length = ps.length -> ∃ k:Option (Array Value) -> Sem (List (Str × Value)),bindArgs (PySem.W.fnOf x x (defArgs st) (defBody st) (defScope st) (.ref T) kV doc pm an cdv ct) ⟨us,[]⟩ = seqItems? (.ref T) >>= k /\ k (some #[v]) = pure (ps.zip (us ++ [v]))):DfD K mg x st ps v:=by
 obtain ⟨T,o,m,⟨f,oc,od,sl,kV,dc,pm,an,cd,ct,h1,h2,h3,h4⟩,h5,h6⟩:=r
 have F:=sv (st:=st) h2 h3 h4
 exact ⟨f,_,_,F,F.binds h5 h6 (hb T),F.binds h5 h6 (hd T),PySem.W.mg_of X G h1⟩
theorem w9 {h:Heap} {fa:Addr} {pr:Program} {k:Nat} {sp:Sp} (X:K.In h) (G:h.Ns mainGlobals mg) (hfa:mg "law" = some (.ref fa)) (r:Raw K "law" st .none) (hb:∀ (kV dc pm:Value) (an:Option Addr) (cd ct:Value) (s:Shared) (v:Value),BindsTo s (PySem.W.fnOf "law" "law" (defArgs st) (defBody st) (defScope st) .none kV dc pm an cd ct) ⟨[v],[]⟩ [("script",v)])
  (ok:∀ f fd,Fun K "law" "law" st f fd -> ∀ base,FnOk pr w K mg base CX0 k f fd ["script"] sp):∃ fd:FuncData,(∀ (s:Shared) (v:Value),BindsTo s fd ⟨[v],[]⟩ [("script",v)]) /\ ∀ base:Heap,K.In base -> base.Ns mainGlobals mg -> FnOk pr w K mg base CX0 k fa fd ["script"] sp:=by
 obtain ⟨f,oc,od,sl,kV,dc,pm,an,cd,ct,h1,h2,h3,h4⟩:=r
 have e:=hfa.symm.trans (PySem.W.mg_of X G h1)
 cases e
 exact ⟨_,hb kV dc pm an cd ct,fun base _ _=>ok _ _ (q0 (st:=st) h2 h3 h4) base⟩
def xo (K:PySem.W.Frag):List Str -> Prop
 | []=>True
 | x :: r=>PySem.W.nsIn K mainGlobals x = some none /\ xo K r
theorem xJ {h:Heap} (X:K.In h) (G:h.Ns mainGlobals mg) (r:xo K ["isinstance","int","tuple","list","bool","sum","len","all","zip","range","enumerate","any","max","min","sorted","str","repr","abs","dict","set","reversed"]):Txt mg:=by
 obtain ⟨z1,z2,z3,z4,z5,z6,z7,z8,z9,z10,z11,z12,z13,z14,z15,z16,z17,z18,z19,z20,z21,_⟩:=r
 have m:=fun {x:Str} (z:PySem.W.nsIn K mainGlobals x = some none)=>PySem.W.mg_none_of X G z
 exact ⟨m z1,m z2,m z3,m z4,m z5,m z6,m z7,m z8,m z9,m z10,m z11,m z12,m z13,m z14,m z15,m z16,m z17,m z18,m z19,m z20,m z21⟩
def Cu (K:PySem.W.Frag) (w:World) (x:Str) (T:List (Str × V)):Prop:=∃ a es n,PySem.W.nsIn K mainGlobals x = some (some (.ref a)) /\ K.lookup a = some ⟨.type "dict",none,.dict es n,#[]⟩ /\ PySem.W.KeysLit w.params es.toList /\ Paired (fun (p:Str × V) (e:DictEntry)=>(∃ t,e.key = .str p.1 t) /\ RelV p.2 e.val) T es.toList /\ (a == sysModules) = false
def BY (K:PySem.W.Frag):List (Str × M.T) -> List (Str × V) -> Prop
 | [],[]=>True
 | e :: r,p :: T=>(p.1 = e.1 /\ zW K e.2 p.2) /\ BY K r T
 | _,_=>False
def B9 (K:PySem.W.Frag) (T:List (Str × V)):List (Str × Str) -> Prop
 | []=>True
 | (k,y) :: r=>(∃ fa,T.lookup k = some (.ref fa) /\ PySem.W.nsIn K mainGlobals y = some (some (.ref fa))) /\ B9 K T r
def Dw (K:PySem.W.Frag) (w:World) (mg:Str -> Option Value) (x:Str) (l:List (Str × Str)):Prop:=∃ a T,mg x = some (.ref a) /\ tY K w a T /\ ∀ z y,l.lookup z = some y -> ∃ fa,T.lookup z = some (.ref fa) /\ mg y = some (.ref fa)
def Cn (P:Program) (w:World) (K:PySem.W.Frag) (mg:Str -> Option Value) (base:Heap) (n:Nat) (C:M.Call):List (Str × Nat) -> List (Str × Str) -> Prop
 | [],_=>True
 | (k,f) :: r,l=>(∃ y,l.lookup k = some y /\ ae P w K mg base n C y f []) /\ Cn P w K mg base n C r l
end
end MR

set_option Elab.async false
set_option linter.all false
set_option maxRecDepth 100000
set_option maxHeartbeats 4000000
namespace MR
open PySem PySem.Spec PyProof.Rows L2 L3
section
variable {X:Cx} {sf sg:Nat -> Option Nat} {C:M.Call} {pos p p2 p3:Pos} {ea eb ec:Expr} {a b c:M.E} {h:Bool} {n:Nat} {io:List Nat} {K:PySem.W.Frag}
theorem eG {Z:Fp} {H:Hp} {G:Fp} {m:M.Md} {t:M.T} {x:V} (hf:M.flatT t = true) (r:Rep K Z H m t x G):pd x = true /\ ∀ (u:M.T) (y:V) {m':M.Md} {G':Fp},M.flatT u = true -> Rep K Z H m' u y G' -> eqV y x = M.eqT u t:=by
 cases t with
 | non=>cases r; refine ⟨rfl,fun u y m' G' hu ru=>?_⟩; cases u <;> first | (cases ru; rfl) | (obtain ⟨e,_⟩:=ru; cases e; rfl) | cases hu
 | bl b=>cases r; refine ⟨rfl,fun u y m' G' hu ru=>?_⟩; cases u <;> first | (cases ru; rfl) | (cases ru; cases b <;> rfl) | (obtain ⟨e,_⟩:=ru; cases e; rfl) | cases hu
 | int i=>cases r; refine ⟨rfl,fun u y m' G' hu ru=>?_⟩; cases u with
  | bl c=>cases ru; cases c <;> rfl
  | _=>first | (cases ru; rfl) | (obtain ⟨e,_⟩:=ru; cases e; rfl) | cases hu
 | str z=>obtain ⟨e,_⟩:=r; cases e; refine ⟨rfl,fun u y m' G' hu ru=>?_⟩; cases u <;> first | (cases ru; rfl) | (obtain ⟨e,_⟩:=ru; cases e; rfl) | cases hu
 | _=>cases hf
end
end MR
namespace MR
open PySem PySem.Spec PyProof.Rows L2 L3
section
variable {K:PySem.W.Frag} {sl:Cf} {sf:Nat -> Option Nat} {C:M.Call} {σ:L2.St} {Z Z' Z1:Fp} {H H' H1:Hp} {Fs:Fps} {η ηb:M.Env} {vs ls io:List Nat} {pv:Nat -> Option V} {D:bY}
def BH (K:PySem.W.Frag) (J:It) (Z:Fp) (H0:Hp) (ts:List (List M.W)):Prop :=
 ∀ H i x H',Stay Z H0 H -> i < ts.length -> J.yld i H x H' -> ∃ p y z q u w g,x = .ref p /\ (∀ b o,H b = some o -> H' b = some o) /\ SqT K H' p [y,z,q] /\ ts[i]? = some [u,w,g] /\ Rep K Z H u.1 u.2 y no /\ Rep K Z H w.1 w.2 z no /\ Rep K Z H g.1 g.2 q no
def wI3 (K:PySem.W.Frag) (sl:Nat -> Option Nat) (C:M.Call) (src:List M.E):TI:=fun σ H R=>∃ pv Z Fs η ws η' ts,At K ⟨sl,pv⟩ σ Z H Fs η no /\ M.evL C src η = .ok (ws,η') /\ M.turns .zip3 ws = some ts /\
 ∀ J Z' H' Fs',At K ⟨sl,pv⟩ σ Z' H' Fs' η' no -> Step Z H (tot Fs) Z' H' (tot Fs') -> Wk K J Z' H' ts -> BH K J Z' H' ts -> R J H'
def gF3 (K:PySem.W.Frag) (j l o:Nat):TG:=pA K 3 (dY (bM j) (dY (bM l) (dY (bM o) pR)))
end
section
variable {X:Cx} {sf sg:Nat -> Option Nat} {C:M.Call} {pos p p2 p3:Pos} {ea eb ec:Expr} {a b c:M.E} {io:List Nat}
end
end MR
namespace MR
open PySem PySem.Spec PyProof.Rows L2 L3
section
variable {X:Cx} {sf sg:Nat -> Option Nat} {C:M.Call} {pos p p2 p3:Pos} {ea eb ec:Expr} {a b c:M.E} {h:Bool} {io:List Nat}
end
end MR
namespace MR
open PySem PySem.Spec PyProof.Rows L2 L3
section
variable {X:Cx} {sf sg:Nat -> Option Nat} {C:M.Call} {pos p p2 p3:Pos} {ea eb ec:Expr} {a b c:M.E} {h:Bool} {io:List Nat} {K:PySem.W.Frag}
end
end MR
namespace MR
open PySem PySem.Spec PyProof.Rows L2 L3
section
variable {X:Cx} {sf sg:Nat -> Option Nat} {C:M.Call} {pos p p2 p3:Pos} {ea eb ec:Expr} {a b c:M.E} {h:Bool} {io:List Nat} {K:PySem.W.Frag}
end
end MR

set_option linter.all false
set_option maxRecDepth 100000
set_option maxHeartbeats 4000000
namespace MR
open PySem PySem.W L2 M
def C5 (K:PySem.W.Frag) (ts:List M.T) (xs:List V):Prop:=∀ (Z:Fp) (H:Hp),RepL K Z H .s ts xs no
end MR

set_option Elab.async false
set_option linter.all false
set_option maxRecDepth 100000
set_option maxHeartbeats 4000000
namespace TP
open PySem PySem.W
def en (P:Params) (k:Str) (t:Nat) (v:Value):DictEntry:=⟨PyData.keyHash P k,.str k t,v⟩
def tu (xs:List Value):Obj:=⟨.type "tuple",none,.seq xs.toArray 0,#[]⟩
def fe (xs:List Value):Obj:=⟨.none,none,.fields xs.toArray,#[]⟩
def di (es:List DictEntry) (n:Nat):Obj:=⟨.type "dict",none,.dict es.toArray n,#[]⟩
abbrev fl:Str:="/claim/cut.py"
def iv (i:Int):Value:=.int i 0
def cdo (n q:Str) (t t2:Nat) (ln ac:Nat) (f:Nat) (a:Nat) (b:Bool) (x y z:Value):Obj :=
 ⟨.type "code",none,.fields #[.str n t,.str q (t + 1),.str fl (t + 2),iv ln,iv ac,iv 0,iv 0,iv f,.ref a,.bool b,iv 181,.ref (a + 1),.none,x,y,z,iv t2,iv ln,.str fl (t2 + 1)],#[]⟩
def ofn (c:Value) (st:Stmt) (q:Str) (g:Nat) (d m:Value) (cd:Value):Obj:=match st with
 | .FunctionDef n ar b _ _ _ sc _ _ _=>⟨c,none,.func { name:=n,qualname:=q,params:=ar,body:=.stmts b,scope:=sc,globals:=g,closure:=[],defaults:=d,kwdefaults:=.none,pyModule:=m,code:=cd },#[]⟩
 | _=>default
def tks:List Str -> Nat -> List Value
 | [],_=>[]
 | x :: r,t=>.str x t :: tks r (t + 1)
structure R where
 os:List Obj
 ns:List DictEntry
 tb:List Value
 n:Nat
 tk:Nat
 md:Value
inductive Rc where
 | d | m | c
 | x (k:Str) (kt:Nat) (v:Value) (os:Params -> List Obj) (tb:List Value) (n tk:Nat)
def cv:Expr -> Value
 | .Constant (.bool b) _ _=>.bool b
 | _=>.none
def dO (P:Params) (n tk:Nat) (md:Value) (st:Stmt):R:=match st with
 | .FunctionDef nm ar b _ _ _ sc _ _ pos =>
  let pr:List Obj × Value × Nat:=match ar.defaults with
   | []=>([],.none,n)
   | ds=>([tu (ds.map cv)],.ref n,n + 1)
  let a:=pr.2.2
  match localNames ar sc (.stmts b) with
  | none=>⟨pr.1 ++ [tu [],fe [],ofn .none st nm 0 .none .none .none,cdo nm nm tk (tk + 3) pos.line ar.args.length 3 a true .none .none (.ref (a + 2)),ofn (.type "function") st nm 3 pr.2.1 md (.ref (a + 3))],
    [en P nm (tk + 5) (.ref (a + 4))],[iv pos.line,iv pos.col,.ref (a + 3)],a + 5,tk + 6,md⟩
  | some l =>
   let k:=l.1.length
   let j:=l.2.length
   ⟨pr.1 ++ [tu [],fe [],tu (tks l.1 (tk + 3)),tu (tks l.2 (tk + 3 + k)),ofn .none st nm 0 .none .none .none,cdo nm nm tk (tk + 3 + k + j) pos.line ar.args.length 3 a true (.ref (a + 2)) (.ref (a + 3)) (.ref (a + 4)),ofn (.type "function") st nm 3 pr.2.1 md (.ref (a + 5))],
    [en P nm (tk + 5 + k + j) (.ref (a + 6))],[iv pos.line,iv pos.col,.ref (a + 5)],a + 7,tk + 6 + k + j,md⟩
 | _=>⟨[],[],[],n,tk,md⟩
def one (P:Params) (n tk:Nat) (md:Value) (st:Stmt):Rc -> R
 | .d=>dO P n tk md st
 | .m=>match st with
  | .Assign _ (.Constant (.str s) _ _) _=>⟨[],[],[],n,tk + 2,.str s tk⟩
  | _=>⟨[],[],[],n,tk,md⟩
 | .c=>match st with
  | .Assign (.Name x _ :: _) (.Constant (.str s) _ _) _=>⟨[],[en P x (tk + 1) (.str s tk)],[],n,tk + 2,md⟩
  | .Assign (.Name x _ :: _) (.Constant (.int i) _ _) _=>⟨[],[en P x (tk + 1) (.int i tk)],[],n,tk + 2,md⟩
  | _=>⟨[],[],[],n,tk,md⟩
 | .x k kt v os tb n' tk'=>⟨os P,[en P k kt v],tb,n',tk',md⟩
def go (P:Params):List (Stmt × Rc) -> Nat -> Nat -> Value -> List R
 | [],_,_,_=>[]
 | (st,r) :: l,n,tk,md=>let x:=one P n tk md st r
  x :: go P l x.n x.tk x.md
def Bt (x:R):List R -> R
 | []=>x
 | y :: l=>Bt y l
def ds:Data -> List DictEntry
 | .dict es _=>es.toList
 | _=>[]
def ep:Data -> Nat
 | .dict _ n=>n
 | _=>0
def r0:R:=⟨[],[],[],15,187,.str "__main__" 164⟩
def rs (P:Params) (l:List (Stmt × Rc)):List R:=go P l 15 187 (.str "__main__" 164)
noncomputable def o3 (P:Params) (l:List R):Obj:=di (en P "__name__" 165 (Bt r0 l).md :: ((ds (boot_o_3 P).data).tail ++ l.flatMap R.ns)) (ep (boot_o_3 P).data + (l.flatMap R.ns).length)
noncomputable def os (P:Params) (l:List R):List Obj :=
 boot_o_0 P :: boot_o_1 P :: boot_o_2 P :: o3 P l :: boot_o_4 P :: boot_o_5 P :: boot_o_6 P :: boot_o_7 P :: boot_o_8 P :: boot_o_9 P :: boot_o_10 P ::
 tu [] :: fe (l.flatMap R.tb) :: cdo "<module>" "<module>" 182 185 1 0 0 11 false .none .none .none ::
 ⟨.type "frame",none,.plain,#[some (.ref 13),some (.ref 3),some (.ref 3),none,some (.str "__main__" 164),none,some (.ref 0)]⟩ :: l.flatMap R.os
def odd {α:Type}:List α -> List α × List α
 | []=>([],[])
 | x :: l=>(x :: (odd l).2,(odd l).1)
def bt:Nat -> List Obj -> BT
 | 0,_=>.nil
 | _ + 1,[]=>.nil
 | k + 1,x :: l=>.node x (bt k (odd l).1) (bt k (odd l).2)
abbrev p0:Pos:=⟨0,0,0,0⟩
abbrev B0:List Frame:=[topFrame p0]
abbrev an:Option Value:=some (.ref 6)
def ev (p:Program):Env:={ scope:=p.main.scope,locals:=mainNs,globals:=mainNs,cells:=[],code:=.ref 13,frame:=some 14 }
def cE (p:Program):Code:=.body (behindTheImports p) (ev p)
noncomputable def sT (p:Program) (rc:List Rc) (P:Params) (m n tk:Nat) (o:OsState):SharedT:=⟨bt 12 (os P (rs P ((p.main.body.zip rc).take m))),n,{},#[],{},tk,o⟩
noncomputable def hp (p:Program) (rc:List Rc) (m n:Nat) (P:Params):Heap:=absHeap (bt 12 (os P (rs P ((p.main.body.zip rc).take m)))) n {}
def Cut (p:Program) (rc:List Rc) (i n t:Nat) (ps:Pos) (k N n' t':Nat) (ps':Pos) (w:World):Prop:=∀ o,segRunT treeTable p w 11 an 1 N (sT p rc w.params i n t o) (piecesOf ((p.main.body.drop i).take k) (ev p) (cE p) ps B0) = some (.next,sT p rc w.params (i + k) n' t' o,cE p,ps')
def Ch (p:Program) (rc:List Rc) (m n1 t1:Nat) (i n t:Nat) (ps:Pos) (M:Nat):Prop:=∀ w o,topRun treeTable p w 11 an M (sT p rc w.params i n t o).abs (restOf (p.main.body.drop i) (ev p) (cE p) ps B0) = some (sT p rc w.params m n1 t1 o).abs
theorem fG {p:Program} {rc:List Rc} {m n1 t1 i n t k N n' t' M:Nat} {ps ps':Pos} (c:∀ w,Cut p rc i n t ps k N n' t' ps' w) (h:Ch p rc m n1 t1 (i + k) n' t' ps' M):Ch p rc m n1 t1 i n t ps (N + M):=fun w o=>by
 have x:=piece_app (segRun_of (c w o)) (h w o)
 rw [<- List.drop_drop,List.take_append_drop] at x
 exact x
theorem xI {p:Program} {rc:List Rc} {m n1 t1:Nat} {ps:Pos} (hd:p.main.body.drop m = []):Ch p rc m n1 t1 m n1 t1 ps 2:=fun w o=>by
 rw [hd]
 exact piece_nil rfl
theorem u6 (w:World):((boot_heap w.params).isNs mainGlobals && (Array.mk []:Array GenState).size == 0,(boot_heap w.params).objs.size,(boot_heap w.params).nsMap mainGlobals "__annotations__") = (true,11,an):=by kernel_rfl
theorem uM {p q:Program} {loose:List Str} {Xt:Shared -> Bool} {α:Type} {Yf:Shared -> α} {Ya:World -> α} {N M m n1 t1:Nat} {rc:List Rc}
  (e:opening p = plainProg p.main.scope.names) (hN:Nat.ble 600 N = true) (f:∀ s,fenceModules? p s = some s) (hb:behindTheImports p = p.main.body)
  (size:∀ w:World,((boot_heap w.params).isNs mainGlobals && (Array.mk []:Array GenState).size == 0,(boot_heap w.params).objs.size,(boot_heap w.params).nsMap mainGlobals "__annotations__") = (true,11,an))
  (pre:∀ (w:World) (o:OsState),topGo treeTable p w 11 an 12 ⟨boot_heap w.params,Array.mk [],boot_drawn,boot_toks,o⟩ (topStub p) = some ((sT p rc w.params 0 15 187 o).abs,⟨denote treeTable (cE p),cE p,p0,B0⟩))
  (blk:∀ (w:World) (o:OsState),segRun treeTable p w 11 an 1 1 (sT p rc w.params 0 15 187 o).abs (blockOf (behindTheImports p) (ev p) (cE p) p0 B0) = some (.next,(sT p rc w.params 0 15 187 o).abs,cE p,p0))
  (ch:Ch p rc m n1 t1 0 15 187 p0 M) (le:Nat.ble (12 + (1 + M)) N = true)
  (looks:∀ w:World,(fun o=>((staticsOk (importedModules p.main.body) (boot_heap w.params) (hp p rc m n1 w.params) && namesBound p (hp p rc m n1 w.params) && gensDone ⟨hp p rc m n1 w.params,#[],{},t1,o⟩ && laidKept (boot_heap w.params) (hp p rc m n1 w.params)),
    openSeen q loose (importedModules p.main.body) Xt true ⟨hp p rc m n1 w.params,#[],{},t1,o⟩,Yf ⟨hp p rc m n1 w.params,#[],{},t1,o⟩)) = fun _=>(true,openGood q loose,Ya w)):LeftO p q loose Xt Yf Ya N :=
 LeftO.of_pieces (H₀:=boot_heap) (H₁:=hp p rc m n1) (gs₁:=#[]) (d₁:={}) (k₁:=t1) (boot_open e hN f) size
  (fun w o=>go_top (pre w o) (piece_block (blk w o) (by have x:=ch w o; rw [List.drop_zero,<- hb] at x; exact x))) le looks
def cb (st:Stmt) (j:Nat):Stmt:=match st with
 | .ClassDef _ _ _ b _ _ _ _ _ _ _=>b.getD j st
 | _=>st
def drec (st:Stmt):PySem.DefRec:=match st with
 | .FunctionDef n a b _ _ _ sc _ _ pos=>⟨n,a,b,sc,pos⟩
 | _=>⟨default,default,[],default,default⟩
theorem fF {α:Type}:∀ (l:List α) (i:Nat),(odd l).1[i]? = l[2 * i]? /\ (odd l).2[i]? = l[2 * i + 1]?
 | [],i=>by simp [odd]
 | x :: l,i=>by
  refine ⟨?_,?_⟩
  ·cases i with
   | zero=>simp [odd]
   | succ j=>rw [show 2 * (j + 1) = 2 * j + 1 + 1 by omega]; simp only [odd,List.getElem?_cons_succ]; exact (fF l j).2
  ·simp only [odd,List.getElem?_cons_succ]; exact (fF l i).1
theorem lI {α:Type}:∀ (l:List α),(odd l).1.length = (l.length + 1) / 2 /\ (odd l).2.length = l.length / 2
 | []=>by simp [odd]
 | x :: l=>by
  have h:=lI l
  simp only [odd,List.length_cons,h.1,h.2]
  exact ⟨by omega,trivial⟩
theorem ly:∀ (k:Nat) (l:List Obj) (a:Nat),l.length < 2 ^ k -> (bt k l).get a = l[a]?
 | 0,l,a,h=>by
  have:l = []:=List.length_eq_zero_iff.mp (by simpa using h)
  subst this; simp [bt,BT.get]
 | k + 1,[],a,h=>by simp [bt,BT.get]
 | k + 1,x :: l,a,h=>by
  have e:2 ^ (k + 1) = 2 * 2 ^ k:=by rw [Nat.pow_succ]; omega
  have hl:=lI l
  simp only [List.length_cons] at h
  unfold bt
  rw [BT.get_node]
  by_cases h0:a = 0
  ·simp [h0]
  ·rw [if_neg h0]
   by_cases h1:a % 2 = 1
   ·rw [if_pos h1,ly k _ _ (by omega),(fF l (a / 2)).1]
    obtain ⟨b,rfl⟩:∃ b,a = b + 1:=⟨a - 1,by omega⟩
    rw [List.getElem?_cons_succ]; congr 1; omega
   ·rw [if_neg h1,ly k _ _ (by omega),(fF l (a / 2 - 1)).2]
    obtain ⟨b,rfl⟩:∃ b,a = b + 1:=⟨a - 1,by omega⟩
    rw [List.getElem?_cons_succ]; congr 1; omega
noncomputable def lL (p:Program) (rc:List Rc) (m:Nat) (P:Params):List Obj:=os P (rs P ((p.main.body.zip rc).take m))
noncomputable def kK (p:Program) (rc:List Rc) (m:Nat) (as:List Addr) (P:Params):Frag:=as.map fun a=>(a,(lL p rc m P).getD a default)
def okO:Option Obj -> Bool
 | some ⟨_,_,.freed,_⟩=>false
 | some _=>true
 | none=>false
theorem l0 {p:Program} {rc:List Rc} {m:Nat} {P:Params} {a:Addr} {o:Obj}:∀ {as:List Addr},(kK p rc m as P).lookup a = some o -> a ∈ as /\ o = (lL p rc m P).getD a default
 | [],h=>by simp [kK] at h
 | b :: as,h=>by
  unfold kK at h
  rw [List.map_cons,List.lookup_cons] at h
  by_cases e:a = b
  ·subst e
   rw [beq_self_eq_true] at h
   exact ⟨List.mem_cons_self ..,(Option.some.inj h).symm⟩
  ·rw [beq_false_of_ne e] at h
   have x:=l0 (as:=as) h
   exact ⟨List.mem_cons_of_mem _ x.1,x.2⟩
noncomputable def hkk (p:Program) (rc:List Rc) (m n:Nat):Hook where
 α:=Array Obj
 obs s:=s.heap.objs
 val w:=(hp p rc m n w.params).objs
 says w h:=∀ a o,(hp p rc m n w.params).get? a = some o -> h.get? a = some o
 of w s e a o x:=by unfold Heap.get? at *; rw [e]; exact x
 keeps w h h' X k a o x:=k _ _ (X a o x)
theorem CD {p:Program} {rc:List Rc} {m n:Nat} {as:List Addr} {w:World} {h:Heap} (hl:Nat.blt (lL p rc m w.params).length 4096 = true) (hc:(as.all fun a=>Nat.blt a n && okO (lL p rc m w.params)[a]?) = true)
  (Y:(hkk p rc m n).says w h):(kK p rc m as w.params).In h:=fun a o e=>by
 obtain ⟨e1,e2⟩:=l0 e
 obtain ⟨c1,c2⟩:=Bool.and_eq_true_iff.mp (List.all_eq_true.mp hc a e1)
 refine Y a o ?_
 have c3:a < n:=Nat.le_of_ble_eq_true c1
 have c4:(lL p rc m w.params).length < 2 ^ 12:=Nat.le_of_ble_eq_true hl
 have g:=ly 12 (lL p rc m w.params) a c4
 unfold hp Heap.get?
 rw [absHeap_at,if_pos c3]
 show (match some (((bt 12 (lL p rc m w.params)).get a).getD default) with | some ⟨_,_,.freed,_⟩=>none | o=>o) = some o
 rw [g]
 rw [List.getD_eq_getElem?_getD] at e2
 rw [<- e2]
 cases q:(lL p rc m w.params)[a]? with
 | none=>rw [q] at c2; cases c2
 | some x =>
  rw [q] at c2 e2
  have e3:o = x:=e2
  subst e3
  obtain ⟨_,_,d,_⟩:=o
  cases d <;> first | rfl | cases c2
def pmO:Option Obj -> Value
 | some ⟨_,_,.func f,_⟩=>f.pyModule
 | _=>.none
def dvO:Option Obj -> Nat
 | some ⟨_,_,.func f,_⟩=>match f.defaults with | .ref a=>a | _=>0
 | _=>0
def rfO:Option (Option Value) -> Nat
 | some (some (.ref a))=>a
 | _=>0
def tkO:Option (Option Value) -> Nat
 | some (some (.int _ t))=>t
 | some (some (.str _ t))=>t
 | _=>0
theorem raw_mk {K:Frag} {x:Str} {st:Stmt} {dV:Value} (h1:nsIn K mainGlobals x = some (some (.ref (rfO (nsIn K mainGlobals x)))))
  (h2:K.lookup (rfO (nsIn K mainGlobals x)) = some ⟨.type "function",none,.func (fnOf x x (L2.defArgs st) (L2.defBody st) (L2.defScope st) dV .none .none (pmO (K.lookup (rfO (nsIn K mainGlobals x)))) none (.ref (rfO (nsIn K mainGlobals x) - 1)) .none),#[]⟩)
  (h3:codeIn K (.ref (rfO (nsIn K mainGlobals x) - 1)) x = true) (h4:keepIn K (.ref (rfO (nsIn K mainGlobals x))) = true):MR.Raw K x st dV:=⟨_,_,_,_,_,_,_,_,_,_,h1,h2,h3,h4⟩
theorem rawd_mk {K:Frag} {x:Str} {st:Stmt} {v:Value} (h1:nsIn K mainGlobals x = some (some (.ref (rfO (nsIn K mainGlobals x)))))
  (h2:K.lookup (rfO (nsIn K mainGlobals x)) = some ⟨.type "function",none,.func (fnOf x x (L2.defArgs st) (L2.defBody st) (L2.defScope st) (.ref (dvO (K.lookup (rfO (nsIn K mainGlobals x))))) .none .none (pmO (K.lookup (rfO (nsIn K mainGlobals x)))) none (.ref (rfO (nsIn K mainGlobals x) - 1)) .none),#[]⟩)
  (h3:codeIn K (.ref (rfO (nsIn K mainGlobals x) - 1)) x = true) (h4:keepIn K (.ref (rfO (nsIn K mainGlobals x))) = true) (h5:K.lookup (dvO (K.lookup (rfO (nsIn K mainGlobals x)))) = some (tu [v])):MR.RawD K x st v:=⟨_,_,_,raw_mk h1 h2 h3 h4,h5,rfl⟩
def toV:Value -> L2.V
 | .bool b=>.bl b
 | .int i _=>.int i
 | .str s _=>.str s
 | .ref a=>.ref a
 | _=>.non
def okV:Value -> Bool
 | .none=>true
 | .bool _=>true
 | .int _ _=>true
 | .str _ _=>true
 | .ref _=>true
 | _=>false
def eK (e:DictEntry):Str × Nat × Value:=match e.key with
 | .str k t=>(k,t,e.val)
 | _=>("",0,e.val)
def tE:Option Obj -> List (Str × Nat × Value)
 | some o=>(ds o.data).map eK
 | none=>[]
def tN:Option Obj -> Nat
 | some o=>ep o.data
 | none=>0
def enL (P:Params) (l:List (Str × Nat × Value)):List DictEntry:=l.map fun e=>en P e.1 e.2.1 e.2.2
def tL (l:List (Str × Nat × Value)):List (Str × L2.V):=l.map fun e=>(e.1,toV e.2.2)
def BU (K:Frag) (T:List (Str × L2.V)):List (Str × Str) -> Bool
 | []=>true
 | e :: r=>(match T.lookup e.1,nsIn K mainGlobals e.2 with
  | some (.ref a),some (some (.ref b))=>Nat.beq a b
  | _,_=>false) && BU K T r
def Bc {α β:Type} (f:α -> β -> Bool):List α -> List β -> Bool
 | [],[]=>true
 | a :: l,b :: r=>f a b && Bc f l r
 | _,_=>false
def BP (K:Frag):Nat -> M.T -> L2.V -> Bool
 | _ + 1,.int i,.int j=>decide (i = j)
 | _ + 1,.non,.non=>true
 | _ + 1,.bl a,.bl b=>decide (a = b)
 | _ + 1,.str x,.str y=>decide (x = y) && M.sOk x
 | n + 1,.tup ts,.ref a=>match K.lookup a with
  | some ⟨.type "tuple",_,.seq its _,_⟩=>Nat.ble its.size 1000 && (its.toList.all okV && Bc (BP K n) ts (its.toList.map toV))
  | _=>false
 | _,_,_=>false
end TP

set_option linter.all false
namespace A38
open M
open PySem (Str)
abbrev q:=Str.ofString
def nh:Fn:={ ps:=2,ns:=3,io:=[],body:=[.pas] }
def bz:Fn:={ ps:=2,ns:=0,io:=[],body:=[
  .ite (.q [0] []) (.op .eq false [.op .ix false [.var 0,.cst (.int 0)],.cst (.str (q "num"))]) [
   .ret [] (.call 3 [.mv 1])] [],
  .ite (.q [0] []) (.op .eq false [.op .ix false [.var 0,.cst (.int 0)],.cst (.str (q "truth"))]) [
   .ret [] (.op (.isI ["bool"]) false [.mv 1])] [],
  .ite (.q [0] []) (.op .eq false [.op .ix false [.var 0,.cst (.int 0)],.cst (.str (q "pair"))]) [
   .ret [] (.call 4 [.mv 0,.mv 1])] [],
  .ret [] (.call 5 [.mv 0,.mv 1])] }
def bI:Fn:={ ps:=1,ns:=0,io:=[],body:=[
  .ite (.q [0] []) (.or (.not (.op (.isI ["int"]) false [.var 0])) (.op (.isI ["bool"]) false [.var 0])) [
   .ret [] (.cst (.bl false))] [],
  .ret [] (.chain .le .le (.op .neg false [.cst (.int 1000000000000000000)]) (.mv 0) (.cst (.int 1000000000000000000)))] }
def a6:Fn:={ ps:=2,ns:=5,io:=[],body:=[
  .ite (.q [0] []) (.op .eq false [.op .ix false [.var 0,.cst (.int 0)],.cst (.str (q "pair"))]) [
   .ret [0,1] (.tup [.call 6 [.op .ix false [.var 0,.cst (.int 1)],.comp false .seq [.var 1] [4] none (.op .ix false [.var 4,.cst (.int 0)])],.call 6 [.op .ix false [.var 0,.cst (.int 2)],.comp false .seq [.var 1] [5] none (.op .ix false [.var 5,.cst (.int 1)])]])] [],
  .ite (.q [0] []) (.op .eq false [.op .ix false [.var 0,.cst (.int 0)],.cst (.str (q "row"))]) [
   .asg (.q [] []) 2 (.lst false []),
   .forS [1] [] .seq [.var 1] [3] [
    .ext (.q [3] []) 2 (.var 3)],
   .ret [] (.tup [.comp true .seq [.mv 1] [6] none (.op .len false [.var 6]),.call 6 [.op .ix false [.mv 0,.cst (.int 1)],.mv 2]])] [],
  .ret [] (.op .list true [.mv 1])] }
def aP:Fn:={ ps:=3,ns:=0,io:=[],body:=[
  .ite (.q [0] []) (.op .eq false [.op .ix false [.var 0,.cst (.int 0)],.cst (.str (q "pair"))]) [
   .ret [0,1] (.op .lzip false [.call 7 [.op .ix false [.var 0,.cst (.int 1)],.op .ix false [.var 1,.cst (.int 0)],.var 2],.call 7 [.op .ix false [.var 0,.cst (.int 2)],.op .ix false [.var 1,.cst (.int 1)],.var 2]])] [],
  .ite (.q [0] []) (.op .eq false [.op .ix false [.var 0,.cst (.int 0)],.cst (.str (q "row"))]) [
   .ret [1] (.call 1 [.op .ix false [.var 1,.cst (.int 0)],.call 7 [.op .ix false [.mv 0,.cst (.int 1)],.op .ix false [.var 1,.cst (.int 1)],.op .sum false [.op .ix false [.var 1,.cst (.int 0)]]]])] [],
  .ret [] (.op .list true [.mv 1])] }
def a7:Fn:={ ps:=3,ns:=1,io:=[],body:=[
  .ite (.q [0] []) (.op .eq false [.op .ix false [.var 0,.cst (.int 0)],.cst (.str (q "pair"))]) [
   .ret [0,1] (.and (.call 9 [.var 1]) (.and (.call 8 [.op .ix false [.var 0,.cst (.int 1)],.op .ix false [.var 1,.cst (.int 0)],.var 2]) (.call 8 [.op .ix false [.var 0,.cst (.int 2)],.op .ix false [.var 1,.cst (.int 1)],.var 2])))] [],
  .ite (.q [0] []) (.op .eq false [.op .ix false [.var 0,.cst (.int 0)],.cst (.str (q "row"))]) [
   .ret [1] (.and (.call 9 [.var 1]) (.and (.call 10 [.op .ix false [.var 1,.cst (.int 0)],.mv 2]) (.call 8 [.op .ix false [.mv 0,.cst (.int 1)],.op .ix false [.var 1,.cst (.int 1)],.op .sum false [.op .ix false [.var 1,.cst (.int 0)]]])))] [],
  .ret [0,1] (.and (.op (.isI ["list"]) false [.var 1]) (.and (.op .eq false [.op .len false [.var 1],.mv 2]) (.op .all false [.comp false .seq [.var 1] [3] none (.call 2 [.var 0,.var 3])])))] }
def bH:Fn:={ ps:=1,ns:=0,io:=[],body:=[
  .ret [0] (.and (.op (.isI ["tuple"]) false [.var 0]) (.op .eq false [.op .len false [.var 0],.cst (.int 2)]))] }
def aZ:Fn:={ ps:=2,ns:=1,io:=[],body:=[
  .ite (.q [0] [1]) (.not (.call 8 [.tup [.cst (.str (q "num"))],.var 0,.var 1])) [
   .ret [] (.cst (.bl false))] [],
  .ret [] (.op .all false [.comp false .seq [.mv 0] [2] none (.chain .le .le (.cst (.int 0)) (.var 2) (.cst (.int 200)))])] }
def a4:Fn:={ ps:=2,ns:=0,io:=[],body:=[
  .ite (.q [0] []) (.op .eq false [.op .ix false [.var 0,.cst (.int 0)],.cst (.str (q "pair"))]) [
   .ret [] (.call 11 [.op .ix false [.mv 0,.cst (.int 1)],.op .ix false [.mv 1,.cst (.int 0)]])] [],
  .ret [1] (.ifx (.op .eq false [.op .ix false [.mv 0,.cst (.int 0)],.cst (.str (q "row"))]) (.op .len false [.op .ix false [.var 1,.cst (.int 0)]]) (.op .len false [.var 1]))] }
def ek:Fn:={ ps:=3,ns:=2,io:=[],body:=[
  .asg (.q [0,1] []) 3 (.call 11 [.var 0,.var 1]),
  .forS [2] [] .seq [.var 2] [4] [
   .ite (.q [] [3,4]) (.not (.chain .le .lt (.cst (.int 0)) (.var 4) (.var 3))) [
    .stop] []],
  .ret [] (.call 13 [.mv 0,.mv 1,.mv 2])] }
def aF:Fn:={ ps:=3,ns:=3,io:=[],body:=[
  .ite (.q [0] []) (.op .eq false [.op .ix false [.var 0,.cst (.int 0)],.cst (.str (q "pair"))]) [
   .ret [0,1,2] (.tup [.call 13 [.op .ix false [.var 0,.cst (.int 1)],.op .ix false [.var 1,.cst (.int 0)],.var 2],.call 13 [.op .ix false [.var 0,.cst (.int 2)],.op .ix false [.var 1,.cst (.int 1)],.var 2]])] [],
  .ite (.q [0] []) (.op .eq false [.op .ix false [.var 0,.cst (.int 0)],.cst (.str (q "row"))]) [
   .asg (.q [1,2] []) 3 (.comp true .seq [.var 2] [4] none (.op .ix false [.op .ix false [.var 1,.cst (.int 0)],.var 4])),
   .ret [1] (.tup [.mv 3,.call 13 [.op .ix false [.mv 0,.cst (.int 1)],.op .ix false [.var 1,.cst (.int 1)],.call 14 [.op .ix false [.var 1,.cst (.int 0)],.mv 2]]])] [],
  .ret [1] (.comp true .seq [.mv 2] [5] none (.op .ix false [.var 1,.var 5]))] }
def bJ:Fn:={ ps:=2,ns:=5,io:=[],body:=[
  .asg (.q [] []) 2 (.lst true []),
  .asg (.q [] []) 3 (.cst (.int 0)),
  .forS [0] [] .seq [.var 0] [4] [
   .app (.q [] [3]) 2 (.var 3),
   .asg (.q [] [3,4]) 3 (.op .add false [.var 3,.var 4])],
  .asg (.q [] []) 5 (.lst true []),
  .forS [1] [] .seq [.var 1] [6] [
   .ext (.q [0,2] [6]) 5 (.op .rng false [.op .ix false [.var 2,.var 6],.op .add false [.op .ix false [.var 2,.var 6],.op .ix false [.var 0,.var 6]]])],
  .ret [] (.mv 5)] }
def bN:Fn:={ ps:=3,ns:=0,io:=[],body:=[
  .ite (.q [0] []) (.op .eq false [.op .ix false [.var 0,.cst (.int 0)],.cst (.str (q "pair"))]) [
   .ret [0,1,2] (.tup [.call 15 [.op .ix false [.var 0,.cst (.int 1)],.op .ix false [.var 1,.cst (.int 0)],.op .ix false [.var 2,.cst (.int 0)]],.call 15 [.op .ix false [.var 0,.cst (.int 2)],.op .ix false [.var 1,.cst (.int 1)],.op .ix false [.var 2,.cst (.int 1)]]])] [],
  .ite (.q [0] []) (.op .eq false [.op .ix false [.var 0,.cst (.int 0)],.cst (.str (q "row"))]) [
   .ret [1,2] (.tup [.op .add true [.op .ix false [.var 1,.cst (.int 0)],.op .ix false [.var 2,.cst (.int 0)]],.call 15 [.op .ix false [.mv 0,.cst (.int 1)],.op .ix false [.var 1,.cst (.int 1)],.op .ix false [.var 2,.cst (.int 1)]]])] [],
  .ret [] (.op .add true [.mv 1,.mv 2])] }
def f7:Fn:={ ps:=3,ns:=2,io:=[],body:=[
  .ret [] (.call 13 [.mv 0,.mv 1,.comp false .enm [.mv 2] [3,4] (some (.var 4)) (.var 3)])] }
def dm:Fn:={ ps:=4,ns:=4,io:=[],body:=[
  .asg (.q [] []) 4 (.lst true []),
  .asg (.q [] []) 5 (.cst (.int 0)),
  .asg (.q [0,2] []) 6 (.call 11 [.var 0,.var 2]),
  .forS [1] [] .seq [.var 1] [7] [
   .ite (.q [] [7]) (.var 7) [
    .app (.q [] [5]) 4 (.var 5),
    .asg (.q [] [5]) 5 (.op .add false [.var 5,.cst (.int 1)])] [
    .app (.q [] [6]) 4 (.var 6),
    .asg (.q [] [6]) 6 (.op .add false [.var 6,.cst (.int 1)])]],
  .ret [0] (.call 13 [.var 0,.call 15 [.var 0,.mv 2,.mv 3],.mv 4])] }
def dD:Fn:={ ps:=3,ns:=3,io:=[],body:=[
  .asg (.q [] []) 3 (.lst false []),
  .forS [2] [] .enm [.var 2] [4,5] [
   .ext (.q [] [4,5]) 3 (.op .mul false [.lst false [.var 4],.var 5])],
  .ret [] (.call 13 [.mv 0,.mv 1,.mv 3])] }
def aM:Fn:={ ps:=3,ns:=1,io:=[],body:=[
  .ite (.q [0] []) (.op .eq false [.op .ix false [.var 0,.cst (.int 0)],.cst (.str (q "pair"))]) [
   .ret [0,1] (.tup [.call 19 [.op .ix false [.var 0,.cst (.int 1)],.op .ix false [.var 1,.cst (.int 0)],.var 2],.call 19 [.op .ix false [.var 0,.cst (.int 2)],.op .ix false [.var 1,.cst (.int 1)],.var 2]])] [],
  .ite (.q [0] []) (.op .eq false [.op .ix false [.var 0,.cst (.int 0)],.cst (.str (q "row"))]) [
   .asg (.q [1] [2]) 3 (.op .sl2 true [.op .ix false [.var 1,.cst (.int 0)],.var 2]),
   .ret [] (.tupA [.io 3,.qx [0,1,3] [] (.call 19 [.op .ix false [.var 0,.cst (.int 1)],.op .ix false [.var 1,.cst (.int 1)],.op .sum false [.var 3]])])] [],
  .ret [] (.op .sl2 true [.mv 1,.mv 2])] }
def aT:Fn:={ ps:=2,ns:=4,io:=[0],body:=[
  .ite (.q [0] []) (.op .gt false [.op .ix false [.var 0,.cst (.int 3)],.cst (.int 0)]) [
   .setI (.q [0] []) 0 (.cst (.int 3)) (.op .sub false [.op .ix false [.var 0,.cst (.int 3)],.cst (.int 1)]),
   .asg (.q [0] []) 2 (.op .ix false [.var 0,.cst (.int 2)]),
   .setI (.q [] [1,2]) 0 (.cst (.int 2)) (.op .fdiv false [.var 2,.var 1]),
   .ret [] (.op .mod false [.mv 2,.mv 1])] [],
  .asg (.q [0] []) 3 (.op .ix false [.var 0,.cst (.int 1)]),
  .setI (.q [] [3]) 0 (.cst (.int 1)) (.op .add false [.var 3,.cst (.int 1)]),
  .asg (.q [] []) 4 (.cst (.int 0)),
  .ite (.q [0] []) (.op .gt false [.op .len false [.op .ix false [.var 0,.cst (.int 0)]],.cst (.int 0)]) [
   .asg (.q [0] [3]) 4 (.op .ix false [.op .ix false [.var 0,.cst (.int 0)],.op .mod false [.var 3,.op .len false [.op .ix false [.var 0,.cst (.int 0)]]]])] [],
  .ite (.q [0] [3,4]) (.and (.op .lt false [.var 3,.op .len false [.op .ix false [.var 0,.cst (.int 0)]]]) (.op .ge false [.var 4,.op .pow false [.cst (.int 10),.cst (.int 18)]])) [
   .setI (.q [] [4]) 0 (.cst (.int 2)) (.op .sub false [.var 4,.op .pow false [.cst (.int 10),.cst (.int 18)]]),
   .setI (.q [] []) 0 (.cst (.int 3)) (.cst (.int 40)),
   .ret [] (.call 20 [.io 0,.mv 1])] [],
  .asg (.q [] [3,4]) 5 (.op .mul false [.op .add false [.op .mod false [.var 4,.cst (.int 999983)],.cst (.int 3)],.op .add false [.op .add false [.op .mod false [.op .mul false [.var 3,.var 3],.cst (.int 10007)],.op .mul false [.cst (.int 61),.var 3]],.cst (.int 7)]]),
  .asg (.q [] [5]) 5 (.op .mod false [.op .mul false [.op .mod false [.var 5,.cst (.int 1000003)],.op .mod false [.var 5,.cst (.int 1000003)]],.cst (.int 999979)]),
  .ret [] (.op .mod false [.op .mod false [.op .add false [.op .fdiv false [.mv 5,.cst (.int 3)],.op .mul false [.cst (.int 131),.mv 3]],.cst (.int 99991)],.mv 1])] }
def bj:Fn:={ ps:=1,ns:=3,io:=[0],body:=[
  .asg (.l []) 1 (.call 20 [.io 0,.cst (.int 6)]),
  .ite (.q [] [1]) (.op .lt false [.var 1,.cst (.int 4)]) [
   .ret [] (.op .sub false [.call 20 [.io 0,.cst (.int 19)],.cst (.int 9)])] [],
  .ite (.q [] [1]) (.op .eq false [.var 1,.cst (.int 4)]) [
   .asg (.q [] []) 2 (.op .pow false [.cst (.int 10),.cst (.int 18)]),
   .ret [] (.op .ix false [.lst false [.var 2,.op .sub false [.cst (.int 0),.var 2],.op .sub false [.var 2,.cst (.int 1)],.op .sub false [.cst (.int 1),.var 2],.cst (.int 0)],.call 20 [.io 0,.cst (.int 5)]])] [],
  .asg (.l []) 3 (.op .mul false [.call 20 [.io 0,.op .pow false [.cst (.int 10),.cst (.int 6)]],.op .pow false [.cst (.int 10),.cst (.int 12)]]),
  .asg (.l []) 3 (.op .add false [.var 3,.op .mul false [.call 20 [.io 0,.op .pow false [.cst (.int 10),.cst (.int 6)]],.op .pow false [.cst (.int 10),.cst (.int 6)]]]),
  .asg (.l []) 3 (.op .add false [.var 3,.call 20 [.io 0,.op .pow false [.cst (.int 10),.cst (.int 6)]]]),
  .ret [] (.op .mul false [.mv 3,.op .sub false [.cst (.int 1),.op .mul false [.cst (.int 2),.call 20 [.io 0,.cst (.int 2)]]]])] }
def b5:Fn:={ ps:=2,ns:=2,io:=[0],body:=[
  .asg (.l []) 2 (.call 20 [.io 0,.cst (.int 6)]),
  .ite (.q [] [1,2]) (.or (.op .eq false [.var 1,.cst (.int 1)]) (.op .lt false [.var 2,.cst (.int 2)])) [
   .ret [] (.op .ix false [.lst false [.tup [.cst (.str (q "num"))],.tup [.cst (.str (q "truth"))]],.op .mod false [.mv 2,.cst (.int 2)]])] [],
  .ite (.q [] [2]) (.op .lt false [.var 2,.cst (.int 4)]) [
   .asg (.l []) 3 (.call 22 [.io 0,.op .sub false [.var 1,.cst (.int 1)]]),
   .ret [] (.tup [.cst (.str (q "pair")),.mv 3,.call 22 [.io 0,.op .sub false [.mv 1,.cst (.int 1)]]])] [],
  .ret [] (.tup [.cst (.str (q "row")),.call 22 [.io 0,.op .sub false [.mv 1,.cst (.int 1)]]])] }
def aA:Fn:={ ps:=3,ns:=3,io:=[0],body:=[
  .ite (.q [1] []) (.op .eq false [.op .ix false [.var 1,.cst (.int 0)],.cst (.str (q "num"))]) [
   .ret [] (.call 21 [.io 0])] [],
  .ite (.q [1] []) (.op .eq false [.op .ix false [.var 1,.cst (.int 0)],.cst (.str (q "truth"))]) [
   .ret [] (.op .eq false [.call 20 [.io 0,.cst (.int 2)],.cst (.int 1)])] [],
  .ite (.q [1] []) (.op .eq false [.op .ix false [.var 1,.cst (.int 0)],.cst (.str (q "pair"))]) [
   .asg (.l [1]) 3 (.call 23 [.io 0,.op .ix false [.var 1,.cst (.int 1)],.var 2]),
   .ret [] (.tup [.mv 3,.call 23 [.io 0,.op .ix false [.mv 1,.cst (.int 2)],.mv 2]])] [],
  .asg (.l []) 4 (.call 20 [.io 0,.cst (.int 4)]),
  .ite (.l [1]) (.and (.var 2) (.and (.op .eq false [.op .len false [.op .ix false [.var 1,.cst (.int 1)]],.cst (.int 1)]) (.op .eq false [.call 20 [.io 0,.cst (.int 32)],.cst (.int 31)]))) [
   .asg (.l []) 4 (.op .add false [.cst (.int 196),.call 20 [.io 0,.cst (.int 5)]])] [],
  .ret [1] (.comp true .rng [.mv 4] [5] none (.call 23 [.io 0,.op .ix false [.var 1,.cst (.int 1)],.cst (.bl false)]))] }
def aw:Fn:={ ps:=2,ns:=2,io:=[],body:=[
  .ite (.q [0] []) (.op (.isI ["list","tuple"]) false [.var 0]) [
   .ite (.q [0,1] []) (.op .ne false [.op (.isI ["list"]) false [.var 0],.op (.isI ["list"]) false [.var 1]]) [
    .ret [] (.cst (.bl false))] [],
   .ite (.q [0,1] []) (.op .ne false [.op (.isI ["tuple"]) false [.var 0],.op (.isI ["tuple"]) false [.var 1]]) [
    .ret [] (.cst (.bl false))] [],
   .ite (.q [0,1] []) (.op .ne false [.op .len false [.var 0],.op .len false [.var 1]]) [
    .ret [] (.cst (.bl false))] [],
   .ret [] (.op .all false [.comp false .zip [.mv 0,.mv 1] [2,3] none (.call 24 [.var 2,.var 3])])] [],
  .ite (.q [0,1] []) (.op .ne false [.op (.isI ["bool"]) false [.var 0],.op (.isI ["bool"]) false [.var 1]]) [
   .ret [] (.cst (.bl false))] [],
  .ret [] (.op .eq false [.mv 0,.mv 1])] }
def bZ:Fn:={ ps:=2,ns:=1,io:=[0],body:=[
  .ret [1] (.comp false .rng [.call 20 [.io 0,.cst (.int 4)]] [2] none (.call 23 [.io 0,.var 1,.cst (.bl true)]))] }
def bG:Fn:={ ps:=4,ns:=6,io:=[0],body:=[
  .asg (.l [1]) 4 (.call 25 [.io 0,.var 1]),
  .asg (.q [2] []) 5 (.op .list false [.var 2]),
  .asg (.q [4] []) 6 (.op .list false [.var 4]),
  .asg (.q [] []) 7 (.lst false []),
  .asg (.q [] []) 8 (.lst false []),
  .whl (.l []) (.op .gt false [.op .add false [.lenV 5,.lenV 6],.cst (.int 0)]) [
   .asg (.l []) 9 (.or (.op .eq false [.lenV 6,.cst (.int 0)]) (.and (.op .gt false [.lenV 5,.cst (.int 0)]) (.op .eq false [.call 20 [.io 0,.cst (.int 2)],.cst (.int 1)]))),
   .app (.q [] [9]) 7 (.var 9),
   .ite (.q [] [9]) (.var 9) [
    .app (.l []) 8 (.pop 5 [.cst (.int 0)])] [
    .app (.l []) 8 (.pop 6 [.cst (.int 0)])]],
  .ret [1] (.tup [.mv 8,.call 17 [.var 1,.mv 7,.mv 3,.call 6 [.var 1,.mv 4]]])] }
def b0:Fn:={ ps:=4,ns:=16,io:=[0],body:=[
  .asg (.l []) 4 (.call 20 [.io 0,.cst (.int 7)]),
  .asg (.q [2] []) 5 (.op .len false [.var 2]),
  .ite (.q [] [4]) (.op .eq false [.var 4,.cst (.int 0)]) [
   .asg (.l []) 6 (.comp false .rng [.call 20 [.io 0,.cst (.int 9)]] [14] (some (.op .gt false [.var 5,.cst (.int 0)])) (.call 20 [.io 0,.var 5])),
   .asg (.q [2,6] []) 7 (.comp false .seq [.var 6] [15] none (.op .ix false [.var 2,.var 15])),
   .ret [] (.tup [.mv 7,.call 12 [.mv 1,.mv 3,.mv 6]])] [],
  .ite (.q [] [4]) (.op .eq false [.var 4,.cst (.int 1)]) [
   .asg (.l [1]) 8 (.call 25 [.io 0,.var 1]),
   .ret [1,8] (.tup [.op .add false [.mv 2,.var 8],.call 15 [.var 1,.mv 3,.call 6 [.var 1,.var 8]]])] [],
  .ite (.q [] [4]) (.op .eq false [.var 4,.cst (.int 2)]) [
   .asg (.l [1]) 8 (.call 25 [.io 0,.var 1]),
   .ret [1,8] (.tup [.op .add false [.var 8,.mv 2],.call 15 [.var 1,.call 6 [.var 1,.var 8],.mv 3]])] [],
  .ite (.q [] [4]) (.op .eq false [.var 4,.cst (.int 3)]) [
   .asg (.l []) 9 (.comp false .rng [.var 5] [16] none (.op .gt false [.call 20 [.io 0,.cst (.int 3)],.cst (.int 0)])),
   .asg (.q [2,9] []) 7 (.comp false .zip [.var 2,.var 9] [17,18] (some (.var 18)) (.var 17)),
   .ret [] (.tup [.mv 7,.call 16 [.mv 1,.mv 3,.mv 9]])] [],
  .ite (.q [] [4]) (.op .eq false [.var 4,.cst (.int 4)]) [
   .ret [] (.call 26 [.io 0,.mv 1,.mv 2,.mv 3])] [],
  .ite (.q [] [4]) (.op .eq false [.var 4,.cst (.int 5)]) [
   .asg (.l []) 10 (.comp false .rng [.var 5] [19] none (.call 20 [.io 0,.cst (.int 3)])),
   .asg (.q [] []) 7 (.lst false []),
   .forS [2,10] [] .zip [.var 2,.var 10] [11,12] [
    .asg (.q [7,11] [12]) 7 (.op .add false [.var 7,.op .mul false [.lst false [.var 11],.var 12]])],
   .ret [] (.tup [.mv 7,.call 18 [.mv 1,.mv 3,.mv 10]])] [],
  .asg (.l []) 13 (.call 20 [.io 0,.op .add false [.var 5,.cst (.int 1)]]),
  .ret [] (.tup [.op .sl2 false [.mv 2,.var 13],.call 19 [.mv 1,.mv 3,.var 13]])] }
def mi:Fn:={ ps:=1,ns:=9,io:=[],body:=[
  .asg (.q [0] []) 1 (.lst true [.op .list true [.op .sl2 true [.var 0,.cst (.int 63)]],.cst (.int 0),.cst (.int 0),.cst (.int 0)]),
  .asg (.l []) 2 (.call 22 [.io 1,.op .add false [.cst (.int 1),.call 20 [.io 1,.cst (.int 4)]]]),
  .asg (.l [2]) 3 (.comp false .rng [.op .add false [.cst (.int 1),.call 20 [.io 1,.cst (.int 4)]]] [9] none (.call 23 [.io 1,.var 2,.cst (.bl true)])),
  .asg (.q [2,3] []) 4 (.call 6 [.var 2,.var 3]),
  .asg (.q [3,4] []) 5 (.lst false [.tup [.var 3,.var 4]]),
  .forS [0] [] .rng [.op .min false [.cst (.int 12),.op .add false [.cst (.int 2),.op .len false [.var 0]]]] [6] [
   .asgT (.l [2,3,4]) [3,4] (.call 27 [.io 1,.var 2,.var 3,.var 4]),
   .asg (.q [3] []) 3 (.op .sl2 false [.var 3,.cst (.int 10)]),
   .asg (.q [2,3,4] []) 4 (.call 19 [.var 2,.var 4,.op .len false [.var 3]]),
   .ite (.q [2,3,4] []) (.not (.call 24 [.call 6 [.var 2,.var 3],.var 4])) [
    .ret [] (.cst (.bl false))] [],
   .ite (.q [2,3,4] []) (.op .isnB false [.call 8 [.var 2,.var 4,.op .len false [.var 3]],.cst (.bl true)]) [
    .ret [] (.cst (.bl false))] [],
   .ite (.q [2,3,4] []) (.op .ne false [.call 11 [.var 2,.var 4],.op .len false [.var 3]]) [
    .ret [] (.cst (.bl false))] [],
   .ite (.q [2,3,4] []) (.not (.call 24 [.var 3,.call 7 [.var 2,.var 4,.op .len false [.var 3]]])) [
    .ret [] (.cst (.bl false))] [],
   .app (.q [3,4] []) 5 (.tup [.var 3,.var 4])],
  .forS [5] [] .sq2 [.var 5] [7,8] [
   .ite (.q [2,7,8] []) (.not (.call 24 [.call 6 [.var 2,.var 7],.var 8])) [
    .ret [] (.cst (.bl false))] []],
  .ret [] (.cst (.bl true))] }
def prog:List Fn:=[mi,nh,bz,bI,zf,zf,a6,aP,a7,bH,aZ,a4,ek,aF,bJ,bN,f7,dm,dD,aM,aT,bj,b5,aA,aw,bZ,bG,b0]
end A38

set_option compiler.extract_closed false
set_option linter.all false
set_option maxRecDepth 100000
set_option maxHeartbeats 4000000
namespace P38
open M A38
open PySem (Str)
local macro_rules
 | `(tactic| simp_all only [$ls,*])=>`(tactic| simp only [wd,yB,yh,xV,yX,wD,yM,rA,tK,uy,t6,rH,uz,rR,uI,tM,uG,u7,uf,uP,su,uX,tX,rM,tH,uC,uv,rZ,uK,sE,uu,oJ,oA,tZ,ua,tO,uF,kTup,qw,kOp,mM,kOr,qK,kC3,kC2,kC1,kBack,kCall,fm,bK,dU,ji,eM,jH,nH,kCons,aU,kX,kT,kT2,kIf,uJ,mC,pj,ot,qA,sU,kP,kNx,kRt,n5,sy,oY,okW,then',rk,meets,aK,ak,ios,putAll,xg,BQ,yy,wQ,zg,rQ,uo,uO,xW,zp,yK,yP,wu,yc,xm,Bm,Bn,zU,AA,Ar,Ah,tI,t9,uA,tq,AW,yb,pE,qy,qL,oF,wF,t7,rB,pK,oW,Ad,Bq,zV,AM,pF,qZ,oT,zj,y8,xO,xM,wM,zo,xH,yS,sJ,tj,uU,xa,qq,qi,pV,Be,rn,n9,vh,Bg,ye,x5,xn,yV,wK,wC,B6,BM,CN,Cv,Ak,Bs,xc,yp,yk,AI,Bk,zl,Av,uH,vV,A9,sN,tJ,AE,Bl,yC,wX,zc,yZ,pb,qH,oK,Ac,qu,qY,rC,ve,sR,tV,xQ,yn,xG,q8,ey,nR,mQ,mI,yz,yw,xK,wj,yx,x3,yF,yi,zS,pf,pP,wy,w8,at0,at1,at2,at3,at4,List.cons_append,List.nil_append,List.append_nil,List.map_cons,List.map_nil,List.replicate_succ,List.replicate_zero,reduceIte,if_true,if_false,String.reduceBEq,Bool.not_true,Bool.not_false,Bool.false_eq_true,Bool.and_self,Bool.true_and,Bool.and_true,tS,kIo,xX,zi,nO,oH,mS,m9,m6,pD,m7,ou,mU,m5,j2,lz,kG,ng,xY,kI,kB,kR,oS,kY,qM,xt,wg,Bw,zC,uS,rY,wz,xZ,zH,zT,Co,Bp,AJ,Bb,zN,Al,AZ,BZ,AB,zE,zK,Ay,zt,AV,Aj,Ab,Ct,Cq,B8,xk,ux,xf,$ls,*])
abbrev C (n:Nat):Call:=callR prog 1000000 1 n
theorem lB (n:Nat) (ws:List W):C (n + 1) 1 ws = rowsW ws:=rfl
theorem fh (n:Nat) (ws:List W):C (n + 1) 2 ws = runF (C n) bz ws:=rfl
theorem i9 (n:Nat) (ws:List W):C (n + 1) 3 ws = runF (C n) bI ws:=rfl
theorem cP (n:Nat) (ws:List W):C (n + 1) 6 ws = runF (C n) a6 ws:=rfl
theorem bP (n:Nat) (ws:List W):C (n + 1) 7 ws = runF (C n) aP ws:=rfl
theorem cI (n:Nat) (ws:List W):C (n + 1) 8 ws = runF (C n) a7 ws:=rfl
theorem iL (n:Nat) (ws:List W):C (n + 1) 9 ws = runF (C n) bH ws:=rfl
theorem gm (n:Nat) (ws:List W):C (n + 1) 10 ws = runF (C n) aZ ws:=rfl
theorem cQ (n:Nat) (ws:List W):C (n + 1) 11 ws = runF (C n) a4 ws:=rfl
theorem oo (n:Nat) (ws:List W):C (n + 1) 12 ws = runF (C n) ek ws:=rfl
theorem bg (n:Nat) (ws:List W):C (n + 1) 13 ws = runF (C n) aF ws:=rfl
theorem i4 (n:Nat) (ws:List W):C (n + 1) 14 ws = runF (C n) bJ ws:=rfl
theorem dQ (n:Nat) (ws:List W):C (n + 1) 15 ws = runF (C n) bN ws:=rfl
theorem uR (n:Nat) (ws:List W):C (n + 1) 16 ws = runF (C n) f7 ws:=rfl
theorem nV (n:Nat) (ws:List W):C (n + 1) 17 ws = runF (C n) dm ws:=rfl
theorem nD (n:Nat) (ws:List W):C (n + 1) 18 ws = runF (C n) dD ws:=rfl
theorem bE (n:Nat) (ws:List W):C (n + 1) 19 ws = runF (C n) aM ws:=rfl
theorem fq (n:Nat) (ws:List W):C (n + 1) 20 ws = runF (C n) aT ws:=rfl
theorem gE (n:Nat) (ws:List W):C (n + 1) 21 ws = runF (C n) bj ws:=rfl
theorem jm (n:Nat) (ws:List W):C (n + 1) 22 ws = runF (C n) b5 ws:=rfl
theorem bS (n:Nat) (ws:List W):C (n + 1) 23 ws = runF (C n) aA ws:=rfl
theorem eB (n:Nat) (ws:List W):C (n + 1) 24 ws = runF (C n) aw ws:=rfl
theorem jS (n:Nat) (ws:List W):C (n + 1) 25 ws = runF (C n) bZ ws:=rfl
theorem i0 (n:Nat) (ws:List W):C (n + 1) 26 ws = runF (C n) bG ws:=rfl
theorem jO (n:Nat) (ws:List W):C (n + 1) 27 ws = runF (C n) b0 ws:=rfl
def tape (ns:List Int) (x y z:Int):T:=.lst [.lst (ns.map T.int),.int x,.int y,.int z]
theorem qeq (a b:String):(q a == q b) = (a == b):=by
 by_cases h:a = b
 ·subst h; simp
 ·have h2:q a ≠ q b:=fun z=>h (by
   have:=congrArg (fun s:Str=>s.cps.toList) z
   rw [q,Str.ofString_eq_toList,Str.ofString_eq_toList] at this
   simp only at this
   have h3:a.toList = b.toList:=by
    have inj:∀ l1 l2:List Char,l1.map Char.toNat = l2.map Char.toNat -> l1 = l2:=by
     intro l1
     induction l1 with
     | nil=>intro l2 h; cases l2 with
      | nil=>rfl
      | cons=>cases h
     | cons c cs ih=>intro l2 h; cases l2 with
      | nil=>cases h
      | cons d ds =>
       rw [List.map_cons,List.map_cons] at h
       injection h with h1 h2
       rw [ih ds h2,Char.toNat_inj.mp h1]
    exact inj _ _ (by simpa using this)
   exact String.toList_inj.mp h3)
  rw [beq_eq_false_iff_ne.mpr h2,beq_eq_false_iff_ne.mpr h]
theorem vX {α:Type} (a b c d:α):ixN [a,b,c,d].length 1 = some 1:=rfl
theorem vY {α:Type} (a b c d:α):ixN [a,b,c,d].length 2 = some 2:=rfl
theorem yT {α:Type} (a b c d:α):ixN [a,b,c,d].length 3 = some 3:=rfl
theorem pJ (D:Call) (ns:List Int) (x y z:Int) (m:Md) (k:Int) (hz:0 < z) (hk:0 < k) (hk2:k < 1073741824) :
  runF D aT [(.d,tape ns x y z),(m,.int k)] = .ok ((.d,.int (y % k)),[(.d,tape ns x (y / k) (z - 1))]):=by
 rw [x_run _ _ _ rfl]
 simp_all only [aT,tape,decide_eq_true hz,decide_eq_true hk,decide_eq_true hk2,vX,vY,yT,List.set_cons_zero,List.set_cons_succ]
theorem zM {ns:List Int} {x:Int} (hx:0 <= x) (hn:ns ≠ []):∃ c,atI (ns.map T.int) (x % (ns.length:Int)) = some (.int c):=by
 have hl:0 < ns.length:=List.length_pos_iff.mpr hn
 have h1:0 <= x % (ns.length:Int):=Int.emod_nonneg _ (by omega)
 have h2:x % (ns.length:Int) < ns.length:=Int.emod_lt_of_pos _ (by omega)
 obtain ⟨j,hj⟩:∃ j:Nat,x % (ns.length:Int) = j:=⟨_,(Int.toNat_of_nonneg h1).symm⟩
 have hj':j < ns.length:=by omega
 exact ⟨ns[j],atN hj (by rw [List.getElem?_map,List.getElem?_eq_getElem hj']; rfl)⟩
theorem f9:oSem .pow false [(.d,.int 10),(.d,.int 18)] = some (.d,.int 1000000000000000000):=rfl
theorem wU (D:Call) (ns:List Int) (x:Nat) (y z:Int) (m:Md) (k:Int) (hz:z <= 0) (hk:0 < k) (hk2:k < 1073741824) (hx:x < 1000000000000000000)
  (hD:∀ y',D 20 [(.d,tape ns (x + 1) y' 40),(m,.int k)] = .ok ((.d,.int (y' % k)),[(.d,tape ns (x + 1) (y' / k) 39)])) :
  ∃ r x' y' z',0 <= r /\ r < k /\ x' <= x + 1 /\ runF D aT [(.d,tape ns x y z),(m,.int k)] = .ok ((.d,.int r),[(.d,tape ns ((x':Nat):Int) y' z')]):=by
 have hz':decide (0 < z) = false:=decide_eq_false (by omega)
 have hm:∀ a:Int,0 <= a % k /\ a % k < k:=fun a=>⟨Int.emod_nonneg _ (by omega),Int.emod_lt_of_pos _ hk⟩
 rw [x_run _ _ _ rfl]
 simp_all only [aT,tape,hz',decide_eq_true hk,decide_eq_true hk2,vX,vY,yT,List.set_cons_zero,List.set_cons_succ,f9]
 generalize hE:onF _ _ _ _ = e
 obtain ⟨c,rfl⟩:∃ c:Int,e = .nx [some (Md.d,T.lst [T.lst (List.map T.int ns),T.int (x + 1),T.int y,T.int z]),some (m,T.int k),none,some (Md.d,T.int x),some (Md.d,T.int c),none]:=by
  rw [<- hE]
  by_cases hn:ns = []
  ·subst hn
   exact ⟨0,rfl⟩
  ·obtain ⟨c,hc⟩:=zM (x:=(x:Int)) (by omega) hn
   have hp:decide (0 < ((List.map T.int ns).length:Int)) = true:=decide_eq_true (by rw [List.length_map]; have:=List.length_pos_iff.mpr hn; omega)
   refine ⟨c,?_⟩
   rw [<- List.length_map (f:=T.int)] at hc
   simp_all only [hp,hc]
 have xb:decide ((x:Int).natAbs < 18446744073709551616) = true:=decide_eq_true (by omega)
 have cb:decide ((c % 999983 + 3).natAbs < 18446744073709551616) = true:=decide_eq_true (by omega)
 have nb:∀ a:Int,decide ((a % 1000003).natAbs < 18446744073709551616) = true:=fun a=>decide_eq_true (by omega)
 have b61:decide ((61:Int).natAbs < 18446744073709551616) = true:=rfl
 have b131:decide ((131:Int).natAbs < 18446744073709551616) = true:=rfl
 have d1:decide ((0:Int) < 999983) = true:=rfl
 have d2:decide ((0:Int) < 10007) = true:=rfl
 have d3:decide ((0:Int) < 1000003) = true:=rfl
 have d4:decide ((0:Int) < 999979) = true:=rfl
 have d5:decide ((0:Int) < 3) = true:=rfl
 have d6:decide ((3:Int) < 1073741824) = true:=rfl
 have d7:decide ((0:Int) < 99991) = true:=rfl
 cases h1:decide ((x:Int) < ((List.map T.int ns).length:Int)) with
 | false =>
  simp_all only [h1,decide_eq_true hk,decide_eq_true hk2,f9,xb,cb,nb,b61,b131,d1,d2,d3,d4,d5,d6,d7,Bool.true_or]
  exact ⟨_,x + 1,y,z,(hm _).1,(hm _).2,Nat.le_refl _,rfl⟩
 | true =>
  cases h2:decide (1000000000000000000 <= c) with
  | false =>
   simp_all only [h1,h2,decide_eq_true hk,decide_eq_true hk2,f9,xb,cb,nb,b61,b131,d1,d2,d3,d4,d5,d6,d7,Bool.true_or]
   exact ⟨_,x + 1,y,z,(hm _).1,(hm _).2,Nat.le_refl _,rfl⟩
  | true =>
   have hD':=hD (c - 1000000000000000000)
   unfold tape at hD'
   simp_all only [h1,h2,f9,vX,vY,yT,List.set_cons_zero,List.set_cons_succ]
   simp_all only [hD']
   exact ⟨_,x + 1,_,_,(hm _).1,(hm _).2,Nat.le_refl _,rfl⟩
def Tp (N:Nat) (t:T):Prop:=∃ ns x y z,t = tape ns ((x:Nat):Int) y z /\ x <= N
theorem cV {n N:Nat} {t:T} (m:Md) (k:Int) (ht:Tp N t) (hN:N < 1000000000000000000) (hk:0 < k) (hk2:k < 1073741824) :
  ∃ r t',0 <= r /\ r < k /\ Tp (N + 1) t' /\ C (n + 2) 20 [(.d,t),(m,.int k)] = .ok ((.d,.int r),[(.d,t')]):=by
 obtain ⟨ns,x,y,z,rfl,hx⟩:=ht
 rw [fq]
 by_cases hz:0 < z
 ·exact ⟨_,_,Int.emod_nonneg _ (by omega),Int.emod_lt_of_pos _ hk,⟨ns,x,_,_,rfl,by omega⟩,pJ (C (n + 1)) ns x y z m k hz hk hk2⟩
 ·obtain ⟨r,x',y',z',h1,h2,h3,h4⟩:=wU (C (n + 1)) ns x y z m k (by omega) hk hk2 (by omega) fun y'=>by rw [fq,pJ (C n) ns (x + 1) y' 40 m k (by decide) hk hk2]; rfl
  exact ⟨r,_,h1,h2,⟨ns,x',y',z',rfl,by omega⟩,h4⟩
theorem p6:oSem .pow false [(.d,.int 10),(.d,.int 6)] = some (.d,.int 1000000):=rfl
theorem p12:oSem .pow false [(.d,.int 10),(.d,.int 12)] = some (.d,.int 1000000000000):=rfl
theorem at5 {α:Type} (a b c d e:α) (r:Int) (h0:0 <= r) (h1:r < 5):∃ x,atI [a,b,c,d,e] r = some x /\ x ∈ [a,b,c,d,e]:=by
 have:r = 0 \/ r = 1 \/ r = 2 \/ r = 3 \/ r = 4:=by omega
 rcases this with rfl | rfl | rfl | rfl | rfl
 ·exact ⟨a,rfl,by simp⟩
 ·exact ⟨b,rfl,by simp⟩
 ·exact ⟨c,rfl,by simp⟩
 ·exact ⟨d,rfl,by simp⟩
 ·exact ⟨e,rfl,by simp⟩
theorem tm {a b:Nat} {t:T} (h:Tp a t) (h2:a <= b):Tp b t:=by obtain ⟨ns,x,y,z,e,h⟩:=h; exact ⟨ns,x,y,z,e,by omega⟩
theorem number {n N:Nat} {t:T} (ht:Tp N t) (hN:N + 5 < 1000000000000000000) :
  ∃ md i t',i.natAbs <= 1000000000000000000 /\ Tp (N + 5) t' /\ C (n + 3) 21 [(.d,t)] = .ok ((md,.int i),[(.d,t')]):=by
 rw [gE]
 obtain ⟨r,t1,r0,r1,ht1,e1⟩:=cV (n:=n) .d 6 ht (by omega) (by decide) (by decide)
 rw [x_run _ _ _ rfl]
 simp_all only [bj,e1]
 cases h1:decide (r < 4) with
 | true =>
  obtain ⟨r2,t2,_,_,ht2,e2⟩:=cV (n:=n) .d 19 ht1 (by omega) (by decide) (by decide)
  simp_all only [h1,e2]
  exact ⟨_,_,_,by omega,tm ht2 (by omega),rfl⟩
 | false =>
  cases h2:r == 4 with
  | true =>
   obtain ⟨r2,t2,r20,r21,ht2,e2⟩:=cV (n:=n) .d 5 ht1 (by omega) (by decide) (by decide)
   obtain ⟨x,hx,hm⟩:=at5 (T.int 1000000000000000000) (.int (0 - 1000000000000000000)) (.int (1000000000000000000 - 1)) (.int (1 - 1000000000000000000)) (.int 0) r2 r20 r21
   obtain ⟨i,hi,rfl⟩:∃ i:Int,i.natAbs <= 1000000000000000000 /\ x = T.int i:=by
    simp only [List.mem_cons,List.not_mem_nil,or_false] at hm
    rcases hm with e | e | e | e | e <;> exact ⟨_,by decide,e⟩
   simp_all only [h1,h2,e2,f9,hx]
   exact ⟨_,_,_,hi,tm ht2 (by omega),rfl⟩
  | false =>
   obtain ⟨r2,t2,_,_,ht2,e2⟩:=cV (n:=n) .d 1000000 ht1 (by omega) (by decide) (by decide)
   obtain ⟨r3,t3,_,_,ht3,e3⟩:=cV (n:=n) .d 1000000 ht2 (by omega) (by decide) (by decide)
   obtain ⟨r4,t4,_,_,ht4,e4⟩:=cV (n:=n) .d 1000000 ht3 (by omega) (by decide) (by decide)
   obtain ⟨r5,t5,_,_,ht5,e5⟩:=cV (n:=n) .d 2 ht4 (by omega) (by decide) (by decide)
   have b12:decide ((1000000000000:Int).natAbs < 18446744073709551616) = true:=rfl
   have b6:decide ((1000000:Int).natAbs < 18446744073709551616) = true:=rfl
   have b2:decide ((2:Int).natAbs < 18446744073709551616) = true:=rfl
   have b1:decide ((1 - 2 * r5).natAbs < 18446744073709551616) = true:=decide_eq_true (by omega)
   simp_all only [h1,h2,e2,e3,e4,e5,p6,p12,b12,b6,b2,b1,Bool.true_or,Bool.or_true]
   exact ⟨_,_,_,by rcases (show r5 = 0 \/ r5 = 1 by omega) with rfl | rfl <;> omega,tm ht5 (by omega),rfl⟩
inductive Kd where | num | truth | pair (a b:Kd) | row (a:Kd)
def Kd.th:Kd -> T
 | .num=>.tup [.str (q "num")]
 | .truth=>.tup [.str (q "truth")]
 | .pair a b=>.tup [.str (q "pair"),a.th,b.th]
 | .row a=>.tup [.str (q "row"),a.th]
def Kd.deep:Kd -> Nat
 | .num=>0 | .truth=>0 | .pair a b=>max a.deep b.deep + 1 | .row a=>a.deep + 1
def kb:Nat -> Nat
 | 0=>1
 | l + 1=>2 * kb l + 1
theorem CK {α:Type} (a b:α) (r:Int) (h0:0 <= r) (h1:r < 2):atI [a,b] r = some a \/ atI [a,b] r = some b:=by
 have:r = 0 \/ r = 1:=by omega
 rcases this with rfl | rfl
 ·exact .inl rfl
 ·exact .inr rfl
theorem d02:decide ((0:Int) < 2) = true:=rfl
theorem kind (n:Nat):∀ (l:Nat) {N:Nat} {t:T},Tp N t -> N + kb l < 1000000000000000000 -> 1 <= l ->
  ∃ (md:Md) (k:Kd) (t':T),k.deep < l /\ Tp (N + kb l) t' /\ C (n + l + 2) 22 [(.d,t),(.d,.int l)] = .ok ((md,k.th),[(.d,t')])
 | 0,_,_,_,_,h=>by omega
 | l + 1,N,t,ht,hN,_=>by
  have hb:kb (l + 1) = 2 * kb l + 1:=rfl
  rw [show n + (l + 1) + 2 = (n + l + 2) + 1 by omega,jm]
  obtain ⟨r,t1,r0,r1,ht1,e1⟩:=cV (n:=n + l) .d 6 ht (by omega) (by decide) (by decide)
  rw [x_run _ _ _ rfl]
  simp_all only [b5,e1]
  have leafy:∃ k:Kd,k.deep = 0 /\ (atI [T.tup [T.str (q "num")],T.tup [T.str (q "truth")]] (r % 2)) = some k.th:=by
   rcases CK (T.tup [T.str (q "num")]) (T.tup [T.str (q "truth")]) (r % 2) (by omega) (by omega) with h | h
   ·exact ⟨.num,rfl,h⟩
   ·exact ⟨.truth,rfl,h⟩
  obtain ⟨k0,hk0,ek0⟩:=leafy
  cases h1:(((l + 1:Nat):Int) == 1) with
  | true =>
   simp_all only [h1,d02,ek0]
   exact ⟨_,k0,_,by omega,tm ht1 (by omega),rfl⟩
  | false =>
   have hl:1 <= l:=by
    have:=beq_eq_false_iff_ne.mp h1
    omega
   cases h2:decide (r < 2) with
   | true =>
    simp_all only [h1,h2,d02,ek0]
    exact ⟨_,k0,_,by omega,tm ht1 (by omega),rfl⟩
   | false =>
    have el:((l + 1:Nat):Int) - 1 = (l:Int):=by omega
    cases h3:decide (r < 4) with
    | true =>
     obtain ⟨m1,k1,t2,d1,ht2,e2⟩:=kind n l ht1 (by omega) hl
     obtain ⟨m2,k2,t3,d2,ht3,e3⟩:=kind n l ht2 (by omega) hl
     simp_all only [h1,h2,h3,el,e2,e3]
     exact ⟨_,.pair k1 k2,_,by show max k1.deep k2.deep + 1 < l + 1; omega,tm ht3 (by omega),rfl⟩
    | false =>
     obtain ⟨m1,k1,t2,d1,ht2,e2⟩:=kind n l ht1 (by omega) hl
     simp_all only [h1,h2,h3,el,e2]
     exact ⟨_,.row k1,_,by show k1.deep + 1 < l + 1; omega,tm ht2 (by omega),rfl⟩
def OfK:Kd -> T -> Prop
 | .num,t=>∃ i:Int,t = .int i /\ i.natAbs <= 1000000000000000000
 | .truth,t=>∃ b,t = .bl b
 | .pair a b,t=>∃ x y,t = .tup [x,y] /\ OfK a x /\ OfK b y
 | .row a,t=>∃ ts,t = .lst ts /\ ts.length <= 200 /\ ∀ u ∈ ts,OfK a u
mutual
def sz:T -> Nat
 | .tup ts=>szs ts + 1
 | .lst ts=>szs ts + 1
 | _=>1
def szs:List T -> Nat
 | []=>0
 | t :: ts=>sz t + szs ts
end
def B:Nat -> Nat
 | 0=>1
 | d + 1=>3 * B d + 201
def D:Nat -> Nat
 | 0=>5
 | d + 1=>3 * D d + 1003
theorem iA:∀ {a b:Nat},a <= b -> B a <= B b
 | _,0,h=>by cases Nat.le_zero.mp h; exact Nat.le_refl _
 | a,b + 1,h=>by
  by_cases e:a = b + 1
  ·rw [e]; exact Nat.le_refl _
  ·have:=iA (a:=a) (b:=b) (by omega)
   have e2:B (b + 1) = 3 * B b + 201:=rfl
   omega
theorem gu:∀ {a b:Nat},a <= b -> D a <= D b
 | _,0,h=>by cases Nat.le_zero.mp h; exact Nat.le_refl _
 | a,b + 1,h=>by
  by_cases e:a = b + 1
  ·rw [e]; exact Nat.le_refl _
  ·have:=gu (a:=a) (b:=b) (by omega)
   have e2:D (b + 1) = 3 * D b + 1003:=rfl
   omega
theorem pB {b:Nat}:∀ {ws:List W},(∀ w ∈ ws,sz w.2 <= b) -> szs (aK ws) <= ws.length * b
 | [],_=>Nat.zero_le _
 | w :: ws,h=>by
  have h1:=h w List.mem_cons_self
  have h2:=pB fun v hv=>h v (List.mem_cons_of_mem _ hv)
  show sz w.2 + szs (aK ws) <= _
  rw [List.length_cons,Nat.succ_mul]; omega
theorem xh {w:W} (h:lf w.1 w.2 = .d):okD w = true:=by
 unfold lf at h
 unfold okD
 split at h
 ·rename_i hl; rw [hl,Bool.or_true]
 ·rw [h]; rfl
theorem eV:∀ {ws:List W} {t:T},t ∈ aK ws -> ∃ w ∈ ws,w.2 = t
 | w :: ws,t,h=>by
  rcases List.mem_cons.mp (show t ∈ w.2 :: aK ws from h) with e | e
  ·exact ⟨w,List.mem_cons_self,e.symm⟩
  ·obtain ⟨v,hv,e2⟩:=eV e
   exact ⟨v,List.mem_cons_of_mem _ hv,e2⟩
theorem eX:∀ ws:List W,(aK ws).length = ws.length
 | []=>rfl
 | w :: ws=>by show (aK ws).length + 1 = ws.length + 1; rw [eX ws]
theorem xB:∀ a:Kd,∃ l,a.th = .tup l /\ (l.length = 1 -> a.deep = 0)
 | .num=>⟨_,rfl,fun _=>rfl⟩
 | .truth=>⟨_,rfl,fun _=>rfl⟩
 | .pair a b=>⟨_,rfl,fun h=>by cases h⟩
 | .row a=>⟨_,rfl,fun h=>by cases h⟩
theorem rf {F:Call} {a:Kd} {o2 o3 o4:Option W} {N:Nat} {t:T} {x:T} (ht:Tp N t) (mm:Nat) (hN:N + mm * D a.deep < 1000000000000000000)
  (ih:∀ N t,Tp N t -> N + D a.deep < 1000000000000000000 -> ∃ md w t',OfK a w /\ sz w <= B a.deep /\ lf md w = .d /\ Tp (N + D a.deep) t' /\ F 23 [(.d,t),(.s,a.th),(.d,.bl false)] = .ok ((md,w),[(.d,t')])) :
  ∃ ws t',ws.length = mm /\ (∀ w ∈ ws,OfK a w.2 /\ sz w.2 <= B a.deep /\ lf w.1 w.2 = .d) /\ Tp (N + mm * D a.deep) t' /\
   aD [5] (bK (evE F (.call 23 [.io 0,.op .ix false [.var 1,.cst (.int 1)],.cst (.bl false)]))) ((List.range mm).map fun (k:Nat)=>[((.d,.int k):W)]) [some (.d,t),some (.s,.tup [x,a.th]),o2,o3,o4,none] [] = .ok (ws,[some (.d,t'),some (.s,.tup [x,a.th]),o2,o3,o4,none]):=by
 obtain ⟨ws,η',e,t',rfl,ht',hl,hw⟩:=hW (tg:=[5]) (f:=bK (evE F (.call 23 [.io 0,.op .ix false [.var 1,.cst (.int 1)],.cst (.bl false)]))) (g:=fun (k:Nat)=>[((.d,.int k):W)])
  (fun pre η acc=>∃ t',η = [some (.d,t'),some (.s,.tup [x,a.th]),o2,o3,o4,none] /\ Tp (N + pre.length * D a.deep) t' /\ acc.length = pre.length /\ ∀ w ∈ acc,OfK a w.2 /\ sz w.2 <= B a.deep /\ lf w.1 w.2 = .d)
  (List.range mm) [] [some (.d,t),some (.s,.tup [x,a.th]),o2,o3,o4,none] [] ⟨t,rfl,by simpa using ht,rfl,fun _ h=>nomatch h⟩ (fun p k r η acc hp ⟨t',he,ht',hl,hw⟩=>by
   subst he
   have hpl:p.length + 1 <= mm:=by
    have:=congrArg List.length hp
    simp at this; omega
   have hmul:p.length * D a.deep + D a.deep <= mm * D a.deep:=by
    rw [<- Nat.succ_mul]; exact Nat.mul_le_mul_right _ hpl
   obtain ⟨md,w,t2,h1,h2,h3,h4,h5⟩:=ih _ _ ht' (by omega)
   refine ⟨_,some (md,w),[some (.d,t2),some (.s,.tup [x,a.th]),o2,o3,o4,some (.d,.int k)],rfl,?_,t2,rfl,?_,?_,?_⟩
   ·simp_all only [h5]
   ·rw [List.length_append,List.length_singleton,Nat.succ_mul]; exact tm h4 (by omega)
   ·rw [List.length_append,List.length_append,hl]; rfl
   ·intro v hv
    rcases List.mem_append.mp hv with e | e
    ·exact hw v e
    ·rw [List.mem_singleton.mp e]; exact ⟨h1,h2,h3⟩)
 refine ⟨ws,t',?_,hw,?_,e⟩
 ·rw [hl]; simp
 ·simpa using ht'
theorem worth:∀ (k:Kd) (n:Nat) (lg:Bool) (m:Md) {N:Nat} {t:T},Tp N t -> N + D k.deep < 1000000000000000000 ->
  ∃ (md:Md) (w:T) (t':T),OfK k w /\ sz w <= B k.deep /\ lf md w = .d /\ Tp (N + D k.deep) t' /\ C (n + k.deep + 4) 23 [(.d,t),(m,k.th),(.d,.bl lg)] = .ok ((md,w),[(.d,t')])
 | .num,n,lg,m,N,t,ht,hN=>by
  obtain ⟨md,i,t1,hi,ht1,e1⟩:=number (n:=n) ht hN
  rw [show n + Kd.num.deep + 4 = (n + 3) + 1 from rfl,bS,x_run _ _ _ rfl]
  simp_all only [aA,Kd.th,qeq,e1]
  exact ⟨_,_,_,⟨i,rfl,hi⟩,Nat.le_refl _,rfl,ht1,rfl⟩
 | .truth,n,lg,m,N,t,ht,hN=>by
  obtain ⟨r,t1,_,_,ht1,e1⟩:=cV (n:=n + 1) .d 2 ht (by have:D Kd.truth.deep = 5:=rfl; omega) (by decide) (by decide)
  rw [show n + Kd.truth.deep + 4 = (n + 3) + 1 from rfl,bS,x_run _ _ _ rfl]
  simp_all only [aA,Kd.th,qeq,e1]
  exact ⟨_,_,_,⟨_,rfl⟩,Nat.le_refl _,rfl,tm ht1 (by have:D Kd.truth.deep = 5:=rfl; omega),rfl⟩
 | .pair a b,n,lg,m,N,t,ht,hN=>by
  have hd:(Kd.pair a b).deep = max a.deep b.deep + 1:=rfl
  have hD:D (Kd.pair a b).deep = 3 * D (max a.deep b.deep) + 1003:=rfl
  have hB:B (Kd.pair a b).deep = 3 * B (max a.deep b.deep) + 201:=rfl
  have da:=gu (a:=a.deep) (b:=max a.deep b.deep) (by omega)
  have db:=gu (a:=b.deep) (b:=max a.deep b.deep) (by omega)
  have ba:=iA (a:=a.deep) (b:=max a.deep b.deep) (by omega)
  have bb:=iA (a:=b.deep) (b:=max a.deep b.deep) (by omega)
  obtain ⟨m1,w1,t1,o1,s1,l1,ht1,e1⟩:=worth a (n + (max a.deep b.deep - a.deep)) lg .s ht (by omega)
  obtain ⟨m2,w2,t2,o2,s2,l2,ht2,e2⟩:=worth b (n + (max a.deep b.deep - b.deep)) lg (.s) ht1 (by omega)
  rw [show n + (max a.deep b.deep - a.deep) + a.deep + 4 = n + max a.deep b.deep + 4 by omega] at e1
  rw [show n + (max a.deep b.deep - b.deep) + b.deep + 4 = n + max a.deep b.deep + 4 by omega] at e2
  rw [show n + (Kd.pair a b).deep + 4 = (n + max a.deep b.deep + 4) + 1 by omega,bS,x_run _ _ _ rfl]
  simp_all only [aA,Kd.th,qeq,e1,e2,l1,l2]
  refine ⟨_,_,_,⟨w1,w2,rfl,o1,o2⟩,?_,rfl,tm ht2 (by omega),rfl⟩
  show sz w1 + (sz w2 + 0) + 1 <= _
  omega
 | .row a,n,lg,m,N,t,ht,hN=>by
  have hd:(Kd.row a).deep = a.deep + 1:=rfl
  have hD:D (Kd.row a).deep = 3 * D a.deep + 1003:=rfl
  have hB:B (Kd.row a).deep = 3 * B a.deep + 201:=rfl
  obtain ⟨l,hl,hl1⟩:=xB a
  obtain ⟨r,t1,r0,r1,ht1,e1⟩:=cV (n:=n + a.deep + 2) .d 4 ht (by omega) (by decide) (by decide)
  have ih:∀ N t,Tp N t -> N + D a.deep < 1000000000000000000 -> ∃ md w t',OfK a w /\ sz w <= B a.deep /\ lf md w = .d /\ Tp (N + D a.deep) t' /\ C (n + a.deep + 4) 23 [(.d,t),(.s,a.th),(.d,.bl false)] = .ok ((md,w),[(.d,t')]):=fun N t h1 h2=>worth a n false .s h1 h2
  have key:∀ (mm:Int) (N2:Nat) (t2:T),Tp N2 t2 -> N2 <= N + 3 -> 0 <= mm -> (mm <= 3 \/ (a.deep = 0 /\ mm <= 200)) -> ∃ ws t3,decide (mm.natAbs < 4611686018427387904) = true /\ fits mm.toNat = true /\ ws.all okD = true /\
    OfK (.row a) (.lst (aK ws)) /\ sz (.lst (aK ws)) <= B (Kd.row a).deep /\ Tp (N + D (Kd.row a).deep) t3 /\
    aD [5] (bK (evE (C (n + a.deep + 4)) (.call 23 [.io 0,.op .ix false [.var 1,.cst (.int 1)],.cst (.bl false)]))) ((List.range mm.toNat).map fun (k:Nat)=>[((.d,.int k):W)]) [some (.d,t2),some (.s,.tup [.str (q "row"),.tup l]),some (.d,.bl lg),none,none,none] [] = .ok (ws,[some (.d,t3),some (.s,.tup [.str (q "row"),.tup l]),some (.d,.bl lg),none,none,none]):=by
   intro mm N2 t2 ht2 hN2 h0 hm
   have hmn:mm.toNat <= 3 \/ (a.deep = 0 /\ mm.toNat <= 200):=hm.imp (by omega) fun h=>⟨h.1,by omega⟩
   have hD2:mm.toNat * D a.deep <= 3 * D a.deep + 1000:=by
    rcases hmn with h | ⟨h,h'⟩
    ·have:=Nat.mul_le_mul_right (D a.deep) h; omega
    ·rw [h]; have:D 0 = 5:=rfl; rw [this]; omega
   have hB2:mm.toNat * B a.deep <= 3 * B a.deep + 200:=by
    rcases hmn with h | ⟨h,h'⟩
    ·have:=Nat.mul_le_mul_right (B a.deep) h; omega
    ·rw [h]; have:B 0 = 1:=rfl; rw [this]; omega
   obtain ⟨ws,t3,h1,h2,h3,h4⟩:=rf (F:=C (n + a.deep + 4)) (a:=a) (o2:=some (.d,.bl lg)) (o3:=none) (o4:=none) (x:=.str (q "row")) ht2 mm.toNat (by omega) ih
   rw [hl] at h4
   refine ⟨ws,t3,decide_eq_true (by omega),decide_eq_true (by show mm.toNat <= LIM; unfold LIM; omega),List.all_eq_true.mpr fun w hw=>xh (h2 w hw).2.2,⟨_,rfl,by rw [eX,h1]; rcases hmn with h | ⟨_,h⟩ <;> omega,fun u hu=>?_⟩,?_,tm h3 (by omega),h4⟩
   ·obtain ⟨w,hw,rfl⟩:=eV hu
    exact (h2 w hw).1
   ·have:=pB (b:=B a.deep) fun w hw=>(h2 w hw).2.1
    rw [h1] at this
    show szs (aK ws) + 1 <= _
    omega
  rw [show n + (Kd.row a).deep + 4 = (n + a.deep + 4) + 1 by omega,bS,x_run _ _ _ rfl]
  cases lg with
  | false =>
   obtain ⟨ws,t3,k1,k2,k3,k4,k5,k6,k7⟩:=key r (N + 1) t1 ht1 (by omega) r0 (.inl (by omega))
   simp_all only [aA,Kd.th,qeq,hl,e1,k1,k2,k3,k7]
   exact ⟨_,_,_,k4,k5,rfl,k6,rfl⟩
  | true =>
   cases h1:((l.length:Int) == 1) with
   | false =>
    obtain ⟨ws,t3,k1,k2,k3,k4,k5,k6,k7⟩:=key r (N + 1) t1 ht1 (by omega) r0 (.inl (by omega))
    simp_all only [aA,Kd.th,qeq,hl,e1,h1,k1,k2,k3,k7]
    exact ⟨_,_,_,k4,k5,rfl,k6,rfl⟩
   | true =>
    have hd0:a.deep = 0:=hl1 (by have:=beq_iff_eq.mp h1; omega)
    obtain ⟨r2,t2,r20,r21,ht2,e2⟩:=cV (n:=n + a.deep + 2) .d 32 ht1 (by omega) (by decide) (by decide)
    cases h2:(r2 == 31) with
    | false =>
     obtain ⟨ws,t3,k1,k2,k3,k4,k5,k6,k7⟩:=key r (N + 1 + 1) t2 ht2 (by omega) r0 (.inl (by omega))
     simp_all only [aA,Kd.th,qeq,hl,e1,h1,e2,h2,k1,k2,k3,k7]
     exact ⟨_,_,_,k4,k5,rfl,k6,rfl⟩
    | true =>
     obtain ⟨r3,t4,r30,r31,ht4,e4⟩:=cV (n:=n + a.deep + 2) .d 5 ht2 (by omega) (by decide) (by decide)
     obtain ⟨ws,t3,k1,k2,k3,k4,k5,k6,k7⟩:=key (196 + r3) (N + 1 + 1 + 1) t4 ht4 (by omega) (by omega) (.inr ⟨hd0,by omega⟩)
     simp_all only [aA,Kd.th,qeq,hl,e1,h1,e2,h2,e4,k1,k2,k3,k7]
     exact ⟨_,_,_,k4,k5,rfl,k6,rfl⟩
def PT:Nat -> T -> Prop
 | _,.bl _=>True
 | _,.int _=>True
 | _,.str _=>True
 | _,.non=>True
 | d + 1,.tup ts=>∀ u ∈ ts,PT d u
 | d + 1,.lst ts=>∀ u ∈ ts,PT d u
 | _,_=>False
theorem eU (m n:Md):∀ ts:List T,cU m n ts ts = ts.map fun t=>[(m,t),(n,t)]
 | []=>rfl
 | t :: ts=>by show _ :: cU m n ts ts = _ :: _; rw [eU m n ts]
theorem yL (m n:Md) (ts us:List T):turns .zip [(m,.lst ts),(n,.lst us)] = some (cU .s .s ts us):=rfl
theorem wZ (m n:Md) (ts us:List T):turns .zip [(m,.tup ts),(n,.tup us)] = some (cU .s .s ts us):=rfl
theorem bB:∀ ts:List T,aW (ts.map fun _=>T.bl true) = some (ts.map fun _=>true)
 | []=>rfl
 | _ :: ts=>by show (aW (ts.map fun _=>T.bl true)).map _ = _; rw [bB ts]; rfl
theorem cD:∀ ts:List T,(ts.map fun _=>true).all id = true
 | []=>rfl
 | _ :: ts=>by show (true && (ts.map fun _=>true).all id) = true; rw [cD ts]; rfl
theorem ax {α:Type} (f:α -> Md) (g:α -> T):∀ ts:List α,aK (ts.map fun x=>(f x,g x)) = ts.map g
 | []=>rfl
 | x :: ts=>by show g x :: aK _ = g x :: ts.map g; rw [ax f g ts]
theorem pM (ts:List T):isOne "list" (.lst ts) = true:=rfl
theorem AH (ts:List T):isOne "tuple" (.lst ts) = false:=rfl
theorem Ba (ts:List T):isOne "list" (.tup ts) = false:=rfl
theorem vp (ts:List T):isOne "tuple" (.tup ts) = true:=rfl
theorem vJ (i:Int):isOne "list" (.int i) = false:=rfl
theorem vS (i:Int):isOne "tuple" (.int i) = false:=rfl
theorem vj (b:Bool):isOne "list" (.bl b) = false:=rfl
theorem vB (b:Bool):isOne "tuple" (.bl b) = false:=rfl
theorem qS (b:Bool):isOne "bool" (.bl b) = true:=rfl
theorem pY (i:Int):isOne "bool" (.int i) = false:=rfl
theorem vq (x:Str):isOne "list" (.str x) = false:=rfl
theorem vK (x:Str):isOne "tuple" (.str x) = false:=rfl
theorem vg (x:Str):isOne "bool" (.str x) = false:=rfl
theorem vF:isOne "list" .non = false:=rfl
theorem vw:isOne "tuple" .non = false:=rfl
theorem vM:isOne "bool" .non = false:=rfl
theorem Ag (h:Bool) (m n:Md):oSem .eq h [(m,.non),(n,.non)] = some (.d,.bl true):=rfl
theorem vE (n:Nat):∀ (d:Nat) (t:T) (m m':Md),PT d t -> C (n + d + 1) 24 [(m,t),(m',t)] = .ok ((.d,.bl true),[]):=by
 intro d
 induction d with
 | zero =>
  intro t m m' h
  rw [eB,x_run _ _ _ rfl]
  cases t with
  | bl b=>simp_all only [aw,List.any_cons,List.any_nil,vj,vB,qS,Bool.or_false,Bool.or_true,beq_self_eq_true]
  | int i=>simp_all only [aw,List.any_cons,List.any_nil,vJ,vS,pY,Bool.or_false,Bool.or_true,beq_self_eq_true]
  | str x=>simp_all only [aw,List.any_cons,List.any_nil,vq,vK,vg,Bool.or_false,Bool.or_true,beq_self_eq_true]
  | non=>simp_all only [aw,List.any_cons,List.any_nil,vF,vw,vM,Bool.or_false,Bool.or_true,beq_self_eq_true,Ag]
  | _=>exact h.elim
 | succ d ih =>
  intro t m m' h
  rw [show n + (d + 1) + 1 = (n + d + 1) + 1 by omega,eB,x_run _ _ _ rfl]
  have cm:∀ ts:List T,(∀ u ∈ ts,PT d u) -> ∀ o0 o1:Option W,aD [2,3] (bK (evE (C (n + d + 1)) (.call 24 [.var 2,.var 3]))) (ts.map fun t=>[((.s,t):W),(.s,t)]) [o0,o1,none,none] [] = .ok ([] ++ ts.map fun _=>(.d,.bl true),[o0,o1,none,none]):=by
   intro ts hts o0 o1
   refine aQ (fun _=>((.d,.bl true):W)) ts [] fun u hu=>⟨_,[o0,o1,some (.s,u),some (.s,u)],rfl,?_,rfl⟩
   simp_all only [ih u .s .s (hts u hu)]
  cases t with
  | bl b=>simp_all only [aw,List.any_cons,List.any_nil,vj,vB,qS,Bool.or_false,Bool.or_true,beq_self_eq_true]
  | int i=>simp_all only [aw,List.any_cons,List.any_nil,vJ,vS,pY,Bool.or_false,Bool.or_true,beq_self_eq_true]
  | str x=>simp_all only [aw,List.any_cons,List.any_nil,vq,vK,vg,Bool.or_false,Bool.or_true,beq_self_eq_true]
  | non=>simp_all only [aw,List.any_cons,List.any_nil,vF,vw,vM,Bool.or_false,Bool.or_true,beq_self_eq_true,Ag]
  | lst ts=>simp_all only [aw,List.any_cons,List.any_nil,pM,AH,Bool.or_false,Bool.or_true,beq_self_eq_true,yL,eU,cm ts h,ax (fun _=>Md.d),bB,cD]
  | tup ts=>simp_all only [aw,List.any_cons,List.any_nil,Ba,vp,Bool.or_false,Bool.or_true,beq_self_eq_true,wZ,eU,cm ts h,ax (fun _=>Md.d),bB,cD]
  | _=>exact h.elim
def fst:T -> T | .tup [x,_]=>x | _=>.non
def snd:T -> T | .tup [_,x]=>x | _=>.non
def aH:T -> List T | .lst ts=>ts | _=>[]
def iH (t:T):T:=.int (((aH t).length:Nat):Int)
def flatT:Kd -> List T -> T
 | .num,ts=>.lst ts
 | .truth,ts=>.lst ts
 | .pair a b,ts=>.tup [flatT a (ts.map fst),flatT b (ts.map snd)]
 | .row a,ts=>.tup [.lst (ts.map iH),flatT a (ts.flatMap aH)]
theorem iF:∀ ts us:List T,szs (ts ++ us) = szs ts + szs us
 | [],us=>by show szs us = 0 + szs us; omega
 | t :: ts,us=>by show sz t + szs (ts ++ us) = sz t + szs ts + szs us; rw [iF ts us]; omega
theorem zh (t:T):1 <= sz t:=by
 cases t <;> first | exact Nat.le_refl _ | exact Nat.le_add_left _ _
theorem bp:∀ ts:List T,ts.length <= szs ts
 | []=>Nat.le_refl _
 | t :: ts=>by
  have:=bp ts
  have:=zh t
  show ts.length + 1 <= sz t + szs ts
  omega
theorem cS {a b:Kd}:∀ {ts:List T},(∀ t ∈ ts,OfK (.pair a b) t) -> szs (ts.map fst) <= szs ts /\ szs (ts.map snd) <= szs ts
 | [],_=>⟨Nat.le_refl _,Nat.le_refl _⟩
 | t :: ts,h=>by
  obtain ⟨x,y,rfl,_,_⟩:=h t List.mem_cons_self
  obtain ⟨h1,h2⟩:=cS fun u hu=>h u (List.mem_cons_of_mem _ hu)
  refine ⟨?_,?_⟩
  ·show sz x + szs (ts.map fst) <= (sz x + (sz y + 0) + 1) + szs ts; omega
  ·show sz y + szs (ts.map snd) <= (sz x + (sz y + 0) + 1) + szs ts; omega
theorem cq {a:Kd}:∀ {ts:List T},(∀ t ∈ ts,OfK (.row a) t) -> szs (ts.flatMap aH) <= szs ts
 | [],_=>Nat.le_refl _
 | t :: ts,h=>by
  obtain ⟨us,rfl,_,_⟩:=h t List.mem_cons_self
  have:=cq fun u hu=>h u (List.mem_cons_of_mem _ hu)
  rw [List.flatMap_cons,iF]
  show szs us + _ <= (szs us + 1) + szs ts
  omega
theorem aY {a b:Kd} {ts:List T} (h:∀ t ∈ ts,OfK (.pair a b) t):(∀ t ∈ ts.map fst,OfK a t) /\ ∀ t ∈ ts.map snd,OfK b t:=by
 refine ⟨fun u hu=>?_,fun u hu=>?_⟩
 ·obtain ⟨t,ht,rfl⟩:=List.mem_map.mp hu
  obtain ⟨x,y,rfl,h1,_⟩:=h t ht
  exact h1
 ·obtain ⟨t,ht,rfl⟩:=List.mem_map.mp hu
  obtain ⟨x,y,rfl,_,h1⟩:=h t ht
  exact h1
theorem cc {a:Kd} {ts:List T} (h:∀ t ∈ ts,OfK (.row a) t):∀ t ∈ ts.flatMap aH,OfK a t:=by
 intro u hu
 obtain ⟨t,ht,hu⟩:=List.mem_flatMap.mp hu
 obtain ⟨us,rfl,_,h1⟩:=h t ht
 exact h1 u hu
theorem bX {ts:List T} (h:∀ t ∈ ts,OfK .num t):leaves ts = true:=List.all_eq_true.mpr fun t ht=>by obtain ⟨i,rfl,_⟩:=h t ht; rfl
theorem bc {ts:List T} (h:∀ t ∈ ts,OfK .truth t):leaves ts = true:=List.all_eq_true.mpr fun t ht=>by obtain ⟨i,rfl⟩:=h t ht; rfl
theorem ml {α:Type} (g:α -> T) (ts:List α):(ts.map fun x=>((.d,g x):W)).all okD = true:=List.all_eq_true.mpr fun w hw=>by
 obtain ⟨u,_,rfl⟩:=List.mem_map.mp hw
 rfl
theorem jT {F:Call} {a b:Kd} {ts:List T} (h:∀ t ∈ ts,OfK (.pair a b) t) (η:Env) (s:Nat) (hη:∀ t,rd (put η s (.s,t)) s = some (.s,t)) (hd:∀ t,ak [s] (put η s (.s,t)) = η) :
  aD [s] (bK (evE F (.op .ix false [.var s,.cst (.int 0)]))) (ts.map fun t=>[((.s,t):W)]) η [] = .ok ([] ++ ts.map fun t=>(.s,fst t),η) /\
  aD [s] (bK (evE F (.op .ix false [.var s,.cst (.int 1)]))) (ts.map fun t=>[((.s,t):W)]) η [] = .ok ([] ++ ts.map fun t=>(.s,snd t),η):=by
 constructor
 ·refine aQ (fun t=>((.s,fst t):W)) ts [] fun u hu=>⟨_,put η s (.s,u),rfl,?_,hd u⟩
  obtain ⟨x,y,rfl,_,_⟩:=h u hu
  simp_all only [hη,fst]
 ·refine aQ (fun t=>((.s,snd t):W)) ts [] fun u hu=>⟨_,put η s (.s,u),rfl,?_,hd u⟩
  obtain ⟨x,y,rfl,_,_⟩:=h u hu
  simp_all only [hη,snd]
theorem qv {F:Call} {a:Kd} {ts:List T} (h:∀ t ∈ ts,OfK (.row a) t) (η:Env) (s:Nat) (hη:∀ t,rd (put η s (.s,t)) s = some (.s,t)) (hd:∀ t,ak [s] (put η s (.s,t)) = η) :
  aD [s] (bK (evE F (.op .len false [.var s]))) (ts.map fun t=>[((.s,t):W)]) η [] = .ok ([] ++ ts.map fun t=>(.d,iH t),η):=by
 refine aQ (fun t=>((.d,iH t):W)) ts [] fun u hu=>⟨_,put η s (.s,u),rfl,?_,hd u⟩
 obtain ⟨us,rfl,_,_⟩:=h u hu
 simp_all only [hη,iH,aH]
theorem flat:∀ (k:Kd) (n:Nat) (ts:List T) (m1 m:Md),(∀ t ∈ ts,OfK k t) -> szs ts <= LIM -> C (n + k.deep + 1) 6 [(m1,k.th),(m,.lst ts)] = .ok ((.d,flatT k ts),[])
 | .num,n,ts,m1,m,h,_=>by
  rw [cP,x_run _ _ _ rfl]
  simp_all only [a6,Kd.th,qeq,bX h,flatT]
 | .truth,n,ts,m1,m,h,_=>by
  rw [cP,x_run _ _ _ rfl]
  simp_all only [a6,Kd.th,qeq,bc h,flatT]
 | .pair a b,n,ts,m1,m,h,hs=>by
  have e1:=flat a (n + (max a.deep b.deep - a.deep)) (ts.map fst) .s (.o .s) (aY h).1 (Nat.le_trans (cS h).1 hs)
  have e2:=flat b (n + (max a.deep b.deep - b.deep)) (ts.map snd) .s (.o .s) (aY h).2 (Nat.le_trans (cS h).2 hs)
  rw [show n + (max a.deep b.deep - a.deep) + a.deep + 1 = n + max a.deep b.deep + 1 by omega] at e1
  rw [show n + (max a.deep b.deep - b.deep) + b.deep + 1 = n + max a.deep b.deep + 1 by omega] at e2
  rw [show n + (Kd.pair a b).deep + 1 = (n + max a.deep b.deep + 1) + 1 from rfl,cP,x_run _ _ _ rfl]
  have c1:=(jT (F:=C (n + max a.deep b.deep + 1)) h [some (.s,.tup [.str (q "pair"),a.th,b.th]),some (.s,.lst ts),none,none,none,none,none] 4 (fun _=>rfl) (fun _=>rfl)).1
  have c2:=(jT (F:=C (n + max a.deep b.deep + 1)) h [some (.s,.tup [.str (q "pair"),a.th,b.th]),some (.s,.lst ts),none,none,none,none,none] 5 (fun _=>rfl) (fun _=>rfl)).2
  simp_all only [a6,Kd.th,qeq,c1,c2,ax (fun _=>Md.s),e1,e2,flatT]
 | .row a,n,ts,m1,m,h,hs=>by
  have hk:=Nat.le_trans (cq h) hs
  have hl:=Nat.le_trans (bp (ts.flatMap aH)) hk
  have e1:=fun m2=>flat a n (ts.flatMap aH) m2 (.o .s) (cc h) hk
  rw [show n + (Kd.row a).deep + 1 = (n + a.deep + 1) + 1 from rfl,cP,x_run _ _ _ rfl]
  have lp:dX [3] (evSs (C (n + a.deep + 1)) [S.ext (X.q [3] []) 2 (E.var 3)]) (ts.map fun t=>[((Md.s,t):W)]) [some (m1,T.tup [T.str (q "row"),a.th]),some (Md.s,T.lst ts),some (Md.s.o,T.lst []),none,none,none,none] =
    .nx [some (m1,T.tup [T.str (q "row"),a.th]),some (Md.s,T.lst ts),some (Md.s.o,T.lst (ts.flatMap aH)),ts.getLast?.map fun t=>(Md.s,t),none,none,none]:=by
   refine dS (fun p=>[some (m1,T.tup [T.str (q "row"),a.th]),some (Md.s,T.lst ts),some (Md.s.o,T.lst (p.flatMap aH)),p.getLast?.map fun t=>(Md.s,t),none,none,none]) ts [] fun p t r e=>?_
   obtain ⟨us,rfl,_,_⟩:=h t (by simp at e; rw [e]; simp)
   refine ⟨_,rfl,?_⟩
   have hle:((p.flatMap aH).length + us.length <= LIM):=by
    have e':ts = p ++ .lst us :: r:=e
    rw [e',List.flatMap_append,List.flatMap_cons,List.length_append,List.length_append] at hl
    have:(aH (.lst us)).length = us.length:=rfl
    omega
   simp_all only [if_pos hle,List.flatMap_append,List.flatMap_cons,List.flatMap_nil,aH,List.getLast?_append,List.getLast?_singleton,Option.some_or]
  have c1:=fun o0 o2 o3 o4 o5=>qv (F:=C (n + a.deep + 1)) h [o0,none,o2,o3,o4,o5,none] 6 (fun _=>rfl) (fun _=>rfl)
  simp_all only [a6,Kd.th,qeq,lp,c1,ax (fun _=>Md.d),e1,ml,flatT]
theorem j7:∀ ts:List T,∃ ns:List Int,bq (ts.map iH) = some ns
 | []=>⟨[],rfl⟩
 | t :: ts=>by
  obtain ⟨ns,e⟩:=j7 ts
  refine ⟨((aH t).length:Int) :: ns,?_⟩
  show (bq (ts.map iH)).map _ = _
  rw [e]; rfl
theorem jB:∀ ts:List T,natsOf (ts.map iH) = some (ts.map fun t=>(aH t).length)
 | []=>rfl
 | t :: ts=>by
  show (natsOf (ts.map iH)).map _ = _
  rw [jB ts]; rfl
theorem hV {a:Kd}:∀ {ts:List T},(∀ t ∈ ts,OfK (.row a) t) -> rowsT (ts.map fun t=>(aH t).length) (ts.flatMap aH) = ts
 | [],_=>rfl
 | t :: ts,h=>by
  obtain ⟨us,rfl,_,_⟩:=h t List.mem_cons_self
  show T.lst (((us:List T) ++ ts.flatMap aH).take us.length) :: rowsT _ ((us ++ ts.flatMap aH).drop us.length) = _
  rw [List.take_left,List.drop_left,hV fun u hu=>h u (List.mem_cons_of_mem _ hu)]
theorem j8 {a b:Kd}:∀ {ts:List T},(∀ t ∈ ts,OfK (.pair a b) t) -> zipP (ts.map fst) (ts.map snd) = ts
 | [],_=>rfl
 | t :: ts,h=>by
  obtain ⟨x,y,rfl,_,_⟩:=h t List.mem_cons_self
  show T.tup [x,y] :: zipP (ts.map fst) (ts.map snd) = _
  rw [j8 fun u hu=>h u (List.mem_cons_of_mem _ hu)]
theorem kC:∀ (k:Kd) (n:Nat) (ts:List T) (m1 m:Md) (L:Int),(∀ t ∈ ts,OfK k t) -> C (n + k.deep + 1) 7 [(m1,k.th),(m,flatT k ts),(.d,.int L)] = .ok ((.d,.lst ts),[])
 | .num,n,ts,m1,m,L,h=>by
  rw [bP,x_run _ _ _ rfl]
  simp_all only [aP,Kd.th,qeq,flatT,bX h]
 | .truth,n,ts,m1,m,L,h=>by
  rw [bP,x_run _ _ _ rfl]
  simp_all only [aP,Kd.th,qeq,flatT,bc h]
 | .pair a b,n,ts,m1,m,L,h=>by
  have e1:=kC a (n + (max a.deep b.deep - a.deep)) (ts.map fst) .s .s L (aY h).1
  have e2:=kC b (n + (max a.deep b.deep - b.deep)) (ts.map snd) .s .s L (aY h).2
  rw [show n + (max a.deep b.deep - a.deep) + a.deep + 1 = n + max a.deep b.deep + 1 by omega] at e1
  rw [show n + (max a.deep b.deep - b.deep) + b.deep + 1 = n + max a.deep b.deep + 1 by omega] at e2
  rw [show n + (Kd.pair a b).deep + 1 = (n + max a.deep b.deep + 1) + 1 from rfl,bP,x_run _ _ _ rfl]
  simp_all only [aP,Kd.th,qeq,flatT,e1,e2,j8 h]
 | .row a,n,ts,m1,m,L,h=>by
  obtain ⟨ns,hns⟩:=j7 ts
  have e1:=fun m2=>kC a n (ts.flatMap aH) m2 .s ns.sum (cc h)
  rw [show n + (Kd.row a).deep + 1 = (n + a.deep + 1) + 1 from rfl,bP,x_run _ _ _ rfl]
  simp_all only [aP,Kd.th,qeq,flatT,hns,e1,lB,rowsW,jB,hV h]
theorem of_PT:∀ (k:Kd) (t:T),OfK k t -> PT (k.deep + 1) t
 | .num,t,h=>by obtain ⟨i,rfl,_⟩:=h; exact True.intro
 | .truth,t,h=>by obtain ⟨i,rfl⟩:=h; exact True.intro
 | .pair a b,t,h=>by
  obtain ⟨x,y,rfl,h1,h2⟩:=h
  have mono:∀ (d e:Nat) (t:T),d <= e -> PT d t -> PT e t:=PTm
  intro u hu
  rcases List.mem_cons.mp hu with z | z
  ·rw [z]; exact mono _ _ _ (by show a.deep + 1 <= max a.deep b.deep + 1; omega) (of_PT a x h1)
  ·rw [List.mem_singleton.mp z]; exact mono _ _ _ (by show b.deep + 1 <= max a.deep b.deep + 1; omega) (of_PT b y h2)
 | .row a,t,h=>by
  obtain ⟨ts,rfl,_,h1⟩:=h
  exact fun u hu=>of_PT a u (h1 u hu)
where
 PTm:∀ (d e:Nat) (t:T),d <= e -> PT d t -> PT e t
  | _,0,.bl _,_,_=>True.intro
  | _,_ + 1,.bl _,_,_=>True.intro
  | _,0,.int _,_,_=>True.intro
  | _,_ + 1,.int _,_,_=>True.intro
  | d + 1,e + 1,.tup ts,h,p=>fun u hu=>PTm d e u (by omega) (p u hu)
  | d + 1,e + 1,.lst ts,h,p=>fun u hu=>PTm d e u (by omega) (p u hu)
  | 0,_,.tup _,_,p=>p.elim
  | 0,_,.lst _,_,p=>p.elim
  | _,0,.non,_,_=>True.intro
  | _,_ + 1,.non,_,_=>True.intro
  | _,0,.str _,_,_=>True.intro
  | _,_ + 1,.str _,_,_=>True.intro
  | 0,_,.dct _ _,_,p=>p.elim
  | _ + 1,_,.dct _ _,_,p=>p.elim
  | 0,_,.ins _ _ _,_,p=>p.elim
  | _ + 1,_,.ins _ _ _,_,p=>p.elim
  | 0,_,.scr _,_,p=>p.elim
  | _ + 1,_,.scr _,_,p=>p.elim
  | 0,_,.gone,_,p=>p.elim
  | _ + 1,_,.gone,_,p=>p.elim
theorem jL (ns:List Int):leaves (ns.map T.int) = true:=List.all_eq_true.mpr fun t ht=>by obtain ⟨i,_,rfl⟩:=List.mem_map.mp ht; rfl
theorem nW {d e:Nat} {t:T} (h:d <= e) (p:PT d t):PT e t:=of_PT.PTm d e t h p
theorem fE:∀ (k:Kd) (ts:List T),(∀ t ∈ ts,OfK k t) -> PT (k.deep + 2) (flatT k ts)
 | .num,ts,h=>fun u hu=>by obtain ⟨i,rfl,_⟩:=h u hu; exact True.intro
 | .truth,ts,h=>fun u hu=>by obtain ⟨i,rfl⟩:=h u hu; exact True.intro
 | .pair a b,ts,h=>by
  have h1:=fE a _ (aY h).1
  have h2:=fE b _ (aY h).2
  intro u hu
  rcases List.mem_cons.mp hu with z | z
  ·rw [z]; exact nW (by show a.deep + 2 <= max a.deep b.deep + 1 + 1; omega) h1
  ·rw [List.mem_singleton.mp z]; exact nW (by show b.deep + 2 <= max a.deep b.deep + 1 + 1; omega) h2
 | .row a,ts,h=>by
  have h1:=fE a _ (cc h)
  intro u hu
  rcases List.mem_cons.mp hu with z | z
  ·rw [z]; exact fun v hv=>by obtain ⟨x,_,rfl⟩:=List.mem_map.mp hv; exact True.intro
  ·rw [List.mem_singleton.mp z]; exact nW (by show a.deep + 2 <= a.deep + 1 + 1; omega) h1
def nT (i:Nat):T:=.int (i:Int)
def ab (is:List Nat):List T:=is.map nT
theorem bL (is:List Nat):(ab is).length = is.length:=List.length_map ..
theorem fj (is:List Nat):leaves (ab is) = true:=List.all_eq_true.mpr fun t ht=>by obtain ⟨i,_,rfl⟩:=List.mem_map.mp ht; rfl
theorem iD {is:List Nat} {j i:Nat} (h:is[j]? = some i):atI (ab is) (j:Int) = some (nT i):=atN rfl (by rw [ab,List.getElem?_map,h]; rfl)
theorem wV {ts:List T} {j:Nat} (h:j < ts.length):atI ts (j:Int) = some (ts.getD j .non):=atN rfl (by rw [List.getD_eq_getElem?_getD,List.getElem?_eq_getElem h]; rfl)
theorem eT {α:Type} {tg:List Nat} {f:Env -> Res (Option W × Env)} {η:Env} {g:α -> List W} (w:α -> Option W):∀ (ts:List α) (acc:List W),(∀ x ∈ ts,∃ η1 η2,aJ tg (g x) η = some η1 /\ f η1 = .ok (w x,η2) /\ ak tg η2 = η) ->
  aD tg f (ts.map g) η acc = .ok (acc ++ ts.filterMap w,η)
 | [],acc,_=>by rw [List.map_nil,List.filterMap_nil,List.append_nil]; rfl
 | x :: ts,acc,h=>by
  obtain ⟨η1,η2,h1,h2,h3⟩:=h x List.mem_cons_self
  rw [List.map_cons]
  show (ofO (aJ tg (g x) η)).bind _ = _
  rw [h1]
  show (f η1).bind _ = _
  rw [h2]
  show aD tg f (ts.map g) (ak tg η2) (acc ++ (w x).toList) = _
  rw [h3,eT w ts _ fun y hy=>h y (List.mem_cons_of_mem _ hy),List.append_assoc,List.filterMap_cons]
  cases w x <;> rfl
theorem dw {α:Type} {tg:List Nat} {f:Env -> Fl} {g:α -> List W} (I:List α -> Env -> Prop):∀ (ts pre:List α) (η:Env),I pre η -> (∀ p x r η,pre ++ ts = p ++ x :: r -> I p η -> ∃ η1 η2,aJ tg (g x) η = some η1 /\ f η1 = .nx η2 /\ I (p ++ [x]) η2) ->
  ∃ η',dX tg f (ts.map g) η = .nx η' /\ I (pre ++ ts) η'
 | [],pre,η,h,_=>⟨η,rfl,by rw [List.append_nil]; exact h⟩
 | x :: ts,pre,η,h,k=>by
  obtain ⟨η1,η2,h1,h2,h3⟩:=k pre x ts η rfl h
  obtain ⟨η',e,hi⟩:=dw I ts (pre ++ [x]) η2 h3 fun p y r η e=>k p y r η (by rw [<- e,List.append_assoc]; rfl)
  refine ⟨η',?_,by rw [List.append_assoc] at hi; exact hi⟩
  rw [List.map_cons]
  show Fl.of _ (ofO (aJ tg (g x) η)) _ = _
  rw [h1]
  show Fl.turn (f η1) _ = _
  rw [h2]
  exact e
theorem mz {c:Env -> Res (Bool × Env)} {f:Env -> Fl} (I:Nat -> Env -> Prop) (P:Env -> Prop):∀ (N m:Nat) (η:Env),m < N -> I m η -> (∀ m η,I m η -> (∃ η',c η = .ok (false,η') /\ P η') \/ ∃ η1 η2 m',c η = .ok (true,η1) /\ f η1 = .nx η2 /\ m' < m /\ I m' η2) ->
  ∃ η',j3 c f N η = .nx η' /\ P η'
 | 0,_,_,h,_,_=>by omega
 | N + 1,m,η,h,hi,k=>by
  rcases k m η hi with ⟨η',h1,h2⟩ | ⟨η1,η2,m',h1,h2,h3,h4⟩
  ·refine ⟨η',?_,h2⟩
   show Fl.of η (c η) _ = _
   rw [h1]; rfl
  ·obtain ⟨η',e,p⟩:=mz I P N m' η2 (by omega) h4 k
   refine ⟨η',?_,p⟩
   show Fl.of η (c η) _ = _
   rw [h1]
   show Fl.turn (f η1) _ = _
   rw [h2]; exact e
theorem gi (m n:Md):∀ (ts us:List T),cU m n ts us = (ts.zip us).map fun p=>[(m,p.1),(n,p.2)]
 | [],us=>rfl
 | t :: ts,[]=>rfl
 | t :: ts,u :: us=>by show _ :: cU m n ts us = _; rw [gi m n ts us]; rfl
theorem dt {α:Type} (ts:List α) (j:Nat):cut ts none (some (j:Int)) = ts.take j:=by
 show (ts.drop 0).take ((if (j:Int) < 0 then ((j:Int) + ts.length).toNat else min (j:Int).toNat ts.length) - 0) = _
 rw [if_neg (by omega),Int.toNat_natCast,Nat.sub_zero,List.drop_zero]
 by_cases h:j <= ts.length
 ·rw [Nat.min_eq_left h]
 ·rw [Nat.min_eq_right (by omega),List.take_of_length_le (Nat.le_refl _),List.take_of_length_le (by omega)]
theorem mj (l:List Nat):(l.map fun (i:Nat)=>(i:Int)).sum = ((l.sum:Nat):Int):=by
 induction l with
 | nil=>rfl
 | cons x l ih=>rw [List.map_cons,List.sum_cons,List.sum_cons,ih]; omega
theorem dC:∀ l:List Nat,bq (ab l) = some (l.map fun (i:Nat)=>(i:Int))
 | []=>rfl
 | i :: l=>by show (bq (ab l)).map _ = _; rw [dC l]; rfl
def aL (ts:List T):List Nat:=ts.map fun t=>(aH t).length
theorem dJ (ts:List T):ts.map iH = ab (aL ts):=by rw [ab,aL,List.map_map]; rfl
theorem dh (ts:List T):(aL ts).sum = (ts.flatMap aH).length:=by rw [List.length_flatMap]; rfl
theorem dq (ts:List T):(aL ts).length = ts.length:=List.length_map ..
theorem eH {α:Type} {p:α -> Prop} {ts:List α} {j:Nat} (h:∀ t ∈ ts,p t):∀ t ∈ ts.take j,p t:=fun t ht=>h t (List.mem_of_mem_take ht)
theorem mP (ts:List T) (j:Nat):(ts.flatMap aH).take ((ts.take j).flatMap aH).length = (ts.take j).flatMap aH:=by
 conv=>lhs; arg 2; rw [<- List.take_append_drop j ts]
 rw [List.flatMap_append,List.take_left]
def aB (ts:List T) (is:List Nat):List T:=is.map fun i=>ts.getD i .non
theorem eR {p:T -> Prop} {ts:List T} {is:List Nat} (h:∀ t ∈ ts,p t) (hi:∀ i ∈ is,i < ts.length):∀ t ∈ aB ts is,p t:=fun t ht=>by
 obtain ⟨i,hi',rfl⟩:=List.mem_map.mp ht
 have:=hi i hi'
 rw [List.getD_eq_getElem?_getD,List.getElem?_eq_getElem this]
 exact h _ (List.getElem_mem this)
theorem dI {g:T -> T} (ts:List T) {is:List Nat} (hi:∀ i ∈ is,i < ts.length):aB (ts.map g) is = (aB ts is).map g:=by
 rw [aB,aB,List.map_map]
 refine List.map_congr_left fun i h=>?_
 have:=hi i h
 simp only [Function.comp_apply]
 rw [List.getD_eq_getElem?_getD,List.getD_eq_getElem?_getD,List.getElem?_map,List.getElem?_eq_getElem this]
 rfl
def off (l:List Nat) (i:Nat):Nat:=(l.take i).sum
def tng (l:List Nat) (is:List Nat):List Nat:=is.flatMap fun i=>(List.range (l.getD i 0)).map fun k=>off l i + k
theorem oE (l:List Nat) (i:Nat):off l i + l.getD i 0 <= l.sum:=by
 unfold off
 conv=>rhs; rw [<- List.take_append_drop i l]
 rw [List.sum_append]
 by_cases h:i < l.length
 ·rw [List.drop_eq_getElem_cons h,List.sum_cons,List.getD_eq_getElem?_getD,List.getElem?_eq_getElem h]
  show (l.take i).sum + l[i] <= _
  omega
 ·rw [List.getD_eq_getElem?_getD,List.getElem?_eq_none (by omega)]
  show (l.take i).sum + 0 <= _
  omega
theorem wO {l is:List Nat}:∀ j ∈ tng l is,j < l.sum:=fun j hj=>by
 obtain ⟨i,_,h2⟩:=List.mem_flatMap.mp hj
 obtain ⟨k,h3,rfl⟩:=List.mem_map.mp h2
 have:=oE l i
 have:=List.mem_range.mp h3
 omega
theorem er (ts:List T):∀ (is:List Nat),(∀ i ∈ is,i < ts.length) -> aB (ts.flatMap aH) (tng (aL ts) is) = (aB ts is).flatMap aH
 | [],_=>rfl
 | i :: is,h=>by
  have hi:=h i List.mem_cons_self
  have e:aB (ts.flatMap aH) (tng (aL ts) (i :: is)) = aB (ts.flatMap aH) ((List.range ((aL ts).getD i 0)).map fun k=>off (aL ts) i + k) ++ aB (ts.flatMap aH) (tng (aL ts) is):=by
   rw [aB,aB,aB,<- List.map_append]; rfl
  rw [e,er ts is fun j hj=>h j (List.mem_cons_of_mem _ hj)]
  show _ = aH (ts.getD i .non) ++ _
  congr 1
  have e1:ts.getD i .non = ts[i]:=by rw [List.getD_eq_getElem?_getD,List.getElem?_eq_getElem hi]; rfl
  have e2:(aL ts).getD i 0 = (aH ts[i]).length:=by rw [List.getD_eq_getElem?_getD,aL,List.getElem?_map,List.getElem?_eq_getElem hi]; rfl
  have e3:off (aL ts) i = ((ts.take i).flatMap aH).length:=by rw [off,aL,<- List.map_take,<- dh]; rfl
  have e4:ts.flatMap aH = (ts.take i).flatMap aH ++ (aH ts[i] ++ (ts.drop (i + 1)).flatMap aH):=by
   conv=>lhs; rw [<- List.take_append_drop i ts,List.drop_eq_getElem_cons hi]
   rw [List.flatMap_append,List.flatMap_cons]
  rw [e1,e2,e3,aB,List.map_map]
  refine List.ext_getElem? fun k=>?_
  rw [List.getElem?_map]
  by_cases hk:k < (aH ts[i]).length
  ·rw [List.getElem?_range hk,List.getElem?_eq_getElem hk]
   simp only [Option.map_some,Function.comp_apply]
   rw [List.getD_eq_getElem?_getD,e4,List.getElem?_append_right (by omega),Nat.add_sub_cancel_left,List.getElem?_append_left hk,List.getElem?_eq_getElem hk]
   rfl
  ·rw [List.getElem?_eq_none (by simpa using hk),List.getElem?_eq_none (by omega)]
   rfl
theorem tf (ts:List T) {is:List Nat} (h:∀ i ∈ is,i < ts.length):(tng (aL ts) is).length = ((aB ts is).flatMap aH).length:=by
 rw [<- er ts is h,aB,List.length_map]
theorem many:∀ (k:Kd) (n:Nat) (ts:List T) (m1 m:Md),C (n + k.deep + 1) 11 [(m1,k.th),(m,flatT k ts)] = .ok ((.d,.int (ts.length:Nat)),[])
 | .num,n,ts,m1,m=>by
  rw [cQ,x_run _ _ _ rfl]
  simp_all only [a4,Kd.th,qeq,flatT]
 | .truth,n,ts,m1,m=>by
  rw [cQ,x_run _ _ _ rfl]
  simp_all only [a4,Kd.th,qeq,flatT]
 | .pair a b,n,ts,m1,m=>by
  have e1:=fun m1 m=>many a (n + (max a.deep b.deep - a.deep)) (ts.map fst) m1 m
  rw [show n + (max a.deep b.deep - a.deep) + a.deep + 1 = n + max a.deep b.deep + 1 by omega] at e1
  rw [show n + (Kd.pair a b).deep + 1 = (n + max a.deep b.deep + 1) + 1 from rfl,cQ,x_run _ _ _ rfl]
  simp_all only [a4,Kd.th,qeq,flatT,e1,List.length_map]
 | .row a,n,ts,m1,m=>by
  rw [show n + (Kd.row a).deep + 1 = (n + a.deep + 1) + 1 from rfl,cQ,x_run _ _ _ rfl]
  simp_all only [a4,Kd.th,qeq,flatT,List.length_map]
theorem fN:∀ (k:Kd) (n:Nat) (ts:List T) (j:Nat) (m1 m m2:Md),(∀ t ∈ ts,OfK k t) -> C (n + k.deep + 1) 19 [(m1,k.th),(m,flatT k ts),(m2,.int (j:Nat))] = .ok ((.d,flatT k (ts.take j)),[])
 | .num,n,ts,j,m1,m,m2,h=>by
  rw [bE,x_run _ _ _ rfl]
  simp_all only [aM,Kd.th,qeq,flatT,dt,bX (eH (j:=j) h)]
 | .truth,n,ts,j,m1,m,m2,h=>by
  rw [bE,x_run _ _ _ rfl]
  simp_all only [aM,Kd.th,qeq,flatT,dt,bc (eH (j:=j) h)]
 | .pair a b,n,ts,j,m1,m,m2,h=>by
  have e1:=fun m1 m m2=>fN a (n + (max a.deep b.deep - a.deep)) (ts.map fst) j m1 m m2 (aY h).1
  have e2:=fun m1 m m2=>fN b (n + (max a.deep b.deep - b.deep)) (ts.map snd) j m1 m m2 (aY h).2
  rw [show n + (max a.deep b.deep - a.deep) + a.deep + 1 = n + max a.deep b.deep + 1 by omega] at e1
  rw [show n + (max a.deep b.deep - b.deep) + b.deep + 1 = n + max a.deep b.deep + 1 by omega] at e2
  rw [show n + (Kd.pair a b).deep + 1 = (n + max a.deep b.deep + 1) + 1 from rfl,bE,x_run _ _ _ rfl]
  simp_all only [aM,Kd.th,qeq,flatT,e1,e2,List.map_take]
 | .row a,n,ts,j,m1,m,m2,h=>by
  have e1:=fun m1 m m2=>fN a n (ts.flatMap aH) ((ts.take j).flatMap aH).length m1 m m2 (cc h)
  rw [show n + (Kd.row a).deep + 1 = (n + a.deep + 1) + 1 from rfl,bE,x_run _ _ _ rfl]
  have lv:=fj (aL (ts.take j))
  have e2:(ab (aL ts)).take j = ab (aL (ts.take j)):=by rw [ab,ab,aL,aL,List.map_take,List.map_take]
  simp_all only [aM,Kd.th,qeq,flatT,dt,e2,lv,dC,mj,dh,e1,mP,dJ]
theorem dR:∀ (k:Kd) (n:Nat) (ts us:List T) (m1 m m2:Md),(∀ t ∈ ts,OfK k t) -> (∀ t ∈ us,OfK k t) -> szs ts + szs us <= LIM -> C (n + k.deep + 1) 15 [(m1,k.th),(m,flatT k ts),(m2,flatT k us)] = .ok ((.d,flatT k (ts ++ us)),[])
 | .num,n,ts,us,m1,m,m2,h,h',hs=>by
  have hf:fits (ts.length + us.length) = true:=decide_eq_true (by have:=bp ts; have:=bp us; omega)
  rw [dQ,x_run _ _ _ rfl]
  simp_all only [bN,Kd.th,qeq,flatT,hf,bX (fun t ht=>(List.mem_append.mp ht).elim (h t) (h' t))]
 | .truth,n,ts,us,m1,m,m2,h,h',hs=>by
  have hf:fits (ts.length + us.length) = true:=decide_eq_true (by have:=bp ts; have:=bp us; omega)
  rw [dQ,x_run _ _ _ rfl]
  simp_all only [bN,Kd.th,qeq,flatT,hf,bc (fun t ht=>(List.mem_append.mp ht).elim (h t) (h' t))]
 | .pair a b,n,ts,us,m1,m,m2,h,h',hs=>by
  have q1:=cS h
  have q2:=cS h'
  have e1:=fun m1 m m2=>dR a (n + (max a.deep b.deep - a.deep)) (ts.map fst) (us.map fst) m1 m m2 (aY h).1 (aY h').1 (by omega)
  have e2:=fun m1 m m2=>dR b (n + (max a.deep b.deep - b.deep)) (ts.map snd) (us.map snd) m1 m m2 (aY h).2 (aY h').2 (by omega)
  rw [show n + (max a.deep b.deep - a.deep) + a.deep + 1 = n + max a.deep b.deep + 1 by omega] at e1
  rw [show n + (max a.deep b.deep - b.deep) + b.deep + 1 = n + max a.deep b.deep + 1 by omega] at e2
  rw [show n + (Kd.pair a b).deep + 1 = (n + max a.deep b.deep + 1) + 1 from rfl,dQ,x_run _ _ _ rfl]
  simp_all only [bN,Kd.th,qeq,flatT,e1,e2,List.map_append]
 | .row a,n,ts,us,m1,m,m2,h,h',hs=>by
  have q1:=cq h
  have q2:=cq h'
  have hf:fits ((ab (aL ts)).length + (ab (aL us)).length) = true:=decide_eq_true (by rw [bL,bL,dq,dq]; have:=bp ts; have:=bp us; omega)
  have lv:leaves (ab (aL ts) ++ ab (aL us)) = true:=by rw [ab,ab,<- List.map_append]; exact fj _
  have e1:=fun m1 m m2=>dR a n (ts.flatMap aH) (us.flatMap aH) m1 m m2 (cc h) (cc h') (by omega)
  have e2:ab (aL (ts ++ us)) = ab (aL ts) ++ ab (aL us):=by rw [ab,ab,ab,aL,List.map_append,List.map_append]; rfl
  rw [show n + (Kd.row a).deep + 1 = (n + a.deep + 1) + 1 from rfl,dQ,x_run _ _ _ rfl]
  simp_all only [bN,Kd.th,qeq,flatT,dJ,hf,lv,e1,e2,List.flatMap_append]
theorem og (h:Bool) (m m':Md) (a l:Nat) (hb:a + l <= LIM):oSem .rng h [(m,.int (a:Int)),(m',.int ((a:Int) + (l:Int)))] = some (.d,.lst (ab ((List.range l).map fun k=>a + k))):=by
 have hL:LIM = 16777215:=rfl
 rw [Aw,decide_eq_true (by omega:(a:Int).natAbs < 4611686018427387904),decide_eq_true (by omega:((a:Int) + (l:Int)).natAbs < 4611686018427387904),show ((a:Int) + (l:Int) - (a:Int)).toNat = l by omega,show fits l = true from decide_eq_true (by omega)]
 rw [ab,List.map_map]
 rfl
theorem things (n:Nat) (l is:List Nat) (m1 m:Md) (hi:∀ i ∈ is,i < l.length) (hb:l.sum + l.length <= LIM) (ht:(tng l is).length <= LIM):C (n + 1) 14 [(m1,.lst (ab l)),(m,.lst (ab is))] = .ok ((.d,.lst (ab (tng l is))),[]):=by
 rw [i4,x_run _ _ _ rfl]
 have lp:dX [4] (evSs (C n) [.app (.q [] [3]) 2 (.var 3),.asg (.q [] [3,4]) 3 (.op .add false [.var 3,.var 4])]) ((ab l).map fun t=>[((Md.s,t):W)]) [some (Md.s,T.lst (ab l)),some (m,T.lst (ab is)),some (Md.d,T.lst []),some (Md.d,T.int 0),none,none,none] =
   .nx [some (Md.s,T.lst (ab l)),some (m,T.lst (ab is)),some (Md.d,T.lst (ab ((List.range l.length).map (off l)))),some (Md.d,T.int ((l.sum:Nat):Int)),l.getLast?.map fun i=>(Md.s,nT i),none,none]:=by
  rw [ab,List.map_map]
  refine dS (fun p=>[some (Md.s,T.lst (ab l)),some (m,T.lst (ab is)),some (Md.d,T.lst (ab ((List.range p.length).map (off l)))),some (Md.d,T.int ((p.sum:Nat):Int)),p.getLast?.map fun i=>(Md.s,nT i),none,none]) l [] fun p x r e=>⟨_,rfl,?_⟩
  have e':l = p ++ x :: r:=e
  have hl:(ab ((List.range p.length).map (off l))).length < LIM:=by
   rw [bL,List.length_map,List.length_range]
   have:=congrArg List.length e'
   rw [List.length_append,List.length_cons] at this
   omega
  have h1:ab ((List.range (p ++ [x]).length).map (off l)) = ab ((List.range p.length).map (off l)) ++ [T.int ((p.sum:Nat):Int)]:=by
   rw [List.length_append,List.length_singleton,List.range_succ,List.map_append,ab,List.map_append]
   show _ ++ [nT (off l p.length)] = _
   rw [show off l p.length = p.sum by rw [off,e',List.take_left]]
   rfl
  have h2:(((p ++ [x]).sum:Nat):Int) = (p.sum:Int) + (x:Int):=by rw [List.sum_append,List.sum_singleton]; omega
  simp_all only [Function.comp_apply,nT,if_pos hl,h1,h2,List.getLast?_append,List.getLast?_singleton,Option.some_or]
 have lq:dX [6] (evSs (C n) [.ext (.q [0,2] [6]) 5 (.op .rng false [.op .ix false [.var 2,.var 6],.op .add false [.op .ix false [.var 2,.var 6],.op .ix false [.var 0,.var 6]]])]) ((ab is).map fun t=>[((Md.s,t):W)]) [some (Md.s,T.lst (ab l)),some (Md.s,T.lst (ab is)),some (Md.d,T.lst (ab ((List.range l.length).map (off l)))),some (Md.d,T.int ((l.sum:Nat):Int)),l.getLast?.map fun i=>(Md.s,nT i),some (Md.d,T.lst []),none] =
   .nx [some (Md.s,T.lst (ab l)),some (Md.s,T.lst (ab is)),some (Md.d,T.lst (ab ((List.range l.length).map (off l)))),some (Md.d,T.int ((l.sum:Nat):Int)),l.getLast?.map fun i=>(Md.s,nT i),some (Md.d,T.lst (ab (tng l is))),is.getLast?.map fun i=>(Md.s,nT i)]:=by
  rw [ab,List.map_map]
  refine dS (fun p=>[some (Md.s,T.lst (ab l)),some (Md.s,T.lst (ab is)),some (Md.d,T.lst (ab ((List.range l.length).map (off l)))),some (Md.d,T.int ((l.sum:Nat):Int)),l.getLast?.map fun i=>(Md.s,nT i),some (Md.d,T.lst (ab (tng l p))),p.getLast?.map fun i=>(Md.s,nT i)]) is [] fun p x r e=>⟨_,rfl,?_⟩
  have e':is = p ++ x :: r:=e
  have hx:x < l.length:=hi x (by rw [e']; simp)
  have a1:atI (ab ((List.range l.length).map (off l))) (x:Int) = some (.int (off l x:Nat)):=iD (by rw [List.getElem?_map,List.getElem?_range hx]; rfl)
  have a2:atI (ab l) (x:Int) = some (.int (l.getD x 0:Nat)):=iD (by rw [List.getD_eq_getElem?_getD,List.getElem?_eq_getElem hx]; rfl)
  have a3:=oE l x
  have h1:tng l (p ++ [x]) = tng l p ++ (List.range (l.getD x 0)).map fun k=>off l x + k:=by rw [tng,List.flatMap_append]; show _ ++ (_ ++ []) = _; rw [List.append_nil]; rfl
  have h2:ab (tng l (p ++ [x])) = ab (tng l p) ++ ab ((List.range (l.getD x 0)).map fun k=>off l x + k):=by rw [h1,ab,List.map_append]; rfl
  have hle:(ab (tng l p)).length + (ab ((List.range (l.getD x 0)).map fun k=>off l x + k)).length <= LIM:=by
   rw [<- List.length_append,<- h2,bL]
   have h3:tng l is = tng l (p ++ [x]) ++ tng l r:=by
    rw [e',show p ++ x :: r = (p ++ [x]) ++ r by simp]
    exact List.flatMap_append
   rw [h3,List.length_append] at ht
   omega
  have rg:=fun h m m'=>og h m m' (off l x) (l.getD x 0) (by omega)
  simp_all only [Function.comp_apply,nT,a1,a2,rg,if_pos hle,h2,List.getLast?_append,List.getLast?_singleton,Option.some_or]
 simp_all only [bJ,lp,lq]
theorem ei {a:Kd}:∀ {ts:List T},(∀ t ∈ ts,OfK (.row a) t) -> (ts.flatMap aH).length + ts.length <= szs ts
 | [],_=>Nat.le_refl _
 | t :: ts,h=>by
  obtain ⟨us,rfl,_,_⟩:=h t List.mem_cons_self
  have:=ei fun u hu=>h u (List.mem_cons_of_mem _ hu)
  have:=bp us
  rw [List.flatMap_cons,List.length_append]
  show us.length + _ + (ts.length + 1) <= (szs us + 1) + szs ts
  omega
theorem eW {F:Call} {ts:List T} {is:List Nat} (hi:∀ i ∈ is,i < ts.length) (η:Env) (s v:Nat) (hs:∀ i,rd (put η s (.s,.int (i:Int))) s = some (.s,.int (i:Int))) (hv:∀ i,rd (put η s (.s,.int (i:Int))) v = some (.s,.lst ts)) (hd:∀ i,ak [s] (put η s (.s,.int (i:Int))) = η) :
  aD [s] (bK (evE F (.op .ix false [.var v,.var s]))) ((ab is).map fun t=>[((.s,t):W)]) η [] = .ok ([] ++ is.map fun i=>(.s,ts.getD i .non),η):=by
 rw [ab,List.map_map]
 refine aQ (fun i=>((.s,ts.getD i .non):W)) is [] fun i h=>⟨_,put η s (.s,.int (i:Int)),rfl,?_,hd i⟩
 have a1:=wV (hi i h)
 simp_all only [nT,hs,hv,a1]
theorem ee {α:Type} {m:Md} {g:α -> T} {l:List α} (h:∀ x ∈ l,(g x).leaf = true):(l.map fun x=>((m,g x):W)).all okD = true:=List.all_eq_true.mpr fun w hw=>by
 obtain ⟨x,hx,rfl⟩:=List.mem_map.mp hw
 show (_ || (g x).leaf) = true
 rw [h x hx,Bool.or_true]
theorem mB {ts:List T} (h:leaves ts = true) {is:List Nat} (hi:∀ i ∈ is,i < ts.length):∀ i ∈ is,(ts.getD i .non).leaf = true:=fun i h'=>by
 have:=hi i h'
 rw [List.getD_eq_getElem?_getD,List.getElem?_eq_getElem this]
 exact List.all_eq_true.mp h _ (List.getElem_mem this)
theorem mD (ts:List T) {is:List Nat} (hi:∀ i ∈ is,i < ts.length):(is.map fun i=>(aL ts).getD i 0) = aL (aB ts is):=by
 rw [aB,aL,aL,List.map_map]
 refine List.map_congr_left fun i h=>?_
 have:=hi i h
 simp only [Function.comp_apply]
 rw [List.getD_eq_getElem?_getD,List.getD_eq_getElem?_getD,List.getElem?_map,List.getElem?_eq_getElem this]
 rfl
theorem bW:∀ (k:Kd) (n:Nat) (ts:List T) (is:List Nat) (m1 m m2:Md),(∀ t ∈ ts,OfK k t) -> (∀ i ∈ is,i < ts.length) -> szs ts <= LIM -> szs (aB ts is) <= LIM -> C (n + k.deep + 1) 13 [(m1,k.th),(m,flatT k ts),(m2,.lst (ab is))] = .ok ((.d,flatT k (aB ts is)),[])
 | .num,n,ts,is,m1,m,m2,h,hi,_,_=>by
  rw [bg,x_run _ _ _ rfl]
  have c1:=fun o0 o2 o3 o4=>eW (F:=C (n + Kd.num.deep)) hi [o0,some (.s,.lst ts),o2,o3,o4,none] 5 1 (fun _=>rfl) (fun _=>rfl) (fun _=>rfl)
  simp_all only [aF,Kd.th,qeq,flatT,c1,ee (mB (bX h) hi),ax (fun _=>Md.s),aB]
 | .truth,n,ts,is,m1,m,m2,h,hi,_,_=>by
  rw [bg,x_run _ _ _ rfl]
  have c1:=fun o0 o2 o3 o4=>eW (F:=C (n + Kd.truth.deep)) hi [o0,some (.s,.lst ts),o2,o3,o4,none] 5 1 (fun _=>rfl) (fun _=>rfl) (fun _=>rfl)
  simp_all only [aF,Kd.th,qeq,flatT,c1,ee (mB (bc h) hi),ax (fun _=>Md.s),aB]
 | .pair a b,n,ts,is,m1,m,m2,h,hi,hs,hs2=>by
  have q1:=cS h
  have q2:=cS (ts:=aB ts is) (eR h hi)
  have hi1:∀ i ∈ is,i < (ts.map fst).length:=fun i z=>by rw [List.length_map]; exact hi i z
  have hi2:∀ i ∈ is,i < (ts.map snd).length:=fun i z=>by rw [List.length_map]; exact hi i z
  have e1:=fun m1 m m2=>bW a (n + (max a.deep b.deep - a.deep)) (ts.map fst) is m1 m m2 (aY h).1 hi1 (by omega) (by rw [dI ts hi]; omega)
  have e2:=fun m1 m m2=>bW b (n + (max a.deep b.deep - b.deep)) (ts.map snd) is m1 m m2 (aY h).2 hi2 (by omega) (by rw [dI ts hi]; omega)
  rw [show n + (max a.deep b.deep - a.deep) + a.deep + 1 = n + max a.deep b.deep + 1 by omega,dI ts hi] at e1
  rw [show n + (max a.deep b.deep - b.deep) + b.deep + 1 = n + max a.deep b.deep + 1 by omega,dI ts hi] at e2
  rw [show n + (Kd.pair a b).deep + 1 = (n + max a.deep b.deep + 1) + 1 from rfl,bg,x_run _ _ _ rfl]
  simp_all only [aF,Kd.th,qeq,flatT,e1,e2]
 | .row a,n,ts,is,m1,m,m2,h,hi,hs,hs2=>by
  have h':=eR h hi
  have q1:=cq h
  have q2:=cq h'
  have q3:=ei h
  have q4:=ei h'
  have hl:∀ i ∈ is,i < (aL ts).length:=fun i z=>by rw [dq]; exact hi i z
  have e0:=fun m1 m=>things (n + a.deep) (aL ts) is m1 m hl (by rw [dh,dq]; omega) (by rw [tf ts hi]; omega)
  have e1:=fun m1 m m2=>bW a n (ts.flatMap aH) (tng (aL ts) is) m1 m m2 (cc h) (fun i z=>by rw [<- dh]; exact wO i z) (by omega) (by rw [er ts is hi]; omega)
  rw [er ts is hi] at e1
  have hl2:∀ i ∈ is,i < (ab (aL ts)).length:=fun i z=>by rw [bL]; exact hl i z
  have c1:aD [4] (bK (evE (C (n + a.deep + 1)) (.op .ix false [.op .ix false [.var 1,.cst (.int 0)],.var 4]))) ((ab is).map fun t=>[((.s,t):W)]) [none,some (.s,.tup [.lst (ab (aL ts)),flatT a (ts.flatMap aH)]),some (.s,.lst (ab is)),none,none,none] [] = .ok ([] ++ is.map fun i=>(.s,nT ((aL ts).getD i 0)),[none,some (.s,.tup [.lst (ab (aL ts)),flatT a (ts.flatMap aH)]),some (.s,.lst (ab is)),none,none,none]):=by
   rw [ab,List.map_map]
   refine aQ (fun i=>((.s,nT ((aL ts).getD i 0)):W)) is [] fun i h=>⟨_,[none,some (.s,.tup [.lst (ab (aL ts)),flatT a (ts.flatMap aH)]),some (.s,.lst (ab is)),none,some (.s,nT i),none],rfl,?_,rfl⟩
   have a1:atI (ab (aL ts)) (i:Int) = some (.int ((aL ts).getD i 0:Nat)):=iD (by rw [List.getD_eq_getElem?_getD,List.getElem?_eq_getElem (hl i h)]; rfl)
   simp_all only [nT,a1]
   rfl
  have e3:(is.map fun i=>nT ((aL ts).getD i 0)) = ab (aL (aB ts is)):=by rw [<- mD ts hi,ab,List.map_map]; rfl
  rw [show n + (Kd.row a).deep + 1 = (n + a.deep + 1) + 1 from rfl,bg,x_run _ _ _ rfl]
  simp_all only [aF,Kd.th,qeq,flatT,dJ,c1,ee (m:=.s) (g:=fun i=>nT ((aL ts).getD i 0)) (l:=is) (fun _ _=>rfl),ax (fun _=>Md.s),e3,e0,e1]
theorem q9 (k:Kd) (n:Nat) (ts:List T) (is:List Nat) (m1 m m2:Md) (h:∀ t ∈ ts,OfK k t) (hi:∀ i ∈ is,i < ts.length) (hs:szs ts <= LIM) (hs2:szs (aB ts is) <= LIM):C (n + k.deep + 2) 12 [(m1,k.th),(m,flatT k ts),(m2,.lst (ab is))] = .ok ((.d,flatT k (aB ts is)),[]):=by
 rw [show n + k.deep + 2 = (n + k.deep + 1) + 1 from rfl,oo,x_run _ _ _ rfl]
 have e1:=fun m1 m=>many k n ts m1 m
 have e2:=fun m1 m m2=>bW k n ts is m1 m m2 h hi hs hs2
 have lp:dX [4] (evSs (C (n + k.deep + 1)) [.ite (.q [] [3,4]) (.not (.chain .le .lt (.cst (.int 0)) (.var 4) (.var 3))) [.stop] []]) ((ab is).map fun t=>[((Md.s,t):W)]) [some (m1,k.th),some (m,flatT k ts),some (.s,.lst (ab is)),some (.d,.int (ts.length:Nat)),none] =
   .nx [some (m1,k.th),some (m,flatT k ts),some (.s,.lst (ab is)),some (.d,.int (ts.length:Nat)),is.getLast?.map fun i=>(Md.s,nT i)]:=by
  rw [ab,List.map_map]
  refine dS (fun p=>[some (m1,k.th),some (m,flatT k ts),some (.s,.lst (is.map nT)),some (.d,.int (ts.length:Nat)),p.getLast?.map fun i=>(Md.s,nT i)]) is [] fun p x r e=>⟨_,rfl,?_⟩
  have e':is = p ++ x :: r:=e
  have hx:x < ts.length:=hi x (by rw [e']; simp)
  simp_all only [Function.comp_apply,nT,decide_eq_true (show (0:Int) <= (x:Int) by omega),decide_eq_true (show (x:Int) < ((ts.length:Nat):Int) by omega),List.getLast?_append,List.getLast?_singleton,Option.some_or]
 simp_all only [ek,e1,lp,e2]
def ah (bs:List Bool):List T:=bs.map T.bl
def fw (bs:List Bool) (i:Nat):List Nat:=(bs.zipIdx i).filterMap fun p=>if p.1 then some p.2 else none
def dk:List T -> List Bool -> List T
 | t :: ts,true :: bs=>t :: dk ts bs
 | _ :: ts,false :: bs=>dk ts bs
 | _,_=>[]
theorem jM:∀ (bs:List Bool) (i:Nat),∀ j ∈ fw bs i,i <= j /\ j < i + bs.length
 | [],_,_,h=>by cases h
 | b :: bs,i,j,h=>by
  have ih:=jM bs (i + 1)
  cases b with
  | true =>
   rcases List.mem_cons.mp (show j ∈ i :: fw bs (i + 1) from h) with e | e
   ·subst e; simp
   ·have:=ih j e; simp; omega
  | false=>have:=ih j (show j ∈ fw bs (i + 1) from h); simp; omega
theorem gj:∀ (pre ts:List T) (bs:List Bool),bs.length = ts.length -> aB (pre ++ ts) (fw bs pre.length) = dk ts bs
 | pre,[],[],_=>rfl
 | pre,t :: ts,b :: bs,h=>by
  have ih:=gj (pre ++ [t]) ts bs (Nat.succ.inj h)
  rw [List.append_assoc,List.length_append] at ih
  cases b with
  | true =>
   show (pre ++ t :: ts).getD pre.length .non :: aB (pre ++ t :: ts) (fw bs (pre.length + 1)) = t :: dk ts bs
   rw [<- ih,List.getD_eq_getElem?_getD,List.getElem?_append_right (Nat.le_refl _),Nat.sub_self]; rfl
  | false=>exact ih
 | _,[],_ :: _,h=>by cases h
 | _,_ :: _,[],h=>by cases h
theorem fu:∀ (bs:List Bool) (i:Nat),cT .s i (ah bs) = (bs.zipIdx i).map fun p=>[(.d,.int (p.2:Int)),(.s,.bl p.1)]
 | [],_=>rfl
 | b :: bs,i=>by show _ :: cT .s (i + 1) (ah bs) = _; rw [fu bs]; rfl
theorem sr (k:Kd) (n:Nat) (ts:List T) (bs:List Bool) (m1 m m2:Md) (h:∀ t ∈ ts,OfK k t) (hl:bs.length = ts.length) (hs:szs ts <= LIM) (hs2:szs (dk ts bs) <= LIM):C (n + k.deep + 2) 16 [(m1,k.th),(m,flatT k ts),(m2,.lst (ah bs))] = .ok ((.d,flatT k (dk ts bs)),[]):=by
 have et:=gj [] ts bs hl
 rw [List.nil_append,List.length_nil] at et
 have e2:=fun m1 m m2=>bW k n ts (fw bs 0) m1 m m2 h (fun i z=>by have:=jM bs 0 i z; omega) hs (by rw [et]; exact hs2)
 rw [et] at e2
 rw [show n + k.deep + 2 = (n + k.deep + 1) + 1 from rfl,uR,x_run _ _ _ rfl]
 have c1:∀ o0 o1 o2,aD [3,4] (dU (evE (C (n + k.deep + 1)) (.var 4)) (evE (C (n + k.deep + 1)) (.var 3))) (cT .s 0 (ah bs)) [o0,o1,o2,none,none] [] = .ok ([] ++ (bs.zipIdx 0).filterMap fun p=>if p.1 then some (.d,.int (p.2:Int)) else none,[o0,o1,o2,none,none]):=by
  intro o0 o1 o2
  rw [fu]
  refine eT (tg:=[3,4]) (η:=[o0,o1,o2,none,none]) (g:=fun (p:Bool × Nat)=>[((.d,.int (p.2:Int)):W),(.s,.bl p.1)]) (fun p=>if p.1 then some ((.d,.int (p.2:Int)):W) else none) (bs.zipIdx 0) [] fun p hp=>⟨_,[o0,o1,o2,some (.d,.int (p.2:Int)),some (.s,.bl p.1)],rfl,?_,rfl⟩
  obtain ⟨b,i⟩:=p
  cases b with
  | true=>simp_all only [dU,if_true]
  | false=>simp_all only [dU,if_false]
 have e3:aK ((bs.zipIdx 0).filterMap fun p=>if p.1 then some (((.d,.int (p.2:Int)):W)) else none) = ab (fw bs 0):=by
  rw [fw]
  induction bs.zipIdx 0 with
  | nil=>rfl
  | cons p l ih =>
   obtain ⟨b,i⟩:=p
   cases b with
   | true=>exact congrArg (nT i :: ·) ih
   | false=>exact ih
 simp_all only [f7,c1,e3,e2]
def mgN:Nat -> Nat -> List Bool -> List Nat
 | _,_,[]=>[]
 | a,b,true :: bs=>a :: mgN (a + 1) b bs
 | a,b,false :: bs=>b :: mgN a (b + 1) bs
def mrg:List Bool -> List T -> List T -> List T
 | true :: bs,t :: ts,us=>t :: mrg bs ts us
 | false :: bs,ts,u :: us=>u :: mrg bs ts us
 | _,_,_=>[]
theorem iU:∀ (p:List Bool) (x:Bool) (a b:Nat),mgN a b (p ++ [x]) = mgN a b p ++ [if x then a + p.count true else b + p.count false]
 | [],x,a,b=>by cases x <;> rfl
 | true :: p,x,a,b=>by
  show a :: mgN (a + 1) b (p ++ [x]) = a :: (mgN (a + 1) b p ++ _)
  rw [iU p x,show (true :: p).count true = p.count true + 1 by simp,show (true :: p).count false = p.count false by simp,show a + 1 + p.count true = a + (p.count true + 1) by omega]
 | false :: p,x,a,b=>by
  show b :: mgN a (b + 1) (p ++ [x]) = b :: (mgN a (b + 1) p ++ _)
  rw [iU p x,show (false :: p).count true = p.count true by simp,show (false :: p).count false = p.count false + 1 by simp,show b + 1 + p.count false = b + (p.count false + 1) by omega]
theorem ir:∀ (p:List Bool) (a b:Nat),(mgN a b p).length = p.length
 | [],_,_=>rfl
 | true :: p,a,b=>by show (mgN (a + 1) b p).length + 1 = _; rw [ir p]; rfl
 | false :: p,a,b=>by show (mgN a (b + 1) p).length + 1 = _; rw [ir p]; rfl
theorem kz:∀ (bs:List Bool) (a b A B:Nat),a + bs.count true <= A -> b + bs.count false <= B -> A <= B -> ∀ i ∈ mgN a b bs,i < B \/ (i < A /\ A <= B)
 | [],_,_,_,_,_,_,_,_,h=>by cases h
 | true :: bs,a,b,A,B,h1,h2,h3,i,h=>by
  rw [show (true :: bs).count true = bs.count true + 1 by simp] at h1
  rw [show (true :: bs).count false = bs.count false by simp] at h2
  rcases List.mem_cons.mp (show i ∈ a :: mgN (a + 1) b bs from h) with e | e
  ·right; omega
  ·exact kz bs (a + 1) b A B (by omega) h2 h3 i e
 | false :: bs,a,b,A,B,h1,h2,h3,i,h=>by
  rw [show (false :: bs).count true = bs.count true by simp] at h1
  rw [show (false :: bs).count false = bs.count false + 1 by simp] at h2
  rcases List.mem_cons.mp (show i ∈ b :: mgN a (b + 1) bs from h) with e | e
  ·left; omega
  ·exact kz bs a (b + 1) A B h1 (by omega) h3 i e
theorem fZ:∀ (bs:List Bool) (p q ts us:List T),bs.count true = ts.length -> bs.count false = us.length -> aB ((p ++ ts) ++ (q ++ us)) (mgN p.length ((p ++ ts).length + q.length) bs) = mrg bs ts us
 | [],p,q,[],[],_,_=>rfl
 | true :: bs,p,q,t :: ts,us,h1,h2=>by
  rw [show (true :: bs).count true = bs.count true + 1 by simp] at h1
  rw [show (true :: bs).count false = bs.count false by simp] at h2
  have ih:=fZ bs (p ++ [t]) q ts us (Nat.succ.inj h1) h2
  rw [show p ++ [t] ++ ts = p ++ t :: ts by simp,show (p ++ [t]).length = p.length + 1 by simp] at ih
  show ((p ++ t :: ts) ++ (q ++ us)).getD p.length .non :: aB ((p ++ t :: ts) ++ (q ++ us)) (mgN (p.length + 1) _ bs) = t :: mrg bs ts us
  rw [ih,List.getD_eq_getElem?_getD,List.append_assoc,List.getElem?_append_right (Nat.le_refl _),Nat.sub_self]; rfl
 | false :: bs,p,q,ts,u :: us,h1,h2=>by
  rw [show (false :: bs).count true = bs.count true by simp] at h1
  rw [show (false :: bs).count false = bs.count false + 1 by simp] at h2
  have ih:=fZ bs p (q ++ [u]) ts us h1 (Nat.succ.inj h2)
  rw [show q ++ [u] ++ us = q ++ u :: us by simp,show (q ++ [u]).length = q.length + 1 by simp,<- Nat.add_assoc] at ih
  show ((p ++ ts) ++ (q ++ u :: us)).getD ((p ++ ts).length + q.length) .non :: aB ((p ++ ts) ++ (q ++ u :: us)) (mgN p.length ((p ++ ts).length + q.length + 1) bs) = u :: mrg bs ts us
  rw [ih,List.getD_eq_getElem?_getD,List.getElem?_append_right (by omega),Nat.add_sub_cancel_left,List.getElem?_append_right (Nat.le_refl _),Nat.sub_self]; rfl
 | [],_,_,_ :: _,_,h,_=>by cases h
 | [],_,_,[],_ :: _,_,h=>by cases h
 | true :: bs,_,_,[],_,h,_=>by simp at h
 | false :: bs,_,_,_,[],_,h=>by simp at h
theorem lb (bs:List Bool):bs.count true + bs.count false = bs.length:=by
 induction bs with
 | nil=>rfl
 | cons b bs ih=>cases b <;> simp <;> omega
theorem mT (k:Kd) (n:Nat) (bs:List Bool) (ts us:List T) (m1 m0 m m2:Md) (h:∀ t ∈ ts,OfK k t) (h':∀ t ∈ us,OfK k t) (h1:bs.count true = ts.length) (h2:bs.count false = us.length) (hs:szs ts + szs us <= LIM) (hs2:szs (mrg bs ts us) <= LIM) :
  C (n + k.deep + 2) 17 [(m1,k.th),(m0,.lst (ah bs)),(m,flatT k ts),(m2,flatT k us)] = .ok ((.d,flatT k (mrg bs ts us)),[]):=by
 have hb:=lb bs
 have l1:=bp ts
 have l2:=bp us
 have et:=fZ bs [] [] ts us h1 h2
 rw [List.nil_append,List.nil_append,List.length_nil,Nat.add_zero] at et
 have e0:=fun m1 m=>many k n ts m1 m
 have e1:=fun m1 m m2=>dR k n ts us m1 m m2 h h' hs
 have e2:=fun m1 m m2=>bW k n (ts ++ us) (mgN 0 ts.length bs) m1 m m2 (fun t z=>(List.mem_append.mp z).elim (h t) (h' t)) (fun i z=>by
  rw [List.length_append]
  rcases kz bs 0 ts.length ts.length (ts.length + us.length) (by omega) (by omega) (by omega) i z with q | q <;> omega) (by rw [iF]; exact hs) (by rw [et]; exact hs2)
 rw [et] at e2
 rw [show n + k.deep + 2 = (n + k.deep + 1) + 1 from rfl,nV,x_run _ _ _ rfl]
 have lp:dX [7] (evSs (C (n + k.deep + 1)) [.ite (.q [] [7]) (.var 7) [.app (.q [] [5]) 4 (.var 5),.asg (.q [] [5]) 5 (.op .add false [.var 5,.cst (.int 1)])] [.app (.q [] [6]) 4 (.var 6),.asg (.q [] [6]) 6 (.op .add false [.var 6,.cst (.int 1)])]]) ((ah bs).map fun t=>[((Md.s,t):W)])
   [some (m1,k.th),some (.s,.lst (ah bs)),some (m,flatT k ts),some (m2,flatT k us),some (.d,.lst []),some (.d,.int 0),some (.d,.int (ts.length:Nat)),none] =
   .nx [some (m1,k.th),some (.s,.lst (ah bs)),some (m,flatT k ts),some (m2,flatT k us),some (.d,.lst (ab (mgN 0 ts.length bs))),some (.d,.int ((bs.count true:Nat):Int)),some (.d,.int (((ts.length + bs.count false:Nat)):Int)),bs.getLast?.map fun b=>(Md.s,T.bl b)]:=by
  rw [ah,List.map_map]
  refine dS (fun p=>[some (m1,k.th),some (.s,.lst (bs.map T.bl)),some (m,flatT k ts),some (m2,flatT k us),some (.d,.lst (ab (mgN 0 ts.length p))),some (.d,.int ((p.count true:Nat):Int)),some (.d,.int (((ts.length + p.count false:Nat)):Int)),p.getLast?.map fun b=>(Md.s,T.bl b)]) bs [] fun p x r e=>⟨_,rfl,?_⟩
  have e':bs = p ++ x :: r:=e
  have hl:(ab (mgN 0 ts.length p)).length < LIM:=by
   rw [bL,ir]
   have:=congrArg List.length e'
   rw [List.length_append,List.length_cons] at this
   omega
  have g1:ab (mgN 0 ts.length (p ++ [x])) = ab (mgN 0 ts.length p) ++ [nT (if x then p.count true else ts.length + p.count false)]:=by rw [iU,ab,List.map_append,Nat.zero_add]; rfl
  cases x with
  | true =>
   rw [if_pos rfl] at g1
   have g2:(((p ++ [true]).count true:Nat):Int) = (p.count true:Int) + 1:=by rw [List.count_append]; simp
   have g3:(p ++ [true]).count false = p.count false:=by rw [List.count_append]; simp
   simp_all only [Function.comp_apply,nT,if_pos hl,g1,g2,g3,List.getLast?_append,List.getLast?_singleton,Option.some_or]
  | false =>
   rw [if_neg Bool.false_ne_true] at g1
   have g2:(((ts.length + (p ++ [false]).count false:Nat)):Int) = ((ts.length + p.count false:Nat):Int) + 1:=by rw [List.count_append]; simp; omega
   have g3:(p ++ [false]).count true = p.count true:=by rw [List.count_append]; simp
   simp_all only [Function.comp_apply,nT,if_pos hl,g1,g2,g3,List.getLast?_append,List.getLast?_singleton,Option.some_or]
 simp_all only [dm,e0,lp,e1,e2]
def df:Nat -> List Nat -> List Nat
 | _,[]=>[]
 | i,l :: ls=>List.replicate l i ++ df (i + 1) ls
def cH:List T -> List Nat -> List T
 | t :: ts,l :: ls=>List.replicate l t ++ cH ts ls
 | _,_=>[]
theorem jo:∀ (p:List Nat) (x i:Nat),df i (p ++ [x]) = df i p ++ List.replicate x (i + p.length)
 | [],x,i=>by show List.replicate x i ++ [] = _; rw [List.append_nil]; rfl
 | l :: p,x,i=>by
  show List.replicate l i ++ df (i + 1) (p ++ [x]) = List.replicate l i ++ df (i + 1) p ++ _
  rw [jo p x,List.append_assoc,show i + 1 + p.length = i + (l :: p).length by simp; omega]
theorem lW:∀ (ls:List Nat) (i:Nat),∀ j ∈ df i ls,i <= j /\ j < i + ls.length
 | [],_,_,h=>by cases h
 | l :: ls,i,j,h=>by
  rcases List.mem_append.mp (show j ∈ List.replicate l i ++ df (i + 1) ls from h) with e | e
  ·have:=(List.mem_replicate.mp e).2; subst this; simp
  ·have:=lW ls (i + 1) j e; simp; omega
theorem jf:∀ (ls:List Nat) (i:Nat),(df i ls).length = ls.sum
 | [],_=>rfl
 | l :: ls,i=>by show (List.replicate l i ++ df (i + 1) ls).length = _; rw [List.length_append,List.length_replicate,jf ls,List.sum_cons]
theorem ig:∀ (pre ts:List T) (ls:List Nat),ls.length = ts.length -> aB (pre ++ ts) (df pre.length ls) = cH ts ls
 | pre,[],[],_=>rfl
 | pre,t :: ts,l :: ls,h=>by
  have ih:=ig (pre ++ [t]) ts ls (Nat.succ.inj h)
  rw [List.append_assoc,List.length_append] at ih
  show aB (pre ++ t :: ts) (List.replicate l pre.length ++ df (pre.length + 1) ls) = List.replicate l t ++ cH ts ls
  rw [<- ih,aB,List.map_append,List.map_replicate,List.getD_eq_getElem?_getD,List.getElem?_append_right (Nat.le_refl _),Nat.sub_self]; rfl
 | _,[],_ :: _,h=>by cases h
 | _,_ :: _,[],h=>by cases h
theorem ic:∀ (ls:List Nat) (i:Nat),cT .s i (ab ls) = (ls.zipIdx i).map fun p=>[(.d,.int (p.2:Int)),(.s,nT p.1)]
 | [],_=>rfl
 | b :: bs,i=>by show _ :: cT .s (i + 1) (ab bs) = _; rw [ic bs]; rfl
theorem eG {α:Type} (a:α):∀ k:Nat,(List.replicate k [a]).flatten = List.replicate k a
 | 0=>rfl
 | k + 1=>by rw [List.replicate_succ,List.flatten_cons,eG a k]; rfl
theorem mK (k:Kd) (n:Nat) (ts:List T) (ls:List Nat) (m1 m m2:Md) (h:∀ t ∈ ts,OfK k t) (hl:ls.length = ts.length) (hs:szs ts <= LIM) (hb:ls.sum <= LIM) (hs2:szs (cH ts ls) <= LIM):C (n + k.deep + 2) 18 [(m1,k.th),(m,flatT k ts),(m2,.lst (ab ls))] = .ok ((.d,flatT k (cH ts ls)),[]):=by
 have et:=ig [] ts ls hl
 rw [List.nil_append,List.length_nil] at et
 have hL:LIM = 16777215:=rfl
 have e2:=fun m1 m m2=>bW k n ts (df 0 ls) m1 m m2 h (fun i z=>by have:=lW ls 0 i z; omega) hs (by rw [et]; exact hs2)
 rw [et] at e2
 rw [show n + k.deep + 2 = (n + k.deep + 1) + 1 from rfl,nD,x_run _ _ _ rfl]
 have lp:∃ o4 o5,dX [4,5] (evSs (C (n + k.deep + 1)) [.ext (.q [] [4,5]) 3 (.op .mul false [.lst false [.var 4],.var 5])]) (cT .s 0 (ab ls)) [some (m1,k.th),some (m,flatT k ts),some (.s,.lst (ab ls)),some (.o .s,.lst []),none,none] =
   .nx [some (m1,k.th),some (m,flatT k ts),some (.s,.lst (ab ls)),some (.o .s,.lst (ab (df 0 ls))),o4,o5]:=by
  rw [ic]
  obtain ⟨η',e,o4,o5,rfl⟩:=dw (tg:=[4,5]) (f:=evSs (C (n + k.deep + 1)) [.ext (.q [] [4,5]) 3 (.op .mul false [.lst false [.var 4],.var 5])]) (g:=fun (p:Nat × Nat)=>[((.d,.int (p.2:Int)):W),(.s,nT p.1)])
   (fun p η=>∃ o4 o5,η = [some (m1,k.th),some (m,flatT k ts),some (.s,.lst (ab ls)),some (.o .s,.lst (ab (df 0 (p.map Prod.fst)))),o4,o5]) (ls.zipIdx 0) [] [some (m1,k.th),some (m,flatT k ts),some (.s,.lst (ab ls)),some (.o .s,.lst []),none,none] ⟨none,none,rfl⟩ (fun p x r η e ⟨o4,o5,he⟩=>by
    subst he
    obtain ⟨l,i⟩:=x
    have e':ls.zipIdx 0 = p ++ (l,i) :: r:=e
    have hi:i = p.length:=by
     have:=congrArg (fun z=>z[p.length]?) e'
     simp only [List.getElem?_append_right (Nat.le_refl _),Nat.sub_self,List.getElem?_cons_zero] at this
     rw [List.getElem?_zipIdx] at this
     obtain ⟨y,_,hy⟩:=Option.map_eq_some_iff.mp this
     have:=congrArg Prod.snd hy
     simp at this; omega
    have hls:ls = p.map Prod.fst ++ l :: r.map Prod.fst:=by
     have:=congrArg (List.map Prod.fst) e'
     rw [List.zipIdx_map_fst,List.map_append] at this
     exact this
    have hsum:(p.map Prod.fst).sum + l <= LIM:=by
     have:=congrArg List.sum hls
     rw [List.sum_append,List.sum_cons] at this
     omega
    have d1:decide ((l:Int).natAbs < 4611686018427387904) = true:=decide_eq_true (by omega)
    have d2:fits ([T.int (i:Int)].length * l) = true:=decide_eq_true (by simp; omega)
    have d3:(ab (df 0 (p.map Prod.fst))).length + (List.replicate l (T.int (i:Int))).length <= LIM:=by rw [bL,jf,List.length_replicate]; exact hsum
    have d4:ab (df 0 ((p ++ [(l,i)]).map Prod.fst)) = ab (df 0 (p.map Prod.fst)) ++ List.replicate l (T.int (i:Int)):=by
     rw [List.map_append,show ([(l,i)]:List (Nat × Nat)).map Prod.fst = [l] from rfl,jo,ab,List.map_append,List.map_replicate,Nat.zero_add,List.length_map,hi]; rfl
    refine ⟨_,_,rfl,?_,some (.d,.int (i:Int)),some (.s,nT l),rfl⟩
    simp_all only [nT,d1,d2,Int.toNat_natCast,eG,if_pos d3,d4])
  refine ⟨o4,o5,?_⟩
  rw [e,List.nil_append,List.zipIdx_map_fst]
 obtain ⟨o4,o5,lp⟩:=lp
 simp_all only [dD,lp,e2]
theorem bT {α:Type} {f:Env -> Res (Option W × Env)} {s:Nat} {g:α -> W} (E:T -> Env) (E':T -> W -> Env) {P:Option W -> Prop} {c:Nat} (hb:∀ t w,aJ [s] [w] (E t) = some (E' t w)) (hd:∀ t w,ak [s] (E' t w) = E t)
  (hf:∀ N t w,Tp N t -> N + c < 1000000000000000000 -> ∃ o t',P o /\ Tp (N + c) t' /\ f (E' t w) = .ok (o,E' t' w)):∀ (l:List α) (N:Nat) (t:T),Tp N t -> N + l.length * c < 1000000000000000000 ->
  ∃ (os:List (Option W)) (t':T),os.length = l.length /\ (∀ o ∈ os,P o) /\ Tp (N + l.length * c) t' /\ ∀ acc,aD [s] f (l.map fun x=>[g x]) (E t) acc = .ok (acc ++ os.filterMap id,E t')
 | [],N,t,ht,_=>⟨[],t,rfl,(fun _ h=>nomatch h),by simpa using ht,fun acc=>by rw [List.filterMap_nil,List.append_nil]; rfl⟩
 | x :: l,N,t,ht,hN=>by
  rw [List.length_cons,Nat.succ_mul] at hN
  obtain ⟨o,t1,h1,h2,h3⟩:=hf N t (g x) ht (by omega)
  obtain ⟨os,t2,k1,k2,k3,k4⟩:=bT E E' hb hd hf l (N + c) t1 h2 (by omega)
  refine ⟨o :: os,t2,by rw [List.length_cons,List.length_cons,k1],fun q hq=>(List.mem_cons.mp hq).elim (fun e=>e ▸ h1) (k2 q),by rw [List.length_cons,Nat.succ_mul]; exact tm k3 (by omega),fun acc=>?_⟩
  rw [List.map_cons]
  show (ofO (aJ [s] [g x] (E t))).bind _ = _
  rw [hb]
  show (f (E' t (g x))).bind _ = _
  rw [h3]
  show aD [s] f (l.map fun x=>[g x]) (ak [s] (E' t1 (g x))) (acc ++ o.toList) = _
  rw [hd,k4,List.append_assoc,List.filterMap_cons]
  cases o <;> rfl
theorem eQ {mm:Int} (h0:0 <= mm) (h1:mm <= 1000000):decide (mm.natAbs < 4611686018427387904) = true /\ fits mm.toNat = true:=⟨decide_eq_true (by omega),decide_eq_true (by show mm.toNat <= 16777215; omega)⟩
theorem jg {P:W -> Prop}:∀ {os:List (Option W)},(∀ o ∈ os,∃ w,o = some w /\ P w) -> ∃ ws:List W,os.filterMap id = ws /\ ws.length = os.length /\ ∀ w ∈ ws,P w
 | [],_=>⟨[],rfl,rfl,(fun _ h=>nomatch h)⟩
 | o :: os,h=>by
  obtain ⟨w,rfl,hw⟩:=h o List.mem_cons_self
  obtain ⟨ws,e,l,k⟩:=jg fun q hq=>h q (List.mem_cons_of_mem _ hq)
  exact ⟨w :: ws,by show w :: os.filterMap id = _; rw [e],by rw [List.length_cons,List.length_cons,l],fun v hv=>(List.mem_cons.mp hv).elim (fun e=>e ▸ hw) (k v)⟩
theorem lX {c:Int}:∀ {ws:List W},(∀ w ∈ ws,∃ r:Nat,w = (.d,nT r) /\ (r:Int) < c) -> ∃ rs:List Nat,ws = rs.map (fun r=>((.d,nT r):W)) /\ ∀ r ∈ rs,(r:Int) < c
 | [],_=>⟨[],rfl,(fun _ h=>nomatch h)⟩
 | w :: ws,h=>by
  obtain ⟨r,rfl,hr⟩:=h w List.mem_cons_self
  obtain ⟨rs,rfl,k⟩:=lX fun v hv=>h v (List.mem_cons_of_mem _ hv)
  exact ⟨r :: rs,rfl,fun v hv=>(List.mem_cons.mp hv).elim (fun e=>e ▸ hr) (k v)⟩
theorem jt:∀ {ws:List W},(∀ w ∈ ws,∃ b:Bool,w = (.d,.bl b)) -> ∃ bs:List Bool,ws = bs.map (fun b=>((.d,.bl b):W))
 | [],_=>⟨[],rfl⟩
 | w :: ws,h=>by
  obtain ⟨b,rfl⟩:=h w List.mem_cons_self
  obtain ⟨bs,rfl⟩:=jt fun v hv=>h v (List.mem_cons_of_mem _ hv)
  exact ⟨b :: bs,rfl⟩
def Ok (k:Kd) (N:Nat) (us:List T):Prop:=(∀ t ∈ us,OfK k t /\ sz t <= B k.deep) /\ us.length <= N
theorem l8 {b:Nat}:∀ {ts:List T},(∀ t ∈ ts,sz t <= b) -> szs ts <= ts.length * b
 | [],_=>Nat.zero_le _
 | t :: ts,h=>by
  have h1:=h t List.mem_cons_self
  have h2:=l8 fun v hv=>h v (List.mem_cons_of_mem _ hv)
  show sz t + szs ts <= _
  rw [List.length_cons,Nat.succ_mul]; omega
theorem Ok.szs {k:Kd} {N:Nat} {us:List T} (h:Ok k N us):szs us <= N * B k.deep:=Nat.le_trans (l8 fun t ht=>(h.1 t ht).2) (Nat.mul_le_mul_right _ h.2)
theorem Ok.of {k:Kd} {N:Nat} {us:List T} (h:Ok k N us):∀ t ∈ us,OfK k t:=fun t ht=>(h.1 t ht).1
theorem pS {k:Kd}:∀ {ws:List W},(∀ w ∈ ws,OfK k w.2 /\ sz w.2 <= B k.deep) -> ∀ {N:Nat},ws.length <= N -> Ok k N (aK ws):=fun {ws} h {N} hl=>⟨fun t ht=>by
 obtain ⟨w,hw,rfl⟩:=eV ht
 exact h w hw,by rw [eX]; exact hl⟩
theorem Ap (n:Nat) (i:Int) (m1 m2:Md) (h:i.natAbs <= 1000000000000000000):C (n + 2) 2 [(m1,Kd.num.th),(m2,.int i)] = .ok ((.d,.bl true),[]):=by
 have e1:∀ m,C (n + 1) 3 [(m,.int i)] = .ok ((.d,.bl true),[]):=fun m=>by
  rw [i9,x_run _ _ _ rfl]
  simp_all only [bI,List.any_cons,List.any_nil,pY,show isOne "int" (.int i) = true from rfl,Bool.or_false,Bool.or_true,decide_eq_true (show -1000000000000000000 <= i by omega),decide_eq_true (show i <= 1000000000000000000 by omega)]
 rw [fh,x_run _ _ _ rfl]
 simp_all only [bz,Kd.th,qeq,e1]
theorem u0 (n:Nat) (b:Bool) (m1 m2:Md):C (n + 1) 2 [(m1,Kd.truth.th),(m2,.bl b)] = .ok ((.d,.bl true),[]):=by
 rw [fh,x_run _ _ _ rfl]
 simp_all only [bz,Kd.th,qeq,List.any_cons,List.any_nil,qS,Bool.or_false]
theorem lS (n:Nat) (ts:List T) (m1 m m2:Md) (h:∀ t ∈ ts,OfK .num t):C (n + 3) 8 [(m1,Kd.num.th),(m,.lst ts),(m2,.int (ts.length:Nat))] = .ok ((.d,.bl true),[]):=by
 rw [cI,x_run _ _ _ rfl]
 have c1:∀ o0,aD [3] (bK (evE (C (n + 2)) (.call 2 [.var 0,.var 3]))) (ts.map fun t=>[((.s,t):W)]) [some (.s,Kd.num.th),some (.s,.lst ts),o0,none] [] = .ok ([] ++ ts.map fun _=>(.d,.bl true),[some (.s,Kd.num.th),some (.s,.lst ts),o0,none]):=fun o0=>by
  refine aQ (fun _=>((.d,.bl true):W)) ts [] fun u hu=>⟨_,[some (.s,Kd.num.th),some (.s,.lst ts),o0,some (.s,u)],rfl,?_,rfl⟩
  obtain ⟨i,rfl,hi⟩:=h u hu
  have:=fun m1 m2=>Ap n i m1 m2 hi
  simp_all only [this]
 unfold Kd.th at c1
 simp_all only [a7,Kd.th,qeq,List.any_cons,List.any_nil,pM,Bool.or_false,beq_self_eq_true,c1,ax (fun _=>Md.d),bB,cD]
theorem mN (n:Nat) (ts:List T) (m1 m m2:Md) (h:∀ t ∈ ts,OfK .truth t):C (n + 3) 8 [(m1,Kd.truth.th),(m,.lst ts),(m2,.int (ts.length:Nat))] = .ok ((.d,.bl true),[]):=by
 rw [cI,x_run _ _ _ rfl]
 have c1:∀ o0,aD [3] (bK (evE (C (n + 2)) (.call 2 [.var 0,.var 3]))) (ts.map fun t=>[((.s,t):W)]) [some (.s,Kd.truth.th),some (.s,.lst ts),o0,none] [] = .ok ([] ++ ts.map fun _=>(.d,.bl true),[some (.s,Kd.truth.th),some (.s,.lst ts),o0,none]):=fun o0=>by
  refine aQ (fun _=>((.d,.bl true):W)) ts [] fun u hu=>⟨_,[some (.s,Kd.truth.th),some (.s,.lst ts),o0,some (.s,u)],rfl,?_,rfl⟩
  obtain ⟨b,rfl⟩:=h u hu
  have:=fun m1 m2=>u0 (n + 1) b m1 m2
  simp_all only [this]
 unfold Kd.th at c1
 simp_all only [a7,Kd.th,qeq,List.any_cons,List.any_nil,pM,Bool.or_false,beq_self_eq_true,c1,ax (fun _=>Md.d),bB,cD]
theorem oi (n:Nat) (x y:T) (m:Md):C (n + 1) 9 [(m,.tup [x,y])] = .ok ((.d,.bl true),[]):=by
 rw [iL,x_run _ _ _ rfl]
 simp_all only [bH,List.any_cons,List.any_nil,vp,Bool.or_false,show ((([x,y]:List T).length:Int) == 2) = true from rfl]
theorem t8 (n:Nat) (l:List Nat) (m m2:Md) (h:∀ i ∈ l,i <= 200):C (n + 4) 10 [(m,.lst (ab l)),(m2,.int (l.length:Nat))] = .ok ((.d,.bl true),[]):=by
 rw [gm,x_run _ _ _ rfl]
 have e1:=fun m1 m m2=>lS n (ab l) m1 m m2 fun t ht=>by
  obtain ⟨i,hi,rfl⟩:=List.mem_map.mp ht
  have:=h i hi
  exact ⟨i,rfl,by omega⟩
 rw [bL] at e1
 unfold Kd.th at e1
 have c1:∀ o0 o1,aD [2] (bK (evE (C (n + 3)) (.chain .le .le (.cst (.int 0)) (.var 2) (.cst (.int 200))))) ((ab l).map fun t=>[((.s,t):W)]) [o0,o1,none] [] = .ok ([] ++ (ab l).map fun _=>(.d,.bl true),[o0,o1,none]):=fun o0 o1=>by
  refine aQ (fun _=>((.d,.bl true):W)) (ab l) [] fun u hu=>⟨_,[o0,o1,some (.s,u)],rfl,?_,rfl⟩
  obtain ⟨i,hi,rfl⟩:=List.mem_map.mp hu
  have:=h i hi
  simp_all only [nT,decide_eq_true (show (0:Int) <= (i:Int) by omega),decide_eq_true (show (i:Int) <= 200 by omega)]
 simp_all only [aZ,e1,c1,ax (fun _=>Md.d),bB,cD]
theorem iW:∀ (k:Kd) (n:Nat) (ts:List T) (m1 m m2:Md),(∀ t ∈ ts,OfK k t) -> C (n + k.deep + 4) 8 [(m1,k.th),(m,flatT k ts),(m2,.int (ts.length:Nat))] = .ok ((.d,.bl true),[])
 | .num,n,ts,m1,m,m2,h=>lS (n + 1) ts m1 m m2 h
 | .truth,n,ts,m1,m,m2,h=>mN (n + 1) ts m1 m m2 h
 | .pair a b,n,ts,m1,m,m2,h=>by
  have e1:=fun m1 m m2=>iW a (n + (max a.deep b.deep - a.deep)) (ts.map fst) m1 m m2 (aY h).1
  have e2:=fun m1 m m2=>iW b (n + (max a.deep b.deep - b.deep)) (ts.map snd) m1 m m2 (aY h).2
  rw [show n + (max a.deep b.deep - a.deep) + a.deep + 4 = n + max a.deep b.deep + 4 by omega,List.length_map] at e1
  rw [show n + (max a.deep b.deep - b.deep) + b.deep + 4 = n + max a.deep b.deep + 4 by omega,List.length_map] at e2
  rw [show n + (Kd.pair a b).deep + 4 = (n + max a.deep b.deep + 4) + 1 by show n + (max a.deep b.deep + 1) + 4 = _; omega,cI,x_run _ _ _ rfl]
  simp_all only [a7,Kd.th,qeq,flatT,oi,e1,e2]
 | .row a,n,ts,m1,m,m2,h=>by
  have e1:=fun m1 m m2=>iW a n (ts.flatMap aH) m1 m m2 (cc h)
  have e2:=fun m m2=>t8 (n + a.deep) (aL ts) m m2 fun i hi=>by
   obtain ⟨t,ht,rfl⟩:=List.mem_map.mp hi
   obtain ⟨us,rfl,hu,_⟩:=h t ht
   exact hu
  rw [dq] at e2
  rw [show n + (Kd.row a).deep + 4 = (n + a.deep + 4) + 1 by show n + (a.deep + 1) + 4 = _; omega,cI,x_run _ _ _ rfl]
  simp_all only [a7,Kd.th,qeq,flatT,dJ,oi,e2,dC,mj,dh,e1]
theorem gh {k:Kd} {n:Nat} (h:k.deep <= 3) {j:Nat} (hj:j + 3 <= n):∃ i,n = i + k.deep + j:=⟨n - k.deep - j,by omega⟩
theorem more {n N:Nat} {t:T} {k:Kd} (hk:k.deep <= 3) (hn:7 <= n) (m:Md) (ht:Tp N t) (hN:N + 50000 < 1000000000000000000) :
  ∃ md us t',Ok k 3 us /\ Tp (N + 50000) t' /\ C (n + 1) 25 [(.d,t),(m,k.th)] = .ok ((md,.lst us),[(.d,t')]):=by
 have hD:D k.deep <= 13174:=Nat.le_trans (gu hk) (by decide)
 obtain ⟨n2,hn2⟩:∃ i,n = i + 2:=⟨n - 2,by omega⟩
 obtain ⟨n4,hn4⟩:=gh (k:=k) (n:=n) (j:=4) hk (by omega)
 obtain ⟨r,t1,r0,r1,ht1,e1⟩:=cV (n:=n2) .d 4 ht (by omega) (by decide) (by decide)
 rw [<- hn2] at e1
 obtain ⟨b1,b2⟩:=eQ (mm:=r) r0 (by omega)
 obtain ⟨os,t2,h1,h2,h3,h4⟩:=bT (s:=2) (g:=fun (k:Nat)=>((.d,.int k):W)) (f:=bK (evE (C n) (.call 23 [.io 0,.var 1,.cst (.bl true)]))) (fun t=>[some (.d,t),some (.s,k.th),none]) (fun t w=>[some (.d,t),some (.s,k.th),some w]) (P:=fun o=>∃ w,o = some w /\ OfK k w.2 /\ sz w.2 <= B k.deep) (c:=D k.deep) (fun _ _=>rfl) (fun _ _=>rfl) (fun N t w ht hN=>by
   obtain ⟨md,v,t',q1,q2,q3,q4,q5⟩:=worth k n4 true .s ht hN
   rw [<- hn4] at q5
   refine ⟨some (md,v),t',⟨_,rfl,q1,q2⟩,q4,?_⟩
   simp_all only [q5]) (List.range r.toNat) _ t1 ht1 (by rw [List.length_range]; have:=Nat.mul_le_mul (show r.toNat <= 3 by omega) hD; omega)
 obtain ⟨ws,w1,w2,w3⟩:=jg h2
 rw [List.length_range] at h1 h3
 have h5:=h4 []
 rw [w1] at h5
 rw [jS,x_run _ _ _ rfl]
 simp_all only [bZ,e1,b1,b2,h5]
 exact ⟨_,_,_,pS w3 (by omega),tm h3 (by have:=Nat.mul_le_mul (show r.toNat <= 3 by omega) hD; omega),rfl⟩
theorem n0:∀ (bs:List Bool) (p q:List T) (t:T),bs.count true = p.length -> bs.count false = q.length -> mrg (bs ++ [true]) (p ++ [t]) q = mrg bs p q ++ [t]
 | [],[],[],t,_,_=>rfl
 | true :: bs,x :: p,q,t,h1,h2=>by
  show x :: mrg (bs ++ [true]) (p ++ [t]) q = x :: (mrg bs p q ++ [t])
  rw [n0 bs p q t (by simpa using h1) (by simpa using h2)]
 | false :: bs,p,x :: q,t,h1,h2=>by
  show x :: mrg (bs ++ [true]) (p ++ [t]) q = x :: (mrg bs p q ++ [t])
  rw [n0 bs p q t (by simpa using h1) (by simpa using h2)]
 | [],_ :: _,_,_,h,_=>by cases h
 | [],[],_ :: _,_,_,h=>by cases h
 | true :: bs,[],_,_,h,_=>by simp at h
 | false :: bs,_,[],_,_,h=>by simp at h
theorem oR:∀ (bs:List Bool) (p q:List T) (t:T),bs.count true = p.length -> bs.count false = q.length -> mrg (bs ++ [false]) p (q ++ [t]) = mrg bs p q ++ [t]
 | [],[],[],t,_,_=>rfl
 | true :: bs,x :: p,q,t,h1,h2=>by
  show x :: mrg (bs ++ [false]) p (q ++ [t]) = x :: (mrg bs p q ++ [t])
  rw [oR bs p q t (by simpa using h1) (by simpa using h2)]
 | false :: bs,p,x :: q,t,h1,h2=>by
  show x :: mrg (bs ++ [false]) p (q ++ [t]) = x :: (mrg bs p q ++ [t])
  rw [oR bs p q t (by simpa using h1) (by simpa using h2)]
 | [],_ :: _,_,_,h,_=>by cases h
 | [],[],_ :: _,_,_,h=>by cases h
 | true :: bs,[],_,_,h,_=>by simp at h
 | false :: bs,_,[],_,_,h=>by simp at h
theorem iy:∀ (bs:List Bool) (p q:List T) (t:T),t ∈ mrg bs p q -> t ∈ p \/ t ∈ q
 | [],p,q,t,h=>by cases p <;> cases q <;> cases h
 | true :: bs,x :: p,q,t,h=>by
  rcases List.mem_cons.mp (show t ∈ x :: mrg bs p q from h) with e | e
  ·exact .inl (e ▸ List.mem_cons_self)
  ·exact (iy bs p q t e).imp (List.mem_cons_of_mem _) id
 | false :: bs,p,x :: q,t,h=>by
  rcases List.mem_cons.mp (show t ∈ x :: mrg bs p q from h) with e | e
  ·exact .inr (e ▸ List.mem_cons_self)
  ·exact (iy bs p q t e).imp id (List.mem_cons_of_mem _)
 | true :: bs,[],q,t,h=>by cases q <;> cases h
 | false :: bs,p,[],t,h=>by cases p <;> cases h
theorem fH:∀ (bs:List Bool) (p q:List T),(mrg bs p q).length <= bs.length
 | [],p,q=>by cases p <;> cases q <;> exact Nat.le_refl _
 | true :: bs,x :: p,q=>Nat.succ_le_succ (fH bs p q)
 | false :: bs,p,x :: q=>Nat.succ_le_succ (fH bs p q)
 | true :: bs,[],q=>by cases q <;> exact Nat.zero_le _
 | false :: bs,p,[]=>by cases p <;> exact Nat.zero_le _
theorem fk {k:Kd} (hk:k.deep <= 3) {N:Nat} (hN:N <= 60):N * B k.deep <= LIM:=by
 have h1:B k.deep <= 2640:=Nat.le_trans (iA hk) (by decide)
 have h2:=Nat.mul_le_mul hN h1
 have:(60 * 2640:Nat) <= LIM:=by decide
 omega
theorem zY {n N:Nat} {t:T} {k:Kd} {us:List T} (hk:k.deep <= 3) (hn:9 <= n) (m1 m2 m3:Md) (hu:Ok k 10 us) (ht:Tp N t) (hN:N + 60000 < 1000000000000000000) :
  ∃ md vs t',Ok k 30 vs /\ Tp (N + 60000) t' /\ C (n + 1) 26 [(.d,t),(m1,k.th),(m2,.lst us),(m3,flatT k us)] = .ok ((md,.tup [.lst vs,flatT k vs]),[(.d,t')]):=by
 obtain ⟨n1,hn1⟩:∃ i,n = i + 1:=⟨n - 1,by omega⟩
 obtain ⟨n2,hn2⟩:∃ i,n = i + 2:=⟨n - 2,by omega⟩
 obtain ⟨i1,hi1⟩:=gh (k:=k) (n:=n) (j:=1) hk (by omega)
 obtain ⟨i2,hi2⟩:=gh (k:=k) (n:=n) (j:=2) hk (by omega)
 obtain ⟨md,vs,t1,hv,ht1,e1⟩:=more (n:=n1) hk (by omega) .s ht (by omega)
 rw [<- hn1] at e1
 obtain ⟨η',ew,t',bs,o9,he,ht',c1,c2⟩:=mz (c:=evT (C n) (.l []) (.op .gt false [.op .add false [.lenV 5,.lenV 6],.cst (.int 0)])) (f:=evSs (C n) [
   .asg (.l []) 9 (.or (.op .eq false [.lenV 6,.cst (.int 0)]) (.and (.op .gt false [.lenV 5,.cst (.int 0)]) (.op .eq false [.call 20 [.io 0,.cst (.int 2)],.cst (.int 1)]))),
   .app (.q [] [9]) 7 (.var 9),
   .ite (.q [] [9]) (.var 9) [
    .app (.l []) 8 (.pop 5 [.cst (.int 0)])] [
    .app (.l []) 8 (.pop 6 [.cst (.int 0)])]])
  (fun m η=>∃ t' bs p q mine yours o9,η = [some (.d,t'),some (.s,k.th),some (.s,.lst us),some (m3,flatT k us),some (.s,.lst vs),some (.o .s,.lst mine),some (.o .s,.lst yours),some (.o .s,.lst (ah bs)),some (.o .s,.lst (mrg bs p q)),o9] /\
   Tp (N + 50000 + bs.length) t' /\ us = p ++ mine /\ vs = q ++ yours /\ bs.count true = p.length /\ bs.count false = q.length /\ m = mine.length + yours.length)
  (fun η=>∃ t' bs o9,η = [some (.d,t'),some (.s,k.th),some (.s,.lst us),some (m3,flatT k us),some (.s,.lst vs),some (.o .s,.lst []),some (.o .s,.lst []),some (.o .s,.lst (ah bs)),some (.o .s,.lst (mrg bs us vs)),o9] /\ Tp (N + 60000) t' /\ bs.count true = us.length /\ bs.count false = vs.length)
  nE (us.length + vs.length) [some (.d,t1),some (.s,k.th),some (.s,.lst us),some (m3,flatT k us),some (.s,.lst vs),some (.o .s,.lst us),some (.o .s,.lst vs),some (.o .s,.lst []),some (.o .s,.lst []),none] (by have:=hu.2; have:=hv.2; have:nE = 1000000000000:=rfl; omega)
  ⟨t1,[],[],[],us,vs,none,rfl,tm ht1 (by simp),rfl,rfl,rfl,rfl,rfl⟩ (fun m η hI=>by
   obtain ⟨t',bs,p,q,mine,yours,o9,rfl,ht',hp,hq,hc1,hc2,rfl⟩:=hI
   have l1:=congrArg List.length hp
   have l2:=congrArg List.length hq
   rw [List.length_append] at l1 l2
   have:=hu.2
   have:=hv.2
   have hb:=lb bs
   by_cases h0:mine.length + yours.length = 0
   ·left
    have z1:mine = []:=List.length_eq_zero_iff.mp (by omega)
    have z2:yours = []:=List.length_eq_zero_iff.mp (by omega)
    subst z1; subst z2
    rw [List.append_nil] at hp hq
    subst hp; subst hq
    refine ⟨_,?_,t',bs,o9,rfl,tm ht' (by omega),hc1,hc2⟩
    simp_all only [show decide ((0:Int) < (([]:List T).length:Int) + (([]:List T).length:Int)) = false from rfl]
   ·right
    have d0:decide ((0:Int) < (mine.length:Int) + (yours.length:Int)) = true:=decide_eq_true (by omega)
    have lt:(ah bs).length < LIM:=by rw [ah,List.length_map]; have:LIM = 16777215:=rfl; omega
    have ld:(mrg bs p q).length < LIM:=by have:=fH bs p q; have:LIM = 16777215:=rfl; omega
    have tt:∀ b,ah (bs ++ [b]) = ah bs ++ [.bl b]:=fun b=>by rw [ah,List.map_append]; rfl
    have tr:∀ (t2:T) (o:Option W) (x:T) (mine':List T),mine = x :: mine' -> Tp (N + 50000 + bs.length + 1) t2 -> ∃ η2,evSs (C n) [.app (.q [] [9]) 7 (.var 9),.ite (.q [] [9]) (.var 9) [.app (.l []) 8 (.pop 5 [.cst (.int 0)])] [.app (.l []) 8 (.pop 6 [.cst (.int 0)])]] [some (.d,t2),some (.s,k.th),some (.s,.lst us),some (m3,flatT k us),some (.s,.lst vs),some (.o .s,.lst mine),some (.o .s,.lst yours),some (.o .s,.lst (ah bs)),some (.o .s,.lst (mrg bs p q)),some (.d,.bl true)] = .nx η2 /\
      ∃ m',m' < mine.length + yours.length /\ ∃ t' bs p q mine yours o9,η2 = [some (.d,t'),some (.s,k.th),some (.s,.lst us),some (m3,flatT k us),some (.s,.lst vs),some (.o .s,.lst mine),some (.o .s,.lst yours),some (.o .s,.lst (ah bs)),some (.o .s,.lst (mrg bs p q)),o9] /\
   Tp (N + 50000 + bs.length) t' /\ us = p ++ mine /\ vs = q ++ yours /\ bs.count true = p.length /\ bs.count false = q.length /\ m' = mine.length + yours.length:=by
     intro t2 o x mine' hm ht2
     subst hm
     have mt:=n0 bs p q x hc1 hc2
     have hg:∀ (l:List T),iO (.o .s,.lst (x :: l)) [(.d,.int 0)] = some ((.s,x),(.o .s,.lst l)):=fun _=>rfl
     refine ⟨_,?_,mine'.length + yours.length,by rw [List.length_cons]; omega,t2,bs ++ [true],p ++ [x],q,mine',yours,some (.d,.bl true),rfl,tm ht2 (by rw [List.length_append]; exact Nat.le_refl _),by rw [hp]; simp,hq,by rw [List.count_append,hc1]; simp,by rw [List.count_append,hc2]; simp,rfl⟩
     simp_all only [if_pos lt,if_pos ld,hg,tt,mt]
    have fr:∀ (t2:T) (x:T) (yours':List T),yours = x :: yours' -> Tp (N + 50000 + bs.length + 1) t2 -> ∃ η2,evSs (C n) [.app (.q [] [9]) 7 (.var 9),.ite (.q [] [9]) (.var 9) [.app (.l []) 8 (.pop 5 [.cst (.int 0)])] [.app (.l []) 8 (.pop 6 [.cst (.int 0)])]] [some (.d,t2),some (.s,k.th),some (.s,.lst us),some (m3,flatT k us),some (.s,.lst vs),some (.o .s,.lst mine),some (.o .s,.lst yours),some (.o .s,.lst (ah bs)),some (.o .s,.lst (mrg bs p q)),some (.d,.bl false)] = .nx η2 /\
      ∃ m',m' < mine.length + yours.length /\ ∃ t' bs p q mine yours o9,η2 = [some (.d,t'),some (.s,k.th),some (.s,.lst us),some (m3,flatT k us),some (.s,.lst vs),some (.o .s,.lst mine),some (.o .s,.lst yours),some (.o .s,.lst (ah bs)),some (.o .s,.lst (mrg bs p q)),o9] /\
   Tp (N + 50000 + bs.length) t' /\ us = p ++ mine /\ vs = q ++ yours /\ bs.count true = p.length /\ bs.count false = q.length /\ m' = mine.length + yours.length:=by
     intro t2 x yours' hm ht2
     subst hm
     have mt:=oR bs p q x hc1 hc2
     have hg:∀ (l:List T),iO (.o .s,.lst (x :: l)) [(.d,.int 0)] = some ((.s,x),(.o .s,.lst l)):=fun _=>rfl
     refine ⟨_,?_,mine.length + yours'.length,by rw [List.length_cons]; omega,t2,bs ++ [false],p,q ++ [x],mine,yours',some (.d,.bl false),rfl,tm ht2 (by rw [List.length_append]; exact Nat.le_refl _),hp,by rw [hq]; simp,by rw [List.count_append,hc1]; simp,by rw [List.count_append,hc2]; simp,rfl⟩
     simp_all only [if_pos lt,if_pos ld,hg,tt,mt]
    have go:∀ (η1:Env),(∃ η2,evSs (C n) [
   .asg (.l []) 9 (.or (.op .eq false [.lenV 6,.cst (.int 0)]) (.and (.op .gt false [.lenV 5,.cst (.int 0)]) (.op .eq false [.call 20 [.io 0,.cst (.int 2)],.cst (.int 1)]))),
   .app (.q [] [9]) 7 (.var 9),
   .ite (.q [] [9]) (.var 9) [
    .app (.l []) 8 (.pop 5 [.cst (.int 0)])] [
    .app (.l []) 8 (.pop 6 [.cst (.int 0)])]] η1 = .nx η2 /\ ∃ m',m' < mine.length + yours.length /\ ∃ t' bs p q mine yours o9,η2 = [some (.d,t'),some (.s,k.th),some (.s,.lst us),some (m3,flatT k us),some (.s,.lst vs),some (.o .s,.lst mine),some (.o .s,.lst yours),some (.o .s,.lst (ah bs)),some (.o .s,.lst (mrg bs p q)),o9] /\
   Tp (N + 50000 + bs.length) t' /\ us = p ++ mine /\ vs = q ++ yours /\ bs.count true = p.length /\ bs.count false = q.length /\ m' = mine.length + yours.length) -> evT (C n) (.l []) (.op .gt false [.op .add false [.lenV 5,.lenV 6],.cst (.int 0)]) [some (.d,t'),some (.s,k.th),some (.s,.lst us),some (m3,flatT k us),some (.s,.lst vs),some (.o .s,.lst mine),some (.o .s,.lst yours),some (.o .s,.lst (ah bs)),some (.o .s,.lst (mrg bs p q)),o9] = .ok (true,η1) -> ∃ η1 η2 m',evT (C n) (.l []) (.op .gt false [.op .add false [.lenV 5,.lenV 6],.cst (.int 0)]) [some (.d,t'),some (.s,k.th),some (.s,.lst us),some (m3,flatT k us),some (.s,.lst vs),some (.o .s,.lst mine),some (.o .s,.lst yours),some (.o .s,.lst (ah bs)),some (.o .s,.lst (mrg bs p q)),o9] = .ok (true,η1) /\ evSs (C n) [
   .asg (.l []) 9 (.or (.op .eq false [.lenV 6,.cst (.int 0)]) (.and (.op .gt false [.lenV 5,.cst (.int 0)]) (.op .eq false [.call 20 [.io 0,.cst (.int 2)],.cst (.int 1)]))),
   .app (.q [] [9]) 7 (.var 9),
   .ite (.q [] [9]) (.var 9) [
    .app (.l []) 8 (.pop 5 [.cst (.int 0)])] [
    .app (.l []) 8 (.pop 6 [.cst (.int 0)])]] η1 = .nx η2 /\ m' < mine.length + yours.length /\ ∃ t' bs p q mine yours o9,η2 = [some (.d,t'),some (.s,k.th),some (.s,.lst us),some (m3,flatT k us),some (.s,.lst vs),some (.o .s,.lst mine),some (.o .s,.lst yours),some (.o .s,.lst (ah bs)),some (.o .s,.lst (mrg bs p q)),o9] /\
   Tp (N + 50000 + bs.length) t' /\ us = p ++ mine /\ vs = q ++ yours /\ bs.count true = p.length /\ bs.count false = q.length /\ m' = mine.length + yours.length:=fun η1 ⟨η2,g1,m',g2,g3⟩ g0=>⟨η1,η2,m',g0,g1,g2,g3⟩
    refine go [some (.d,t'),some (.s,k.th),some (.s,.lst us),some (m3,flatT k us),some (.s,.lst vs),some (.o .s,.lst mine),some (.o .s,.lst yours),some (.o .s,.lst (ah bs)),some (.o .s,.lst (mrg bs p q)),o9] ?_ (by simp_all only [d0])
    have step:∀ (b:Bool) (t2:T),(evS (C n) (.asg (.l []) 9 (.or (.op .eq false [.lenV 6,.cst (.int 0)]) (.and (.op .gt false [.lenV 5,.cst (.int 0)]) (.op .eq false [.call 20 [.io 0,.cst (.int 2)],.cst (.int 1)])))) [some (.d,t'),some (.s,k.th),some (.s,.lst us),some (m3,flatT k us),some (.s,.lst vs),some (.o .s,.lst mine),some (.o .s,.lst yours),some (.o .s,.lst (ah bs)),some (.o .s,.lst (mrg bs p q)),o9] =
      .nx [some (.d,t2),some (.s,k.th),some (.s,.lst us),some (m3,flatT k us),some (.s,.lst vs),some (.o .s,.lst mine),some (.o .s,.lst yours),some (.o .s,.lst (ah bs)),some (.o .s,.lst (mrg bs p q)),some (.d,.bl b)]) -> ∀ (S:Env -> Prop),(∃ η2,evSs (C n) [.app (.q [] [9]) 7 (.var 9),.ite (.q [] [9]) (.var 9) [.app (.l []) 8 (.pop 5 [.cst (.int 0)])] [.app (.l []) 8 (.pop 6 [.cst (.int 0)])]] [some (.d,t2),some (.s,k.th),some (.s,.lst us),some (m3,flatT k us),some (.s,.lst vs),some (.o .s,.lst mine),some (.o .s,.lst yours),some (.o .s,.lst (ah bs)),some (.o .s,.lst (mrg bs p q)),some (.d,.bl b)] = .nx η2 /\ S η2) ->
      ∃ η2,evSs (C n) [
   .asg (.l []) 9 (.or (.op .eq false [.lenV 6,.cst (.int 0)]) (.and (.op .gt false [.lenV 5,.cst (.int 0)]) (.op .eq false [.call 20 [.io 0,.cst (.int 2)],.cst (.int 1)]))),
   .app (.q [] [9]) 7 (.var 9),
   .ite (.q [] [9]) (.var 9) [
    .app (.l []) 8 (.pop 5 [.cst (.int 0)])] [
    .app (.l []) 8 (.pop 6 [.cst (.int 0)])]] [some (.d,t'),some (.s,k.th),some (.s,.lst us),some (m3,flatT k us),some (.s,.lst vs),some (.o .s,.lst mine),some (.o .s,.lst yours),some (.o .s,.lst (ah bs)),some (.o .s,.lst (mrg bs p q)),o9] = .nx η2 /\ S η2:=fun b t2 h1 S ⟨η2,h2,h3⟩=>⟨η2,by
     show Fl.seq (evS (C n) _ _) _ = _
     rw [h1]; exact h2,h3⟩
    cases yours with
    | nil =>
     cases mine with
     | nil=>exact absurd rfl h0
     | cons x mine' =>
      refine step true t' ?_ _ (tr t' none x mine' rfl (tm ht' (by omega)))
      simp_all only [show ((([]:List T).length:Int) == 0) = true from rfl]
    | cons y yours' =>
     have f1:(((y :: yours').length:Int) == 0) = false:=beq_eq_false_iff_ne.mpr (by rw [List.length_cons]; omega)
     cases mine with
     | nil =>
      refine step false t' ?_ _ (fr t' y yours' rfl (tm ht' (by omega)))
      simp_all only [f1,show decide ((0:Int) < (([]:List T).length:Int)) = false from rfl]
     | cons x mine' =>
      have f2:decide ((0:Int) < ((x :: mine').length:Int)) = true:=decide_eq_true (by rw [List.length_cons]; omega)
      obtain ⟨r,t2,_,_,ht2,e2⟩:=cV (n:=n2) .d 2 ht' (by omega) (by decide) (by decide)
      rw [<- hn2] at e2
      cases hr:(r == 1) with
      | true =>
       refine step true t2 ?_ _ (tr t2 none x mine' rfl ht2)
       simp_all only [f1,f2,e2,hr]
      | false =>
       refine step false t2 ?_ _ (fr t2 y yours' rfl ht2)
       simp_all only [f1,f2,e2,hr])
 subst he
 have hv3:Ok k 30 (mrg bs us vs):=⟨fun t h=>(iy bs us vs t h).elim (hu.1 t) (hv.1 t),by
  have:=fH bs us vs
  have:=lb bs
  have:=hu.2
  have:=hv.2
  omega⟩
 have s1:=hu.szs
 have s2:=hv.szs
 have s3:=hv3.szs
 have z1:=fk hk (N:=10 + 3) (by decide)
 rw [Nat.add_mul] at z1
 have e2:=fun m1 m=>flat k i1 vs m1 m hv.of (by omega)
 rw [<- hi1] at e2
 have e3:=fun m1 m0 m m2=>mT k i2 bs us vs m1 m0 m m2 hu.of hv.of c1 c2 (by omega) (by have:=fk hk (N:=30) (by decide); omega)
 rw [<- hi2] at e3
 rw [i0,x_run _ _ _ rfl]
 simp_all only [bG,e1,ew,e2,e3]
 exact ⟨_,_,_,hv3,ht',rfl⟩
theorem gf {P:T -> Prop}:∀ {ts:List T} {bs:List Bool},(∀ t ∈ ts,P t) -> (∀ t ∈ dk ts bs,P t) /\ (dk ts bs).length <= ts.length
 | [],bs,_=>⟨fun t ht=>(by cases bs <;> cases ht),by cases bs <;> exact Nat.le_refl _⟩
 | t :: ts,[],h=>⟨fun t ht=>(by cases ht),Nat.zero_le _⟩
 | t :: ts,true :: bs,h=>by
  obtain ⟨h1,h2⟩:=gf (bs:=bs) fun u hu=>h u (List.mem_cons_of_mem _ hu)
  exact ⟨fun u hu=>(List.mem_cons.mp (show u ∈ t :: dk ts bs from hu)).elim (fun e=>e ▸ h t List.mem_cons_self) (h1 u),Nat.succ_le_succ h2⟩
 | t :: ts,false :: bs,h=>by
  obtain ⟨h1,h2⟩:=gf (bs:=bs) fun u hu=>h u (List.mem_cons_of_mem _ hu)
  exact ⟨h1,Nat.le_succ_of_le h2⟩
theorem iR {P:T -> Prop}:∀ {ts:List T} {ls:List Nat},(∀ t ∈ ts,P t) -> (∀ l ∈ ls,l <= 2) -> (∀ t ∈ cH ts ls,P t) /\ (cH ts ls).length <= 2 * ts.length
 | [],ls,_,_=>⟨fun t ht=>(by cases ls <;> cases ht),by cases ls <;> exact Nat.le_refl _⟩
 | t :: ts,[],h,_=>⟨fun t ht=>(by cases ht),Nat.zero_le _⟩
 | t :: ts,l :: ls,h,hl=>by
  obtain ⟨h1,h2⟩:=iR (ls:=ls) (fun u hu=>h u (List.mem_cons_of_mem _ hu)) fun i hi=>hl i (List.mem_cons_of_mem _ hi)
  have h3:=hl l List.mem_cons_self
  refine ⟨fun u hu=>(List.mem_append.mp (show u ∈ List.replicate l t ++ cH ts ls from hu)).elim (fun e=>(List.mem_replicate.mp e).2 ▸ h t List.mem_cons_self) (h1 u),?_⟩
  show (List.replicate l t ++ cH ts ls).length <= _
  rw [List.length_append,List.length_replicate,List.length_cons]; omega
theorem eP:∀ (ts:List T) (bs:List Bool),bs.length = ts.length -> aK ((ts.zip (ah bs)).filterMap fun p=>match p.2 with | .bl true=>some ((.s,p.1):W) | _=>none) = dk ts bs
 | [],[],_=>rfl
 | t :: ts,true :: bs,h=>congrArg (t :: ·) (eP ts bs (Nat.succ.inj h))
 | t :: ts,false :: bs,h=>eP ts bs (Nat.succ.inj h)
 | [],_ :: _,h=>by cases h
 | _ :: _,[],h=>by cases h
theorem j9:∀ (p:List T) (q:List Nat) (t:T) (l:Nat),p.length = q.length -> cH (p ++ [t]) (q ++ [l]) = cH p q ++ List.replicate l t
 | [],[],t,l,_=>List.append_nil _
 | x :: p,y :: q,t,l,h=>by
  show List.replicate y x ++ cH (p ++ [t]) (q ++ [l]) = List.replicate y x ++ cH p q ++ _
  rw [j9 p q t l (Nat.succ.inj h),List.append_assoc]
 | [],_ :: _,_,_,h=>by cases h
 | _ :: _,[],_,_,h=>by cases h
theorem CC {n N:Nat} {t:T} {k:Kd} {us:List T} (hk:k.deep <= 3) (hn:11 <= n) (hu:Ok k 10 us) (ht:Tp N t) (hN:N + 60001 < 1000000000000000000) :
  ∃ md vs t',Ok k 30 vs /\ Tp (N + 60001) t' /\ C (n + 1) 27 [(.d,t),(.s,k.th),(.s,.lst us),(.s,flatT k us)] = .ok ((md,.tup [.lst vs,flatT k vs]),[(.d,t')]):=by
 obtain ⟨n1,hn1⟩:∃ i,n = i + 1:=⟨n - 1,by omega⟩
 obtain ⟨n2,hn2⟩:∃ i,n = i + 2:=⟨n - 2,by omega⟩
 obtain ⟨i1,hi1⟩:=gh (k:=k) (n:=n) (j:=1) hk (by omega)
 obtain ⟨i2,hi2⟩:=gh (k:=k) (n:=n) (j:=2) hk (by omega)
 have s1:=hu.szs
 have ul:=hu.2
 have z1:=fk hk (N:=10) (by decide)
 have z3:=fk hk (N:=30) (by decide)
 obtain ⟨r,t1,r0,r1,ht1,e1⟩:=cV (n:=n2) .d 7 ht (by omega) (by decide) (by decide)
 rw [<- hn2] at e1
 have dr:=fun (N:Nat) (t:T) (c:Int) m (ht:Tp N t) (h1:N < 1000000000000000000) (h2:0 < c) (h3:c < 1073741824)=>cV (n:=n2) m c ht h1 h2 h3
 rw [<- hn2] at dr
 rw [jO,x_run _ _ _ rfl]
 simp_all only [b0,e1]
 cases h0:(r == 0) with
 | true =>
  obtain ⟨r2,t2,r20,r21,ht2,e2⟩:=dr _ t1 9 .d ht1 (by omega) (by decide) (by decide)
  obtain ⟨b1,b2⟩:=eQ (mm:=r2) r20 (by omega)
  obtain ⟨os,t3,h1,h2,h3,h4⟩:=bT (s:=14) (g:=fun (k:Nat)=>((.d,.int k):W)) (f:=dU (evE (C n) (.op .gt false [.var 5,.cst (.int 0)])) (evE (C n) (.call 20 [.io 0,.var 5])))
   (fun t=>[some (.d,t),some (.s,k.th),some (.s,.lst us),some (.s,flatT k us),some (.d,.int r),some (.d,.int (us.length:Nat)),none,none,none,none,none,none,none,none,none,none,none,none,none,none])
   (fun t w=>[some (.d,t),some (.s,k.th),some (.s,.lst us),some (.s,flatT k us),some (.d,.int r),some (.d,.int (us.length:Nat)),none,none,none,none,none,none,none,none,some w,none,none,none,none,none])
   (P:=fun o=>(o = none /\ us.length = 0) \/ ∃ i:Nat,o = some (.d,nT i) /\ i < us.length) (c:=1) (fun _ _=>rfl) (fun _ _=>rfl) (fun N t w ht hN=>by
    by_cases hz:us.length = 0
    ·refine ⟨none,t,.inl ⟨rfl,hz⟩,tm ht (by omega),?_⟩
     have d0:decide ((0:Int) < (us.length:Int)) = false:=decide_eq_false (by omega)
     simp_all only [dU,d0]
    ·obtain ⟨r3,t3,r30,r31,ht3,e3⟩:=dr N t (us.length:Int) .d ht (by omega) (by omega) (by omega)
     obtain ⟨i,rfl⟩:∃ i:Nat,r3 = (i:Int):=⟨r3.toNat,by omega⟩
     refine ⟨some (.d,nT i),t3,.inr ⟨i,rfl,by omega⟩,ht3,?_⟩
     have d0:decide ((0:Int) < (us.length:Int)) = true:=decide_eq_true (by omega)
     simp_all only [dU,d0,e3]
     rfl) (List.range r2.toNat) _ t2 ht2 (by rw [List.length_range]; omega)
  rw [List.length_range] at h1 h3
  have h5:=h4 []
  obtain ⟨is,hi,hil,e5⟩:∃ is:List Nat,(∀ i ∈ is,i < us.length) /\ is.length <= os.length /\ os.filterMap id = is.map fun i=>((.d,nT i):W):=by
   clear h4 h5 h1
   induction os with
   | nil=>exact ⟨[],(fun _ h=>nomatch h),Nat.le_refl _,rfl⟩
   | cons o os ih =>
    obtain ⟨is,k1,k2,k3⟩:=ih fun q hq=>h2 q (List.mem_cons_of_mem _ hq)
    rcases h2 o List.mem_cons_self with ⟨rfl,_⟩ | ⟨i,rfl,hi⟩
    ·exact ⟨is,k1,Nat.le_succ_of_le k2,k3⟩
    ·exact ⟨i :: is,fun j hj=>(List.mem_cons.mp hj).elim (fun e=>e ▸ hi) (k1 j),Nat.succ_le_succ k2,by show _ :: os.filterMap id = _; rw [k3]; rfl⟩
  rw [e5] at h5
  have hv:Ok k 30 (aB us is):=⟨eR hu.1 hi,by rw [aB,List.length_map]; omega⟩
  have s2:=hv.szs
  have c1:=fun o0 o1 o3 o4 o5 o7 o8 o9 o10 o11 o12 o13 o14 o16 o17 o18 o19=>eW (F:=C n) hi [o0,o1,some (.s,.lst us),o3,o4,o5,some (.s,.lst (ab is)),o7,o8,o9,o10,o11,o12,o13,o14,none,o16,o17,o18,o19] 15 2 (fun _=>rfl) (fun _=>rfl) (fun _=>rfl)
  have e6:=fun m1 m m2=>q9 k i2 us is m1 m m2 hu.of hi (by omega) (by omega)
  rw [<- hi2] at e6
  simp_all only [h0,e2,b1,b2,h5,ax (fun _=>Md.d),show (is.map nT) = ab is from rfl,c1,ax (fun _=>Md.s),show (is.map fun i=>us.getD i .non) = aB us is from rfl,e6]
  exact ⟨_,_,_,hv,tm h3 (by omega),rfl⟩
 | false =>
 cases h1:(r == 1) with
 | true =>
  obtain ⟨md,vs,t2,hv,ht2,e2⟩:=more (n:=n1) hk (by omega) .s ht1 (by omega)
  rw [<- hn1] at e2
  have s2:=hv.szs
  have vl:=hv.2
  have z2:=fk hk (N:=10 + 3) (by decide)
  rw [Nat.add_mul] at z2
  have e3:=fun m1 m=>flat k i1 vs m1 m hv.of (by omega)
  have e4:=fun m1 m m2=>dR k i1 us vs m1 m m2 hu.of hv.of (by omega)
  rw [<- hi1] at e3 e4
  have hf:fits (us.length + vs.length) = true:=decide_eq_true (by have:LIM = 16777215:=rfl; omega)
  simp_all only [h0,h1,e2,e3,e4,hf]
  exact ⟨_,_,_,⟨fun t h=>(List.mem_append.mp h).elim (hu.1 t) (hv.1 t),by rw [List.length_append]; omega⟩,tm ht2 (by omega),rfl⟩
 | false =>
 cases h2:(r == 2) with
 | true =>
  obtain ⟨md,vs,t2,hv,ht2,e2⟩:=more (n:=n1) hk (by omega) .s ht1 (by omega)
  rw [<- hn1] at e2
  have s2:=hv.szs
  have vl:=hv.2
  have z2:=fk hk (N:=10 + 3) (by decide)
  rw [Nat.add_mul] at z2
  have e3:=fun m1 m=>flat k i1 vs m1 m hv.of (by omega)
  have e4:=fun m1 m m2=>dR k i1 vs us m1 m m2 hv.of hu.of (by omega)
  rw [<- hi1] at e3 e4
  have hf:fits (vs.length + us.length) = true:=decide_eq_true (by have:LIM = 16777215:=rfl; omega)
  simp_all only [h0,h1,h2,e2,e3,e4,hf]
  exact ⟨_,_,_,⟨fun t h=>(List.mem_append.mp h).elim (hv.1 t) (hu.1 t),by rw [List.length_append]; omega⟩,tm ht2 (by omega),rfl⟩
 | false =>
 cases h3:(r == 3) with
 | true =>
  obtain ⟨b1,b2⟩:=eQ (mm:=(us.length:Int)) (by omega) (by omega)
  rw [Int.toNat_natCast] at b2
  obtain ⟨os,t3,g1,g2,g3,g4⟩:=bT (s:=16) (g:=fun (k:Nat)=>((.d,.int k):W)) (f:=bK (evE (C n) (.op .gt false [.call 20 [.io 0,.cst (.int 3)],.cst (.int 0)])))
   (fun t=>[some (.d,t),some (.s,k.th),some (.s,.lst us),some (.s,flatT k us),some (.d,.int r),some (.d,.int (us.length:Nat)),none,none,none,none,none,none,none,none,none,none,none,none,none,none])
   (fun t w=>[some (.d,t),some (.s,k.th),some (.s,.lst us),some (.s,flatT k us),some (.d,.int r),some (.d,.int (us.length:Nat)),none,none,none,none,none,none,none,none,none,none,some w,none,none,none])
   (P:=fun o=>∃ w,o = some w /\ ∃ b:Bool,w = (.d,.bl b)) (c:=1) (fun _ _=>rfl) (fun _ _=>rfl) (fun N t w ht hN=>by
    obtain ⟨r3,t3,_,_,ht3,e3⟩:=dr N t 3 .d ht (by omega) (by decide) (by decide)
    refine ⟨some (.d,.bl (decide (0 < r3))),t3,⟨_,rfl,_,rfl⟩,ht3,?_⟩
    simp_all only [e3]) (List.range us.length) _ t1 ht1 (by rw [List.length_range]; omega)
  rw [List.length_range] at g1 g3
  obtain ⟨ws,w1,w2,w3⟩:=jg g2
  obtain ⟨bs,rfl⟩:=jt w3
  have g5:=g4 []
  rw [w1] at g5
  have bl:bs.length = us.length:=by rw [List.length_map] at w2; omega
  obtain ⟨k1,k2⟩:=gf (bs:=bs) hu.1
  have hv:Ok k 30 (dk us bs):=⟨k1,by omega⟩
  have s2:=hv.szs
  have e6:=fun m1 m m2=>sr k i2 us bs m1 m m2 hu.of bl (by omega) (by omega)
  rw [<- hi2] at e6
  have c1:∀ o0 o1 o3 o4 o5 o6 o7 o8 o10 o11 o12 o13 o14 o15 o16 o19,aD [17,18] (dU (evE (C n) (.var 18)) (evE (C n) (.var 17))) (cU .s .s us (ah bs)) [o0,o1,some (.s,.lst us),o3,o4,o5,o6,o7,o8,some (.s,.lst (ah bs)),o10,o11,o12,o13,o14,o15,o16,none,none,o19] [] = .ok ([] ++ (us.zip (ah bs)).filterMap (fun p=>match p.2 with | .bl true=>some ((.s,p.1):W) | _=>none),[o0,o1,some (.s,.lst us),o3,o4,o5,o6,o7,o8,some (.s,.lst (ah bs)),o10,o11,o12,o13,o14,o15,o16,none,none,o19]):=by
   intro o0 o1 o3 o4 o5 o6 o7 o8 o10 o11 o12 o13 o14 o15 o16 o19
   rw [gi]
   refine eT (tg:=[17,18]) (η:=[o0,o1,some (.s,.lst us),o3,o4,o5,o6,o7,o8,some (.s,.lst (ah bs)),o10,o11,o12,o13,o14,o15,o16,none,none,o19]) (g:=fun (p:T × T)=>[((.s,p.1):W),(.s,p.2)]) (fun p=>match p.2 with | .bl true=>some ((.s,p.1):W) | _=>none) (us.zip (ah bs)) [] fun p hp=>⟨_,[o0,o1,some (.s,.lst us),o3,o4,o5,o6,o7,o8,some (.s,.lst (ah bs)),o10,o11,o12,o13,o14,o15,o16,some (.s,p.1),some (.s,p.2),o19],rfl,?_,rfl⟩
   obtain ⟨u,v⟩:=p
   obtain ⟨b,_,rfl⟩:=List.mem_map.mp (List.of_mem_zip hp).2
   cases b with
   | true=>simp_all only [dU]
   | false=>simp_all only [dU]
  simp_all only [h0,h1,h2,h3,b1,b2,Int.toNat_natCast,g5,ax (fun _=>Md.d),show (bs.map fun b=>T.bl b) = ah bs from rfl,c1,eP us bs bl,e6]
  exact ⟨_,_,_,hv,tm g3 (by omega),rfl⟩
 | false =>
 cases h4:(r == 4) with
 | true =>
  obtain ⟨md,vs,t2,hv,ht2,e2⟩:=zY (n:=n1) hk (by omega) .s .s .s hu ht1 (by omega)
  rw [<- hn1] at e2
  simp_all only [h0,h1,h2,h3,h4,e2]
  exact ⟨_,_,_,hv,tm ht2 (by omega),rfl⟩
 | false =>
 cases h5:(r == 5) with
 | true =>
  obtain ⟨b1,b2⟩:=eQ (mm:=(us.length:Int)) (by omega) (by omega)
  rw [Int.toNat_natCast] at b2
  obtain ⟨os,t3,g1,g2,g3,g4⟩:=bT (s:=19) (g:=fun (k:Nat)=>((.d,.int k):W)) (f:=bK (evE (C n) (.call 20 [.io 0,.cst (.int 3)])))
   (fun t=>[some (.d,t),some (.s,k.th),some (.s,.lst us),some (.s,flatT k us),some (.d,.int r),some (.d,.int (us.length:Nat)),none,none,none,none,none,none,none,none,none,none,none,none,none,none])
   (fun t w=>[some (.d,t),some (.s,k.th),some (.s,.lst us),some (.s,flatT k us),some (.d,.int r),some (.d,.int (us.length:Nat)),none,none,none,none,none,none,none,none,none,none,none,none,none,some w])
   (P:=fun o=>∃ w,o = some w /\ ∃ r:Nat,w = (.d,nT r) /\ (r:Int) < 3) (c:=1) (fun _ _=>rfl) (fun _ _=>rfl) (fun N t w ht hN=>by
    obtain ⟨r3,t3,r30,r31,ht3,e3⟩:=dr N t 3 .d ht (by omega) (by decide) (by decide)
    obtain ⟨i,rfl⟩:∃ i:Nat,r3 = (i:Int):=⟨r3.toNat,by omega⟩
    refine ⟨_,t3,⟨_,rfl,i,rfl,r31⟩,ht3,?_⟩
    simp_all only [e3]
    rfl) (List.range us.length) _ t1 ht1 (by rw [List.length_range]; omega)
  rw [List.length_range] at g1 g3
  obtain ⟨ws,w1,w2,w3⟩:=jg g2
  obtain ⟨ls,rfl,hl3⟩:=lX w3
  have g5:=g4 []
  rw [w1] at g5
  have ll:ls.length = us.length:=by rw [List.length_map] at w2; omega
  obtain ⟨k1,k2⟩:=iR (ls:=ls) hu.1 fun l hl=>by have:=hl3 l hl; omega
  have hv:Ok k 30 (cH us ls):=⟨k1,by omega⟩
  have s2:=hv.szs
  have lsum:ls.sum <= 30:=by
   have:∀ (l:List Nat),(∀ i ∈ l,(i:Int) < 3) -> l.sum <= 2 * l.length:=by
    intro l
    induction l with
    | nil=>intro _; exact Nat.le_refl _
    | cons x l ih=>intro h; have:=ih fun i hi=>h i (List.mem_cons_of_mem _ hi); have:=h x List.mem_cons_self; rw [List.sum_cons,List.length_cons]; omega
   have:=this ls hl3
   omega
  have e6:=fun m1 m m2=>mK k i2 us ls m1 m m2 hu.of ll (by omega) (by have:LIM = 16777215:=rfl; omega) (by omega)
  rw [<- hi2] at e6
  have lp:∃ o11 o12,dX [11,12] (evSs (C n) [.asg (.q [7,11] [12]) 7 (.op .add false [.var 7,.op .mul false [.lst false [.var 11],.var 12]])]) (cU .s .s us (ab ls)) [some (.d,t3),some (.s,k.th),some (.s,.lst us),some (.s,flatT k us),some (.d,.int r),some (.d,.int (us.length:Nat)),none,some (.o .s,.lst []),none,none,some (.s,.lst (ab ls)),none,none,none,none,none,none,none,none,none] =
    .nx [some (.d,t3),some (.s,k.th),some (.s,.lst us),some (.s,flatT k us),some (.d,.int r),some (.d,.int (us.length:Nat)),none,some (.o .s,.lst (cH us ls)),none,none,some (.s,.lst (ab ls)),o11,o12,none,none,none,none,none,none,none]:=by
   rw [gi,show us.zip (ab ls) = (us.zip ls).map (Prod.map id nT) from List.zip_map_right ..,List.map_map]
   obtain ⟨η',e,o11,o12,rfl⟩:=dw (tg:=[11,12]) (f:=evSs (C n) [.asg (.q [7,11] [12]) 7 (.op .add false [.var 7,.op .mul false [.lst false [.var 11],.var 12]])]) (g:=(fun (p:T × T)=>[((.s,p.1):W),(.s,p.2)]) ∘ Prod.map id nT)
    (fun p η=>∃ o11 o12,η = [some (.d,t3),some (.s,k.th),some (.s,.lst us),some (.s,flatT k us),some (.d,.int r),some (.d,.int (us.length:Nat)),none,some (.o .s,.lst (cH (p.map Prod.fst) (p.map Prod.snd))),none,none,some (.s,.lst (ab ls)),o11,o12,none,none,none,none,none,none,none]) (us.zip ls) []
    [some (.d,t3),some (.s,k.th),some (.s,.lst us),some (.s,flatT k us),some (.d,.int r),some (.d,.int (us.length:Nat)),none,some (.o .s,.lst []),none,none,some (.s,.lst (ab ls)),none,none,none,none,none,none,none,none,none] ⟨none,none,rfl⟩ (fun p x q η e ⟨o11,o12,he⟩=>by
     subst he
     obtain ⟨u,l⟩:=x
     have e':us.zip ls = p ++ (u,l) :: q:=e
     have hm:(u,l) ∈ us.zip ls:=by rw [e']; simp
     have hl:=hl3 l (List.of_mem_zip hm).2
     have pl:p.length <= 10:=by
      have:=congrArg List.length e'
      rw [List.length_zip,List.length_append,List.length_cons] at this
      omega
     have sl:(cH (p.map Prod.fst) (p.map Prod.snd)).length <= 2 * p.length:=by
      have:=(iR (P:=fun _=>True) (ts:=p.map Prod.fst) (ls:=p.map Prod.snd) (fun _ _=>trivial) fun i hi=>by
       obtain ⟨z,hz,rfl⟩:=List.mem_map.mp hi
       have hz':(z.1,z.2) ∈ us.zip ls:=by rw [e']; exact List.mem_append_left _ hz
       have:=hl3 z.2 (List.of_mem_zip hz').2
       omega).2
      rw [List.length_map] at this
      exact this
     have hL:LIM = 16777215:=rfl
     have d1:decide ((l:Int).natAbs < 4611686018427387904) = true:=decide_eq_true (by omega)
     have d2:fits ([u].length * l) = true:=decide_eq_true (by simp; omega)
     have d3:fits ((cH (p.map Prod.fst) (p.map Prod.snd)).length + (List.replicate l u).length) = true:=decide_eq_true (by rw [List.length_replicate]; omega)
     have d4:cH ((p ++ [(u,l)]).map Prod.fst) ((p ++ [(u,l)]).map Prod.snd) = cH (p.map Prod.fst) (p.map Prod.snd) ++ List.replicate l u:=by
      rw [List.map_append,List.map_append]; exact j9 _ _ u l (by rw [List.length_map,List.length_map])
     refine ⟨_,_,rfl,?_,some (.s,u),some (.s,nT l),rfl⟩
     simp_all only [nT,id,Prod.map,d1,d2,Int.toNat_natCast,eG,d3,d4])
   refine ⟨o11,o12,?_⟩
   rw [e,List.nil_append,show (us.zip ls).map Prod.fst = us from List.map_fst_zip (by omega),show (us.zip ls).map Prod.snd = ls from List.map_snd_zip (by omega)]
  obtain ⟨o11,o12,lp⟩:=lp
  simp_all only [h0,h1,h2,h3,h4,h5,b1,b2,Int.toNat_natCast,g5,ax (fun _=>Md.d),show (ls.map fun i=>nT i) = ab ls from rfl,lp,e6]
  exact ⟨_,_,_,hv,tm g3 (by omega),rfl⟩
 | false =>
  obtain ⟨r2,t2,r20,r21,ht2,e2⟩:=dr _ t1 ((us.length:Int) + 1) .d ht1 (by omega) (by omega) (by omega)
  obtain ⟨j,rfl⟩:∃ j:Nat,r2 = (j:Int):=⟨r2.toNat,by omega⟩
  have e6:=fun m1 m m2=>fN k i1 us j m1 m m2 hu.of
  rw [<- hi1] at e6
  simp_all only [h0,h1,h2,h3,h4,h5,e2,dt,e6]
  exact ⟨_,_,_,⟨eH hu.1,by rw [List.length_take]; omega⟩,tm ht2 (by omega),rfl⟩
theorem A7 {k:Kd} {N:Nat} {us:List T} (h:Ok k N us):PT (k.deep + 2) (.lst us):=fun u hu=>of_PT k u (h.of u hu)
theorem gW {k:Kd}:∀ (es:List T),(∀ e ∈ es,∃ us,Ok k 10 us /\ e = .tup [.lst us,flatT k us]) -> ∃ ps:List (List T),(∀ us ∈ ps,Ok k 10 us) /\ bO es = some (ps.map fun us=>[((.s,.lst us):W),(.s,flatT k us)])
 | [],_=>⟨[],(fun _ h=>nomatch h),rfl⟩
 | e :: es,h=>by
  obtain ⟨us,h1,rfl⟩:=h e List.mem_cons_self
  obtain ⟨ps,k1,k2⟩:=gW es fun q hq=>h q (List.mem_cons_of_mem _ hq)
  exact ⟨us :: ps,fun v hv=>(List.mem_cons.mp hv).elim (fun e=>e ▸ h1) (k1 v),by show (bO es).map _ = _; rw [k2]; rfl⟩
theorem pure_law (ns:List Int):∃ m bs,C 40 0 [(.d,.scr ns)] = .ok ((m,.bl true),bs):=by
 rw [show C 40 0 [(.d,.scr ns)] = runF (C 39) mi [(.d,.scr ns)] from rfl,x_run _ _ _ rfl]
 have ht0:Tp 0 (tape (cut ns none (some 63)) 0 0 0):=⟨_,0,0,0,rfl,Nat.le_refl _⟩
 obtain ⟨r,t1,r0,r1,ht1,e1⟩:=cV (n:=37) .d 4 ht0 (by decide) (by decide) (by decide)
 obtain ⟨l,hl⟩:∃ l:Nat,1 + r = (l:Int):=⟨(1 + r).toNat,by omega⟩
 have hl5:l <= 4:=by omega
 have kbl:kb l <= 31:=by
  have:l = 0 \/ l = 1 \/ l = 2 \/ l = 3 \/ l = 4:=by omega
  rcases this with rfl | rfl | rfl | rfl | rfl <;> decide
 obtain ⟨md,k,t2,hkd,ht2,e2⟩:=kind (37 - l) l ht1 (by omega) (by omega)
 rw [show 37 - l + l + 2 = 39 by omega] at e2
 obtain ⟨r2,t3,r20,r21,ht3,e3⟩:=cV (n:=37) .d 4 ht2 (by omega) (by decide) (by decide)
 have hk:k.deep <= 3:=by omega
 have hD:D k.deep <= 13174:=Nat.le_trans (gu hk) (by decide)
 obtain ⟨b1,b2⟩:=eQ (mm:=1 + r2) (by omega) (by omega)
 obtain ⟨os,t4,h1,h2,h3,h4⟩:=bT (s:=9) (g:=fun (k:Nat)=>((.d,.int k):W)) (f:=bK (evE (C 39) (.call 23 [.io 1,.var 2,.cst (.bl true)]))) (fun t=>[some (.d,.scr ns),some (.d,t),some (.s,k.th),none,none,none,none,none,none,none]) (fun t w=>[some (.d,.scr ns),some (.d,t),some (.s,k.th),none,none,none,none,none,none,some w]) (P:=fun o=>∃ w,o = some w /\ OfK k w.2 /\ sz w.2 <= B k.deep) (c:=D k.deep) (fun _ _=>rfl) (fun _ _=>rfl) (fun N t w ht hN=>by
   obtain ⟨md,v,t',q1,q2,q3,q4,q5⟩:=worth k (35 - k.deep) true .s ht hN
   rw [show 35 - k.deep + k.deep + 4 = 39 by omega] at q5
   refine ⟨some (md,v),t',⟨_,rfl,q1,q2⟩,q4,?_⟩
   simp_all only [q5]) (List.range (1 + r2).toNat) _ t3 ht3 (by rw [List.length_range]; have:=Nat.mul_le_mul (show (1 + r2).toNat <= 4 by omega) hD; omega)
 obtain ⟨ws,w1,w2,w3⟩:=jg h2
 rw [List.length_range] at h1 h3
 have h5:=h4 []
 rw [w1] at h5
 have hu0:Ok k 10 (aK ws):=pS w3 (by omega)
 obtain ⟨us0,hus0⟩:∃ us0,aK ws = us0:=⟨_,rfl⟩
 rw [hus0] at hu0
 have ht4:Tp 60000 t4:=tm h3 (by have:=Nat.mul_le_mul (show (1 + r2).toNat <= 4 by omega) hD; omega)
 have z1:=fk hk (N:=10) (by decide)
 have z3:=fk hk (N:=30) (by decide)
 have fl:∀ us,Ok k 30 us -> ∀ m1 m,C 39 6 [(m1,k.th),(m,.lst us)] = .ok ((.d,flatT k us),[]):=fun us hu m1 m=>by
  have:=flat k (38 - k.deep) us m1 m hu.of (by have:=hu.szs; omega)
  rw [show 38 - k.deep + k.deep + 1 = 39 by omega] at this
  exact this
 have fl0:=fl us0 ⟨hu0.1,by have:=hu0.2; omega⟩
 have al1:∀ us,Ok k 10 us -> ∀ m m',C 39 24 [(m,flatT k us),(m',flatT k us)] = .ok ((.d,.bl true),[]):=fun us hu m m'=>by
  have:=vE (36 - k.deep) (k.deep + 2) (flatT k us) m m' (fE k us hu.of)
  rw [show 36 - k.deep + (k.deep + 2) + 1 = 39 by omega] at this
  exact this
 have al2:∀ us,Ok k 10 us -> ∀ m m',C 39 24 [(m,.lst us),(m',.lst us)] = .ok ((.d,.bl true),[]):=fun us hu m m'=>by
  have:=vE (36 - k.deep) (k.deep + 2) (.lst us) m m' (A7 hu)
  rw [show 36 - k.deep + (k.deep + 2) + 1 = 39 by omega] at this
  exact this
 obtain ⟨M,hM,hM2⟩:∃ M:Nat,(if (2 + (ns.length:Int)) < 12 then (2 + (ns.length:Int)) else 12) = (M:Int) /\ M <= 12:=⟨(if (2 + (ns.length:Int)) < 12 then (2 + (ns.length:Int)) else 12).toNat,by split <;> omega,by split <;> omega⟩
 obtain ⟨c1,c2⟩:=eQ (mm:=(M:Int)) (by omega) (by omega)
 rw [Int.toNat_natCast] at c2
 obtain ⟨η',ef,t',us,es,mw,mf,o6,he,ht',hus,hes⟩:=dw (tg:=[6]) (f:=evSs (C 39) [
   .asgT (.l [2,3,4]) [3,4] (.call 27 [.io 1,.var 2,.var 3,.var 4]),
   .asg (.q [3] []) 3 (.op .sl2 false [.var 3,.cst (.int 10)]),
   .asg (.q [2,3,4] []) 4 (.call 19 [.var 2,.var 4,.op .len false [.var 3]]),
   .ite (.q [2,3,4] []) (.not (.call 24 [.call 6 [.var 2,.var 3],.var 4])) [
    .ret [] (.cst (.bl false))] [],
   .ite (.q [2,3,4] []) (.op .isnB false [.call 8 [.var 2,.var 4,.op .len false [.var 3]],.cst (.bl true)]) [
    .ret [] (.cst (.bl false))] [],
   .ite (.q [2,3,4] []) (.op .ne false [.call 11 [.var 2,.var 4],.op .len false [.var 3]]) [
    .ret [] (.cst (.bl false))] [],
   .ite (.q [2,3,4] []) (.not (.call 24 [.var 3,.call 7 [.var 2,.var 4,.op .len false [.var 3]]])) [
    .ret [] (.cst (.bl false))] [],
   .app (.q [3,4] []) 5 (.tup [.var 3,.var 4])]) (g:=fun (k:Nat)=>[((.d,.int k):W)])
  (fun p η=>∃ t' us es mw mf o6,η = [some (.s,.scr ns),some (.d,t'),some (.s,k.th),some (mw,.lst us),some (mf,flatT k us),some (.o .s,.lst es),o6,none,none,none] /\ Tp (60000 + p.length * 60001) t' /\ Ok k 10 us /\ (es.length <= p.length + 1 /\ ∀ e ∈ es,∃ us,Ok k 10 us /\ e = .tup [.lst us,flatT k us]))
  (List.range M) [] [some (.s,.scr ns),some (.d,t4),some (.s,k.th),some (.s,.lst us0),some (.s,flatT k us0),some (.o .s,.lst [.tup [.lst us0,flatT k us0]]),none,none,none,none]
  ⟨t4,us0,_,.s,.s,none,rfl,tm ht4 (by omega),hu0,Nat.le_refl _,fun e he=>⟨us0,hu0,List.mem_singleton.mp he⟩⟩ (fun p x q η e ⟨t',us,es,mw,mf,o6,he,ht',hu,hel,hes⟩=>by
   subst he
   have pl:p.length + 1 <= M:=by
    have:=congrArg List.length e
    rw [List.nil_append,List.length_range,List.length_append,List.length_cons] at this
    omega
   have hmul:p.length * 60001 <= 12 * 60001:=Nat.mul_le_mul_right _ (by omega)
   obtain ⟨md,vs,t2,hv,ht2,e2⟩:=CC (n:=38) hk (by omega) hu ht' (by omega)
   have hw:Ok k 10 (vs.take 10):=⟨eH hv.1,by rw [List.length_take]; omega⟩
   have e33:vs.take (vs.take 10).length = vs.take 10:=by
    rw [List.length_take]
    rcases Nat.le_total 10 vs.length with h | h
    ·rw [Nat.min_eq_left h]
    ·rw [Nat.min_eq_right h,List.take_of_length_le (Nat.le_refl _),List.take_of_length_le h]
   have e3:=fun m1 m m2=>fN k (38 - k.deep) vs (vs.take 10).length m1 m m2 hv.of
   rw [show 38 - k.deep + k.deep + 1 = 39 by omega,e33] at e3
   obtain ⟨xs,hxs⟩:∃ xs,vs.take 10 = xs:=⟨_,rfl⟩
   rw [hxs] at hw e3
   have ec:cut vs none (some 10) = xs:=by rw [<- hxs]; exact dt vs 10
   have e4:=fl xs ⟨hw.1,by have:=hw.2; omega⟩
   have e5:=fun m1 m m2=>iW k (35 - k.deep) xs m1 m m2 hw.of
   rw [show 35 - k.deep + k.deep + 4 = 39 by omega] at e5
   have e6:=fun m1 m=>many k (38 - k.deep) xs m1 m
   rw [show 38 - k.deep + k.deep + 1 = 39 by omega] at e6
   have e7:=fun m1 m=>kC k (38 - k.deep) xs m1 m (xs.length:Int) hw.of
   rw [show 38 - k.deep + k.deep + 1 = 39 by omega] at e7
   have hle:es.length < LIM:=by have:LIM = 16777215:=rfl; omega
   refine ⟨_,_,rfl,?_,t2,xs,es ++ [.tup [.lst xs,flatT k xs]],.s,.s,some (.d,.int x),rfl,?_,hw,?_,?_⟩
   ·simp_all only [e2,ec,e3,e4,al1 _ hw,e5,e6,al2 _ hw,e7,if_pos hle,beq_self_eq_true]
   ·rw [List.length_append,List.length_singleton,Nat.succ_mul]; exact tm ht2 (by omega)
   ·rw [List.length_append,List.length_append,List.length_singleton,List.length_singleton]; omega
   ·intro e' he'
    rcases List.mem_append.mp he' with z | z
    ·exact hes e' z
    ·exact ⟨xs,hw,List.mem_singleton.mp z⟩)
 subst he
 obtain ⟨ps,hp1,hp2⟩:=gW es hes.2
 have lq:∃ o7 o8,dX [7,8] (evSs (C 39) [.ite (.q [2,7,8] []) (.not (.call 24 [.call 6 [.var 2,.var 7],.var 8])) [.ret [] (.cst (.bl false))] []]) (ps.map fun us=>[((.s,.lst us):W),(.s,flatT k us)]) [some (.s,.scr ns),some (.d,t'),some (.s,k.th),some (mw,.lst us),some (mf,flatT k us),some (.s,.lst es),o6,none,none,none] = .nx [some (.s,.scr ns),some (.d,t'),some (.s,k.th),some (mw,.lst us),some (mf,flatT k us),some (.s,.lst es),o6,o7,o8,none]:=by
  obtain ⟨η',e,o7,o8,rfl⟩:=dw (tg:=[7,8]) (f:=evSs (C 39) [.ite (.q [2,7,8] []) (.not (.call 24 [.call 6 [.var 2,.var 7],.var 8])) [.ret [] (.cst (.bl false))] []]) (g:=fun us=>[((.s,.lst us):W),(.s,flatT k us)])
   (fun _ η=>∃ o7 o8,η = [some (.s,.scr ns),some (.d,t'),some (.s,k.th),some (mw,.lst us),some (mf,flatT k us),some (.s,.lst es),o6,o7,o8,none]) ps [] _ ⟨none,none,rfl⟩ (fun p x q η e ⟨o7,o8,he⟩=>by
    subst he
    have hx:Ok k 10 x:=hp1 x (by rw [show ps = p ++ x :: q from e]; simp)
    have e4:=fl x ⟨hx.1,by have:=hx.2; omega⟩
    refine ⟨_,_,rfl,?_,some (.s,.lst x),some (.s,flatT k x),rfl⟩
    simp_all only [e4,al1 _ hx])
  exact ⟨o7,o8,e⟩
 obtain ⟨o7,o8,lq⟩:=lq
 unfold tape at e1
 simp_all only [mi,jL,e1,hl,e2,e3,b1,b2,h5,hus0,fl0,hM,c1,c2,Int.toNat_natCast,ef,hp2,lq]
 exact ⟨_,_,rfl⟩
end P38

set_option Elab.async false
set_option linter.all false
set_option maxRecDepth 100000
set_option maxHeartbeats 4000000
namespace A38
open PySem PySem.Spec PyProof.Rows L2 L3 MR
def top (i:Nat):Stmt:=PySem.Challenge.pw_broadrow_k38_whole_flats_go_as_their_wor.main.body.getD i (.Pass ⟨0,0,0,0⟩)
abbrev s1:Stmt:=top 5
abbrev s2:Stmt:=top 9
abbrev s3:Stmt:=top 10
abbrev s6:Stmt:=top 14
abbrev s7:Stmt:=top 15
abbrev s8:Stmt:=top 16
abbrev s9:Stmt:=top 17
abbrev s10:Stmt:=top 18
abbrev s11:Stmt:=top 19
abbrev s12:Stmt:=top 21
abbrev s13:Stmt:=top 22
abbrev s14:Stmt:=top 23
abbrev s15:Stmt:=top 24
abbrev s16:Stmt:=top 25
abbrev s17:Stmt:=top 26
abbrev s18:Stmt:=top 27
abbrev s19:Stmt:=top 28
abbrev s20:Stmt:=top 30
abbrev s21:Stmt:=top 31
abbrev s22:Stmt:=top 32
abbrev s23:Stmt:=top 33
abbrev s24:Stmt:=top 34
abbrev s25:Stmt:=top 35
abbrev s26:Stmt:=top 36
abbrev s27:Stmt:=top 37
abbrev s0:Stmt:=top 38
structure Glb (K:PySem.W.Frag) (w:World) (mg:Str -> Option Value):Prop where
 GREATEST:∃ t,mg "GREATEST" = some (.int 1000000000000000000 t)
 LONGEST_stops:∃ t,mg "LONGEST_stops" = some (.int 200 t)
structure Calls (P:Program) (w:World) (K:PySem.W.Frag) (mg:Str -> Option Value) (base:Heap) (n:Nat) (C:M.Call):Prop where
 c1:ae P w K mg base n C "in_rows" 1 []
 c2:ae P w K mg base n C "is_worth" 2 []
 c3:ae P w K mg base n C "is_number" 3 []
 c6:ae P w K mg base n C "flat_of" 6 []
 c7:ae P w K mg base n C "worths_of" 7 []
 c8:ae P w K mg base n C "is_flat" 8 []
 c9:ae P w K mg base n C "is_couple" 9 []
 c10:ae P w K mg base n C "are_lengths" 10 []
 c11:ae P w K mg base n C "many_in" 11 []
 c12:ae P w K mg base n C "taken" 12 []
 c13:ae P w K mg base n C "taken_there" 13 []
 c14:ae P w K mg base n C "things_of" 14 []
 c15:ae P w K mg base n C "behind" 15 []
 c16:ae P w K mg base n C "kept" 16 []
 c17:ae P w K mg base n C "merged" 17 []
 c18:ae P w K mg base n C "spread" 18 []
 c19:ae P w K mg base n C "first_ones" 19 []
 c20:ae P w K mg base n C "_law_draw" 20 [0]
 c21:ae P w K mg base n C "_law_number" 21 [0]
 c22:ae P w K mg base n C "_law_kind" 22 [0]
 c23:ae P w K mg base n C "_law_worth" 23 [0]
 d23:cN P w K mg base n C "_law_worth" 23 [0] (.bl true)
 c24:ae P w K mg base n C "_law_alike" 24 []
 c25:ae P w K mg base n C "_law_more" 25 [0]
 c26:ae P w K mg base n C "_law_mixed" 26 [0]
 c27:ae P w K mg base n C "_law_deed" 27 [0]
 c4:∀ ws,C 4 ws = .no
 c5:∀ ws,C 5 ws = .no
abbrev DD (x:Str) (st:Stmt) (N:List Str) (fn:M.Fn):Prop:=∀ {P:Program} {w:World} {K:PySem.W.Frag} {mg:Str -> Option Value} {base:Heap} {n:Nat} {C:M.Call} {f:Addr} {cdv:Value} {A:Around} {outer:List Env} {s:Shared} {H:Hp} {E:XK},Calls P w K mg base n C -> Txt mg -> Glb K w mg -> Room n (A.deeper (envOfC x (defScope st) s.heap.objs.size f cdv)) -> SSs (eL CX0 P w K mg base N x (defScope st) f cdv A outer s H E).nox (slN N.length) fn.io C (defBody st) fn.body
theorem S2:ai ["kind","thing"] ["kind","thing"] (defScope s2):=fsc
theorem D2:DD "is_worth" s2 ["kind","thing"] bz:=fun {_ _ _ _ _ _ _ _ _ _ _ s _ _} cs T G hr =>
 have S:=S2
 (ssc (zIf (a9 hr (sIx (sV 0) sI) sS) (ss1 (au (af cs.c3 hr (sac (sM 1) sa0)))) ss0)
    (ssc (zIf (a9 hr (sIx (sV 0) sI) sS) (ss1 (au (cZ (by decide) PyProof.Rows.boot_bool T.isin T.bool (sM 1)))) ss0)
    (ssc (zIf (a9 hr (sIx (sV 0) sI) sS) (ss1 (au (AK cs.c4))) ss0)
    (ss1 (au (AK cs.c5))))))
theorem S3:ai ["thing"] ["thing"] (defScope s3):=fsc
theorem D3:DD "is_number" s3 ["thing"] bI:=fun {_ _ _ _ _ _ _ _ _ _ _ s _ _} cs T G hr =>
 have S:=S3
 (ssc (zIf (tW (wOr (gL (tB (cZ (by decide) PyProof.Rows.boot_int T.isin T.int (sV 0)))) (wO1 (tB (cZ (by decide) PyProof.Rows.boot_bool T.isin T.bool (sV 0)))))) (ss1 (au sO)) ss0)
    (ss1 (au (lF (Cp (sGc G.GREATEST)) (sM 0) (sGc G.GREATEST)))))
theorem S6:ai ["kind","worths","things","worth"] ["kind","worths"] (defScope s6):=fsc
theorem D6:DD "flat_of" s6 ["kind","worths","things","worth"] a6:=fun {_ _ _ _ _ _ _ _ _ _ _ s _ _} cs T G hr =>
 have S:=S6
 (ssc (zIf (a9 hr (sIx (sV 0) sI) sS) (ss1 (au (sT (slc (af cs.c6 hr (sac (sIx (sV 0) sI) (sac (sC1 [] [] [] [] (ff (sV 1)) (fun _ _ _ _=>(sIx (sV 0) sI)) csc .nil .nil) sa0))) (slc (af cs.c6 hr (sac (sIx (sV 0) sI) (sac (sC1 [] [] [] [] (ff (sV 1)) (fun _ _ _ _=>(sIx (sV 0) sI)) csc .nil .nil) sa0))) sl0))))) ss0)
    (ssc (zIf (a9 hr (sIx (sV 0) sI) sS) (ssc (aG 2 S.nd (sLs sl0))
     (ssc (gJ 3 S.nd (ff (sV 1)) (ss1 (yo 2 (sV 3))))
     (ss1 (au (sT (slc (sC1 [] [] [] [] (ff (sM 1)) (fun _ _ _ _=>(dj (hm:=T.len) (ha:=(sV 0)))) csc .nil .nil) (slc (af cs.c6 hr (sac (sIx (sM 0) sI) (sac (sM 2) sa0))) sl0))))))) ss0)
    (ss1 (au (j6 (hm:=T.list) (ha:=(sM 1)))))))
theorem S7:ai ["kind","flat","many"] ["kind","flat","many"] (defScope s7):=fsc
theorem D7:DD "worths_of" s7 ["kind","flat","many"] aP:=fun {_ _ _ _ _ _ _ _ _ _ _ s _ _} cs T G hr =>
 have S:=S7
 (ssc (zIf (a9 hr (sIx (sV 0) sI) sS) (ss1 (au (sLZ T.list T.zip (af cs.c7 hr (sac (sIx (sV 0) sI) (sac (sIx (sV 1) sI) (sac (sV 2) sa0)))) (af cs.c7 hr (sac (sIx (sV 0) sI) (sac (sIx (sV 1) sI) (sac (sV 2) sa0))))))) ss0)
    (ssc (zIf (a9 hr (sIx (sV 0) sI) sS) (ss1 (au (af cs.c1 hr (sac (sIx (sV 1) sI) (sac (af cs.c7 hr (sac (sIx (sM 0) sI) (sac (sIx (sV 1) sI) (sac (wB (hm:=T.sum) (ha:=(sIx (sV 1) sI))) sa0)))) sa0))))) ss0)
    (ss1 (au (j6 (hm:=T.list) (ha:=(sM 1)))))))
theorem S8:ai ["kind","thing","many"] ["kind","thing","many"] (defScope s8):=fsc
theorem D8:DD "is_flat" s8 ["kind","thing","many"] a7:=fun {_ _ _ _ _ _ _ _ _ _ _ s _ _} cs T G hr =>
 have S:=S8
 (ssc (zIf (a9 hr (sIx (sV 0) sI) sS) (ss1 (au (sBW (jR (af cs.c9 hr (sac (sV 1) sa0)) (jR (af cs.c8 hr (sac (sIx (sV 0) sI) (sac (sIx (sV 1) sI) (sac (sV 2) sa0)))) (vA1 (af cs.c8 hr (sac (sIx (sV 0) sI) (sac (sIx (sV 1) sI) (sac (sV 2) sa0)))))))))) ss0)
    (ssc (zIf (a9 hr (sIx (sV 0) sI) sS) (ss1 (au (sBW (jR (af cs.c9 hr (sac (sV 1) sa0)) (jR (af cs.c10 hr (sac (sIx (sV 1) sI) (sac (sM 2) sa0))) (vA1 (af cs.c8 hr (sac (sIx (sM 0) sI) (sac (sIx (sV 1) sI) (sac (wB (hm:=T.sum) (ha:=(sIx (sV 1) sI))) sa0)))))))))) ss0)
    (ss1 (au (sBW (jR (cZ (by decide) PyProof.Rows.boot_list T.isin T.list (sV 1)) (jR (sEq hr (dj (hm:=T.len) (ha:=(sV 1))) (sM 2)) (vA1 (w6 (hm:=T.all) (ha:=(sC1 [0] [0] [("kind",s.heap.objs.size + 1)] ["kind"] (ff (sV 1)) (fun _ _ _ _=>(af cs.c2 hr (sac (sV 1) (sac (sV 0) sa0)))) csc (eN .nil) (frc .nil))))))))))))
theorem S9:ai ["thing"] ["thing"] (defScope s9):=fsc
theorem D9:DD "is_couple" s9 ["thing"] bH:=fun {_ _ _ _ _ _ _ _ _ _ _ s _ _} cs T G hr =>
 have S:=S9
 (ss1 (au (sBW (jR (cZ (by decide) PyProof.Rows.boot_tuple T.isin T.tup (sV 0)) (vA1 (sEq hr (dj (hm:=T.len) (ha:=(sV 0))) sI))))))
theorem S10:ai ["thing","many"] ["thing","many"] (defScope s10):=fsc
theorem D10:DD "are_lengths" s10 ["thing","many"] aZ:=fun {_ _ _ _ _ _ _ _ _ _ _ s _ _} cs T G hr =>
 have S:=S10
 (ssc (zIf (gL (tB (af cs.c8 hr (sac (sT (slc sS sl0)) (sac (sV 0) (sac (sV 1) sa0)))))) (ss1 (au sO)) ss0)
    (ss1 (au (w6 (hm:=T.all) (ha:=(sC1 [] [] [] [] (ff (sM 0)) (fun _ _ _ _=>(lF sI (sV 0) (sGc G.LONGEST_stops))) csc .nil .nil))))))
theorem S11:ai ["kind","flat"] ["kind","flat"] (defScope s11):=fsc
theorem D11:DD "many_in" s11 ["kind","flat"] a4:=fun {_ _ _ _ _ _ _ _ _ _ _ s _ _} cs T G hr =>
 have S:=S11
 (ssc (zIf (a9 hr (sIx (sV 0) sI) sS) (ss1 (au (af cs.c11 hr (sac (sIx (sM 0) sI) (sac (sIx (sM 1) sI) sa0))))) ss0)
    (ss1 (au (sIf (a9 hr (sIx (sM 0) sI) sS) (dj (hm:=T.len) (ha:=(sIx (sV 1) sI))) (dj (hm:=T.len) (ha:=(sV 1)))))))
theorem S12:ai ["kind","flat","numbers","many","number"] ["kind","flat","numbers"] (defScope s12):=fsc
theorem D12:DD "taken" s12 ["kind","flat","numbers","many","number"] ek:=fun {_ _ _ _ _ _ _ _ _ _ _ s _ _} cs T G hr =>
 have S:=S12
 (ssc (aG 3 S.nd (af cs.c11 hr (sac (sV 0) (sac (sV 1) sa0))))
    (ssc (gJ 4 S.nd (ff (sV 2)) (ss1 (zIf (gL (uD sI (sV 4) (sV 3))) (ss1 Az) ss0)))
    (ss1 (au (af cs.c13 hr (sac (sM 0) (sac (sM 1) (sac (sM 2) sa0))))))))
theorem S13:ai ["kind","flat","numbers","lengths"] ["kind","flat","numbers"] (defScope s13):=fsc
theorem D13:DD "taken_there" s13 ["kind","flat","numbers","lengths"] aF:=fun {_ _ _ _ _ _ _ _ _ _ _ s _ _} cs T G hr =>
 have S:=S13
 (ssc (zIf (a9 hr (sIx (sV 0) sI) sS) (ss1 (au (sT (slc (af cs.c13 hr (sac (sIx (sV 0) sI) (sac (sIx (sV 1) sI) (sac (sV 2) sa0)))) (slc (af cs.c13 hr (sac (sIx (sV 0) sI) (sac (sIx (sV 1) sI) (sac (sV 2) sa0)))) sl0))))) ss0)
    (ssc (zIf (a9 hr (sIx (sV 0) sI) sS) (ssc (zC1 3 [1] [1] [("flat",s.heap.objs.size + 1)] ["flat"] (ff (sV 2)) (fun _ _ _ _=>(sIx (sIx (sV 1) sI) (sV 0))) csc (eN .nil) (frc .nil) S.nd)
     (ss1 (au (sT (slc (sM 3) (slc (af cs.c13 hr (sac (sIx (sM 0) sI) (sac (sIx (sV 1) sI) (sac (af cs.c14 hr (sac (sIx (sV 1) sI) (sac (sM 2) sa0))) sa0)))) sl0)))))) ss0)
    (ss1 (au (sC1 [1] [1] [("flat",s.heap.objs.size + 1)] ["flat"] (ff (sM 2)) (fun _ _ _ _=>(sIx (sV 1) (sV 0))) csc (eN .nil) (frc .nil))))))
theorem S14:ai ["lengths","numbers","starts","start","length","things","number"] ["lengths","numbers"] (defScope s14):=fsc
theorem D14:DD "things_of" s14 ["lengths","numbers","starts","start","length","things","number"] bJ:=fun {_ _ _ _ _ _ _ _ _ _ _ s _ _} cs T G hr =>
 have S:=S14
 (ssc (aG 2 S.nd (sLs sl0))
    (ssc (aG 3 S.nd sI)
    (ssc (gJ 4 S.nd (ff (sV 0)) (ssc (kn 2 (sV 3))
     (ss1 (aG 3 S.nd (b8 (sV 3) (sV 4))))))
    (ssc (aG 5 S.nd (sLs sl0))
    (ssc (gJ 6 S.nd (ff (sV 1)) (ss1 (yo 5 (BS T.list T.range (sIx (sV 2) (sV 6)) (b8 (sIx (sV 2) (sV 6)) (sIx (sV 0) (sV 6)))))))
    (ss1 (au (sM 5))))))))
theorem S15:ai ["kind","one","other"] ["kind","one","other"] (defScope s15):=fsc
theorem D15:DD "behind" s15 ["kind","one","other"] bN:=fun {_ _ _ _ _ _ _ _ _ _ _ s _ _} cs T G hr =>
 have S:=S15
 (ssc (zIf (a9 hr (sIx (sV 0) sI) sS) (ss1 (au (sT (slc (af cs.c15 hr (sac (sIx (sV 0) sI) (sac (sIx (sV 1) sI) (sac (sIx (sV 2) sI) sa0)))) (slc (af cs.c15 hr (sac (sIx (sV 0) sI) (sac (sIx (sV 1) sI) (sac (sIx (sV 2) sI) sa0)))) sl0))))) ss0)
    (ssc (zIf (a9 hr (sIx (sV 0) sI) sS) (ss1 (au (sT (slc (b8 (sIx (sV 1) sI) (sIx (sV 2) sI)) (slc (af cs.c15 hr (sac (sIx (sM 0) sI) (sac (sIx (sV 1) sI) (sac (sIx (sV 2) sI) sa0)))) sl0))))) ss0)
    (ss1 (au (b8 (sM 1) (sM 2))))))
theorem S16:ai ["kind","flat","truths"] ["kind","flat","truths"] (defScope s16):=fsc
theorem D16:DD "kept" s16 ["kind","flat","truths"] f7:=fun {_ _ _ _ _ _ _ _ _ _ _ s _ _} cs T G hr =>
 have S:=S16
 (ss1 (au (af cs.c13 hr (sac (sM 0) (sac (sM 1) (sac (Ck [] [] [] [] (vG (hm:=T.enum) (ha:=(sM 2))) (fun _ _ _ _=>(tB (sV 1))) (fun _ _ _ _=>(sV 0)) csc .nil .nil) sa0))))))
theorem S17:ai ["kind","truths","one","other","numbers","ahead","after","truth"] ["kind","truths","one","other"] (defScope s17):=fsc
theorem D17:DD "merged" s17 ["kind","truths","one","other","numbers","ahead","after","truth"] dm:=fun {_ _ _ _ _ _ _ _ _ _ _ s _ _} cs T G hr =>
 have S:=S17
 (ssc (aG 4 S.nd (sLs sl0))
    (ssc (aG 5 S.nd sI)
    (ssc (aG 6 S.nd (af cs.c11 hr (sac (sV 0) (sac (sV 2) sa0))))
    (ssc (gJ 7 S.nd (ff (sV 1)) (ss1 (zIf (tB (sV 7)) (ssc (kn 4 (sV 5))
      (ss1 (aG 5 S.nd (b8 (sV 5) sI)))) (ssc (kn 4 (sV 6))
      (ss1 (aG 6 S.nd (b8 (sV 6) sI)))))))
    (ss1 (au (af cs.c13 hr (sac (sV 0) (sac (af cs.c15 hr (sac (sV 0) (sac (sM 2) (sac (sM 3) sa0)))) (sac (sM 4) sa0))))))))))
theorem S18:ai ["kind","flat","lengths","numbers","number","length"] ["kind","flat","lengths"] (defScope s18):=fsc
theorem D18:DD "spread" s18 ["kind","flat","lengths","numbers","number","length"] dD:=fun {_ _ _ _ _ _ _ _ _ _ _ s _ _} cs T G hr =>
 have S:=S18
 (ssc (aG 3 S.nd (sLs sl0))
    (ssc (nX 4 5 S.nd (vG (hm:=T.enum) (ha:=(sV 2))) (ss1 (yo 3 (gx (sLs (slc (sV 4) sl0)) (sV 5)))))
    (ss1 (au (af cs.c13 hr (sac (sM 0) (sac (sM 1) (sac (sM 3) sa0))))))))
theorem S19:ai ["kind","flat","many","lengths"] ["kind","flat","many"] (defScope s19):=fsc
theorem D19:DD "first_ones" s19 ["kind","flat","many","lengths"] aM:=fun {_ _ _ _ _ _ _ _ _ _ _ s _ _} cs T G hr =>
 have S:=S19
 (ssc (zIf (a9 hr (sIx (sV 0) sI) sS) (ss1 (au (sT (slc (af cs.c19 hr (sac (sIx (sV 0) sI) (sac (sIx (sV 1) sI) (sac (sV 2) sa0)))) (slc (af cs.c19 hr (sac (sIx (sV 0) sI) (sac (sIx (sV 1) sI) (sac (sV 2) sa0)))) sl0))))) ss0)
    (ssc (zIf (a9 hr (sIx (sV 0) sI) sS) (ssc (aG 3 S.nd (oO (sIx (sV 1) sI) (sV 2)))
     (ss1 (au (sTA (sai 3 (sac (sQ (af cs.c19 hr (sac (sIx (sV 0) sI) (sac (sIx (sV 1) sI) (sac (wB (hm:=T.sum) (ha:=(sV 3))) sa0))))) sa0)))))) ss0)
    (ss1 (au (oO (sM 1) (sM 2))))))
theorem S20:ai ["tape","many","rest","spot","cell","number"] ["tape","many"] (defScope s20):=fsc
theorem D20:DD "_law_draw" s20 ["tape","many","rest","spot","cell","number"] aT:=fun {_ _ _ _ _ _ _ _ _ _ _ s _ _} cs T G hr =>
 have S:=S20
 (ssc (zIf (ud (sIx (sV 0) sI) sI) (ssc (qG 0 (gG (sIx (sV 0) sI) sI) sI)
      (ssc (aG 2 S.nd (sIx (sV 0) sI))
      (ssc (qG 0 (Bx (sV 2) (sV 1)) sI)
      (ss1 (au (gH (sM 2) (sM 1))))))) ss0)
    (ssc (aG 3 S.nd (sIx (sV 0) sI))
    (ssc (qG 0 (b8 (sV 3) sI) sI)
    (ssc (aG 4 S.nd sI)
    (ssc (zIf (ud (dj (hm:=T.len) (ha:=(sIx (sV 0) sI))) sI) (ss1 (aG 4 S.nd (sIx (sIx (sV 0) sI) (gH (sV 3) (dj (hm:=T.len) (ha:=(sIx (sV 0) sI))))))) ss0)
    (ssc (zIf (tW (x4 (rV (sV 3) (dj (hm:=T.len) (ha:=(sIx (sV 0) sI)))) (wA1 (BV (sV 4) (jW sI sI))))) (ssc (qG 0 (gG (sV 4) (jW sI sI)) sI)
     (ssc (qG 0 sI sI)
     (ss1 (au (af cs.c20 hr (sai 0 (sac (sM 1) sa0))))))) ss0)
    (ssc (aG 5 S.nd (gx (b8 (gH (sV 4) sI) sI) (b8 (b8 (gH (gx (sV 3) (sV 3)) sI) (gx sI (sV 3))) sI)))
    (ssc (aG 5 S.nd (gH (gx (gH (sV 5) sI) (gH (sV 5) sI)) sI))
    (ss1 (au (gH (gH (b8 (Bx (sM 5) sI) (gx sI (sM 3))) sI) (sM 1))))))))))))
theorem S21:ai ["tape","way","top","great"] ["tape"] (defScope s21):=fsc
theorem D21:DD "_law_number" s21 ["tape","way","top","great"] bj:=fun {_ _ _ _ _ _ _ _ _ _ _ s _ _} cs T G hr =>
 have S:=S21
 (ssc (aG 1 S.nd (af cs.c20 hr (sai 0 (sac sI sa0))))
    (ssc (zIf (rV (sV 1) sI) (ss1 (au (gG (af cs.c20 hr (sai 0 (sac sI sa0))) sI))) ss0)
    (ssc (zIf (a9 hr (sV 1) sI) (ssc (aG 2 S.nd (jW sI sI))
     (ss1 (au (sIx (sLs (slc (sV 2) (slc (gG sI (sV 2)) (slc (gG (sV 2) sI) (slc (gG sI (sV 2)) (slc sI sl0)))))) (af cs.c20 hr (sai 0 (sac sI sa0))))))) ss0)
    (ssc (aG 3 S.nd (gx (af cs.c20 hr (sai 0 (sac (jW sI sI) sa0))) (jW sI sI)))
    (ssc (aG 3 S.nd (b8 (sV 3) (gx (af cs.c20 hr (sai 0 (sac (jW sI sI) sa0))) (jW sI sI))))
    (ssc (aG 3 S.nd (b8 (sV 3) (af cs.c20 hr (sai 0 (sac (jW sI sI) sa0)))))
    (ss1 (au (gx (sM 3) (gG sI (gx sI (af cs.c20 hr (sai 0 (sac sI sa0))))))))))))))
theorem S22:ai ["tape","left","way","one"] ["tape","left"] (defScope s22):=fsc
theorem D22:DD "_law_kind" s22 ["tape","left","way","one"] b5:=fun {_ _ _ _ _ _ _ _ _ _ _ s _ _} cs T G hr =>
 have S:=S22
 (ssc (aG 2 S.nd (af cs.c20 hr (sai 0 (sac sI sa0))))
    (ssc (zIf (tW (wOr (a9 hr (sV 1) sI) (wO1 (rV (sV 2) sI)))) (ss1 (au (sIx (sLs (slc (sT (slc sS sl0)) (slc (sT (slc sS sl0)) sl0))) (gH (sM 2) sI)))) ss0)
    (ssc (zIf (rV (sV 2) sI) (ssc (aG 3 S.nd (af cs.c22 hr (sai 0 (sac (gG (sV 1) sI) sa0))))
     (ss1 (au (sT (slc sS (slc (sM 3) (slc (af cs.c22 hr (sai 0 (sac (gG (sM 1) sI) sa0))) sl0))))))) ss0)
    (ss1 (au (sT (slc sS (slc (af cs.c22 hr (sai 0 (sac (gG (sM 1) sI) sa0))) sl0))))))))
theorem S23:ai ["tape","kind","long","one","many"] ["tape","kind","long"] (defScope s23):=fsc
theorem D23:DD "_law_worth" s23 ["tape","kind","long","one","many"] aA:=fun {_ _ _ _ _ _ _ _ _ _ _ s _ _} cs T G hr =>
 have S:=S23
 (ssc (zIf (a9 hr (sIx (sV 1) sI) sS) (ss1 (au (af cs.c21 hr (sai 0 sa0)))) ss0)
    (ssc (zIf (a9 hr (sIx (sV 1) sI) sS) (ss1 (au (sEq hr (af cs.c20 hr (sai 0 (sac sI sa0))) sI))) ss0)
    (ssc (zIf (a9 hr (sIx (sV 1) sI) sS) (ssc (aG 3 S.nd (af cs.c23 hr (sai 0 (sac (sIx (sV 1) sI) (sac (sV 2) sa0)))))
     (ss1 (au (sT (slc (sM 3) (slc (af cs.c23 hr (sai 0 (sac (sIx (sM 1) sI) (sac (sM 2) sa0)))) sl0)))))) ss0)
    (ssc (aG 4 S.nd (af cs.c20 hr (sai 0 (sac sI sa0))))
    (ssc (zIf (tW (x4 (tB (sV 2)) (x4 (a9 hr (dj (hm:=T.len) (ha:=(sIx (sV 1) sI))) sI) (wA1 (a9 hr (af cs.c20 hr (sai 0 (sac sI sa0))) sI))))) (ss1 (aG 4 S.nd (b8 sI (af cs.c20 hr (sai 0 (sac sI sa0)))))) ss0)
    (ss1 (au (sC1 [1,0] [1,0] [("tape",s.heap.objs.size + 1),("kind",s.heap.objs.size + 2)] ["kind","tape"] (ku (hm:=T.range) (ha:=(sM 4))) (fun _ _ _ _=>(af cs.c23 hr (sai 2 (sac (sIx (sV 1) sI) (sac sO sa0))))) csc (eN (eN .nil)) (frc (frc .nil))))))))))
theorem S24:ai ["due","found"] ["due","found"] (defScope s24):=fsc
theorem D24:DD "_law_alike" s24 ["due","found"] aw:=fun {_ _ _ _ _ _ _ _ _ _ _ s _ _} cs T G hr =>
 have S:=S24
 (ssc (zIf (tB (AS (by decide) PyProof.Rows.boot_list (by decide) PyProof.Rows.boot_tuple T.isin T.list T.tup (sV 0))) (ssc (zIf (pN hr (cZ (by decide) PyProof.Rows.boot_list T.isin T.list (sV 0)) (cZ (by decide) PyProof.Rows.boot_list T.isin T.list (sV 1))) (ss1 (au sO)) ss0)
      (ssc (zIf (pN hr (cZ (by decide) PyProof.Rows.boot_tuple T.isin T.tup (sV 0)) (cZ (by decide) PyProof.Rows.boot_tuple T.isin T.tup (sV 1))) (ss1 (au sO)) ss0)
      (ssc (zIf (pN hr (dj (hm:=T.len) (ha:=(sV 0))) (dj (hm:=T.len) (ha:=(sV 1)))) (ss1 (au sO)) ss0)
      (ss1 (au (w6 (hm:=T.all) (ha:=(sC2 [] [] [] [] (qp (hm:=T.zip) (ha:=(sM 0)) (hb:=(sM 1))) (fun _ _ _ _=>(af cs.c24 hr (sac (sV 0) (sac (sV 1) sa0)))) csc .nil .nil)))))))) ss0)
    (ssc (zIf (pN hr (cZ (by decide) PyProof.Rows.boot_bool T.isin T.bool (sV 0)) (cZ (by decide) PyProof.Rows.boot_bool T.isin T.bool (sV 1))) (ss1 (au sO)) ss0)
    (ss1 (au (sEq hr (sM 0) (sM 1))))))
theorem S25:ai ["tape","kind"] ["tape","kind"] (defScope s25):=fsc
theorem D25:DD "_law_more" s25 ["tape","kind"] bZ:=fun {_ _ _ _ _ _ _ _ _ _ _ s _ _} cs T G hr =>
 have S:=S25
 (ss1 (au (sC1 [1,0] [1,0] [("tape",s.heap.objs.size + 1),("kind",s.heap.objs.size + 2)] ["kind","tape"] (ku (hm:=T.range) (ha:=(af cs.c20 hr (sai 0 (sac sI sa0))))) (fun _ _ _ _=>(lZ (bs:=[.io 0,.var 1]) cs.d23 hr (sai 2 (sac (sV 1) sa0)))) csc (eN (eN .nil)) (frc (frc .nil)))))
theorem S26:ai ["tape","kind","worths","flat","more","mine","yours","truths","due","truth"] ["tape","kind","worths","flat"] (defScope s26):=fsc
theorem D26:DD "_law_mixed" s26 ["tape","kind","worths","flat","more","mine","yours","truths","due","truth"] bG:=fun {_ _ _ _ _ _ _ _ _ _ _ s _ _} cs T G hr =>
 have S:=S26
 (ssc (aG 4 S.nd (af cs.c25 hr (sai 0 (sac (sV 1) sa0))))
    (ssc (aG 5 S.nd (j6 (hm:=T.list) (ha:=(sV 2))))
    (ssc (aG 6 S.nd (j6 (hm:=T.list) (ha:=(sV 4))))
    (ssc (aG 7 S.nd (sLs sl0))
    (ssc (aG 8 S.nd (sLs sl0))
    (ssc (Cb (ud (b8 (lT 5 T.len) (lT 6 T.len)) sI) (ssc (aG 9 S.nd (sBW (vOr (sEq hr (lT 6 T.len) sI) (vO1 (sBW (jR (sGt (lT 5 T.len) sI) (vA1 (sEq hr (af cs.c20 hr (sai 0 (sac sI sa0))) sI))))))))
     (ssc (kn 7 (sV 9))
     (ss1 (zIf (tB (sV 9)) (ss1 (kn 8 (vA 5))) (ss1 (kn 8 (vA 6))))))))
    (ss1 (au (sT (slc (sM 8) (slc (af cs.c17 hr (sac (sV 1) (sac (sM 7) (sac (sM 3) (sac (af cs.c6 hr (sac (sV 1) (sac (sM 4) sa0))) sa0))))) sl0)))))))))))
theorem S27:ai ["tape","kind","worths","flat","way","many","numbers","due","more","truths","lengths","worth","long","few"] ["tape","kind","worths","flat"] (defScope s27):=fsc
theorem D27:DD "_law_deed" s27 ["tape","kind","worths","flat","way","many","numbers","due","more","truths","lengths","worth","long","few"] b0:=fun {_ _ _ _ _ _ _ _ _ _ _ s _ _} cs T G hr =>
 have S:=S27
 (ssc (aG 4 S.nd (af cs.c20 hr (sai 0 (sac sI sa0))))
    (ssc (aG 5 S.nd (dj (hm:=T.len) (ha:=(sV 2))))
    (ssc (zIf (a9 hr (sV 4) sI) (ssc (CM 6 [5,0] [5,0] [("tape",s.heap.objs.size + 1),("many",s.heap.objs.size + 3)] ["many","tape"] (ku (hm:=T.range) (ha:=(af cs.c20 hr (sai 0 (sac sI sa0))))) (fun _ _ _ _=>(ud (sV 1) sI)) (fun _ _ _ _=>(af cs.c20 hr (sai 2 (sac (sV 1) sa0)))) csc (eN (eN .nil)) (frc (frc .nil)) S.nd)
     (ssc (zC1 7 [2] [2] [("worths",s.heap.objs.size + 2)] ["worths"] (ff (sV 6)) (fun _ _ _ _=>(sIx (sV 1) (sV 0))) csc (eN .nil) (frc .nil) S.nd)
     (ss1 (au (sT (slc (sM 7) (slc (af cs.c12 hr (sac (sM 1) (sac (sM 3) (sac (sM 6) sa0)))) sl0))))))) ss0)
    (ssc (zIf (a9 hr (sV 4) sI) (ssc (aG 8 S.nd (af cs.c25 hr (sai 0 (sac (sV 1) sa0))))
     (ss1 (au (sT (slc (b8 (sM 2) (sV 8)) (slc (af cs.c15 hr (sac (sV 1) (sac (sM 3) (sac (af cs.c6 hr (sac (sV 1) (sac (sV 8) sa0))) sa0)))) sl0)))))) ss0)
    (ssc (zIf (a9 hr (sV 4) sI) (ssc (aG 8 S.nd (af cs.c25 hr (sai 0 (sac (sV 1) sa0))))
     (ss1 (au (sT (slc (b8 (sV 8) (sM 2)) (slc (af cs.c15 hr (sac (sV 1) (sac (af cs.c6 hr (sac (sV 1) (sac (sV 8) sa0))) (sac (sM 3) sa0)))) sl0)))))) ss0)
    (ssc (zIf (a9 hr (sV 4) sI) (ssc (zC1 9 [0] [0] [("tape",s.heap.objs.size + 1)] ["tape"] (ku (hm:=T.range) (ha:=(sV 5))) (fun _ _ _ _=>(sGt (af cs.c20 hr (sai 1 (sac sI sa0))) sI)) csc (eN .nil) (frc .nil) S.nd)
     (ssc (BI 7 [] [] [] [] (qp (hm:=T.zip) (ha:=(sV 2)) (hb:=(sV 9))) (fun _ _ _ _=>(tB (sV 1))) (fun _ _ _ _=>(sV 0)) csc .nil .nil S.nd)
     (ss1 (au (sT (slc (sM 7) (slc (af cs.c16 hr (sac (sM 1) (sac (sM 3) (sac (sM 9) sa0)))) sl0))))))) ss0)
    (ssc (zIf (a9 hr (sV 4) sI) (ss1 (au (af cs.c26 hr (sai 0 (sac (sM 1) (sac (sM 2) (sac (sM 3) sa0))))))) ss0)
    (ssc (zIf (a9 hr (sV 4) sI) (ssc (zC1 10 [0] [0] [("tape",s.heap.objs.size + 1)] ["tape"] (ku (hm:=T.range) (ha:=(sV 5))) (fun _ _ _ _=>(af cs.c20 hr (sai 1 (sac sI sa0)))) csc (eN .nil) (frc .nil) S.nd)
     (ssc (aG 7 S.nd (sLs sl0))
     (ssc (nX 11 12 S.nd (qp (hm:=T.zip) (ha:=(sV 2)) (hb:=(sV 10))) (ss1 (aG 7 S.nd (b8 (sV 7) (gx (sLs (slc (sV 11) sl0)) (sV 12))))))
     (ss1 (au (sT (slc (sM 7) (slc (af cs.c18 hr (sac (sM 1) (sac (sM 3) (sac (sM 10) sa0)))) sl0)))))))) ss0)
    (ssc (aG 13 S.nd (af cs.c20 hr (sai 0 (sac (b8 (sV 5) sI) sa0))))
    (ss1 (au (sT (slc (oO (sM 2) (sV 13)) (slc (af cs.c19 hr (sac (sM 1) (sac (sM 3) (sac (sV 13) sa0)))) sl0))))))))))))))
theorem S0:ai ["script","tape","kind","worths","flat","elder","k","some","told"] ["script"] (defScope s0):=fsc
theorem D0:DD "law" s0 ["script","tape","kind","worths","flat","elder","k","some","told"] mi:=fun {_ _ _ _ _ _ _ _ _ _ _ s _ _} cs T G hr =>
 have S:=S0
 (ssc (aG 1 S.nd (sLs (slc (j6 (hm:=T.list) (ha:=(oO (sV 0) sI))) (slc sI (slc sI (slc sI sl0))))))
    (ssc (aG 2 S.nd (af cs.c22 hr (sai 1 (sac (b8 sI (af cs.c20 hr (sai 1 (sac sI sa0)))) sa0))))
    (ssc (zC1 3 [2,1] [2,1] [("tape",s.heap.objs.size + 1),("kind",s.heap.objs.size + 2)] ["kind","tape"] (ku (hm:=T.range) (ha:=(b8 sI (af cs.c20 hr (sai 1 (sac sI sa0)))))) (fun _ _ _ _=>(lZ (bs:=[.io 1,.var 2]) cs.d23 hr (sai 2 (sac (sV 1) sa0)))) csc (eN (eN .nil)) (frc (frc .nil)) S.nd)
    (ssc (aG 4 S.nd (af cs.c6 hr (sac (sV 2) (sac (sV 3) sa0))))
    (ssc (aG 5 S.nd (sLs (slc (sT (slc (sV 3) (slc (sV 4) sl0))) sl0)))
    (ssc (gJ 6 S.nd (ku (hm:=T.range) (ha:=(BG (hm:=T.min) (ha:=sI) (hb:=(b8 sI (dj (hm:=T.len) (ha:=(sV 0)))))))) (ssc (zG 3 4 S.nd (af cs.c27 hr (sai 1 (sac (sV 2) (sac (sV 3) (sac (sV 4) sa0))))))
     (ssc (aG 3 S.nd (oO (sV 3) sI))
     (ssc (aG 4 S.nd (af cs.c19 hr (sac (sV 2) (sac (sV 4) (sac (dj (hm:=T.len) (ha:=(sV 3))) sa0)))))
     (ssc (zIf (gL (tB (af cs.c24 hr (sac (af cs.c6 hr (sac (sV 2) (sac (sV 3) sa0))) (sac (sV 4) sa0))))) (ss1 (au sO)) ss0)
     (ssc (zIf (yU (af cs.c8 hr (sac (sV 2) (sac (sV 4) (sac (dj (hm:=T.len) (ha:=(sV 3))) sa0)))) sO) (ss1 (au sO)) ss0)
     (ssc (zIf (pN hr (af cs.c11 hr (sac (sV 2) (sac (sV 4) sa0))) (dj (hm:=T.len) (ha:=(sV 3)))) (ss1 (au sO)) ss0)
     (ssc (zIf (gL (tB (af cs.c24 hr (sac (sV 3) (sac (af cs.c7 hr (sac (sV 2) (sac (sV 4) (sac (dj (hm:=T.len) (ha:=(sV 3))) sa0)))) sa0))))) (ss1 (au sO)) ss0)
     (ss1 (kn 5 (sT (slc (sV 3) (slc (sV 4) sl0)))))))))))))
    (ssc (nX 7 8 S.nd (A6 (sV 5)) (ss1 (zIf (gL (tB (af cs.c24 hr (sac (af cs.c6 hr (sac (sV 2) (sac (sV 7) sa0))) (sac (sV 8) sa0))))) (ss1 (au sO)) ss0)))
    (ss1 (au sO)))))))))
end A38

set_option Elab.async false
set_option linter.all false
set_option maxRecDepth 100000
set_option maxHeartbeats 4000000
namespace A38
open PySem PySem.Spec PyProof.Rows L2 L3 MR
abbrev Cl (n:Nat):M.Call:=M.callR prog 1000000 1 n
abbrev ql:Stmt:=s1
abbrev zR:Nat:=1
section
variable {P:Program} {w:World} {K:PySem.W.Frag} {mg:Str -> Option Value} {base:Heap} {f:Addr} {fd:FuncData}
theorem scRo:ai ["lengths","things","rows","start","length"] ["lengths","things"] (defScope ql):=⟨rfl,rfl,rfl,by decide +kernel,rfl,by decide +kernel,by decide +kernel⟩
theorem sG (xs:List V) (i n:Nat):dg xs (some (i:Int)) (some ((i:Int) + (n:Int))) = (xs.drop i).take n:=by
 have e:(i:Int) + (n:Int) = ((i + n:Nat):Int):=by omega
 unfold dg
 rw [e,HT.sIx_nat,HT.sIx_nat]
 by_cases h:i <= xs.length
 ·rw [Nat.min_eq_left h]
  by_cases h2:i + n <= xs.length
  ·rw [Nat.min_eq_left h2,Nat.add_sub_cancel_left]
  ·rw [Nat.min_eq_right (by omega),List.take_of_length_le (by rw [List.length_drop]; omega),List.take_of_length_le (by rw [List.length_drop]; omega)]
 ·rw [Nat.min_eq_right (by omega:xs.length <= i),Nat.min_eq_right (by omega:xs.length <= i + n),List.drop_of_length_le (Nat.le_refl _),List.drop_of_length_le (by omega)]
  simp
theorem uq {k:Nat} (F:Fun K "in_rows" "in_rows" ql f fd) (T:Txt mg):FnOk P w K mg base CX0 (k + 1) f fd ["lengths","things"] (mn K):=by
 refine F.ok scRo (fun vs H Q E h=>?_) (fun cdv A outer s H vs Q E hr h=>?_)
 ·obtain ⟨la,ta,ls,ws,rfl,_⟩:=h
  rfl
 obtain ⟨la,ta,ls,ws,rfl,hla,hta,hll,q⟩:=h
 refine ⟨_,dE (iC (i:=2) scRo.nd rfl (Or.inl rfl) (oX bD))
  (dE (iC (i:=3) scRo.nd rfl (Or.inl rfl) kU)
  (dE (kZ PassesOwn.never rfl (iB (pv 0)) (bR (i:=4) scRo.nd rfl (Or.inl rfl))
   (dE (jc (mr PySem.F.plainAttrs_list PySem.F.slot_list_append PySem.F.type_list_append gK (pv 2) (aO (j5 sl_list (pv 1) (i3 (pv 3)) (i3 (fx op_add (pv 3) (pv 4)))) bD)))
   (i7 (iC (i:=3) scRo.nd rfl (Or.inl rfl) (fx op_add (pv 3) (pv 4))))))
  (i7 (ph (pv 2))))),?_⟩
 refine ⟨Nat.zero_le _,fun ra hra=>?_⟩
 have s0:Same H (upd H ra (.lst [])):=eC hra _
 refine ⟨_,rfl,la,rfl,⟨_,fO s0 hla⟩,?_⟩
 refine pe (K:=K) (a:=la) (xs:=f6 ls) (fun i σ H2=>i <= ls.length /\ (∃ o,σ = [some (.ref la),some (.ref ta),some (.ref ra),some (.int (((ls.take i).sum:Nat):Int)),o]) /\ Same H H2 /\ ∃ ps:List Addr,H2 ra = some (.lst (ps.map V.ref)) /\ RowsAt H H2 ra (ls.take i) ws ps)
  ⟨Nat.zero_le _,⟨_,rfl⟩,s0,[],ao,rfl⟩ (fun i σ H2 _ h2=>fO h2.2.2.1 hla) ?_ ?_
 ·rintro i x σ H2 hx ⟨hi,⟨o,rfl⟩,s2,ps,hrs,hR⟩
  obtain ⟨n,en,ex⟩:∃ n,ls[i]? = some n /\ x = .int (n:Int):=by
   unfold f6 at hx
   rw [List.getElem?_map] at hx
   cases e:ls[i]? with
   | none=>rw [e] at hx; cases hx
   | some n=>rw [e] at hx; exact ⟨n,rfl,(Option.some.inj hx).symm⟩
  subst ex
  have hi':i < ls.length:=(List.getElem?_eq_some_iff.mp en).1
  have hlr:=hR.length
  rw [List.length_take] at hlr
  refine ⟨_,rfl,.inl ⟨rfl,_,SqL.of hrs⟩,_,rfl,_,rfl,_,rfl,_,rfl,_,rfl,_,_,rfl,rfl,_,rfl,ta,ws,rfl,fO s2 hta,fun p hp=>?_⟩
  have u:=eC hp (.lst (dg ws (some (((ls.take i).sum:Nat):Int)) (some ((((ls.take i).sum:Nat):Int) + (n:Int)))))
  have npr:p ≠ ra:=fun e=>by rw [e,hrs] at hp; cases hp
  refine ⟨ra,ps.map V.ref,_,rfl,rfl,u _ _ hrs,(by rw [List.length_map]; exact Nat.lt_of_lt_of_le (show ps.length < ls.length by omega) (Nat.le_trans hll (by decide))),?_⟩
  refine ⟨_,rfl,_,rfl,_,_,rfl,rfl,?_⟩
  have etk:ls.take (i + 1) = ls.take i ++ [n]:=by rw [List.take_add_one,en]; rfl
  refine ⟨hi',⟨some (.int (n:Int)),?_⟩,Same.own (s2.trans u) hra _,ps ++ [p],by rw [ao,List.map_append]; rfl,?_⟩
  ·rw [etk,List.sum_append]
   show [some (V.ref la),some (V.ref ta),some (V.ref ra),some (V.int ((((ls.take i).sum:Nat):Int) + (n:Int))),some (V.int (n:Int))] = [some (V.ref la),some (V.ref ta),some (V.ref ra),some (V.int (((ls.take i).sum + [n].sum:Nat):Int)),some (V.int (n:Int))]
   have:[n].sum = n:=by simp
   rw [this]
   have e2:(((ls.take i).sum:Nat):Int) + (n:Int) = (((ls.take i).sum + n:Nat):Int):=by omega
   rw [e2]
  ·rw [etk]
   have hpH:H p = none:=mV s2 hp
   have hpp:p ∉ ps:=fun z=>by obtain ⟨zs,e⟩:=(hR.new p z).2.2; rw [hp] at e; cases e
   refine RowsAt.snoc hpH npr (hR.keep fun b o hb e=>?_) hpp ?_
   ·rw [ag hb]; exact u b o e
   ·rw [ag npr,ao,sG]
 rintro σ H2 ⟨_,⟨o,rfl⟩,s2,ps,hrs,hR⟩
 have el:(f6 ls).length = ls.length:=by unfold f6; rw [List.length_map]
 rw [el,List.take_length] at hR
 exact ⟨_,rfl,q _ _ _ s2 hra hrs hR⟩
theorem lD (F:Fun K "in_rows" "in_rows" ql f fd) (T:Txt mg):∀ n,FnOk P w K mg base CX0 n f fd ["lengths","things"] (spS K (Cl n) zR [])
 | 0=>fn0 fun _=>rfl
 | n + 1=>(uq (k:=n) F T).imp fun _ _ _ _ h=>qR (fun _=>rfl) h
end
section
variable {P:Program} {w:World} {K:PySem.W.Frag} {mg:Str -> Option Value} {base:Heap}
theorem all (d1:Df K mg "in_rows" s1 ["lengths","things"]) (d2:Df K mg "is_worth" s2 ["kind","thing"]) (d3:Df K mg "is_number" s3 ["thing"]) (d6:Df K mg "flat_of" s6 ["kind","worths"]) (d7:Df K mg "worths_of" s7 ["kind","flat","many"]) (d8:Df K mg "is_flat" s8 ["kind","thing","many"]) (d9:Df K mg "is_couple" s9 ["thing"]) (d10:Df K mg "are_lengths" s10 ["thing","many"]) (d11:Df K mg "many_in" s11 ["kind","flat"]) (d12:Df K mg "taken" s12 ["kind","flat","numbers"]) (d13:Df K mg "taken_there" s13 ["kind","flat","numbers"]) (d14:Df K mg "things_of" s14 ["lengths","numbers"]) (d15:Df K mg "behind" s15 ["kind","one","other"]) (d16:Df K mg "kept" s16 ["kind","flat","truths"]) (d17:Df K mg "merged" s17 ["kind","truths","one","other"]) (d18:Df K mg "spread" s18 ["kind","flat","lengths"]) (d19:Df K mg "first_ones" s19 ["kind","flat","many"]) (d20:Df K mg "_law_draw" s20 ["tape","many"]) (d21:Df K mg "_law_number" s21 ["tape"]) (d22:Df K mg "_law_kind" s22 ["tape","left"]) (d23:DfD K mg "_law_worth" s23 ["tape","kind","long"] (.bool true)) (d24:Df K mg "_law_alike" s24 ["due","found"]) (d25:Df K mg "_law_more" s25 ["tape","kind"]) (d26:Df K mg "_law_mixed" s26 ["tape","kind","worths","flat"]) (d27:Df K mg "_law_deed" s27 ["tape","kind","worths","flat"])  (T:Txt mg) (G:Glb K w mg):∀ n,Calls P w K mg base n (Cl n)
 | 0 =>
  have c1:ae P w K mg base 0 (Cl 0) "in_rows" 1 []:=d1.ok fun _ _ F=>lD F T 0
  have c2:ae P w K mg base 0 (Cl 0) "is_worth" 2 []:=d2.z
  have c3:ae P w K mg base 0 (Cl 0) "is_number" 3 []:=d3.z
  have c6:ae P w K mg base 0 (Cl 0) "flat_of" 6 []:=d6.z
  have c7:ae P w K mg base 0 (Cl 0) "worths_of" 7 []:=d7.z
  have c8:ae P w K mg base 0 (Cl 0) "is_flat" 8 []:=d8.z
  have c9:ae P w K mg base 0 (Cl 0) "is_couple" 9 []:=d9.z
  have c10:ae P w K mg base 0 (Cl 0) "are_lengths" 10 []:=d10.z
  have c11:ae P w K mg base 0 (Cl 0) "many_in" 11 []:=d11.z
  have c12:ae P w K mg base 0 (Cl 0) "taken" 12 []:=d12.z
  have c13:ae P w K mg base 0 (Cl 0) "taken_there" 13 []:=d13.z
  have c14:ae P w K mg base 0 (Cl 0) "things_of" 14 []:=d14.z
  have c15:ae P w K mg base 0 (Cl 0) "behind" 15 []:=d15.z
  have c16:ae P w K mg base 0 (Cl 0) "kept" 16 []:=d16.z
  have c17:ae P w K mg base 0 (Cl 0) "merged" 17 []:=d17.z
  have c18:ae P w K mg base 0 (Cl 0) "spread" 18 []:=d18.z
  have c19:ae P w K mg base 0 (Cl 0) "first_ones" 19 []:=d19.z
  have c20:ae P w K mg base 0 (Cl 0) "_law_draw" 20 [0]:=d20.z
  have c21:ae P w K mg base 0 (Cl 0) "_law_number" 21 [0]:=d21.z
  have c22:ae P w K mg base 0 (Cl 0) "_law_kind" 22 [0]:=d22.z
  have c23:ae P w K mg base 0 (Cl 0) "_law_worth" 23 [0]:=d23.z
  have e23:cN P w K mg base 0 (Cl 0) "_law_worth" 23 [0] (.bl true):=d23.zD
  have c24:ae P w K mg base 0 (Cl 0) "_law_alike" 24 []:=d24.z
  have c25:ae P w K mg base 0 (Cl 0) "_law_more" 25 [0]:=d25.z
  have c26:ae P w K mg base 0 (Cl 0) "_law_mixed" 26 [0]:=d26.z
  have c27:ae P w K mg base 0 (Cl 0) "_law_deed" 27 [0]:=d27.z
  ⟨c1,c2,c3,c6,c7,c8,c9,c10,c11,c12,c13,c14,c15,c16,c17,c18,c19,c20,c21,c22,c23,e23,c24,c25,c26,c27,fun _=>rfl,fun _=>rfl⟩
 | n + 1 =>
  have c:=all d1 d2 d3 d6 d7 d8 d9 d10 d11 d12 d13 d14 d15 d16 d17 d18 d19 d20 d21 d22 d23 d24 d25 d26 d27  T G n
  have c1:ae P w K mg base (n + 1) (Cl (n + 1)) "in_rows" 1 []:=d1.ok fun _ _ F=>lD F T (n + 1)
  have c2:ae P w K mg base (n + 1) (Cl (n + 1)) "is_worth" 2 []:=d2.s bz S2 (D2 c T G)
  have c3:ae P w K mg base (n + 1) (Cl (n + 1)) "is_number" 3 []:=d3.s bI S3 (D3 c T G)
  have c6:ae P w K mg base (n + 1) (Cl (n + 1)) "flat_of" 6 []:=d6.s a6 S6 (D6 c T G)
  have c7:ae P w K mg base (n + 1) (Cl (n + 1)) "worths_of" 7 []:=d7.s aP S7 (D7 c T G)
  have c8:ae P w K mg base (n + 1) (Cl (n + 1)) "is_flat" 8 []:=d8.s a7 S8 (D8 c T G)
  have c9:ae P w K mg base (n + 1) (Cl (n + 1)) "is_couple" 9 []:=d9.s bH S9 (D9 c T G)
  have c10:ae P w K mg base (n + 1) (Cl (n + 1)) "are_lengths" 10 []:=d10.s aZ S10 (D10 c T G)
  have c11:ae P w K mg base (n + 1) (Cl (n + 1)) "many_in" 11 []:=d11.s a4 S11 (D11 c T G)
  have c12:ae P w K mg base (n + 1) (Cl (n + 1)) "taken" 12 []:=d12.s ek S12 (D12 c T G)
  have c13:ae P w K mg base (n + 1) (Cl (n + 1)) "taken_there" 13 []:=d13.s aF S13 (D13 c T G)
  have c14:ae P w K mg base (n + 1) (Cl (n + 1)) "things_of" 14 []:=d14.s bJ S14 (D14 c T G)
  have c15:ae P w K mg base (n + 1) (Cl (n + 1)) "behind" 15 []:=d15.s bN S15 (D15 c T G)
  have c16:ae P w K mg base (n + 1) (Cl (n + 1)) "kept" 16 []:=d16.s f7 S16 (D16 c T G)
  have c17:ae P w K mg base (n + 1) (Cl (n + 1)) "merged" 17 []:=d17.s dm S17 (D17 c T G)
  have c18:ae P w K mg base (n + 1) (Cl (n + 1)) "spread" 18 []:=d18.s dD S18 (D18 c T G)
  have c19:ae P w K mg base (n + 1) (Cl (n + 1)) "first_ones" 19 []:=d19.s aM S19 (D19 c T G)
  have c20:ae P w K mg base (n + 1) (Cl (n + 1)) "_law_draw" 20 [0]:=d20.s aT S20 (D20 c T G)
  have c21:ae P w K mg base (n + 1) (Cl (n + 1)) "_law_number" 21 [0]:=d21.s bj S21 (D21 c T G)
  have c22:ae P w K mg base (n + 1) (Cl (n + 1)) "_law_kind" 22 [0]:=d22.s b5 S22 (D22 c T G)
  have c23:ae P w K mg base (n + 1) (Cl (n + 1)) "_law_worth" 23 [0]:=d23.s aA S23 (D23 c T G)
  have e23:cN P w K mg base (n + 1) (Cl (n + 1)) "_law_worth" 23 [0] (.bl true):=d23.sD aA S23 (D23 c T G)
  have c24:ae P w K mg base (n + 1) (Cl (n + 1)) "_law_alike" 24 []:=d24.s aw S24 (D24 c T G)
  have c25:ae P w K mg base (n + 1) (Cl (n + 1)) "_law_more" 25 [0]:=d25.s bZ S25 (D25 c T G)
  have c26:ae P w K mg base (n + 1) (Cl (n + 1)) "_law_mixed" 26 [0]:=d26.s bG S26 (D26 c T G)
  have c27:ae P w K mg base (n + 1) (Cl (n + 1)) "_law_deed" 27 [0]:=d27.s b0 S27 (D27 c T G)
  ⟨c1,c2,c3,c6,c7,c8,c9,c10,c11,c12,c13,c14,c15,c16,c17,c18,c19,c20,c21,c22,c23,e23,c24,c25,c26,c27,fun ws=>M.zf_no _ ws,fun ws=>M.zf_no _ ws⟩
end
theorem pure_law:∀ ns:List Int,ns.length <= 63 -> ∃ m bs,Cl 40 0 [(.d,.scr ns)] = .ok ((m,.bl true),bs):=fun ns _=>P38.pure_law ns
theorem all_mk {l:PySem.W.OpenLaw} {w:World} {K:PySem.W.Frag} {h:Heap} {mg:Str -> Option Value} {fa:Addr} (X:K.In h) (G:h.Ns mainGlobals mg) (hfa:mg "law" = some (.ref fa)) (r1:Raw K "in_rows" s1 .none) (r2:Raw K "is_worth" s2 .none) (r3:Raw K "is_number" s3 .none) (r6:Raw K "flat_of" s6 .none) (r7:Raw K "worths_of" s7 .none) (r8:Raw K "is_flat" s8 .none) (r9:Raw K "is_couple" s9 .none) (r10:Raw K "are_lengths" s10 .none) (r11:Raw K "many_in" s11 .none) (r12:Raw K "taken" s12 .none) (r13:Raw K "taken_there" s13 .none) (r14:Raw K "things_of" s14 .none) (r15:Raw K "behind" s15 .none) (r16:Raw K "kept" s16 .none) (r17:Raw K "merged" s17 .none) (r18:Raw K "spread" s18 .none) (r19:Raw K "first_ones" s19 .none) (r20:Raw K "_law_draw" s20 .none) (r21:Raw K "_law_number" s21 .none) (r22:Raw K "_law_kind" s22 .none) (r23:RawD K "_law_worth" s23 (.bool true)) (r24:Raw K "_law_alike" s24 .none) (r25:Raw K "_law_more" s25 .none) (r26:Raw K "_law_mixed" s26 .none) (r27:Raw K "_law_deed" s27 .none) (r0:Raw K "law" s0 .none) (g0:∃ t,PySem.W.nsIn K mainGlobals "GREATEST" = some (some (.int 1000000000000000000 t))) (g1:∃ t,PySem.W.nsIn K mainGlobals "LONGEST_stops" = some (some (.int 200 t)))  (tx:xo K ["isinstance","int","tuple","list","bool","sum","len","all","zip","range","enumerate","any","max","min","sorted","str","repr","abs","dict","set","reversed"]) :
  ∃ fd:FuncData,(∀ (s:Shared) (v:Value),BindsTo s fd ⟨[v],[]⟩ [("script",v)]) /\ ∀ base:Heap,K.In base -> base.Ns mainGlobals mg -> FnOk l.prog w K mg base CX0 40 fa fd ["script"] (spS K (Cl 40) 0 []):=by
 have d1:Df K mg "in_rows" s1 ["lengths","things"]:=aS X G r1 fun _ _ _ _ _ _ us hl=>match us,hl with | [_,_],_=>rfl
 have d2:Df K mg "is_worth" s2 ["kind","thing"]:=aS X G r2 fun _ _ _ _ _ _ us hl=>match us,hl with | [_,_],_=>rfl
 have d3:Df K mg "is_number" s3 ["thing"]:=aS X G r3 fun _ _ _ _ _ _ us hl=>match us,hl with | [_],_=>rfl
 have d6:Df K mg "flat_of" s6 ["kind","worths"]:=aS X G r6 fun _ _ _ _ _ _ us hl=>match us,hl with | [_,_],_=>rfl
 have d7:Df K mg "worths_of" s7 ["kind","flat","many"]:=aS X G r7 fun _ _ _ _ _ _ us hl=>match us,hl with | [_,_,_],_=>rfl
 have d8:Df K mg "is_flat" s8 ["kind","thing","many"]:=aS X G r8 fun _ _ _ _ _ _ us hl=>match us,hl with | [_,_,_],_=>rfl
 have d9:Df K mg "is_couple" s9 ["thing"]:=aS X G r9 fun _ _ _ _ _ _ us hl=>match us,hl with | [_],_=>rfl
 have d10:Df K mg "are_lengths" s10 ["thing","many"]:=aS X G r10 fun _ _ _ _ _ _ us hl=>match us,hl with | [_,_],_=>rfl
 have d11:Df K mg "many_in" s11 ["kind","flat"]:=aS X G r11 fun _ _ _ _ _ _ us hl=>match us,hl with | [_,_],_=>rfl
 have d12:Df K mg "taken" s12 ["kind","flat","numbers"]:=aS X G r12 fun _ _ _ _ _ _ us hl=>match us,hl with | [_,_,_],_=>rfl
 have d13:Df K mg "taken_there" s13 ["kind","flat","numbers"]:=aS X G r13 fun _ _ _ _ _ _ us hl=>match us,hl with | [_,_,_],_=>rfl
 have d14:Df K mg "things_of" s14 ["lengths","numbers"]:=aS X G r14 fun _ _ _ _ _ _ us hl=>match us,hl with | [_,_],_=>rfl
 have d15:Df K mg "behind" s15 ["kind","one","other"]:=aS X G r15 fun _ _ _ _ _ _ us hl=>match us,hl with | [_,_,_],_=>rfl
 have d16:Df K mg "kept" s16 ["kind","flat","truths"]:=aS X G r16 fun _ _ _ _ _ _ us hl=>match us,hl with | [_,_,_],_=>rfl
 have d17:Df K mg "merged" s17 ["kind","truths","one","other"]:=aS X G r17 fun _ _ _ _ _ _ us hl=>match us,hl with | [_,_,_,_],_=>rfl
 have d18:Df K mg "spread" s18 ["kind","flat","lengths"]:=aS X G r18 fun _ _ _ _ _ _ us hl=>match us,hl with | [_,_,_],_=>rfl
 have d19:Df K mg "first_ones" s19 ["kind","flat","many"]:=aS X G r19 fun _ _ _ _ _ _ us hl=>match us,hl with | [_,_,_],_=>rfl
 have d20:Df K mg "_law_draw" s20 ["tape","many"]:=aS X G r20 fun _ _ _ _ _ _ us hl=>match us,hl with | [_,_],_=>rfl
 have d21:Df K mg "_law_number" s21 ["tape"]:=aS X G r21 fun _ _ _ _ _ _ us hl=>match us,hl with | [_],_=>rfl
 have d22:Df K mg "_law_kind" s22 ["tape","left"]:=aS X G r22 fun _ _ _ _ _ _ us hl=>match us,hl with | [_,_],_=>rfl
 have d23:DfD K mg "_law_worth" s23 ["tape","kind","long"] (.bool true):=wq X G r23 (fun _ _ _ _ _ _ _ us hl=>match us,hl with | [_,_,_],_=>⟨_,rfl,rfl⟩) (fun _ _ _ _ _ _ _ us hl=>by obtain ⟨_,_,rfl⟩:=yW hl; exact ⟨_,rfl,rfl⟩)
 have d24:Df K mg "_law_alike" s24 ["due","found"]:=aS X G r24 fun _ _ _ _ _ _ us hl=>match us,hl with | [_,_],_=>rfl
 have d25:Df K mg "_law_more" s25 ["tape","kind"]:=aS X G r25 fun _ _ _ _ _ _ us hl=>match us,hl with | [_,_],_=>rfl
 have d26:Df K mg "_law_mixed" s26 ["tape","kind","worths","flat"]:=aS X G r26 fun _ _ _ _ _ _ us hl=>match us,hl with | [_,_,_,_],_=>rfl
 have d27:Df K mg "_law_deed" s27 ["tape","kind","worths","flat"]:=aS X G r27 fun _ _ _ _ _ _ us hl=>match us,hl with | [_,_,_,_],_=>rfl
 have T:=xJ X G tx
 have Gm:Glb K w mg:=⟨(let ⟨t,z⟩:=g0; ⟨t,PySem.W.mg_of X G z⟩),(let ⟨t,z⟩:=g1; ⟨t,PySem.W.mg_of X G z⟩)⟩
 exact w9 X G hfa r0 (fun _ _ _ _ _ _ _ _=>.of_eq rfl) fun f fd F base=>Fun.okM F S0 rfl (by decide) (by decide) (by decide) (fun _ _ _ _ _ _ h=>D0 (all d1 d2 d3 d6 d7 d8 d9 d10 d11 d12 d13 d14 d15 d16 d17 d18 d19 d20 d21 d22 d23 d24 d25 d26 d27  T Gm 39) T Gm h) fun _=>rfl
end A38

set_option Elab.async false
set_option linter.all false
set_option maxRecDepth 100000
set_option maxHeartbeats 0
namespace H38
open PySem PySem.W TP
abbrev pr:Program:=PySem.Challenge.pw_broadrow_k38_whole_flats_go_as_their_wor
noncomputable def tn (i:Nat):Stmt:=pr.main.body.getD i (.Pass p0)
noncomputable def rc:List Rc:=[.m,
.x "BroadError" 206 (.ref 24) (fun P=>[tu [.type "ValueError"],⟨.type "builtin_function_or_method",none,.fields #[.builtin "type.__prepare__",.type "type"],#[]⟩,di [en P "__module__" 196 (.str "broadrow.errors" 187),en P "__qualname__" 198 (.str "BroadError" 197),en P "__firstlineno__" 200 (.int (2) 199),en P "__static_attributes__" 201 (.ref 22)] 4,tu [],fe [],cdo "BroadError" "BroadError" 191 194 2 0 0 18 false .none .none .none,⟨.type "frame",none,.plain,#[some (.ref 20),some (.ref 3),some (.ref 17),none,some (.str "broadrow.errors" 187),none,some (.ref 0)]⟩,tu [],di [en P "__module__" 196 (.str "broadrow.errors" 187),en P "__firstlineno__" 200 (.int (2) 199),en P "__static_attributes__" 201 (.ref 22),en P "__weakref__" 203 (.ref 25),en P "__doc__" 204 .none] 3,⟨.type "type",none,.cls {name:="BroadError",bases:=[.type "ValueError"],mro:=[.ref 24,.type "ValueError",.type "Exception",.type "BaseException",.type "object"],ns:=23,qualname:="BroadError",subclasses:=[.ref 44]},#[some (.ref 15),none,some (.str "BroadError" 189),some (.str "BroadError" 197),some (.builtin "ValueError.__new__"),some (.bool true)]⟩,⟨.type "getset_descriptor",none,.fields #[.str "__weakref__" 202,.ref 24,.builtin "ExceptionGroup.__weakref__",.none],#[]⟩,⟨.type "super",none,.fields #[.ref 24,.ref 24,.ref 24],#[]⟩,⟨.type "builtin_function_or_method",none,.fields #[.builtin "object.__init_subclass__",.ref 24],#[]⟩]) [iv 2,iv 0,.ref 20] 28 207,
.x "NoThing" 231 (.ref 44) (fun P=>[tu [.ref 24],⟨.type "builtin_function_or_method",none,.fields #[.builtin "type.__prepare__",.type "type"],#[]⟩,di [en P "__module__" 214 (.str "broadrow.errors" 187),en P "__qualname__" 216 (.str "NoThing" 215),en P "__firstlineno__" 218 (.int (4) 217),en P "__init__" 226 (.ref 41),en P "__static_attributes__" 228 (.ref 42)] 5,tu [],fe [iv 6,iv 4,.ref 40],cdo "NoThing" "NoThing" 209 212 4 0 0 31 false .none .none .none,⟨.type "frame",none,.plain,#[some (.ref 33),some (.ref 3),some (.ref 30),none,some (.str "broadrow.errors" 187),none,some (.ref 0)]⟩,tu [],fe [],tu [.str "self" 222,.str "number" 223],tu [],ofn .none (cb (tn 2) 0) "NoThing.__init__" 0 .none .none .none,cdo "__init__" "NoThing.__init__" 219 224 6 2 3 35 true (.ref 37) (.ref 38) (.ref 39),ofn (.type "function") (cb (tn 2) 0) "NoThing.__init__" 3 .none (.str "broadrow.errors" 187) (.ref 40),tu [.str "number" 227],di [en P "__module__" 214 (.str "broadrow.errors" 187),en P "__firstlineno__" 218 (.int (4) 217),en P "__init__" 226 (.ref 41),en P "__static_attributes__" 228 (.ref 42),en P "__doc__" 229 .none] 2,⟨.type "type",none,.cls {name:="NoThing",bases:=[.ref 24],mro:=[.ref 44,.ref 24,.type "ValueError",.type "Exception",.type "BaseException",.type "object"],ns:=43,qualname:="NoThing"},#[some (.ref 28),none,some (.str "NoThing" 207),some (.str "NoThing" 215),some (.builtin "ValueError.__new__"),some (.bool true)]⟩,⟨.type "super",none,.fields #[.ref 44,.ref 44,.ref 44],#[]⟩,⟨.type "builtin_function_or_method",none,.fields #[.builtin "object.__init_subclass__",.ref 44],#[]⟩]) [iv 4,iv 0,.ref 33] 47 232,
.c,
.m,
.d,
.m,
.c,
.c,
.d,
.d,
.d,
.d,
.m,
.d,
.d,
.d,
.d,
.d,
.d,
.m,
.d,
.d,
.d,
.d,
.d,
.d,
.d,
.d,
.m,
.d,
.d,
.d,
.d,
.d,
.d,
.d,
.d,
.d]
theorem c0 (w:World):Cut pr rc 0 15 187 p0 1 10 15 189 ⟨1,0,1,8⟩ w:=fun o=>by kernel_rfl
theorem c1 (w:World):Cut pr rc 1 15 189 ⟨1,0,1,8⟩ 2 432 47 232 ⟨4,0,8,28⟩ w:=fun o=>by kernel_rfl
theorem c3 (w:World):Cut pr rc 3 47 232 ⟨4,0,8,28⟩ 28 676 175 423 ⟨130,0,147,52⟩ w:=fun o=>by kernel_rfl
theorem c31 (w:World):Cut pr rc 31 175 423 ⟨130,0,147,52⟩ 8 234 222 489 ⟨234,0,256,15⟩ w:=fun o=>by kernel_rfl
theorem ch:Ch pr rc 39 222 489 0 15 187 p0 (10 + (432 + (676 + (234 + (2))))):=fG c0 ( fG c1 ( fG c3 ( fG c31 (xI (by kernel_rfl)))))
noncomputable def q:Program:=view pr [38]
noncomputable def lo:List Str:=(["BroadError","NoThing","LONGEST_stops","in_rows","GREATEST","LONGEST_worths","is_worth","is_number","is_pair","is_row","flat_of","worths_of","is_flat","is_couple","are_lengths","many_in","taken","taken_there","things_of","behind","kept","merged","spread","first_ones","_law_draw","_law_number","_law_kind","_law_worth","_law_alike","_law_more","_law_mixed","_law_deed"]:List String).map Str.ofString
noncomputable def as:List Addr:=[3,24,44,52,53,59,60,66,67,73,74,78,79,83,84,90,91,95,96,102,103,107,108,114,115,121,122,126,127,133,134,140,141,145,146,152,153,159,160,166,167,173,174,180,181,187,188,189,193,194,198,199,203,204,210,211,215,216,220,221]
noncomputable def K:Params -> Frag:=kK pr rc 39 as
noncomputable def hk:Hook:=hkk pr rc 39 222
noncomputable abbrev Xt (s:Shared):Bool:=xlAt q [] s && recOk (RowW.records (OpenRow.toRowW (OpenLaw.row PySem.Challenge.rw_broadrow_k38_whole_flats_go_as_their_wor))) s
theorem kin (w:World) (h:Heap) (Y:hk.says w h):(K w.params).In h:=CD (by kernel_rfl) (by kernel_rfl) Y
theorem lk (w:World):(fun o=>((staticsOk (importedModules pr.main.body) (boot_heap w.params) (hp pr rc 39 222 w.params) && namesBound pr (hp pr rc 39 222 w.params) && gensDone ⟨hp pr rc 39 222 w.params,#[],{},489,o⟩ && laidKept (boot_heap w.params) (hp pr rc 39 222 w.params)),openSeen q lo (importedModules pr.main.body) Xt true ⟨hp pr rc 39 222 w.params,#[],{},489,o⟩,Hook.obs hk ⟨hp pr rc 39 222 w.params,#[],{},489,o⟩)) = fun _=>(true,openGood q lo,Hook.val hk w):=by kernel_rfl
theorem e1:opening pr = plainProg pr.main.scope.names:=by kernel_rfl
theorem e2:behindTheImports pr = pr.main.body:=by kernel_rfl
theorem e3 (s:Shared):fenceModules? pr s = some s:=by kernel_rfl
theorem pre (w:World) (o:OsState):topGo treeTable pr w 11 an 12 ⟨boot_heap w.params,Array.mk [],boot_drawn,boot_toks,o⟩ (topStub pr) = some ((sT pr rc w.params 0 15 187 o).abs,⟨denote treeTable (cE pr),cE pr,p0,B0⟩):=by kernel_rfl
theorem blk (w:World) (o:OsState):segRun treeTable pr w 11 an 1 1 (sT pr rc w.params 0 15 187 o).abs (blockOf (behindTheImports pr) (ev pr) (cE pr) p0 B0) = some (.next,(sT pr rc w.params 0 15 187 o).abs,cE pr,p0):=by kernel_rfl
theorem left:LeftO pr q lo Xt (Hook.obs hk) (Hook.val hk) 2822:=uM e1 (by kernel_rfl) e3 e2 u6 pre blk ch (by kernel_rfl) lk
end H38

set_option Elab.async false
set_option linter.all false
set_option maxRecDepth 100000
set_option maxHeartbeats 4000000
open PySem PySem.W PyProof.Rows
set_option maxRecDepth 100000 in
set_option maxHeartbeats 0 in
theorem PySem.Challenge.cw_broadrow_k38_whole_flats_go_as_their_wor_holds : PySem.Challenge.rw_broadrow_k38_whole_flats_go_as_their_wor.Holds := by
 w_on; o_law
 refine holds_open (q:=H38.q) (loose:=H38.lo) (Xt:=H38.Xt) (XP:=XL H38.q []) (Yf:=Hook.obs H38.hk) (Ya:=Hook.val H38.hk) (YP:=Hook.says H38.hk) (N:=2822) (d:=TP.drec (H38.tn 38)) (kwd:=[]) H38.left (Hook.of H38.hk) (Hook.keeps H38.hk) (fun s e=>xl_of s (Bool.and_eq_true_iff.mp e).1) XL.keeps (by kernel_rfl) (by kernel_rfl) (by kernel_rfl) (fun s e=>recFacts_of (Bool.and_eq_true_iff.mp e).2) (by rfl) (by first | assumption | decide +kernel) (by decide +kernel) ⟨rfl,rfl,rfl,rfl,rfl,by decide +kernel⟩ ?hw ?hc
 case hw=>w_witness2
 refine MR.walkM (l:=PySem.Challenge.rw_broadrow_k38_whole_flats_go_as_their_wor) (k:=40) (C:=A38.Cl 40) (ix:=0) (K:=H38.K) A38.pure_law rfl (by kernel_rfl) ⟨rfl,by decide,by decide⟩ H38.kin ?F
 case F =>
  intro w mg fa h KX G hmg
  refine' A38.all_mk KX G hmg ?zr1 ?zr2 ?zr3 ?zr6 ?zr7 ?zr8 ?zr9 ?zr10 ?zr11 ?zr12 ?zr13 ?zr14 ?zr15 ?zr16 ?zr17 ?zr18 ?zr19 ?zr20 ?zr21 ?zr22 ?zr23 ?zr24 ?zr25 ?zr26 ?zr27 ?zr0 ?zg0 ?zg1  ?ztx
  case zr23=>exact TP.rawd_mk (by kernel_rfl) (by kernel_rfl) (by kernel_rfl) (by kernel_rfl) (by kernel_rfl)
  case zg0=>exact ⟨TP.tkO (nsIn (H38.K w.params) mainGlobals "GREATEST"),by kernel_rfl⟩
  case zg1=>exact ⟨TP.tkO (nsIn (H38.K w.params) mainGlobals "LONGEST_stops"),by kernel_rfl⟩
  case ztx=>refine' ⟨?_,?_,?_,?_,?_,?_,?_,?_,?_,?_,?_,?_,?_,?_,?_,?_,?_,?_,?_,?_,?_,trivial⟩ <;> kernel_rfl
  all_goals exact TP.raw_mk (by kernel_rfl) (by kernel_rfl) (by kernel_rfl) (by kernel_rfl)
