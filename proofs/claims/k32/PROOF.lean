import PyProof.Rows.All
import Wide.All
import OpenK.AllK
import Wide.FinOn
import Lean
import PyProof.EqAt
import PyProof.EqKinds
import PyProof.TupleCall
import PySem.Challenge.RW_broadrow_k32_what_is_a_flat
open PySem.W renaming Frag → a0a, kia_one → a0C, fnOf → a0I, kitOne → a0V, keepIn → a00, kia_tup → a05, codeIn → a1c, kitx_list → a1l, mg_of → a1s, kitx_tuple → a1v, nsIn → a1y, methodObj → a1F, cellsFrom_some → a1N, instObj → a1P, OpenLaw → a1W, lookIn → a14, kitAny → a15, kitx_none → a2i, kitx_bool → a2j, kitx_dict → a2k, plainGet → a2q, kitx_int → a2r, kitx_str → a2s, findIn → a2D, WalkO → a2I
open Nat renaming le_refl → a0b, le_trans → a0j, lt_of_lt_of_le → a0l, ne_of_lt → a0x, zero_le → a0W, lt_irrefl → a0Y, zero_add → a01, mul_le_mul_right → a1b, reduceAdd → a1j, succ_mul → a1n, pow_le_pow_right → a1q, le_of_lt → a1Q, ne_of_gt → a1R, add_comm → a1T, le_of_ble_eq_true → a1X, lt_of_le_of_lt → a2f, pow_succ → a2o, le_of_not_lt → a2u, succ_le_succ → a2x, mul_le_mul → a2F, mul_comm → a2O, le_of_eq → a2P
open List renaming mem_cons_of_mem → a0c, length_map → a0d, size_toArray → a0e, replicate → a0f, mem_cons_self → a0g, mem_append_right → a0k, length_append → a0m, length_cons → a0n, getElem?_eq_some_iff → a0o, getElem?_eq_getElem → a0q, getD_eq_getElem?_getD → a0r, getElem?_cons_succ → a0s, getElem?_map → a0t, mem_cons → a0v, map_cons → a0y, all_eq_true → a0z, getElem?_append_left → a0D, mem_singleton → a0E, length_replicate → a0G, getElem?_append_right → a0H, replicate_succ → a0J, mem_append → a0K, append_nil → a0L, range → a0N, filterMap_cons → a0P, append_assoc → a0R, length_singleton → a0S, mem_append_left → a0U, mem_map → a0Z, length_drop → a02, take_of_length_le → a03, nodup_cons → a04, length_nil → a06, flatMap_cons → a08, getElem?_set_ne → a09, mem_of_getElem? → a1a, length_take → a1d, getElem?_replicate → a1h, getElem?_cons_zero → a1i, getElem?_set_self → a1k, flatten_cons → a1m, take_append_drop → a1o, length_set → a1u, set_cons_zero → a1z, set_cons_succ → a1A, drop_eq_getElem_cons → a1D, drop_zero → a1E, all_cons → a1J, sum_cons → a1L, lookup_cons → a1M, of_mem_zip → a1S, nil_append → a1U, map_nil → a1V, mem_of_mem_take → a11, mem_of_mem_drop → a12, mem_range → a13, length → a18, take_succ_cons → a2a, length_pos_iff → a2b, flatMap_append → a2c, mem_filterMap → a2d, any_cons → a2e, length_range → a2m, getElem_mem → a2v, drop_length → a2w, not_mem_nil → a2z, mem_filter → a2B, foldl → a2G, take_nil → a2J, drop_nil → a2K, map → a2W
open Bool renaming false_ne_true → a0h, and_eq_true → a0i, false_and → a0w, true_and → a0F, and_eq_true_iff → a1p, true_or → a2p, or_eq_true → a2C, and_false → a2E, or_true → a2U
open Option.some renaming inj → a0p, injEq → a1H
open Or renaming inr → a0u, inl → a0B
open PyProof.Rows renaming slot_tuple_getitem → a0A, boot_tuple → a0M, boot_list → a0O, boot_bool → a0X, boot_isinstance → a1r, callWith_type1 → a1t, boot_int → a1Z, callWith_builtin1 → a2n, eq_dataH → a2Q, ne_dataH → a2R
open PySem renaming mem_of_lookup → a0Q, reprText → a1C, call → a2H, Within → a2M, PyData → a2S
open PySem.Builtin.Str renaming occurrences → a0T
open False renaming elim → a07
open Array renaming length_toList → a1e, all_eq_true' → a1w, size_append → a2l, mk → a2L, toList → a2N
open True renaming intro → a1f
open Option renaming isSome_iff_exists → a1g, bind_eq_some_iff → a1K, toList_none → a2g, getD_none → a2t, bind_some → a2y
open Prod renaming snd → a1x, fst → a2V
open Int renaming emod_lt_of_pos → a1B, emod_nonneg → a1Y
open PySem.F renaming args_tuple_add_2 → a1G, entry_tuple_add → a1I, slot_tuple_add → a1O
open String renaming length_toList → a10
open Sum renaming inr → a16, inl → a2h
open Ne renaming symm → a17
open Prod.mk renaming inj → a19
open And renaming left → a2A
open Classical renaming em → a2T
open List.Pairwise renaming nil → a2X
set_option genSizeOf false
set_option genInjectivity false
set_option Elab.async false
set_option linter.all false
set_option maxRecDepth 100000
namespace L2
open PySem PySem.Spec PyProof.Rows
noncomputable abbrev Key:=Sum Int Str
noncomputable def qY:Key->Value->Bool
 | .inl k,v=>Value.isInt k v
 | .inr x,v=>Value.isStrOf x v
noncomputable def yW (w:World):Key->Int
 | .inl k=>hashInt k
 | .inr x=>hashStr w x
theorem aH:∀ {k:Key} {v:Value},qY k v=true->(∃ i t,k=a2h i/\v=Value.int i t)\/(∃ x t,k=a16 x/\v=Value.str x t)
 | .inl i,v,h=>by
  obtain ⟨t,e⟩:=Value.isInt_shape (k:=i) (v:=v) h
  exact .inl ⟨i,t,rfl,e⟩
 | .inr x,v,h=>by
  obtain ⟨t,e⟩:=Value.isStrOf_shape (x:=x) (v:=v) h
  exact .inr ⟨x,t,rfl,e⟩
theorem sy (a b:Int):decide ((a2h a:Key)=a2h b)=(a==b):=by
 by_cases e:a=b
 ·subst e; simp
 ·have h:¬ (a2h a:Key)=a2h b:=fun q=>e (Sum.inl.inj q)
  rw [decide_eq_false h]
  exact (beq_eq_false_iff_ne.mpr e).symm
theorem u0 (a b:Str):decide ((a16 a:Key)=a16 b)=decide (a=b):=by
 by_cases e:a=b
 ·subst e; simp
 ·have h:¬ (a16 a:Key)=a16 b:=fun q=>e (Sum.inr.inj q)
  rw [decide_eq_false h,decide_eq_false e]
theorem ur (a:Int)(b:Str):decide ((a2h a:Key)=a16 b)=false:=decide_eq_false (fun q=>nomatch q)
theorem vh (a:Str)(b:Int):decide ((a16 a:Key)=a2h b)=false:=decide_eq_false (fun q=>nomatch q)
noncomputable def fJ (prog:Program)(w:World):PySem.KeyKind prog w Key where
 is:=qY
 hash:=yW w
 inj:=fun v a b ha hb=>by
  rcases aH ha with ⟨i,t,rfl,rfl⟩ | ⟨x,t,rfl,rfl⟩
  ·rcases aH hb with ⟨j,u,rfl,e⟩ | ⟨y,u,rfl,e⟩
   ·injection e with e1 _; rw [e1]
   ·exact nomatch e
  ·rcases aH hb with ⟨j,u,rfl,e⟩ | ⟨y,u,rfl,e⟩
   ·exact nomatch e
   ·injection e with e1 _; rw [e1]
 byValue:=fun k v h=>by
  rcases aH h with ⟨i,t,rfl,rfl⟩ | ⟨x,t,rfl,rfl⟩<;>rfl
 pyHash:=fun hv h=>by
  rcases aH hv with ⟨i,t,rfl,rfl⟩ | ⟨x,t,rfl,rfl⟩
  ·exact wpAny_pyHash_int h
  ·exact wpAny_pyHash_str h
 eqBool:=fun hu hv h=>by
  rcases aH hu with ⟨i,t,rfl,rfl⟩ | ⟨x,t,rfl,rfl⟩
  ·rcases aH hv with ⟨j,u,rfl,rfl⟩ | ⟨y,u,rfl,rfl⟩
   ·rw [sy] at h; exact wpAny_eqBool_int h
   ·rw [ur] at h; exact SeqAt.EqAt.int_str i t y u _ _ _ _ h
  ·rcases aH hv with ⟨j,u,rfl,rfl⟩ | ⟨y,u,rfl,rfl⟩
   ·rw [vh] at h; exact SeqAt.EqAt.str_int x t j u _ _ _ _ h
   ·rw [u0] at h; exact wpAny_eqBool_str h
 «strs»:=fun k x t v h=>by
  rcases aH h with ⟨i,u,rfl,e⟩ | ⟨y,u,rfl,e⟩
  ·exact nomatch e
  ·injection e with e1 _
   subst e1
   cases v<;>rfl
end L2
namespace L2
open PySem PySem.Spec PyProof.Rows
set_option genInjectivity true
inductive V where
 | non | bl (b:Bool) | int (i:Int) | str (x:Str) | byt (b:Array UInt8) | flt (b:UInt64) | ref (a:Addr) | ty (n:String)
 deriving DecidableEq
set_option genInjectivity false
noncomputable def RelV:V->Value->Prop
 | .non,u=>u=Value.none
 | .bl b,u=>u=Value.bool b
 | .int i,u=>∃ t,u=Value.int i t
 | .str x,u=>∃ t,u=Value.str x t
 | .byt b,u=>∃ t,u=Value.bytes b t
 | .flt b,u=>∃ t,u=Value.float b t
 | .ref a,u=>u=Value.ref a
 | .ty n,u=>u=Value.type n
noncomputable abbrev Vals:List V->List Value->Prop:=Paired RelV
theorem Vals.length {xs:List V}{us:List Value}(r:Vals xs us):xs.length=us.length:=Paired.length r
theorem Vals.get:∀ {xs:List V} {us:List Value} {i:Nat} {x:V},Vals xs us->xs[i]?=some x->∃ u,us[i]?=some u/\RelV x u
 | _,_,_,_,.nil,e=>by simp at e
 | _,_,0,_,.cons r _,e=>by simp at e; subst e; exact ⟨_,rfl,r⟩
 | _,_,i+1,x,.cons _ t,e=>by
  obtain ⟨u,h1,h2⟩:=Vals.get (i:=i) (x:=x) t (by simpa using e)
  exact ⟨u,by simpa using h1,h2⟩
theorem Vals.set {x:V}{u:Value}(r:RelV x u):∀ {xs:List V} {us:List Value} (i:Nat),Vals xs us->Vals (xs.set i x) (us.set i u)
 | _,_,_,.nil=>.nil
 | _,_,0,.cons _ t=>.cons r t
 | _,_,i+1,.cons q t=>.cons q (Vals.set r i t)
theorem Vals.append:∀ {xs ys:List V} {us ws:List Value},Vals xs us->Vals ys ws->Vals (xs++ys) (us++ws)
 | _,_,_,_,.nil,s=>s
 | _,_,_,_,.cons r t,s=>.cons r (Vals.append t s)
theorem Vals.take:∀ {xs:List V} {us:List Value} (n:Nat),Vals xs us->Vals (xs.take n) (us.take n)
 | _,_,0,_=>.nil
 | _,_,_+1,.nil=>.nil
 | _,_,n+1,.cons r t=>.cons r (Vals.take n t)
theorem Vals.drop:∀ {xs:List V} {us:List Value} (n:Nat),Vals xs us->Vals (xs.drop n) (us.drop n)
 | _,_,0,r=>r
 | _,_,_+1,.nil=>.nil
 | _,_,n+1,.cons _ t=>Vals.drop n t
noncomputable def uN:Option V->Option Value->Prop
 | some v,some u=>RelV v u
 | none,none=>True
 | _,_=>False
noncomputable def KV {κ:Type}:List (κ×V)->List (κ×Value)->Prop:=Paired fun (p:κ×V) (q:κ×Value)=>p.1=q.1/\RelV p.2 q.2
noncomputable def kV:Key->V
 | .inl i=>.int i
 | .inr x=>.str x
inductive HO where
 | lst (xs:List V)
 | tup (xs:List V)
 | dK (kvs:List (Key×V)) | dT (kvs:List (List Key×V))
 | set (S:Int->Bool) (n:Nat)
 | ins (C dx:Addr) (fs:List (Str×V))
 | own (x:Addr)
 | xd (fs:List (Str×V))
 | met (f x:Addr)
 | rng (lo hi:Int)
 | frz (o:Obj) (u:HO)
 | tbl (ps:Array Value)
 | ext (φ:Heap->Prop)
noncomputable abbrev Hp:=Addr->Option HO
noncomputable def upd (H:Hp)(a:Addr)(o:HO):Hp:=fun b=>if b=a then some o else H b
theorem aI {H:Hp}{a:Addr}{o:HO}:upd H a o a=some o:=by unfold upd; rw [if_pos rfl]
theorem aj {H:Hp}{a b:Addr}{o:HO}(h:b≠a):upd H a o b=H b:=by unfold upd; rw [if_neg h]
theorem aQ {H:Hp}{a b:Addr}{o:HO}(h:H a=some o)(h':H b=none):a≠b:=by
 intro e; subst e; rw [h] at h'; cases h'
section
variable (P:Program)(w:World)
noncomputable def ObjOk (H:Hp)(h:Heap)(a:Addr):HO->Prop
 | .lst xs=>xs.length<=sizeLine/\∃ (its:List Value) (n:Nat),Vals xs its/\h.get? a=some { cls:=.type "list",data:=.seq its.toArray n }
 | .tup xs=>xs.length<=sizeLine/\∃ its:List Value,Vals xs its/\IsTup h a its.toArray
 | .dK kvs=>kvs.length<=sizeLine/\(a==sysModules)=false/\∃ vs,KV kvs vs/\h.DictOf (fJ P w) a vs
 | .dT kvs=>kvs.length<=sizeLine/\(a==sysModules)=false/\∃ xs:List (List Key×Addr×Value),
   Paired (fun (p:List Key×V) (q:List Key×Addr×Value)=>p.1=q.1/\H q.2.1=some (.tup (p.1.map kV))/\RelV p.2 q.2.2) kvs xs /\
   ∃ o es ep,h.get? a=some o/\o.ExactDict/\o.data=.dict es ep/\es.toList=xs.map (entryOfKey (tupleKind (fJ P w)))/\(xs.map (·.1)).Nodup
 | .set S n=>h.SetOf (intKind P w) a S n
 | .ins C dx fs=>H dx=some (.own a)/\fs.length<=1000/\dx≠a/\h.get? a=some (a1P C dx) /\
   ∃ mA,h.Ns1 dx mA/\(∀ f,uN (fs.lookup f) (mA f))/\a2M mA (fs.map (·.1))
 | .own _=>∃ o,h.get? a=some o
 | .xd fs=>∃ mA,h.Ns1 a mA/\∀ f,uN (fs.lookup f) (mA f)
 | .rng lo hi=>∃ t u v,h.get? a=some { cls:=.type "range",data:=.fields #[.int lo t,.int hi u,.int 1 v] }
 | .frz o u=>h.get? a=some o/\ObjOk H h a u
 | .tbl ps=>h.get? a=some { cls:=.none,data:=.fields ps }
 | .met f x=>h.get? a=some (a1F (.ref f) (.ref x))
 | .ext φ=>φ h/\(∃ o,h.get? a=some o)/\∀ h1 h2:Heap,φ h1->(∀ o,h1.get? a=some o->h2.get? a=some o)->φ h2
noncomputable def HOk (H:Hp)(h:Heap):Prop:=∀ a o,H a=some o->ObjOk P w H h a o
end
section
variable {P:Program}{w:World}{H H':Hp}{h h':Heap}{a:Addr}{o:HO}
theorem ObjOk.lt (x:ObjOk P w H h a o):a < h.objs.size:=by
 cases o with
 | lst xs=>obtain ⟨_,_,_,_,e⟩:=x; exact Heap.lt_size e
 | tup xs=>obtain ⟨_,_,_,p⟩:=x; exact p.lt
 | dK kvs=>obtain ⟨_,_,_,_,o,_,_,e,_⟩:=x; exact Heap.lt_size e
 | dT kvs=>obtain ⟨_,_,_,_,o,_,_,e,_⟩:=x; exact Heap.lt_size e
 | set S n=>obtain ⟨o,_,_,_,e,_⟩:=x; exact Heap.lt_size e
 | ins C dx fs=>obtain ⟨_,_,_,e,_⟩:=x; exact Heap.lt_size e
 | own y=>obtain ⟨_,e⟩:=x; exact Heap.lt_size e
 | xd fs=>obtain ⟨_,⟨_,_,_,e,_⟩,_⟩:=x; exact Heap.lt_size e
 | rng lo hi=>obtain ⟨_,_,_,e⟩:=x; exact Heap.lt_size e
 | frz ob u=>obtain ⟨e,_⟩:=x; exact Heap.lt_size e
 | tbl ps=>exact Heap.lt_size (show h.get? a=some _ from x)
 | met f y=>exact Heap.lt_size (show h.get? a=some _ from x)
 | ext φ=>obtain ⟨_,⟨_,e⟩,_⟩:=x; exact Heap.lt_size e
theorem Paired.mapP {α β:Type}{F G:α->β->Prop}:∀ {l₁:List α} {l₂:List β},Paired F l₁ l₂->(∀ a b,F a b->G a b)->Paired G l₁ l₂
 | _,_,.nil,_=>.nil
 | _,_,.cons r t,f=>.cons (f _ _ r) (Paired.mapP t f)
theorem ObjOk.stay (x:ObjOk P w H h a o)(k:∀ b u,(b=a\/H b=some (.own a))->h.get? b=some u->h'.get? b=some u)
  (ho:∀ b,H b=some (.own a)->H' b=some (.own a)) (ht:∀ b xs,H b=some (.tup xs)->H' b=some (.tup xs)):ObjOk P w H' h' a o:=by
 induction o with
 | lst xs=>obtain ⟨z,its,n,r,e⟩:=x; exact ⟨z,its,n,r,k _ _ (.inl rfl) e⟩
 | tup xs=>obtain ⟨z,its,r,ob,e,c⟩:=x; exact ⟨z,its,r,ob,k _ _ (.inl rfl) e,c⟩
 | dK kvs=>obtain ⟨z,y,vs,r,ob,es,ep,e,c⟩:=x; exact ⟨z,y,vs,r,ob,es,ep,k _ _ (.inl rfl) e,c⟩
 | dT kvs =>
  obtain ⟨z,y,xs,r,ob,es,ep,e,c⟩:=x
  exact ⟨z,y,xs,Paired.mapP r fun p q z=>⟨z.1,ht _ _ z.2.1,z.2.2⟩,ob,es,ep,k _ _ (.inl rfl) e,c⟩
 | set S n=>obtain ⟨ob,es,ep,t,e,c⟩:=x; exact ⟨ob,es,ep,t,k _ _ (.inl rfl) e,c⟩
 | ins C dx fs =>
  obtain ⟨d,z,ne,e,mA,⟨od,es,ep,e2,c⟩,r⟩:=x
  exact ⟨ho _ d,z,ne,k _ _ (.inl rfl) e,mA,⟨od,es,ep,k _ _ (.inr d) e2,c⟩,r⟩
 | own y=>obtain ⟨ob,e⟩:=x; exact ⟨ob,k _ _ (.inl rfl) e⟩
 | xd fs=>obtain ⟨mA,⟨od,es,ep,e,c⟩,r⟩:=x; exact ⟨mA,⟨od,es,ep,k _ _ (.inl rfl) e,c⟩,r⟩
 | rng lo hi=>obtain ⟨t,u,v,e⟩:=x; exact ⟨t,u,v,k _ _ (.inl rfl) e⟩
 | frz ob u ih=>obtain ⟨e,q⟩:=x; exact ⟨k _ _ (.inl rfl) e,ih q⟩
 | tbl ps =>
  have e:h.get? a=some { cls:=.none,data:=.fields ps }:=x
  show h'.get? a=some { cls:=.none,data:=.fields ps }
  exact k a _ (.inl rfl) e
 | met f y =>
  have e:h.get? a=some (a1F (.ref f) (.ref y)):=x
  show h'.get? a=some (a1F (.ref f) (.ref y))
  exact k a _ (.inl rfl) e
 | ext φ=>obtain ⟨p,⟨o,e⟩,st⟩:=x; exact ⟨st _ _ p fun o q=>k _ _ (.inl rfl) q,⟨o,k _ _ (.inl rfl) e⟩,st⟩
theorem HOk.lt (x:HOk P w H h)(e:H a=some o):a < h.objs.size:=(x a o e).lt
theorem HOk.fresh (x:HOk P w H h)(e:h.objs.size<=a):H a=none:=by
 cases q:H a with
 | none=>rfl
 | some u=>exact absurd (a0l (x.lt q) e) (a0Y _)
theorem HOk.kept (x:HOk P w H h)(k:∀ b u,h.get? b=some u->h'.get? b=some u):HOk P w H h':=fun a o e =>
 (x a o e).stay (fun b u _ q=>k b u q) (fun _ q=>q) fun _ _ q=>q
theorem HOk.laid (x:HOk P w H h)(k:∀ b u,h.get? b=some u->h'.get? b=some u)(hp:h.objs.size<=a)(new:ObjOk P w (upd H a o) h' a o):HOk P w (upd H a o) h':=fun b u e=>by
 have hn:=x.fresh hp
 by_cases hb:b=a
 ·subst hb; rw [aI] at e; cases e; exact new
 ·rw [aj hb] at e
  exact (x b u e).stay (fun c v _ q=>k c v q) (fun c q=>by rw [aj (aQ q hn)]; exact q) fun c xs q=>by rw [aj (aQ q hn)]; exact q
end
noncomputable def Rd (H:Hp)(a:Addr)(u:HO):Prop:=H a=some u\/∃ o,H a=some (.frz o u)
theorem Rd.ok {P:Program}{w:World}{H:Hp}{h:Heap}{a:Addr}{u:HO}(r:Rd H a u)(x:HOk P w H h):ObjOk P w H h a u:=by
 rcases r with r | ⟨o,r⟩
 ·exact x a u r
 ·obtain ⟨_,q⟩:=x a _ r
  exact q
noncomputable def Mut:Option HO->Prop
 | some (.lst _)=>True
 | some (.dK _)=>True
 | some (.dT _)=>True
 | some (.set _ _)=>True
 | some (.ins _ _ _)=>True
 | some (.ext _)=>True
 | _=>False
section
variable {P:Program}{w:World}{H:Hp}{h h':Heap}{x e:Addr}{o':HO}
theorem HOk.write (ok:HOk P w H h)(mu:Mut (H x))(he:e=x\/H e=some (.own x))(k:∀ b u,b≠e->h.get? b=some u->h'.get? b=some u)(heo:∃ u,h'.get? e=some u)
  (new:ObjOk P w (upd H x o') h' x o'):HOk P w (upd H x o') h':=fun b u q=>by
 have nown:∀ c y,H c=some (.own y)->c≠x:=fun c y r z=>by subst z; rw [r] at mu; exact mu
 have ntup:∀ c xs,H c=some (.tup xs)->c≠x:=fun c xs r z=>by subst z; rw [r] at mu; exact mu
 by_cases hb:b=x
 ·subst hb; rw [aI] at q; cases q; exact new
 ·rw [aj hb] at q
  by_cases hbe:b=e
  ·have q':H b=some (.own x):=by
    rcases he with z | z
    ·exact absurd (hbe.trans z) hb
    ·rw [hbe]; exact z
   rw [q] at q'; cases q'
   obtain ⟨v,hv⟩:=heo
   exact ⟨v,by rw [hbe]; exact hv⟩
  ·refine (ok b u q).stay (fun c v hc r=>k c v ?_ r) (fun c r=>by rw [aj (nown c b r)]; exact r) fun c xs r=>by rw [aj (ntup c xs r)]; exact r
   rcases hc with rfl | hc
   ·exact hbe
   ·rintro rfl
    rcases he with z | z
    ·exact nown c b hc z
    ·rw [hc] at z; cases z; exact hb rfl
end
structure Un (fs ex:List Addr)(H H':Hp)(h h':Heap):Prop where
 keep:∀ b o,h.get? b=some o->H b=none->b ∉ fs->b ∉ ex->h'.get? b=some o
 slot:∀ b o,h.get? b=some o->H b=none->b∈fs->b ∉ ex->∃ sl,h'.get? b=some { o with slots:=sl }
 free:∀ b o,h.get? b=some o->H b=none->b ∉ ex->H' b=none
 there:∀ b o,h.get? b=some o->b ∉ ex->∃ o',h'.get? b=some o'
 tups:∀ b xs,H b=some (.tup xs)->H' b=some (.tup xs)
 frzs:∀ b o u,H b=some (.frz o u)->H' b=some (.frz o u)
 tbls:∀ b ps,H b=some (.tbl ps)->∃ more,H' b=some (.tbl (ps++more))
section
variable {fs fs' ex ex':List Addr}{H H1 H2:Hp}{h h1 h2 h':Heap}{a x e:Addr}{o:HO}
theorem Un.any (u:Un fs ex H H1 h h1){b:Addr}{ob:Obj}(q:h.get? b=some ob)(n:H b=none)(hx:b ∉ ex):∃ sl,h1.get? b=some { ob with slots:=sl }:=by
 by_cases hb:b∈fs
 ·exact u.slot b ob q n hb hx
 ·exact ⟨ob.slots,u.keep b ob q n hb hx⟩
theorem Un.kept (k:∀ b u,h.get? b=some u->h'.get? b=some u):Un fs ex H H h h' :=
 ⟨fun b ob q _ _ _=>k b ob q,fun b ob q _ _ _=>⟨ob.slots,k b ob q⟩,fun _ _ _ n _=>n,fun b ob q _=>⟨ob,k b ob q⟩,fun _ _ q=>q,fun _ _ _ q=>q,fun _ ps q=>⟨#[],by rw [q]; simp⟩⟩
theorem Un.refl:Un fs ex H H h h:=Un.kept fun _ _ q=>q
theorem Un.laid (k:∀ b u,h.get? b=some u->h'.get? b=some u)(hp:h.objs.size<=a)(hn:H a=none):Un fs ex H (upd H a o) h h' where
 keep:=fun b u q _ _ _=>k b u q
 slot:=fun b u q _ _ _=>⟨u.slots,k b u q⟩
 free:=fun b u q n _=>by rw [aj (a0x (a0l (Heap.lt_size q) hp))]; exact n
 there:=fun b u q _=>⟨u,k b u q⟩
 tups:=fun b xs q=>by rw [aj (aQ q hn)]; exact q
 frzs:=fun b u xs q=>by rw [aj (aQ q hn)]; exact q
 tbls:=fun b ps q=>⟨#[],by rw [aj (aQ q hn),q]; simp⟩
theorem Un.write (mu:Mut (H x))(he:e=x\/H e=some (.own x))(k:∀ b u,b≠e->h.get? b=some u->h'.get? b=some u)(heo:∃ u,h'.get? e=some u):Un fs ex H (upd H x o) h h':=by
 have hx:∀ b,H b=none->b≠x:=fun b n z=>by subst z; rw [n] at mu; exact mu
 have hb:∀ b,H b=none->b≠e:=fun b n z=>by
  subst z
  rcases he with r | r
  ·exact hx b n r
  ·rw [n] at r; cases r
 have hm:∀ b u,H b=some u->¬ Mut (some u)->b≠x:=fun b u q nm z=>by subst z; rw [q] at mu; exact nm mu
 refine ⟨fun b u q n _ _=>k b u (hb b n) q,fun b u q n _ _=>⟨u.slots,k b u (hb b n) q⟩,fun b u q n _=>by rw [aj (hx b n)]; exact n,fun b u q _=>?_,
  fun b xs q=>by rw [aj (hm b _ q fun z=>z)]; exact q,fun b u xs q=>by rw [aj (hm b _ q fun z=>z)]; exact q,fun b ps q=>⟨#[],by rw [aj (hm b _ q fun z=>z),q]; simp⟩⟩
 by_cases hbe:b=e
 ·subst hbe; exact heo
 ·exact ⟨u,k b u hbe q⟩
end
noncomputable def trk (h:Heap)(H:Hp):List Addr:=(a0N h.objs.size).filter fun a=>(H a).isSome
noncomputable def f9 (h:Heap)(H:Hp):Heap:=PySem.W.hideAll h (trk h H)
theorem j9 (h:Heap)(H:Hp):(f9 h H).objs.size=h.objs.size:=PySem.W.hideAll_size _ _
theorem kG {h:Heap}{H:Hp}{b:Addr}{o:Obj}(e:h.get? b=some o)(n:H b=none):(f9 h H).get? b=some o :=
 PySem.W.hideAll_get _ e fun hm=>by
  have q:(H b).isSome=true:=(a2B.mp hm).2
  rw [n] at q; simp at q
theorem oo {h:Heap}{H:Hp}{b:Addr}{o:Obj}(e:(f9 h H).get? b=some o):h.get? b=some o/\H b=none:=by
 have e':h.get? b=some o:=PySem.W.of_hideAll (trk h H) e
 refine ⟨e',?_⟩
 cases q:H b with
 | none=>rfl
 | some x =>
  have hm:b∈trk h H:=a2B.mpr ⟨a13.mpr (Heap.lt_size e'),by simp [q]⟩
  have z:(f9 h H).get? b=none:=PySem.W.hideAll_none (trk h H) hm
  rw [z] at e; cases e
noncomputable def nU (g h:Heap)(L:Addr):List (Addr×Obj):=(a0N h.objs.size).filterMap fun a=>if a=L\/(g.get? a).isSome=true then none else (h.get? a).map fun o=>(a,o)
noncomputable def rest (g h:Heap)(L d:Addr):List (Addr×Obj):=(nU g h L).filter fun p=>decide (p.1≠d)
end L2
namespace L2
open PySem PySem.Spec PyProof.Rows
structure Mod (K:a0a)(mg:Str->Option Value)(base:Heap):Prop where
 kin:K.In base
 glob:base.Ns mainGlobals mg
 blt:∃ mb,base.Ns builtinsNs mb/\∀ x:Str,x≠"__name__"->mb x=bootBuiltins x
 nolimit:base.NoLimit
structure Cx where
 prog:Program
 w:World
 K:a0a
 mg:Str->Option Value
 base:Heap
 A:Around
 N:List Str
 s₀:Shared
 H₀:Hp
 env:Env
 outer:List Env
 stack:List Env
 ex:List Addr
 fn:Str->Bool
 calm:Bool
 pn:List (Addr×Obj)
 xe:Value->Shared->Prop
noncomputable def frs (l:List Env):List Addr:=l.filterMap (·.frame)
noncomputable abbrev Cx.fs (X:Cx):List Addr:=frs X.outer
noncomputable def Vis (sc:Scope)(x:Str):Prop:=sc.names.lookup x=some .local\/sc.names.lookup x=some .cell\/sc.names.lookup x=some .free
noncomputable def Loc (sc:Scope)(x:Str):Prop:=sc.names.lookup x=some .local\/sc.names.lookup x=some .cell
noncomputable def yF (env:Env)(h:Heap)(m:Str->Option Value)(x:Str)(u:Value):Prop :=
 (env.kindOf x=some .local/\m x=some u)\/((env.kindOf x=some .cell\/env.kindOf x=some .free)/\∃ c,env.cells.lookup x=some c/\h.IsCell c (some u))
structure Cx.Ok (X:Cx):Prop where
 mod:Mod X.K X.mg X.base
 kind:X.env.scope.kind=.function
 glob:X.env.globals=mainGlobals
 blt:X.env.builtins=builtinsNs
 above:X.s₀.heap.objs.size<=X.env.locals
 inj:∀ x y c,X.env.cells.lookup x=some c->X.env.cells.lookup y=some c->x=y
 has:∀ x,(X.env.kindOf x=some .cell\/X.env.kindOf x=some .free)->∃ c,X.env.cells.lookup x=some c
 cab:∀ x c,X.fn x=true->X.env.cells.lookup x=some c->X.s₀.heap.objs.size<=c
 hd:X.calm=true->X.A.handled=none
 frames:X.A.frames=some X.stack
 stk:X.stack=X.outer\/(X.stack=X.env::X.outer/\X.env.frame=some X.env.locals)
 exf:∀ b∈X.ex,b≠X.env.locals/\∀ x c,X.env.cells.lookup x=some c->c≠b
 bs:∀ b o,X.base.get? b=some o->X.s₀.heap.get? b=some o/\X.H₀ b=none
 bsz:X.base.objs.size<=X.s₀.heap.objs.size
 noex:∀ b o,X.base.get? b=some o->b ∉ X.ex
 exfs:∀ b∈X.ex,b ∉ X.fs
 funs:X.s₀.heap.FunFrames X.base X.outer
 frf:∀ b∈X.fs,X.H₀ b=none
structure Inv (X:Cx)(pins:List (Addr×Obj))(σ:List (Option V))(H:Hp)(s:Shared):Prop where
 ok:X.Ok
 os:s.os=X.s₀.os
 bare:AllBare s.gens
 base:Un X.fs X.ex X.H₀ H X.s₀.heap s.heap
 loc:∃ m,s.heap.Ns X.env.locals m/\∀ (i:Nat) (x:Str) (v:V),X.N[i]?=some x->σ[i]?=some (some v)->Vis X.env.scope x->∃ u,RelV v u/\yF X.env s.heap m x u
 cell:∀ x c,X.env.cells.lookup x=some c->∃ v,s.heap.IsCell c v
 free:H X.env.locals=none
 freeC:∀ x c,X.env.cells.lookup x=some c->H c=none
 pin:∀ p∈X.pn++pins,s.heap.get? p.1=some p.2/\H p.1=none/\p.1≠X.env.locals/\p.1 ∉ X.fs/\∀ v,p.2.data≠.cell v
 hok:HOk X.prog X.w H s.heap
 len:σ.length=X.N.length
section
variable {X:Cx}{pins:List (Addr×Obj)}{σ:List (Option V)}{H H':Hp}{s:Shared}{h':Heap}
theorem Cx.Ok.nofr (ok:X.Ok){b:Addr}{o:Obj}(e:X.base.get? b=some o):b ∉ X.fs:=fun hb=>by
 have:=(ok.funs.mem hb).1
 rw [e] at this; cases this
theorem Inv.bs (I:Inv X pins σ H s):∀ b o,X.base.get? b=some o->s.heap.get? b=some o/\H b=none:=fun b o e =>
 ⟨I.base.keep b o (I.ok.bs b o e).1 (I.ok.bs b o e).2 (I.ok.nofr e) (I.ok.noex b o e),I.base.free b o (I.ok.bs b o e).1 (I.ok.bs b o e).2 (I.ok.noex b o e)⟩
theorem Inv.bk (I:Inv X pins σ H s):∀ b o,X.base.get? b=some o->s.heap.get? b=some o:=fun b o e=>(I.bs b o e).1
theorem Inv.mod (I:Inv X pins σ H s):Mod X.K X.mg X.base:=I.ok.mod
theorem Inv.kIn (I:Inv X pins σ H s):X.K.In s.heap:=I.ok.mod.kin.keeps I.bk
theorem Inv.fr (I:Inv X pins σ H s):∃ m,Fr X.base X.env.locals s.heap m :=
 let ⟨m,hn,_⟩:=I.loc
 ⟨m,hn,I.bk,a0j I.ok.bsz I.ok.above⟩
theorem Inv.lt (I:Inv X pins σ H s):X.env.locals < s.heap.objs.size:=let ⟨_,hn,_⟩:=I.loc; hn.lt
theorem Inv.sz (I:Inv X pins σ H s):X.s₀.heap.objs.size<=s.heap.objs.size:=a0j I.ok.above (a1Q I.lt)
theorem Inv.nofs (I:Inv X pins σ H s){a:Addr}(h:s.heap.objs.size<=a):a ∉ X.fs:=fun hb=>by
 obtain ⟨_,o,ho,_⟩:=I.ok.funs.mem hb
 exact absurd (a0l (Heap.lt_size ho) (a0j I.sz h)) (a0Y _)
theorem Inv.cne (I:Inv X pins σ H s):∀ x c,X.env.cells.lookup x=some c->c≠X.env.locals:=fun x c e z=>by
 obtain ⟨v,o,ho,hd⟩:=I.cell x c e
 obtain ⟨m,⟨o',es,ep,ho',hd',_⟩,_⟩:=I.loc
 rw [z,ho'] at ho; cases ho; rw [hd'] at hd; cases hd
theorem Inv.funs (I:Inv X pins σ H s):s.heap.FunFrames X.base X.outer:=by
 have all:∀ (l:List Env),(∀ b∈frs l,b∈X.fs)->X.s₀.heap.FunFrames X.base l->s.heap.FunFrames X.base l:=by
  intro l
  induction l with
  | nil=>intro _ _; trivial
  | cons env r ih =>
   intro hs hl
   obtain ⟨hk,⟨L,o,hf,hn,ho,hd⟩,hr⟩:=hl
   have hL:L∈X.fs:=hs L (by unfold frs; rw [a0P,hf]; exact a0g)
   obtain ⟨sl,e⟩:=I.base.slot L o ho (I.ok.frf L hL) hL fun z=>I.ok.exfs L z hL
   exact ⟨hk,⟨L,_,hf,hn,e,hd⟩,ih (fun b hb=>hs b (by unfold frs; rw [a0P,hf]; exact a0c _ hb)) hr⟩
 exact all X.outer (fun _ hb=>hb) I.ok.funs
theorem Inv.stack (I:Inv X pins σ H s):s.heap.FunFrames X.base X.stack:=by
 rcases I.ok.stk with e | ⟨e,hf⟩
 ·rw [e]; exact I.funs
 ·rw [e]
  obtain ⟨m,hn,_⟩:=I.loc
  refine .cons (by rw [I.ok.kind]; decide) hf hn ?_ I.funs
  exact Heap.get?_none_of_le (a0j I.ok.bsz I.ok.above)
theorem Inv.stkSub (I:Inv X pins σ H s):∀ b∈frs X.stack,b∈X.env.locals::X.fs:=fun b hb=>by
 rcases I.ok.stk with e | ⟨e,hf⟩
 ·rw [e] at hb; exact a0c _ hb
 ·rw [e] at hb
  unfold frs at hb
  rw [a0P,hf] at hb
  exact hb
theorem Inv.stkFree (I:Inv X pins σ H s):∀ b∈frs X.stack,H b=none:=fun b hb=>by
 rcases a0v.mp (I.stkSub b hb) with e | hb
 ·rw [e]; exact I.free
 ·obtain ⟨_,o,ho,_⟩:=I.ok.funs.mem hb
  exact I.base.free b o ho (I.ok.frf b hb) fun z=>I.ok.exfs b z hb
theorem Inv.step {g':Array GenState}{t':Nat}{d':Drawn}{ch:List Addr}(I:Inv X pins σ H s)
  (hch:∀ b∈ch,(b∈X.ex\/X.s₀.heap.objs.size<=b)/\b≠X.env.locals/\(∀ x c,X.env.cells.lookup x=some c->c≠b)/\∀ p∈X.pn++pins,p.1≠b)
  (keep:∀ b o,b≠X.env.locals->b ∉ X.fs->b ∉ ch->s.heap.get? b=some o->H b=none->h'.get? b=some o)
  (slot:∀ b o,b≠X.env.locals->b∈X.fs->b ∉ ch->s.heap.get? b=some o->H b=none->∃ sl,h'.get? b=some { o with slots:=sl }) (free:∀ b o,b ∉ ch->s.heap.get? b=some o->H b=none->H' b=none)
  (there:∀ b o,b ∉ ch->s.heap.get? b=some o->∃ o',h'.get? b=some o')
  (tups:∀ b xs,H b=some (.tup xs)->H' b=some (.tup xs)) (frzs:∀ b o u,H b=some (.frz o u)->H' b=some (.frz o u)) (tbls:∀ b ps,H b=some (.tbl ps)->∃ more,H' b=some (.tbl (ps++more)))
  (ns:∀ m,s.heap.Ns X.env.locals m->h'.Ns X.env.locals m) (hok:HOk X.prog X.w H' h') (hg:AllBare g') :
  Inv X pins σ H' { s with heap:=h',gens:=g',drawn:=d',toks:=t' }:=by
 have neL:∀ b o,X.s₀.heap.get? b=some o->b≠X.env.locals:=fun b o e=>a0x (a0l (Heap.lt_size e) I.ok.above)
 have neC:∀ b o,X.s₀.heap.get? b=some o->b ∉ X.ex->b ∉ ch:=fun b o e hx hb=>by
  rcases (hch b hb).1 with z | z
  ·exact hx z
  ·exact absurd (a0l (Heap.lt_size e) z) (a0Y _)
 have cellK:∀ x c,X.env.cells.lookup x=some c->∀ v,s.heap.IsCell c v->h'.IsCell c v:=fun x c e v ⟨o,ho,hd⟩=>by
  have nch:c ∉ ch:=fun z=>(hch c z).2.2.1 x c e rfl
  by_cases hc:c∈X.fs
  ·obtain ⟨sl,q⟩:=slot c o (I.cne x c e) hc nch ho (I.freeC x c e)
   exact ⟨_,q,hd⟩
  ·exact ⟨o,keep c o (I.cne x c e) hc nch ho (I.freeC x c e),hd⟩
 refine ⟨I.ok,I.os,hg,⟨fun b o e n hb hx=>?_,fun b o e n hb hx=>?_,fun b o e n hx=>?_,fun b o e hx=>?_,fun b xs e=>tups b xs (I.base.tups b xs e),fun b o xs e=>frzs b o xs (I.base.frzs b o xs e),fun b ps e=>?_⟩,?_,fun x c e=>?_,?_,fun x c e=>?_,fun p hp=>?_,hok,I.len⟩
 ·exact keep b o (neL b o e) hb (neC b o e hx) (I.base.keep b o e n hb hx) (I.base.free b o e n hx)
 ·obtain ⟨sl,e1⟩:=I.base.slot b o e n hb hx
  obtain ⟨sl',e2⟩:=slot b _ (neL b o e) hb (neC b o e hx) e1 (I.base.free b o e n hx)
  exact ⟨sl',e2⟩
 ·obtain ⟨o',e1⟩:=I.base.there b o e hx
  exact free b o' (neC b o e hx) e1 (I.base.free b o e n hx)
 ·obtain ⟨o',e1⟩:=I.base.there b o e hx
  exact there b o' (neC b o e hx) e1
 ·obtain ⟨m1,e1⟩:=I.base.tbls b ps e
  obtain ⟨m2,e2⟩:=tbls b _ e1
  exact ⟨m1++m2,by rw [e2,Array.append_assoc]⟩
 ·obtain ⟨m,hn,hl⟩:=I.loc
  refine ⟨m,ns m hn,fun i x v e1 e2 e3=>?_⟩
  obtain ⟨u,r,l⟩:=hl i x v e1 e2 e3
  refine ⟨u,r,?_⟩
  rcases l with l | ⟨k,c,e,z⟩
  ·exact .inl l
  ·exact .inr ⟨k,c,e,cellK x c e _ z⟩
 ·obtain ⟨v,z⟩:=I.cell x c e
  exact ⟨v,cellK x c e v z⟩
 ·obtain ⟨m,⟨o,_,_,ho,_⟩,_⟩:=I.loc
  exact free _ o (fun z=>(hch _ z).2.1 rfl) ho I.free
 ·obtain ⟨v,o,ho,hd⟩:=I.cell x c e
  exact free c o (fun z=>(hch c z).2.2.1 x c e rfl) ho (I.freeC x c e)
 ·obtain ⟨e,n,ne,nf,d⟩:=I.pin p hp
  have nch:p.1 ∉ ch:=fun z=>(hch p.1 z).2.2.2 p hp rfl
  exact ⟨keep p.1 p.2 ne nf nch e n,free p.1 p.2 nch e n,ne,nf,d⟩
theorem Inv.un {t':Nat}(I:Inv X pins σ H s)(u:Un X.fs [] H H' s.heap h')(hok:HOk X.prog X.w H' h'):Inv X pins σ H' { s with heap:=h',toks:=t' }:=by
 obtain ⟨m,⟨o,es,ep,ho,r⟩,_⟩:=id I.loc
 obtain ⟨sl,hL⟩:=u.any ho I.free (by simp)
 exact I.step (g':=s.gens) (d':=s.drawn) (ch:=[]) (fun _ z=>nomatch z) (fun b o _ hb _ e n=>u.keep b o e n hb (by simp)) (fun b o _ hb _ e n=>u.slot b o e n hb (by simp)) (fun b o _ e n=>u.free b o e n (by simp)) (fun b o _ e=>u.there b o e (by simp)) u.tups u.frzs u.tbls (fun m' hm=>by
  obtain ⟨o',es',ep',ho',r'⟩:=hm
  rw [ho] at ho'; cases ho'
  exact ⟨_,es',ep',hL,r'⟩) hok I.bare
theorem Inv.call {g':Array GenState}{t':Nat}{d':Drawn}{ch:List Addr}(I:Inv X pins σ H s)(u:Un (frs X.stack) ch H H' s.heap h')(hok:HOk X.prog X.w H' h')(hg:AllBare g')
  (hch:∀ b∈ch,(b∈X.ex\/X.s₀.heap.objs.size<=b)/\b≠X.env.locals/\(∀ x c,X.env.cells.lookup x=some c->c≠b)/\∀ p∈X.pn++pins,p.1≠b) :
  Inv X pins σ H' { s with heap:=h',gens:=g',drawn:=d',toks:=t' }:=by
 obtain ⟨m,⟨o,es,ep,ho,r⟩,_⟩:=id I.loc
 obtain ⟨sl,hL⟩:=u.any ho I.free fun z=>(hch _ z).2.1 rfl
 exact I.step (ch:=ch) hch (fun b o hL hb hc e n=>u.keep b o e n (fun z=>(a0v.mp (I.stkSub b z)).elim hL hb) hc) (fun b o _ _ hc e n=>u.any e n hc) (fun b o hc e n=>u.free b o e n hc) (fun b o hc e=>u.there b o e hc) u.tups u.frzs u.tbls (fun m' hm=>by
  obtain ⟨o',es',ep',ho',r'⟩:=hm
  rw [ho] at ho'; cases ho'
  exact ⟨_,es',ep',hL,r'⟩) hok hg
theorem Inv.turned {t':Nat}{it:Addr}(I:Inv X pins σ H s)(k:∀ b o,b≠it->s.heap.get? b=some o->h'.get? b=some o)(hn:H it=none)(hL:it≠X.env.locals)
  (h1:it∈X.ex\/X.s₀.heap.objs.size<=it) (h2:∀ x c,X.env.cells.lookup x=some c->c≠it) (h3:∀ p∈X.pn++pins,p.1≠it):Inv X pins σ H { s with heap:=h',toks:=t' }:=by
 have nit:∀ b u,H b=some u->b≠it:=fun b u e z=>by rw [z,hn] at e; cases e
 refine I.step (g':=s.gens) (d':=s.drawn) (ch:=[it]) (fun b hb=>?_) (fun b o _ _ hc e _=>k b o (fun z=>hc (by simp [z])) e) (fun b o _ _ hc e _=>⟨o.slots,k b o (fun z=>hc (by simp [z])) e⟩) (fun _ _ _ _ n=>n)
  (fun b o hc e=>⟨o,k b o (fun z=>hc (by simp [z])) e⟩) (fun _ _ e=>e) (fun _ _ _ e=>e) (fun b ps e=>⟨#[],by rw [e]; simp⟩) (fun m hm=>?_) (fun b u e=>?_) I.bare
 ·have e:b=it:=by simpa using hb
  subst e
  exact ⟨h1,hL,h2,h3⟩
 ·obtain ⟨o,es,ep,ho,r⟩:=hm
  exact ⟨o,es,ep,k _ o (a17 hL) ho,r⟩
 ·refine (I.hok b u e).stay (fun c v hc q=>k c v ?_ q) (fun _ q=>q) fun _ _ q=>q
  rcases hc with z | z
  ·rw [z]; exact nit b u e
  ·exact nit c _ z
theorem Inv.tok (I:Inv X pins σ H s)(t:Nat):Inv X pins σ H { s with toks:=t }:=I.un (h':=s.heap) (t':=t) Un.refl I.hok
theorem Inv.kept {t':Nat}(I:Inv X pins σ H s)(k:∀ b u,s.heap.get? b=some u->h'.get? b=some u):Inv X pins σ H { s with heap:=h',toks:=t' }:=I.un (Un.kept k) (I.hok.kept k)
theorem Inv.laid {a:Addr}{o:HO}{t':Nat}(I:Inv X pins σ H s)(k:∀ b u,s.heap.get? b=some u->h'.get? b=some u)(hp:s.heap.objs.size<=a)(new:ObjOk X.prog X.w (upd H a o) h' a o) :
  Inv X pins σ (upd H a o) { s with heap:=h',toks:=t' }:=I.un (Un.laid k hp (I.hok.fresh hp)) (I.hok.laid k hp new)
theorem Inv.write {x e:Addr}{o:HO}{t':Nat}(I:Inv X pins σ H s)(mu:Mut (H x))(he:e=x\/H e=some (.own x))(k:∀ b u,b≠e->s.heap.get? b=some u->h'.get? b=some u)(heo:∃ u,h'.get? e=some u)
  (new:ObjOk X.prog X.w (upd H x o) h' x o):Inv X pins σ (upd H x o) { s with heap:=h',toks:=t' }:=I.un (Un.write mu he k heo) (I.hok.write mu he k heo new)
theorem Inv.weak {σ':List (Option V)}(I:Inv X pins σ H s)(hl:σ'.length=σ.length)(w:∀ (i:Nat) v,σ'[i]?=some (some v)->σ[i]?=some (some v)):Inv X pins σ' H s :=
 ⟨I.ok,I.os,I.bare,I.base,let ⟨m,hn,hl'⟩:=I.loc; ⟨m,hn,fun i x v e1 e2 e3=>hl' i x v e1 (w i v e2) e3⟩,I.cell,I.free,I.freeC,I.pin,I.hok,hl.trans I.len⟩
theorem Inv.pins_of {pins':List (Addr×Obj)}(I:Inv X pins σ H s)(h:∀ p∈pins',s.heap.get? p.1=some p.2/\H p.1=none/\p.1≠X.env.locals/\p.1 ∉ X.fs/\∀ v,p.2.data≠.cell v):Inv X pins' σ H s :=
 ⟨I.ok,I.os,I.bare,I.base,I.loc,I.cell,I.free,I.freeC,fun p hp=>(a0K.mp hp).elim (fun z=>I.pin p (a0U _ z)) (h p),I.hok,I.len⟩
theorem g8 {N:List Str}(hN:N.Nodup){i j:Nat}{x:Str}(a:N[i]?=some x)(b:N[j]?=some x):i=j:=by
 obtain ⟨h1,e1⟩:=a0o.mp a
 obtain ⟨h2,e2⟩:=a0o.mp b
 exact (List.getElem_inj hN).mp (e1.trans e2.symm)
theorem eV {M:Model}{A:Around}{E:Value->Shared->Prop}{i:Nat}{x:Str}{v:V}{u:Value}{Q:Unit->Shared->Prop}(I:Inv X pins σ H s)(hN:X.N.Nodup)(hi:X.N[i]?=some x)(hx:Loc X.env.scope x)(r:RelV v u)
  (h:∀ s',Inv X pins (σ.set i (some v)) H s'->(∃ a,Heap.SameBut a s.heap s'.heap/\(a=X.env.locals\/X.env.cells.lookup x=some a))->Q () s') (hf:X.fn x=true\/X.env.scope.names.lookup x=some .local:=by first | exact .inl rfl | exact .inr rfl | assumption):wpAny M A (storeName X.env x u) Q E s:=by
 obtain ⟨m,hn,hl⟩:=id I.loc
 have hcls:(X.env.scope.kind==.class || (X.env.scope.kind==.module&&X.env.locals != X.env.globals))=false:=by rw [I.ok.kind]; rfl
 have hiσ:i < σ.length:=by rw [I.len]; exact (a0o.mp hi).1
 have cne:=I.cne
 have tracked:∀ {a:Addr} {h':Heap},(∃ o,s.heap.get? a=some o/\H a=none)->Heap.SameBut a s.heap h'->HOk X.prog X.w H h':=fun {a h'} ha hs b ob e=>by
  obtain ⟨_,_,hfree⟩:=ha
  refine (I.hok b ob e).stay (fun c w' hc q=>(hs.2 c ?_).trans q) (fun _ q=>q) fun _ _ q=>q
  rintro rfl
  rcases hc with rfl | hc
  ·rw [hfree] at e; cases e
  ·rw [hfree] at hc; cases hc
 rcases hx with hk | hk
 ·refine wpAny_storeName_local hk hn (fun h' hn' hs=>?_) hcls
  obtain ⟨oL,_,_,hoL,_⟩:=id hn
  refine h _ ⟨I.ok,I.os,I.bare,⟨fun b o e n hb hx=>?_,fun b o e n hb hx=>?_,I.base.free,fun b o e hx=>?_,I.base.tups,I.base.frzs,I.base.tbls⟩,⟨_,hn',fun j y v' e1 e2 e3=>?_⟩,fun y c e=>?_,I.free,I.freeC,fun p hp=>?_,tracked ⟨oL,hoL,I.free⟩ hs,by simpa using I.len⟩ ⟨_,hs,.inl rfl⟩
  ·exact (hs.2 b (a0x (a0l (Heap.lt_size e) I.ok.above))).trans (I.base.keep b o e n hb hx)
  ·obtain ⟨sl,e1⟩:=I.base.slot b o e n hb hx
   exact ⟨sl,(hs.2 b (a0x (a0l (Heap.lt_size e) I.ok.above))).trans e1⟩
  ·obtain ⟨o',e1⟩:=I.base.there b o e hx
   exact ⟨o',(hs.2 b (a0x (a0l (Heap.lt_size e) I.ok.above))).trans e1⟩
  ·by_cases hj:j=i
   ·subst hj
    rw [hi] at e1; cases e1
    rw [a1k hiσ] at e2
    cases e2
    exact ⟨u,r,.inl ⟨hk,by simp⟩⟩
   ·rw [a09 (a17 hj)] at e2
    obtain ⟨u',r',q⟩:=hl j y v' e1 e2 e3
    refine ⟨u',r',?_⟩
    rcases q with ⟨k,e⟩ | ⟨k,c,e,z⟩
    ·refine .inl ⟨k,?_⟩
     have:y≠x:=fun e=>hj (g8 hN e1 (e ▸ hi))
     simp [this,e]
    ·exact .inr ⟨k,c,e,z.sameBut hs (cne y c e)⟩
  ·obtain ⟨w',z⟩:=I.cell y c e
   exact ⟨w',z.sameBut hs (cne y c e)⟩
  ·obtain ⟨e,n,ne,nf,d⟩:=I.pin p hp
   exact ⟨(hs.2 p.1 ne).trans e,n,ne,nf,d⟩
 ·have hfn:X.fn x=true:=by
   rcases hf with z | z
   ·exact z
   ·rw [z] at hk; cases hk
  obtain ⟨c,hc⟩:=I.ok.has x (.inl hk)
  obtain ⟨w',z⟩:=I.cell x c hc
  refine wpAny_storeName_cell I.ok.kind hk hc z (fun h' hc' hs=>?_)
  obtain ⟨oc,hoc,hocd⟩:=id z
  refine h { s with heap:=h' } ⟨I.ok,I.os,I.bare,⟨fun b o e n hb hx=>?_,fun b o e n hb hx=>?_,I.base.free,fun b o e hx=>?_,I.base.tups,I.base.frzs,I.base.tbls⟩,⟨m,hn.sameBut hs (a17 (cne x c hc)),fun j y v' e1 e2 e3=>?_⟩,fun y c' e=>?_,I.free,I.freeC,fun p hp=>?_,tracked ⟨oc,hoc,I.freeC x c hc⟩ hs,by simpa using I.len⟩ ⟨c,hs,.inr hc⟩
  ·exact (hs.2 b (a0x (a0l (Heap.lt_size e) (I.ok.cab x c hfn hc)))).trans (I.base.keep b o e n hb hx)
  ·obtain ⟨sl,e1⟩:=I.base.slot b o e n hb hx
   exact ⟨sl,(hs.2 b (a0x (a0l (Heap.lt_size e) (I.ok.cab x c hfn hc)))).trans e1⟩
  ·obtain ⟨o',e1⟩:=I.base.there b o e hx
   exact ⟨o',(hs.2 b (a0x (a0l (Heap.lt_size e) (I.ok.cab x c hfn hc)))).trans e1⟩
  ·by_cases hj:j=i
   ·subst hj
    rw [hi] at e1; cases e1
    rw [a1k hiσ] at e2
    cases e2
    exact ⟨u,r,.inr ⟨.inl hk,c,hc,hc'⟩⟩
   ·rw [a09 (a17 hj)] at e2
    obtain ⟨u',r',q⟩:=hl j y v' e1 e2 e3
    refine ⟨u',r',?_⟩
    rcases q with q | ⟨k,c',e,z'⟩
    ·exact .inl q
    ·refine .inr ⟨k,c',e,z'.sameBut hs ?_⟩
     rintro rfl
     exact hj (g8 hN e1 (I.ok.inj _ _ _ e hc ▸ hi))
  ·by_cases hcc:c'=c
   ·subst hcc; exact ⟨_,hc'⟩
   ·obtain ⟨w2,z2⟩:=I.cell y c' e
    exact ⟨w2,z2.sameBut hs hcc⟩
  ·obtain ⟨e,n,ne,nf,d⟩:=I.pin p hp
   refine ⟨(hs.2 p.1 ?_).trans e,n,ne,nf,d⟩
   intro q
   rw [q,hoc] at e
   have q':oc=p.2:=a0p e
   exact d w' (by rw [<- q']; exact hocd)
theorem gS {M:Model}{A:Around}{E:Value->Shared->Prop}{i:Nat}{x:Str}{v:V}{u:Value}{Q:Unit->Shared->Prop}(I:Inv X pins σ H s)(hN:X.N.Nodup)(hi:X.N[i]?=some x)(hx:Loc X.env.scope x)(r:RelV v u)
  (h:∀ s',Inv X pins (σ.set i (some v)) H s'->Q () s') (hf:X.fn x=true\/X.env.scope.names.lookup x=some .local:=by first | exact .inl rfl | exact .inr rfl | assumption):wpAny M A (storeName X.env x u) Q E s :=
 eV I hN hi hx r (fun s' I' _=>h s' I') hf
theorem Inv.call' {s':Shared}{ch:List Addr}(I:Inv X pins σ H s)(ho:s'.os=s.os)(u:Un (frs X.stack) ch H H' s.heap s'.heap)(hok:HOk X.prog X.w H' s'.heap)(hg:AllBare s'.gens)
  (hch:∀ b∈ch,(b∈X.ex\/X.s₀.heap.objs.size<=b)/\b≠X.env.locals/\(∀ x c,X.env.cells.lookup x=some c->c≠b)/\∀ p∈X.pn++pins,p.1≠b):Inv X pins σ H' s':=by
 obtain ⟨h',g',d',t',o'⟩:=s'
 have e:o'=s.os:=ho
 subst e
 exact I.call (g':=g') (t':=t') (d':=d') u hok hg hch
end
noncomputable abbrev XK:=Value->Option Addr->Hp->Prop
noncomputable abbrev St:=List (Option V)
noncomputable abbrev VK:=V->Hp->Prop
noncomputable abbrev TE:=St->Hp->VK->Prop
noncomputable abbrev TT:=St->Hp->(Bool->Hp->Prop)->Prop
noncomputable abbrev TA:=St->Hp->(List V->Hp->Prop)->Prop
structure b9 where
 nx:St->Hp->Prop
 rt:VK
 bk:St->Hp->Prop:=fun _ _=>False
 ct:St->Hp->Prop:=fun _ _=>False
noncomputable abbrev TS:=b9->St->Hp->Prop
noncomputable def EP (X:Cx)(pins:List (Addr×Obj))(σ:St)(Q:VK)(u:Value)(s':Shared):Prop:=∃ v H',Inv X pins σ H' s'/\RelV v u/\Q v H'
noncomputable def TP (X:Cx)(pins:List (Addr×Obj))(σ:St)(Q:Bool->Hp->Prop)(b:Bool)(s':Shared):Prop:=∃ H',Inv X pins σ H' s'/\Q b H'
noncomputable def AP (X:Cx)(pins:List (Addr×Obj))(σ:St)(Q:List V->Hp->Prop)(us:List Value)(s':Shared):Prop:=∃ vs H',Inv X pins σ H' s'/\Vals vs us/\Q vs H'
noncomputable def SP (X:Cx)(pins:List (Addr×Obj))(D:b9)(f:Flow)(s':Shared):Prop :=
 match f with
 | .next=>∃ σ' H',Inv X pins σ' H' s'/\D.nx σ' H'
 | .brk=>∃ σ' H',Inv X pins σ' H' s'/\D.bk σ' H'
 | .cont=>∃ σ' H',Inv X pins σ' H' s'/\D.ct σ' H'
 | .ret u=>∃ v σ' H',Inv X pins σ' H' s'/\RelV v u/\D.rt v H'
noncomputable def PE (X:Cx)(e:Expr)(t:TE):Prop :=
 ∀ (pins:List (Addr×Obj)) (s:Shared) (σ:St) (H:Hp) (Q:VK),Inv X pins σ H s->t σ H Q->wpAny (model X.prog X.w) X.A (eval e X.env) (EP X pins σ Q) X.xe s
noncomputable def PT (X:Cx)(e:Expr)(t:TT):Prop :=
 ∀ (pins:List (Addr×Obj)) (s:Shared) (σ:St) (H:Hp) (Q:Bool->Hp->Prop),Inv X pins σ H s->t σ H Q->wpAny (model X.prog X.w) X.A (isTrue e X.env (eval e X.env)) (TP X pins σ Q) X.xe s
noncomputable def PW (X:Cx)(e:Expr)(t:TT):Prop :=
 ∀ (whole:Sem Value) (pins:List (Addr×Obj)) (s:Shared) (σ:St) (H:Hp) (Q:Bool->Hp->Prop),Inv X pins σ H s->t σ H Q->wpAny (model X.prog X.w) X.A (isTrue e X.env whole) (TP X pins σ Q) X.xe s
theorem PW.pt {X:Cx}{e:Expr}{t:TT}(h:PW X e t):PT X e t:=h _
noncomputable def PA (X:Cx)(es:List Expr)(t:TA):Prop :=
 ∀ (pos:Pos) (pins:List (Addr×Obj)) (s:Shared) (σ:St) (H:Hp) (Q:List V->Hp->Prop),Inv X pins σ H s->t σ H Q->wpAny (model X.prog X.w) X.A (spliced (backTo pos (starEach es X.env))) (AP X pins σ Q) X.xe s
noncomputable def PS (X:Cx)(st:Stmt)(t:TS):Prop :=
 ∀ (pins:List (Addr×Obj)) (s:Shared) (σ:St) (H:Hp) (D:b9),Inv X pins σ H s->t D σ H->wpAny (model X.prog X.w) X.A (exec st X.env) (SP X pins D) X.xe s
noncomputable def PSs (X:Cx)(st:List Stmt)(t:TS):Prop :=
 ∀ (pins:List (Addr×Obj)) (s:Shared) (σ:St) (H:Hp) (D:b9),Inv X pins σ H s->t D σ H->wpAny (model X.prog X.w) X.A (execs st X.env) (SP X pins D) X.xe s
theorem thn {α:Type}{t:Sem α}{Q Q':α->Shared->Prop}{M:Model}{A:Around}{E:Value->Shared->Prop}{s:Shared}(h:wpAny M A t Q E s)(hQ:∀ a s,Q a s->Q' a s):wpAny M A t Q' E s:=wpAny_mono h hQ fun _ _ x=>x
end L2
namespace L2
open PySem PySem.Spec PyProof.Rows
section
variable {X:Cx}
noncomputable def j7 (i:Nat):TE:=fun σ H Q=>∃ v,σ[i]?=some (some v)/\Q v H
noncomputable def tC (v:V):TE:=fun _ H Q=>Q v H
theorem cf {i:Nat}{x:Str}{pos:Pos}(hN:X.N[i]?=some x)(hv:Vis X.env.scope x)(hd:(x==("__debug__":Str))=false:=by decide)(hcd:(x==("__classdict__":Str))=false:=by decide):PE X (.Name x pos) (j7 i):=by
 intro pins s σ H Q I h
 obtain ⟨v,e,h⟩:=h
 obtain ⟨m,hn,hl⟩:=I.loc
 obtain ⟨u,r,l⟩:=hl i x v hN e hv
 have fin:EP X pins σ Q u s:=⟨v,H,I,r,h⟩
 rcases l with ⟨hk,hm⟩ | ⟨hk,c,hc,hcell⟩
 ·exact wpAny_Name (wpAny_loadName_local I.ok.kind hk hn hm fin) hd
 ·rcases hk with hk | hk
  ·exact wpAny_Name (wpAny_loadName_cell I.ok.kind hk hc hcell fin) hd
  ·exact wpAny_Name (wpAny_loadName_free I.ok.kind hk hc hcell fin hcd) hd
theorem vJ {i j pos}:PE X (.Constant (.int i) j pos) (tC (.int i)):=fun _ _ _ H _ I h=>wpAny_Constant_int ⟨.int i,H,I.tok _,⟨_,rfl⟩,h⟩
theorem yd {b j pos}:PE X (.Constant (.bool b) j pos) (tC (.bl b)):=fun _ _ _ H _ I h=>Constant_bool ⟨.bl b,H,I,rfl,h⟩
theorem vD {j pos}:PE X (.Constant .none j pos) (tC .non):=fun _ _ _ H _ I h=>Constant_none ⟨.non,H,I,rfl,h⟩
theorem vb {x j pos}:PE X (.Constant (.str x) j pos) (tC (.str x)):=fun _ _ _ H _ I h=>Calls.Constant_str ⟨.str x,H,I.tok _,⟨_,rfl⟩,h⟩
noncomputable def Gl (X:Cx)(x:Str):Prop:=X.env.kindOf x=some .globalImplicit
theorem jF {E:Value->Shared->Prop}{pins:List (Addr×Obj)}{s:Shared}{σ:St}{H:Hp}{x:Str}{u:Value}{pos:Pos}{Q:Value->Shared->Prop}(I:Inv X pins σ H s)(hg:Gl X x)(hm:X.mg x=some u)(h:Q u s)
  (hd:(x==("__debug__":Str))=false:=by decide):wpAny (model X.prog X.w) X.A (eval (.Name x pos) X.env) Q E s :=
 Calls.Name_function_global I.ok.kind hg (Calls.loadGlobal_global (by rw [I.ok.glob]; exact I.mod.glob.keeps I.bk) hm h) hd
theorem gz {E:Value->Shared->Prop}{pins:List (Addr×Obj)}{s:Shared}{σ:St}{H:Hp}{x:Str}{u:Value}{pos:Pos}{Q:Value->Shared->Prop}(I:Inv X pins σ H s)(hg:Gl X x)(hm:X.mg x=none)(hv:bootBuiltins x=some u)(h:Q u s)
  (hn:x≠"__name__":=by decide) (hd:(x==("__debug__":Str))=false:=by decide):wpAny (model X.prog X.w) X.A (eval (.Name x pos) X.env) Q E s:=by
 obtain ⟨mb,h1,h2⟩:=I.mod.blt
 exact Calls.Name_function_global I.ok.kind hg (Calls.loadGlobal_builtin (by rw [I.ok.glob]; exact I.mod.glob.keeps I.bk) hm (by rw [I.ok.blt]; exact h1.keeps I.bk) ((h2 x hn).trans hv) h) hd
theorem nP {x:Str}{v:V}{u:Value}{pos:Pos}(hg:Gl X x)(hm:X.mg x=some u)(r:RelV v u)(hd:(x==("__debug__":Str))=false:=by decide):PE X (.Name x pos) (tC v) :=
 fun _ _ _ H _ I h=>jF I hg hm ⟨v,H,I,r,h⟩ hd
theorem pA {x:Str}{v:V}{u:Value}{pos:Pos}(hg:Gl X x)(hm:X.mg x=none)(hv:bootBuiltins x=some u)(r:RelV v u)(hn:x≠"__name__":=by decide)(hd:(x==("__debug__":Str))=false:=by decide):PE X (.Name x pos) (tC v) :=
 fun _ _ _ H _ I h=>gz I hg hm hv ⟨v,H,I,r,h⟩ hn hd
variable {a b:Expr}{ta tb:TE}{pos:Pos}
noncomputable def PC (X:Cx)(op:CmpOp)(a b:Expr)(t:TE):Prop :=
 ∀ (pins:List (Addr×Obj)) (s:Shared) (σ:St) (H:Hp) (Q:VK),Inv X pins σ H s->t σ H Q ->
  wpAny (model X.prog X.w) X.A (eval a X.env) (fun v s₁=>wpAny (model X.prog X.w) X.A (eval b X.env) (fun u s₂=>wpAny (model X.prog X.w) X.A (compareOp op v u) (EP X pins σ Q) X.xe s₂) X.xe s₁) X.xe s
noncomputable def tB (t:TE):TT:=fun σ H Q=>t σ H fun x H1=>∃ c,x=.bl c/\Q c H1
variable {tA tB':TT}{rest:List Expr}
noncomputable def wt (t u:TT):TT:=fun σ H Q=>t σ H fun c H1=>if c=true then u σ H1 Q else Q false H1
noncomputable def tOr (t u:TT):TT:=fun σ H Q=>t σ H fun c H1=>if c=true then Q true H1 else u σ H1 Q
noncomputable def vS (t:TT):TT:=fun σ H Q=>t σ H fun c H1=>Q (!c) H1
theorem oi (ha:PT X a tA):PW X (.BoolOp .And [a] pos) tA:=by
 intro wh pins s σ H Q I h
 refine isTrue_and (thn (ha pins s σ H Q I h) fun c s1 e=>?_)
 cases c with
 | true=>exact isTrue_and_nil e
 | false=>exact e
theorem vt (ha:PT X a tA):PW X (.BoolOp .Or [a] pos) tA:=by
 intro wh pins s σ H Q I h
 refine isTrue_or (thn (ha pins s σ H Q I h) fun c s1 e=>?_)
 cases c with
 | false=>exact isTrue_or_nil e
 | true=>exact e
theorem uF (ha:PT X a tA)(hb:PW X (.BoolOp .And (b::rest) pos) tB'):PW X (.BoolOp .And (a::b::rest) pos) (wt tA tB'):=by
 intro wh pins s σ H Q I h
 refine isTrue_and (thn (ha pins s σ H _ I h) fun c s1 ⟨H1,I1,q1⟩=>?_)
 cases c with
 | true=>exact hb wh pins s1 σ H1 Q I1 q1
 | false=>exact ⟨H1,I1,q1⟩
theorem yy (ha:PT X a tA)(hb:PW X (.BoolOp .Or (b::rest) pos) tB'):PW X (.BoolOp .Or (a::b::rest) pos) (tOr tA tB'):=by
 intro wh pins s σ H Q I h
 refine isTrue_or (thn (ha pins s σ H _ I h) fun c s1 ⟨H1,I1,q1⟩=>?_)
 cases c with
 | true=>exact ⟨H1,I1,q1⟩
 | false=>exact hb wh pins s1 σ H1 Q I1 q1
theorem tK (ha:PT X a tA):PT X (.UnaryOp .Not a pos) (vS tA):=by
 intro pins s σ H Q I h
 exact isTrue_not (ha pins s σ H (fun c H1=>Q (!c) H1) I h)
theorem u9 {op}{t:TE}(h:PE X a t):PE X (.BoolOp op [a] pos) t:=fun pins s σ H Q I hw=>BoolOp_one (h pins s σ H Q I hw)
end
end L2
namespace L2
open PySem PySem.Spec PyProof.Rows
noncomputable def SqL (K:a0a)(H:Hp)(a:Addr)(xs:List V):Prop :=
 Rd H a (.lst xs) \/
  ∃ (o:Obj) (its:Array Value) (n:Nat),K.lookup a=some o/\o.cls=.type "list"/\o.dict=none/\o.data=.seq its n/\its.size<=sizeLine/\Vals xs its.toList
noncomputable def SqT (K:a0a)(H:Hp)(a:Addr)(xs:List V):Prop :=
 Rd H a (.tup xs) \/
  ∃ (o:Obj) (its:Array Value) (n:Nat),K.lookup a=some o/\o.cls=.type "tuple"/\o.data=.seq its n/\its.size<=sizeLine/\Vals xs its.toList
noncomputable def yQ:Value->Option V
 | .none=>some .non
 | .bool b=>some (.bl b)
 | .int i _=>some (.int i)
 | .str x _=>some (.str x)
 | .bytes b _=>some (.byt b)
 | .float b _=>some (.flt b)
 | .ref a=>some (.ref a)
 | .type n=>some (.ty n)
 | _=>none
theorem RelV.abs {x:V}{u:Value}(r:RelV x u):yQ u=some x:=by
 cases x with
 | non=>cases r; rfl
 | bl _=>cases r; rfl
 | int _=>obtain ⟨t,rfl⟩:=r; rfl
 | str _=>obtain ⟨t,rfl⟩:=r; rfl
 | byt _=>obtain ⟨t,rfl⟩:=r; rfl
 | flt _=>obtain ⟨t,rfl⟩:=r; rfl
 | ref _=>cases r; rfl
 | ty _=>cases r; rfl
theorem RelV.inj {x y:V}{u:Value}(r:RelV x u)(q:RelV y u):x=y:=a0p (r.abs.symm.trans q.abs)
theorem Vals.inj:∀ {xs ys:List V} {us:List Value},Vals xs us->Vals ys us->xs=ys
 | _,_,_,.nil,.nil=>rfl
 | _,_,_,.cons r t,.cons r' t'=>by rw [r.inj r',Vals.inj t t']
section
variable {X:Cx}{pins:List (Addr×Obj)}{σ:St}{H:Hp}{s:Shared}{a:Addr}{xs ys:List V}
theorem SqL.of {K:a0a}(h:H a=some (.lst xs)):SqL K H a xs:=.inl (.inl h)
theorem SqT.of {K:a0a}(h:H a=some (.tup xs)):SqT K H a xs:=.inl (.inl h)
theorem Inv.list (I:Inv X pins σ H s)(h:SqL X.K H a xs):∃ its:List Value,Vals xs its/\PlainL s.heap a its.toArray/\xs.length<=sizeLine:=by
 rcases h with h | ⟨o,its,n,hk,hc,hd,hs,hz,r⟩
 ·obtain ⟨z,its,n,r,e⟩:=h.ok I.hok
  exact ⟨its,r,⟨_,n,e,rfl,rfl,rfl⟩,z⟩
 ·refine ⟨its.toList,r,⟨o,n,I.kIn a o hk,hc,hd,by simpa using hs⟩,?_⟩
  have e:=r.length
  simp only [a1e] at e
  omega
theorem Inv.tuple (I:Inv X pins σ H s)(h:SqT X.K H a xs):∃ its:List Value,Vals xs its/\IsTup s.heap a its.toArray/\xs.length<=sizeLine:=by
 rcases h with h | ⟨o,its,n,hk,hc,hs,hz,r⟩
 ·obtain ⟨z,its,r,p⟩:=h.ok I.hok
  exact ⟨its,r,p,z⟩
 ·refine ⟨its.toList,r,⟨o,I.kIn a o hk,hc,n,by simpa using hs⟩,?_⟩
  have e:=r.length
  simp only [a1e] at e
  omega
theorem Inv.list_inj (I:Inv X pins σ H s)(h:SqL X.K H a xs)(h':SqL X.K H a ys):xs=ys:=by
 obtain ⟨its,r,⟨o,n,e,_,_,d⟩,_⟩:=I.list h
 obtain ⟨its',r',⟨o',n',e',_,_,d'⟩,_⟩:=I.list h'
 rw [e] at e'; cases e'
 rw [d] at d'
 injection d' with d1 _
 have:its=its':=by simpa using congrArg a2N d1
 subst this
 exact r.inj r'
theorem Inv.tuple_inj (I:Inv X pins σ H s)(h:SqT X.K H a xs)(h':SqT X.K H a ys):xs=ys:=by
 obtain ⟨its,r,⟨o,e,_,n,d⟩,_⟩:=I.tuple h
 obtain ⟨its',r',⟨o',e',_,n',d'⟩,_⟩:=I.tuple h'
 rw [e] at e'; cases e'
 rw [d] at d'
 injection d' with d1 _
 have:its=its':=by simpa using congrArg a2N d1
 subst this
 exact r.inj r'
end
noncomputable abbrev Cx.wish (X:Cx)(E:Value->Shared->Prop):Cx:={ X with xe:=E }
noncomputable abbrev Cx.nox (X:Cx):Cx:=X.wish fun _ _=>False
theorem Cx.Ok.wish {X:Cx}(ok:X.Ok)(E:Value->Shared->Prop):(X.wish E).Ok :=
 ⟨ok.mod,ok.kind,ok.glob,ok.blt,ok.above,ok.inj,ok.has,ok.cab,ok.hd,ok.frames,ok.stk,ok.exf,ok.bs,ok.bsz,ok.noex,ok.exfs,ok.funs,ok.frf⟩
theorem Cx.Ok.unwish {X:Cx}{E:Value->Shared->Prop}(ok:(X.wish E).Ok):X.Ok :=
 ⟨ok.mod,ok.kind,ok.glob,ok.blt,ok.above,ok.inj,ok.has,ok.cab,ok.hd,ok.frames,ok.stk,ok.exf,ok.bs,ok.bsz,ok.noex,ok.exfs,ok.funs,ok.frf⟩
section
variable {X:Cx}{pins:List (Addr×Obj)}{σ:St}{H:Hp}{s:Shared}{E:Value->Shared->Prop}
theorem Inv.wish (I:Inv X pins σ H s)(E:Value->Shared->Prop):Inv (X.wish E) pins σ H s:=⟨I.ok.wish E,I.os,I.bare,I.base,I.loc,I.cell,I.free,I.freeC,I.pin,I.hok,I.len⟩
theorem Inv.unwish (I:Inv (X.wish E) pins σ H s):Inv X pins σ H s:=⟨I.ok.unwish,I.os,I.bare,I.base,I.loc,I.cell,I.free,I.freeC,I.pin,I.hok,I.len⟩
theorem SP.unwish {D:b9}{f:Flow}{s':Shared}(h:SP (X.wish E) pins D f s'):SP X pins D f s':=by
 cases f with
 | next=>obtain ⟨σ',H',I,q⟩:=h; exact ⟨σ',H',I.unwish,q⟩
 | brk=>obtain ⟨σ',H',I,q⟩:=h; exact ⟨σ',H',I.unwish,q⟩
 | cont=>obtain ⟨σ',H',I,q⟩:=h; exact ⟨σ',H',I.unwish,q⟩
 | ret u=>obtain ⟨v,σ',H',I,r,q⟩:=h; exact ⟨v,σ',H',I.unwish,r,q⟩
theorem PSs.nox {st:List Stmt}{t:TS}(h:PSs X.nox st t):PSs X st t:=fun pins s σ H D I hw =>
 wpAny_mono (h pins s σ H D (I.wish _) hw) (fun _ _ q=>q.unwish) fun _ _ z=>a07 z
end
section
variable {X:Cx}{st:Stmt}{rest:List Stmt}{t u:TS}{e:Expr}{te:TE}{pos:Pos}
noncomputable def qU:TS:=fun D σ H=>D.nx σ H
noncomputable def yn (t u:TS):TS:=fun D σ H=>t { D with nx:=u D } σ H
theorem pZ:PSs X [] qU:=fun _ _ σ H _ I h=>wpAny_execs_nil ⟨σ,H,I,h⟩
theorem k8 (h1:PS X st t)(h2:PSs X rest u):PSs X (st::rest) (yn t u):=by
 intro pins s σ H D I h
 refine wpAny_execs_cons (thn (h1 pins s σ H { D with nx:=u D } I h) fun f s1 q=>?_)
 cases f with
 | next =>
  obtain ⟨σ',H',I',q⟩:=q
  exact h2 pins s1 σ' H' D I' q
 | ret v=>exact q
 | brk=>exact q
 | cont=>exact q
theorem nQ (h1:PS X st t):PSs X [st] t:=by
 intro pins s σ H D I h
 refine wpAny_execs_cons (thn (h1 pins s σ H D I h) fun f s1 q=>?_)
 cases f with
 | next=>exact wpAny_execs_nil q
 | ret v=>exact q
 | brk=>exact q
 | cont=>exact q
theorem Inv.quiet {pins:List (Addr×Obj)}{σ:St}{H:Hp}{s:Shared}(I:Inv X pins σ H s):interactive X.env=false:=by simp [interactive,I.ok.kind]
noncomputable def wc (te:TE):TS:=fun D σ H=>te σ H fun _ H1=>D.nx σ H1
theorem oT (he:PE X e te)(hs:swapsWith e none pos.line X.env=pure false:=by rfl):PS X (.Expr e pos) (wc te):=by
 intro pins s σ H D I h
 exact wpAny_Expr_any (thn (he pins s σ H _ I h) fun v s1 ⟨x,H1,I1,r1,q1⟩=>⟨σ,H1,I1,q1⟩) I.quiet hs
noncomputable def xR (te:TE):TS:=fun D σ H=>te σ H D.rt
theorem tG (he:PE X e te):PS X (.Return (some e) pos) (xR te):=by
 intro pins s σ H D I h
 exact wpAny_Return_some (thn (he pins s σ H _ I h) fun v s1 ⟨x,H1,I1,r1,q1⟩=>⟨x,σ,H1,I1,r1,q1⟩)
noncomputable def yt (c:TT)(t u:TS):TS:=fun D σ H=>c σ H fun b H1=>if b=true then t D σ H1 else u D σ H1
theorem xK {c:Expr}{a b:List Stmt}{tc:TT}(hc:PT X c tc)(ha:PSs X a t)(hb:PSs X b u):PS X (.If c a b pos) (yt tc t u):=by
 intro pins s σ H D I h
 refine wpAny_If (thn (hc pins s σ H _ I h) fun d s1 ⟨H1,I1,q1⟩=>?_)
 cases d with
 | true=>exact ha pins s1 σ H1 D I1 q1
 | false=>exact hb pins s1 σ H1 D I1 q1
end
noncomputable abbrev TG:=V->St->Hp->(St->Hp->Prop)->Prop
noncomputable abbrev TGs:=List V->St->Hp->(St->Hp->Prop)->Prop
noncomputable def PG (X:Cx)(target:Expr)(t:TG):Prop :=
 ∀ (pins:List (Addr×Obj)) (s:Shared) (σ:St) (H:Hp) (v:V) (u:Value) (Q:St->Hp->Prop),Inv X pins σ H s->RelV v u->t v σ H Q ->
  wpAny (model X.prog X.w) X.A (assign target X.env u) (fun _ s'=>∃ σ' H',Inv X pins σ' H' s'/\Q σ' H') X.xe s
noncomputable abbrev vf:=V->V->V->Hp->(Hp->Prop)->Prop
noncomputable def wm (X:Cx)(t:vf):Prop :=
 ∀ (pins:List (Addr×Obj)) (s:Shared) (σ:St) (H:Hp) (o i v:V) (ov iv u:Value) (Q:Hp->Prop),Inv X pins σ H s->RelV o ov->RelV i iv->RelV v u->t o i v H Q ->
  wpAny (model X.prog X.w) X.A (setItem ov iv u) (fun _ s'=>∃ H',Inv X pins σ H' s'/\Q H') X.xe s
section
variable {X:Cx}{pos:Pos}
noncomputable def cj (i:Nat):TG:=fun v σ H Q=>Q (σ.set i (some v)) H
theorem jH {i:Nat}{x:Str}(hN:X.N.Nodup)(hi:X.N[i]?=some x)(hx:Loc X.env.scope x)(hf:X.fn x=true\/X.env.scope.names.lookup x=some .local:=by first | exact .inl rfl | exact .inr rfl | assumption):PG X (.Name x pos) (cj i):=by
 intro pins s σ H v u Q I r h
 exact wpAny_assign_Name (gS I hN hi hx r (fun s' I'=>⟨_,H,I',h⟩) hf)
noncomputable def v5:TGs:=fun vs σ H Q=>vs=[]/\Q σ H
noncomputable def ji (t:TG)(u:TGs):TGs:=fun vs σ H Q=>∃ v r,vs=v::r/\t v σ H fun σ' H'=>u r σ' H' Q
noncomputable def wJ (K:a0a)(n:Nat)(t:TGs):TG:=fun v σ H Q=>∃ a xs,v=.ref a/\SqT K H a xs/\xs.length=n/\t xs σ H Q
noncomputable def yG (to ti:TE)(t:vf):TG:=fun v σ H Q=>to σ H fun o H1=>ti σ H1 fun i H2=>t o i v H2 fun H3=>Q σ H3
theorem sZ {o i:Expr}{to ti:TE}{t:vf}(ho:PE X o to)(hi:PE X i ti)(hs:wm X t)
  (ha:∀ v,assign (.Subscript o i pos) X.env v=(do
   let ov <- holding [v] (eval o X.env)
   let iv <- holding [v,ov] (eval i X.env)
   standAt pos
   holding [v,ov,iv] (setItem ov iv v)
   release [v,ov,iv] []):=by intro _; rfl):PG X (.Subscript o i pos) (yG to ti t):=by
 intro pins s σ H v u Q I r h
 rw [ha]
 refine wpAny_bind (wpAny_holding (thn (ho pins s σ H _ I h) fun ov s1 ⟨x,H1,I1,r1,q1⟩=>?_))
 refine wpAny_bind (wpAny_holding (thn (hi pins s1 σ H1 _ I1 q1) fun iv s2 ⟨y,H2,I2,r2,q2⟩=>?_))
 refine wpAny_bind (wpAny_standAt (wpAny_bind (wpAny_holding (thn (hs pins s2 σ H2 x y v ov iv u _ I2 r1 r2 r q2) fun _ s3 ⟨H3,I3,q3⟩=>?_))))
 exact wpAny_release ⟨σ,H3,I3,q3⟩
noncomputable def kF (te:TE)(g:TG):TS:=fun D σ H=>te σ H fun x H1=>g x σ H1 D.nx
theorem rH {tg e:Expr}{te:TE}{g:TG}(he:PE X e te)(hg:PG X tg g)(hs:swapsWithSole [tg] e pos.line X.env=pure false:=by rfl)(hw:swappedStores [tg] e X.env=pure none:=by rfl)
  (h1:(assignEach [tg] X.env).map (·.2)=[assign tg X.env]:=by rfl):PS X (.Assign [tg] e pos) (kF te g):=by
 intro pins s σ H D I h
 refine wpAny_Assign_stores (thn (he pins s σ H _ I h) fun v s1 ⟨x,H1,I1,r1,q1⟩=>?_) hs hw
 rw [h1]
 exact thn (hg pins s1 σ H1 x v _ I1 r1 q1) fun _ s2 q=>q
theorem rX {i:Nat}{x:Str}{e:Expr}{te:TE}{pos':Pos}(hN:X.N.Nodup)(hi:X.N[i]?=some x)(hx:Loc X.env.scope x)(he:PE X e te)(hs:swapsWith e (some (.Name x pos')) pos.line X.env=pure false:=by rfl)(hf:X.fn x=true\/X.env.scope.names.lookup x=some .local:=by first | exact .inl rfl | exact .inr rfl | assumption) :
  PS X (.Assign [.Name x pos'] e pos) (kF te (cj i)):=by
 intro pins s σ H D I h
 refine wpAny_Assign_Name (thn (he pins s σ H _ I h) fun v s1 ⟨y,H1,I1,r1,q1⟩=>?_) hs
 exact gS I1 hN hi hx r1 (fun s2 I2=>⟨_,H1,I2,q1⟩) hf
end
structure It where
 go:Nat->Hp->Prop
 yld:Nat->Hp->V->Hp->Prop
 stop:Nat->Hp->Prop
noncomputable def gk (X:Cx)(pins:List (Addr×Obj))(H:Hp)(b:Addr):Prop :=
 H b=none/\b≠X.env.locals/\b ∉ X.fs/\(b∈X.ex\/X.s₀.heap.objs.size<=b)/\(∀ x c,X.env.cells.lookup x=some c->c≠b)/\∀ p∈X.pn++pins,p.1≠b
theorem Inv.fpOk {X:Cx}{pins:List (Addr×Obj)}{σ:St}{H H':Hp}{s:Shared}{b:Addr}(I:Inv X pins σ H s)(hb:s.heap.objs.size<=b)(hn:H' b=none):gk X pins H' b:=by
 refine ⟨hn,a1R (a0l I.lt hb),I.nofs hb,.inr (a0j I.sz hb),fun x c e z=>?_,fun p hp z=>?_⟩
 ·obtain ⟨v,q⟩:=I.cell x c e
  exact absurd (a0l q.lt (by rw [z]; exact hb)) (a0Y _)
 ·exact absurd (a0l (Heap.lt_size (I.pin p hp).1) (by rw [z]; exact hb)) (a0Y _)
structure pK (P:Program)(w:World)(K:a0a)(tg:Expr)(J:It)(fp:List Addr)(it:Addr)(tn:Nat->Heap->Prop):Prop where
 mem:it∈fp
 obj:∀ i h,tn i h->∀ b∈fp,∃ o,h.get? b=some o/\∀ v,o.data≠.cell v
 keep:∀ i h h',tn i h->(∀ b∈fp,∀ o,h.get? b=some o->h'.get? b=some o)->tn i h'
 item:∀ (X:Cx),X.prog=P->X.w=w->X.K=K->X.calm=true->∀ (i:Nat) (pins:List (Addr×Obj)) (s:Shared) (σ:St) (H:Hp) (E:Value->Shared->Prop),Inv X pins σ H s->(∀ b∈fp,gk X pins H b)->tn i s.heap->J.go i H ->
  wpAny (model P w) X.A (pyNext (.ref it)) (fun r s1=>∃ u,r=some u /\
   wpAny (model P w) X.A (letOwnedTupleGo tg (.ref it) u) (fun _ s2=>∃ x H',Inv X pins σ H' s2/\RelV x u/\J.yld i H x H'/\tn (i+1) s2.heap/\∀ b∈fp,H' b=none) E s1) E s
 done:∀ (X:Cx),X.prog=P->X.w=w->X.K=K->X.calm=true->∀ (i:Nat) (pins:List (Addr×Obj)) (s:Shared) (σ:St) (H:Hp) (E:Value->Shared->Prop),Inv X pins σ H s->(∀ b∈fp,gk X pins H b)->tn i s.heap->J.stop i H ->
  wpAny (model P w) X.A (pyNext (.ref it)) (fun r s1=>r=none/\Inv X pins σ H s1) E s
 self:∀ (A:Around) (i:Nat) (s:Shared) (Q:Value->Shared->Prop) (E:Value->Shared->Prop),tn i s.heap->Q (.ref it) s->wpAny (model P w) A (pyIter (.ref it)) Q E s
noncomputable abbrev TI:=St->Hp->(It->Hp->Prop)->Prop
noncomputable def PIE (X:Cx)(pins:List (Addr×Obj))(σ:St)(tg:Expr)(R:It->Hp->Prop)(itv:Value)(s2:Shared):Prop :=
 ∃ (it:Addr) (fp:List Addr) (tn:Nat->Heap->Prop) (J:It) (H':Hp),itv=.ref it/\Inv X pins σ H' s2/\pK X.prog X.w X.K tg J fp it tn/\tn 0 s2.heap/\(∀ b∈fp,gk X pins H' b)/\R J H'
noncomputable def PI (X:Cx)(tg iter:Expr)(wi:TI):Prop :=
 ∀ (pins:List (Addr×Obj)) (s:Shared) (σ:St) (H:Hp) (R:It->Hp->Prop),Inv X pins σ H s->wi σ H R ->
  wpAny (model X.prog X.w) X.A (eval iter X.env) (fun v s1=>wpAny (model X.prog X.w) X.A (pyIter v) (PIE X pins σ tg R) X.xe s1) X.xe s
theorem m5 {M:Model}{A:Around}{E:Value->Shared->Prop}{s:Shared}{tg:Expr}{it:Addr}{u:Value}{o:Obj}{n:String}{vs:Array Value}{Q:Unit->Shared->Prop}(ho:s.heap.get? it=some o)(hc:o.cls=.type n)(hd:o.data=.fields vs)
  (hn:["enumerate","zip","dict_itemiterator","dict_reverseitemiterator","odict_iterator","itertools.zip_longest","itertools.pairwise"].contains n=false) (hQ:Q () s):wpAny M A (letOwnedTupleGo tg (.ref it) u) Q E s:=by
 unfold letOwnedTupleGo
 cases tg<;>first
  | exact wpAny_pure hQ
  | (cases u<;>first
    | exact wpAny_pure hQ
    | (refine wpAny_bind (wpAny_load ho ?_)
       rw [hc,hd]
       show wpAny M A (if (["enumerate","zip","dict_itemiterator","dict_reverseitemiterator","odict_iterator","itertools.zip_longest","itertools.pairwise"].contains n&&vs[0]?==some (rawInt _))=true then _ else _) Q E s
       rw [if_neg (by intro h; rw [hn,a0w] at h; cases h)]
       exact wpAny_pure hQ))
noncomputable def Itl (K:a0a)(a:Addr):It :=
 ⟨fun i H=>∃ xs x,SqL K H a xs/\xs[i]?=some x,fun i H x H'=>H'=H/\∀ xs,SqL K H a xs->xs[i]?=some x,fun i H=>∃ xs,SqL K H a xs/\xs.length<=i⟩
noncomputable def Itt (K:a0a)(a:Addr):It :=
 ⟨fun i H=>∃ xs x,SqT K H a xs/\xs[i]?=some x,fun i H x H'=>H'=H/\∀ xs,SqT K H a xs->xs[i]?=some x,fun i H=>∃ xs,SqT K H a xs/\xs.length<=i⟩
noncomputable def Itr (lo:Int)(n:Nat):It:=⟨fun i _=>i < n,fun i H x H'=>H'=H/\x=.int (lo+i),fun i _=>n<=i⟩
theorem ku {P:Program}{w:World}{K:a0a}{tg:Expr}(a it:Addr):pK P w K tg (Itl K a) [it] it (fun i h=>h.IsListIter it a i) where
 mem:=by simp
 obj:=fun i h st b hb=>by
  have e:b=it:=by simpa using hb
  subst e
  obtain ⟨o,e,c,d⟩:=st
  exact ⟨o,e,fun v z=>by rw [d] at z; cases z⟩
 keep:=fun i h h' st k=>st.at fun o e=>k it (by simp) o e
 item:=by
  intro X hP hw hK hc i pins s σ H E I hf st hg
  subst hP hw hK
  obtain ⟨xs,x,hq,hx⟩:=hg
  obtain ⟨its,rv,p,hz⟩:=I.list hq
  obtain ⟨u,hu,ru⟩:=rv.get hx
  obtain ⟨f0,f1,f2,f3,f4,f5⟩:=hf it (by simp)
  refine wpAny_pyNext_list_item st p.isList (x:=u) (by simpa using hu) fun h' st' sb=>?_
  have I1:Inv X pins σ H { s with heap:=h' }:=I.turned (t':=s.toks) (fun b o hb e=>(sb.2 b hb).trans e) f0 f1 f3 f4 f5
  obtain ⟨o,e,c,d⟩:=id st'
  exact ⟨u,rfl,m5 (s:={ s with heap:=h' }) e c d (by decide) ⟨x,H,I1,ru,⟨rfl,fun ys hy=>by rw [I.list_inj hy hq]; exact hx⟩,st',fun b hb=>(hf b hb).1⟩⟩
 done:=by
  intro X hP hw hK hc i pins s σ H E I hf st hg
  subst hP hw hK
  obtain ⟨xs,hq,hx⟩:=hg
  obtain ⟨its,rv,p,hz⟩:=I.list hq
  obtain ⟨f0,f1,f2,f3,f4,f5⟩:=hf it (by simp)
  have hl:=rv.length
  exact wpAny_pyNext_list_end (I.ok.hd hc) st p.isList (by simp; omega) fun h' eb=>⟨rfl,I.turned (t':=s.toks) (fun b o hb e=>eb b o hb e) f0 f1 f3 f4 f5⟩
 self:=fun _ _ _ _ _ st h=>wpAny_pyIter_listiter st h
theorem iB {P:Program}{w:World}{K:a0a}{tg:Expr}(a it:Addr):pK P w K tg (Itt K a) [it] it (fun i h=>h.IsTupleIter it a i) where
 mem:=by simp
 obj:=fun i h st b hb=>by
  have e:b=it:=by simpa using hb
  subst e
  obtain ⟨o,e,c,d⟩:=st
  exact ⟨o,e,fun v z=>by rw [d] at z; cases z⟩
 keep:=fun i h h' st k=>st.at fun o e=>k it (by simp) o e
 item:=by
  intro X hP hw hK hc i pins s σ H E I hf st hg
  subst hP hw hK
  obtain ⟨xs,x,hq,hx⟩:=hg
  obtain ⟨its,rv,p,hz⟩:=I.tuple hq
  obtain ⟨u,hu,ru⟩:=rv.get hx
  obtain ⟨f0,f1,f2,f3,f4,f5⟩:=hf it (by simp)
  refine wpAny_pyNext_tuple_item st (show s.heap.IsTuple a its.toArray from p) (x:=u) (by simpa using hu) fun h' st' sb=>?_
  have I1:Inv X pins σ H { s with heap:=h' }:=I.turned (t':=s.toks) (fun b o hb e=>(sb.2 b hb).trans e) f0 f1 f3 f4 f5
  obtain ⟨o,e,c,d⟩:=id st'
  exact ⟨u,rfl,m5 (s:={ s with heap:=h' }) e c d (by decide) ⟨x,H,I1,ru,⟨rfl,fun ys hy=>by rw [I.tuple_inj hy hq]; exact hx⟩,st',fun b hb=>(hf b hb).1⟩⟩
 done:=by
  intro X hP hw hK hc i pins s σ H E I hf st hg
  subst hP hw hK
  obtain ⟨xs,hq,hx⟩:=hg
  obtain ⟨its,rv,p,hz⟩:=I.tuple hq
  obtain ⟨f0,f1,f2,f3,f4,f5⟩:=hf it (by simp)
  have hl:=rv.length
  exact wpAny_pyNext_tuple_end (I.ok.hd hc) st (show s.heap.IsTuple a its.toArray from p) (by simp; omega) fun h' eb=>⟨rfl,I.turned (t':=s.toks) (fun b o hb e=>eb b o hb e) f0 f1 f3 f4 f5⟩
 self:=fun _ _ _ _ _ st h=>wpAny_pyIter_tupleiter st h
theorem iQ {P:Program}{w:World}{K:a0a}{tg:Expr}(it:Addr)(lo:Int)(n:Nat):pK P w K tg (Itr lo n) [it] it (fun i h=>IsRangeIter h it (lo+(i:Nat) * 1) ((n:Int)-(i:Nat)) 1) where
 mem:=by simp
 obj:=fun i h st b hb=>by
  have e:b=it:=by simpa using hb
  subst e
  exact ⟨_,st,fun v z=>by
   have z':Data.fields _=Data.cell v:=z
   cases z'⟩
 keep:=fun i h h' st k=>k it (by simp) _ st
 item:=by
  intro X hP hw hK hc i pins s σ H E I hf st hg
  subst hP hw hK
  obtain ⟨f0,f1,f2,f3,f4,f5⟩:=hf it (by simp)
  have W:=Walks.range (prog:=X.prog) (w:=X.w) (I.ok.hd hc) it lo 1 n
  refine W.item i s _ _ hg st fun v h' tk hv st' kk=>?_
  obtain ⟨t,rfl⟩:=hv
  have I1:Inv X pins σ H { s with heap:=h',toks:=tk }:=I.turned (fun b o hb e=>kk b o (by simpa using hb) e) f0 f1 f3 f4 f5
  refine ⟨_,rfl,m5 (s:={ s with heap:=h',toks:=tk }) (n:="range_iterator") st' rfl rfl (by decide) ⟨.int (lo+i),H,I1,⟨t,?_⟩,⟨rfl,rfl⟩,st',fun b hb=>(hf b hb).1⟩⟩
  rw [Int.mul_one]
 done:=by
  intro X hP hw hK hc i pins s σ H E I hf st hg
  subst hP hw hK
  obtain ⟨f0,f1,f2,f3,f4,f5⟩:=hf it (by simp)
  exact wpAny_pyNext_range_end (I.ok.hd hc) st (by have:n<=i:=hg; omega) fun h' eb=>⟨rfl,I.turned (t':=s.toks) (fun b o hb e=>eb b o hb e) f0 f1 f3 f4 f5⟩
 self:=fun _ _ _ _ _ st h=>wpAny_pyIter_rangeiter st h
end L2
namespace L2
open PySem PySem.Spec PyProof.Rows
section
variable {X:Cx}{tg:Expr}
noncomputable def qX (K:a0a)(tl:TE):TI:=fun σ H R=>tl σ H fun x H1=>∃ a,x=.ref a/\(∃ xs,SqL K H1 a xs)/\R (Itl K a) H1
noncomputable def yz (K:a0a)(tl:TE):TI:=fun σ H R=>tl σ H fun x H1=>∃ a,x=.ref a/\(∃ xs,SqT K H1 a xs)/\R (Itt K a) H1
theorem oM {l:Expr}{tl:TE}(hl:PE X l tl):PI X tg l (qX X.K tl):=by
 intro pins s σ H R I h
 refine thn (hl pins s σ H _ I h) fun v s1 ⟨x,H1,I1,r1,q1⟩=>?_
 obtain ⟨a,e,⟨xs,hq⟩,q⟩:=q1
 subst e
 cases r1
 obtain ⟨its,rv,p,hz⟩:=I1.list hq
 refine wpAny_pyIter_list p.isList ?_
 refine ⟨s1.heap.objs.size,[s1.heap.objs.size],_,_,H1,rfl,I1.kept (t':=s1.toks) fun b o e=>Heap.get?_push_of_some _ e,ku a _,⟨_,Heap.get?_push_size _ rfl,rfl,rfl⟩,fun b hb=>?_,q⟩
 have e:b=s1.heap.objs.size:=by simpa using hb
 subst e
 exact I1.fpOk (a0b _) (I1.hok.fresh (a0b _))
theorem uV {l:Expr}{tl:TE}(hl:PE X l tl):PI X tg l (yz X.K tl):=by
 intro pins s σ H R I h
 refine thn (hl pins s σ H _ I h) fun v s1 ⟨x,H1,I1,r1,q1⟩=>?_
 obtain ⟨a,e,⟨xs,hq⟩,q⟩:=q1
 subst e
 cases r1
 obtain ⟨its,rv,p,hz⟩:=I1.tuple hq
 refine wpAny_pyIter_tuple (show s1.heap.IsTuple a its.toArray from p) ?_
 refine ⟨s1.heap.objs.size,[s1.heap.objs.size],_,_,H1,rfl,I1.kept (t':=s1.toks) fun b o e=>Heap.get?_push_of_some _ e,iB a _,⟨_,Heap.get?_push_size _ rfl,rfl,rfl⟩,fun b hb=>?_,q⟩
 have e:b=s1.heap.objs.size:=by simpa using hb
 subst e
 exact I1.fpOk (a0b _) (I1.hok.fresh (a0b _))
theorem mR {pins:List (Addr×Obj)}{σ:St}{H:Hp}{s:Shared}{R:It->Hp->Prop}{E:Value->Shared->Prop}{lo hi:Int}{t u v:Tok}{tk:Nat}(I:Inv X pins σ H s)(h1:-(2 ^ 62)<=lo)(h2:lo < 2 ^ 62)(h3:-(2 ^ 62)<=hi)(h4:hi < 2 ^ 62)
  (q:R (Itr lo (hi-lo).toNat) H):wpAny (model X.prog X.w) X.A (pyIter (.ref s.heap.objs.size)) (PIE X pins σ tg R) E { s with heap:=s.heap.push { cls:=.type "range",data:=.fields #[.int lo t,.int hi u,.int 1 v] },toks:=tk }:=by
 refine wpAny_pyIter_range (IsRange.new ..) (small_one h1 h2 h3 h4) ?_
 have I1:Inv X pins σ H { s with heap:=s.heap.push { cls:=.type "range",data:=.fields #[.int lo t,.int hi u,.int 1 v] },toks:=tk }:=I.kept fun b o e=>Heap.get?_push_of_some _ e
 refine ⟨(s.heap.push { cls:=.type "range",data:=.fields #[.int lo t,.int hi u,.int 1 v] }).objs.size,[(s.heap.push { cls:=.type "range",data:=.fields #[.int lo t,.int hi u,.int 1 v] }).objs.size],_,_,H,rfl,
  I1.kept (t':=tk) fun b o e=>Heap.get?_push_of_some _ e,iQ _ lo (hi-lo).toNat,?_,fun b hb=>?_,q⟩
 ·have e1:lo+((0:Nat):Int) * 1=lo:=by simp
  have e2:(((hi-lo).toNat:Nat):Int)-((0:Nat):Int)=Builtin.Range.rangeSize lo hi 1:=by rw [rangeSize_one]; split<;>omega
  show IsRangeIter _ _ (lo+((0:Nat):Int) * 1) ((((hi-lo).toNat:Nat):Int)-((0:Nat):Int)) 1
  rw [e1,e2]
  exact Heap.get?_push_size _ rfl
 ·have e:b=(s.heap.push { cls:=.type "range",data:=.fields #[.int lo t,.int hi u,.int 1 v] }).objs.size:=by simpa using hb
  subst e
  exact I1.fpOk (a0b _) (I1.hok.fresh (a0b _))
noncomputable def qT (ta:TA):TI:=fun σ H R=>ta σ H fun vs H1=>∃ j:Int,vs=[.int j]/\-(2 ^ 62)<=j/\j < 2 ^ 62/\R (Itr 0 j.toNat) H1
theorem kc {a:Expr}{ta:TA}{p pos:Pos}(hg:Gl X "range")(hm:X.mg "range"=none)(ha:PA X [a] ta)(hs:starEach [a] X.env=[(false,eval a X.env)]:=by rfl):PI X tg (.Call (.Name "range" p) [a] [] pos) (qT ta):=by
 intro pins s σ H R I h
 refine Call_ (gz I hg hm boot_range (a1t (thn (ha pos pins s σ H _ I h) fun us s1 ⟨vs,H1,I1,r1,q1⟩=>?_) hs rfl))
 obtain ⟨j,e,q1,q2,q⟩:=q1
 subst e
 cases r1 with
 | cons r rr =>
  cases rr
  obtain ⟨t,rfl⟩:=r
  exact call_range_1 (mR I1 (by omega) (by omega) q1 q2 (by simpa using q))
noncomputable def ye (wi:TI)(g:TG)(tb:TS):TS:=fun D σ H=>wi σ H fun J H1=>∃ W:Nat->Nat->St->Hp->Prop,(∃ m,W 0 m σ H1)/\∀ i m σ H,W i m σ H ->
 (J.stop i H/\D.nx σ H)\/(J.go i H/\∃ N:St->Hp->Prop,(∀ σ' H',N σ' H'->∃ m',m' < m/\W (i+1) m' σ' H')/\∀ x H',J.yld i H x H'->g x σ H' fun σ2 H2=>tb { D with nx:=N,ct:=N,bk:=D.nx } σ2 H2)
noncomputable def eC (fp:List Addr)(h:Heap):List (Addr×Obj):=fp.filterMap fun b=>(h.get? b).map fun o=>(b,o)
theorem a8 {fp:List Addr}{h:Heap}{b:Addr}{o:Obj}(hb:b∈fp)(e:h.get? b=some o):(b,o)∈eC fp h:=a2d.mpr ⟨b,hb,by rw [e]; rfl⟩
theorem jU {fp:List Addr}{h:Heap}{p:Addr×Obj}(hp:p∈eC fp h):p.1∈fp/\h.get? p.1=some p.2:=by
 obtain ⟨b,hb,e⟩:=a2d.mp hp
 cases q:h.get? b with
 | none=>rw [q] at e; cases e
 | some o =>
  rw [q] at e
  have e':(b,o)=p:=a0p e
  subst e'
  exact ⟨hb,q⟩
theorem Inv.pinned {pins:List (Addr×Obj)}{σ:St}{H:Hp}{s:Shared}{fp:List Addr}(I:Inv X pins σ H s)(hf:∀ b∈fp,gk X pins H b)(ho:∀ b∈fp,∃ o,s.heap.get? b=some o/\∀ v,o.data≠.cell v):Inv X (pins++eC fp s.heap) σ H s :=
 I.pins_of fun p hp=>(a0K.mp hp).elim (fun z=>I.pin p (a0k _ z)) fun z=>by
  obtain ⟨hb,e⟩:=jU z
  obtain ⟨f0,f1,f2,_⟩:=hf p.1 hb
  obtain ⟨o,e',d⟩:=ho p.1 hb
  rw [e] at e'; cases e'
  exact ⟨e,f0,f1,f2,d⟩
theorem Inv.unpinned {pins pl:List (Addr×Obj)}{σ:St}{H:Hp}{s:Shared}(I:Inv X (pins++pl) σ H s):Inv X pins σ H s:=I.pins_of fun p hp=>I.pin p (a0k _ (a0U _ hp))
theorem uP {iter:Expr}{body:List Stmt}{wi:TI}{g:TG}{tb:TS}{pos:Pos}(hp:PassesOwn (model X.prog X.w) X.A X.env X.xe)(hc:X.calm=true)(hi:PI X tg iter wi)(hg:PG X tg g)(hb:PSs X body tb)
  (hs:∀ x,foldedSetIterable iter X.env x=pure x:=by intro _; rfl):PS X (.For tg iter body [] pos) (ye wi g tb):=by
 intro pins s σ H D I h
 refine wpAny_For (thn (hi pins s σ H _ I h) fun v s1 h1=>thn h1 fun itv s2 h2=>?_) hs
 obtain ⟨it,fp,tn,J,H2,e,I2,T,st2,f2,W,⟨m0,w0⟩,turn⟩:=h2
 subst e
 -- what stays true of the iterator's objects through the loop
 have stat:∀ {H':Hp},(∀ b∈fp,H' b=none)->∀ b∈fp,gk X pins H' b:=fun hn b hb=>⟨hn b hb,(f2 b hb).2⟩
 refine codeAny_forLoop_any (fun n s'=>∃ i σ' H',Inv X pins σ' H' s'/\tn i s'.heap/\(∀ b∈fp,H' b=none)/\W i n σ' H') ?_ m0 ⟨0,σ,H2,I2,st2,fun b hb=>(f2 b hb).1,w0⟩
 rintro n s3 ⟨i,σ3,H3,I3,st3,fr3,w3⟩
 rcases turn i n σ3 H3 w3 with ⟨stop,qn⟩ | ⟨go,N,hN,step⟩
 ·refine wpAny_passesOwn hp (thn (T.done X rfl rfl rfl hc i pins s3 σ3 H3 X.xe I3 (stat fr3) st3 stop) fun r s4 ⟨hr,I4⟩=>?_)
  subst hr
  exact wpAny_execs_nil ⟨σ3,H3,I4,qn⟩
 ·refine wpAny_passesOwn hp (thn (T.item X rfl rfl rfl hc i pins s3 σ3 H3 X.xe I3 (stat fr3) st3 go) fun r s4 ⟨u,hr,h4⟩=>?_)
  subst hr
  refine wpAny_passesOwn hp (thn h4 fun _ s5 ⟨x,H5,I5,r5,y5,st5,fr5⟩=>?_)
  have I5':=I5.pinned (stat fr5) (T.obj _ _ st5)
  refine wpAny_passesOwn hp (thn (hg _ s5 σ3 H5 x u _ I5' r5 (step x H5 y5)) fun _ s6 ⟨σ6,H6,I6,q6⟩=>?_)
  refine wpAny_passesOwn hp (thn (hb _ s6 σ6 H6 _ I6 q6) fun f s7 q7=>?_)
  have again:∀ {σ7:St} {H7:Hp},Inv X (pins++eC fp s5.heap) σ7 H7 s7->N σ7 H7->∃ m,m < n/\∃ i σ' H',Inv X pins σ' H' s7/\tn i s7.heap/\(∀ b∈fp,H' b=none)/\W i m σ' H':=fun {σ7 H7} I7 n7=>by
   obtain ⟨m',hm,w7⟩:=hN σ7 H7 n7
   refine ⟨m',hm,i+1,σ7,H7,I7.unpinned,T.keep _ _ _ st5 fun b hb o e=>(I7.pin (b,o) (a0k _ (a0k _ (a8 hb e)))).1,fun b hb=>?_,w7⟩
   obtain ⟨o,e,d⟩:=T.obj _ _ st5 b hb
   exact (I7.pin (b,o) (a0k _ (a0k _ (a8 hb e)))).2.1
  cases f with
  | next=>obtain ⟨σ7,H7,I7,n7⟩:=q7; exact again I7 n7
  | cont=>obtain ⟨σ7,H7,I7,n7⟩:=q7; exact again I7 n7
  | brk=>obtain ⟨σ7,H7,I7,q7⟩:=q7; exact ⟨σ7,H7,I7.unpinned,q7⟩
  | ret v=>obtain ⟨x7,σ7,H7,I7,r7,q7⟩:=q7; exact ⟨x7,σ7,H7,I7.unpinned,r7,q7⟩
end
end L2
namespace L2
open PySem PySem.Spec PyProof.Rows
noncomputable abbrev R2:=V->V->Hp->VK->Prop
noncomputable def OpR (X:Cx)(f:Value->Value->Sem Value)(r:R2):Prop :=
 ∀ (pins:List (Addr×Obj)) (s:Shared) (σ:St) (H:Hp) (x y:V) (v u:Value) (Q:VK),Inv X pins σ H s->RelV x v->RelV y u->r x y H Q ->
  wpAny (model X.prog X.w) X.A (f v u) (EP X pins σ Q) X.xe s
noncomputable def UnR (X:Cx)(f:Value->Sem Value)(r:V->Hp->VK->Prop):Prop :=
 ∀ (pins:List (Addr×Obj)) (s:Shared) (σ:St) (H:Hp) (x:V) (v:Value) (Q:VK),Inv X pins σ H s->RelV x v->r x H Q ->
  wpAny (model X.prog X.w) X.A (f v) (EP X pins σ Q) X.xe s
noncomputable def cI (X:Cx)(f:Value)(r:List V->Hp->VK->Prop):Prop :=
 ∀ (pins:List (Addr×Obj)) (s:Shared) (σ:St) (H:Hp) (xs:List V) (us:List Value) (Q:VK),Inv X pins σ H s->Vals xs us->r xs H Q ->
  wpAny (model X.prog X.w) X.A (call f us) (EP X pins σ Q) X.xe s
noncomputable def zq (X:Cx)(r:V->Hp->(Bool->Hp->Prop)->Prop):Prop :=
 ∀ (pins:List (Addr×Obj)) (s:Shared) (σ:St) (H:Hp) (x:V) (v:Value) (Q:Bool->Hp->Prop),Inv X pins σ H s->RelV x v->r x H Q ->
  wpAny (model X.prog X.w) X.A (truthy v) (TP X pins σ Q) X.xe s
noncomputable def tOp (r:R2)(ta tb:TE):TE:=fun σ H Q=>ta σ H fun x H1=>tb σ H1 fun y H2=>r x y H2 Q
noncomputable def tUn (r:V->Hp->VK->Prop)(ta:TE):TE:=fun σ H Q=>ta σ H fun x H1=>r x H1 Q
noncomputable def rI (C:Int->Int->Prop)(g:Int->Int->V):R2:=fun x y H Q=>∃ i j,x=.int i/\y=.int j/\C i j/\Q (g i j) H
noncomputable def rI0 (g:Int->Int->V):R2:=fun x y H Q=>∃ i j,x=.int i/\y=.int j/\Q (g i j) H
noncomputable def rU (g:Int->V):V->Hp->VK->Prop:=fun x H Q=>∃ i,x=.int i/\Q (g i) H
section
variable {X:Cx}{a b c:Expr}{ta tb tc:TE}{pos:Pos}
theorem vo (ha:PE X a ta)(hb:PE X b tb){pins:List (Addr×Obj)}{s:Shared}{σ:St}{H:Hp}{R:V->V->Hp->Prop}(I:Inv X pins σ H s)
  (h:ta σ H fun x H1=>tb σ H1 fun y H2=>R x y H2) {Q:Value->Shared->Prop} {f:Value->Value->Sem Value}
  (hf:∀ v u s2 x y H2,Inv X pins σ H2 s2->RelV x v->RelV y u->R x y H2->wpAny (model X.prog X.w) X.A (f v u) Q X.xe s2) :
  wpAny (model X.prog X.w) X.A (eval a X.env) (fun v s₁=>wpAny (model X.prog X.w) X.A (eval b X.env) (fun u s₂=>wpAny (model X.prog X.w) X.A (f v u) Q X.xe s₂) X.xe s₁) X.xe s:=by
 refine thn (ha pins s σ H _ I h) fun v s1 ⟨x,H1,I1,r1,q1⟩=>?_
 refine thn (hb pins s1 σ H1 _ I1 q1) fun u s2 ⟨y,H2,I2,r2,q2⟩=>?_
 exact hf v u s2 x y H2 I2 r1 r2 q2
theorem eZ {op:Operator}{r:R2}(ho:OpR X (binaryOp op) r)(ha:PE X a ta)(hb:PE X b tb):PE X (.BinOp a op b pos) (tOp r ta tb):=by
 intro pins s σ H Q I h
 exact wpAny_BinOp (vo ha hb I h fun v u s2 x y H2 I2 rx ry q=>ho pins s2 σ H2 x y v u Q I2 rx ry q)
theorem vY {op:UnaryOp}{r:V->Hp->VK->Prop}(ho:UnR X (unaryOp op) r)(ha:PE X a ta):PE X (.UnaryOp op a pos) (tUn r ta):=by
 intro pins s σ H Q I h
 exact UnaryOp_ (thn (ha pins s σ H _ I h) fun v s1 ⟨x,H1,I1,r1,q1⟩=>ho pins s1 σ H1 x v Q I1 r1 q1)
theorem opI {f:Value->Value->Sem Value}{C:Int->Int->Prop}{g:Int->Int->Int}
  (rule:∀ (i j:Int) (t u:Tok) (s:Shared) (Q:Value->Shared->Prop) (E:Value->Shared->Prop),C i j->Q (.int (g i j) s.toks) { s with toks:=s.toks+1 }->wpAny (model X.prog X.w) X.A (f (.int i t) (.int j u)) Q E s) :
  OpR X f (rI C fun i j=>.int (g i j)):=by
 intro pins s σ H x y v u Q I rx ry h
 obtain ⟨i,j,rfl,rfl,hc,q⟩:=h
 obtain ⟨t,rfl⟩:=rx
 obtain ⟨t',rfl⟩:=ry
 exact rule i j t t' s _ _ hc ⟨.int (g i j),H,I.tok _,⟨_,rfl⟩,q⟩
theorem xc {f:Value->Value->Sem Value}{g:Int->Int->Int}
  (rule:∀ (i j:Int) (t u:Tok) (s:Shared) (Q:Value->Shared->Prop) (E:Value->Shared->Prop),Q (.int (g i j) s.toks) { s with toks:=s.toks+1 }->wpAny (model X.prog X.w) X.A (f (.int i t) (.int j u)) Q E s) :
  OpR X f (rI0 fun i j=>.int (g i j)):=by
 intro pins s σ H x y v u Q I rx ry h
 obtain ⟨i,j,rfl,rfl,q⟩:=h
 obtain ⟨t,rfl⟩:=rx
 obtain ⟨t',rfl⟩:=ry
 exact rule i j t t' s _ _ ⟨.int (g i j),H,I.tok _,⟨_,rfl⟩,q⟩
theorem qG {f:Value->Value->Sem Value}{g:Int->Int->Bool}
  (rule:∀ (i j:Int) (t u:Tok) (s:Shared) (Q:Value->Shared->Prop) (E:Value->Shared->Prop),Q (.bool (g i j)) s->wpAny (model X.prog X.w) X.A (f (.int i t) (.int j u)) Q E s) :
  OpR X f (rI0 fun i j=>.bl (g i j)):=by
 intro pins s σ H x y v u Q I rx ry h
 obtain ⟨i,j,rfl,rfl,q⟩:=h
 obtain ⟨t,rfl⟩:=rx
 obtain ⟨t',rfl⟩:=ry
 exact rule i j t t' s _ _ ⟨.bl (g i j),H,I,rfl,q⟩
noncomputable def sd (i j:Int):Prop:=0 < j/\j < 1073741824
noncomputable def vk (i j:Int):Prop:=0<=j/\j<=1000000/\i.natAbs < 2 ^ 64
noncomputable def CMul (i j:Int):Prop:=(-(2 ^ 64) < i/\i < 2 ^ 64)\/(-(2 ^ 64) < j/\j < 2 ^ 64)
theorem CMul.ok {i j:Int}(h:CMul i j):IntMulOk i j:=by
 rcases h with ⟨h1,h2⟩ | ⟨h1,h2⟩
 ·exact .of_left (intBits_le_64 h1 h2)
 ·exact .of_right (intBits_le_64 h1 h2)
theorem op_add:OpR X (binaryOp .Add) (rI0 fun i j=>.int (i+j)):=xc fun _ _ _ _ _ _ _ q=>add_int q
theorem uA:OpR X (binaryOp .Sub) (rI0 fun i j=>.int (i-j)):=xc fun _ _ _ _ _ _ _ q=>sub_int q
theorem op_mul:OpR X (binaryOp .Mult) (rI CMul fun i j=>.int (i * j)):=opI fun _ _ _ _ _ _ _ hc q=>mul_int q hc.ok
theorem qe:OpR X (binaryOp .FloorDiv) (rI sd fun i j=>.int (i / j)):=opI fun i j _ _ _ _ _ hc q=>by
 have h1:(0:Int) < j:=hc.1
 have h2:j < 1073741824:=hc.2
 exact floordiv_int (by omega) (by rw [Int.fdiv_eq_ediv_of_nonneg i (by omega)]; exact q) (.inl (PyProof.noPylong_small (by omega)))
theorem um:OpR X (binaryOp .Mod) (rI (fun _ j=>0 < j) fun i j=>.int (i % j)):=opI fun i j _ _ _ _ _ hc q=>by
 have h1:(0:Int) < j:=hc
 exact mod_int' (by omega) (by rw [Int.fmod_eq_emod_of_nonneg i (by omega)]; exact q)
theorem rG:OpR X (binaryOp .Pow) (rI vk fun i j=>.int (i ^ j.toNat)):=opI fun _ _ _ _ _ _ _ hc q=>pow_int_small hc.1 hc.2.1 hc.2.2 q
theorem unI {f:Value->Sem Value}{g:Int->Int}
  (rule:∀ (i:Int) (t:Tok) (s:Shared) (Q:Value->Shared->Prop) (E:Value->Shared->Prop),Q (.int (g i) s.toks) { s with toks:=s.toks+1 }->wpAny (model X.prog X.w) X.A (f (.int i t)) Q E s) :
  UnR X f (rU fun i=>.int (g i)):=by
 intro pins s σ H x v Q I rx h
 obtain ⟨i,rfl,q⟩:=h
 obtain ⟨t,rfl⟩:=rx
 exact rule i t s _ _ ⟨.int (g i),H,I.tok _,⟨_,rfl⟩,q⟩
theorem vc:UnR X (unaryOp .USub) (rU fun i=>.int (-i)):=unI fun _ _ _ _ _ q=>neg_int q
end
section
variable {X:Cx}{a b c:Expr}{ta tb tc:TE}{pos:Pos}
theorem kW {pins:List (Addr×Obj)}{σ:St}{H:Hp}{s:Shared}{Q:VK}{k k':Bool}(I:Inv X pins σ H s)(q:Q (.bl k) H)(e:k=k'):EP X pins σ Q (.bool k') s:=by
 subst e
 exact ⟨.bl k,H,I,rfl,q⟩
theorem wB:OpR X (compareOp .Lt) (rI0 fun i j=>.bl (decide (i < j))):=qG fun _ _ _ _ _ _ _ q=>lt_int q
theorem q9:OpR X (compareOp .LtE) (rI0 fun i j=>.bl (decide (i<=j))):=qG fun _ _ _ _ _ _ _ q=>le_int q
theorem ya:OpR X (compareOp .Gt) (rI0 fun i j=>.bl (decide (j < i))):=qG fun _ _ _ _ _ _ _ q=>gt_int q
theorem wx:OpR X (compareOp .GtE) (rI0 fun i j=>.bl (decide (j<=i))):=qG fun _ _ _ _ _ _ _ q=>ge_int q
theorem OpR.or {f:Value->Value->Sem Value}{r r':R2}(h:OpR X f r)(h':OpR X f r'):OpR X f (fun x y H Q=>r x y H Q\/r' x y H Q):=by
 intro pins s σ H x y v u Q I rx ry q
 rcases q with q | q
 ·exact h pins s σ H x y v u Q I rx ry q
 ·exact h' pins s σ H x y v u Q I rx ry q
theorem cn (b:Expr){op:CmpOp}(h:op≠.In:=by decide)(h2:op≠.NotIn:=by decide):behindInMarks op b=false:=by
 have e1:(op==CmpOp.In)=false:=by cases op<;>first | rfl | exact absurd rfl h
 have e2:(op==CmpOp.NotIn)=false:=by cases op<;>first | rfl | exact absurd rfl h2
 cases b<;>simp [behindInMarks,e1,e2]
theorem jw {op:CmpOp}{r:R2}(ho:OpR X (compareOp op) r)(ha:PE X a ta)(hb:PE X b tb)(hm:behindInMarks op b=false):PE X (.Compare a [op] [b] pos) (tOp r ta tb):=by
 intro pins s σ H Q I h
 exact wpAny_Compare1 (vo ha hb I h fun v u s2 x y H2 I2 rx ry q=>ho pins s2 σ H2 x y v u Q I2 rx ry q) hm
noncomputable def rf (t:TE):TT:=fun σ H Q=>t σ H fun x H'=>∃ k,x=.bl k/\Q k H'
theorem oj {op:CmpOp}{r:R2}(ho:OpR X (compareOp op) r)(ha:PE X a ta)(hb:PE X b tb)(hm:behindInMarks op b=false):PT X (.Compare a [op] [b] pos) (rf (tOp r ta tb)):=by
 intro pins s σ H Q I h
 refine wpAny_isTrue_Compare1 (thn (ha pins s σ H _ I h) fun v s1 ⟨x,H1,I1,r1,q1⟩=>thn (hb pins s1 σ H1 _ I1 q1) fun u s2 ⟨y,H2,I2,r2,q2⟩ =>
  thn (ho pins s2 σ H2 x y v u _ I2 r1 r2 q2) fun c s3 ⟨z,H3,I3,r3,k,e,q3⟩=>?_) hm
 subst e
 cases r3
 exact wpAny_truthy_bool ⟨H3,I3,q3⟩
noncomputable def mF (r r':R2)(ta tb tc:TE):TE:=fun σ H Q=>ta σ H fun x H1=>tb σ H1 fun y H2=>r x y H2 fun z H3=>∃ k,z=.bl k /\
 (if k=true then tc σ H3 fun w' H4=>r' y w' H4 Q else Q (.bl false) H3)
theorem kQ {op op':CmpOp}{r r':R2}(ho:OpR X (compareOp op) r)(ho':OpR X (compareOp op') r')(ha:PE X a ta)(hb:PE X b tb)(hc:PE X c tc)
  (hm:lastMarks [op,op'] [b,c]=false:=by with_unfolding_all rfl):PE X (.Compare a [op,op'] [b,c] pos) (mF r r' ta tb tc):=by
 intro pins s σ H Q I h
 refine Compare_chain (thn (ha pins s σ H _ I h) fun v s1 ⟨x,H1,I1,r1,q1⟩=>chain_link (thn (hb pins s1 σ H1 _ I1 q1) fun u s2 ⟨y,H2,I2,r2,q2⟩ =>
  thn (ho pins s2 σ H2 x y v u _ I2 r1 r2 q2) fun d s3 ⟨z,H3,I3,r3,k,e,q3⟩=>?_)) hm
 subst e
 cases r3
 refine wpAny_truthy_bool ?_
 cases k with
 | false=>exact ite_ff ⟨.bl false,H3,I3,rfl,q3⟩
 | true=>exact ite_tt (chain_last (thn (hc pins s3 σ H3 _ I3 q3) fun w' s4 ⟨z',H4,I4,r4,q4⟩=>ho' pins s4 σ H4 y z' u w' Q I4 r2 r4 q4))
noncomputable def qN (K:a0a)(x:V)(H:Hp)(k:Bool):Prop :=
 match x with
 | .non=>k=false
 | .bl b=>k=b
 | .int i=>k=(i != 0)
 | .str y=>y.length<=sizeLine/\k=((y.length:Int) != 0)
 | .byt y=>y.size<=sizeLine/\k=((y.size:Int) != 0)
 | .ref p=>(∃ xs,SqL K H p xs/\k=!xs.isEmpty)\/(∃ xs,SqT K H p xs/\k=!xs.isEmpty)\/∃ kvs,H p=some (.dK kvs)/\k=!kvs.isEmpty
 | _=>False
theorem i1 {κ:Type}{kvs:List (κ×V)}{vs:List (κ×Value)}(r:KV kvs vs):(!vs.isEmpty)=!kvs.isEmpty:=by
 cases r<;>rfl
theorem er {xs:List V}{its:List Value}(r:Vals xs its):(!its.toArray.isEmpty)=!xs.isEmpty:=by
 cases r<;>simp
theorem dt:(sizeLine:Nat) < 2 ^ 63:=by rw [sizeLine_eq]; decide
theorem kU:zq X (fun x H Q=>∃ k,qN X.K x H k/\Q k H):=by
 intro pins s σ H x v Q I rx h
 obtain ⟨k,e,q⟩:=h
 have hl:=dt
 have hs:sizeLine=16777216:=sizeLine_eq
 cases x with
 | non =>
  cases rx
  have e':k=false:=e
  subst e'
  exact truthy_none ⟨H,I,q⟩
 | bl b =>
  cases rx
  have e':k=b:=e
  subst e'
  exact wpAny_truthy_bool ⟨H,I,q⟩
 | int i =>
  obtain ⟨t,rfl⟩:=rx
  have e':k=(i != 0):=e
  subst e'
  exact PySem.P.truthy_int ⟨H,I,q⟩
 | str y =>
  obtain ⟨t,rfl⟩:=rx
  obtain ⟨hy,e'⟩:y.length<=sizeLine/\k=((y.length:Int) != 0):=e
  subst e'
  exact PySem.P.truthy_str (by omega) ⟨H,I.tok _,q⟩
 | byt y =>
  obtain ⟨t,rfl⟩:=rx
  obtain ⟨hy,e'⟩:y.size<=sizeLine/\k=((y.size:Int) != 0):=e
  subst e'
  exact PySem.W.truthy_bytes (by omega) ⟨H,I.tok _,q⟩
 | ref p =>
  cases rx
  have e':(∃ xs,SqL X.K H p xs/\k=!xs.isEmpty)\/(∃ xs,SqT X.K H p xs/\k=!xs.isEmpty)\/∃ kvs,H p=some (.dK kvs)/\k=!kvs.isEmpty:=e
  rcases e' with ⟨xs,hx,e'⟩ | ⟨xs,hx,e'⟩ | ⟨kvs,hx,e'⟩
  ·subst e'
   obtain ⟨its,r,pl,hz⟩:=I.list hx
   have hlen:=r.length
   exact wpAny_truthy_list pl.isList (by simp only [a0e]; omega) ⟨H,I.tok _,by rw [er r]; exact q⟩
  ·subst e'
   obtain ⟨its,r,pl,hz⟩:=I.tuple hx
   have hlen:=r.length
   exact truthy_tuple pl (by simp only [a0e]; omega) ⟨H,I.tok _,by rw [er r]; exact q⟩
  ·subst e'
   obtain ⟨hz,hS,vs,r,m⟩:kvs.length<=sizeLine/\(p==sysModules)=false/\∃ vs,KV kvs vs/\s.heap.DictOf (fJ X.prog X.w) p vs:=I.hok p _ hx
   have hlen:kvs.length=vs.length:=Paired.length r
   exact wpAny_truthy_dict hS m (by omega) ⟨H,I.tok _,by rw [i1 r]; exact q⟩
 | _=>exact (show False from e).elim
theorem mz (ha:PE X a ta)(he:∀ whole,isTrue a X.env whole=(do let v <- whole; standAt a.pos; holding [v] (truthy v))) :
  PT X a (fun σ H Q=>ta σ H fun x H'=>∃ k,qN X.K x H' k/\Q k H'):=by
 intro pins s σ H Q I h
 exact isTrue_plain (thn (ha pins s σ H _ I h) fun v s1 ⟨x,H1,I1,r1,q1⟩=>kU pins s1 σ H1 x v Q I1 r1 q1) (he _)
theorem op_add_str:OpR X (binaryOp .Add) (fun x y H Q=>∃ i j,x=.str i/\y=.str j/\i.length+j.length<=sizeLine/\Q (.str (i++j)) H):=by
 intro pins s σ H x y v u Q I rx ry h
 obtain ⟨i,j,rfl,rfl,hz,q⟩:=h
 obtain ⟨t,rfl⟩:=rx
 obtain ⟨t',rfl⟩:=ry
 exact add_str (fun t' tk=>⟨.str (i++j),H,I.tok _,⟨_,rfl⟩,q⟩) hz
theorem eX {x:V}{us:List Value}(r:Vals [x] us):∃ u,us=[u]/\RelV x u:=by
 cases r with
 | cons r1 r2=>cases r2; exact ⟨_,rfl,r1⟩
theorem kJ {x y:V}{us:List Value}(r:Vals [x,y] us):∃ u w',us=[u,w']/\RelV x u/\RelV y w':=by
 cases r with
 | cons r1 r2 =>
  cases r2 with
  | cons r3 r4=>cases r4; exact ⟨_,_,rfl,r1,r3⟩
noncomputable def wq (K:a0a)(x:V)(H:Hp)(n:Nat):Prop :=
 match x with
 | .str y=>y.length<=sizeLine/\n=y.length
 | .byt y=>y.size<=sizeLine/\n=y.size
 | .ref p=>(∃ xs,SqL K H p xs/\n=xs.length)\/∃ xs,SqT K H p xs/\n=xs.length
 | _=>False
theorem ll:cI X (.builtin "len") (fun xs H Q=>∃ x n,xs=[x]/\wq X.K x H n/\Q (.int n) H):=by
 intro pins s σ H xs us Q I r h
 obtain ⟨x,n,rfl,e,q⟩:=h
 obtain ⟨u,rfl,rx⟩:=eX r
 have hl:=dt
 have hs:sizeLine=16777216:=sizeLine_eq
 cases x with
 | str y =>
  obtain ⟨t,rfl⟩:=rx
  obtain ⟨hy,e'⟩:y.length<=sizeLine/\n=y.length:=e
  subst e'
  exact len_str (by omega) ⟨.int _,H,I.tok _,⟨_,rfl⟩,q⟩
 | byt y =>
  obtain ⟨t,rfl⟩:=rx
  obtain ⟨hy,e'⟩:y.size<=sizeLine/\n=y.size:=e
  subst e'
  exact PySem.W.len_bytes (by omega) ⟨.int _,H,I.tok _,⟨_,rfl⟩,q⟩
 | ref p =>
  cases rx
  have e':(∃ xs,SqL X.K H p xs/\n=xs.length)\/∃ xs,SqT X.K H p xs/\n=xs.length:=e
  rcases e' with ⟨xs,hx,e'⟩ | ⟨xs,hx,e'⟩
  ·subst e'
   obtain ⟨its,r',pl,hz⟩:=I.list hx
   have hlen:=r'.length
   exact Calls.call_len_list pl.isList (by simp only [a0e]; omega) ⟨.int xs.length,H,I.tok _,⟨_,by simp only [a0e]; rw [hlen]⟩,q⟩
  ·subst e'
   obtain ⟨its,r',pl,hz⟩:=I.tuple hx
   have hlen:=r'.length
   exact len_tuple pl (by simp only [a0e]; omega) ⟨.int xs.length,H,I.tok _,⟨_,by simp only [a0e]; rw [hlen]⟩,q⟩
 | _=>exact (show False from e).elim
end
end L2
namespace L2
open PySem PySem.Spec PyProof.Rows
structure ObjM (h:Heap)(x dx C:Addr)(mA:Str->Option Value):Prop where
 obj:h.get? x=some (a1P C dx)
 ns:h.Ns1 dx mA
 ne:dx≠x
theorem j1 {h:Heap}{dx:Addr}{mA:Str->Option Value}(n:h.Ns1 dx mA):∃ od,h.get? dx=some od/\∀ name,a14 name od=some (mA name):=by
 obtain ⟨o,es,ep,ho,hd,hk,_,hm⟩:=n
 refine ⟨o,ho,fun name=>?_⟩
 have e:=hm name
 unfold nsFind findBy at e
 rw [<- Array.find?_toList] at e
 unfold a14
 rw [hd]
 dsimp only
 split
 ·rename_i y q
  rw [q] at e
  exact congrArg some e
 ·rename_i q
  rw [q] at e
  have a:es.toList.any (·.refKey)=false:=by
   rw [List.any_eq_false]
   intro y hy
   obtain ⟨z,t,hkey⟩:=hk y (Array.mem_toList_iff.mp hy)
   simp [DictEntry.refKey,hkey]
  have a':¬ es.toList.any (·.refKey)=true:=by rw [a]; exact a0h
  rw [if_neg a']
  exact congrArg some e
theorem ObjM.look {h:Heap}{x dx C:Addr}{mA:Str->Option Value}(I:ObjM h x dx C mA):∃ od,PySem.W.InstAt h x (a1P C dx) C (some od)/\∀ name,a14 name od=some (mA name) :=
 let ⟨od,ho,hl⟩:=j1 I.ns
 ⟨od,⟨I.obj,rfl,rfl,ho⟩,hl⟩
noncomputable def wG (f:Str)(v:V):List (Str×V)->List (Str×V)
 | []=>[(f,v)]
 | (g,x)::r=>if g=f then (g,v)::r else (g,x)::wG f v r
section
variable {P:Program}{w:World}{H H':Hp}{h h':Heap}{a C dx:Addr}{fs fs':List (Str×V)}
theorem qw (hok:HOk P w H h)(e:H a=some (.ins C dx fs)):∃ mA,ObjM h a dx C mA/\(∀ f,uN (fs.lookup f) (mA f))/\a2M mA (fs.map (·.1))/\fs.length<=1000/\H dx=some (.own a):=by
 obtain ⟨d,z,ne,ob,mA,n,r,q⟩:=(show ObjOk P w H h a (.ins C dx fs) from hok a _ e)
 exact ⟨mA,⟨ob,n,ne⟩,r,q,z,d⟩
end
structure Cls (K:a0a)(C:Addr):Prop where
 pg:a2q K C Str.empty=true
 hd:PySem.W.hasDictIn K C=true
 po:PySem.W.plainOver K C=true
 sa:a2D K (.ref C) "__setattr__"=some (some (.builtin "object.__setattr__"))
theorem Cls.get {K:a0a}{C:Addr}(c:Cls K C)(f:Str):a2q K C f=true:=c.pg
section
variable {X:Cx}{pins:List (Addr×Obj)}{σ:St}{H:Hp}{s:Shared}{A:Around}{E:Value->Shared->Prop}{Q:Value->Shared->Prop}{c:Value}{b:Bool}
inductive dJ (K:a0a)(H:Hp):V->Value->Prop where
 | non:dJ K H .non (.type "NoneType")
 | bl (x:Bool):dJ K H (.bl x) (.type "bool")
 | int (i:Int):dJ K H (.int i) (.type "int")
 | str (x:Str):dJ K H (.str x) (.type "str")
 | flt (x:UInt64):dJ K H (.flt x) (.type "float")
 | lst {a:Addr} {xs:List V} (e:H a=some (.lst xs)):dJ K H (.ref a) (.type "list")
 | frz {a:Addr} {o:Obj} {xs:List V} (e:H a=some (.frz o (.lst xs))):dJ K H (.ref a) (.type "list")
 | tup {a:Addr} {xs:List V} (e:H a=some (.tup xs)):dJ K H (.ref a) (.type "tuple")
 | dK {a:Addr} {kvs:List (Key×V)} (e:H a=some (.dK kvs)):dJ K H (.ref a) (.type "dict")
 | dT {a:Addr} {kvs:List (List Key×V)} (e:H a=some (.dT kvs)):dJ K H (.ref a) (.type "dict")
 | ins {a C dx:Addr} {fs:List (Str×V)} (e:H a=some (.ins C dx fs)) (cl:Cls K C) (ha:a2D K (.ref C) "__class__"=some (some (.builtin "object.__class__")))
   (hn:PySem.W.specialIn K (.builtin "object.__class__") "__get__"=some (some (.builtin "getset_descriptor.__get__"))) (htk:PySem.W.takesIn K (.builtin "object.__class__")=some true)
   (hm:PySem.W.mroIn K C (.type "object")=some true):dJ K H (.ref a) (.ref C)
theorem cF {x:V}{u t:Value}(I:Inv X pins σ H s)(rx:RelV x u)(ty:dJ X.K H x t)(e:a0V X.K t c=some b)(h:∀ tk,Q (.bool b) { s with toks:=tk }) :
  wpAny (model X.prog X.w) A (call (.builtin "isinstance") [u,c]) Q E s:=by
 cases ty with
 | non=>cases (show u=Value.none from rx); exact a0C a2i I.kIn a1f e (fun z=>nomatch z) h
 | bl y=>cases (show u=Value.bool y from rx); exact a0C a2j I.kIn a1f e (fun z=>nomatch z) h
 | int i=>obtain ⟨t,q⟩:=(show ∃ t,u=Value.int i t from rx); cases q; exact a0C a2r I.kIn a1f e (fun z=>nomatch z) h
 | str y=>obtain ⟨t,q⟩:=(show ∃ t,u=Value.str y t from rx); cases q; exact a0C a2s I.kIn a1f e (fun z=>nomatch z) h
 | flt y=>obtain ⟨t,q⟩:=(show ∃ t,u=Value.float y t from rx); cases q; exact a0C PySem.W.kitx_float I.kIn a1f e (fun z=>nomatch z) h
 | @lst a xs ea =>
  cases (show u=Value.ref a from rx)
  obtain ⟨_,_,n,_,h1⟩:=(show ObjOk X.prog X.w H s.heap a (.lst xs) from I.hok a _ ea)
  exact a0C a1l I.kIn ⟨_,h1,rfl⟩ e (fun z=>nomatch z) h
 | @frz a ob xs ea =>
  cases (show u=Value.ref a from rx)
  obtain ⟨_,_,_,n,_,h1⟩:=(show ObjOk X.prog X.w H s.heap a (.frz ob (.lst xs)) from I.hok a _ ea)
  exact a0C a1l I.kIn ⟨_,h1,rfl⟩ e (fun z=>nomatch z) h
 | @tup a xs ea =>
  cases (show u=Value.ref a from rx)
  obtain ⟨_,_,_,p⟩:=(show ObjOk X.prog X.w H s.heap a (.tup xs) from I.hok a _ ea)
  obtain ⟨o,h1,h2,_⟩:=p
  exact a0C a1v I.kIn ⟨o,h1,h2⟩ e (fun z=>nomatch z) h
 | @dK a kvs ea =>
  cases (show u=Value.ref a from rx)
  obtain ⟨_,_,vs,_,p⟩:=(show ObjOk X.prog X.w H s.heap a (.dK kvs) from I.hok a _ ea)
  obtain ⟨o,es,ep,h1,h2,_⟩:=p
  exact a0C a2k I.kIn ⟨o,h1,h2.1⟩ e (fun z=>nomatch z) h
 | @dT a kvs ea =>
  cases (show u=Value.ref a from rx)
  obtain ⟨_,_,xs,_,o,es,ep,h1,h2,_⟩:=(show ObjOk X.prog X.w H s.heap a (.dT kvs) from I.hok a _ ea)
  exact a0C a2k I.kIn ⟨o,h1,h2.1⟩ e (fun z=>nomatch z) h
 | @ins a C dx fs ea cl ha hn htk hm =>
  cases (show u=Value.ref a from rx)
  obtain ⟨mA,O,_⟩:=qw I.hok ea
  obtain ⟨od,J,_⟩:=O.look
  exact a0C (PySem.W.kitx_own (cl.get _) cl.hd ha hn htk hm) I.kIn J e (fun z=>nomatch z) h
end
end L2
namespace L2
open PySem PySem.Spec PyProof.Rows
structure Room (k:Nat)(A:Around):Prop where
 hd:A.handled=none
 dp:A.depth+3 * k+5 < recursionLimit
 un:A.units+16 * k+200 < cLine
 gu:A.guards=some []
theorem Room.deeper {k:Nat}{A:Around}(r:Room (k+1) A)(env:Env):Room k (A.deeper env) :=
 ⟨r.hd,by have:=r.dp; show A.depth+1+3 * k+5 < _; omega,by have:=r.un; show A.units+3+16 * k+200 < _; omega,r.gu⟩
theorem Room.depth {k:Nat}{A:Around}(r:Room k A):A.depth < recursionLimit:=by have:=r.dp; omega
theorem Room.units {k:Nat}{A:Around}(r:Room k A):A.units+64 < cLine:=by have:=r.un; omega
noncomputable def sJ:TA:=fun _ H Q=>Q [] H
noncomputable def i6 (ta:TE)(tr:TA):TA:=fun σ H Q=>ta σ H fun x H1=>tr σ H1 fun xs H2=>Q (x::xs) H2
section
variable {X:Cx}{e:Expr}{es:List Expr}{te:TE}{t:TA}{pos:Pos}
theorem dB:PA X [] sJ:=fun _ _ _ _ H Q I h=>Calls.spliced_nil ⟨[],H,I,.nil,h⟩
theorem a9 (ha:PE X e te)(hr:PA X es t)(hs:starEach (e::es) X.env=(false,eval e X.env)::starEach es X.env:=by rfl):PA X (e::es) (i6 te t):=by
 intro pos pins s σ H Q I h
 rw [hs]
 show wpAny _ _ (spliced ((false,eval e X.env)::backTo pos (starEach es X.env))) _ _ s
 refine Calls.spliced_cons (thn (ha pins s σ H _ I h) fun u s1 ⟨x,H1,I1,r1,q1⟩=>?_)
 exact thn (hr pos pins s1 σ H1 _ I1 q1) fun us s2 ⟨xs,H2,I2,r2,q2⟩=>⟨x::xs,H2,I2,.cons r1 r2,q2⟩
noncomputable def x8 (t:TA):TE:=fun σ H Q=>t σ H fun xs H1=>xs.length<=sizeLine/\∀ p,H1 p=none->Q (.ref p) (upd H1 p (.tup xs))
noncomputable def wR (t:TA):TE:=fun σ H Q=>t σ H fun xs H1=>xs.length<=sizeLine/\∀ p,H1 p=none->Q (.ref p) (upd H1 p (.lst xs))
theorem m9 {x1}(h:PA X es t):PE X (.Tuple es x1 pos) (x8 t):=by
 intro pins s σ H Q I hq
 refine wpAny_Tuple_spliced (thn (h pos pins s σ H _ I hq) fun us s1 ⟨xs,H1,I1,r,z,q⟩=>⟨by rw [<- r.length]; exact z,?_⟩)
 have hf:H1 s1.heap.objs.size=none:=I1.hok.fresh (a0b _)
 refine ⟨.ref s1.heap.objs.size,upd H1 s1.heap.objs.size (.tup xs),I1.laid (t':=s1.toks) (fun b u e=>Heap.get?_push_of_some _ e) (a0b _) ?_,rfl,q _ hf⟩
 exact ⟨z,us,r,⟨_,Heap.get?_push_size _ rfl,rfl,_,rfl⟩⟩
theorem vK (h:PA X es t):PE X (.List es pos) (wR t):=by
 intro pins s σ H Q I hq
 refine wpAny_List_spliced (thn (h pos pins s σ H _ I hq) fun us s1 ⟨xs,H1,I1,r,z,q⟩=>⟨by rw [<- r.length]; exact z,?_⟩)
 have hf:H1 s1.heap.objs.size=none:=I1.hok.fresh (a0b _)
 refine ⟨.ref s1.heap.objs.size,upd H1 s1.heap.objs.size (.lst xs),I1.laid (t':=s1.toks) (fun b u e=>Heap.get?_push_of_some _ e) (a0b _) ?_,rfl,q _ hf⟩
 exact ⟨z,us,0,r,Heap.get?_push_size _ rfl⟩
end
noncomputable abbrev Sp:=List V->Hp->VK->XK->Prop
noncomputable abbrev CXT:=List Env->Hp->Shared->XK->Value->Shared->Prop
structure oP (P:Program)(w:World)(K:a0a)(mg:Str->Option Value)(base:Heap)(A:Around)(outer:List Env)(s:Shared)(H:Hp):Prop where
 frames:A.frames=some outer
 mod:Mod K mg base
 bs:∀ b o,base.get? b=some o->s.heap.get? b=some o/\H b=none
 bsz:base.objs.size<=s.heap.objs.size
 funs:s.heap.FunFrames base outer
 frf:∀ b∈frs outer,H b=none
 hok:HOk P w H s.heap
 bare:AllBare s.gens
noncomputable def CE (outer:List Env)(P:Program)(w:World)(H:Hp)(s:Shared)(Q:VK)(u:Value)(s':Shared):Prop :=
 ∃ v H',s'.os=s.os/\AllBare s'.gens/\Un (frs outer) [] H H' s.heap s'.heap/\HOk P w H' s'.heap/\RelV v u/\Q v H'
noncomputable def CR (CX:CXT)(outer:List Env)(P:Program)(w:World)(H:Hp)(s:Shared)(Q:VK)(E:XK)(r:Result)(s':Shared):Prop :=
 match r with
 | .ok (.ret u)=>CE outer P w H s Q u s'
 | .ok _=>False
 | .error e=>CX outer H s E e s'
structure bI (P:Program)(w:World)(K:a0a)(mg:Str->Option Value)(base:Heap)(CX:CXT)(k:Nat)(f:Addr)(fd:FuncData)(ps:List Str)(sp:Sp):Prop where
 len:∀ vs H Q E,sp vs H Q E->vs.length=ps.length
 run:∀ (A:Around) (outer:List Env) (s:Shared) (H:Hp) (args:Args) (us:List Value) (vs:List V) (Q:VK) (E:XK),Room k A->oP P w K mg base A outer s H->BindsTo s fd args (ps.zip us)->Vals vs us->sp vs H Q E ->
  codeAny (model P w) A (.call (.ref f) args) (CR CX outer P w H s Q E) s
section
variable {X:Cx}{pins:List (Addr×Obj)}{σ:St}{H:Hp}{s s':Shared}
theorem Inv.env0 (I:Inv X pins σ H s):oP X.prog X.w X.K X.mg X.base X.A X.stack s H :=
 ⟨I.ok.frames,I.ok.mod,I.bs,a0j I.ok.bsz I.sz,I.stack,I.stkFree,I.hok,I.bare⟩
theorem Inv.after {Q:VK}{u:Value}(I:Inv X pins σ H s)(h:CE X.stack X.prog X.w H s Q u s'):EP X pins σ Q u s':=by
 obtain ⟨v,H',os,bare,un,hok,r,q⟩:=h
 obtain ⟨hh,g,d,t,os'⟩:=s'
 obtain rfl:os'=s.os:=os
 exact ⟨v,H',I.call (h':=hh) (g':=g) (d':=d) (t':=t) (ch:=[]) un hok bare (fun b z=>absurd z (by simp)),r,q⟩
end
noncomputable def yg (sp:Sp)(dvs:List V)(E:XK)(t:TA):TE:=fun σ H Q=>t σ H fun vs H1=>sp (vs++dvs) H1 Q E
noncomputable def Binds (K:a0a)(fd:FuncData)(ps:List Str)(ds:List Value):Prop :=
 ∀ (s:Shared) (us:List Value),K.In s.heap->(us++ds).length=ps.length->BindsTo s fd ⟨us,[]⟩ (ps.zip (us++ds))
theorem Binds.all {K:a0a}{fd:FuncData}{ps:List Str}(h:∀ us:List Value,us.length=ps.length->bindArgs fd ⟨us,[]⟩=pure (ps.zip us)):Binds K fd ps []:=fun s us _ hl=>by
 rw [a0L] at hl ⊢
 exact .of_eq (h us hl)
noncomputable def iE (CX:CXT)(X:Cx)(E:XK):Prop:=∀ (pins:List (Addr×Obj)) (σ:St) (H:Hp) (s:Shared) (e:Value) (s':Shared),Inv X pins σ H s->CX X.stack H s E e s'->X.xe e s'
section
variable {X:Cx}{CX:CXT}{k:Nat}{f C:Addr}{fd:FuncData}{ps:List Str}{sp:Sp}{dvs:List V}{ds:List Value}{E:XK}{x m:Str}{p pos apos:Pos}{e o:Expr}{es:List Expr}{ta:TE}{t:TA}
theorem tV {pins:List (Addr×Obj)}{σ:St}{H:Hp}{s:Shared}{Q:VK}{us:List Value}{vs:List V}(F:bI X.prog X.w X.K X.mg X.base CX k f fd ps sp)(hr:Room k X.A)(hb:Binds X.K fd ps ds)(hd:Vals dvs ds)(hx:iE CX X E)
  (I:Inv X pins σ H s) (r:Vals vs us) (h:sp (vs++dvs) H Q E):wpAny (model X.prog X.w) X.A (call (.ref f) us) (EP X pins σ Q) X.xe s:=by
 have r2:Vals (vs++dvs) (us++ds):=r.append hd
 have hl:(us++ds).length=ps.length:=by rw [<- r2.length]; exact F.len _ _ _ _ h
 refine wpAny_call (codeAny_mono (F.run X.A X.stack s H ⟨us,[]⟩ (us++ds) (vs++dvs) Q E hr I.env0 (hb s us I.kIn hl) r2 h) fun r s' hq=>?_)
 cases r with
 | error e=>exact hx pins σ H s e s' I hq
 | ok fl =>
  cases fl with
  | ret u=>exact I.after hq
  | next=>exact a07 hq
  | brk=>exact a07 hq
  | cont=>exact a07 hq
theorem jC (F:bI X.prog X.w X.K X.mg X.base CX k f fd ps sp)(hr:Room k X.A)(hg:Gl X x)(hm:X.mg x=some (.ref f))(hk:a00 X.K (.ref f)=true)(hb:Binds X.K fd ps ds)(hd:Vals dvs ds)(hx:iE CX X E)
  (ha:PA X (e::es) t) (hdb:(x==("__debug__":Str))=false:=by decide) (he:starEach (e::es) X.env=(false,eval e X.env)::starEach es X.env:=by rfl) (hpl:(backTo pos (starEach es X.env)).any (·.1)=false:=by rfl) :
  PE X (.Call (.Name x p) (e::es) [] pos) (yg sp dvs E t):=by
 intro pins s σ H Q I h
 refine wpAny_Call_Name_kw (jF I hg hm ?_ hdb)
 refine PySem.W.callWith_K (h₀:=X.base) I.ok.mod.kin hk (thn (ha pos pins s σ H _ I h) fun us s1 ⟨vs,H1,I1,r,q⟩=>⟨I1.kIn,?_⟩) he hpl
 exact tV F hr hb hd hx I1 r q
end
structure ao (N P:List Str)(sc:Scope):Prop where
 kind:sc.kind=.function
 co:sc.isCoroutine=false
 gen:sc.isGenerator=false
 nd:N.Nodup
 pre:N.take P.length=P
 par:∀ x∈P,sc.names.lookup x=some .local\/sc.names.lookup x=some .cell
 nofree:∀ y∈sc.names,y.2≠.free
theorem fw {kindOf:Str->Option NameKind}{x:Str}:∀ {binds:List (Str×Value)} {m:Str->Option Value},(∀ v,(x,v) ∉ binds)->bindL kindOf binds m x=m x
 | [],_,_=>rfl
 | (n,v)::r,m,h=>by
  unfold bindL
  rw [fw fun w hw=>h w (a0c _ hw)]
  split
  ·have:x≠n:=by rintro rfl; exact h v a0g
   simp [this]
  ·rfl
theorem eT {kindOf:Str->Option NameKind}{x:Str}:∀ {binds:List (Str×Value)} {m:Str->Option Value},(∀ v,(x,v) ∉ binds)->bindC kindOf binds m x=m x
 | [],_,_=>rfl
 | (n,v)::r,m,h=>by
  unfold bindC
  rw [eT fun w hw=>h w (a0c _ hw)]
  split
  ·rfl
  ·have:x≠n:=by rintro rfl; exact h v a0g
   simp [this]
theorem fg {kindOf:Str->Option NameKind}{x:Str}{v:Value}:∀ {P:List Str} {vs:List Value} {i:Nat} {m:Str->Option Value},P.Nodup->P[i]?=some x->vs[i]?=some v->kindOf x=some .local ->
  bindL kindOf (P.zip vs) m x=some v
 | [],_,_,_,_,h,_,_=>by simp at h
 | _::_,[],_,_,_,_,h,_=>by simp at h
 | p::P,w::vs,0,m,nd,h1,h2,hk=>by
  simp at h1 h2; subst h1; subst h2
  show bindL kindOf ((p,w)::P.zip vs) m p=_
  unfold bindL
  rw [fw fun v hv=>(a04.mp nd).1 (a1S hv).1,if_pos hk]
  simp
 | p::P,w::vs,i+1,m,nd,h1,h2,hk=>by
  show bindL kindOf ((p,w)::P.zip vs) m x=_
  unfold bindL
  exact fg (i:=i) (a04.mp nd).2 (by simpa using h1) (by simpa using h2) hk
theorem fo {kindOf:Str->Option NameKind}{x:Str}{v:Value}:∀ {P:List Str} {vs:List Value} {i:Nat} {m:Str->Option Value},P.Nodup->P[i]?=some x->vs[i]?=some v->kindOf x≠some .local ->
  bindC kindOf (P.zip vs) m x=some v
 | [],_,_,_,_,h,_,_=>by simp at h
 | _::_,[],_,_,_,_,h,_=>by simp at h
 | p::P,w::vs,0,m,nd,h1,h2,hk=>by
  simp at h1 h2; subst h1; subst h2
  show bindC kindOf ((p,w)::P.zip vs) m p=_
  unfold bindC
  rw [eT fun v hv=>(a04.mp nd).1 (a1S hv).1,if_neg hk]
  simp
 | p::P,w::vs,i+1,m,nd,h1,h2,hk=>by
  show bindC kindOf ((p,w)::P.zip vs) m x=_
  unfold bindC
  exact fo (i:=i) (a04.mp nd).2 (by simpa using h1) (by simpa using h2) hk
noncomputable def start (N:List Str)(vs:List V):St:=vs.map some++a0f (N.length-vs.length) none
noncomputable def dk (CX:CXT)(P:Program)(w:World)(K:a0a)(mg:Str->Option Value)(base:Heap)(N:List Str)(qual:Str)(scope:Scope)(f:Addr)(cd:Value)(A:Around)(outer:List Env)(s:Shared)(H:Hp)(E:XK):Cx where
 prog:=P
 w:=w
 K:=K
 mg:=mg
 base:=base
 A:=A.deeper (envOfC qual scope s.heap.objs.size f cd)
 N:=N
 s₀:=s
 H₀:=H
 env:=envOfC qual scope s.heap.objs.size f cd
 outer:=outer
 stack:=envOfC qual scope s.heap.objs.size f cd::outer
 ex:=[]
 calm:=true
 fn:=fun _=>true
 pn:=[]
 xe:=fun e s'=>wpAny (model P w) (A.deeper (envOfC qual scope s.heap.objs.size f cd)) (leaving (envOfC qual scope s.heap.objs.size f cd) e) (fun _ s''=>CX outer H s E e s'') (fun e' s''=>CX outer H s E e' s'') s'
theorem il {sc:Scope}{n:Nat}{x:Str}(h:sc.names.lookup x=some .cell):∃ c,(cellsFrom n sc.names []).lookup x=some c:=by
 have q:=a1N sc.names n [] (.inl h)
 exact a1g.mp q
theorem kz {CX:CXT}{P:Program}{w:World}{K:a0a}{mg:Str->Option Value}{base:Heap}{N ps:List Str}{qual:Str}{scope:Scope}{f:Addr}{cd:Value}{A:Around}{outer:List Env}{s s1:Shared}{H:Hp}{E:XK}{us:List Value}{vs:List V}
  (S:ao N ps scope) (hd:A.handled=none) (e0:oP P w K mg base A outer s H) (hl:vs.length=ps.length) (r:Vals vs us)
  (x:InCallC s s.heap.objs.size (bindL (envOfC qual scope s.heap.objs.size f cd).kindOf (ps.zip us) fun _=>none) (cellsFrom (s.heap.objs.size+1) scope.names []) (bindC (envOfC qual scope s.heap.objs.size f cd).kindOf (ps.zip us) fun _=>none) s1) :
  Inv (dk CX P w K mg base N qual scope f cd A outer s H E) [] (start N vs) H s1:=by
 have hpl:ps.length<=N.length:=by have:=congrArg a18 S.pre; rw [a1d] at this; omega
 obtain ⟨h1,tk,rfl,hk⟩:=x.done
 have noA:∀ b:Addr,b ∉ (dk CX P w K mg base N qual scope f cd A outer s H E).ex:=fun b z=>absurd (show b∈([]:List Addr) from z) (by simp)
 refine ⟨⟨e0.mod,S.kind,rfl,rfl,a0b _,fun y z c h1 h2=>?_,fun y hy=>?_,fun y c _ h=>?_,fun _=>hd,Around.frames_deeper e0.frames,.inr ⟨rfl,rfl⟩,fun b z=>absurd z (noA b),e0.bs,e0.bsz,fun b _ _=>noA b,fun b z=>absurd z (noA b),e0.funs,e0.frf⟩,
  rfl,e0.bare,Un.kept hk,⟨_,x.toInCall.ns,fun i y v h1 h2 h3=>?_⟩,fun y c h=>⟨_,x.cell y c h⟩,e0.hok.fresh (a0b _),fun y c h=>?_,fun p hp=>absurd (show p∈([]:List (Addr×Obj)) from hp) (by simp),e0.hok.kept hk,?_⟩
 ·exact name_of_addr x.apart (a0Q h1) (a0Q h2)
 ·have hy:scope.names.lookup y=some .cell\/scope.names.lookup y=some .free:=hy
  rcases hy with hy | hy
  ·exact il hy
  ·exact absurd rfl (S.nofree _ (a0Q hy))
 ·exact a1Q (x.above y c (a0Q h))
 ·have hi:i < vs.length:=by
   unfold start at h2
   by_cases hi:i < vs.length
   ·exact hi
   ·rw [a0H (by simpa using hi)] at h2
    rw [a1h] at h2
    split at h2<;>cases h2
  have ha:vs[i]?=some v:=by
   unfold start at h2
   rw [a0D (by simpa using hi),a0t] at h2
   cases e:vs[i]? with
   | none=>rw [e] at h2; cases h2
   | some a=>rw [e] at h2; cases h2; rfl
  obtain ⟨u,hu,rv⟩:=r.get ha
  have hp:ps[i]?=some y:=by
   rw [<- S.pre,List.getElem?_take_of_lt (by omega)]; exact h1
  have ndP:ps.Nodup:=by rw [<- S.pre]; exact S.nd.sublist (List.take_sublist _ _)
  refine ⟨u,rv,?_⟩
  rcases S.par y (a1a hp) with k | k
  ·exact .inl ⟨k,fg ndP hp hu k⟩
  ·obtain ⟨c,e⟩:=il (n:=s.heap.objs.size+1) k
   refine .inr ⟨.inl k,c,e,?_⟩
   have q:=x.cell y c e
   rw [fo ndP hp hu (by show scope.names.lookup y≠_; rw [k]; decide)] at q
   exact q
 ·exact e0.hok.fresh (a1Q (x.above y c (a0Q h)))
 ·unfold start
  show _=N.length
  rw [a0m,a0d,a0G]
  omega
theorem rE {CX:CXT}{P:Program}{w:World}{K:a0a}{mg:Str->Option Value}{base:Heap}{k:Nat}{f:Addr}{name qual:Str}{params:Arguments}{body:List Stmt}{scope:Scope}{dV kV doc pm cdv ct oc:Value}{an od:Option Addr}
  {osl:Array (Option Value)} {N ps:List Str} {sp:Sp} (lk:K.lookup f=some ⟨oc,od,.func (a0I name qual params body scope dV kV doc pm an cdv ct),osl⟩) (hcd:a1c K cdv qual=true) (S:ao N ps scope)
  (len:∀ vs H Q E,sp vs H Q E->vs.length=ps.length)
  (hbody:∀ (A:Around) (outer:List Env) (s:Shared) (H:Hp) (vs:List V) (Q:VK) (E:XK),Room k (A.deeper (envOfC qual scope s.heap.objs.size f cdv))->sp vs H Q E ->
   ∃ t,PSs (dk CX P w K mg base N qual scope f cdv A outer s H E) body t/\t { nx:=fun _ H'=>Q .non H',rt:=Q } (start N vs) H) :
  bI P w K mg base CX (k+1) f (a0I name qual params body scope dV kV doc pm an cdv ct) ps sp:=by
 refine ⟨len,fun A outer s H args us vs Q E hr e0 hb r hsp=>?_⟩
 have hl:=len _ _ _ _ hsp
 have KX:K.In s.heap:=e0.mod.kin.keeps fun b o e=>(e0.bs b o e).1
 have lim:s.heap.NoLimit:=e0.mod.nolimit.keeps fun b o e=>(e0.bs b o e).1
 have hkind:∀ y∈ps.zip us,scope.names.lookup y.1=some .local\/(scope.names.lookup y.1=some .cell/\((cellsFrom (s.heap.objs.size+1) scope.names []).lookup y.1).isSome=true):=fun ⟨n,v⟩ hy=>by
  rcases S.par n (a1S hy).1 with q | q
  ·exact .inl q
  ·exact .inr ⟨q,a1N _ _ _ (.inl q)⟩
 refine codeAny_call_function hr.depth (KX _ _ lk) rfl S.co S.gen rfl (PySem.W.codeRec_of KX hcd) (hb _ _ _ _ ?_)
 refine wpAny_newFunctionEnv_cells S.kind hkind fun env he s1 x=>?_
 subst he
 refine ⟨lim.keeps x.toInCall.keep,codeAny_func ?_⟩
 obtain ⟨t,ht,hq⟩:=hbody A outer s H vs Q E (hr.deeper _) hsp
 have I:Inv (dk CX P w K mg base N qual scope f cdv A outer s H E) [] (start N vs) H s1:=kz S hr.hd e0 hl r x
 refine wpAny_mono (ht [] s1 (start N vs) H _ I hq) (fun fl s' hs=>?_) fun e s' hs=>hs
 have fin:∀ {σ':St} {H':Hp} {v:V} {u:Value},Inv (dk CX P w K mg base N qual scope f cdv A outer s H E) [] σ' H' s'->RelV v u->Q v H'->CE outer P w H s Q u s' :=
  fun {σ' H' v u} J rv q=>⟨v,H',J.os,J.bare,J.base,J.hok,rv,q⟩
 cases fl with
 | ret u =>
  obtain ⟨v,σ',H',J,rv,q⟩:=hs
  exact fin J rv q
 | next =>
  obtain ⟨σ',H',J,q⟩:=hs
  exact fin (v:=V.non) (u:=Value.none) J rfl q
 | brk =>
  obtain ⟨_,_,_,q⟩:=hs
  exact a07 q
 | cont =>
  obtain ⟨_,_,_,q⟩:=hs
  exact a07 q
end L2
namespace L2
open PySem PySem.Spec PyProof.Rows
section
variable {X:Cx}{x:Str}{p pos:Pos}{e:Expr}{es:List Expr}{t:TA}{id T:String}{r:List V->Hp->VK->Prop}
noncomputable def tCB (r:List V->Hp->VK->Prop)(t:TA):TE:=fun σ H Q=>t σ H fun vs H1=>r vs H1 Q
theorem bJ (hc:cI X (.builtin id) r)(hg:Gl X x)(hm:X.mg x=none)(hv:bootBuiltins x=some (.builtin id))(ha:PA X (e::es) t)(hn:x≠"__name__":=by decide)(hdb:(x==("__debug__":Str))=false:=by decide)
  (he:starEach (e::es) X.env=(false,eval e X.env)::starEach es X.env:=by rfl) (hpl:(backTo pos (starEach es X.env)).any (·.1)=false:=by rfl):PE X (.Call (.Name x p) (e::es) [] pos) (tCB r t):=by
 intro pins s σ H Q I h
 refine wpAny_Call_Name_kw (gz I hg hm hv ?_ hn hdb)
 exact a2n (thn (ha pos pins s σ H _ I h) fun us s1 ⟨vs,H1,I1,r1,q1⟩=>hc pins s1 σ H1 vs us Q I1 r1 q1) he hpl
theorem fA (hc:cI X (.type T) r)(hg:Gl X x)(hm:X.mg x=none)(hv:bootBuiltins x=some (.type T))(ha:PA X (e::es) t)(hn:x≠"__name__":=by decide)(hdb:(x==("__debug__":Str))=false:=by decide)
  (he:starEach (e::es) X.env=(false,eval e X.env)::starEach es X.env:=by rfl) (hpl:(backTo pos (starEach es X.env)).any (·.1)=false:=by rfl):PE X (.Call (.Name x p) (e::es) [] pos) (tCB r t):=by
 intro pins s σ H Q I h
 refine wpAny_Call_Name_kw (gz I hg hm hv ?_ hn hdb)
 exact a1t (thn (ha pos pins s σ H _ I h) fun us s1 ⟨vs,H1,I1,r1,q1⟩=>hc pins s1 σ H1 vs us Q I1 r1 q1) he hpl
end
end L2
namespace HT
open PySem PyProof.Rows
section
variable {prog:Program}{w:World}{A:Around}{E:Value->Shared->Prop}{s:Shared}
theorem cat_tup {t b:Addr}{vs ws:List Value}{Q:Value->Shared->Prop}(ht:IsTup s.heap t vs.toArray)(hb:IsTup s.heap b ws.toArray)(hv:vs≠[])
  (h1:ws=[]->Q (.ref t) s) (h2:ws≠[]->Q (.ref s.heap.objs.size) { s with heap:=s.heap.push { cls:=.type "tuple",data:=.seq (vs++ws).toArray } })
  (hsz:vs.length+ws.length<=sizeLine):wpAny (model prog w) A (binaryOp .Add (.ref t) (.ref b)) Q E s:=by
 obtain ⟨⟨cls,dd,data,sl⟩,ho,hc,n,hd⟩:=id ht
 obtain ⟨⟨cls2,dd2,data2,sl2⟩,ho2,hc2,n2,hd2⟩:=id hb
 simp only at hc hd hc2 hd2
 subst hc hd hc2 hd2
 have e:vs.toArray++ws.toArray=(vs++ws).toArray:=by simp
 by_cases hw:ws=[]
 ·exact concat_meets ⟨_,ho,rfl⟩ ⟨_,ho2,rfl⟩ noFill_tuple_add seq_tuple_add a1O a1I (a1G _ _)
   (tuple_addW1 t b vs.toArray ws.toArray n n2 dd dd2 sl sl2 (by simpa using hv) (by simp [hw])) ⟨ho,ho2,h1 hw⟩
 ·refine concat_meets ⟨_,ho,rfl⟩ ⟨_,ho2,rfl⟩ noFill_tuple_add seq_tuple_add a1O a1I (a1G _ _)
   (tuple_addW2 t b vs.toArray ws.toArray n n2 dd dd2 sl sl2 (by simpa using hv) (by simpa using hw) (by rw [a0e,a0e]; exact hsz)) ⟨ho,ho2,?_⟩
  rw [e]
  exact h2 hw
noncomputable def sIx (n d:Nat):Option Int->Nat
 | none=>d
 | some v=>if v < 0 then (v+(n:Int)).toNat else min v.toNat n
theorem tI (n d:Nat)(hd:d<=n)(o:Option Int):sIx n d o<=n:=by
 cases o with
 | none=>exact hd
 | some v =>
  show (if v < 0 then (v+(n:Int)).toNat else min v.toNat n)<=n
  by_cases hv:v < 0
  ·rw [if_pos hv]; omega
  ·rw [if_neg hv]; exact Nat.min_le_right _ _
theorem jK (v:Int)(n d:Nat):(if v < 0 then max (v+(n:Int)) 0 else min v (n:Int))=((sIx n d (some v):Nat):Int):=by
 show (if v < 0 then max (v+(n:Int)) 0 else min v (n:Int))=(((if v < 0 then (v+(n:Int)).toNat else min v.toNat n):Nat):Int)
 by_cases hv:v < 0
 ·simp only [if_pos hv]; omega
 ·simp only [if_neg hv]; omega
theorem i3 (lo hi:Option Int)(n:Nat):Builtin.Slice.sliceAdjust lo hi 1 (n:Int)=(((sIx n 0 lo:Nat):Int),((sIx n n hi:Nat):Int)):=by
 have h1:¬ ((1:Int) < 0):=by omega
 unfold Builtin.Slice.sliceAdjust
 simp only [h1,if_false]
 refine Prod.ext ?_ ?_
 ·cases lo with
  | none=>rfl
  | some v=>exact jK v n 0
 ·cases hi with
  | none=>rfl
  | some v=>exact jK v n n
theorem iN (i j:Nat):Builtin.Slice.slicePlaces (i:Int) (j:Int) 1=j-i:=by
 unfold Builtin.Slice.slicePlaces
 have h1:(1:Int) > 0:=by omega
 simp only [h1,if_true,Int.ediv_one]
 split<;>omega
theorem ej {v:Value}{o:Option Int}{Q:Option Int->Shared->Prop}(p:IsPart v o)(h:Q o s):wpAny (model prog w) A (Builtin.Slice.slicePartIndex v) Q E s:=by
 cases p with
 | none=>exact slicePart_none h
 | int i t=>exact slicePart_int h
theorem sliceApplied_gen {sl:Addr}{vl vu:Value}{lo hi:Option Int}{n:Nat}{Q:Int×Int×Nat->Shared->Prop}(hs:s.heap.IsSliceOf sl vl vu .none)(pl:IsPart vl lo)(pu:IsPart vu hi)
  (h:Q (((sIx n 0 lo:Nat):Int),1,sIx n n hi-sIx n 0 lo) s):wpAny (model prog w) A (Builtin.Slice.sliceApplied (.ref sl) (pure (n:Int))) Q E s:=by
 obtain ⟨os,hos,hcs,hds⟩:=id hs
 unfold Builtin.Slice.sliceApplied Builtin.Slice.sliceFields
 refine wpAny_bind (wpAny_bind (wpAny_field hos hds (x:=vl) rfl (wpAny_bind (wpAny_field hos hds (x:=vu) rfl (wpAny_bind (wpAny_field hos hds (x:=.none) rfl (wpAny_pure ?_)))))))
 refine wpAny_bind (slicePart_none ?_)
 show wpAny _ _ (if ((1:Int)==0)=true then _ else _) _ _ s
 rw [if_neg (by decide)]
 refine wpAny_bind (ej pl (wpAny_bind (ej pu (wpAny_bind (wpAny_pure ?_)))))
 show wpAny _ _ (match Builtin.Slice.sliceAdjust lo hi 1 (n:Int) with | (lo,hi)=>pure (lo,(1:Int),Builtin.Slice.slicePlaces lo hi 1)) _ _ s
 rw [i3 lo hi n]
 show wpAny _ _ (pure (((sIx n 0 lo:Nat):Int),(1:Int),Builtin.Slice.slicePlaces ((sIx n 0 lo:Nat):Int) ((sIx n n hi:Nat):Int) 1)) _ _ s
 rw [iN]
 exact wpAny_pure h
theorem lb (xs:Array Value)(i k:Nat):((a0N k).filterMap fun (m:Nat)=>xs[((i:Int)+(m:Int) * 1).toNat]?).toArray=((xs.toList.drop i).take k).toArray:=by
 have e:(fun (m:Nat)=>xs[((i:Int)+(m:Int) * 1).toNat]?)=fun m=>xs[i+m]?:=by
  funext m
  have:((i:Int)+(m:Int) * 1).toNat=i+m:=by omega
  rw [this]
 rw [e]
 have:=pick_run xs i k
 rw [List.filterMap_map] at this
 have e2:((fun x=>xs[x]?) ∘ fun x=>i+x)=fun m=>xs[i+m]?:=rfl
 rw [e2] at this
 rw [this]
theorem getItem_tuple_cut {t sl:Addr}{items:Array Value}{vl vu:Value}{lo hi:Option Int}{Q:Value->Shared->Prop}(ht:IsTup s.heap t items)(hs:s.heap.IsSliceOf sl vl vu .none)(pl:IsPart vl lo)(pu:IsPart vu hi)
  (hw:¬ (sIx items.size 0 lo=0/\sIx items.size items.size hi=items.size))
  (h:Q (.ref s.heap.objs.size) { s with heap:=s.heap.push { cls:=.type "tuple",data:=.seq ((items.toList.drop (sIx items.size 0 lo)).take (sIx items.size items.size hi-sIx items.size 0 lo)).toArray } })
  (hsz:items.size<=sizeLine):wpAny (model prog w) A (getItem (.ref t) (.ref sl)) Q E s:=by
 have htake:sizeOk (.seq ((items.toList.drop (sIx items.size 0 lo)).take (sIx items.size items.size hi-sIx items.size 0 lo)).toArray):=by
  show ((items.toList.drop (sIx items.size 0 lo)).take (sIx items.size items.size hi-sIx items.size 0 lo)).toArray.size<=sizeLine
  rw [a0e,a1d,a02,a1e]
  omega
 have hj:sIx items.size items.size hi<=items.size:=tI _ _ (a0b _) hi
 obtain ⟨os,hos,hcs,hds⟩:=id hs
 have hTs:s.TypeIs (.ref sl) "slice":=⟨os,hos,hcs⟩
 unfold getItem
 try with_reducible refine wpAny_holding ?_
 first | refine wpAny_bind (wpAny_pure ?_) | skip
 refine wpAny_bind (wpAny_sequenceKey ht.typeIs (by decide) ?_)
 refine wpAny_bind (wpAny_callSpecial?_slot (name:=Str.ofString "__getitem__") ht.typeIs a0A
  (wpAny_call_entry a0A ht.typeIs entry_tuple_getitem ?_ (args_tuple_getitem _ _)))
 show wpAny _ _ (Builtin.Tuple.tupleItemsOf (.ref t) >>= _) _ _ s
 refine wpAny_bind (tupleItemsOf_ ht ?_)
 refine wpAny_bind (wpAny_typeOf hTs ?_)
 rw [if_pos (by decide)]
 refine wpAny_bind (sliceApplied_gen hs pl pu ?_)
 have hno:¬ ((((sIx items.size 0 lo:Nat):Int)==0&&(1:Int)==1&&(sIx items.size items.size hi-sIx items.size 0 lo)==items.size)=true):=by
  intro q
  rw [a0i,a0i] at q
  have q1:((sIx items.size 0 lo:Nat):Int)=0:=eq_of_beq q.1.1
  have q2:sIx items.size items.size hi-sIx items.size 0 lo=items.size:=eq_of_beq q.2
  exact hw ⟨by omega,by omega⟩
 show wpAny _ _ (if (((sIx items.size 0 lo:Nat):Int)==0&&(1:Int)==1&&(sIx items.size items.size hi-sIx items.size 0 lo)==items.size)=true then _ else _) _ _ s
 rw [if_neg hno,lb]
 first
  | exact wpAny_bind (m:=Builtin.Tuple.tupleExact _) (wpAny_newObj_type (wpAny_pure ⟨_,rfl,wpAny_pure h⟩) htake)
  | exact wpAny_bind (m:=Builtin.Tuple.tupleExact _) (wpAny_newObj_type (wpAny_bind (wpAny_pure (wpAny_pure ⟨_,rfl,wpAny_pure h⟩))) htake)
  | exact wpAny_bind (wpAny_bind (m:=Builtin.Tuple.tupleExact _) (wpAny_newObj_type (wpAny_pure (wpAny_pure ⟨_,rfl,wpAny_pure h⟩)) htake))
  | exact wpAny_bind (wpAny_bind (m:=Builtin.Tuple.tupleExact _) (wpAny_newObj_type (wpAny_pure ⟨_,rfl,wpAny_pure h⟩) htake))
end
end HT
namespace L2
open PySem PySem.Spec PyProof.Rows
noncomputable abbrev TO:=St->Hp->(Option Int->Hp->Prop)->Prop
noncomputable def PO (X:Cx)(e:Option Expr)(t:TO):Prop :=
 ∀ (pins:List (Addr×Obj)) (s:Shared) (σ:St) (H:Hp) (Q:Option Int->Hp->Prop),Inv X pins σ H s->t σ H Q ->
  wpAny (model X.prog X.w) X.A (evalPart e X.env) (fun u s'=>∃ o H',Inv X pins σ H' s'/\IsPart u o/\Q o H') X.xe s
noncomputable def o9:TO:=fun _ H Q=>Q none H
noncomputable def x3 (t:TE):TO:=fun σ H Q=>t σ H fun x H1=>∃ i,x=.int i/\Q (some i) H1
section
variable {X:Cx}{e:Expr}{te:TE}{lo hi:Option Expr}{tl th:TO}{pos p2:Pos}
theorem i8:PO X none o9:=by
 intro pins s σ H Q I h
 rw [evalPart_none]
 exact wpAny_pure ⟨none,H,I,.none,h⟩
theorem jk (h:PE X e te):PO X (some e) (x3 te):=by
 intro pins s σ H Q I hw
 rw [evalPart_some]
 refine thn (h pins s σ H _ I hw) fun u s1 ⟨x,H1,I1,r1,q1⟩=>?_
 obtain ⟨i,rfl,q⟩:=q1
 obtain ⟨t,rfl⟩:=r1
 exact ⟨some i,H1,I1,.int i t,q⟩
noncomputable def SlR (X:Cx)(r:V->Option Int->Option Int->Hp->VK->Prop):Prop :=
 ∀ (pins:List (Addr×Obj)) (s:Shared) (σ:St) (H:Hp) (x:V) (v vl vu:Value) (lo hi:Option Int) (sl:Addr) (Q:VK),Inv X pins σ H s->RelV x v->s.heap.IsSliceOf sl vl vu .none->IsPart vl lo->IsPart vu hi->r x lo hi H Q ->
  ∃ T id,typeLookup (.type T) "__getitem__"=pure (some (.builtin id))/\s.TypeIs v T/\wpAny (model X.prog X.w) X.A (getItem v (.ref sl)) (EP X pins σ Q) X.xe s
theorem SlR.or {r r':V->Option Int->Option Int->Hp->VK->Prop}(h:SlR X r)(h':SlR X r'):SlR X (fun x lo hi H Q=>r x lo hi H Q\/r' x lo hi H Q):=by
 intro pins s σ H x v vl vu lo hi sl Q I rx hs pl pu q
 rcases q with q | q
 ·exact h pins s σ H x v vl vu lo hi sl Q I rx hs pl pu q
 ·exact h' pins s σ H x v vl vu lo hi sl Q I rx hs pl pu q
noncomputable def tSl (r:V->Option Int->Option Int->Hp->VK->Prop)(te:TE)(tl th:TO):TE:=fun σ H Q=>te σ H fun x H1=>tl σ H1 fun l H2=>th σ H2 fun u H3=>r x l u H3 Q
theorem gB {r:V->Option Int->Option Int->Hp->VK->Prop}(hr:SlR X r)(he:PE X e te)(hl:PO X lo tl)(hu:PO X hi th):PE X (.Subscript e (.Slice lo hi none p2) pos) (tSl r te tl th):=by
 intro pins s σ H Q I h
 refine Subscript_ (thn (he pins s σ H _ I h) fun v s1 ⟨x,H1,I1,r1,q1⟩=>?_)
 refine wpAny_Slice (thn (hl pins s1 σ H1 _ I1 q1) fun vl s2 ⟨l,H2,I2,pl,q2⟩=>thn (hu pins s2 σ H2 _ I2 q2) fun vu s3 ⟨u,H3,I3,pu,q3⟩=>?_)
 rw [evalPart_none]
 refine wpAny_pure ?_
 have I4:Inv X pins σ H3 { s3 with heap:=s3.heap.push { cls:=.type "slice",data:=.fields #[vl,vu,.none] } }:=I3.kept (t':=s3.toks) fun b ob q=>Heap.get?_push_of_some _ q
 obtain ⟨T,id,hT,ht,hg⟩:=hr pins { s3 with heap:=s3.heap.push { cls:=.type "slice",data:=.fields #[vl,vu,.none] } } σ H3 x v vl vu l u s3.heap.objs.size Q I4 r1 (Heap.IsSliceOf.new ..) pl pu q3
 show wpAny (model X.prog X.w) X.A (subscriptTail e (.Slice lo hi none p2) v (.ref s3.heap.objs.size)) (EP X pins σ Q) X.xe { s3 with heap:=s3.heap.push { cls:=.type "slice",data:=.fields #[vl,vu,.none] } }
 exact tail_any (ops:=[.ref s3.heap.objs.size,v]) ht hT hg (by with_unfolding_all rfl)
noncomputable def de (xs:List V)(lo hi:Option Int):List V:=(xs.drop (HT.sIx xs.length 0 lo)).take (HT.sIx xs.length xs.length hi-HT.sIx xs.length 0 lo)
theorem bD (xs:List V)(lo hi:Option Int):(de xs lo hi).length<=xs.length:=by
 unfold de
 rw [a1d,a02]
 omega
noncomputable def yK (K:a0a):V->Option Int->Option Int->Hp->VK->Prop:=fun x lo hi H Q=>∃ a xs,x=.ref a/\SqT K H a xs /\
 ¬ (HT.sIx xs.length 0 lo=0/\HT.sIx xs.length xs.length hi=xs.length)/\∀ p,H p=none->Q (.ref p) (upd H p (.tup (de xs lo hi)))
theorem uE:SlR X (yK X.K):=by
 intro pins s σ H x v vl vu lo hi sl Q I rx hs pl pu h
 obtain ⟨a,xs,rfl,hx,hw,q⟩:=h
 cases rx
 obtain ⟨its,r,ht,hz⟩:=I.tuple hx
 have hlen:its.toArray.size=xs.length:=by rw [a0e]; exact r.length.symm
 refine ⟨"tuple",_,a0A.lookup,ht.typeIs,?_⟩
 refine HT.getItem_tuple_cut ht hs pl pu (by rw [hlen]; exact hw) ?_ (by rw [hlen]; exact hz)
 rw [hlen]
 refine ⟨.ref s.heap.objs.size,_,I.laid (t':=s.toks) (o:=.tup (de xs lo hi)) (fun b ob q=>Heap.get?_push_of_some _ q) (a0b _) ?_,rfl,q _ (I.hok.fresh (a0b _))⟩
 exact ⟨a0j (bD xs lo hi) hz,_,(r.drop (HT.sIx xs.length 0 lo)).take (HT.sIx xs.length xs.length hi-HT.sIx xs.length 0 lo),IsTup.new _ _⟩
noncomputable def yu (K:a0a):R2:=fun x y H Q=>∃ a b xs ys,x=.ref a/\y=.ref b/\SqT K H a xs/\SqT K H b ys/\xs≠[]/\xs.length+ys.length<=sizeLine /\
 (ys=[]->Q (.ref a) H)/\(ys≠[]->∀ p,H p=none->Q (.ref p) (upd H p (.tup (xs++ys))))
theorem Vals.nil_iff {xs:List V}{us:List Value}(r:Vals xs us):us=[] ↔ xs=[]:=by
 cases r with
 | nil=>simp
 | cons _ _=>simp
theorem qI:OpR X (binaryOp .Add) (yu X.K):=by
 intro pins s σ H x y v u Q I rx ry h
 obtain ⟨a,b,xs,ys,rfl,rfl,ha,hb,hx,hz,q1,q2⟩:=h
 cases rx
 cases ry
 obtain ⟨its,r1,p1,_⟩:=I.tuple ha
 obtain ⟨its2,r2,p2,_⟩:=I.tuple hb
 refine HT.cat_tup p1 p2 (fun z=>hx (r1.nil_iff.mp z)) (fun z=>⟨.ref a,H,I,rfl,q1 (r2.nil_iff.mp z)⟩) (fun z=>?_) (by rw [<- r1.length,<- r2.length]; exact hz)
 refine ⟨.ref s.heap.objs.size,_,I.laid (t':=s.toks) (o:=.tup (xs++ys)) (fun b ob q=>Heap.get?_push_of_some _ q) (a0b _) ?_,rfl,q2 (fun w=>z (r2.nil_iff.mpr w)) _ (I.hok.fresh (a0b _))⟩
 exact ⟨by rw [a0m]; exact hz,_,r1.append r2,IsTup.new _ _⟩
end
end L2
namespace L2
open PySem PySem.Spec PyProof.Rows
noncomputable def ixN (n:Nat)(i:Int):Option Nat:=if 0<=i then (if i < n then some i.toNat else none) else if -(n:Int)<=i then some (i+n).toNat else none
noncomputable def atI {α:Type}(xs:List α)(i:Int):Option α:=(ixN xs.length i).bind fun j=>xs[j]?
theorem jA {n:Nat}{i:Int}{j:Nat}(h:ixN n i=some j):seqIndex? i n=some j/\j < n/\-(n:Int)<=i/\i < n:=by
 unfold ixN at h
 by_cases h0:0<=i
 ·rw [if_pos h0] at h
  by_cases h1:i < n
  ·rw [if_pos h1] at h
   have e:i.toNat=j:=a0p h
   exact ⟨by rw [seqIndex_of h0 h1,e],by omega,by omega,h1⟩
  ·rw [if_neg h1] at h; cases h
 ·rw [if_neg h0] at h
  by_cases h1:-(n:Int)<=i
  ·rw [if_pos h1] at h
   have e:(i+n).toNat=j:=a0p h
   exact ⟨by rw [seqIndex_neg (by omega) h1,e],by omega,h1,by omega⟩
  ·rw [if_neg h1] at h; cases h
theorem fU {α:Type}{xs:List α}{i:Int}{v:α}(h:atI xs i=some v):∃ j,seqIndex? i xs.length=some j/\xs[j]?=some v/\j < xs.length/\-(xs.length:Int)<=i/\i < xs.length:=by
 unfold atI at h
 cases e:ixN xs.length i with
 | none=>rw [e] at h; cases h
 | some j =>
  rw [e] at h
  obtain ⟨h1,h2,h3,h4⟩:=jA e
  exact ⟨j,h1,h,h2,h3,h4⟩
noncomputable def fF (b:Expr):Prop:=∀ o i,subscripted b false o i=operate [o,i] (getItem o i)
noncomputable def IxR (X:Cx)(r:R2):Prop :=
 ∀ (value slice:Expr) (pins:List (Addr×Obj)) (s:Shared) (σ:St) (H:Hp) (x y:V) (v u:Value) (Q:VK),Inv X pins σ H s->RelV x v->RelV y u->r x y H Q ->
  subscripted slice false v u=operate [v,u] (getItem v u)->wpAny (model X.prog X.w) X.A (subscriptTail value slice v u) (EP X pins σ Q) X.xe s
noncomputable def MtR (X:Cx)(id:String)(r:V->List V->Hp->VK->Prop):Prop :=
 ∀ (pins:List (Addr×Obj)) (s:Shared) (σ:St) (H:Hp) (x:V) (xs:List V) (v:Value) (us:List Value) (Q:VK),Inv X pins σ H s->RelV x v->Vals xs us->r x xs H Q ->
  wpAny (model X.prog X.w) X.A (call (.builtin id) (v::us)) (EP X pins σ Q) X.xe s
section
variable {X:Cx}{a b:Expr}{ta tb:TE}{pos:Pos}
theorem IxR.or {r r':R2}(h:IxR X r)(h':IxR X r'):IxR X (fun x y H Q=>r x y H Q\/r' x y H Q):=by
 intro value slice pins s σ H x y v u Q I rx ry q hs
 rcases q with q | q
 ·exact h value slice pins s σ H x y v u Q I rx ry q hs
 ·exact h' value slice pins s σ H x y v u Q I rx ry q hs
theorem rh {r:R2}(hr:IxR X r)(ha:PE X a ta)(hb:PE X b tb)(hs:fF b):PE X (.Subscript a b pos) (tOp r ta tb):=by
 intro pins s σ H Q I h
 exact Subscript_ (vo ha hb I h fun v u s2 x y H2 I2 rx ry q=>hr a b pins s2 σ H2 x y v u Q I2 rx ry q (hs _ _))
noncomputable def zh (K:a0a):R2:=fun x y H Q=>∃ p xs i v,x=.ref p/\y=.int i/\SqL K H p xs/\atI xs i=some v/\Q v H
noncomputable def yV (K:a0a):R2:=fun x y H Q=>∃ p xs i v,x=.ref p/\y=.int i/\SqT K H p xs/\atI xs i=some v/\Q v H
noncomputable def yP:R2:=fun x y H Q=>∃ z i c,x=.str z/\y=.int i/\z.length<=sizeLine/\atI z.cps.toList i=some c/\Q (.str ⟨#[c]⟩) H
theorem qE:IxR X (zh X.K):=by
 intro value slice pins s σ H x y v u Q I rx ry h hs
 obtain ⟨p,xs,i,z,rfl,rfl,hq,he,q⟩:=h
 cases rx
 obtain ⟨t,rfl⟩:=ry
 obtain ⟨its,r,pl,hz⟩:=I.list hq
 obtain ⟨j,h1,h2,h3,h4,h5⟩:=fU he
 obtain ⟨w,ew,rw'⟩:=r.get h2
 have hl:=r.length
 have hn:=dt
 have fin:EP X pins σ Q w s:=⟨z,H,I,rw',q⟩
 by_cases h0:0<=i
 ·have hj:i.toNat=j:=by
   rw [seqIndex_of h0 h5] at h1
   exact a0p h1
  exact item_listR pl.isList h0 (by omega) (by rw [hj]; simpa using ew) fin hs
 ·have hj:(i+(its.toArray.size:Int)).toNat=j:=by
   rw [seqIndex_neg (by omega) h4] at h1
   rw [a0e,<- hl]
   exact a0p h1
  exact subscriptTail_builtinR (x:=w) pl.isList.typeIs slot_list_getitem.lookup
   (wpAny_getItem_list_neg (Q:=fun r s'=>r=w/\EP X pins σ Q r s') pl.isList (by omega) (by rw [a0e]<;>omega) (by omega) (by rw [hj]; simpa using ew) ⟨rfl,fin⟩) hs
theorem uT:IxR X (yV X.K):=by
 intro value slice pins s σ H x y v u Q I rx ry h hs
 obtain ⟨p,xs,i,z,rfl,rfl,hq,he,q⟩:=h
 cases rx
 obtain ⟨t,rfl⟩:=ry
 obtain ⟨its,r,pl,hz⟩:=I.tuple hq
 obtain ⟨j,h1,h2,h3,h4,h5⟩:=fU he
 obtain ⟨w,ew,rw'⟩:=r.get h2
 have hl:=r.length
 have hn:=dt
 have fin:EP X pins σ Q w s:=⟨z,H,I,rw',q⟩
 exact subscriptTail_builtinR (x:=w) pl.typeIs slot_tuple_getitem.lookup
  (getItem_tuple (j:=j) (Q:=fun r s'=>r=w/\EP X pins σ Q r s') pl (by omega) (by omega) (by rw [a0e,<- hl]; exact h1) (by simpa using ew) ⟨rfl,fin⟩) hs
theorem ve:IxR X yP:=by
 intro value slice pins s σ H x y v u Q I rx ry h hs
 obtain ⟨z,i,c,rfl,rfl,hz,he,q⟩:=h
 obtain ⟨t,rfl⟩:=rx
 obtain ⟨t',rfl⟩:=ry
 obtain ⟨j,h1,h2,h3,h4,h5⟩:=fU he
 have hl:z.cps.toList.length=z.length:=by simp [Str.length]
 rw [hl] at h1 h4 h5
 have hn:=dt
 exact tail_any (typeIs_str s z t) slot_str_getitem.lookup (getItem_str (c:=c) (by
  have e1:decide (i < -(2 ^ 63:Int))=false:=decide_eq_false (by omega)
  have e2:decide (i >= 2 ^ 63)=false:=decide_eq_false (by omega)
  rw [e1,e2,Bool.or_false]) (by rw [h1]; simpa using h2) ⟨.str ⟨#[c]⟩,H,I.tok _,⟨_,rfl⟩,q⟩) hs
theorem iU (its:List Value)(n j:Nat)(u:Value):Obj.mapSeq (·.setIfInBounds j u) { cls:=.type "list",data:=.seq its.toArray n }={ cls:=.type "list",data:=.seq (its.set j u).toArray n }:=by
 simp [Obj.mapSeq]
theorem Inv.lst {pins:List (Addr×Obj)}{σ:St}{H:Hp}{s:Shared}{p:Addr}{xs:List V}(I:Inv X pins σ H s)(h:H p=some (.lst xs)) :
  ∃ (its:List Value) (n:Nat),Vals xs its/\s.heap.get? p=some { cls:=.type "list",data:=.seq its.toArray n }/\xs.length<=sizeLine:=by
 obtain ⟨z,its,n,r,e⟩:=I.hok p _ h
 exact ⟨its,n,r,e,z⟩
theorem Inv.lstUpd {pins:List (Addr×Obj)}{σ:St}{H:Hp}{s:Shared}{p:Addr}{xs ys:List V}{its its':List Value}{n n':Nat}{f:Obj->Obj}(I:Inv X pins σ H s)(h:H p=some (.lst xs))
  (ho:s.heap.get? p=some { cls:=.type "list",data:=.seq its.toArray n }) (hf:f { cls:=.type "list",data:=.seq its.toArray n }={ cls:=.type "list",data:=.seq its'.toArray n' }) (r:Vals ys its') (hz:ys.length<=sizeLine) (t:Nat) :
  Inv X pins σ (upd H p (.lst ys)) { s with heap:=s.heap.update p f,toks:=t }:=by
 have e:(s.heap.update p f).get? p=some { cls:=.type "list",data:=.seq its'.toArray n' }:=by
  rw [Heap.get?_update_self f ho (by rw [hf]<;>rfl),hf]
 refine I.write (x:=p) (e:=p) (by rw [h]; trivial) (.inl rfl) (fun b u hb q=>(Heap.get?_update_other _ _ (a17 hb)).trans q) ⟨_,e⟩ ?_
 exact ⟨hz,its',n',r,e⟩
noncomputable def wg:V->V->V->Hp->(Hp->Prop)->Prop:=fun o i v H Q=>∃ p xs k j,o=.ref p/\i=.int k/\H p=some (.lst xs)/\ixN xs.length k=some j/\Q (upd H p (.lst (xs.set j v)))
theorem nH:wm X wg:=by
 intro pins s σ H o i v ov iv u Q I ro ri rv h
 obtain ⟨p,xs,k,j,rfl,rfl,hp,hj,q⟩:=h
 cases ro
 obtain ⟨t,rfl⟩:=ri
 obtain ⟨its,n,r,ho,hz⟩:=I.lst hp
 obtain ⟨h1,h2,h3,h4⟩:=jA hj
 have hl:=r.length
 have hn:=dt
 have I':Inv X pins σ (upd H p (.lst (xs.set j v))) { s with heap:=s.heap.update p (Obj.mapSeq (·.setIfInBounds j u)) } :=
  I.lstUpd hp ho (iU its n j u) (r.set rv j) (by rw [a1u]; exact hz) s.toks
 by_cases h0:0<=k
 ·have hk:k.toNat=j:=by
   rw [seqIndex_of h0 h4] at h1
   exact a0p h1
  exact PySem.W.ki_setAt ho h0 (by omega) (by rw [a0e,<- hl]; exact h4) (by rw [hk]; exact ⟨_,I',q⟩)
 ·have hk:(k+(its.toArray.size:Int)).toNat=j:=by
   rw [seqIndex_neg (by omega) h3] at h1
   rw [a0e,<- hl]
   exact a0p h1
  exact PySem.W.ki_setBack ho (by omega) (by rw [a0e,<- hl]; exact h3) (by omega) (by rw [hk]; exact ⟨_,I',q⟩)
theorem fW (lo hi:Option Int)(n:Nat):(sliceBounds lo hi none n).1=((HT.sIx n 0 lo:Nat):Int)/\(sliceBounds lo hi none n).2.1=((HT.sIx n n hi:Nat):Int)/\(sliceBounds lo hi none n).2.2=1:=by
 refine ⟨?_,?_,rfl⟩
 ·cases lo with
  | none=>simp [sliceBounds,HT.sIx]
  | some i =>
   simp only [sliceBounds,HT.sIx,a2t,show (1:Int) > 0 by decide,if_true]
   by_cases h:i < 0
   ·simp only [h,if_true]<;>omega
   ·simp only [h,if_false]<;>omega
 ·cases hi with
  | none=>simp [sliceBounds,HT.sIx]
  | some i =>
   simp only [sliceBounds,HT.sIx,a2t,show (1:Int) > 0 by decide,if_true]
   by_cases h:i < 0
   ·simp only [h,if_true]<;>omega
   ·simp only [h,if_false]<;>omega
theorem eP (its:List Value)(lo hi:Option Int):slicePick its.toArray lo hi none=((its.drop (HT.sIx its.length 0 lo)).take (HT.sIx its.length its.length hi-HT.sIx its.length 0 lo)).toArray:=by
 obtain ⟨h1,h2,h3⟩:=fW lo hi its.toArray.size
 unfold slicePick
 rw [h1,h2,h3]
 simp only [sliceRange_one,pick_run,a0e]<;>rfl
noncomputable def qD (K:a0a):V->Option Int->Option Int->Hp->VK->Prop:=fun x lo hi H Q=>∃ a xs,x=.ref a/\SqL K H a xs/\∀ p,H p=none->Q (.ref p) (upd H p (.lst (de xs lo hi)))
theorem sl_list:SlR X (qD X.K):=by
 intro pins s σ H x v vl vu lo hi sl Q I rx hs pl pu h
 obtain ⟨a,xs,rfl,hx,q⟩:=h
 cases rx
 obtain ⟨its,r,ht,hz⟩:=I.list hx
 have hlen:=r.length
 refine ⟨"list",_,slot_list_getitem.lookup,ht.isList.typeIs,?_⟩
 refine wpAny_getItem_list_slice ht.isList hs pl pu .none (by simp) ?_ (by rw [a0e]<;>omega)
 rw [eP,<- hlen]
 refine ⟨.ref s.heap.objs.size,_,I.laid (t':=s.toks) (o:=.lst (de xs lo hi)) (fun b ob q=>Heap.get?_push_of_some _ q) (a0b _) ?_,rfl,q _ (I.hok.fresh (a0b _))⟩
 exact ⟨a0j (bD xs lo hi) hz,_,0,(r.drop (HT.sIx xs.length 0 lo)).take (HT.sIx xs.length xs.length hi-HT.sIx xs.length 0 lo),Heap.get?_push_size _ rfl⟩
noncomputable def cH:V->Bool
 | .non=>true
 | .bl _=>true
 | .int _=>true
 | .str _=>true
 | _=>false
noncomputable def eqV:V->V->Bool
 | .non,.non=>true
 | .bl a,.bl b=>a==b
 | .bl a,.int b=>(if a then 1 else 0)==b
 | .int a,.bl b=>a==(if b then 1 else 0)
 | .int a,.int b=>a==b
 | .str a,.str b=>a==b
 | _,_=>false
theorem tP {A:Around}{s:Shared}{y x:V}{u v:Value}(ry:RelV y u)(rx:RelV x v)(fy:cH y=true)(fx:cH x=true):SeqAt.EqAt A s u v (eqV y x):=by
 cases y with
 | non =>
  cases ry
  cases x with
  | non=>cases rx; exact SeqAt.EqAt.same _
  | bl b=>cases rx; exact SeqAt.EqAt.none_bool b
  | int b=>obtain ⟨t,rfl⟩:=rx; exact SeqAt.EqAt.none_int b t
  | str b=>obtain ⟨t,rfl⟩:=rx; exact SeqAt.EqAt.none_str b t
  | _=>exact absurd (show false=true from fx) a0h
 | bl a =>
  cases ry
  cases x with
  | non=>cases rx; exact SeqAt.EqAt.bool_none a
  | bl b=>cases rx; exact SeqAt.EqAt.bool_bool a b
  | int b=>obtain ⟨t,rfl⟩:=rx; exact SeqAt.EqAt.bool_int a b t
  | str b=>obtain ⟨t,rfl⟩:=rx; exact SeqAt.EqAt.bool_str a b t
  | _=>exact absurd (show false=true from fx) a0h
 | int a =>
  obtain ⟨t',rfl⟩:=ry
  cases x with
  | non=>cases rx; exact SeqAt.EqAt.int_none a t'
  | bl b=>cases rx; exact SeqAt.EqAt.int_bool a t' b
  | int b=>obtain ⟨t,rfl⟩:=rx; exact SeqAt.EqAt.int_int a t' b t
  | str b=>obtain ⟨t,rfl⟩:=rx; exact SeqAt.EqAt.int_str a t' b t
  | _=>exact absurd (show false=true from fx) a0h
 | str a =>
  obtain ⟨t',rfl⟩:=ry
  cases x with
  | non=>cases rx; exact SeqAt.EqAt.str_none a t'
  | bl b=>cases rx; exact SeqAt.EqAt.str_bool a t' b
  | int b=>obtain ⟨t,rfl⟩:=rx; exact SeqAt.EqAt.str_int a t' b t
  | str b=>obtain ⟨t,rfl⟩:=rx; exact SeqAt.EqAt.str_str a t' b t
  | _=>exact absurd (show false=true from fx) a0h
 | _=>exact absurd (show false=true from fy) a0h
noncomputable def eqU (x:V)(u:Value):Bool:=match u with
 | .none=>eqV .non x
 | .bool b=>eqV (.bl b) x
 | .int i _=>eqV (.int i) x
 | .str z _=>eqV (.str z) x
 | _=>false
theorem l7 {x y:V}{u:Value}(r:RelV y u)(f:cH y=true):eqU x u=eqV y x:=by
 cases y with
 | non=>cases r; rfl
 | bl b=>cases r; rfl
 | int i=>obtain ⟨t,rfl⟩:=r; rfl
 | str z=>obtain ⟨t,rfl⟩:=r; rfl
 | _=>exact absurd (show false=true from f) a0h
theorem fR {x:V}:∀ {xs:List V} {us:List Value},Vals xs us->xs.all cH=true->us.any (eqU x)=xs.any fun y=>eqV y x
 | _,_,.nil,_=>rfl
 | y::xs,u::us,.cons r t,f=>by
  rw [a1J,a0i] at f
  rw [a2e,a2e,l7 r f.1,fR t f.2]
theorem ei {A:Around}{s:Shared}{x:V}{v:Value}(rx:RelV x v)(fx:cH x=true):∀ {xs:List V} {us:List Value},Vals xs us->xs.all cH=true->∀ u∈us,SeqAt.EqAt A s u v (eqU x u)
 | _,_,.nil,_=>fun u hu=>by cases hu
 | y::xs,u::us,.cons r t,f=>fun u' hu=>by
  rw [a1J,a0i] at f
  rcases a0v.mp hu with rfl | hu
  ·rw [l7 r f.1]; exact tP r rx f.1 fx
  ·exact ei rx fx t f.2 u' hu
noncomputable def inV (x:V)(xs:List V):Bool:=xs.any fun y=>eqV y x
noncomputable def rIn (K:a0a)(neg:Bool):R2:=fun x y H Q=>∃ p xs,y=.ref p/\(SqL K H p xs\/SqT K H p xs)/\cH x=true/\xs.all cH=true/\Q (.bl (if neg then !inV x xs else inV x xs)) H
theorem j2:OpR X (compareOp .In) (rIn X.K false):=by
 intro pins s σ H x y v u Q I rx ry h
 obtain ⟨p,xs,rfl,hq,fx,fs,q⟩:=h
 cases ry
 rcases hq with hq | hq
 ·obtain ⟨its,r,pl,hz⟩:=I.list hq
  refine SeqAt.in_listAt (eqU x) pl.isList (fun w hw=>ei rx fx r fs w (by simpa using hw)) ⟨.bl _,H,I,rfl,?_⟩
  rw [show its.toArray.any (eqU x)=its.any (eqU x) by simp,fR r fs]
  exact q
 ·obtain ⟨its,r,pl,hz⟩:=I.tuple hq
  refine SeqAt.in_tupleAt (eqU x) pl (fun w hw=>ei rx fx r fs w (by simpa using hw)) ⟨.bl _,H,I,rfl,?_⟩
  rw [show its.toArray.any (eqU x)=its.any (eqU x) by simp,fR r fs]
  exact q
theorem fC:cI X (.type "list") (fun xs H Q=>∃ p ys,xs=[.ref p]/\(SqL X.K H p ys\/SqT X.K H p ys)/\∀ l,H l=none->Q (.ref l) (upd H l (.lst ys))):=by
 intro pins s σ H xs us Q I r h
 obtain ⟨p,ys,rfl,hq,q⟩:=h
 obtain ⟨u,rfl,rx⟩:=eX r
 cases rx
 have fin:∀ (its:List Value),Vals ys its->ys.length<=sizeLine->∀ (h':Heap) (c':Nat),(∀ b o',s.heap.get? b=some o'->h'.get? b=some o') ->
   h'.get? s.heap.objs.size=some { cls:=.type "list",dict:=none,data:=.seq its.toArray c',slots:=#[] }->EP X pins σ Q (.ref s.heap.objs.size) { s with heap:=h' }:=fun its r' hz h' c' kp e =>
  ⟨.ref s.heap.objs.size,_,I.laid (t':=s.toks) kp (a0b _) (show ObjOk X.prog X.w _ h' _ (.lst ys) from ⟨hz,its,c',r',e⟩),rfl,q _ (I.hok.fresh (a0b _))⟩
 rcases hq with hq | hq
 ·obtain ⟨its,r',pl,hz⟩:=I.list hq
  have hlen:=r'.length
  obtain ⟨o,ho,hc,n,hd⟩:=pl.isList
  exact call_list_seq p (.inl rfl) ho hc hd (fun h' c' kp e=>fin its r' hz h' c' kp e) (by simp only [a0e]<;>omega)
 ·obtain ⟨its,r',pl,hz⟩:=I.tuple hq
  have hlen:=r'.length
  obtain ⟨o,ho,hc,n,hd⟩:=pl
  exact call_list_seq p (.inr rfl) ho hc hd (fun h' c' kp e=>fin its r' hz h' c' kp e) (by simp only [a0e]<;>omega)
theorem eR:cI X (.type "tuple") (fun xs H Q=>∃ p ys,xs=[.ref p]/\((SqL X.K H p ys/\∀ l,H l=none->Q (.ref l) (upd H l (.tup ys)))\/(SqT X.K H p ys/\Q (.ref p) H))):=by
 intro pins s σ H xs us Q I r h
 obtain ⟨p,ys,rfl,h⟩:=h
 obtain ⟨u,rfl,rx⟩:=eX r
 cases rx
 rcases h with ⟨hq,q⟩ | ⟨hq,q⟩
 ·obtain ⟨its,r',pl,hz⟩:=I.list hq
  have hlen:=r'.length
  refine call_tuple_list pl.isList (fun h' kp=>?_) (by simp only [a0e]<;>omega)
  have I1:Inv X pins σ H { s with heap:=h' }:=I.kept (t':=s.toks) kp
  have I2:Inv X pins σ (upd H h'.objs.size (.tup ys)) { s with heap:=h'.push { cls:=.type "tuple",data:=.seq its.toArray } } :=
   I1.laid (t':=s.toks) (fun b o e=>Heap.get?_push_of_some _ e) (a0b _) (show ObjOk X.prog X.w _ _ _ (.tup ys) from ⟨hz,its,r',IsTup.new _ _⟩)
  exact ⟨.ref h'.objs.size,_,I2,rfl,q _ (I1.hok.fresh (a0b _))⟩
 ·obtain ⟨its,r',pl,hz⟩:=I.tuple hq
  exact call_tuple_same pl ⟨.ref p,H,I,rfl,q⟩
noncomputable def tyV (K:a0a)(T:String)(x:V)(H:Hp):Prop:=match x with
 | .str _=>T="str"
 | .int _=>T="int"
 | .ref p=>(T="list"/\∃ xs,SqL K H p xs)\/(T="tuple"/\∃ o,K.lookup p=some o/\o.cls=.type "tuple"/\o.dict=none) \/
   (T="dict"/\((∃ kvs,H p=some (.dK kvs))\/∃ kvs,H p=some (.dT kvs)))\/(T="set"/\∃ S n,H p=some (.set S n))
 | _=>False
theorem uf {pins:List (Addr×Obj)}{σ:St}{H:Hp}{s:Shared}{T:String}{x:V}{v:Value}(I:Inv X pins σ H s)(r:RelV x v)(ty:tyV X.K T x H) :
  s.TypeIs v T/\∀ a,v=.ref a->∃ ob,s.heap.get? a=some ob/\ob.dict=none:=by
 cases x with
 | str z =>
  obtain ⟨t,rfl⟩:=r
  cases (show T="str" from ty)
  exact ⟨typeIs_str s z t,fun _ e=>nomatch e⟩
 | int i =>
  obtain ⟨t,rfl⟩:=r
  cases (show T="int" from ty)
  exact ⟨typeIs_int s i t,fun _ e=>nomatch e⟩
 | ref p =>
  cases r
  rcases ty with ⟨rfl,xs,hq⟩ | ⟨rfl,o,hk,hc,hd⟩ | ⟨rfl,hk⟩ | ⟨rfl,S,n,hk⟩
  ·obtain ⟨its,_,pl,_⟩:=I.list hq
   refine ⟨pl.isList.typeIs,fun a e=>?_⟩
   cases e
   obtain ⟨o,n,e,c,hd,_⟩:=pl
   exact ⟨o,e,hd⟩
  ·refine ⟨⟨o,I.kIn p o hk,hc⟩,fun a e=>?_⟩
   cases e
   exact ⟨o,I.kIn _ o hk,hd⟩
  ·have z:∃ o,s.heap.get? p=some o/\o.ExactDict:=by
    rcases hk with ⟨kvs,hk⟩ | ⟨kvs,hk⟩
    ·obtain ⟨_,_,_,_,o,_,_,e,ex,_⟩:=I.hok p _ hk
     exact ⟨o,e,ex⟩
    ·obtain ⟨_,_,_,_,o,_,_,e,ex,_⟩:=I.hok p _ hk
     exact ⟨o,e,ex⟩
   obtain ⟨o,e,ex⟩:=z
   refine ⟨⟨o,e,ex.1⟩,fun a e2=>?_⟩
   cases e2
   exact ⟨o,e,ex.2.1⟩
  ·obtain ⟨o,_,_,_,e,ex,_⟩:=I.hok p _ hk
   refine ⟨⟨o,e,ex.1⟩,fun a e2=>?_⟩
   cases e2
   exact ⟨o,e,ex.2.1⟩
 | _=>exact a07 ty
noncomputable def tBM (K:a0a)(T:String)(r:V->List V->Hp->VK->Prop)(to:TE)(t:TA):TE:=fun σ H Q=>to σ H fun x H1=>tyV K T x H1/\t σ H1 fun xs H2=>r x xs H2 Q
variable {o e:Expr}{es:List Expr}{to:TE}{t:TA}{name:Str}{apos cpos:Pos}{T id:String}{r:V->List V->Hp->VK->Prop}
theorem vQ (pa:PlainAttrs T)(slot:Slot T name id)(hty:typeOf (.builtin id)=pure (.type "method_descriptor"))(hm:MtR X id r)(ho:PE X o to)(ha:PA X (e::es) t)
  (hbase:attributeBase o name X.env (eval o X.env)=eval o X.env:=by rfl)
  (hfew:((backTo cpos (starEach (e::es) X.env)).all (fun x=>!x.1)&&(backToKw cpos (keywordEach [] X.env)).all (fun x=>x.1.isSome)
  &&decide ((e::es).length+([]:List Keyword).length+(if ([]:List Keyword).isEmpty then 0 else 1) < 30))=true:=by rfl)
  (hline:(apos.endLine==cpos.line)=true:=by rfl) (hs:starEach (e::es) X.env=(false,eval e X.env)::starEach es X.env:=by rfl) (hplain:(backTo cpos (starEach es X.env)).any (·.1)=false:=by rfl) :
  PE X (.Call (.Attribute o name apos) (e::es) [] cpos) (tBM X.K T r to t):=by
 intro pins s σ H Q I h
 refine wpAny_Call_method_late hbase hfew hline rfl (thn (ho pins s σ H _ I h) fun v s1 ⟨x,H1,I1,r1,ty,q1⟩=>?_)
 obtain ⟨h1,h2⟩:=uf I1 r1 ty
 refine ⟨T,id,pa,slot,hty,h1,h2,?_⟩
 have hA:=ha cpos pins s1 σ H1 _ I1 q1
 rw [hs] at hA ⊢
 refine Calls.callWith_builtin (by show (false || (backTo cpos (starEach es X.env)).any (·.1))=false; rw [hplain]<;>rfl) (Calls.evalArgs_plain ?_)
 exact thn hA fun us s2 ⟨vs,H2,I2,r2,q2⟩=>hm pins s2 σ H2 x vs v us Q I2 r1 r2 q2
end
end L2
namespace L2
open PySem PySem.Spec PyProof.Rows
noncomputable def MtM (X:Cx)(id:String)(r:V->List V->Hp->VK->Prop):Prop :=
 ∀ (pins:List (Addr×Obj)) (s:Shared) (σ:St) (H:Hp) (x:V) (xs:List V) (v:Value) (us:List Value) (Q:VK),Inv X pins σ H s->RelV x v->Vals xs us->r x xs H Q ->
  wpAny (model X.prog X.w) X.A (call (.builtin id) (v::us)) (EP X pins σ Q) X.xe s
theorem Vals.one:∀ {x:V} {us:List Value},Vals [x] us->∃ u,us=[u]/\RelV x u
 | _,_,.cons r .nil=>⟨_,rfl,r⟩
theorem Vals.rep {xs:List V}{us:List Value}(h:Vals xs us):∀ k:Nat,Vals (a0f k xs).flatten (a0f k us).flatten
 | 0=>.nil
 | k+1=>by
  rw [a0J,a0J,a1m,a1m]
  exact Vals.append h (Vals.rep h k)
theorem fj (its:List Value):∀ (k:Nat) (acc:List Value),
  a2G (fun x1 x2=>x1++x2) acc.toArray (a0f k its.toArray)=(acc++(a0f k its).flatten).toArray
 | 0,acc=>by simp
 | k+1,acc=>by
  have e:acc.toArray++its.toArray=(acc++its).toArray:=by simp
  have e2:(acc++its)++(a0f k its).flatten=acc++(a0f (k+1) its).flatten:=by
   rw [a0J,a1m,a0R]
  rw [<- e2,<- fj its k (acc++its),<- e,a0J,List.foldl_cons]
section
variable {X:Cx}{pins:List (Addr×Obj)}{σ:St}{H:Hp}{s:Shared}{l b:Addr}{xs ys zs:List V}
theorem Inv.lset {its its':List Value}{n:Nat}{f:Array Value->Array Value}{t':Nat}(I:Inv X pins σ H s)(hH:H l=some (.lst xs))
  (e:s.heap.get? l=some { cls:=.type "list",data:=.seq its.toArray n }) (hf:f its.toArray=its'.toArray) (hv:Vals ys its') (hz:ys.length<=sizeLine) :
  Inv X pins σ (upd H l (.lst ys)) { s with heap:=s.heap.update l (Obj.mapSeq f),toks:=t' }:=by
 have q:=PySem.IsL.update e f
 rw [hf] at q
 refine I.write (x:=l) (e:=l) (by rw [hH]; exact trivial) (.inl rfl) (fun b' u hb hu=>(Heap.get?_update_other s.heap (Obj.mapSeq f) (a17 hb)).trans hu) ⟨_,q⟩ ?_
 exact ⟨hz,its',_,hv,q⟩
theorem Inv.lnew {its:List Value}{t':Nat}(I:Inv X pins σ H s)(hv:Vals ys its)(hz:ys.length<=sizeLine) :
  Inv X pins σ (upd H s.heap.objs.size (.lst ys)) { s with heap:=s.heap.push { cls:=.type "list",data:=.seq its.toArray },toks:=t' } :=
 I.laid (fun _ _ q=>Heap.get?_push_of_some _ q) (a0b _) ⟨hz,its,0,hv,Heap.get?_push_size _ rfl⟩
theorem Inv.fresh (I:Inv X pins σ H s):H s.heap.objs.size=none:=I.hok.fresh (a0b _)
theorem Inv.lstM (I:Inv X pins σ H s)(hH:H l=some (.lst xs)):xs.length<=sizeLine/\∃ (its:List Value) (n:Nat),Vals xs its/\xs.length=its.length/\s.heap.get? l=some { cls:=.type "list",data:=.seq its.toArray n }:=by
 obtain ⟨z,its,n,r,e⟩:=I.hok l _ hH
 exact ⟨z,its,n,r,r.length,e⟩
theorem iu {n:Nat}(h:n<=sizeLine):Builtin.List.listTooLong n=false:=by
 unfold Builtin.List.listTooLong
 exact decide_eq_false (by omega)
end
section
variable {X:Cx}
noncomputable def oF:V->List V->Hp->VK->Prop:=fun x vs H Q=>∃ l b xs zs,x=.ref l/\vs=[.ref b]/\H l=some (.lst xs)/\H b=some (.lst zs)/\xs.length+zs.length<=sizeLine/\Q .non (upd H l (.lst (xs++zs)))
theorem kC:MtM X "list.extend" oF:=by
 intro pins s σ H x vs v us Q I rx rv h
 obtain ⟨l,b,xs,zs,rfl,rfl,hH,hB,hz,q⟩:=h
 cases rx
 obtain ⟨u,rfl,ru⟩:=rv.one
 cases ru
 obtain ⟨z,its,n,r,hl,e⟩:=I.lstM hH
 obtain ⟨z2,its2,n2,r2,hl2,e2⟩:=I.lstM hB
 have hsz:its.toArray.size+its2.toArray.size<=sizeLine:=by rw [a0e,a0e]; omega
 have hlong:¬ (!its.toArray.isEmpty&&Builtin.List.listTooLong (its.toArray.size+its2.toArray.size))=true:=by
  rw [iu hsz,a2E]
  exact a0h
 refine call_meets F.slot_list_extend ⟨_,e,rfl⟩ F.entry_list_extend (F.args_list_extend_2 _ _)
  (AutoSeq1.list_extend_list_list_0 l its.toArray n b its2.toArray n2 hlong (by rw [a0e]; omega) (by omega)) ⟨e,e2,?_⟩
 refine ⟨.non,_,I.lset (its':=its++its2) hH e (by simp) (r.append r2) ?_,rfl,q⟩
 rw [a0m]
 omega
noncomputable def xm:R2:=fun x y H Q=>∃ l b xs zs,x=.ref l/\y=.ref b/\H l=some (.lst xs)/\H b=some (.lst zs)/\xs.length+zs.length<=sizeLine/\∀ p,H p=none->Q (.ref p) (upd H p (.lst (xs++zs)))
theorem op_cat:OpR X (binaryOp .Add) xm:=by
 intro pins s σ H x y v u Q I rx ry h
 obtain ⟨l,b,xs,zs,rfl,rfl,hH,hB,hz,q⟩:=h
 cases rx
 cases ry
 obtain ⟨z,its,n,r,hl,e⟩:=I.lstM hH
 obtain ⟨z2,its2,n2,r2,hl2,e2⟩:=I.lstM hB
 refine PySem.P.add_list e e2 ?_ (by rw [a0e,a0e]; omega)
 have ea:its.toArray++its2.toArray=(its++its2).toArray:=by simp
 rw [ea]
 exact ⟨.ref _,_,I.lnew (t':=s.toks) (r.append r2) (by rw [a0m]; omega),rfl,q _ I.fresh⟩
noncomputable def x4:R2:=fun x y H Q=>∃ l k xs,x=.ref l/\y=.int k/\H l=some (.lst xs)/\-(2 ^ 63)<=k/\k < 2 ^ 63/\xs.length * k.toNat<=sizeLine /\
 ∀ p,H p=none->Q (.ref p) (upd H p (.lst (a0f k.toNat xs).flatten))
theorem qR {α:Type}(xs:List α)(k:Nat):(a0f k xs).flatten.length=k * xs.length:=by
 induction k with
 | zero=>simp
 | succ k ih=>rw [a0J,a1m,a0m,ih,a1n,a1T]
theorem sR:OpR X (binaryOp .Mult) x4:=by
 intro pins s σ H x y v u Q I rx ry h
 obtain ⟨l,k,xs,rfl,rfl,hH,h1,h2,hz,q⟩:=h
 cases rx
 obtain ⟨t,rfl⟩:=ry
 obtain ⟨z,its,n,r,hl,e⟩:=I.lstM hH
 have hlen:its.toArray.size * k.toNat<=sizeLine:=by rw [a0e,<- hl]; exact hz
 have hcap:¬ its.toArray.size * k.toNat > (2 ^ 63-1) / 8:=by
  have:(sizeLine:Nat)<=(2 ^ 63-1) / 8:=by decide
  omega
 have hfit:¬ (!Builtin.List.listFitsIndex k)=true:=by
  rw [fitsIndex_both h1 h2]
  exact a0h
 have hlong:¬ Builtin.List.listTooLong (its.toArray.size * k.toNat)=true:=by
  rw [iu hlen]
  exact a0h
 have hnew:a2G (fun x1 x2=>x1++x2) #[] (a0f (if its.toArray.isEmpty=true then 0 else k.toNat) its.toArray)=(a0f k.toNat its).flatten.toArray:=by
  have f0:∀ m:Nat,a2G (fun x1 x2=>x1++x2) #[] (a0f m its.toArray)=(a0f m its).flatten.toArray:=fun m=>by
   have:=fj its m []
   rw [a1U] at this
   exact this
  rw [f0]
  cases its with
  | nil=>simp
  | cons a r'=>rw [if_neg (by simp)]
 refine wpAny_binaryOp_repeat_ref (T:="list") (U:="int") (by decide) ⟨_,e,rfl⟩ (fun s'=>typeIs_int s' k t) noFill_list_mul F.fills_int_mul F.slot_int_rmul repeat_list F.slot_int_index.lookup
  (call_meets F.slot_int_rmul (typeIs_int s k t) F.entry_int_rmul (F.args_int_rmul_2 _ _) (int___rmul___int_list k t l its.toArray n)
   ⟨e,rfl,⟨_,e,rfl⟩,call_meets F.slot_list_mul ⟨_,e,rfl⟩ F.entry_list_mul (F.args_list_mul_2 _ _) (AutoListH.list___mul___list_int_3 l its.toArray n k t hfit hcap hlong) ⟨e,?_⟩⟩)
 rw [hnew]
 exact ⟨.ref _,_,I.lnew (t':=s.toks) (r.rep k.toNat) (by rw [qR,a2O]; exact hz),rfl,q _ I.fresh⟩
end
end L2
namespace Att
open PySem PySem.W PySem.Calls PyProof.Rows
theorem dI {P:Params}{h:Heap}:∀ (ns:List Int) (vs:List Value),WellAll P h vs (ns.map WData.int)->IntsAre vs ns:=by
 intro ns
 induction ns with
 | nil =>
  intro vs w
  rw [a1V] at w
  cases w
  exact .nil
 | cons n ns ih =>
  intro vs w
  rw [a0y] at w
  cases w with
  | cons a b =>
   cases a
   exact .cons _ _ (ih _ b)
theorem jT {l:OpenLaw}{n:Nat}(hn:l.most=some n){P:Params}{h:Heap}{args:List WData}{vals:List Value}
  (hpre:l.row.toRowW.claim.pre args=true) (hwl:WellAll P h vals args) :
  ∃ a vs ns,vals=[Value.ref a]/\args=[WData.list (ns.map WData.int)]/\h.get? a=some { cls:=.type "list",data:=.seq vs.toArray }/\IntsAre vs ns/\ns.length<=n:=by
 have hsh:WShape.hasAll [] args [.list .int]=true:=(pre_splitW hpre).1
 have hc:l.pre.holds [] { args:=args }=true:=(pre_splitW hpre).2
 obtain ⟨d,r,rfl,h1,h2⟩:=hasAllW_cons hsh
 obtain rfl:=hasAllW_nil h2
 obtain ⟨xs,rfl,h3⟩:=hasW_list h1
 obtain ⟨ns,rfl⟩:=items_int h3
 have hlen:ns.length<=n:=by
  unfold OpenLaw.pre at hc
  have h4:(WTm.not (.lt (.lit (.int (n:Int))) (.len (.arg 0)))).holds [] { args:=[.list (ns.map .int)] }=true:=by
   have h4:=(holds_andW hc).1
   rw [hn] at h4
   exact h4
  have h5:=condW_of h4 (w_not (w_lt w_lit (w_len_list (w_arg rfl))))
  rw [a0d] at h5
  refine a2u fun q=>?_
  have q':(n:Int) < ((ns.length:Nat):Int):=by omega
  first
   | (rw [decide_eq_true q'] at h5; exact absurd h5 (by decide))
   | (simp at h5; omega)
 cases hwl with
 | cons w1 w2 =>
  cases w2
  cases w1 with
  | list ho hall=>exact ⟨_,_,ns,rfl,rfl,ho,dI ns _ hall,hlen⟩
theorem kx (l:OpenLaw)(args:List WData):l.row.toRowW.claim.post args (.bool true) args=true :=
 postW_of (r:=l.row.toRowW) (X:=(true==true))
  (show WShape.has [] (.bool true) .bool=true by first | rfl | decide | simp [WShape.has,WShape.arms,WShape.armsAll])
  (show (WTm.eq .res (.lit (.bool true))).value [] { args:=args,res:=some (.bool true),after:=args }=some (.bool (true==true)) from w_eq_bool (w_res rfl) w_lit) rfl
theorem attach_call {l:OpenLaw}{n:Nat}{q:Program}{loose:List Str}{XP:(Str->Option Value)->Heap->Prop}{YP:World->Heap->Prop}{d:DefRec}
  (hn:l.most=some n) (hdf:d.params.defaults=[])
  (call:∀ (w:World) (s₀ s₁:Shared) (mg mb:Str->Option Value) (fa:Addr) (o:Obj) (pm cd doc:Value) (a:Addr) (vs:List Value) (ns:List Int),
   Ground q loose [] XP w s₀ mg mb s₁.heap->YP w s₁.heap ->
   s₁.heap.get? fa=some o->o.data=.func (docDef d.name d.params d.body d.scope pm cd doc)->s₁.heap.CodeRec cd d.name->mg d.name=some (.ref fa) ->
   s₁.heap.get? a=some { cls:=.type "list",data:=.seq vs.toArray }->IntsAre vs ns->ns.length<=n->s₁.gens=#[] ->
   codeAny (model l.prog w) callerA (.call (.ref fa) ⟨[.ref a],[]⟩) (fun r s'=>r=.ok (.ret (.bool true))/\OldK s₁.heap s'.heap/\s'.os=s₁.os/\AllBare s'.gens) s₁) :
  WalkO q loose XP YP l.row.toRowW d [] (fun f vs=>a2H f vs):=by
 intro w s₀ s₁ mg mb G Y fa o pm cd doc dV kV ho hd hcd hD hmg hg args vals as hpre hlay hrd hwl hlo
 obtain rfl:dV=.none:=Dflts.none hD hdf
 obtain rfl:kV=.none:=Dflts.noKw hD
 obtain ⟨a,vs,ns,rfl,rfl,hobj,hints,hlen⟩:=jT hn hpre hwl
 refine enter_call (codeAny_mono (call w s₀ s₁ mg mb fa o pm cd doc a vs ns G Y ho (fd_plain hd) hcd hmg hobj hints hlen hg) fun r s' hq=>?_)
 obtain ⟨rfl,h2,h3,h4⟩:=hq
 exact ⟨.inl ⟨.bool true,.bool true,[],rfl,fun _=>rfl,.bool true,kx l _,fun _=>⟨a2X,fun _ hm=>(nomatch hm)⟩⟩,h2,h3,h4⟩
end Att
namespace L2
open PySem PySem.Spec PyProof.Rows
theorem cA:∀ {vs:List Value} {ns:List Int},IntsAre vs ns->Vals (ns.map V.int) vs
 | _,_,.nil=>.nil
 | _,_,.cons n t h=>.cons ⟨t,rfl⟩ (cA h)
noncomputable def lY (H:Hp):Prop:=∀ b,H b=none\/∃ o xs,H b=some (.frz o (.lst xs))
theorem kP {P:Program}{w:World}{K:a0a}{mg mb:Str->Option Value}{CX:CXT}{k:Nat}{fa a:Addr}{fd:FuncData}{x:Str}{sp:Sp}{s₁:Shared}{vs:List Value}{ns:List Int}
  (KX:K.In s₁.heap) (hns:s₁.heap.Ns mainGlobals mg) (hb:s₁.heap.Ns builtinsNs mb) (hbb:∀ x:Str,x≠"__name__"->mb x=bootBuiltins x) (hlim:s₁.heap.NoLimit) (hg:s₁.gens=#[])
  (ha:s₁.heap.get? a=some { cls:=.type "list",data:=.seq vs.toArray }) (hi:IntsAre vs ns) (hl:ns.length<=sizeLine) (hr:Room k callerA)
  (F:∀ base:Heap,K.In base->base.Ns mainGlobals mg->bI P w K mg base CX k fa fd [x] sp) (hbind:∀ (s:Shared) (u:Value),BindsTo s fd ⟨[u],[]⟩ [(x,u)])
  (hsp:∀ H:Hp,lY H->SqL K H a (ns.map V.int)->sp [.ref a] H (fun v _=>v=.bl true) fun _ _ _=>False)
  (hCX:∀ H e s',CX [] H s₁ (fun _ _ _=>False) e s'->False) :
  codeAny (model P w) callerA (.call (.ref fa) ⟨[.ref a],[]⟩) (fun r s'=>r=.ok (.ret (.bool true))/\OldK s₁.heap s'.heap/\s'.os=s₁.os/\AllBare s'.gens) s₁:=by
 have rv:=cA hi
 have lenV:=hi.length
 -- from an abstract heap in which nothing but the script may be tracked
 have core:∀ H:Hp,lY H->SqL K H a (ns.map V.int)->HOk P w H s₁.heap->(∀ b,H b≠none->b=a)->(H a≠none->K.lookup a=none) ->
   codeAny (model P w) callerA (.call (.ref fa) ⟨[.ref a],[]⟩) (fun r s'=>r=.ok (.ret (.bool true))/\OldK s₁.heap s'.heap/\s'.os=s₁.os/\AllBare s'.gens) s₁:=by
  intro H hO hS hok hA hK
  have base_of:∀ {b:Addr} {o:Obj},s₁.heap.get? b=some o->H b=none->(f9 s₁.heap H).get? b=some o:=fun e n=>kG e n
  have noA:∀ {b:Addr} {o:Obj} {es:Array DictEntry} {ep:Nat},s₁.heap.get? b=some o->o.data=.dict es ep->H b=none:=fun {b o es ep} e d=>by
   cases q:H b with
   | none=>rfl
   | some u =>
    have e':b=a:=hA b (by rw [q]; simp)
    subst e'
    rw [ha] at e; cases e
    have d':Data.seq vs.toArray _=Data.dict es ep:=d
    cases d'
  have nsK:∀ {b:Addr} {m:Str->Option Value},s₁.heap.Ns b m->(f9 s₁.heap H).Ns b m:=fun {b m} ⟨o,es,ep,e,d,r⟩=>⟨o,es,ep,base_of e (noA e d),d,r⟩
  have hKb:K.In (f9 s₁.heap H):=fun b o e=>base_of (KX b o e) (by
   cases q:H b with
   | none=>rfl
   | some u =>
    have e':b=a:=hA b (by rw [q]; simp)
    subst e'
    rw [hK (by rw [q]; simp)] at e; cases e)
  have hM:Mod K mg (f9 s₁.heap H):=⟨hKb,nsK hns,⟨mb,nsK hb,hbb⟩,let ⟨mc,h1,h2⟩:=hlim; ⟨mc,nsK h1,h2⟩⟩
  have e0:oP P w K mg (f9 s₁.heap H) callerA [] s₁ H:=⟨rfl,hM,fun b o e=>oo e,a2P (j9 _ _),trivial,fun b hb=>absurd (show b∈([]:List Addr) from hb) (by simp),hok,.of_eq hg⟩
  refine codeAny_mono ((F _ hKb (nsK hns)).run callerA [] s₁ H ⟨[.ref a],[]⟩ [.ref a] [.ref a] _ _ hr e0 (hbind s₁ (.ref a)) (.cons rfl .nil) (hsp H hO hS)) fun r s' h=>?_
  cases r with
  | error e=>exact (hCX H e s' h).elim
  | ok fl =>
   cases fl with
   | next=>exact a07 h
   | brk=>exact a07 h
   | cont=>exact a07 h
   | ret u =>
    obtain ⟨v,H',os,bare,un,hok',r',q⟩:=h
    have q':v=.bl true:=q
    subst q'
    obtain rfl:u=Value.bool true:=r'
    refine ⟨rfl,OldK.of_keep fun b o e=>?_,os,bare⟩
    cases q:H b with
    | none=>exact un.keep b o e q (by intro z; exact absurd (show b∈([]:List Addr) from z) (by simp)) (by simp)
    | some u =>
     rcases hO b with z | ⟨ob,xs,z⟩
     ·rw [q] at z; cases z
     ·have z2:=un.frzs b ob _ z
      obtain ⟨e1,_⟩:=hok b _ z
      obtain ⟨e2,_⟩:=hok' b _ z2
      rw [e] at e1; cases e1
      exact e2
 cases hk:K.lookup a with
 | some o =>
  -- the script is one of the module's own objects
  have e:=KX a o hk
  rw [ha] at e
  cases e
  refine core (fun _=>none) (fun _=>.inl rfl) (.inr ⟨_,vs.toArray,_,hk,rfl,rfl,rfl,by rw [a0e,lenV]; exact hl,by simpa using rv⟩) (fun b u z=>by have z':(none:Option HO)=some u:=z; cases z') (fun b z=>absurd rfl z) fun z=>absurd rfl z
 | none =>
  refine core (fun b=>if b=a then some (.frz { cls:=.type "list",data:=.seq vs.toArray } (.lst (ns.map V.int))) else none) (fun b=>?_) (.inl (.inr ⟨{ cls:=.type "list",data:=.seq vs.toArray },if_pos rfl⟩)) (fun b u z=>?_) (fun b z=>?_) fun _=>hk
  ·by_cases hb:b=a
   ·exact .inr ⟨_,_,if_pos hb⟩
   ·exact .inl (if_neg hb)
  ·by_cases hb:b=a
   ·have z':=(if_pos hb).symm.trans z
    cases z'
    subst hb
    exact ⟨ha,by rw [a0d]; exact hl,vs,_,rv,ha⟩
   ·have z':=(if_neg hb).symm.trans z
    cases z'
  ·by_cases hb:b=a
   ·exact hb
   ·exact absurd (if_neg hb) z
end L2
namespace L2
open PySem PySem.Spec PyProof.Rows
theorem walk_of {l:a1W}{n k:Nat}{q:Program}{loose:List Str}{XP:(Str->Option Value)->Heap->Prop}{YP:World->Heap->Prop}{d:DefRec}{K:Params->a0a}{CX:World->CXT}{sp:World->Sp}{x:Str}
  (hn:l.most=some n) (hn2:n<=sizeLine) (hdf:d.params.defaults=[]) (hr:Room k callerA)
  (hY:∀ (w:World) (h:Heap),YP w h->(K w.params).In h)
  (F:∀ (w:World) (mg:Str->Option Value) (fa:Addr) (h:Heap),(K w.params).In h->h.Ns mainGlobals mg->mg d.name=some (.ref fa) ->
   ∃ fd:FuncData,(∀ (s:Shared) (u:Value),BindsTo s fd ⟨[u],[]⟩ [(x,u)]) /\
    ∀ base:Heap,(K w.params).In base->base.Ns mainGlobals mg->bI l.prog w (K w.params) mg base (CX w) k fa fd [x] (sp w))
  (hsp:∀ (w:World) (H:Hp) (a:Addr) (ns:List Int),ns.length<=n->lY H->SqL (K w.params) H a (ns.map V.int)->sp w [.ref a] H (fun v _=>v=.bl true) fun _ _ _=>False)
  (hCX:∀ (w:World) (H:Hp) (s:Shared) (e:Value) (s':Shared),CX w [] H s (fun _ _ _=>False) e s'->False) :
  a2I q loose XP YP l.row.toRowW d [] (fun f vs=>a2H f vs):=by
 refine Att.attach_call hn hdf fun w s₀ s₁ mg mb fa o pm cd doc a vs ns G Y ho hd hcd hmg hobj hints hlen hg=>?_
 have KX:=hY w _ Y
 obtain ⟨fd,hb,hF⟩:=F w mg fa _ KX G.T.g hmg
 exact kP KX G.T.g G.T.b G.T.builtins G.T.nolimit hg hobj hints (a0j hlen hn2) hr hF hb (fun H hO hS=>hsp w H a ns hlen hO hS) fun H e s'=>hCX w H s₁ e s'
end L2
namespace L2
open PySem PySem.Spec PyProof.Rows
noncomputable def defArgs (s:Stmt):Arguments:=match s with
 | .FunctionDef _ a _ _ _ _ _ _ _ _=>a
 | _=>{ posonlyargs:=[],args:=[],vararg:=none,kwonlyargs:=[],kw_defaults:=[],kwarg:=none,defaults:=[] }
noncomputable def defBody (s:Stmt):List Stmt:=match s with
 | .FunctionDef _ _ b _ _ _ _ _ _ _=>b
 | _=>[]
noncomputable def defScope (s:Stmt):Scope:=match s with
 | .FunctionDef _ _ _ _ _ _ sc _ _ _=>sc
 | _=>{ kind:=.function,names:=[],isGenerator:=false,isCoroutine:=false }
noncomputable abbrev CX0:CXT:=fun _ _ _ _ _ _=>False
noncomputable abbrev E0:XK:=fun _ _ _=>False
theorem rk {X:Cx}:iE CX0 X E0:=fun _ _ _ _ _ _ _ h=>h.elim
structure Fun (K:a0a)(x qual:Str)(st:Stmt)(f:Addr)(fd:FuncData):Prop where
 ex:∃ (oc:Value) (od:Option Addr) (kV doc pm:Value) (an:Option Addr) (cdv ct:Value) (osl:Array (Option Value)),
  fd=a0I x qual (defArgs st) (defBody st) (defScope st) .none kV doc pm an cdv ct/\K.lookup f=some ⟨oc,od,.func fd,osl⟩/\a1c K cdv qual=true
 kp:a00 K (.ref f)=true
section
variable {P:Program}{w:World}{K:a0a}{mg:Str->Option Value}{base:Heap}
theorem Fun.ok {x qual:Str}{st:Stmt}{f:Addr}{fd:FuncData}{N ps:List Str}{k:Nat}{sp:Sp}(F:Fun K x qual st f fd)(S:ao N ps (defScope st))(len:∀ vs H Q E,sp vs H Q E->vs.length=ps.length)
  (hbody:∀ (cdv:Value) (A:Around) (outer:List Env) (s:Shared) (H:Hp) (vs:List V) (Q:VK) (E:XK),Room k (A.deeper (envOfC qual (defScope st) s.heap.objs.size f cdv))->sp vs H Q E ->
   ∃ t,PSs (dk CX0 P w K mg base N qual (defScope st) f cdv A outer s H E).nox (defBody st) t/\t { nx:=fun _ H'=>Q .non H',rt:=Q } (start N vs) H):bI P w K mg base CX0 (k+1) f fd ps sp:=by
 obtain ⟨oc,od,kV,doc,pm,an,cdv,ct,osl,rfl,lk,hcd⟩:=F.ex
 refine rE lk hcd S len fun A outer s H vs Q E hr hsp=>?_
 obtain ⟨t,h,q⟩:=hbody cdv A outer s H vs Q E hr hsp
 exact ⟨t,h.nox,q⟩
theorem Fun.binds {x qual:Str}{st:Stmt}{f:Addr}{fd:FuncData}{ps:List Str}(F:Fun K x qual st f fd)
  (h:∀ (kV doc pm:Value) (an:Option Addr) (cdv ct:Value) (us:List Value),us.length=ps.length->bindArgs (a0I x qual (defArgs st) (defBody st) (defScope st) .none kV doc pm an cdv ct) ⟨us,[]⟩=pure (ps.zip us)):Binds K fd ps []:=by
 obtain ⟨oc,od,kV,doc,pm,an,cdv,ct,osl,rfl,lk,hcd⟩:=F.ex
 exact .all (h kV doc pm an cdv ct)
theorem mU {x qual:Str}{st:Stmt}{f:Addr}{oc:Value}{od an:Option Addr}{osl:Array (Option Value)}{kV doc pm cdv ct:Value}(l:K.lookup f=some ⟨oc,od,.func (a0I x qual (defArgs st) (defBody st) (defScope st) .none kV doc pm an cdv ct),osl⟩)
  (c:a1c K cdv qual=true) (k:a00 K (.ref f)=true):Fun K x qual st f (a0I x qual (defArgs st) (defBody st) (defScope st) .none kV doc pm an cdv ct):=⟨⟨oc,od,kV,doc,pm,an,cdv,ct,osl,rfl,l,c⟩,k⟩
end
section
variable {X:Cx}
theorem pv (i:Nat){x:Str}{pos:Pos}(hN:X.N[i]?=some x:=by rfl)(hv:Vis X.env.scope x:=by first | exact a0B rfl | exact a0u (a0B rfl) | exact a0u (a0u rfl))(hd:(x==("__debug__":Str))=false:=by decide)
  (hcd:(x==("__classdict__":Str))=false:=by decide):PE X (.Name x pos) (j7 i):=cf hN hv hd hcd
end
noncomputable def Same (H H':Hp):Prop:=∀ b o,H b=some o->H' b=some o
theorem Same.refl (H:Hp):Same H H:=fun _ _ h=>h
end L2
namespace L2
open PySem PySem.Spec PyProof.Rows
end L2
namespace L2
open PySem PySem.Spec PyProof.Rows
end L2

set_option maxHeartbeats 4000000
namespace L3
open PySem PySem.Spec PyProof.Rows L2
noncomputable abbrev noX:Value->Shared->Prop:=fun _ _=>False
theorem kf {P:Program}{w:World}{H:Hp}{h:Heap}{a:Addr}{o:HO}(x:HOk P w H h)(hn:H a=none)(new:ObjOk P w (upd H a o) h a o):HOk P w (upd H a o) h:=by
 intro b u e
 by_cases hb:b=a
 ·subst hb
  rw [aI] at e
  cases e
  exact new
 ·rw [aj hb] at e
  refine (x b u e).stay (fun c v _ q=>q) (fun c q=>?_) (fun c xs q=>?_)
  ·rw [aj (aQ q hn)]; exact q
  ·rw [aj (aQ q hn)]; exact q
section
variable {prog:Program}{w:World}{A:Around}{R:Result->Shared->Prop}{s:Shared}
theorem i0 {elt tg iter:Expr}{scope:Scope}{pos:Pos}{it acc:Value}{env:Env}(J:Nat->Shared->Prop)
  (turn:∀ n s,J n s->wpAny (model prog w) A (pyNext it) (fun r s₁=>match r with
   | none=>R (.ok .next) s₁
   | some v=>wpAny (model prog w) A (letOwnedTupleGo tg it v) (fun _ s₂=>wpAny (model prog w) A (assign tg env v) (fun _ s₃ =>
     wpAny (model prog w) A (eval elt env) (fun y s₄=>wpAny (model prog w) A (call (.builtin "list.append") [acc,y]) (fun _ s₅=>∃ m,m < n/\J m s₅) noX s₄) noX s₃) noX s₂) noX s₁) noX s)
  (n:Nat) (h:J n s):codeAny (model prog w) A (.compLoop (.ListComp elt [⟨tg,iter,[],0⟩] scope pos) 0 it acc env) R s:=by
 refine codeAny_loop rfl J (fun n s hJ=>?_) n h
 show wpAny _ A ((compTurn (.ListComp elt [⟨tg,iter,[],0⟩] scope pos) 0 it acc env).onRaise (fun x=>do noteFrame x env; theTreesLotGoes x)) _ _ s
 refine wpAny_noted ?_
 rw [compTurn_list]
 refine wpAny_bind (wpAny_standAt (wpAny_bind (wpAny_mono (turn n s hJ) (fun r s₁ h₁=>?_) fun _ _ z=>z.elim)))
 cases r with
 | none=>exact wpAny_pure h₁
 | some v =>
  refine wpAny_bind (wpAny_mono h₁ (fun _ s₂ h₂=>?_) fun _ _ z=>z.elim)
  refine wpAny_bind (wpAny_mono h₂ (fun _ s₃ h₃=>?_) fun _ _ z=>z.elim)
  refine wpAny_bind (wpAny_tests_nil ?_)
  exact wpAny_bind (wpAny_bind (wpAny_mono h₃ (fun y s₄ h₄=>wpAny_bind (wpAny_mono h₄ (fun _ s₅ h₅=>wpAny_pure (wpAny_pure ⟨rfl,h₅⟩)) fun _ _ z=>z.elim)) fun _ _ z=>z.elim))
end
noncomputable def aw (X:Cx)(N:List Str)(scope:Scope)(cl:List (Str×Addr))(C:Addr)(s:Shared)(H:Hp)(fp:List Addr):Cx where
 prog:=X.prog
 w:=X.w
 K:=X.K
 mg:=X.mg
 base:=X.base
 A:=X.A
 N:=N
 s₀:=s
 H₀:=H
 env:=compEnvC scope cl C X.env
 outer:=X.stack
 stack:=X.stack
 ex:=fp
 fn:=fun _=>false
 calm:=X.calm
 pn:=X.pn
 xe:=noX
structure jL (x:Str)(ys:List Str)(scope:Scope):Prop where
 kind:scope.kind=.function
 cell:∀ y∈scope.names,y.2≠.cell
 nm:∀ y∈scope.names,y.2=.local->scope.names.lookup y.1=some .local
 loc:scope.names.lookup x=some .local
 nd:(x::ys).Nodup
inductive Clo (X:Cx):List (Str×Addr)->Prop
 | nil:Clo X []
 | cons {y:Str} {c:Addr} {cl:List (Str×Addr)}:X.env.cells.lookup y=some c->Clo X cl->Clo X ((y,c)::cl)
theorem Clo.get {X:Cx}{cl:List (Str×Addr)}(h:Clo X cl):∀ {y:Str} {c:Addr},cl.lookup y=some c->X.env.cells.lookup y=some c:=by
 induction h with
 | nil=>intro y c e; cases e
 | @cons z d cl' hz _ ih =>
  intro y c e
  cases q:y==z with
  | true =>
   simp only [a1M,q] at e
   cases e
   rw [eq_of_beq q]; exact hz
  | false =>
   simp only [a1M,q] at e
   exact ih e
inductive Frees (X:Cx)(scope:Scope)(cl:List (Str×Addr)):List Str->List Nat->Prop
 | nil:Frees X scope cl [] []
 | cons {y:Str} {ys:List Str} {i:Nat} {is:List Nat} {c:Addr}:X.N[i]?=some y->Vis X.env.scope y->(X.env.kindOf y=some .cell\/X.env.kindOf y=some .free)->X.env.cells.lookup y=some c->cl.lookup y=some c ->
   ((relabel scope X.env).names.lookup y=some .cell\/(relabel scope X.env).names.lookup y=some .free)->Frees X scope cl ys is->Frees X scope cl (y::ys) (i::is)
theorem Frees.len {X:Cx}{scope:Scope}{cl:List (Str×Addr)}{ys:List Str}{is:List Nat}(F:Frees X scope cl ys is):is.length=ys.length:=by
 induction F with
 | nil=>rfl
 | cons _ _ _ _ _ _ _ ih=>rw [a0n,a0n,ih]
noncomputable def bc (σ:L2.St)(is:List Nat):L2.St:=is.map fun i=>(σ[i]?).join
theorem Frees.get {X:Cx}{scope:Scope}{cl:List (Str×Addr)}{ys:List Str}{is:List Nat}{σ:L2.St}(F:Frees X scope cl ys is):∀ {j:Nat} {y:Str} {v:V},ys[j]?=some y->(bc σ is)[j]?=some (some v) ->
  ∃ (i:Nat) (c:Addr),X.N[i]?=some y/\σ[i]?=some (some v)/\Vis X.env.scope y/\(X.env.kindOf y=some .cell\/X.env.kindOf y=some .free)/\X.env.cells.lookup y=some c/\cl.lookup y=some c /\
   ((relabel scope X.env).names.lookup y=some .cell\/(relabel scope X.env).names.lookup y=some .free):=by
 induction F with
 | nil=>intro j y v e; simp at e
 | @cons z zs i is c h1 h2 h3 h4 h5 h6 _ ih =>
  intro j y v e1 e2
  unfold bc at e2
  rw [a0y] at e2
  cases j with
  | zero =>
   rw [a1i] at e1 e2
   cases e1
   cases q:σ[i]? with
   | none=>rw [q] at e2; cases e2
   | some o =>
    rw [q] at e2
    have e3:o=some v:=a0p e2
    subst e3
    exact ⟨i,c,h1,q,h2,h3,h4,h5,h6⟩
  | succ j =>
   rw [a0s] at e1 e2
   exact ih e1 e2
theorem gX {X:Cx}{pins:List (Addr×Obj)}{σ:L2.St}{H:Hp}{s:Shared}{x:Str}{ys:List Str}{is:List Nat}{scope:Scope}{cl:List (Str×Addr)}{fp:List Addr}{C:Addr}{h1:Heap}{t1:Nat}{m1:Str->Option Value}
  (I:Inv X pins σ H s) (hf:∀ b∈fp,gk X pins H b) (hfo:∀ b∈fp,b < s.heap.objs.size) (S:jL x ys scope) (hcl:Clo X cl)
  (hfr:(scope.names.all fun p=>p.2 != .free || (cl.lookup p.1).isSome)=true) (fr:Frees X scope cl ys is)
  (hC:s.heap.objs.size<=C) (old:∀ b o,s.heap.get? b=some o->h1.get? b=some o) (hn:h1.Ns C m1) :
  Inv (aw X (x::ys) scope cl C s H fp) pins (none::bc σ is) H { s with heap:=h1,toks:=t1 }:=by
 have stk:∀ b,b≠X.env.locals->b ∉ X.fs->b ∉ frs X.stack:=fun b q1 q2 hb=>(a0v.mp (I.stkSub b hb)).elim q1 q2
 have key:∀ a k,(relabel scope X.env).names.lookup a=some k->(k=.cell\/k=.free)->∃ c,cl.lookup a=some c:=fun a k e hk=>by
  have hm:=a0Q e
  obtain ⟨⟨n,k0⟩,hp,ep⟩:=a0Z.mp hm
  have hk0:k0=.free/\n=a:=by
   dsimp only at ep
   split at ep
   ·rename_i hc
    simp only [a0i] at hc
    exact ⟨eq_of_beq hc.1.1,(a19 ep).1⟩
   ·obtain ⟨e1,e2⟩:=a19 ep
    subst e2
    rcases hk with z | z
    ·exact absurd z (S.cell _ hp)
    ·exact ⟨z,e1⟩
  obtain ⟨z1,z2⟩:=hk0
  subst z1 z2
  have q:=a0z.mp hfr _ hp
  have q2:(cl.lookup n).isSome=true:=by simpa using q
  exact a1g.mp q2
 refine ⟨⟨I.ok.mod,S.kind,I.ok.glob,I.ok.blt,hC,fun a b c e1 e2=>I.ok.inj a b c (hcl.get e1) (hcl.get e2),fun a ha=>?_,fun a c e=>absurd e a0h,I.ok.hd,I.ok.frames,.inl rfl,
   fun b hb=>⟨a0x (a0l (hfo b hb) hC),fun a c e=>(hf b hb).2.2.2.2.1 a c (hcl.get e)⟩,I.bs,a0j I.ok.bsz I.sz,fun b o e hb=>?_,fun b hb=>stk b (hf b hb).2.1 (hf b hb).2.2.1,I.stack,I.stkFree⟩,
  rfl,I.bare,Un.kept old,⟨m1,hn,fun j y v e1 e2 e3=>?_⟩,fun a c e=>?_,I.hok.fresh hC,fun a c e=>I.freeC a c (hcl.get e),fun p hp=>?_,I.hok.kept old,?_⟩
 ·rcases ha with e | e
  ·exact key a _ e (.inl rfl)
  ·exact key a _ e (.inr rfl)
 ·rcases (hf b hb).2.2.2.1 with z | z
  ·exact I.ok.noex b o e z
  ·exact absurd (a0l (Heap.lt_size (I.ok.bs b o e).1) z) (a0Y _)
 ·cases j with
  | zero =>
   have z:(none:Option V)=some v:=a0p e2
   cases z
  | succ j =>
   obtain ⟨i,c,g1,g2,g3,g4,g5,g6,g7⟩:=fr.get (σ:=σ) (show ys[j]?=some y from e1) (show (bc σ is)[j]?=some (some v) from e2)
   obtain ⟨m0,hn0,hl0⟩:=I.loc
   obtain ⟨u,r,l⟩:=hl0 i y v g1 g2 g3
   rcases l with ⟨k,_⟩ | ⟨_,c',e',z⟩
   ·rcases g4 with q | q
    ·rw [k] at q; cases q
    ·rw [k] at q; cases q
   ·rw [g5] at e'
    cases e'
    obtain ⟨o,ho,hd⟩:=z
    exact ⟨u,r,.inr ⟨g7,c,g6,⟨o,old _ _ ho,hd⟩⟩⟩
 ·obtain ⟨v,o,ho,hd⟩:=I.cell a c (hcl.get e)
  exact ⟨v,o,old _ _ ho,hd⟩
 ·obtain ⟨e,n,ne,nf,d⟩:=I.pin p hp
  exact ⟨old _ _ e,n,a0x (a0l (Heap.lt_size e) hC),stk _ ne nf,d⟩
 ·show (none::bc σ is).length=(x::ys).length
  unfold bc
  rw [a0n,a0n,a0d,fr.len]
noncomputable abbrev fI (its:List Value):Obj:={ cls:=.type "list",data:=.seq its.toArray its.length }
theorem kd {X:Cx}(hc:X.calm=true):cI X (.builtin "all") (fun xs H Q=>∃ (a:Addr) (bs:List Bool),xs=[.ref a]/\SqL X.K H a (bs.map V.bl)/\Q (.bl (bs.all id)) H):=by
 intro pins s σ H xs us Q I r h
 obtain ⟨a,bs,rfl,hS,q⟩:=h
 obtain ⟨u,rfl,ru⟩:=eX r
 cases ru
 obtain ⟨its,rv,p,hz⟩:=I.list hS
 have hlen:its.toArray.size=bs.length:=by rw [a0e,<- rv.length,a0d]
 have hlt:a < s.heap.objs.size:=by obtain ⟨o,e,_⟩:=p.isList; exact Heap.lt_size e
 refine call_all_walk (wpAny_pyIter_list p.isList ?_)
 refine ⟨s.heap.objs.size,_,_,_,_,_,fun i=>bs.getD i true,rfl,Walks.list (A:=X.A.in1) (show X.A.in1.handled=none from I.ok.hd hc) s.heap.objs.size a (a0x hlt) its.toArray,⟨⟨_,Heap.get?_push_size _ rfl,rfl,rfl⟩,p.isList.push _⟩,fun i v s' Q' E' hv hQ=>?_,fun h' tk k=>?_⟩
 ·have hv':its[i]?=some v:=by simpa using hv
  have hi:i < its.length:=(a0o.mp hv').1
  have hib:i < bs.length:=by have:=rv.length; rw [a0d] at this; omega
  obtain ⟨w',e1,e2⟩:=rv.get (i:=i) (x:=.bl bs[i]) (by rw [a0t,a0q hib]; rfl)
  rw [hv'] at e1
  cases e1
  cases e2
  refine wpAny_truthy_bool ?_
  have e3:bs.getD i true=bs[i]:=by rw [a0r,a0q hib]; rfl
  rw [<- e3]; exact hQ
 ·have e:(a0N its.toArray.size).all (fun i=>bs.getD i true)=bs.all id:=by
   rw [hlen,Bool.eq_iff_iff,a0z,a0z]
   constructor
   ·intro z b hb
    obtain ⟨i,hi,e⟩:=List.getElem_of_mem hb
    have:=z i (a13.mpr hi)
    rw [a0r,a0q hi] at this
    simpa [e] using this
   ·intro z i hi
    have hi':=a13.mp hi
    rw [a0r,a0q hi']
    exact z _ (a2v hi')
  rw [e]
  exact ⟨.bl (bs.all id),H,I.kept (fun b o eo=>k b o (fun hm=>by
   have:b=s.heap.objs.size:=by simpa using hm
   exact absurd (this ▸ Heap.lt_size eo) (a0Y _)) (Heap.get?_push_of_some _ eo)),rfl,q⟩
inductive Th where
 | non | bl (b:Bool) | int (i:Int) | str (x:Str) | tup (ts:List Th) | lst (ts:List Th)
mutual
noncomputable def Has (K:a0a)(H:Hp):Th->V->Prop
 | .non,v=>v=.non
 | .bl b,v=>v=.bl b
 | .int i,v=>v=.int i
 | .str x,v=>v=.str x
 | .tup ts,v=>∃ a vs,v=.ref a/\SqT K H a vs/\HasL K H ts vs
 | .lst ts,v=>∃ a vs,v=.ref a/\H a=some (.lst vs)/\HasL K H ts vs
noncomputable def HasL (K:a0a)(H:Hp):List Th->List V->Prop
 | [],vs=>vs=[]
 | t::ts,vs=>∃ v r,vs=v::r/\Has K H t v/\HasL K H ts r
end
noncomputable def Th.ty:Th->String
 | .non=>"NoneType" | .bl _=>"bool" | .int _=>"int" | .str _=>"str" | .tup _=>"tuple" | .lst _=>"list"
noncomputable def isI (c:String)(t:Th):Bool:=t.ty==c || (t.ty=="bool"&&c=="int")
theorem kit_type {K:a0a}{A B:String}:a0V K (.type A) (.type B)=a0V [] (.type A) (.type B):=by
 unfold a0V PySem.W.kitCls PySem.W.subIn
 rfl
theorem tv:∀ c∈["tuple","str","bool","int","list"],∀ n∈["NoneType","bool","int","str","tuple","list"],a0V [] (.type n) (.type c)=some (n==c || (n=="bool"&&c=="int")):=by decide +kernel
theorem tH (t:Th):t.ty∈["NoneType","bool","int","str","tuple","list"]:=by cases t<;>simp [Th.ty]
theorem iA {c:String}(hc:c∈["tuple","str","bool","int","list"])(t:Th):a0V [] (.type t.ty) (.type c)=some (isI c t):=tv c hc t.ty (tH t)
theorem hZ {H:Hp}{p:Addr}(h:H p=none)(o:HO):Same H (upd H p o):=fun b u q=>by rw [aj (aQ q h)]; exact q
noncomputable def rg (K:a0a):R2:=fun x y H Q=>∃ a b xs ys,x=.ref a/\y=.ref b/\SqT K H a xs/\SqT K H b ys/\xs≠[]/\xs.length+ys.length<=sizeLine/\∀ v H',Same H H'->(∃ c,v=.ref c/\SqT K H' c (xs++ys))->Q v H'
theorem oz {X:Cx}:OpR X (binaryOp .Add) (rg X.K):=fun pins s σ H x y v u Q I rx ry h=>by
 obtain ⟨a,b,xs,ys,e1,e2,h1,h2,hx,hz,q⟩:=h
 exact qI pins s σ H x y v u Q I rx ry ⟨a,b,xs,ys,e1,e2,h1,h2,hx,hz,fun z=>q _ _ (Same.refl _) ⟨a,rfl,by rw [z,a0L]; exact h1⟩,fun _ p hp=>q _ _ (hZ hp _) ⟨p,rfl,SqT.of aI⟩⟩
theorem kR {X:Cx}{x:Str}{T:String}{pos:Pos}(hg:Gl X x)(hm:X.mg x=none)(hv:bootBuiltins x=some (.type T))(hn:x≠"__name__":=by decide)(hd:(x==("__debug__":Str))=false:=by decide):PE X (.Name x pos) (tC (.ty T)):=pA (v:=.ty T) hg hm hv rfl hn hd
theorem dH (ns:List Int):∀ k,k<=ns.length->preSum (fun i=>ns.getD i 0) k=(ns.take k).sum
 | 0,_=>rfl
 | k+1,h=>by
  have ih:=dH ns k (by omega)
  show preSum (fun i=>ns.getD i 0) k+ns.getD k 0=_
  rw [ih,List.take_succ,List.sum_append,a0r,a0q (show k < ns.length by omega)]
  simp
theorem kq {X:Cx}(hc:X.calm=true):cI X (.builtin "sum") (fun xs H Q=>∃ (a:Addr) (ns:List Int),xs=[.ref a]/\SqL X.K H a (ns.map V.int)/\Q (.int ns.sum) H):=by
 intro pins s σ H xs us Q I r h
 obtain ⟨a,ns,rfl,hS,q⟩:=h
 obtain ⟨u,rfl,ru⟩:=eX r
 cases ru
 obtain ⟨its,rv,p,hz⟩:=I.list hS
 have hlen:its.toArray.size=ns.length:=by rw [a0e,<- rv.length,a0d]
 have hlt:a < s.heap.objs.size:=by obtain ⟨o,e,_⟩:=p.isList; exact Heap.lt_size e
 refine call_sum_walkG (wpAny_pyIter_list p.isList ?_)
 refine ⟨s.heap.objs.size,_,_,_,_,_,fun i=>ns.getD i 0,rfl,Walks.list (A:=X.A.in1) (show X.A.in1.handled=none from I.ok.hd hc) s.heap.objs.size a (a0x hlt) its.toArray,⟨⟨_,Heap.get?_push_size _ rfl,rfl,rfl⟩,p.isList.push _⟩,fun b hb=>?_,fun i v hv=>?_,fun h' tk t' k=>?_⟩
 ·show b < (s.heap.push _).objs.size
  rw [Heap.size_push]
  rcases a0v.mp hb with rfl | hb
  ·exact Nat.lt_succ_self _
  ·rw [a0E.mp hb]; exact Nat.lt_succ_of_lt hlt
 ·have hv':its[i]?=some v:=by simpa using hv
  have hi:i < its.length:=(a0o.mp hv').1
  have hib:i < ns.length:=by have:=rv.length; rw [a0d] at this; omega
  obtain ⟨w',e1,e2⟩:=rv.get (i:=i) (x:=.int ns[i]) (by rw [a0t,a0q hib]; rfl)
  rw [hv'] at e1
  cases e1
  obtain ⟨t,rfl⟩:=e2
  have e3:ns.getD i 0=ns[i]:=by rw [a0r,a0q hib]; rfl
  exact ⟨t,by show Value.int ns[i] t=Value.int (ns.getD i 0) t; rw [e3]⟩
 ·have e:preSum (fun i=>ns.getD i 0) its.toArray.size=ns.sum:=by
   rw [hlen,dH ns _ (a0b _),List.take_length]
  rw [e]
  exact ⟨.int ns.sum,H,I.kept (fun b o eo=>k b o (fun hm=>by
   have:b=s.heap.objs.size:=by simpa using hm
   exact absurd (this ▸ Heap.lt_size eo) (a0Y _)) (Heap.get?_push_of_some _ eo)),⟨t',rfl⟩,q⟩
mutual
noncomputable def toD:Th->PyData
 | .non=>.none
 | .bl b=>.bool b
 | .int i=>.int i
 | .str x=>.str x
 | .tup ts=>.tuple (cX ts)
 | .lst ts=>.list (cX ts)
noncomputable def cX:List Th->List PyData
 | []=>[]
 | t::ts=>toD t::cX ts
end
section
variable {X:Cx}{pins:List (Addr×Obj)}{σ:L2.St}{H:Hp}{s:Shared}
mutual
theorem Has.reads (I:Inv X pins σ H s):∀ {t:Th} {v:V} {u:Value},Has X.K H t v->RelV v u->∃ as,Reads s.heap u (toD t) as
 | .non,_,u,h,r=>by
  obtain rfl:_=V.non:=h
  obtain rfl:u=Value.none:=r
  exact ⟨_,.none⟩
 | .bl b,_,u,h,r=>by
  obtain rfl:_=V.bl b:=h
  obtain rfl:u=Value.bool b:=r
  exact ⟨_,.bool b⟩
 | .int i,_,u,h,r=>by
  obtain rfl:_=V.int i:=h
  obtain ⟨t,rfl⟩:∃ t,u=Value.int i t:=r
  exact ⟨_,.int i t⟩
 | .str x,_,u,h,r=>by
  obtain rfl:_=V.str x:=h
  obtain ⟨t,rfl⟩:∃ t,u=Value.str x t:=r
  exact ⟨_,.str x t⟩
 | .tup ts,_,u,⟨a,vs,e,hS,hL⟩,r=>by
  subst e
  obtain rfl:u=Value.ref a:=r
  obtain ⟨its,rv,⟨o,h1,h2,n,h3⟩,_⟩:=I.tuple hS
  obtain ⟨as,ra⟩:=HasL.reads I hL rv
  exact ⟨_,.tuple h1 h2 h3 (by simpa using ra)⟩
 | .lst ts,_,u,⟨a,vs,e,hS,hL⟩,r=>by
  subst e
  obtain rfl:u=Value.ref a:=r
  obtain ⟨its,rv,⟨o,n,h1,h2,_,h3⟩,_⟩:=I.list (SqL.of hS)
  obtain ⟨as,ra⟩:=HasL.reads I hL rv
  exact ⟨_,.list h1 h2 h3 (by simpa using ra)⟩
theorem HasL.reads (I:Inv X pins σ H s):∀ {ts:List Th} {vs:List V} {us:List Value},HasL X.K H ts vs->Vals vs us->∃ as,ReadsAll s.heap us (cX ts) as
 | [],vs,us,h,r=>by
  obtain rfl:vs=[]:=h
  cases r
  exact ⟨_,.nil⟩
 | t::ts,vs,us,⟨v,w',e,h1,h2⟩,r=>by
  subst e
  cases r with
  | cons r1 r2 =>
   obtain ⟨as,ra⟩:=Has.reads I h1 r1
   obtain ⟨bs,rb⟩:=HasL.reads I h2 r2
   exact ⟨_,.cons ra rb⟩
end
end
noncomputable abbrev f6 (t:Th):Prop:=SeqAt.shaped (toD t)=true
theorem jt {X:Cx}(hu:X.A.units+64 < cLine):OpR X (compareOp .Eq) (fun x y H Q=>∃ t t',Has X.K H t x/\Has X.K H t' y/\f6 t/\f6 t'/\Q (.bl (PyData.eqv (toD t) (toD t'))) H):=by
 intro pins s σ H x y v u Q I rx ry h
 obtain ⟨t,t',h1,h2,o1,o2,q⟩:=h
 obtain ⟨as,ra⟩:=Has.reads I h1 rx
 obtain ⟨bs,rb⟩:=Has.reads I h2 ry
 exact a2Q ra rb o1 o2 hu ⟨.bl _,H,I,rfl,q⟩
theorem qj {X:Cx}(hu:X.A.units+64 < cLine):OpR X (compareOp .NotEq) (fun x y H Q=>∃ t t',Has X.K H t x/\Has X.K H t' y/\f6 t/\f6 t'/\Q (.bl (!PyData.eqv (toD t) (toD t'))) H):=by
 intro pins s σ H x y v u Q I rx ry h
 obtain ⟨t,t',h1,h2,o1,o2,q⟩:=h
 obtain ⟨as,ra⟩:=Has.reads I h1 rx
 obtain ⟨bs,rb⟩:=Has.reads I h2 ry
 exact a2R ra rb o1 o2 hu ⟨.bl _,H,I,rfl,q⟩
section
variable {prog:Program}{w:World}{A:Around}{E:Value->Shared->Prop}{s:Shared}
theorem dj {t sl:Addr}{items:Array Value}{vl vu:Value}{lo hi:Option Int}{Q:Value->Shared->Prop}(ht:IsTup s.heap t items)(hs:s.heap.IsSliceOf sl vl vu .none)(pl:IsPart vl lo)(pu:IsPart vu hi)
  (hw:HT.sIx items.size 0 lo=0/\HT.sIx items.size items.size hi=items.size) (h:Q (.ref t) s):wpAny (model prog w) A (getItem (.ref t) (.ref sl)) Q E s:=by
 obtain ⟨os,hos,hcs,hds⟩:=id hs
 have hTs:s.TypeIs (.ref sl) "slice":=⟨os,hos,hcs⟩
 unfold getItem
 try with_reducible refine wpAny_holding ?_
 first | refine wpAny_bind (wpAny_pure ?_) | skip
 refine wpAny_bind (wpAny_sequenceKey ht.typeIs (by decide) ?_)
 refine wpAny_bind (wpAny_callSpecial?_slot (name:=Str.ofString "__getitem__") ht.typeIs a0A
  (wpAny_call_entry a0A ht.typeIs entry_tuple_getitem ?_ (args_tuple_getitem _ _)))
 show wpAny _ _ (Builtin.Tuple.tupleItemsOf (.ref t) >>= _) _ _ s
 refine wpAny_bind (tupleItemsOf_ ht ?_)
 refine wpAny_bind (wpAny_typeOf hTs ?_)
 rw [if_pos (by decide)]
 refine wpAny_bind (HT.sliceApplied_gen hs pl pu ?_)
 have hyes:(((HT.sIx items.size 0 lo:Nat):Int)==0&&(1:Int)==1&&(HT.sIx items.size items.size hi-HT.sIx items.size 0 lo)==items.size)=true:=by
  rw [hw.1,hw.2]
  simp
 show wpAny _ _ (if (((HT.sIx items.size 0 lo:Nat):Int)==0&&(1:Int)==1&&(HT.sIx items.size items.size hi-HT.sIx items.size 0 lo)==items.size)=true then _ else _) _ _ s
 rw [if_pos hyes]
 unfold Builtin.Tuple.tupleIsExact
 refine wpAny_bind (wpAny_bind (wpAny_typeOf ht.typeIs (wpAny_pure ?_)))
 rw [if_pos (by decide)]
 first
  | exact wpAny_bind (wpAny_rule (wpAny_pure ⟨_,rfl,wpAny_pure h⟩))
  | exact wpAny_bind (wpAny_rule (wpAny_bind (wpAny_pure (wpAny_pure ⟨_,rfl,wpAny_pure h⟩))))
end
section
variable {X:Cx}
noncomputable def oA (K:a0a):V->Option Int->Option Int->Hp->VK->Prop:=fun x lo hi H Q=>∃ a xs,x=.ref a/\SqT K H a xs/\∀ v H',Same H H'->(∃ c,v=.ref c/\SqT K H' c (de xs lo hi))->Q v H'
theorem jm:SlR X (oA X.K):=by
 intro pins s σ H x v vl vu lo hi sl Q I rx hs pl pu h
 obtain ⟨a,xs,rfl,hx,q⟩:=h
 by_cases hw:HT.sIx xs.length 0 lo=0/\HT.sIx xs.length xs.length hi=xs.length
 ·cases rx
  obtain ⟨its,r,ht,hz⟩:=I.tuple hx
  have hlen:its.toArray.size=xs.length:=by rw [a0e]; exact r.length.symm
  refine ⟨"tuple",_,a0A.lookup,ht.typeIs,?_⟩
  refine dj ht hs pl pu (by rw [hlen]; exact hw) ⟨.ref a,H,I,rfl,q _ _ (Same.refl H) ⟨a,rfl,?_⟩⟩
  have e:de xs lo hi=xs:=by
   unfold de
   rw [hw.1,hw.2]
   simp
  rw [e]
  exact hx
 ·exact uE pins s σ H _ v vl vu lo hi sl Q I rx hs pl pu ⟨a,xs,rfl,hx,hw,fun p hp=>q _ _ (hZ hp _) ⟨p,rfl,SqT.of aI⟩⟩
end
noncomputable def yT (K:a0a):R2:=fun x y H Q=>∃ p xs i v,x=.ref p/\y=.int i/\(SqL K H p xs\/SqT K H p xs)/\atI xs i=some v/\Q v H
theorem ix_any {X:Cx}:IxR X (yT X.K):=fun value slice pins s σ H x y v u Q I rx ry h hs=>by
 obtain ⟨p,xs,i,z,e1,e2,hq,ha,q⟩:=h
 rcases hq with hq | hq
 ·exact qE value slice pins s σ H x y v u Q I rx ry ⟨p,xs,i,z,e1,e2,hq,ha,q⟩ hs
 ·exact uT value slice pins s σ H x y v u Q I rx ry ⟨p,xs,i,z,e1,e2,hq,ha,q⟩ hs
end L3

namespace L3
open PySem PySem.Spec PySem.Builtin PySem.Builtin.Str PyProof.Rows L2
end L3

namespace L3
open PySem PySem.Spec PyProof.Rows L2
noncomputable def ItO (h:Heap):Bool->Addr->Addr->Nat->Prop
 | true,it,a,n=>h.IsTupleIter it a n
 | false,it,a,n=>h.IsListIter it a n
end L3
namespace L3
open PySem PySem.Spec PyProof.Rows L2
structure aJ (pre ys:List Str)(scope:Scope):Prop where
 kind:scope.kind=.function
 cell:∀ y∈scope.names,y.2≠.cell
 nm:∀ y∈scope.names,y.2=.local->scope.names.lookup y.1=some .local
 loc:∀ x∈pre,scope.names.lookup x=some .local
 nd:(pre++ys).Nodup
theorem nt {pre:List Str}{τ:L2.St}{j:Nat}{v:V}(e:(a0f pre.length none++τ)[j]?=some (some v)):∃ i,j=pre.length+i/\τ[i]?=some (some v):=by
 by_cases hj:j < pre.length
 ·rw [a0D (by rw [a0G]; exact hj),a1h,if_pos hj] at e
  cases a0p e
 ·refine ⟨j-pre.length,by omega,?_⟩
  rw [a0H (by rw [a0G]; omega),a0G] at e
  exact e
theorem ke {X:Cx}{pins:List (Addr×Obj)}{σ:L2.St}{H:Hp}{s:Shared}{pre ys:List Str}{is:List Nat}{scope:Scope}{cl:List (Str×Addr)}{fp:List Addr}{C:Addr}{h1:Heap}{t1:Nat}{m1:Str->Option Value}
  (I:Inv X pins σ H s) (hf:∀ b∈fp,gk X pins H b) (hfo:∀ b∈fp,b < s.heap.objs.size) (S:aJ pre ys scope) (hcl:Clo X cl)
  (hfr:(scope.names.all fun p=>p.2 != .free || (cl.lookup p.1).isSome)=true) (fr:Frees X scope cl ys is)
  (hC:s.heap.objs.size<=C) (old:∀ b o,s.heap.get? b=some o->h1.get? b=some o) (hn:h1.Ns C m1) :
  Inv (aw X (pre++ys) scope cl C s H fp) pins (a0f pre.length none++bc σ is) H { s with heap:=h1,toks:=t1 }:=by
 have stk:∀ b,b≠X.env.locals->b ∉ X.fs->b ∉ frs X.stack:=fun b q1 q2 hb=>(a0v.mp (I.stkSub b hb)).elim q1 q2
 have key:∀ a k,(relabel scope X.env).names.lookup a=some k->(k=.cell\/k=.free)->∃ c,cl.lookup a=some c:=fun a k e hk=>by
  have hm:=a0Q e
  obtain ⟨⟨n,k0⟩,hp,ep⟩:=a0Z.mp hm
  have hk0:k0=.free/\n=a:=by
   dsimp only at ep
   split at ep
   ·rename_i hc
    simp only [a0i] at hc
    exact ⟨eq_of_beq hc.1.1,(a19 ep).1⟩
   ·obtain ⟨e1,e2⟩:=a19 ep
    subst e2
    rcases hk with z | z
    ·exact absurd z (S.cell _ hp)
    ·exact ⟨z,e1⟩
  obtain ⟨z1,z2⟩:=hk0
  subst z1 z2
  have q:=a0z.mp hfr _ hp
  have q2:(cl.lookup n).isSome=true:=by simpa using q
  exact a1g.mp q2
 refine ⟨⟨I.ok.mod,S.kind,I.ok.glob,I.ok.blt,hC,fun a b c e1 e2=>I.ok.inj a b c (hcl.get e1) (hcl.get e2),fun a ha=>?_,fun a c e=>absurd e a0h,I.ok.hd,I.ok.frames,.inl rfl,
   fun b hb=>⟨a0x (a0l (hfo b hb) hC),fun a c e=>(hf b hb).2.2.2.2.1 a c (hcl.get e)⟩,I.bs,a0j I.ok.bsz I.sz,fun b o e hb=>?_,fun b hb=>stk b (hf b hb).2.1 (hf b hb).2.2.1,I.stack,I.stkFree⟩,
  rfl,I.bare,Un.kept old,⟨m1,hn,fun j y v e1 e2 e3=>?_⟩,fun a c e=>?_,I.hok.fresh hC,fun a c e=>I.freeC a c (hcl.get e),fun p hp=>?_,I.hok.kept old,?_⟩
 ·rcases ha with e | e
  ·exact key a _ e (.inl rfl)
  ·exact key a _ e (.inr rfl)
 ·rcases (hf b hb).2.2.2.1 with z | z
  ·exact I.ok.noex b o e z
  ·exact absurd (a0l (Heap.lt_size (I.ok.bs b o e).1) z) (a0Y _)
 ·obtain ⟨k,rfl,e2'⟩:=nt e2
  have e1':ys[k]?=some y:=by
   have e1'':(pre++ys)[pre.length+k]?=some y:=e1
   rw [a0H (by omega),Nat.add_sub_cancel_left] at e1''
   exact e1''
  obtain ⟨i,c,g1,g2,g3,g4,g5,g6,g7⟩:=fr.get (σ:=σ) e1' e2'
  obtain ⟨m0,hn0,hl0⟩:=I.loc
  obtain ⟨u,r,l⟩:=hl0 i y v g1 g2 g3
  rcases l with ⟨k,_⟩ | ⟨_,c',e',z⟩
  ·rcases g4 with q | q
   ·rw [k] at q; cases q
   ·rw [k] at q; cases q
  ·rw [g5] at e'
   cases e'
   obtain ⟨o,ho,hd⟩:=z
   exact ⟨u,r,.inr ⟨g7,c,g6,⟨o,old _ _ ho,hd⟩⟩⟩
 ·obtain ⟨v,o,ho,hd⟩:=I.cell a c (hcl.get e)
  exact ⟨v,o,old _ _ ho,hd⟩
 ·obtain ⟨e,n,ne,nf,d⟩:=I.pin p hp
  exact ⟨old _ _ e,n,a0x (a0l (Heap.lt_size e) hC),stk _ ne nf,d⟩
 ·show (a0f pre.length none++bc σ is).length=(pre++ys).length
  unfold bc
  rw [a0m,a0m,a0G,a0d,fr.len]
end L3
namespace L3
open PySem PySem.Spec PyProof.Rows L2
end L3
namespace L3
open PySem PySem.Spec PyProof.Rows L2
structure FunD (K:a0a)(x qual:Str)(st:Stmt)(f:Addr)(fd:FuncData)(dV:Value):Prop where
 ex:∃ (oc:Value) (od:Option Addr) (kV doc pm:Value) (an:Option Addr) (cdv ct:Value) (osl:Array (Option Value)),
  fd=a0I x qual (defArgs st) (defBody st) (defScope st) dV kV doc pm an cdv ct/\K.lookup f=some ⟨oc,od,.func fd,osl⟩/\a1c K cdv qual=true
 kp:a00 K (.ref f)=true
section
variable {P:Program}{w:World}{K:a0a}{mg:Str->Option Value}{base:Heap}
theorem FunD.ok {x qual:Str}{st:Stmt}{f:Addr}{fd:FuncData}{dV:Value}{N ps:List Str}{k:Nat}{sp:Sp}(F:FunD K x qual st f fd dV)(S:ao N ps (defScope st))(len:∀ vs H Q E,sp vs H Q E->vs.length=ps.length)
  (hb:∀ (cdv:Value) (A:Around) (outer:List Env) (s:Shared) (H:Hp) (vs:List V) (Q:VK) (E:XK),Room k (A.deeper (envOfC qual (defScope st) s.heap.objs.size f cdv))->sp vs H Q E ->
   ∃ t,PSs (dk CX0 P w K mg base N qual (defScope st) f cdv A outer s H E).nox (defBody st) t/\t { nx:=fun _ H'=>Q .non H',rt:=Q } (start N vs) H):bI P w K mg base CX0 (k+1) f fd ps sp:=by
 obtain ⟨oc,od,kV,doc,pm,an,cdv,ct,osl,rfl,lk,hcd⟩:=F.ex
 exact rE lk hcd S len fun A outer s H vs Q E hr hsp=>let ⟨t,h,q⟩:=hb cdv A outer s H vs Q E hr hsp; ⟨t,h.nox,q⟩
theorem FunD.binds {x qual:Str}{st:Stmt}{f:Addr}{fd:FuncData}{T:Addr}{o:Obj}{n:Nat}{its:Array Value}{ps:List Str}{ds:List Value}(F:FunD K x qual st f fd (.ref T))(ho:K.lookup T=some o)(hs:o.data=.seq its n)
  (h:∀ (kV doc pm:Value) (an:Option Addr) (cdv ct:Value) (us:List Value),(us++ds).length=ps.length->∃ k:Option (Array Value)->Sem (List (Str×Value)),bindArgs (a0I x qual (defArgs st) (defBody st) (defScope st) (.ref T) kV doc pm an cdv ct) ⟨us,[]⟩=seqItems? (.ref T) >>= k/\k (some its)=pure (ps.zip (us++ds))):Binds K fd ps ds:=by
 obtain ⟨oc,od,kV,doc,pm,an,cdv,ct,osl,rfl,lk,hcd⟩:=F.ex
 intro s us KX hl
 obtain ⟨k,h1,h2⟩:=h kV doc pm an cdv ct us hl
 exact PySem.W.binds_K KX rfl ho hs h1 h2
theorem pG {x qual:Str}{st:Stmt}{f:Addr}{oc dV:Value}{od an:Option Addr}{osl:Array (Option Value)}{kV doc pm cdv ct:Value}(l:K.lookup f=some ⟨oc,od,.func (a0I x qual (defArgs st) (defBody st) (defScope st) dV kV doc pm an cdv ct),osl⟩)
  (c:a1c K cdv qual=true) (k:a00 K (.ref f)=true):FunD K x qual st f (a0I x qual (defArgs st) (defBody st) (defScope st) dV kV doc pm an cdv ct) dV:=⟨⟨oc,od,kV,doc,pm,an,cdv,ct,osl,rfl,l,c⟩,k⟩
end
end L3
namespace L3
open PySem PySem.Spec PyProof.Rows L2
end L3
namespace L3
open PySem PySem.Spec PyProof.Rows L2
end L3
namespace L3
open PySem PySem.Spec PyProof.Rows L2
section
variable {prog:Program}{w:World}{A:Around}{R:Result->Shared->Prop}{s:Shared}
theorem ib {elt tg iter cnd:Expr}{scope:Scope}{pos:Pos}{it acc:Value}{env:Env}(J:Nat->Shared->Prop)
  (turn:∀ n s,J n s->wpAny (model prog w) A (pyNext it) (fun r s₁=>match r with
   | none=>R (.ok .next) s₁
   | some v=>wpAny (model prog w) A (letOwnedTupleGo tg it v) (fun _ s₂=>wpAny (model prog w) A (assign tg env v) (fun _ s₃=>wpAny (model prog w) A (isTrue cnd env (eval cnd env)) (fun ok s₄=>if ok=true then
     wpAny (model prog w) A (eval elt env) (fun y s₅=>wpAny (model prog w) A (call (.builtin "list.append") [acc,y]) (fun _ s₆=>∃ m,m < n/\J m s₆) noX s₅) noX s₄ else ∃ m,m < n/\J m s₄) noX s₃) noX s₂) noX s₁) noX s)
  (n:Nat) (h:J n s):codeAny (model prog w) A (.compLoop (.ListComp elt [⟨tg,iter,[cnd],0⟩] scope pos) 0 it acc env) R s:=by
 refine codeAny_loop rfl J (fun n s hJ=>?_) n h
 show wpAny _ A ((compTurn (.ListComp elt [⟨tg,iter,[cnd],0⟩] scope pos) 0 it acc env).onRaise (fun x=>do noteFrame x env; theTreesLotGoes x)) _ _ s
 refine wpAny_noted ?_
 rw [compTurn_list]
 refine wpAny_bind (wpAny_standAt (wpAny_bind (wpAny_mono (turn n s hJ) (fun r s₁ h₁=>?_) fun _ _ z=>z.elim)))
 cases r with
 | none=>exact wpAny_pure h₁
 | some v =>
  refine wpAny_bind (wpAny_mono h₁ (fun _ s₂ h₂=>?_) fun _ _ z=>z.elim)
  refine wpAny_bind (wpAny_mono h₂ (fun _ s₃ h₃=>?_) fun _ _ z=>z.elim)
  refine wpAny_bind (wpAny_tests_one (wpAny_mono h₃ (fun ok s₄ h₄=>?_) fun _ _ z=>z.elim))
  cases ok with
  | true=>exact wpAny_bind (wpAny_bind (wpAny_mono h₄ (fun y s₅ h₅=>wpAny_bind (wpAny_mono h₅ (fun _ s₆ h₆=>wpAny_pure (wpAny_pure ⟨rfl,h₆⟩)) fun _ _ z=>z.elim)) fun _ _ z=>z.elim))
  | false=>exact wpAny_bind (wpAny_pure (wpAny_pure ⟨rfl,h₄⟩))
end
end L3

namespace L3
open PySem PySem.Spec PyProof.Rows L2
noncomputable def pC (n:Nat)(J:It)(g:TG)(tc:TT)(te:TE)(σ':L2.St)(H1:Hp)(Q:VK):Prop:=∃ W:Nat->Nat->List V->Hp->Prop,(∃ m,W 0 m [] H1)/\∀ i m ys H,W i m ys H ->
 (J.stop i H/\ys.length<=sizeLine/\∀ p,H p=none->Q (.ref p) (upd H p (.lst ys))) \/
 (J.go i H/\ys.length < sizeLine/\∀ x H',J.yld i H x H'->g x (a0f n none++σ') H' fun σ2 H2=>(σ2.length=n+σ'.length/\σ2.drop n=σ')/\tc σ2 H2 fun ok H3=>if ok=true then te σ2 H3 fun y H4=>∃ m',m' < m/\W (i+1) m' (ys++[y]) H4 else ∃ m',m' < m/\W (i+1) m' ys H3)
noncomputable def pJ (n:Nat)(J:It)(g:TG)(te:TE)(σ':L2.St)(H1:Hp)(Q:VK):Prop:=∃ W:Nat->Nat->List V->Hp->Prop,(∃ m,W 0 m [] H1)/\∀ i m ys H,W i m ys H ->
 (J.stop i H/\ys.length<=sizeLine/\∀ p,H p=none->Q (.ref p) (upd H p (.lst ys))) \/
 (J.go i H/\ys.length < sizeLine/\∀ x H',J.yld i H x H'->g x (a0f n none++σ') H' fun σ2 H2=>(σ2.length=n+σ'.length/\σ2.drop n=σ')/\te σ2 H2 fun y H4=>∃ m',m' < m/\W (i+1) m' (ys++[y]) H4)
noncomputable def fY (n:Nat)(wi:TI)(is:List Nat)(g:TG)(tc:TT)(te:TE):TE:=fun σ H Q=>wi σ H fun J H1=>pC n J g tc te (bc σ is) H1 Q
noncomputable def gg (n:Nat)(wi:TI)(is:List Nat)(g:TG)(te:TE):TE:=fun σ H Q=>wi σ H fun J H1=>pJ n J g te (bc σ is) H1 Q
theorem mq {n:Nat}{σ2 σ':L2.St}(h:σ2.drop n=σ'){j:Nat}{w:V}(e:(a0f n none++σ')[j]?=some (some w)):σ2[j]?=some (some w):=by
 by_cases hj:j < n
 ·rw [a0D (by simpa using hj),a1h,if_pos hj] at e
  cases a0p e
 ·rw [a0H (by simpa using hj),a0G,<- h,List.getElem?_drop,Nat.add_sub_cancel' (by omega)] at e
  exact e
noncomputable def CW (X:Cx)(cs:List Expr)(k:Bool->Shared->Prop)(s:Shared):Prop:=match cs with
 | []=>k true s
 | [c]=>wpAny (model X.prog X.w) X.A (isTrue c X.env (eval c X.env)) k noX s
 | _=>False
noncomputable def PC (X:Cx)(cs:List Expr)(tc:TT):Prop:=∀ (pins:List (Addr×Obj)) (s:Shared) (σ:L2.St) (H:Hp) (Q:Bool->Hp->Prop),Inv X pins σ H s->tc σ H Q->CW X cs (fun ok s'=>∃ H',Inv X pins σ H' s'/\Q ok H') s
theorem CW.mono {X:Cx}{cs:List Expr}{k k':Bool->Shared->Prop}{s:Shared}(h:CW X cs k s)(w:∀ b s,k b s->k' b s):CW X cs k' s:=by
 match cs,h with
 | [],h=>exact w _ _ h
 | [c],h=>exact wpAny_mono h w fun _ _ z=>z
theorem gE {X:Cx}{elt tg iter:Expr}{cs:List Expr}{scope:Scope}{pos:Pos}{it acc:Value}{R:Result->Shared->Prop}{s:Shared}(J:Nat->Shared->Prop)
  (turn:∀ n s,J n s->wpAny (model X.prog X.w) X.A (pyNext it) (fun r s₁=>match r with
   | none=>R (.ok .next) s₁
   | some v=>wpAny (model X.prog X.w) X.A (letOwnedTupleGo tg it v) (fun _ s₂=>wpAny (model X.prog X.w) X.A (assign tg X.env v) (fun _ s₃=>CW X cs (fun ok s₄=>if ok=true then
     wpAny (model X.prog X.w) X.A (eval elt X.env) (fun y s₅=>wpAny (model X.prog X.w) X.A (call (.builtin "list.append") [acc,y]) (fun _ s₆=>∃ m,m < n/\J m s₆) noX s₅) noX s₄ else ∃ m,m < n/\J m s₄) s₃) noX s₂) noX s₁) noX s)
  (n:Nat) (h:J n s) (hcs:cs.length<=1):codeAny (model X.prog X.w) X.A (.compLoop (.ListComp elt [⟨tg,iter,cs,0⟩] scope pos) 0 it acc X.env) R s:=by
 match cs,hcs with
 | [],_=>exact i0 J turn n h
 | [c],_=>exact ib J turn n h
theorem gO {X:Cx}{elt iter tg:Expr}{cs:List Expr}{pre:List Str}{pos:Pos}{scope:Scope}{cl:List (Str×Addr)}{ys:List Str}{is:List Nat}{wi:TI}{g:TG}{te:TE}{tc:TT}{use:Option (Value->Sem Unit)}{Q:VK}{Qp:Value->Shared->Prop}{pins:List (Addr×Obj)}{s:Shared}{σ:L2.St}{H:Hp}{ip:Pos}
  (hc:X.calm=true) (hi:PI X tg iter wi) (hg:∀ C s H fp,PG (aw X (pre++ys) scope cl C s H fp) tg g) (he:∀ C s H fp,PE (aw X (pre++ys) scope cl C s H fp) elt te) (hcd:∀ C s H fp,PC (aw X (pre++ys) scope cl C s H fp) cs tc) (hcs:cs.length<=1)
  (hclos:closureFor scope X.env=pure cl) (S:aJ pre ys scope) (hcl:Clo X cl) (hfr:(scope.names.all fun p=>p.2 != .free || (cl.lookup p.1).isSome)=true) (fr:Frees X scope cl ys is) (hs:∀ v,foldedSetIterable iter X.env v=pure v)
  (fin:∀ (s4:Shared) (Hn:Hp) (D L:Addr) (m4:Str->Option Value),Inv X pins σ Hn s4->s4.heap.Ns L m4->L≠X.env.locals->(∀ a c,X.env.cells.lookup a=some c->c≠L)->Hn L=none->X.s₀.heap.objs.size<=L->(∀ p∈X.pn++pins,p.1≠L)->Q (.ref D) Hn->compPost (model X.prog X.w) X.A X.xe use Qp (.ref D) L (.ok .next) s4)
  (I:Inv X pins σ H s) (h:fY pre.length wi is g tc te σ H Q) :
  wpAny (model X.prog X.w) X.A (comprehension (.ListComp elt [⟨tg,iter,cs,0⟩] scope pos) scope X.env ip (newList []) false (eval iter X.env) use) Qp X.xe s:=by
 refine wpAny_comprehension_free (use:=use) rfl hs hclos S.kind S.nm (thn (hi pins s σ H _ I h) fun xv s1 h1=>thn h1 fun itv s2 h2=>?_)
 obtain ⟨it,fp,tn,J,H2,rfl,I2,T,st2,f2,W,⟨m0,w0⟩,turn⟩:=h2
 have fpo:∀ b∈fp,b < s2.heap.objs.size:=fun b hb=>by
  obtain ⟨o,e,_⟩:=T.obj _ _ st2 b hb
  exact Heap.lt_size e
 refine wpAny_newObj_type (wpAny_newFunctionEnv S.cell (fun y hy=>by cases hy) (fun g' hns hsb=>?_) S.kind)
 dsimp only at hns hsb ⊢
 generalize hP2:s2.heap.push { cls:=.type "list",dict:=none,data:=.seq ([]:List Value).toArray }=P2 at hns hsb ⊢
 have hCs:P2.objs.size=s2.heap.objs.size+1:=by rw [<- hP2,Heap.size_push]
 have hDC:s2.heap.objs.size≠P2.objs.size:=by omega
 have hle:s2.heap.objs.size<=P2.objs.size:=by omega
 have nc:∀ b o,s2.heap.get? b=some o->b≠P2.objs.size:=fun b o e=>a0x (a0l (Heap.lt_size e) hle)
 have nd:∀ b o,s2.heap.get? b=some o->b≠s2.heap.objs.size:=fun b o e=>a0x (Heap.lt_size e)
 have ndH:∀ b u,H2 b=some u->b≠s2.heap.objs.size:=fun b u e=>a0x (I2.hok.lt e)
 have old:∀ b o,s2.heap.get? b=some o->g'.get? b=some o:=fun b o e=>hsb.extBut b o (nc b o e) (Heap.get?_push_of_some _ (hP2 ▸ Heap.get?_push_of_some _ e))
 have accD:g'.get? s2.heap.objs.size=some (fI []):=hsb.extBut _ _ hDC (Heap.get?_push_of_some _ (hP2 ▸ Heap.get?_push_size _ rfl))
 have stkD:s2.heap.objs.size ∉ frs X.stack:=fun hb=>(a0v.mp (I2.stkSub _ hb)).elim (fun z=>absurd z (a1R I2.lt)) (I2.nofs (a0b _))
 generalize hσ':bc σ is=σ' at turn
 have I3:Inv (aw X (pre++ys) scope cl P2.objs.size s2 H2 fp) pins (a0f pre.length none++σ') H2 { s2 with heap:=g',toks:=s2.toks+([]:List (Str×Value)).length }:=by rw [<- hσ']; exact ke (pre:=pre) I2 f2 fpo S hcl hfr fr hle old hns
 have stat:∀ {H':Hp} {o:Obj},(∀ b∈fp,H' b=none)->∀ b∈fp,gk (aw X (pre++ys) scope cl P2.objs.size s2 H2 fp) (pins++[(s2.heap.objs.size,o)]) H' b:=fun {H' o} hn b hb=>by
  refine ⟨hn b hb,a0x (a0l (fpo b hb) hle),fun z=>(a0v.mp (I2.stkSub _ z)).elim (f2 b hb).2.1 (f2 b hb).2.2.1,.inl hb,fun a c e=>(f2 b hb).2.2.2.2.1 a c (hcl.get e),fun p hp=>?_⟩
  rcases a0K.mp hp with z | z
  ·exact (f2 b hb).2.2.2.2.2 p (a0U _ z)
  ·rcases a0K.mp z with z | z
   ·exact (f2 b hb).2.2.2.2.2 p (a0k _ z)
   ·rw [a0E.mp z]
    exact a1R (fpo b hb)
 have loop:codeAny (model X.prog X.w) X.A (.compLoop (.ListComp elt [⟨tg,iter,cs,0⟩] scope pos) 0 (.ref it) (.ref s2.heap.objs.size) (compEnvC scope cl P2.objs.size X.env))
   (compPost (model X.prog X.w) X.A X.xe use Qp (.ref s2.heap.objs.size) P2.objs.size) { s2 with heap:=g',toks:=s2.toks+([]:List (Str×Value)).length }:=by
  refine gE (X:=aw X (pre++ys) scope cl P2.objs.size s2 H2 fp) (fun n s'=>∃ i zs its H',Inv (aw X (pre++ys) scope cl P2.objs.size s2 H2 fp) pins (a0f pre.length none++σ') H' s'/\tn i s'.heap/\(∀ b∈fp,H' b=none)/\s'.heap.get? s2.heap.objs.size=some (fI its)/\Vals zs its/\H' s2.heap.objs.size=none/\W i n zs H')
   ?_ m0 ⟨0,[],[],H2,I3,T.keep _ _ _ st2 (fun b _ o e=>old b o e),fun b hb=>(f2 b hb).1,accD,.nil,I2.hok.fresh (a0b _),w0⟩ hcs
  rintro n s3 ⟨i,zs,its,H3,J3,st3,fr3,d3,rv3,nd3,w3⟩
  have hzl:=rv3.length
  have J3':Inv (aw X (pre++ys) scope cl P2.objs.size s2 H2 fp) (pins++[(s2.heap.objs.size,fI its)]) (a0f pre.length none++σ') H3 s3:=J3.pins_of fun p hp=>by
   rcases a0K.mp hp with z | z
   ·exact J3.pin p (a0k _ z)
   ·rw [a0E.mp z]
    exact ⟨d3,nd3,hDC,stkD,fun v q=>by cases q⟩
  rcases turn i n zs H3 w3 with ⟨stop,hz,q⟩ | ⟨go,hz,step⟩
  ·refine wpAny_mono (T.done (aw X (pre++ys) scope cl P2.objs.size s2 H2 fp) rfl rfl rfl hc i _ s3 _ H3 noX J3' (stat fr3) st3 stop) (fun r s4 h4=>?_) fun _ _ z=>z.elim
   obtain ⟨hr,I4⟩:=h4
   subst hr
   obtain ⟨m4,hn4,_⟩:=id I4.loc
   have f4:H3 P2.objs.size=none:=I4.free
   have d4:s4.heap.get? s2.heap.objs.size=some (fI its):=(I4.pin (s2.heap.objs.size,fI its) (a0k _ (a0k _ (a0E.mpr rfl)))).1
   have u4:Un (frs X.stack) fp H2 H3 s2.heap s4.heap:=I4.base
   have un:Un (frs X.stack) fp H2 (upd H3 s2.heap.objs.size (.lst zs)) s2.heap s4.heap :=
    ⟨u4.keep,u4.slot,fun b o e n hx=>by rw [aj (nd b o e)]; exact u4.free b o e n hx,u4.there,
     fun b xs q=>by rw [aj (ndH b _ q)]; exact u4.tups b xs q,fun b o u q=>by rw [aj (ndH b _ q)]; exact u4.frzs b o u q,fun b ps q=>by rw [aj (ndH b _ q)]; exact u4.tbls b ps q⟩
   have IX:Inv X pins σ (upd H3 s2.heap.objs.size (.lst zs)) s4:=I2.call' (s':=s4) (ch:=fp) I4.os un (kf I4.hok nd3 ⟨hz,its,its.length,rv3,d4⟩) I4.bare
    (fun b hb=>⟨(f2 b hb).2.2.2.1,(f2 b hb).2.1,(f2 b hb).2.2.2.2.1,(f2 b hb).2.2.2.2.2⟩)
   have cL:P2.objs.size≠X.env.locals:=a1R (a0l I2.lt hle)
   have cC:∀ a c,X.env.cells.lookup a=some c->c≠P2.objs.size:=fun a c e=>by
    obtain ⟨v',o',ho',_⟩:=I2.cell a c e
    exact nc c o' ho'
   exact fin s4 _ s2.heap.objs.size P2.objs.size m4 IX hn4 cL cC (by rw [aj (a17 hDC)]; exact f4) (a0j I2.sz hle) (fun p hp=>nc p.1 _ (I2.pin p hp).1) (q _ nd3)
  ·refine wpAny_mono (T.item (aw X (pre++ys) scope cl P2.objs.size s2 H2 fp) rfl rfl rfl hc i _ s3 _ H3 noX J3' (stat fr3) st3 go) (fun r s4 h4=>?_) fun _ _ z=>z.elim
   obtain ⟨u,hr,h4⟩:=h4
   subst hr
   refine wpAny_mono h4 (fun _ s5 h5=>?_) fun _ _ z=>z.elim
   obtain ⟨v,H5,I5,r5,y5,st5,fr5⟩:=h5
   have I5':=I5.pinned (stat fr5) (T.obj _ _ st5)
   refine wpAny_mono (hg P2.objs.size s2 H2 fp _ s5 _ H5 v u _ I5' r5 (step v H5 y5)) (fun _ s6 h6=>?_) fun _ _ z=>z.elim
   obtain ⟨σ6,H6,I6,⟨hl6,hd6⟩,step'⟩:=h6
   have back:∀ {H7:Hp} {s7:Shared},Inv (aw X (pre++ys) scope cl P2.objs.size s2 H2 fp) ((pins++[(s2.heap.objs.size,fI its)])++eC fp s5.heap) σ6 H7 s7->Inv (aw X (pre++ys) scope cl P2.objs.size s2 H2 fp) pins (a0f pre.length none++σ') H7 s7:=fun I7=>I7.unpinned.unpinned.weak (by rw [hl6,a0m,a0G]) fun j w' e=>mq hd6 e
   refine CW.mono (hcd P2.objs.size s2 H2 fp _ s6 _ H6 _ I6 step') fun ok s6' h6'=>?_
   obtain ⟨H6',I6',q6⟩:=h6'
   cases ok with
   | false =>
    rw [if_neg a0h] at q6
    obtain ⟨m',hm',w7⟩:=q6
    have pinD:=I6'.pin (s2.heap.objs.size,fI its) (a0k _ (a0U _ (a0k _ (a0E.mpr rfl))))
    rw [if_neg a0h]
    refine ⟨m',hm',i+1,zs,its,H6',back I6',T.keep _ _ _ st5 fun b hb o e=>?_,fun b hb=>?_,pinD.1,rv3,pinD.2.1,w7⟩
    ·exact (I6'.pin (b,o) (a0k _ (a0k _ (a8 hb e)))).1
    ·obtain ⟨o,e,_⟩:=T.obj _ _ st5 b hb
     exact (I6'.pin (b,o) (a0k _ (a0k _ (a8 hb e)))).2.1
   | true =>
    rw [if_pos rfl] at q6 ⊢
    refine wpAny_mono (he P2.objs.size s2 H2 fp _ s6' _ H6' _ I6' q6) (fun yv s7 h7=>?_) fun _ _ z=>z.elim
    obtain ⟨y',H7,I7,r7,m',hm',w7⟩:=h7
    have pinD:=I7.pin (s2.heap.objs.size,fI its) (a0k _ (a0U _ (a0k _ (a0E.mpr rfl))))
    refine append_at (hsz:=by show its.toArray.size<=sizeLine; rw [a0e]; omega) pinD.1 fun h8 sb8 hD8=>?_
    have I8:Inv (aw X (pre++ys) scope cl P2.objs.size s2 H2 fp) pins (a0f pre.length none++σ') H7 { s7 with heap:=h8 }:=(back I7).turned (t':=s7.toks) (it:=s2.heap.objs.size) (fun b o hb e=>(sb8.2 b hb).trans e) pinD.2.1 hDC (.inr (a0b _))
     (fun a c e z=>by
      obtain ⟨v',o',ho',_⟩:=I2.cell a c (hcl.get e)
      exact nd c o' ho' z)
     (fun p hp=>nd p.1 _ (I2.pin p hp).1)
    refine ⟨m',hm',i+1,zs++[y'],its++[yv],H7,I8,T.keep _ _ _ st5 fun b hb o e=>?_,fun b hb=>?_,?_,rv3.append (.cons r7 .nil),pinD.2.1,w7⟩
    ·exact (sb8.2 b (a0x (fpo b hb))).trans (I7.pin (b,o) (a0k _ (a0k _ (a8 hb e)))).1
    ·obtain ⟨o,e,_⟩:=T.obj _ _ st5 b hb
     exact (I7.pin (b,o) (a0k _ (a0k _ (a8 hb e)))).2.1
    ·show h8.get? s2.heap.objs.size=_
     rw [hD8]
     simp [fI]
 exact codeAny_compStart_list loop (T.self X.A 0 _ _ _ (T.keep _ _ _ st2 (fun b _ o e=>old b o e)) loop)
section
variable {X:Cx}{elt iter tg cnd:Expr}{pre:List Str}{pos spos pz:Pos}{z:Str}{jz:Nat}{scope:Scope}{cl:List (Str×Addr)}{ys:List Str}{is:List Nat}{wi:TI}{g:TG}{te:TE}{tc:TT}
noncomputable def tT:TT:=fun _ H Q=>Q true H
theorem pcN:PC X [] tT:=fun pins s σ H Q I q=>⟨H,I,q⟩
theorem goN {n:Nat}{σ:L2.St}{H:Hp}{Q:VK}(h:gg n wi is g te σ H Q):fY n wi is g tT te σ H Q:=h
theorem nv {cs:List Expr}(hc:X.calm=true)(hi:PI X tg iter wi)(hg:∀ C s H fp,PG (aw X (pre++ys) scope cl C s H fp) tg g)(he:∀ C s H fp,PE (aw X (pre++ys) scope cl C s H fp) elt te)(hcd:∀ C s H fp,PC (aw X (pre++ys) scope cl C s H fp) cs tc)(hcs:cs.length<=1)
  (hclos:closureFor scope X.env=pure cl) (S:aJ pre ys scope) (hcl:Clo X cl) (hfr:(scope.names.all fun p=>p.2 != .free || (cl.lookup p.1).isSome)=true) (fr:Frees X scope cl ys is) (hs:∀ v,foldedSetIterable iter X.env v=pure v) :
  PE X (.ListComp elt [⟨tg,iter,cs,0⟩] scope pos) (fY pre.length wi is g tc te):=by
 intro pins s σ H Q I h
 rw [eval_ListComp]
 show wpAny _ _ (comprehension _ scope X.env _ (newList []) false (eval iter X.env) none) _ _ s
 refine gO hc hi hg he hcd hcs hclos S hcl hfr fr hs (fun s4 Hn D L m4 IX hn cL cC hL hz hp q=>?_) I h
 exact ⟨m4,hn,fun h' sb=>⟨.ref D,_,IX.turned (t':=s4.toks) (it:=L) (fun b o hb e=>(sb.2 b hb).trans e) hL cL (.inr hz) cC hp,rfl,q⟩⟩
theorem mE {cs:List Expr}(hN:X.N.Nodup)(hj:X.N[jz]?=some z)(hzLoc:Loc X.env.scope z)(hsw:swapsWith (.ListComp elt [⟨tg,iter,cs,0⟩] scope pos) (some (.Name z pz)) spos.line X.env=pure true)(hc:X.calm=true)(hi:PI X tg iter wi)(hg:∀ C s H fp,PG (aw X (pre++ys) scope cl C s H fp) tg g)(he:∀ C s H fp,PE (aw X (pre++ys) scope cl C s H fp) elt te)(hcd:∀ C s H fp,PC (aw X (pre++ys) scope cl C s H fp) cs tc)(hcs:cs.length<=1)
  (hclos:closureFor scope X.env=pure cl) (S:aJ pre ys scope) (hcl:Clo X cl) (hfr:(scope.names.all fun p=>p.2 != .free || (cl.lookup p.1).isSome)=true) (fr:Frees X scope cl ys is) (hs:∀ v,foldedSetIterable iter X.env v=pure v) (hfn:X.fn z=true\/X.env.scope.names.lookup z=some .local) :
  PS X (.Assign [.Name z pz] (.ListComp elt [⟨tg,iter,cs,0⟩] scope pos) spos) (kF (fY pre.length wi is g tc te) (cj jz)):=by
 intro pins s σ H D I h
 rw [exec_Assign_Name_used _ _ _ _ hsw]
 refine wpAny_bind (wpAny_standAt (wpAny_bind ?_)); show wpAny _ _ (do let _ <- comprehension (.ListComp elt [⟨tg,iter,cs,0⟩] scope pos) scope X.env _ (newList []) false (eval iter X.env) (some (assign (.Name z pz) X.env))) _ _ s
 refine wpAny_bind (thn (gO (use:=some (assign (.Name z pz) X.env)) (Qp:=fun _ s'=>SP X pins D .next s') hc hi hg he hcd hcs hclos S hcl hfr fr hs (fun s4 Hn d L m4 IX hn cL cC hL hz hp q=>?_) I h) fun _ s' hq=>wpAny_pure (wpAny_pure hq))
 show wpAny _ _ (assign (.Name z pz) X.env (.ref d)) _ _ s4
 refine wpAny_assign_Name (eV IX hN hj hzLoc (v:=.ref d) rfl (fun s5 I5 h5=>?_) hfn)
 obtain ⟨a5,sb5,ha5⟩:=h5
 have na:L≠a5:=ha5.elim (fun e=>by rw [e]; exact cL) fun e=>a17 (cC _ _ e)
 exact ⟨m4,hn.sameBut sb5 na,fun h' sb=>⟨_,_,I5.turned (t':=s5.toks) (it:=L) (fun b o hb e=>(sb.2 b hb).trans e) hL cL (.inr hz) cC hp,q⟩⟩
theorem jN (hc:X.calm=true)(hi:PI X tg iter wi)(hg:∀ C s H fp,PG (aw X (pre++ys) scope cl C s H fp) tg g)(he:∀ C s H fp,PE (aw X (pre++ys) scope cl C s H fp) elt te)
  (hclos:closureFor scope X.env=pure cl) (S:aJ pre ys scope) (hcl:Clo X cl) (hfr:(scope.names.all fun p=>p.2 != .free || (cl.lookup p.1).isSome)=true) (fr:Frees X scope cl ys is) (hs:∀ v,foldedSetIterable iter X.env v=pure v:=by intro _; rfl) :
  PE X (.ListComp elt [⟨tg,iter,[],0⟩] scope pos) (gg pre.length wi is g te):=fun pins s σ H Q I h=>nv hc hi hg he (fun _ _ _ _=>pcN) (a0W _) hclos S hcl hfr fr hs pins s σ H Q I (goN h)
theorem jO (hN:X.N.Nodup)(hj:X.N[jz]?=some z)(hzLoc:Loc X.env.scope z)(hsw:swapsWith (.ListComp elt [⟨tg,iter,[],0⟩] scope pos) (some (.Name z pz)) spos.line X.env=pure true)(hc:X.calm=true)(hi:PI X tg iter wi)(hg:∀ C s H fp,PG (aw X (pre++ys) scope cl C s H fp) tg g)(he:∀ C s H fp,PE (aw X (pre++ys) scope cl C s H fp) elt te)
  (hclos:closureFor scope X.env=pure cl) (S:aJ pre ys scope) (hcl:Clo X cl) (hfr:(scope.names.all fun p=>p.2 != .free || (cl.lookup p.1).isSome)=true) (fr:Frees X scope cl ys is) (hs:∀ v,foldedSetIterable iter X.env v=pure v:=by intro _; rfl) (hfn:X.fn z=true\/X.env.scope.names.lookup z=some .local:=by first | exact .inl rfl | exact .inr rfl | assumption) :
  PS X (.Assign [.Name z pz] (.ListComp elt [⟨tg,iter,[],0⟩] scope pos) spos) (kF (gg pre.length wi is g te) (cj jz)):=fun pins s σ H D I h=>mE hN hj hzLoc hsw hc hi hg he (fun _ _ _ _=>pcN) (a0W _) hclos S hcl hfr fr hs hfn pins s σ H D I (goN h)
end
end L3

namespace L3
open PySem PySem.Spec PyProof.Rows L2
end L3
namespace L3
open PySem PySem.Spec PyProof.Rows L2
end L3
namespace L3
open PySem PySem.Spec PyProof.Rows L2
end L3

namespace L3
open PySem PySem.Spec PyProof.Rows L2
theorem cA:∀ {ns:List Int} {us:List Value},Vals (ns.map V.int) us->IntsAre us ns
 | [],_,.nil=>.nil
 | n::ns,_,.cons ⟨t,e⟩ r=>by cases e; exact .cons n t (cA r)
end L3
namespace L3
open PySem PySem.Spec PyProof.Rows L2
noncomputable abbrev rm (h:Heap)(T:Addr)(a b c:Value):Prop:=h.get? T=some { cls:=.type "tuple",data:=.seq #[a,b,c] }
end L3
namespace L3
open PySem PySem.Spec PyProof.Rows L2
noncomputable def Z3 (n a1 a2 a3:Nat)(i:Nat)(h:Heap):Prop :=
 IsZip h (n+5) (n+3) (n+4) .none/\rm h (n+3) (.ref n) (.ref (n+1)) (.ref (n+2))/\(∃ a b c,rm h (n+4) a b c)/\ItO h false n a1 i/\ItO h false (n+1) a2 i/\ItO h false (n+2) a3 i
end L3

namespace M
open PySem (Str)
inductive T where
 | non | bl (b:Bool) | int (i:Int) | str (x:Str) | tup (ts:List T) | lst (ts:List T) | dct (ks:List Str) (vs:List T) | ins (c:Str) (fs:List Str) (vs:List T)
 | scr (ns:List Int)
 | gone
 deriving Inhabited
inductive Md where
 | s | d | o (m:Md)
 deriving DecidableEq,Inhabited
noncomputable def Md.kid:Md->Md
 | .s=>.s | .d=>.d | .o m=>m
noncomputable def Md.up:Md->Md
 | .d=>.d | m=>.o m
noncomputable def Md.meet:Md->Md->Md
 | .s,_=>.s | .d,m=>m | .o _,.s=>.s | .o a,.d=>.o a | .o a,.o b=>.o (a.meet b)
noncomputable def Md.le:Md->Md->Bool
 | .s,_=>true
 | .o a,.o b=>a.le b
 | .o _,.d=>true
 | .d,.d=>true
 | _,_=>false
noncomputable abbrev W:=Md×T
noncomputable abbrev Env:=List (Option W)
noncomputable def LIM:Nat:=16777215
noncomputable def T.leaf:T->Bool
 | .non | .bl _ | .int _ | .str _ | .scr _=>true
 | _=>false
noncomputable def T.isG:T->Bool
 | .gone=>true
 | .dct _ _=>true
 | _=>false
noncomputable def T.isN:T->Bool
 | .non=>true
 | _=>false
noncomputable def leaves (ts:List T):Bool:=ts.all T.leaf
inductive Op where
 | add | sub | mul | fdiv | mod | pow | neg | eq | ne | lt | le | gt | ge | is | isnot | isin | notin | ix | sl | sl1 | sl2 | sl3
 | len | isI (cs:List String) | max1 | min1 | count | fdivN | modN | intS | apd | mulS | listS | list | tuple | sum | all | any | max | min | int | str | rng | sorted | join | split | abs | dict | get | lzip | isB | isnB | lower | inS | ninS | inX | ninX | leS | catT | dnew | sortedD | sortedS | lenSet | countS | repr
 deriving DecidableEq,Inhabited
inductive Ik where
 | seq | rng | enm | zip | sq2 | zip3 | chr | enmT
 deriving DecidableEq,Inhabited
inductive E where
 | var (i:Nat) | mv (i:Nat) | io (i:Nat) | cst (t:T) | glb (x:Str) (t:T)
 | tup (es:List E) | lst (h:Bool) (es:List E) | op (o:Op) (h:Bool) (es:List E) | wk (m:Md) (e:E)
 | and (a b:E) | or (a b:E) | not (a:E) | ifx (c a b:E) | chain (o p:Op) (a b c:E)
 | call (f:Nat) (es:List E) | comp (h:Bool) (k:Ik) (src:List E) (tg:List Nat) (cnd:Option E) (elt:E)
 | pop (i:Nat) (es:List E) | lenV (i:Nat) | ixV (i j:Nat)
 | tupA (es:List E) | qx (vs ls:List Nat) (e:E) | mvP (i:Nat) (p:List Nat)
 | callT (tab:List (Str×Nat)) (k:E) (es:List E) | inT (neg:Bool) (ks:List Str) (e:E) | ixT (tab:List (Str×T)) (e:E) | getT (tab:List (Str×T)) (e:E)
 deriving Inhabited
inductive X where
 | q (vs ls:List Nat) | l (vs:List Nat)
 deriving Inhabited
inductive S where
 | asg (x:X) (i:Nat) (e:E) | asgT (x:X) (is:List Nat) (e:E) | setI (x:X) (i:Nat) (k e:E) | setK (x:X) (i:Nat) (k e:E)
 | exp (x:X) (e:E) | app (x:X) (i:Nat) (e:E) | ext (x:X) (i:Nat) (e:E)
 | ret (vs:List Nat) (e:E) | retN | ite (x:X) (c:E) (a b:List S)
 | forS (vs ls:List Nat) (k:Ik) (src:List E) (tg:List Nat) (body:List S) | forU (k:Ik) (src:List E) (tg:List Nat) (body:List S) | whl (x:X) (c:E) (body:List S)
 | brk | pas | stop | tri (body:List S)
 deriving Inhabited
structure Fn where
 ps:Nat
 ns:Nat
 io:List Nat
 body:List S
inductive Res (α:Type) where
 | ok (a:α) | ex (c:Str) (x:List T) | no
noncomputable def Res.bind {α β:Type}:Res α->(α->Res β)->Res β
 | .ok a,f=>f a
 | .ex c x,_=>.ex c x
 | .no,_=>.no
noncomputable def ofO {α:Type}:Option α->Res α
 | some a=>.ok a
 | none=>.no
inductive Fl where
 | nx (η:Env) | rt (w:W) (η:Env) | bk (η:Env) | ex (c:Str) (x:List T) (η:Env) | no
noncomputable def truth:T->Option Bool
 | .non=>some false | .bl b=>some b | .int i=>some (i != 0) | .str x=>some (x.cps.size != 0) | .tup ts=>some (!ts.isEmpty) | .lst ts=>some (!ts.isEmpty) | .dct _ _=>none | .ins ..=>none | .scr ns=>some (!ns.isEmpty) | .gone=>none
noncomputable def b2i:Bool->Int
 | true=>1 | false=>0
mutual
noncomputable def eqT:T->T->Bool
 | .non,.non=>true
 | .bl a,.bl b=>a==b
 | .bl a,.int i=>b2i a==i
 | .int i,.bl a=>i==b2i a
 | .int i,.int j=>i==j
 | .str x,.str y=>x==y
 | .tup ts,.tup us=>eqTs ts us
 | .lst ts,.lst us=>eqTs ts us
 | _,_=>false
noncomputable def eqTs:List T->List T->Bool
 | [],[]=>true
 | t::ts,u::us=>eqT t u&&eqTs ts us
 | _,_=>false
end
mutual
noncomputable def dp:T->Nat
 | .tup ts=>dps ts+1
 | .lst ts=>dps ts+1
 | .scr _=>1000
 | .dct _ _=>1000
 | .ins _ _ _=>1000
 | .gone=>1000
 | _=>0
noncomputable def dps:List T->Nat
 | []=>0
 | t::ts=>max (dp t) (dps ts)
end
noncomputable def sOk (x:Str):Bool:=x.cps.all (· < 0x110000)&&decide (x.cps.size<=LIM)
noncomputable def ixN (n:Nat)(i:Int):Option Nat:=if 0<=i then (if i < n then some i.toNat else none) else if -(n:Int)<=i then some (i+n).toNat else none
noncomputable def atI {α:Type}(xs:List α)(i:Int):Option α:=(ixN xs.length i).bind fun j=>xs[j]?
noncomputable def sIx (n d:Nat):Option Int->Nat
 | none=>d
 | some i=>if i < 0 then (i+n).toNat else min i.toNat n
noncomputable def cut {α:Type}(xs:List α)(lo hi:Option Int):List α:=(xs.drop (sIx xs.length 0 lo)).take (sIx xs.length xs.length hi-sIx xs.length 0 lo)
noncomputable def T.ty:T->String
 | .non=>"NoneType" | .bl _=>"bool" | .int _=>"int" | .str _=>"str" | .tup _=>"tuple" | .lst _=>"list" | .dct ..=>"dict" | .ins ..=>"object" | .scr _=>"list" | .gone=>"gone"
noncomputable def isOne (c:String)(t:T):Bool:=t.ty==c || (t.ty=="bool"&&c=="int")
noncomputable def a4:List T->Option (List Int)
 | []=>some []
 | .int i::ts=>(a4 ts).map (i::·)
 | _::_=>none
noncomputable def aS:List T->Option (List Bool)
 | []=>some []
 | .bl b::ts=>(aS ts).map (b::·)
 | _::_=>none
noncomputable def elems:W->Option (List T)
 | (_,.tup ts)=>some ts
 | (_,.lst ts)=>some ts
 | _=>none
noncomputable def flatT:T->Bool
 | .non | .bl _ | .int _ | .str _=>true
 | _=>false
noncomputable def je:T->Bool
 | .str _=>true
 | _=>false
noncomputable def ja:T->Bool
 | .non | .bl _ | .int _ | .str _ | .lst _ | .tup _=>true
 | _=>false
noncomputable def xy (c:Nat):Nat:=if 65<=c/\c<=90 then c+32 else c
noncomputable def xj:List Int->Int
 | []=>0
 | [n]=>n
 | n::ns=>max n (xj ns)
noncomputable def x9:List Int->Int
 | []=>0
 | [n]=>n
 | n::ns=>min n (x9 ns)
noncomputable def v7 (x:Int):List Int->List Int
 | []=>[x]
 | y::ys=>if x<=y then x::y::ys else y::v7 x ys
noncomputable def rD:List Int->List Int
 | []=>[]
 | x::xs=>v7 x (rD xs)
noncomputable def cq:List T->Option (List Str)
 | []=>some []
 | .str x::ts=>(cq ts).map (x::·)
 | _::_=>none
noncomputable def yL (ks:List Str)(x:Str):List Str:=if ks.contains x then ks else ks++[x]
noncomputable def rn (l:List Str):List Str:=l.foldl yL []
noncomputable def ltS (x y:Str):Bool:=decide (x.cps.toList < y.cps.toList)
noncomputable def yp (x:Str):List Str->List Str
 | []=>[x]
 | y::ys=>if ltS y x then y::yp x ys else x::y::ys
noncomputable def hV:List Str->List Str
 | []=>[]
 | x::xs=>yp x (hV xs)
noncomputable def spl (c:Nat):List Nat->List Nat->List (List Nat)
 | acc,[]=>[acc]
 | acc,x::xs=>if x=c then acc::spl c [] xs else spl c (acc++[x]) xs
noncomputable def wy (x:Str):List Str:=(spl 32 [] x.cps.toList).map fun l=>⟨l.toArray⟩
noncomputable def xM (l:List Nat):Nat:=l.foldl (fun a c=>a * 10+(c-48)) 0
noncomputable def sr (x:Str):Int:=match x.cps.toList with
 | 45::cs=>-((xM cs:Nat):Int)
 | cs=>((xM cs:Nat):Int)
noncomputable def vU (i:Int):Str:=Str.ofString (toString i)
noncomputable def vW:List T->List T->List T
 | t::ts,u::us=>.tup [t,u]::vW ts us
 | _,_=>[]
noncomputable def newL (h:Bool)(m:Md)(ts:List T):Option W:=if h then (if leaves ts then some (.d,.lst ts) else none) else some (m.up,.lst ts)
noncomputable def fits (n:Nat):Bool:=decide (n<=LIM)
mutual
noncomputable def datT:T->a2S
 | .bl b=>.bool b
 | .int i=>.int i
 | .str x=>.str x
 | .tup ts=>.tuple (datTs ts)
 | .lst ts=>.list (datTs ts)
 | _=>.none
noncomputable def datTs:List T->List a2S
 | []=>[]
 | t::ts=>datT t::datTs ts
end
mutual
noncomputable def rOk:T->Bool
 | .non | .bl _=>true
 | .int i=>decide (i.natAbs < 10000000000000000000)
 | .str x=>decide ((a1C x).length<=100)&&sOk (a1C x)
 | .tup ts=>rOks ts
 | .lst ts=>rOks ts
 | _=>false
noncomputable def rOks:List T->Bool
 | []=>true
 | t::ts=>rOk t&&rOks ts
end
mutual
noncomputable def szR:T->Nat
 | .tup ts=>szRs ts+4
 | .lst ts=>szRs ts+4
 | _=>100
noncomputable def szRs:List T->Nat
 | []=>0
 | t::ts=>szR t+2+szRs ts
end
noncomputable def oSem:Op->Bool->List W->Option W
 | .add,h,[(m,a),(n,b)]=>match a,b with
  | .int i,.int j=>some (.d,.int (i+j))
  | .str x,.str y=>if fits (x.cps.size+y.cps.size) then some (.d,.str (x++y)) else none
  | .lst ts,.lst us=>if fits (ts.length+us.length) then newL h (m.kid.meet n.kid) (ts++us) else none
  | .tup ts,.tup us=>if fits (ts.length+us.length)&&!ts.isEmpty then some (.s,.tup (ts++us)) else none
  | _,_=>none
 | .sub,_,[(_,.int i),(_,.int j)]=>some (.d,.int (i-j))
 | .mul,h,[(m,a),(_,b)]=>match a,b with
  | .int i,.int j=>if (decide (i.natAbs < 18446744073709551616)) || (decide (j.natAbs < 18446744073709551616)) then some (.d,.int (i * j)) else none
  | .lst ts,.int k=>if decide (k.natAbs < 4611686018427387904)&&fits (ts.length * k.toNat) then newL h .s (a0f k.toNat ts).flatten else none
  | _,_=>none
 | .fdiv,_,[(_,.int i),(_,.int j)]=>if decide (0 < j)&&decide (j < 1073741824) then some (.d,.int (i / j)) else none
 | .mod,_,[(_,.int i),(_,.int j)]=>if decide (0 < j) then some (.d,.int (i % j)) else none
 | .pow,_,[(_,.int i),(_,.int j)]=>if decide (0<=j)&&decide (j<=1000000)&&decide (i.natAbs < 18446744073709551616) then some (.d,.int (i ^ j.toNat)) else none
 | .fdivN,_,[(_,.int i),(_,.int j)]=>if (j != 0)&&decide (j.natAbs < 18446744073709551616) then some (.d,.int (i.fdiv j)) else none
 | .modN,_,[(_,.int i),(_,.int j)]=>if j != 0 then some (.d,.int (i.fmod j)) else none
 | .neg,_,[(_,.int i)]=>some (.d,.int (-i))
 | .eq,_,[(_,a),(_,b)]=>if decide (dp a<=64)&&decide (dp b<=64) then some (.d,.bl (eqT a b)) else none
 | .ne,_,[(_,a),(_,b)]=>if decide (dp a<=64)&&decide (dp b<=64) then some (.d,.bl (!eqT a b)) else none
 | .lt,_,[(_,.int i),(_,.int j)]=>some (.d,.bl (decide (i < j)))
 | .le,_,[(_,.int i),(_,.int j)]=>some (.d,.bl (decide (i<=j)))
 | .gt,_,[(_,.int i),(_,.int j)]=>some (.d,.bl (decide (j < i)))
 | .ge,_,[(_,.int i),(_,.int j)]=>some (.d,.bl (decide (j<=i)))
 | .is,_,[(_,a),(_,.non)]=>if a.isG then none else some (.d,.bl a.isN)
 | .isnot,_,[(_,a),(_,.non)]=>if a.isG then none else some (.d,.bl (!a.isN))
 | .ix,_,[(m,a),(_,.int i)]=>match a with
  | .lst ts=>(atI ts i).map fun t=>(m.kid,t)
  | .tup ts=>(atI ts i).map fun t=>(m.kid,t)
  | .str x=>(atI x.cps.toList i).map fun c=>(.d,.str ⟨#[c]⟩)
  | .scr ns=>(atI ns i).map fun n=>(.d,.int n)
  | _=>none
 | .sl,h,[(m,.lst ts)]=>newL h m.kid ts
 | .sl1,h,[(m,.lst ts),(_,.int i)]=>newL h m.kid (cut ts (some i) none)
 | .sl2,h,[(m,.lst ts),(_,.int i)]=>newL h m.kid (cut ts none (some i))
 | .sl3,h,[(m,.lst ts),(_,.int i),(_,.int j)]=>newL h m.kid (cut ts (some i) (some j))
 | .sl2,_,[(_,.scr ns),(_,.int i)]=>some (.d,.lst ((cut ns none (some i)).map T.int))
 | .sl1,_,[(_,.scr ns),(_,.int i)]=>some (.d,.lst ((cut ns (some i) none).map T.int))
 | .sl,_,[(_,.scr ns)]=>some (.d,.lst (ns.map T.int))
 | .sl1,_,[(_,.tup ts),(_,.int i)]=>some (.s,.tup (cut ts (some i) none))
 | .sl2,_,[(_,.tup ts),(_,.int i)]=>some (.s,.tup (cut ts none (some i)))
 | .sl3,_,[(_,.tup ts),(_,.int i),(_,.int j)]=>some (.s,.tup (cut ts (some i) (some j)))
 | .len,_,[(_,a)]=>match a with
  | .lst ts=>some (.d,.int ts.length)
  | .tup ts=>some (.d,.int ts.length)
  | .str x=>some (.d,.int x.cps.size)
  | .scr ns=>some (.d,.int ns.length)
  | _=>none
 | .isI cs,_,[(_,a)]=>if a.isG then none else some (.d,.bl (cs.any fun c=>isOne c a))
 | .list,h,[(m,a)]=>match a with
  | .lst ts=>newL h m.kid ts
  | .tup ts=>newL h m.kid ts
  | .scr ns=>some (.d,.lst (ns.map T.int))
  | _=>none
 | .tuple,_,[(m,a)]=>match a with
  | .lst ts=>some (m.kid.up,.tup ts)
  | .tup ts=>some (m,.tup ts)
  | _=>none
 | .sum,_,[(_,.lst ts)]=>(a4 ts).map fun ns=>(.d,.int ns.sum)
 | .all,_,[(_,.lst ts)]=>(aS ts).map fun bs=>(.d,.bl (bs.all id))
 | .any,_,[(_,.lst ts)]=>(aS ts).map fun bs=>(.d,.bl (bs.any id))
 | .max,_,[(_,.int i),(_,.int j)]=>some (.d,.int (if j > i then j else i))
 | .min,_,[(_,.int i),(_,.int j)]=>some (.d,.int (if j < i then j else i))
 | .rng,_,[(_,.int i),(_,.int j)]=>if decide (i.natAbs < 4611686018427387904)&&decide (j.natAbs < 4611686018427387904)&&fits (j-i).toNat then some (.d,.lst ((a0N (j-i).toNat).map fun (k:Nat)=>T.int (i+k))) else none
 | .isin,_,[(_,a),(n,b)]=>(elems (n,b)).bind fun ts=>if flatT a&&ts.all flatT then some (.d,.bl (ts.any fun t=>eqT t a)) else none
 | .notin,_,[(_,a),(n,b)]=>(elems (n,b)).bind fun ts=>if flatT a&&ts.all flatT then some (.d,.bl (!ts.any fun t=>eqT t a)) else none
 | .int,_,[(_,.int i)]=>some (.d,.int i)
 | .int,_,[(_,.bl b)]=>some (.d,.int (b2i b))
 | .abs,_,[(_,.int i)]=>some (.d,.int i.natAbs)
 | .max1,_,[(_,.lst ts)]=>(a4 ts).bind fun ns=>if ns.isEmpty then none else some (.d,.int (xj ns))
 | .min1,_,[(_,.lst ts)]=>(a4 ts).bind fun ns=>if ns.isEmpty then none else some (.d,.int (x9 ns))
 | .sorted,_,[(_,.lst ts)]=>(a4 ts).bind fun ns=>if decide (ns.length < 64) then some (.d,.lst ((rD ns).map T.int)) else none
 | .str,_,[(_,.int i)]=>if decide (i.natAbs < 10000000000000000000) then some (.d,.str (vU i)) else none
 | .intS,_,[(_,.str x)]=>if decide ((sr x).natAbs < 10000000000000000000)&&(vU (sr x)==x) then some (.d,.int (sr x)) else none
 | .join,_,[(_,.str z),(_,.lst ts)]=>(cq ts).bind fun ss=>if sOk (Str.join z ss)&&decide ((ss.map fun s=>s.cps.size+z.cps.size).sum<=LIM) then some (.d,.str (Str.join z ss)) else none
 | .split,_,[(_,.str z),(_,.str y)]=>if (y==Str.ofString " ")&&decide (z.cps.size+2<=LIM)&&(wy z).all sOk then some (.d,.lst ((wy z).map T.str)) else none
 | .mulS,_,[(_,.str x),(_,.int k)]=>if decide (0<=k)&&decide (k<=100)&&decide (x.cps.size<=1000) then some (.d,.str ⟨(a0f k.toNat x.cps.toList).flatten.toArray⟩) else none
 | .listS,_,[(_,.str x)]=>some (.d,.lst (x.cps.toList.map fun c=>T.str ⟨#[c]⟩))
 | .apd,_,[(m,.lst ts),(_,_)]=>if m==.s then none else if decide (ts.length < LIM) then some (.d,.non) else none
 | .count,_,[(_,.lst ts),(_,.bl b)]=>(aS ts).map fun bs=>(.d,.int (bs.count b))
 | .lower,_,[(_,.str x)]=>if x.cps.toList.all (fun c=>decide (c < 128)) then some (.d,.str ⟨x.cps.map xy⟩) else none
 | .inS,_,[(_,.str x),(_,.str y)]=>some (.d,.bl (!(a0T y x 0 y.length 1).isEmpty))
 | .ninS,_,[(_,.str x),(_,.str y)]=>some (.d,.bl (!(!(a0T y x 0 y.length 1).isEmpty)))
 | .inX,_,[(_,a),(_,.tup ts)]=>if ts.all je&&ja a then some (.d,.bl (ts.any fun t=>eqT t a)) else none
 | .ninX,_,[(_,a),(_,.tup ts)]=>if ts.all je&&ja a then some (.d,.bl (!ts.any fun t=>eqT t a)) else none
 | .catT,_,[(_,.tup ts),(_,.tup us)]=>if fits (ts.length+us.length) then some (.s,.tup (ts++us)) else none
 | .dnew,_,[]=>some (.d,.dct [] [])
 | .lenSet,_,[(_,.tup ts)]=>(cq ts).bind fun ss=>if decide (ss.length < 1000) then some (.d,.int (rn ss).length) else none
 | .countS,_,[(_,.lst ts),(_,.str x)]=>(cq ts).bind fun ss=>some (.d,.int (ss.count x))
 | .sortedS,_,[(_,.lst ts)]=>(cq ts).bind fun ss=>if decide (ss.length < 64) then some (.d,.lst ((hV ss).map T.str)) else none
 | .sortedD,_,[(_,.dct ks _)]=>if decide (ks.length < 64) then some (.d,.lst ((hV ks).map T.str)) else none
 | .repr,_,[(_,t)]=>if decide (dp t<=64)&&rOk t&&fits (szR t) then some (.d,.str (datT t).shown) else none
 | .leS,_,[(_,.str x),(_,.str y)]=>some (.d,.bl (!decide (y.cps.toList < x.cps.toList)))
 | .isB,_,[(_,.bl a),(_,.bl b)]=>some (.d,.bl (a==b))
 | .isnB,_,[(_,.bl a),(_,.bl b)]=>some (.d,.bl (!(a==b)))
 | .lzip,_,[(m,a),(n,b)]=>(elems (m,a)).bind fun ts=>(elems (n,b)).bind fun us=>some ((m.kid.meet n.kid).up.up,.lst (vW ts us))
 | _,_,_=>none
noncomputable def rd:Env->Nat->Option W
 | [],_=>none
 | o::_,0=>o
 | _::η,i+1=>rd η i
noncomputable def wr:Env->Nat->Option W->Env
 | [],_,_=>[]
 | _::η,0,w=>w::η
 | o::η,i+1,w=>o::wr η i w
noncomputable abbrev put (η:Env)(i:Nat)(w:W):Env:=wr η i (some w)
noncomputable abbrev del (η:Env)(i:Nat):Env:=wr η i none
noncomputable def look:W->Option W
 | (.s,t)=>some (.s,t)
 | (_,t)=>if t.leaf=true then some (.d,t) else none
noncomputable def toS:Option W->Option W
 | some (_,t)=>some (.s,t)
 | none=>none
noncomputable def share:List Nat->Env->Env
 | [],η=>η
 | i::is,η=>share is (wr η i (toS (rd η i)))
noncomputable def lfO:Option W->Option W
 | some (_,t)=>if t.leaf=true then some (.d,t) else none
 | none=>none
noncomputable def eg:Env->Env
 | []=>[]
 | _::η=>none::eg η
noncomputable def iP:List Nat->Env->Env->Env
 | [],_,η=>η
 | i::is,η0,η=>iP is η0 (wr η i (toS (rd η0 i)))
noncomputable def ey:List Nat->Env->Env->Env
 | [],_,η=>η
 | i::is,η0,η=>ey is η0 (wr η i (lfO (rd η0 i)))
noncomputable def cR (vs ls:List Nat)(η:Env):Env:=ey ls η (iP vs η (eg η))
noncomputable def after (m:Md)(vs:List Nat)(η:Env):Env:=match m with
 | .d=>η
 | _=>share vs η
noncomputable def aM:List Nat->List W->Env->Option Env
 | [],[],η=>some η
 | i::is,w::ws,η=>aM is ws (put η i w)
 | _,_,_=>none
noncomputable def jr (m:Md):Nat->List T->List (List W)
 | _,[]=>[]
 | i,t::ts=>[(.d,.int i),(m,t)]::jr m (i+1) ts
noncomputable def xk (m n:Md):List T->List T->List (List W)
 | t::ts,u::us=>[(m,t),(n,u)]::xk m n ts us
 | _,_=>[]
noncomputable def mC:List T->Option (List (List W))
 | []=>some []
 | .tup [x,y]::ts=>(mC ts).map ([(.s,x),(.s,y)]::·)
 | _::_=>none
noncomputable def lq:List T->List T->List T->List (List W)
 | t::ts,u::us,v::vs=>[(.s,t),(.s,u),(.s,v)]::lq ts us vs
 | _,_,_=>[]
noncomputable def bo:Ik->List W->Option (List (List W))
 | .seq,[(_,.lst ts)]=>some (ts.map fun t=>[(.s,t)])
 | .seq,[(_,.tup ts)]=>some (ts.map fun t=>[(.s,t)])
 | .seq,[(_,.scr ns)]=>some (ns.map fun n=>[(.d,.int n)])
 | .rng,[(_,.int n)]=>if decide (n.natAbs < 4611686018427387904)&&fits n.toNat then some ((a0N n.toNat).map fun (k:Nat)=>[(.d,.int k)]) else none
 | .rng,[(_,.int i),(_,.int j)]=>if decide (i.natAbs < 4611686018427387904)&&decide (j.natAbs < 4611686018427387904)&&fits (j-i).toNat then some ((a0N (j-i).toNat).map fun (k:Nat)=>[(.d,.int (i+k))]) else none
 | .enm,[(_,.lst ts)]=>some (jr .s 0 ts)
 | .enmT,[(_,.tup ts)]=>some (jr .s 0 ts)
 | .zip,[(m,a),(n,b)]=>(elems (m,a)).bind fun ts=>(elems (n,b)).bind fun us=>some (xk .s .s ts us)
 | .sq2,[(_,.lst ts)]=>mC ts
 | .zip3,[(_,.lst ts),(_,.lst us),(_,.lst vs)]=>some (lq ts us vs)
 | .chr,[(_,.str x)]=>some (x.cps.toList.map fun c=>[(.d,.str ⟨#[c]⟩)])
 | _,_=>none
noncomputable abbrev Call:=Nat->List W->Res (W×List W)
noncomputable abbrev RE:=Res (W×Env)
noncomputable def lf (m:Md)(t:T):Md:=if t.leaf=true then .d else m
noncomputable def eh:List W->Md
 | []=>.d
 | w::ws=>(lf w.1 w.2).meet (eh ws)
noncomputable def aL:List W->List T
 | []=>[]
 | w::ws=>w.2::aL ws
noncomputable def ak:List Nat->Env->Env
 | [],η=>η
 | i::is,η=>ak is (del η i)
noncomputable def ios:List E->List Nat
 | []=>[]
 | .io i::es=>i::ios es
 | _::es=>ios es
noncomputable def putAll:List Nat->List W->Env->Env
 | i::is,w::ws,η=>putAll is ws (put η i w)
 | _,_,η=>η
noncomputable def vV:W->List W->Option (W×W)
 | (.s,_),_=>none
 | (m,.lst ts),[]=>(ts.getLast?).map fun t=>((m.kid,t),(m,.lst ts.dropLast))
 | (m,.lst (t::ts)),[(_,.int 0)]=>some ((m.kid,t),(m,.lst ts))
 | _,_=>none
noncomputable def rJ:W->W->Option W
 | (.s,_),_=>none
 | (m,.lst ts),(n,t)=>if ts.length < LIM then some ((m.kid.meet (lf n t)).up,.lst (ts++[t])) else none
 | _,_=>none
noncomputable def eS:W->W->Option W
 | (.s,_),_=>none
 | (m,.lst ts),(n,.lst us)=>if ts.length+us.length<=LIM then some ((m.kid.meet n.kid).up,.lst (ts++us)) else none
 | _,_=>none
noncomputable def nY (k:Str)(t:T):List Str->List T->List Str×List T
 | [],_=>([k],[t])
 | y::ys,v::vs=>if y=k then (y::ys,t::vs) else ((y::(nY k t ys vs).1),(v::(nY k t ys vs).2))
 | y::ys,[]=>(y::ys,[])
noncomputable def wd:W->W->W->Option W
 | (.s,_),_,_=>none
 | (m,.dct ks vs),(_,.str k),(_,t)=>if decide (ks.length < LIM)&&flatT t then some (m,.dct (nY k t ks vs).1 (nY k t ks vs).2) else none
 | _,_,_=>none
noncomputable def cJ:W->W->W->Option W
 | (.s,_),_,_=>none
 | (m,.lst ts),(_,.int j),(n,t)=>(ixN ts.length j).map fun k=>((m.kid.meet (lf n t)).up,.lst (ts.set k t))
 | _,_,_=>none
noncomputable def eQ:Option W->Res Unit
 | some (_,.lst _)=>.ok ()
 | _=>.no
noncomputable def x6:W->Option (List W)
 | (m,.tup ts)=>some (ts.map fun t=>(m.kid,t))
 | _=>none
noncomputable def ret {α:Type}(η:Env)(o:Option α):Res (α×Env):=match o with
 | some a=>.ok (a,η)
 | none=>.no
noncomputable def onB {α:Type}:T->(Env->Res α)->(Env->Res α)->Env->Res α
 | .bl true,f,_,η=>f η
 | .bl false,_,g,η=>g η
 | _,_,_,_=>.no
noncomputable def onT {α:Type}(f g:Env->Res α)(p:W×Env):Res α:=match truth p.1.2 with
 | some true=>f p.2
 | some false=>g p.2
 | none=>.no
noncomputable def okW {α:Type}(a:α)(η:Env):Res (α×Env):=.ok (a,η)
noncomputable def iF (p:List W×Env):RE:=.ok (((eh p.1).up,.tup (aL p.1)),p.2)
noncomputable def lj (h:Bool)(p:List W×Env):RE:=.ok ((if h then (eh p.1).up else .o .s,.lst (aL p.1)),p.2)
noncomputable def kWk (m:Md)(p:W×Env):RE:=ret p.2 (if m.le p.1.1 then some (m,p.1.2) else none)
noncomputable def kOp (o:Op)(h:Bool)(p:List W×Env):RE:=ret p.2 (oSem o h p.1)
noncomputable def jS (f:Env->RE)(p:W×Env):RE:=onT f (okW p.1) p
noncomputable def kOr (f:Env->RE)(p:W×Env):RE:=onT (okW p.1) f p
noncomputable def nL (p:W×Env):RE:=ret p.2 ((truth p.1.2).map fun b=>(.d,.bl (!b)))
noncomputable def kC3 (q:Op)(y:W)(z:W×Env):RE:=ret z.2 (oSem q false [y,z.1])
noncomputable def then' {α β:Type}(f:Env->Res (α×Env))(k:α×Env->Res β)(η:Env):Res β:=(f η).bind k
noncomputable def kC2 (o q:Op)(fc:Env->RE)(x:W)(y:W×Env):RE:=(ret y.2 (oSem o false [x,y.1])).bind fun k=>onB k.1.2 (then' fc (kC3 q y.1)) (okW (.d,.bl false)) k.2
noncomputable def kC1 (o q:Op)(fb fc:Env->RE)(x:W×Env):RE:=(fb x.2).bind (kC2 o q fc x.1)
noncomputable def kBack (is:List Nat)(η:Env)(r:W×List W):RE:=.ok (r.1,putAll is r.2 η)
noncomputable def kCall (C:Call)(f:Nat)(is:List Nat)(p:List W×Env):RE:=(C f p.1).bind (kBack is p.2)
noncomputable def fv (p:W×Env):Res (Option W×Env):=.ok (some p.1,p.2)
noncomputable def bG (f:Env->RE)(η:Env):Res (Option W×Env):=(f η).bind fv
noncomputable def lP (c f:Env->RE)(η:Env):Res (Option W×Env):=(c η).bind (onT (bG f) (okW none))
noncomputable def aG (tg:List Nat)(f:Env->Res (Option W×Env)):List (List W)->Env->List W->Res (List W×Env)
 | [],η,acc=>.ok (acc,η)
 | ws::r,η,acc=>(ofO (aM tg ws η)).bind fun η1=>(f η1).bind fun p=>aG tg f r (ak tg p.2) (acc++p.1.toList)
noncomputable def okD (w:W):Bool:=w.1==.d || w.2.leaf
noncomputable def ik (h:Bool)(q:List W×Env):RE:=ret q.2 (if h then (if q.1.all okD then some (.d,.lst (aL q.1)) else none) else some (.o .s,.lst (aL q.1)))
noncomputable def df (h:Bool)(k:Ik)(tg:List Nat)(f:Env->Res (Option W×Env))(p:List W×Env):RE:=(ret (ak tg p.2) (bo k p.1)).bind fun t=>(aG tg f t.1 t.2 []).bind (ik h)
noncomputable def l9 (f:Env->Res (List W×Env))(η:Env)(k:List W×Env->RE)(_:Unit):RE:=(f η).bind k
noncomputable def pN (i:Nat)(p:List W×Env):RE:=(ofO ((rd p.2 i).bind fun w=>vV w p.1)).bind fun r=>.ok (r.1,put p.2 i r.2)
noncomputable def ixVT:Option W->Option W->Option W
 | some (.o .s,.lst ts),some (_,.int j)=>(atI ts j).map fun t=>(.s,t)
 | some (.s,.lst ts),some (_,.int j)=>(atI ts j).map fun t=>(.s,t)
 | _,_=>none
noncomputable def kCons (w:W)(q:List W×Env):Res (List W×Env):=.ok (w::q.1,q.2)
noncomputable def aZ (f:Env->Res (List W×Env))(p:W×Env):Res (List W×Env):=(f p.2).bind (kCons p.1)
noncomputable def ni:List Nat->Md->T->Option (W×T)
 | [],m,t=>some ((m,t),.gone)
 | j::p,m,.lst ts=>(ts[j]?).bind fun t=>(ni p m.kid t).map fun r=>(r.1,.lst (ts.set j r.2))
 | j::p,m,.tup ts=>(ts[j]?).bind fun t=>(ni p m.kid t).map fun r=>(r.1,.tup (ts.set j r.2))
 | _::_,_,_=>none
noncomputable def rA (p:List Nat)(w:W):Option (W×W):=(ni p w.1 w.2).map fun r=>(r.1,(w.1,r.2))
noncomputable def yh (i:Nat)(η:Env)(r:W×W):RE:=.ok (r.1,put η i r.2)
noncomputable def j5 {α:Type}(tab:List (Str×α))(f:α->Env->RE)(p:W×Env):RE:=match p.1.2 with
 | .str x=>match tab.lookup x with
  | some a=>f a p.2
  | none=>.no
 | _=>.no
noncomputable def kCT (C:Call)(fa:Env->Res (List W×Env))(is:List Nat)(j:Nat)(η:Env):RE:=(fa η).bind (kCall C j is)
noncomputable def kIn (neg:Bool)(ks:List Str)(p:W×Env):RE:=match p.1.2 with
 | .str x=>.ok ((.d,.bl (ks.contains x != neg)),p.2)
 | _=>.no
noncomputable def okS (t:T)(η:Env):RE:=.ok ((.s,t),η)
noncomputable def qH (tab:List (Str×T))(p:W×Env):RE:=match p.1.2 with
 | .str x=>.ok ((.s,(tab.lookup x).getD .non),p.2)
 | _=>.no
noncomputable def kX (vs:List Nat)(η:Env)(p:W×Env):RE:=.ok ((lf p.1.1 p.1.2,p.1.2),after (lf p.1.1 p.1.2) vs η)
noncomputable def kIo (i:Nat)(p:List W×Env):Res (List W×Env):=(ofO (rd p.2 i)).bind fun w=>.ok (w::p.1,del p.2 i)
section
variable (C:Call)
mutual
noncomputable def evE:E->Env->RE
 | .var i,η=>ret η ((rd η i).bind look)
 | .mv i,η=>ret (del η i) (rd η i)
 | .io i,η=>ret (del η i) (rd η i)
 | .cst t,η=>.ok ((.d,t),η)
 | .glb _ t,η=>.ok ((.s,t),η)
 | .tup es,η=>(evL es η).bind iF
 | .lst h es,η=>(evL es η).bind (lj h)
 | .wk m e,η=>(evE e η).bind (kWk m)
 | .op o h es,η=>(evL es η).bind (kOp o h)
 | .and a b,η=>(evE a η).bind (jS (evE b))
 | .or a b,η=>(evE a η).bind (kOr (evE b))
 | .not a,η=>(evE a η).bind nL
 | .ifx c a b,η=>(evE c η).bind (onT (evE a) (evE b))
 | .chain o q a b c,η=>(evE a η).bind (kC1 o q (evE b) (evE c))
 | .call f es,η=>(evA es η).bind (kCall C f (ios es))
 | .comp h k src tg none elt,η=>(evL src η).bind (df h k tg (bG (evE elt)))
 | .comp h k src tg (some c) elt,η=>(evL src η).bind (df h k tg (lP (evE c) (evE elt)))
 | .pop i es,η=>(eQ (rd η i)).bind (l9 (evL es) η (pN i))
 | .lenV i,η=>ret η ((rd η i).bind fun w=>oSem .len false [w])
 | .ixV i j,η=>ret η (ixVT (rd η i) (rd η j))
 | .tupA es,η=>(evA es η).bind iF
 | .qx vs ls e,η=>(evE e (cR vs ls η)).bind (kX vs η)
 | .mvP i p,η=>(ofO ((rd η i).bind (rA p))).bind (yh i η)
 | .callT tab k es,η=>(evE k η).bind (j5 tab (kCT C (evA es) (ios es)))
 | .inT neg ks e,η=>(evE e η).bind (kIn neg ks)
 | .ixT tab e,η=>(evE e η).bind (j5 tab okS)
 | .getT tab e,η=>(evE e η).bind (qH tab)
noncomputable def evL:List E->Env->Res (List W×Env)
 | [],η=>.ok ([],η)
 | e::es,η=>(evE e η).bind (aZ (evL es))
noncomputable def evA:List E->Env->Res (List W×Env)
 | [],η=>.ok ([],η)
 | .io i::es,η=>(evA es η).bind (kIo i)
 | e::es,η=>(evE e η).bind (aZ (evA es))
end
noncomputable def kT (η:Env)(p:W×Env):Res (Bool×Env):=ret η (truth p.1.2)
noncomputable def kT2 (p:W×Env):Res (Bool×Env):=ret p.2 (truth p.1.2)
noncomputable def evX:X->E->Env->RE
 | .q vs ls,e,η=>(evE C e (cR vs ls η)).bind (kX vs η)
 | .l vs,e,η=>evE C e (share vs η)
noncomputable def evT:X->E->Env->Res (Bool×Env)
 | .q vs ls,e,η=>(evE C e (cR vs ls η)).bind (kT η)
 | .l vs,e,η=>(evE C e (share vs η)).bind kT2
noncomputable def Fl.of {α:Type}(η:Env):Res α->(α->Fl)->Fl
 | .ok a,f=>f a
 | .ex c x,_=>.ex c x η
 | .no,_=>.no
noncomputable def Fl.seq:Fl->(Env->Fl)->Fl
 | .nx η,f=>f η
 | z,_=>z
noncomputable def Fl.turn:Fl->(Env->Fl)->Fl
 | .nx η,f=>f η
 | .bk η,_=>.nx η
 | z,_=>z
noncomputable def onF:Bool->(Env->Fl)->(Env->Fl)->Env->Fl
 | true,f,_,η=>f η
 | false,_,g,η=>g η
noncomputable def eK (tg:List Nat)(f:Env->Fl):List (List W)->Env->Fl
 | [],η=>.nx η
 | ws::r,η=>Fl.of η (ofO (aM tg ws η)) fun η1=>Fl.turn (f η1) (eK tg f r)
noncomputable def kIf (f g:Env->Fl)(p:Bool×Env):Fl:=onF p.1 f g p.2
noncomputable def rl (f:Env->Fl)(g:Env->Fl)(η:Env):Fl:=Fl.turn (f η) g
noncomputable def uW (c:Env->Res (Bool×Env))(f:Env->Fl):Nat->Env->Fl
 | 0,_=>.no
 | n+1,η=>Fl.of η (c η) (kIf (rl f (uW c f n)) .nx)
noncomputable def wC:Nat:=1000000000000
noncomputable def nxO (η:Env):Option Env->Fl
 | some η=>.nx η
 | none=>.no
noncomputable def pL (i:Nat)(p:W×Env):Fl:=.nx (put p.2 i p.1)
noncomputable def rq (is:List Nat)(p:W×Env):Fl:=nxO p.2 ((x6 p.1).bind fun ws=>aM is ws p.2)
noncomputable def rO (i:Nat)(p:W×Env):Fl:=nxO p.2 (((rd p.2 i).bind fun w=>rJ w p.1).map fun w=>put p.2 i w)
noncomputable def lA (i:Nat)(p:W×Env):Fl:=nxO p.2 (((rd p.2 i).bind fun w=>eS w p.1).map fun w=>put p.2 i w)
noncomputable def l0 (i:Nat)(x:W)(q:W×Env):Fl:=nxO q.2 (((rd q.2 i).bind fun w=>cJ w q.1 x).map fun w=>put q.2 i w)
noncomputable def lJ (i:Nat)(x:W)(q:W×Env):Fl:=nxO q.2 (((rd q.2 i).bind fun w=>wd w q.1 x).map fun w=>put q.2 i w)
noncomputable def lT (i:Nat)(f:Env->RE)(η:Env)(p:W×Env):Fl:=Fl.of η (f p.2) (lJ i p.1)
noncomputable def p9 (i:Nat)(f:Env->RE)(η:Env)(p:W×Env):Fl:=Fl.of η (f p.2) (l0 i p.1)
noncomputable def jY (f:Env->RE)(η:Env)(k:W×Env->Fl)(_:Unit):Fl:=Fl.of η (f η) k
noncomputable def kNx (p:W×Env):Fl:=.nx p.2
noncomputable def kRt (p:W×Env):Fl:=.rt p.1 p.2
noncomputable def jo (tg:List Nat)(f:Env->Fl)(t:List (List W)×Env):Fl:=eK tg f t.1 t.2
noncomputable def qc (vs:List Nat)(k:Ik)(tg:List Nat)(f:Env->Fl)(η:Env)(p:List W×Env):Fl:=Fl.of η (ret (share vs η) (bo k p.1)) (jo tg f)
noncomputable def xS (k:Ik)(tg:List Nat)(f:Env->Fl)(p:List W×Env):Fl:=Fl.of p.2 (ret p.2 (bo k p.1)) (jo tg f)
mutual
noncomputable def evS:S->Env->Fl
 | .asg x i e,η=>Fl.of η (evX C x e η) (pL i)
 | .asgT x is e,η=>Fl.of η (evX C x e η) (rq is)
 | .setI x i k e,η=>Fl.of η (evX C x e η) (p9 i (evX C x k) η)
 | .setK x i k e,η=>Fl.of η (evX C x e η) (lT i (evX C x k) η)
 | .exp x e,η=>Fl.of η (evX C x e η) kNx
 | .app x i e,η=>Fl.of η (eQ (rd η i)) (jY (evX C x e) η (rO i))
 | .ext x i e,η=>Fl.of η (eQ (rd η i)) (jY (evX C x e) η (lA i))
 | .ret vs e,η=>Fl.of η (evE C e (share vs η)) kRt
 | .retN,η=>.rt (.d,.non) η
 | .ite x c a b,η=>Fl.of η (evT C x c η) (kIf (evSs a) (evSs b))
 | .forS vs ls k src tg body,η=>Fl.of η (evL C src (cR vs ls η)) (qc vs k tg (evSs body) η)
 | .forU k src tg body,η=>Fl.of η (evL C src η) (xS k tg (evSs body))
 | .whl x c body,η=>uW (evT C x c) (evSs body) wC η
 | .brk,η=>.bk η
 | .pas,η=>.nx η
 | .stop,_=>.no
 | .tri body,η=>evSs body η
noncomputable def evSs:List S->Env->Fl
 | [],η=>.nx η
 | s::r,η=>Fl.seq (evS s η) (evSs r)
end
end
noncomputable def backs:List Nat->Env->Option (List W)
 | [],_=>some []
 | i::is,η=>(rd η i).bind fun w=>(backs is η).bind fun ws=>some (w::ws)
noncomputable def mB (w:W)(b:List W):Res (W×List W):=.ok (w,b)
noncomputable def Fl.out (io:List Nat):Fl->Res (W×List W)
 | .nx η=>(ofO (backs io η)).bind (mB (.d,.non))
 | .rt w η=>(ofO (backs io η)).bind (mB w)
 | .ex c x _=>.ex c x
 | _=>.no
noncomputable def runF (C:Call)(f:Fn)(ws:List W):Res (W×List W) :=
 if ws.length=f.ps then Fl.out f.io (evSs C f.body (ws.map some++a0f f.ns none)) else .no
noncomputable abbrev yR:=List Fn
noncomputable def vH (n:Nat):List W->Res (W×List W)
 | [(m,t)]=>if (lf m t==.d&&(decide (dp t<=n)&&decide (dp t<=64)))=true then .ok ((.d,.non),[]) else .no
 | _=>.no
noncomputable def qV:List Nat->List T->List T
 | [],_=>[]
 | n::ns,ts=>.lst (ts.take n)::qV ns (ts.drop n)
noncomputable def l6:List T->Option (List Nat)
 | []=>some []
 | .int (.ofNat n)::ts=>(l6 ts).map (n::·)
 | _::_=>none
noncomputable def x5:List W->Res (W×List W)
 | [(_,.lst ls),(m,.lst ts)]=>(ofO (l6 ls)).bind fun ns=>.ok ((m.kid.up.up,.lst (qV ns ts)),[])
 | _=>.no
noncomputable def callR (P:yR)(s r:Nat):Nat->Call
 | 0=>fun _ _=>.no
 | n+1=>fun f ws=>if f=s then vH n ws else if f=r then x5 ws else (ofO P[f]?).bind fun d=>runF (callR P s r n) d ws
noncomputable abbrev zf:Fn:={ ps:=0,ns:=0,io:=[],body:=[.stop] }
theorem zf_no (C:Call)(ws:List W):runF C zf ws=.no:=by cases ws<;>rfl
theorem tX (C:Call)(i:Nat)(η:Env):evE C (.var i) η=ret η ((rd η i).bind look):=rfl
theorem uv (C:Call)(i:Nat)(η:Env):evE C (.mv i) η=ret (del η i) (rd η i):=rfl
theorem vB (C:Call)(i:Nat)(η:Env):evE C (.io i) η=ret (del η i) (rd η i):=rfl
theorem ue (C:Call)(t:T)(η:Env):evE C (.cst t) η=.ok ((.d,t),η):=rfl
theorem sQ (C:Call)(es:List E)(η:Env):evE C (.tup es) η=(evL C es η).bind iF:=rfl
theorem rM (C:Call)(h:Bool)(es:List E)(η:Env):evE C (.lst h es) η=(evL C es η).bind (lj h):=rfl
theorem vF (C:Call)(o:Op)(h:Bool)(es:List E)(η:Env):evE C (.op o h es) η=(evL C es η).bind (kOp o h):=rfl
theorem n3 (C:Call)(a:E)(b:E)(η:Env):evE C (.and a b) η=(evE C a η).bind (jS (evE C b)):=rfl
theorem oW (C:Call)(a:E)(b:E)(η:Env):evE C (.or a b) η=(evE C a η).bind (kOr (evE C b)):=rfl
theorem ph (C:Call)(a:E)(η:Env):evE C (.not a) η=(evE C a η).bind nL:=rfl
theorem pU (C:Call)(c:E)(a:E)(b:E)(η:Env):evE C (.ifx c a b) η=(evE C c η).bind (onT (evE C a) (evE C b)):=rfl
theorem oE (C:Call)(o:Op)(q:Op)(a:E)(b:E)(c:E)(η:Env):evE C (.chain o q a b c) η=(evE C a η).bind (kC1 o q (evE C b) (evE C c)):=rfl
theorem pR (C:Call)(f:Nat)(es:List E)(η:Env):evE C (.call f es) η=(evA C es η).bind (kCall C f (ios es)):=rfl
theorem oG (C:Call)(h:Bool)(k:Ik)(src:List E)(tg:List Nat)(elt:E)(η:Env):evE C (.comp h k src tg none elt) η=(evL C src η).bind (df h k tg (bG (evE C elt))):=rfl
theorem qf (C:Call)(h:Bool)(k:Ik)(src:List E)(tg:List Nat)(c:E)(elt:E)(η:Env):evE C (.comp h k src tg (some c) elt) η=(evL C src η).bind (df h k tg (lP (evE C c) (evE C elt))):=rfl
theorem pV (C:Call)(i:Nat)(es:List E)(η:Env):evE C (.pop i es) η=(eQ (rd η i)).bind (l9 (evL C es) η (pN i)):=rfl
theorem dY (h:Bool)(m n:Md)(ts:List T)(i:Int):oSem .sl2 h [(m,.lst ts),(n,.int i)]=newL h m.kid (cut ts none (some i)):=rfl
theorem eI (h:Bool)(m n:Md)(ts:List T)(i:Int):oSem .sl1 h [(m,.lst ts),(n,.int i)]=newL h m.kid (cut ts (some i) none):=rfl
theorem va (h:Bool)(m n:Md)(ts:List T)(k:Int):oSem .mul h [(m,.lst ts),(n,.int k)]=if decide (k.natAbs < 4611686018427387904)&&fits (ts.length * k.toNat) then newL h .s (a0f k.toNat ts).flatten else none:=rfl
noncomputable def lkM:Md->Md
 | .s=>.s | _=>.d
theorem zg:lkM .s=.s:=rfl
theorem yU:lkM .d=.d:=rfl
theorem zo (m:Md):lkM (.o m)=.d:=rfl
theorem xE (m:Md)(i:Int):look (m,.int i)=some (lkM m,.int i):=by cases m<;>rfl
theorem xf (m:Md)(b:Bool):look (m,.bl b)=some (lkM m,.bl b):=by cases m<;>rfl
theorem wH (m:Md)(x:Str):look (m,.str x)=some (lkM m,.str x):=by cases m<;>rfl
theorem wD (m:Md):look (m,.non)=some (lkM m,.non):=by cases m<;>rfl
theorem vC (m n k:Md)(ts us vs:List T):bo .zip3 [(m,.lst ts),(n,.lst us),(k,.lst vs)]=some (lq ts us vs):=rfl
theorem jP (C:Call)(i j:Nat)(η:Env):evE C (.ixV i j) η=ret η (ixVT (rd η i) (rd η j)):=rfl
theorem sH (m:Md)(ts:List T)(j:Int):ixVT (some (.o .s,.lst ts)) (some (m,.int j))=(atI ts j).map fun t=>(.s,t):=rfl
theorem uq (m:Md)(ts:List T)(j:Int):ixVT (some (.s,.lst ts)) (some (m,.int j))=(atI ts j).map fun t=>(.s,t):=rfl
theorem jR (C:Call)(i j:Nat)(es:List E)(η:Env):evA C (.ixV i j::es) η=(evE C (.ixV i j) η).bind (aZ (evA C es)):=rfl
theorem uc (C:Call)(η:Env):evA C [] η=.ok ([],η):=rfl
theorem tF (C:Call)(i:Nat)(es:List E)(η:Env):evA C (.io i::es) η=(evA C es η).bind (kIo i):=rfl
theorem kj (C:Call)(i:Nat)(es:List E)(η:Env):evA C (.var i::es) η=(evE C (.var i) η).bind (aZ (evA C es)):=rfl
theorem nA (C:Call)(i:Nat)(es:List E)(η:Env):evA C (.mv i::es) η=(evE C (.mv i) η).bind (aZ (evA C es)):=rfl
theorem kg (C:Call)(t:T)(es:List E)(η:Env):evA C (.cst t::es) η=(evE C (.cst t) η).bind (aZ (evA C es)):=rfl
theorem jQ (C:Call)(l:List E)(es:List E)(η:Env):evA C (.tup l::es) η=(evE C (.tup l) η).bind (aZ (evA C es)):=rfl
theorem kh (C:Call)(h:Bool)(l:List E)(es:List E)(η:Env):evA C (.lst h l::es) η=(evE C (.lst h l) η).bind (aZ (evA C es)):=rfl
theorem lI (C:Call)(o:Op)(h:Bool)(l:List E)(es:List E)(η:Env):evA C (.op o h l::es) η=(evE C (.op o h l) η).bind (aZ (evA C es)):=rfl
theorem ki (C:Call)(a b:E)(es:List E)(η:Env):evA C (.and a b::es) η=(evE C (.and a b) η).bind (aZ (evA C es)):=rfl
theorem lW (C:Call)(a b:E)(es:List E)(η:Env):evA C (.or a b::es) η=(evE C (.or a b) η).bind (aZ (evA C es)):=rfl
theorem kv (C:Call)(a:E)(es:List E)(η:Env):evA C (.not a::es) η=(evE C (.not a) η).bind (aZ (evA C es)):=rfl
theorem ir (C:Call)(o p:Op)(a b c:E)(es:List E)(η:Env):evA C (.chain o p a b c::es) η=(evE C (.chain o p a b c) η).bind (aZ (evA C es)):=rfl
theorem iG (C:Call)(f:Nat)(l:List E)(es:List E)(η:Env):evA C (.call f l::es) η=(evE C (.call f l) η).bind (aZ (evA C es)):=rfl
theorem iK (C:Call)(h:Bool)(k:Ik)(src:List E)(tg:List Nat)(cnd:Option E)(elt:E)(es:List E)(η:Env):evA C (.comp h k src tg cnd elt::es) η=(evE C (.comp h k src tg cnd elt) η).bind (aZ (evA C es)):=rfl
theorem evA_eq {C:Call}{e:E}{es:List E}{η:Env}(he:∀ i,e≠.io i):evA C (e::es) η=(evE C e η).bind (aZ (evA C es)):=by
 cases e with
 | io i=>exact absurd rfl (he i)
 | _=>rfl
theorem oX (C:Call)(η:Env):evL C ([]) η=.ok ([],η):=rfl
theorem nS (C:Call)(e:E)(es:List E)(η:Env):evL C (e::es) η=(evE C e η).bind (aZ (evL C es)):=rfl
theorem pI (C:Call)(x:X)(i:Nat)(e:E)(η:Env):evS C (.asg x i e) η=Fl.of η (evX C x e η) (pL i):=rfl
theorem oY (C:Call)(x:X)(is:List Nat)(e:E)(η:Env):evS C (.asgT x is e) η=Fl.of η (evX C x e η) (rq is):=rfl
theorem iM (C:Call)(x:X)(i:Nat)(k:E)(e:E)(η:Env):evS C (.setK x i k e) η=Fl.of η (evX C x e η) (lT i (evX C x k) η):=rfl
theorem pj (C:Call)(x:X)(i:Nat)(k:E)(e:E)(η:Env):evS C (.setI x i k e) η=Fl.of η (evX C x e η) (p9 i (evX C x k) η):=rfl
theorem pM (C:Call)(x:X)(e:E)(η:Env):evS C (.exp x e) η=Fl.of η (evX C x e η) kNx:=rfl
theorem pS (C:Call)(x:X)(i:Nat)(e:E)(η:Env):evS C (.app x i e) η=Fl.of η (eQ (rd η i)) (jY (evX C x e) η (rO i)):=rfl
theorem pF (C:Call)(x:X)(i:Nat)(e:E)(η:Env):evS C (.ext x i e) η=Fl.of η (eQ (rd η i)) (jY (evX C x e) η (lA i)):=rfl
theorem n9 (C:Call)(vs:List Nat)(e:E)(η:Env):evS C (.ret vs e) η=Fl.of η (evE C e (share vs η)) kRt:=rfl
theorem om (C:Call)(η:Env):evS C (.retN) η=.rt (.d,.non) η:=rfl
theorem pd (C:Call)(x:X)(c:E)(a:List S)(b:List S)(η:Env):evS C (.ite x c a b) η=Fl.of η (evT C x c η) (kIf (evSs C a) (evSs C b)):=rfl
theorem oa (C:Call)(vs:List Nat)(ls:List Nat)(k:Ik)(src:List E)(tg:List Nat)(body:List S)(η:Env):evS C (.forS vs ls k src tg body) η=Fl.of η (evL C src (cR vs ls η)) (qc vs k tg (evSs C body) η):=rfl
theorem pP (C:Call)(x:X)(c:E)(body:List S)(η:Env):evS C (.whl x c body) η=uW (evT C x c) (evSs C body) wC η:=rfl
theorem qO (C:Call)(η:Env):evS C (.brk) η=.bk η:=rfl
theorem oe (C:Call)(η:Env):evS C (.pas) η=.nx η:=rfl
theorem m6 (C:Call)(η:Env):evSs C ([]) η=.nx η:=rfl
theorem lU (C:Call)(s:S)(r:List S)(η:Env):evSs C (s::r) η=Fl.seq (evS C s η) (evSs C r):=rfl
theorem o7 (C:Call)(vs:List Nat)(ls:List Nat)(e:E)(η:Env):evX C (.q vs ls) e η=(evE C e (cR vs ls η)).bind (kX vs η):=rfl
theorem qL (C:Call)(vs:List Nat)(e:E)(η:Env):evX C (.l vs) e η=evE C e (share vs η):=rfl
theorem pk (C:Call)(vs:List Nat)(ls:List Nat)(e:E)(η:Env):evT C (.q vs ls) e η=(evE C e (cR vs ls η)).bind (kT η):=rfl
theorem qP (C:Call)(vs:List Nat)(e:E)(η:Env):evT C (.l vs) e η=(evE C e (share vs η)).bind kT2:=rfl
theorem vr {α β:Type}(a:α)(f:α->Res β):(Res.ok a).bind f=f a:=rfl
theorem yJ {α:Type}(η:Env)(a:α)(f:α->Fl):Fl.of η (.ok a) f=f a:=rfl
theorem uD (η:Env)(f:Env->Fl):Fl.seq (.nx η) f=f η:=rfl
theorem t8 (w:W)(η:Env)(f:Env->Fl):Fl.seq (.rt w η) f=.rt w η:=rfl
theorem vm (η:Env)(f:Env->Fl):Fl.seq (.bk η) f=.bk η:=rfl
theorem pq (η:Env)(f:Env->Fl):Fl.turn (.nx η) f=f η:=rfl
theorem qQ (w:W)(η:Env)(f:Env->Fl):Fl.turn (.rt w η) f=.rt w η:=rfl
theorem oC (η:Env)(f:Env->Fl):Fl.turn (.bk η) f=.nx η:=rfl
theorem u6 {α:Type}(f g:Env->Res α)(η:Env):onB (.bl true) f g η=f η:=rfl
theorem vg {α:Type}(f g:Env->Res α)(η:Env):onB (.bl false) f g η=g η:=rfl
theorem ug {α:Type}(f g:Env->Res α)(m:Md)(b:Bool)(η:Env):onT f g ((m,.bl b),η)=onB (.bl b) f g η:=by cases b<;>rfl
theorem rK {α:Type}(f g:Env->Res α)(m:Md)(η:Env):onT f g ((m,.bl true),η)=f η:=rfl
theorem rW {α:Type}(f g:Env->Res α)(m:Md)(η:Env):onT f g ((m,.bl false),η)=g η:=rfl
theorem tY (f g:Env->Fl)(η:Env):onF true f g η=f η:=rfl
theorem vp (f g:Env->Fl)(η:Env):onF false f g η=g η:=rfl
theorem yB {α:Type}(a:α):ofO (some a)=.ok a:=rfl
theorem yw {α:Type}(η:Env)(a:α):ret η (some a)=.ok (a,η):=rfl
theorem v9 (o:Option W)(η:Env):rd (o::η) 0=o:=rfl
theorem xG (o:Option W)(η:Env)(i:Nat):rd (o::η) (i+1)=rd η i:=rfl
theorem yo (o w:Option W)(η:Env):wr (o::η) 0 w=w::η:=rfl
theorem w9 (o w:Option W)(η:Env)(i:Nat):wr (o::η) (i+1) w=o::wr η i w:=rfl
theorem qB (t:T):look (.s,t)=some (.s,t):=rfl
theorem oh (m:Md)(i:Int):(look (.d,.int i))=some (.d,.int i):=rfl
theorem qp (m:Md)(b:Bool):(look (.d,.bl b))=some (.d,.bl b):=rfl
theorem p7 (x:Str):(look (.d,.str x))=some (.d,.str x):=rfl
theorem oQ:(look (.d,.non))=some (.d,.non):=rfl
theorem xY (m:Md)(t:T):toS (some (m,t))=some (.s,t):=rfl
theorem tf:toS none=none:=rfl
theorem kN (η:Env):share [] η=η:=rfl
theorem kS (i:Nat)(is:List Nat)(η:Env):share (i::is) η=share is (wr η i (toS (rd η i))):=rfl
theorem m7:eg []=[]:=rfl
theorem nh (o:Option W)(η:Env):eg (o::η)=none::eg η:=rfl
theorem so (vs ls:List Nat)(η:Env):cR vs ls η=ey ls η (iP vs η (eg η)):=rfl
theorem oD (η0 η:Env):iP [] η0 η=η:=rfl
theorem qF (i:Nat)(is:List Nat)(η0 η:Env):iP (i::is) η0 η=iP is η0 (wr η i (toS (rd η0 i))):=rfl
theorem lV (η0 η:Env):ey [] η0 η=η:=rfl
theorem kZ (i:Nat)(is:List Nat)(η0 η:Env):ey (i::is) η0 η=ey is η0 (wr η i (lfO (rd η0 i))):=rfl
theorem yx (m:Md)(i:Int):lfO (some (m,.int i))=some (.d,.int i):=rfl
theorem yr (m:Md)(b:Bool):lfO (some (m,.bl b))=some (.d,.bl b):=rfl
theorem xi (m:Md)(x:Str):lfO (some (m,.str x))=some (.d,.str x):=rfl
theorem wK (m:Md):lfO (some (m,.non))=some (.d,.non):=rfl
theorem kL (vs:List Nat)(η:Env):after .d vs η=η:=rfl
theorem nC (vs:List Nat)(η:Env):after .s vs η=share vs η:=rfl
theorem nN (m:Md)(vs:List Nat)(η:Env):after (.o m) vs η=share vs η:=rfl
theorem t9 (m:Md)(i:Int):lf m (.int i)=.d:=rfl
theorem t7 (m:Md)(b:Bool):lf m (.bl b)=.d:=rfl
theorem uG (m:Md)(x:Str):lf m (.str x)=.d:=rfl
theorem tS (m:Md):lf m .non=.d:=rfl
theorem rF (m:Md)(ts:List T):lf m (.lst ts)=m:=rfl
theorem tq (m:Md)(ts:List T):lf m (.tup ts)=m:=rfl
theorem vI (t:T):lf .d t=.d:=by unfold lf; split<;>rfl
theorem sU (m:Md):Md.s.le m=true:=by cases m<;>rfl
theorem oK:Md.d.le .d=true:=rfl
theorem oI (m:Md):(Md.o m).le .d=true:=rfl
theorem n4 (m n:Md):(Md.o m).le (.o n)=m.le n:=rfl
theorem vP (h:Bool)(m n:Md)(i j:Int):oSem .add h [(m,.int i),(n,.int j)]=some (.d,.int (i+j)):=rfl
theorem mH (h:Bool)(m n:Md)(ts us:List T):oSem .add h [(m,.lst ts),(n,.lst us)]=if fits (ts.length+us.length) then newL h (m.kid.meet n.kid) (ts++us) else none:=rfl
theorem l5 (h:Bool)(m n:Md)(x y:Str):oSem .add h [(m,.str x),(n,.str y)]=if fits (x.cps.size+y.cps.size) then some (.d,.str (x++y)) else none:=rfl
theorem lN (h:Bool)(m n:Md)(ts us:List T):oSem .add h [(m,.tup ts),(n,.tup us)]=if fits (ts.length+us.length)&&!ts.isEmpty then some (.s,.tup (ts++us)) else none:=rfl
theorem xq (h:Bool)(m n:Md)(i j:Int):oSem .sub h [(m,.int i),(n,.int j)]=some (.d,.int (i-j)):=rfl
theorem lu (h:Bool)(m n:Md)(i j:Int):oSem .mul h [(m,.int i),(n,.int j)]=if (decide (i.natAbs < 18446744073709551616)) || (decide (j.natAbs < 18446744073709551616)) then some (.d,.int (i * j)) else none:=rfl
theorem mX (h:Bool)(m n:Md)(i j:Int):oSem .fdiv h [(m,.int i),(n,.int j)]=if decide (0 < j)&&decide (j < 1073741824) then some (.d,.int (i / j)) else none:=rfl
theorem rB (h:Bool)(m n:Md)(i j:Int):oSem .mod h [(m,.int i),(n,.int j)]=if decide (0 < j) then some (.d,.int (i % j)) else none:=rfl
theorem xN (h:Bool)(m n:Md)(i j:Int):oSem .pow h [(m,.int i),(n,.int j)]=if decide (0<=j)&&decide (j<=1000000)&&decide (i.natAbs < 18446744073709551616) then some (.d,.int (i ^ j.toNat)) else none:=rfl
theorem xX (h:Bool)(m:Md)(i:Int):oSem .neg h [(m,.int i)]=some (.d,.int (-i)):=rfl
theorem uu (h:Bool)(m n:Md)(i j:Int):oSem .eq h [(m,.int i),(n,.int j)]=some (.d,.bl (i==j)):=rfl
theorem ui (h:Bool)(m n:Md)(x y:Str):oSem .eq h [(m,.str x),(n,.str y)]=some (.d,.bl (x==y)):=rfl
theorem uQ (h:Bool)(m n:Md)(a b:Bool):oSem .eq h [(m,.bl a),(n,.bl b)]=some (.d,.bl (a==b)):=rfl
theorem vE (h:Bool)(m n:Md)(i j:Int):oSem .ne h [(m,.int i),(n,.int j)]=some (.d,.bl (!(i==j))):=rfl
theorem tR (h:Bool)(m n:Md)(x y:Str):oSem .ne h [(m,.str x),(n,.str y)]=some (.d,.bl (!(x==y))):=rfl
theorem vw (h:Bool)(m n:Md)(a b:Bool):oSem .ne h [(m,.bl a),(n,.bl b)]=some (.d,.bl (!(a==b))):=rfl
theorem ze (h:Bool)(m n:Md)(i j:Int):oSem .lt h [(m,.int i),(n,.int j)]=some (.d,.bl (decide (i < j))):=rfl
theorem y9 (h:Bool)(m n:Md)(i j:Int):oSem .le h [(m,.int i),(n,.int j)]=some (.d,.bl (decide (i<=j))):=rfl
theorem yE (h:Bool)(m n:Md)(i j:Int):oSem .gt h [(m,.int i),(n,.int j)]=some (.d,.bl (decide (j < i))):=rfl
theorem yD (h:Bool)(m n:Md)(i j:Int):oSem .ge h [(m,.int i),(n,.int j)]=some (.d,.bl (decide (j<=i))):=rfl
theorem xH (h:Bool)(m n:Md)(ts:List T)(i:Int):oSem .ix h [(m,.lst ts),(n,.int i)]=(atI ts i).map fun t=>(m.kid,t):=rfl
theorem wU (h:Bool)(m n:Md)(ts:List T)(i:Int):oSem .ix h [(m,.tup ts),(n,.int i)]=(atI ts i).map fun t=>(m.kid,t):=rfl
theorem uI (h:Bool)(m:Md)(ts:List T):oSem .len h [(m,.lst ts)]=some (.d,.int ts.length):=rfl
theorem rP (h:Bool)(m:Md)(ts:List T):oSem .len h [(m,.tup ts)]=some (.d,.int ts.length):=rfl
theorem vN (h:Bool)(m:Md)(ns:List Int):oSem .len h [(m,.scr ns)]=some (.d,.int ns.length):=rfl
theorem xn (h:Bool)(m n:Md)(ns:List Int)(i:Int):oSem .ix h [(m,.scr ns),(n,.int i)]=(atI ns i).map fun n=>(.d,.int n):=rfl
theorem xP (h:Bool)(m n:Md)(ns:List Int)(i:Int):oSem .sl2 h [(m,.scr ns),(n,.int i)]=some (.d,.lst ((cut ns none (some i)).map T.int)):=rfl
theorem uR (m:Md)(ns:List Int):lf m (.scr ns)=.d:=rfl
theorem vX (m:Md)(ns:List Int):lfO (some (m,.scr ns))=some (.d,.scr ns):=rfl
theorem qk (ns:List Int):look (.d,.scr ns)=some (.d,.scr ns):=rfl
theorem uk (h:Bool)(m:Md)(x:Str):oSem .len h [(m,.str x)]=some (.d,.int x.cps.size):=rfl
theorem wX (cs:List String)(h:Bool)(m:Md)(a:T):oSem (.isI cs) h [(m,a)]=if a.isG then none else some (.d,.bl (cs.any fun c=>isOne c a)):=rfl
theorem yA:T.isG .non=false:=rfl
theorem zj (b:Bool):T.isG (.bl b)=false:=rfl
theorem yj (i:Int):T.isG (.int i)=false:=rfl
theorem xD (x:Str):T.isG (.str x)=false:=rfl
theorem wZ (ts:List T):T.isG (.tup ts)=false:=rfl
theorem vT (ts:List T):T.isG (.lst ts)=false:=rfl
theorem wY (ns:List Int):T.isG (.scr ns)=false:=rfl
theorem xg:T.isN .non=true:=rfl
theorem zc (b:Bool):T.isN (.bl b)=false:=rfl
theorem xw (i:Int):T.isN (.int i)=false:=rfl
theorem we (x:Str):T.isN (.str x)=false:=rfl
theorem wM (ts:List T):T.isN (.tup ts)=false:=rfl
theorem wO (ts:List T):T.isN (.lst ts)=false:=rfl
theorem dW (h:Bool)(m:Md)(ts:List T):oSem .list h [(m,.lst ts)]=newL h m.kid ts:=rfl
theorem dh (h:Bool)(m:Md)(ts:List T):oSem .list h [(m,.tup ts)]=newL h m.kid ts:=rfl
theorem tD (h:Bool)(m n:Md)(a:T)(ts:List T):oSem .isin h [(m,a),(n,.tup ts)]=if flatT a&&ts.all flatT then some (.d,.bl (ts.any fun t=>eqT t a)) else none:=rfl
theorem n6 (h:Bool)(m n:Md)(a:T)(ts:List T):oSem .isin h [(m,a),(n,.lst ts)]=if flatT a&&ts.all flatT then some (.d,.bl (ts.any fun t=>eqT t a)) else none:=rfl
theorem p5 (h:Bool)(m:Md)(x:Str):oSem .lower h [(m,.str x)]=if x.cps.toList.all (fun c=>decide (c < 128)) then some (.d,.str ⟨x.cps.map xy⟩) else none:=rfl
theorem vZ (h:Bool)(m n:Md)(x y:Str):oSem .inS h [(m,.str x),(n,.str y)]=some (.d,.bl (!(a0T y x 0 y.length 1).isEmpty)):=rfl
theorem rZ (h:Bool)(m n:Md)(x y:Str):oSem .ninS h [(m,.str x),(n,.str y)]=some (.d,.bl (!(!(a0T y x 0 y.length 1).isEmpty))):=rfl
theorem v8 (h:Bool)(m n:Md)(a:T)(ts:List T):oSem .inX h [(m,a),(n,.tup ts)]=if ts.all je&&ja a then some (.d,.bl (ts.any fun t=>eqT t a)) else none:=rfl
theorem tQ (h:Bool)(m n:Md)(a:T)(ts:List T):oSem .ninX h [(m,a),(n,.tup ts)]=if ts.all je&&ja a then some (.d,.bl (!ts.any fun t=>eqT t a)) else none:=rfl
theorem xF (h:Bool)(m n:Md)(x y:Str):oSem .leS h [(m,.str x),(n,.str y)]=some (.d,.bl (!decide (y.cps.toList < x.cps.toList))):=rfl
theorem sW (h:Bool)(m n:Md)(ts us:List T):oSem .catT h [(m,.tup ts),(n,.tup us)]=if fits (ts.length+us.length) then some (.s,.tup (ts++us)) else none:=rfl
theorem lH (h:Bool)(m:Md)(ts:List T):oSem .lenSet h [(m,.tup ts)]=(cq ts).bind fun ss=>if decide (ss.length < 1000) then some (.d,.int (rn ss).length) else none:=rfl
theorem l8 (h:Bool)(m n:Md)(ts:List T)(x:Str):oSem .countS h [(m,.lst ts),(n,.str x)]=(cq ts).bind fun ss=>some (.d,.int (ss.count x)):=rfl
theorem cQ (h:Bool)(m:Md)(t:T):oSem .repr h [(m,t)]=if decide (dp t<=64)&&rOk t&&fits (szR t) then some (.d,.str (datT t).shown) else none:=rfl
theorem tJ (h:Bool):oSem .dnew h []=some (.d,.dct [] []):=rfl
theorem kA (h:Bool)(m:Md)(ts:List T):oSem .sortedS h [(m,.lst ts)]=(cq ts).bind fun ss=>if decide (ss.length < 64) then some (.d,.lst ((hV ss).map T.str)) else none:=rfl
theorem kr (h:Bool)(m:Md)(ks:List Str)(vs:List T):oSem .sortedD h [(m,.dct ks vs)]=if decide (ks.length < 64) then some (.d,.lst ((hV ks).map T.str)) else none:=rfl
theorem uy (m:Md)(ts:List T):bo .enmT [(m,.tup ts)]=some (jr .s 0 ts):=rfl
theorem wV (m:Md)(x:Str):bo .chr [(m,.str x)]=some (x.cps.toList.map fun c=>[(.d,.str ⟨#[c]⟩)]):=rfl
theorem oO (h:Bool)(m n:Md)(i j:Int):oSem .fdivN h [(m,.int i),(n,.int j)]=if (j != 0)&&decide (j.natAbs < 18446744073709551616) then some (.d,.int (i.fdiv j)) else none:=rfl
theorem tL (h:Bool)(m n:Md)(i j:Int):oSem .modN h [(m,.int i),(n,.int j)]=if j != 0 then some (.d,.int (i.fmod j)) else none:=rfl
theorem wo (h:Bool)(m n:Md)(a b:Bool):oSem .isB h [(m,.bl a),(n,.bl b)]=some (.d,.bl (a==b)):=rfl
theorem su (h:Bool)(m n:Md)(a b:Bool):oSem .isnB h [(m,.bl a),(n,.bl b)]=some (.d,.bl (!(a==b))):=rfl
theorem mf (h:Bool)(m:Md)(ts:List T):oSem .tuple h [(m,.lst ts)]=some (m.kid.up,.tup ts):=rfl
theorem wQ (h:Bool)(m:Md)(ts:List T):oSem .sum h [(m,.lst ts)]=(a4 ts).map fun ns=>(.d,.int ns.sum):=rfl
theorem xt (h:Bool)(m:Md)(ts:List T):oSem .all h [(m,.lst ts)]=(aS ts).map fun bs=>(.d,.bl (bs.all id)):=rfl
theorem sL (m:Md)(ts:List T):newL true m ts=if leaves ts then some (.d,.lst ts) else none:=rfl
theorem uw (m:Md)(ts:List T):newL false m ts=some (m.up,.lst ts):=rfl
theorem sv (m:Md)(ts:List T):bo .seq [(m,.lst ts)]=some (ts.map fun t=>[(.s,t)]):=rfl
theorem sj (m:Md)(ts:List T):bo .seq [(m,.tup ts)]=some (ts.map fun t=>[(.s,t)]):=rfl
theorem lG (m:Md)(n:Int):bo .rng [(m,.int n)]=if decide (n.natAbs < 4611686018427387904)&&fits n.toNat then some ((a0N n.toNat).map fun (k:Nat)=>[(.d,.int k)]) else none:=rfl
theorem ly (η:Env):aM [] [] η=some η:=rfl
theorem kI (i:Nat)(is:List Nat)(w:W)(ws:List W)(η:Env):aM (i::is) (w::ws) η=aM is ws (put η i w):=rfl
theorem yq {α β:Type}(f:α->β)(a:α):(some a).map f=some (f a):=rfl
theorem lD (b:Bool):truth (.bl b)=some b:=rfl
theorem nI (i:Int):truth (.int i)=some (i != 0):=rfl
theorem qM {α β:Type}(a:α)(f:α->Option β):(some a).bind f=f a:=rfl
theorem pf:Md.s.kid=.s:=rfl
theorem oS:Md.d.kid=.d:=rfl
theorem o8 (m:Md):(Md.o m).kid=m:=rfl
theorem rL:Md.s.up=.o .s:=rfl
theorem sA:Md.d.up=.d:=rfl
theorem sP (m:Md):(Md.o m).up=.o (.o m):=rfl
theorem mP (m:Md):Md.s.meet m=.s:=by cases m<;>rfl
theorem dq (m:Md):Md.d.meet m=m:=by cases m<;>rfl
theorem ka (m:Md):(Md.o m).meet .s=.s:=rfl
theorem km (m:Md):(Md.o m).meet .d=.o m:=rfl
theorem ko (m n:Md):(Md.o m).meet (.o n)=.o (m.meet n):=rfl
theorem vd (n:Md)(ts:List T)(t:T):rJ (.d,.lst ts) (n,t)=if ts.length < LIM then some ((lf n t).up,.lst (ts++[t])) else none:=by show (if _ then some ((Md.d.meet _).up,_) else none)=_; rw [dq]
theorem tU (m n:Md)(ts:List T)(t:T):rJ (.o m,.lst ts) (n,t)=if ts.length < LIM then some ((m.meet (lf n t)).up,.lst (ts++[t])) else none:=rfl
theorem vj (n:Md)(ts us:List T):eS (.d,.lst ts) (n,.lst us)=if ts.length+us.length<=LIM then some (n.kid.up,.lst (ts++us)) else none:=by show (if _ then some ((Md.d.meet _).up,_) else none)=_; rw [dq]
theorem uH (m n:Md)(ts us:List T):eS (.o m,.lst ts) (n,.lst us)=if ts.length+us.length<=LIM then some ((m.meet n.kid).up,.lst (ts++us)) else none:=rfl
theorem rS (l n:Md)(ts:List T)(t:T)(j:Int):cJ (.d,.lst ts) (l,.int j) (n,t)=(ixN ts.length j).map fun k=>((lf n t).up,.lst (ts.set k t)):=by show ((ixN ts.length j).map fun k=>((Md.d.meet _).up,_))=_; rw [dq]
theorem uZ (m l n:Md)(ts:List T)(t:T)(j:Int):cJ (.o m,.lst ts) (l,.int j) (n,t)=(ixN ts.length j).map fun k=>((m.meet (lf n t)).up,.lst (ts.set k t)):=rfl
theorem vA (m:Md)(ts:List T):eQ (some (m,.lst ts))=.ok ():=rfl
theorem tE (m:Md)(ts:List T):x6 (m,.tup ts)=some (ts.map fun t=>(m.kid,t)):=rfl
theorem xC (η η':Env):nxO η (some η')=.nx η':=rfl
theorem mT (η:Env):backs [] η=some []:=rfl
theorem mO (i:Nat)(is:List Nat)(η:Env):backs (i::is) η=(rd η i).bind fun w=>(backs is η).bind fun ws=>some (w::ws):=rfl
theorem sC (io:List Nat)(η:Env):Fl.out io (.nx η)=(ofO (backs io η)).bind (mB (.d,.non)):=rfl
theorem vO (io:List Nat)(w:W)(η:Env):Fl.out io (.rt w η)=(ofO (backs io η)).bind (mB w):=rfl
theorem x_run (C:Call)(f:Fn)(ws:List W)(h:ws.length=f.ps):runF C f ws=Fl.out f.io (evSs C f.body (ws.map some++a0f f.ns none)):=if_pos h
theorem at0 {α:Type}(a:α)(l:List α):atI (a::l) 0=some a:=by simp [atI,ixN]
theorem atN {α:Type}{xs:List α}{i:Int}{n:Nat}{a:α}(hi:i=n)(h:xs[n]?=some a):atI xs i=some a:=by
 subst hi
 have:=(a0o.mp h).1
 rw [atI,ixN,if_pos (by omega),if_pos (by omega)]
 exact h
theorem at1 {α:Type}(a b:α)(l:List α):atI (a::b::l) 1=some b:=atN (n:=1) rfl rfl
theorem at2 {α:Type}(a b c:α)(l:List α):atI (a::b::c::l) 2=some c:=atN (n:=2) rfl rfl
theorem at3 {α:Type}(a b c d:α)(l:List α):atI (a::b::c::d::l) 3=some d:=atN (n:=3) rfl rfl
theorem at4 {α:Type}(a b c d e:α)(l:List α):atI (a::b::c::d::e::l) 4=some e:=atN (n:=4) rfl rfl
theorem aU {α:Type}{tg:List Nat}{f:Env->Res (Option W×Env)}{η:Env}{g:α->List W}(w:α->W):∀ (ts:List α) (acc:List W),(∀ x∈ts,∃ η1 η2,aM tg (g x) η=some η1/\f η1=.ok (some (w x),η2)/\ak tg η2=η) ->
  aG tg f (ts.map g) η acc=.ok (acc++ts.map w,η)
 | [],acc,_=>by rw [a1V,a1V,a0L]; rfl
 | x::ts,acc,h=>by
  obtain ⟨η1,η2,h1,h2,h3⟩:=h x a0g
  rw [a0y,a0y]
  show (ofO (aM tg (g x) η)).bind _=_
  rw [h1]
  show (f η1).bind _=_
  rw [h2]
  show aG tg f (ts.map g) (ak tg η2) (acc++[w x])=_
  rw [h3,aU w ts _ fun y hy=>h y (a0c _ hy),a0R]
  rfl
theorem dA {α:Type}{tg:List Nat}{f:Env->Res (Option W×Env)}{g:α->List W}(I:List α->Env->List W->Prop):∀ (ts pre:List α) (η:Env) (acc:List W),I pre η acc ->
  (∀ p x r η acc,pre++ts=p++x::r->I p η acc->∃ η1 o η2,aM tg (g x) η=some η1/\f η1=.ok (o,η2)/\I (p++[x]) (ak tg η2) (acc++o.toList)) ->
  ∃ ws η',aG tg f (ts.map g) η acc=.ok (ws,η')/\I (pre++ts) η' ws
 | [],pre,η,acc,h,_=>⟨acc,η,rfl,by rw [a0L]; exact h⟩
 | x::ts,pre,η,acc,h,k=>by
  obtain ⟨η1,o,η2,h1,h2,h3⟩:=k pre x ts η acc rfl h
  obtain ⟨ws,η',e,hi⟩:=dA I ts (pre++[x]) (ak tg η2) (acc++o.toList) h3 (fun p y r η acc e=>k p y r η acc (by rw [<- e,a0R]; rfl))
  refine ⟨ws,η',?_,by rw [a0R] at hi; exact hi⟩
  rw [a0y]
  show (ofO (aM tg (g x) η)).bind _=_
  rw [h1]
  show (f η1).bind _=_
  rw [h2]
  exact e
theorem jy {α:Type}{tg:List Nat}{f:Env->Fl}{g:α->List W}(st:List α->Env):∀ (ts pre:List α),(∀ p x r,pre++ts=p++x::r->∃ η1,aM tg (g x) (st p)=some η1/\f η1=.nx (st (p++[x]))) ->
  eK tg f (ts.map g) (st pre)=.nx (st (pre++ts))
 | [],pre,_=>by rw [a0L]; rfl
 | x::ts,pre,h=>by
  obtain ⟨η1,h1,h2⟩:=h pre x ts rfl
  rw [a0y]
  show Fl.of _ (ofO (aM tg (g x) (st pre))) _=_
  rw [h1]
  show Fl.turn (f η1) _=_
  rw [h2]
  show eK tg f (ts.map g) (st (pre++[x]))=_
  rw [jy st ts (pre++[x]) fun p y r e=>h p y r (by rw [<- e,a0R]; rfl),a0R]
  rfl
theorem i4 {α:Type}(g:α->T)(ts:List α):(ts.map fun x=>((Md.d,g x):W)).all okD=true:=by
 rw [List.all_map,a0z]; intro x _; rfl
end M

namespace MR
open L2 L3 M
open PySem (Addr Str sizeLine)
noncomputable abbrev Fp:=Addr->Prop
noncomputable def ScrR (K:a0a)(H:Hp)(a:Addr)(ns:List Int):Prop:=(∃ o,H a=some (.frz o (.lst (ns.map V.int))))\/SqL K (fun _=>none) a (ns.map V.int)
theorem ScrR.sq {K:a0a}{H:Hp}{a:Addr}{ns:List Int}(h:ScrR K H a ns):SqL K H a (ns.map V.int):=by
 rcases h with ⟨o,h⟩ | ((h | ⟨o,h⟩) | h)
 ·exact .inl (.inr ⟨o,h⟩)
 ·cases h
 ·cases h
 ·exact .inr h
theorem ScrR.keep {K:a0a}{H H':Hp}{a:Addr}{ns:List Int}(s:∀ a o u,H a=some (.frz o u)->H' a=some (.frz o u))(h:ScrR K H a ns):ScrR K H' a ns:=h.imp (fun ⟨o,e⟩=>⟨o,s a o _ e⟩) id
noncomputable def LstR (K:a0a)(Z:Fp)(H:Hp)(G:Fp)(a:Addr)(xs:List V):Md->Prop
 | .s=>Z a/\H a=some (.lst xs)
 | _=>G a/\H a=some (.lst xs)
noncomputable def mkD (ks:List Str)(xs:List V):List (Key×V):=(ks.map a16).zip xs
noncomputable def DctR (Z:Fp)(H:Hp)(G:Fp)(a:Addr)(o:HO):Md->Prop
 | .s=>Z a/\H a=some o
 | _=>G a/\H a=some o
noncomputable def dmd:Md->Md
 | .d=>.d
 | _=>.s
mutual
noncomputable def Rep (K:a0a)(Z:Fp)(H:Hp):Md->T->V->Fp->Prop
 | _,.non,v,_=>v=.non
 | _,.bl b,v,_=>v=.bl b
 | _,.int i,v,_=>v=.int i
 | _,.str x,v,_=>v=.str x/\sOk x=true
 | m,.tup ts,v,G=>∃ a xs,v=.ref a/\SqT K H a xs/\xs.length<=LIM/\RepL K Z H m.kid ts xs G
 | m,.lst ts,v,G=>∃ a xs,v=.ref a/\xs.length<=LIM/\LstR K Z H G a xs m/\RepL K Z H m.kid ts xs (fun b=>G b/\b≠a)
 | m,.dct ks vs,v,G=>∃ a xs,v=.ref a/\ks.length<=LIM/\DctR Z H G a (.dK (mkD ks xs)) m/\(ks.Nodup/\∀ k∈ks,sOk k=true)/\vs.length=ks.length/\RepL K Z H (dmd m) vs xs (fun _=>False)
 | _,.ins _ _ _,_,_=>False
 | _,.gone,_,_=>True
 | _,.scr ns,v,_=>∃ a,v=.ref a/\ns.length<=LIM/\ScrR K H a ns
noncomputable def RepL (K:a0a)(Z:Fp)(H:Hp):Md->List T->List V->Fp->Prop
 | _,[],xs,_=>xs=[]
 | m,t::ts,xs,G=>∃ x r G1 G2,xs=x::r/\(∀ a,G1 a->G a)/\(∀ a,G2 a->G a)/\(∀ a,G1 a->¬ G2 a)/\Rep K Z H m t x G1/\RepL K Z H m ts r G2
end
section
variable {K:a0a}{Z Z':Fp}{H H':Hp}{m:Md}{t:T}{ts:List T}{v:V}{xs:List V}{G G':Fp}
theorem LstR.mono {a:Addr}(w:∀ a,G a->G' a)(h:LstR K Z H G a xs m):LstR K Z H G' a xs m:=by
 cases m with
 | s=>exact h
 | d=>exact ⟨w _ h.1,h.2⟩
 | o m=>exact ⟨w _ h.1,h.2⟩
theorem DctR.mono {a:Addr}{o:HO}(w:∀ a,G a->G' a)(h:DctR Z H G a o m):DctR Z H G' a o m:=by
 cases m with
 | s=>exact h
 | d=>exact ⟨w _ h.1,h.2⟩
 | o m=>exact ⟨w _ h.1,h.2⟩
mutual
theorem Rep.mono:∀ {m:Md} {t:T} {v:V} {G G':Fp},(∀ a,G a->G' a)->Rep K Z H m t v G->Rep K Z H m t v G'
 | _,.non,_,_,_,_,h=>h
 | _,.bl _,_,_,_,_,h=>h
 | _,.int _,_,_,_,_,h=>h
 | _,.str _,_,_,_,_,h=>h
 | m,.tup ts,v,G,G',w,⟨a,xs,e,q,l,r⟩=>⟨a,xs,e,q,l,RepL.mono w r⟩
 | m,.lst ts,v,G,G',w,⟨a,xs,e,l,q,r⟩=>⟨a,xs,e,l,q.mono w,RepL.mono (fun b hb=>⟨w b hb.1,hb.2⟩) r⟩
 | m,.dct ks vs,v,G,G',w,⟨a,xs,e,l,q,n,hl,r⟩=>⟨a,xs,e,l,q.mono w,n,hl,r⟩
 | _,.ins _ _ _,_,_,_,_,h=>h.elim
 | _,.gone,_,_,_,_,h=>h
 | _,.scr _,_,_,_,_,h=>h
theorem RepL.mono:∀ {m:Md} {ts:List T} {xs:List V} {G G':Fp},(∀ a,G a->G' a)->RepL K Z H m ts xs G->RepL K Z H m ts xs G'
 | _,[],_,_,_,_,h=>h
 | m,t::ts,xs,G,G',w,⟨x,r,G1,G2,e,h1,h2,hd,p,q⟩=>⟨x,r,G1,G2,e,fun a ha=>w a (h1 a ha),fun a ha=>w a (h2 a ha),hd,p,q⟩
end
noncomputable def Stay (Z:Fp)(H H':Hp):Prop:=(∀ a o,Z a->H a=some o->H' a=some o)/\(∀ a xs,Rd H a (.tup xs)->Rd H' a (.tup xs))/\∀ a o u,H a=some (.frz o u)->H' a=some (.frz o u)
theorem Stay.sqt (s:Stay Z H H'){a:Addr}(h:SqT K H a xs):SqT K H' a xs:=by
 rcases h with h | h
 ·exact .inl (s.2.1 a xs h)
 ·exact .inr h
theorem LstR.keep {a:Addr}(s:Stay Z H H')(z:∀ a,Z a->Z' a)(g:∀ a o,G a->H a=some o->H' a=some o)(h:LstR K Z H G a xs m):LstR K Z' H' G a xs m:=by
 cases m with
 | s=>exact ⟨z _ h.1,s.1 _ _ h.1 h.2⟩
 | d=>exact ⟨h.1,g _ _ h.1 h.2⟩
 | o m=>exact ⟨h.1,g _ _ h.1 h.2⟩
theorem DctR.keep {a:Addr}{o:HO}(s:Stay Z H H')(z:∀ a,Z a->Z' a)(g:∀ a o,G a->H a=some o->H' a=some o)(h:DctR Z H G a o m):DctR Z' H' G a o m:=by
 cases m with
 | s=>exact ⟨z _ h.1,s.1 _ _ h.1 h.2⟩
 | d=>exact ⟨h.1,g _ _ h.1 h.2⟩
 | o m=>exact ⟨h.1,g _ _ h.1 h.2⟩
mutual
theorem Rep.keep (s:Stay Z H H')(z:∀ a,Z a->Z' a):∀ {m:Md} {t:T} {v:V} {G:Fp},(∀ a o,G a->H a=some o->H' a=some o)->Rep K Z H m t v G->Rep K Z' H' m t v G
 | _,.non,_,_,_,h=>h
 | _,.bl _,_,_,_,h=>h
 | _,.int _,_,_,_,h=>h
 | _,.str _,_,_,_,h=>h
 | m,.tup ts,v,G,g,⟨a,xs,e,q,l,r⟩=>⟨a,xs,e,s.sqt q,l,RepL.keep s z g r⟩
 | m,.lst ts,v,G,g,⟨a,xs,e,l,q,r⟩=>⟨a,xs,e,l,q.keep s z g,RepL.keep s z (fun b o hb=>g b o hb.1) r⟩
 | m,.dct ks vs,v,G,g,⟨a,xs,e,l,q,n,hl,r⟩=>⟨a,xs,e,l,q.keep s z g,n,hl,RepL.keep s z (fun _ _ hb=>hb.elim) r⟩
 | _,.ins _ _ _,_,_,_,h=>h.elim
 | _,.gone,_,_,_,h=>h
 | _,.scr _,_,_,_,⟨a,e,l,q⟩=>⟨a,e,l,q.keep s.2.2⟩
theorem RepL.keep (s:Stay Z H H')(z:∀ a,Z a->Z' a):∀ {m:Md} {ts:List T} {xs:List V} {G:Fp},(∀ a o,G a->H a=some o->H' a=some o)->RepL K Z H m ts xs G->RepL K Z' H' m ts xs G
 | _,[],_,_,_,h=>h
 | m,t::ts,xs,G,g,⟨x,r,G1,G2,e,h1,h2,hd,p,q⟩=>⟨x,r,G1,G2,e,h1,h2,hd,Rep.keep s z (fun a o ha=>g a o (h1 a ha)) p,RepL.keep s z (fun a o ha=>g a o (h2 a ha)) q⟩
end
theorem fm (Z:Fp)(H:Hp):Stay Z H H:=⟨fun _ _ _ h=>h,fun _ _ h=>h,fun _ _ _ h=>h⟩
theorem Rep.zmono (z:∀ a,Z a->Z' a)(h:Rep K Z H m t v G):Rep K Z' H m t v G:=h.keep (fm Z H) z fun _ _ _ q=>q
theorem RepL.zmono (z:∀ a,Z a->Z' a)(h:RepL K Z H m ts xs G):RepL K Z' H m ts xs G:=h.keep (fm Z H) z fun _ _ _ q=>q
theorem RepL.length:∀ {ts:List T} {xs:List V} {G:Fp},RepL K Z H m ts xs G->xs.length=ts.length
 | [],_,_,h=>by rw [show _=[] from h]; rfl
 | _::_,_,_,⟨x,r,G1,G2,e,_,_,_,_,q⟩=>by rw [e,a0n,a0n,RepL.length q]
theorem RepL.get:∀ {ts:List T} {xs:List V} {G:Fp} {i:Nat} {t:T},RepL K Z H m ts xs G->ts[i]?=some t->∃ x,xs[i]?=some x/\Rep K Z H m t x G
 | [],_,_,_,_,_,e=>by simp at e
 | _::_,_,_,0,_,⟨x,r,G1,G2,e,h1,_,_,p,_⟩,e2=>by
  rw [a1i] at e2; cases e2
  exact ⟨x,by rw [e]; rfl,p.mono h1⟩
 | _::_,_,_,i+1,_,⟨x,r,G1,G2,e,_,h2,_,_,q⟩,e2=>by
  rw [a0s] at e2
  obtain ⟨y,hy,p⟩:=RepL.get q e2
  exact ⟨y,by rw [e,a0s]; exact hy,p.mono h2⟩
theorem RepL.append:∀ {ts us:List T} {xs ys:List V} {G1 G2 G:Fp},(∀ a,G1 a->G a)->(∀ a,G2 a->G a)->(∀ a,G1 a->¬ G2 a)->RepL K Z H m ts xs G1->RepL K Z H m us ys G2->RepL K Z H m (ts++us) (xs++ys) G
 | [],us,xs,ys,G1,G2,G,w1,w2,d,h,k=>by rw [show xs=[] from h]; exact k.mono w2
 | t::ts,us,xs,ys,G1,G2,G,w1,w2,d,⟨x,r,A,B,e,h1,h2,hd,p,q⟩,k=>by
  rw [e]
  refine ⟨x,r++ys,A,fun a=>B a\/G2 a,rfl,fun a ha=>w1 a (h1 a ha),fun a ha=>ha.elim (fun z=>w1 a (h2 a z)) (w2 a),fun a ha hb=>hb.elim (hd a ha) (d a (h1 a ha)),p,?_⟩
  exact RepL.append (fun a z=>.inl z) (fun a z=>.inr z) (fun a ha=>d a (h2 a ha)) q k
theorem RepL.take:∀ {ts:List T} {xs:List V} {G:Fp} (n:Nat),RepL K Z H m ts xs G->RepL K Z H m (ts.take n) (xs.take n) G
 | [],_,_,n,h=>by rw [show _=[] from h,a2J,a2J]; rfl
 | _::_,_,_,0,h=>rfl
 | _::_,_,_,n+1,⟨x,r,A,B,e,h1,h2,hd,p,q⟩=>by rw [e]; exact ⟨x,r.take n,A,B,rfl,h1,h2,hd,p,RepL.take n q⟩
theorem RepL.drop:∀ {ts:List T} {xs:List V} {G:Fp} (n:Nat),RepL K Z H m ts xs G->RepL K Z H m (ts.drop n) (xs.drop n) G
 | [],_,_,n,h=>by rw [show _=[] from h,a2K,a2K]; rfl
 | _::_,_,_,0,h=>h
 | _::_,_,_,n+1,⟨x,r,A,B,e,h1,h2,hd,p,q⟩=>by rw [e]; exact (RepL.drop n q).mono h2
theorem Rep.leaf {m':Md}(hs:∀ a o u,H a=some (.frz o u)->H' a=some (.frz o u))(hl:t.leaf=true)(h:Rep K Z H m t v G):Rep K Z' H' m' t v G':=by
 cases t with
 | non=>exact h
 | bl _=>exact h
 | int _=>exact h
 | str _=>exact h
 | scr _=>obtain ⟨a,e,l,q⟩:=h; exact ⟨a,e,l,q.keep hs⟩
 | _=>cases hl
theorem RepL.leaves {m':Md}(hs:∀ a o u,H a=some (.frz o u)->H' a=some (.frz o u)):∀ {ts:List T} {xs:List V} {G G':Fp},leaves ts=true->RepL K Z H m ts xs G->RepL K Z' H' m' ts xs G'
 | [],_,_,_,_,h=>h
 | t::ts,_,_,G',hl,⟨x,r,A,B,e,h1,h2,hd,p,q⟩=>by
  have h':(t.leaf&&ts.all T.leaf)=true:=hl
  rw [a0i] at h'
  exact ⟨x,r,fun _=>False,fun _=>False,e,fun _ z=>z.elim,fun _ z=>z.elim,fun _ z=>z.elim,p.leaf hs h'.1,RepL.leaves hs h'.2 q⟩
noncomputable def no:Fp:=fun _=>False
mutual
theorem Rep.sh:∀ {m:Md} {t:T} {v:V} {G:Fp},Rep K Z H m t v G->Rep K (fun a=>Z a\/G a) H .s t v no
 | _,.non,_,_,h=>h
 | _,.bl _,_,_,h=>h
 | _,.int _,_,_,h=>h
 | _,.str _,_,_,h=>h
 | m,.tup ts,v,G,⟨a,xs,e,q,l,r⟩=>⟨a,xs,e,q,l,RepL.sh r⟩
 | m,.lst ts,v,G,⟨a,xs,e,l,q,r⟩=>⟨a,xs,e,l,by
   cases m with
   | s=>exact ⟨.inl q.1,q.2⟩
   | d=>exact ⟨.inr q.1,q.2⟩
   | o m=>exact ⟨.inr q.1,q.2⟩,(RepL.zmono (fun b hb=>hb.elim .inl fun z=>.inr z.1) (RepL.sh r)).mono fun _ z=>z.elim⟩
 | m,.dct ks vs,v,G,⟨a,xs,e,l,q,n,hl,r⟩=>⟨a,xs,e,l,by
   cases m with
   | s=>exact ⟨.inl q.1,q.2⟩
   | d=>exact ⟨.inr q.1,q.2⟩
   | o m=>exact ⟨.inr q.1,q.2⟩,n,hl,RepL.zmono (fun b hb=>hb.elim .inl fun z=>z.elim) (RepL.sh r)⟩
 | _,.ins _ _ _,_,_,h=>h.elim
 | _,.gone,_,_,h=>h
 | _,.scr _,_,_,h=>h
theorem RepL.sh:∀ {m:Md} {ts:List T} {xs:List V} {G:Fp},RepL K Z H m ts xs G->RepL K (fun a=>Z a\/G a) H .s ts xs no
 | _,[],_,_,h=>h
 | m,t::ts,xs,G,⟨x,r,G1,G2,e,h1,h2,hd,p,q⟩=>⟨x,r,no,no,e,fun _ z=>z,fun _ z=>z,fun _ z _=>z,Rep.zmono (fun b hb=>hb.imp id (h1 b)) (Rep.sh p),RepL.zmono (fun b hb=>hb.imp id (h2 b)) (RepL.sh q)⟩
end
theorem y3:∀ a:Md,a.le .d=true
 | .s=>rfl | .d=>rfl | .o _=>rfl
theorem fK:∀ a:Md,a.le a=true
 | .s=>rfl | .d=>rfl | .o a=>fK a
theorem ia:∀ {a b c:Md},a.le b=true->b.le c=true->a.le c=true
 | .s,_,.s,_,_=>rfl
 | .s,_,.d,_,_=>rfl
 | .s,_,.o _,_,_=>rfl
 | .o a,.o b,.o c,h,k=>ia (a:=a) (b:=b) (c:=c) h k
 | .o a,.o b,.d,h,k=>rfl
 | .o a,.d,.d,h,k=>rfl
 | .d,.d,.d,_,_=>rfl
 | .d,.s,_,h,_=>by cases h
 | .d,.o _,_,h,_=>by cases h
 | .o _,.s,_,h,_=>by cases h
 | .o _,.o _,.s,_,k=>by cases k
 | .o _,.d,.s,_,k=>by cases k
 | .o _,.d,.o _,_,k=>by cases k
 | .d,.d,.s,_,k=>by cases k
 | .d,.d,.o _,_,k=>by cases k
theorem b0:∀ a b:Md,(a.meet b).le a=true/\(a.meet b).le b=true
 | .s,.s=>⟨rfl,rfl⟩
 | .s,.d=>⟨rfl,rfl⟩
 | .s,.o _=>⟨rfl,rfl⟩
 | .d,.s=>⟨rfl,rfl⟩
 | .d,.d=>⟨rfl,rfl⟩
 | .d,.o b=>⟨rfl,fK b⟩
 | .o _,.s=>⟨rfl,rfl⟩
 | .o a,.d=>⟨fK a,rfl⟩
 | .o a,.o b=>b0 a b
theorem lQ:∀ {a b:Md},a.le b=true->a.kid.le b.kid=true
 | .s,.s,_=>rfl
 | .s,.d,_=>rfl
 | .s,.o _,_=>by first | rfl | exact (by cases ‹Md›<;>rfl)
 | .o a,.o b,h=>h
 | .o a,.d,_=>y3 a
 | .d,.d,_=>rfl
 | .d,.s,h=>by cases h
 | .d,.o _,h=>by cases h
 | .o _,.s,h=>by cases h
theorem du:∀ a:Md,a.up.kid=a
 | .s=>rfl | .d=>rfl | .o _=>rfl
theorem cD (a:Md):a.up≠.s:=by cases a<;>intro h<;>cases h
theorem LstR.own {a:Addr}(hm:m≠.s):LstR K Z H G a xs m ↔ G a/\H a=some (.lst xs):=by
 cases m with
 | s=>exact absurd rfl hm
 | d=>exact Iff.rfl
 | o m=>exact Iff.rfl
noncomputable abbrev bQ (Z G G':Fp):Fp:=fun a=>Z a\/(G a/\¬ G' a)
mutual
theorem Rep.weak:∀ {m m':Md} {t:T} {v:V} {G:Fp},m'.le m=true->Rep K Z H m t v G->∃ G',(∀ a,G' a->G a)/\Rep K (bQ Z G G') H m' t v G'
 | m,m',.non,_,G,_,h=>⟨G,fun _ z=>z,h⟩
 | m,m',.bl _,_,G,_,h=>⟨G,fun _ z=>z,h⟩
 | m,m',.int _,_,G,_,h=>⟨G,fun _ z=>z,h⟩
 | m,m',.str _,_,G,_,h=>⟨G,fun _ z=>z,h⟩
 | m,m',.scr _,_,G,_,h=>⟨G,fun _ z=>z,h⟩
 | m,m',.tup ts,v,G,hm,⟨a,xs,e,q,l,r⟩=>by
  obtain ⟨G',h1,h2⟩:=RepL.weak (lQ hm) r
  exact ⟨G',h1,a,xs,e,q,l,h2⟩
 | m,m',.lst ts,v,G,hm,h=>by
  cases m' with
  | s=>exact ⟨no,fun _ z=>z.elim,(Rep.sh h).zmono fun a ha=>ha.imp id fun z=>⟨z,fun q=>q⟩⟩
  | d =>
   cases m with
   | s=>cases hm
   | o _=>cases hm
   | d=>exact ⟨G,fun _ z=>z,h.zmono fun _ z=>.inl z⟩
  | o k =>
   have hne:m≠.s:=by rintro rfl; cases hm
   obtain ⟨a,xs,e,l,q,r⟩:=h
   rw [LstR.own hne] at q
   obtain ⟨G',h1,h2⟩:=RepL.weak (lQ hm) r
   refine ⟨fun b=>G' b\/b=a,fun b hb=>hb.elim (fun z=>(h1 b z).1) (fun z=>z ▸ q.1),a,xs,e,l,⟨.inr rfl,q.2⟩,?_⟩
   refine (h2.zmono fun b hb=>?_).mono fun b hb=>⟨.inl hb,(h1 b hb).2⟩
   rcases hb with z | ⟨⟨z1,z2⟩,z3⟩
   ·exact .inl z
   ·exact .inr ⟨z1,fun q=>q.elim z3 z2⟩
 | m,m',.dct ks vs,v,G,hm,h=>by
  cases m' with
  | s=>exact ⟨no,fun _ z=>z.elim,(Rep.sh h).zmono fun a ha=>ha.imp id fun z=>⟨z,fun q=>q⟩⟩
  | d =>
   cases m with
   | s=>cases hm
   | o _=>cases hm
   | d=>exact ⟨G,fun _ z=>z,h.zmono fun _ z=>.inl z⟩
  | o k =>
   obtain ⟨a,xs,e,l,q,n,hl,r⟩:=h
   cases m with
   | s=>cases hm
   | d=>exact ⟨G,fun _ z=>z,a,xs,e,l,q,n,hl,RepL.zmono (fun b hb=>hb.elim .inl fun z=>z.elim) (RepL.sh r)⟩
   | o k'=>exact ⟨G,fun _ z=>z,a,xs,e,l,q,n,hl,RepL.zmono (fun b hb=>.inl hb) r⟩
 | _,_,.ins _ _ _,_,_,_,h=>h.elim
 | m,m',.gone,_,G,_,h=>⟨G,fun _ z=>z,h⟩
theorem RepL.weak:∀ {m m':Md} {ts:List T} {xs:List V} {G:Fp},m'.le m=true->RepL K Z H m ts xs G->∃ G',(∀ a,G' a->G a)/\RepL K (bQ Z G G') H m' ts xs G'
 | m,m',[],_,G,_,h=>⟨G,fun _ z=>z,h⟩
 | m,m',t::ts,xs,G,hm,⟨x,r,G1,G2,e,h1,h2,hd,p,q⟩=>by
  obtain ⟨A,a1,a2⟩:=Rep.weak hm p
  obtain ⟨B,b1,b2⟩:=RepL.weak hm q
  refine ⟨fun b=>A b\/B b,fun b hb=>hb.elim (fun z=>h1 b (a1 b z)) (fun z=>h2 b (b1 b z)),x,r,A,B,e,fun _ z=>.inl z,fun _ z=>.inr z,fun b za zb=>hd b (a1 b za) (b1 b zb),?_,?_⟩
  ·refine a2.zmono fun b hb=>hb.imp id fun z=>⟨h1 b z.1,fun q=>q.elim z.2 fun w=>hd b z.1 (b1 b w)⟩
  ·refine b2.zmono fun b hb=>hb.imp id fun z=>⟨h2 b z.1,fun q=>q.elim (fun w=>hd b (a1 b w) z.1) z.2⟩
end
noncomputable def RepW (K:a0a)(Z:Fp)(H:Hp):List W->List V->Fp->Prop
 | [],xs,_=>xs=[]
 | w::ws,xs,G=>∃ x r G1 G2,xs=x::r/\(∀ a,G1 a->G a)/\(∀ a,G2 a->G a)/\(∀ a,G1 a->¬ G2 a)/\Rep K Z H w.1 w.2 x G1/\RepW K Z H ws r G2
theorem RepW.length:∀ {ws:List W} {xs:List V} {G:Fp},RepW K Z H ws xs G->xs.length=ws.length
 | [],_,_,h=>by rw [show _=[] from h]; rfl
 | _::_,_,_,⟨x,r,G1,G2,e,_,_,_,_,q⟩=>by rw [e,a0n,a0n,RepW.length q]
theorem RepW.mono:∀ {ws:List W} {xs:List V} {G G':Fp},(∀ a,G a->G' a)->RepW K Z H ws xs G->RepW K Z H ws xs G'
 | [],_,_,_,_,h=>h
 | _::_,_,_,_,w,⟨x,r,G1,G2,e,h1,h2,hd,p,q⟩=>⟨x,r,G1,G2,e,fun a ha=>w a (h1 a ha),fun a ha=>w a (h2 a ha),hd,p,q⟩
theorem RepW.keep (s:Stay Z H H')(z:∀ a,Z a->Z' a):∀ {ws:List W} {xs:List V} {G:Fp},(∀ a o,G a->H a=some o->H' a=some o)->RepW K Z H ws xs G->RepW K Z' H' ws xs G
 | [],_,_,_,h=>h
 | _::_,_,_,g,⟨x,r,G1,G2,e,h1,h2,hd,p,q⟩=>⟨x,r,G1,G2,e,h1,h2,hd,p.keep s z fun a o ha=>g a o (h1 a ha),RepW.keep s z (fun a o ha=>g a o (h2 a ha)) q⟩
theorem RepW.append:∀ {ws us:List W} {xs ys:List V} {G1 G2 G:Fp},(∀ a,G1 a->G a)->(∀ a,G2 a->G a)->(∀ a,G1 a->¬ G2 a)->RepW K Z H ws xs G1->RepW K Z H us ys G2->RepW K Z H (ws++us) (xs++ys) G
 | [],us,xs,ys,G1,G2,G,w1,w2,d,h,k=>by rw [show xs=[] from h]; exact k.mono w2
 | t::ts,us,xs,ys,G1,G2,G,w1,w2,d,⟨x,r,A,B,e,h1,h2,hd,p,q⟩,k=>by
  rw [e]
  refine ⟨x,r++ys,A,fun a=>B a\/G2 a,rfl,fun a ha=>w1 a (h1 a ha),fun a ha=>ha.elim (fun z=>w1 a (h2 a z)) (w2 a),fun a ha hb=>hb.elim (hd a ha) (d a (h1 a ha)),p,?_⟩
  exact RepW.append (fun a z=>.inl z) (fun a z=>.inr z) (fun a ha=>d a (h2 a ha)) q k
theorem RepW.one {w:W}{x:V}(p:Rep K Z H w.1 w.2 x G):RepW K Z H [w] [x] G:=⟨x,[],G,no,rfl,fun _ h=>h,fun _ h=>h.elim,fun _ _ h=>h,p,rfl⟩
theorem dX:∀ {ws:List W} {w:W},w∈ws->(eh ws).le (lf w.1 w.2)=true
 | u::ws,w,h=>by
  rcases a0v.mp h with z | z
  ·subst z; exact (b0 _ _).1
  ·exact ia (b0 _ _).2 (dX z)
theorem Rep.lf (h:Rep K Z H m t v G):Rep K Z H (M.lf m t) t v G:=by
 unfold M.lf
 split
 ·rename_i hl; exact h.leaf (fun _ _ _ q=>q) hl
 ·exact h
theorem RepW.to {N:Md}:∀ {ws:List W} {xs:List V} {G:Fp},(∀ w∈ws,N.le (M.lf w.1 w.2)=true)->RepW K Z H ws xs G->∃ G',(∀ a,G' a->G a)/\RepL K (bQ Z G G') H N (aL ws) xs G'
 | [],_,G,_,h=>⟨G,fun _ z=>z,h⟩
 | w::ws,xs,G,hm,⟨x,r,G1,G2,e,h1,h2,hd,p,q⟩=>by
  obtain ⟨A,a1,a2⟩:=Rep.weak (hm w a0g) p.lf
  obtain ⟨B,b1,b2⟩:=RepW.to (fun u hu=>hm u (a0c _ hu)) q
  refine ⟨fun b=>A b\/B b,fun b hb=>hb.elim (fun z=>h1 b (a1 b z)) (fun z=>h2 b (b1 b z)),x,r,A,B,e,fun _ z=>.inl z,fun _ z=>.inr z,fun b za zb=>hd b (a1 b za) (b1 b zb),?_,?_⟩
  ·refine a2.zmono fun b hb=>hb.imp id fun z=>⟨h1 b z.1,fun q=>q.elim z.2 fun w=>hd b z.1 (b1 b w)⟩
  ·refine b2.zmono fun b hb=>hb.imp id fun z=>⟨h2 b z.1,fun q=>q.elim (fun w=>hd b (a1 b w) z.1) z.2⟩
end
noncomputable def OO:=List V ⊕ List (Key×V)
noncomputable def OO.ho:OO->HO
 | .inl xs=>.lst xs
 | .inr kvs=>.dK kvs
noncomputable def Own (Z:Fp)(H:Hp)(F:Fp):Prop:=∀ a,F a->¬ Z a/\∃ xs:OO,H a=some xs.ho
theorem mh {xs:List V}{ys:OO}(e:some (HO.tup xs)=some ys.ho):False:=by cases ys<;>cases e
theorem iR {o:PySem.Obj}{u:HO}{ys:OO}(e:some (HO.frz o u)=some ys.ho):False:=by cases ys<;>cases e
structure Step (Z:Fp)(H:Hp)(F:Fp)(Z':Fp)(H':Hp)(F':Fp):Prop where
 keep:∀ a o,H a=some o->¬ F a->H' a=some o
 zm:∀ a,Z a->Z' a
 zn:∀ a,Z' a->Z a\/F a\/H a=none
 fn:∀ a,F' a->F a\/H a=none
 al:∀ a,H a≠none->H' a≠none
 za:(∀ a,Z a->H a≠none)->∀ a,Z' a->H' a≠none
section
variable {K:a0a}{Z Z1 Z2 Z':Fp}{H H1 H2 H':Hp}{F F1 F2 F' R G:Fp}
theorem Step.refl (Z:Fp)(H:Hp)(F:Fp):Step Z H F Z H F:=⟨fun _ _ h _=>h,fun _ h=>h,fun _ h=>.inl h,fun _ h=>.inl h,fun _ h=>h,fun z=>z⟩
theorem Step.trans (s:Step Z H F Z1 H1 F1)(t:Step Z1 H1 F1 Z2 H2 F2):Step Z H F Z2 H2 F2 where
 keep:=fun a o h n=>t.keep a o (s.keep a o h n) fun q=>(s.fn a q).elim n fun z=>by rw [h] at z; cases z
 zm:=fun a h=>t.zm a (s.zm a h)
 zn:=fun a h=>by
  rcases t.zn a h with q | q | q
  ·exact s.zn a q
  ·exact .inr (s.fn a q)
  ·exact .inr (.inr (by
    cases e:H a with
    | none=>rfl
    | some o=>exact absurd q (s.al a (by rw [e]; simp))))
 fn:=fun a h=>by
  rcases t.fn a h with q | q
  ·exact s.fn a q
  ·exact .inr (by
    cases e:H a with
    | none=>rfl
    | some o=>exact absurd q (s.al a (by rw [e]; simp)))
 al:=fun a h=>t.al a (s.al a h)
 za:=fun z=>t.za (s.za z)
theorem Step.frame (R:Fp)(s:Step Z H F Z' H' F'):Step Z H (fun a=>F a\/R a) Z' H' (fun a=>F' a\/R a) where
 keep:=fun a o h n=>s.keep a o h fun q=>n (.inl q)
 zm:=s.zm
 zn:=fun a h=>(s.zn a h).imp id fun q=>q.imp .inl id
 fn:=fun a h=>h.elim (fun q=>(s.fn a q).imp .inl id) fun q=>.inl (.inr q)
 al:=s.al
 za:=s.za
theorem Step.mono (s:Step Z H F Z' H' F')(h1:∀ a,F a->F1 a)(h2:∀ a,F2 a->F' a):Step Z H F1 Z' H' F2 where
 keep:=fun a o h n=>s.keep a o h fun q=>n (h1 a q)
 zm:=s.zm
 zn:=fun a h=>(s.zn a h).imp id fun q=>q.imp (h1 a) id
 fn:=fun a h=>(s.fn a (h2 a h)).imp (h1 a) id
 al:=s.al
 za:=s.za
theorem Own.stay (o:Own Z H F)(s:Step Z H F Z' H' F'):Stay Z H H':=by
 refine ⟨fun a u hz h=>s.keep a u h fun q=>(o a q).1 hz,fun a xs h=>?_,fun a u v h=>s.keep a _ h fun q=>?_⟩
 ·rcases h with h | ⟨u,h⟩
  ·refine .inl (s.keep a _ h fun q=>?_)
   obtain ⟨_,ys,e⟩:=o a q
   rw [h] at e; exact mh e
  ·refine .inr ⟨u,s.keep a _ h fun q=>?_⟩
   obtain ⟨_,ys,e⟩:=o a q
   rw [h] at e; exact iR e
 ·obtain ⟨_,ys,e⟩:=o a q
  rw [h] at e; exact iR e
theorem Rep.frame {m:Md}{t:T}{v:V}(o:Own Z H F)(s:Step Z H F Z' H' F')(d:∀ a,G a->¬ F a)(h:Rep K Z H m t v G):Rep K Z' H' m t v G:=h.keep (o.stay s) s.zm fun a u ha e=>s.keep a u e (d a ha)
theorem RepW.frame {ws:List W}{xs:List V}(o:Own Z H F)(s:Step Z H F Z' H' F')(d:∀ a,G a->¬ F a)(h:RepW K Z H ws xs G):RepW K Z' H' ws xs G:=h.keep (o.stay s) s.zm fun a u ha e=>s.keep a u e (d a ha)
theorem Own.frame (o:Own Z H G)(s:Step Z H F Z' H' F')(d:∀ a,G a->¬ F a):Own Z' H' G/\∀ a,G a->¬ F' a:=by
 refine ⟨fun a ha=>?_,fun a ha q=>?_⟩
 ·obtain ⟨nz,xs,e⟩:=o a ha
  refine ⟨fun q=>?_,xs,s.keep a _ e (d a ha)⟩
  rcases s.zn a q with z | z | z
  ·exact nz z
  ·exact d a ha z
  ·rw [e] at z; cases z
 ·obtain ⟨nz,xs,e⟩:=o a ha
  rcases s.fn a q with z | z
  ·exact d a ha z
  ·rw [e] at z; cases z
end
noncomputable abbrev Fps:=Nat->Fp
noncomputable def tot (Fs:Fps):Fp:=fun a=>∃ i,Fs i a
structure Gd (Z:Fp)(H:Hp)(Fs:Fps):Prop where
 own:Own Z H (tot Fs)
 dis:∀ i j a,Fs i a->Fs j a->i=j
 zal:∀ a,Z a->H a≠none
structure Cf where
 sl:Nat->Option Nat
 pv:Nat->Option V
noncomputable def y6 (K:a0a)(sl:Cf)(Z:Fp)(H:Hp)(η:Env)(σ:L2.St)(Fs:Fps):Prop :=
 ∀ i m t,rd η i=some (m,t)->∃ v,Rep K Z H m t v (Fs i)/\(∀ j,sl.sl i=some j->σ[j]?=some (some v))/\∀ u,sl.pv i=some u->v=u
structure At (K:a0a)(sl:Cf)(σ:L2.St)(Z:Fp)(H:Hp)(Fs:Fps)(η:Env)(G:Fp):Prop where
 gd:Gd Z H Fs
 env:y6 K sl Z H η σ Fs
 own:Own Z H G
 dis:∀ a,G a->¬ tot Fs a
 lk:∀ i u j,sl.pv i=some u->sl.sl i=some j->σ[j]?=some (some u)
 ln:∀ i j,sl.sl i=some j->j < σ.length
section
variable {K:a0a}{sl:Cf}{σ:L2.St}{Z Z':Fp}{H H':Hp}{Fs Fs':Fps}{η η':Env}{G G' R:Fp}
theorem At.frame (a:At K sl σ Z H Fs η R)(b:At K sl σ Z' H' Fs' η' G)(s:Step Z H (tot Fs) Z' H' (fun c=>tot Fs' c\/G c)) :
  At K sl σ Z' H' Fs' η' (fun c=>R c\/G c)/\Step Z H (fun c=>tot Fs c\/R c) Z' H' (fun c=>tot Fs' c\/(R c\/G c))/\∀ c,R c->¬ G c:=by
 have o:=a.own.frame s a.dis
 refine ⟨⟨b.gd,b.env,fun c hc=>hc.elim (o.1 c) (b.own c),fun c hc=>hc.elim (fun z q=>o.2 c z (.inl q)) (b.dis c),b.lk,b.ln⟩,(s.frame R).mono (fun _ z=>z) fun c hc=>?_,fun c z q=>o.2 c z (.inr q)⟩
 rcases hc with z | z | z
 ·exact .inl (.inl z)
 ·exact .inr z
 ·exact .inl (.inr z)
end
end MR
namespace MR
open L2 L3 M
open PySem (Addr Str sizeLine)
section
variable {K:a0a}{sl:Cf}{sf:Nat->Option Nat}{C:Call}{σ:L2.St}{Z Z' Z1:Fp}{H H' H1:Hp}{Fs Fs' Fs1:Fps}{η η' η1:Env}{G G' R F:Fp}
theorem At.mono (a:At K sl σ Z H Fs η G)(h:∀ c,G' c->G c):At K sl σ Z H Fs η G':=⟨a.gd,a.env,fun c hc=>a.own c (h c hc),fun c hc=>a.dis c (h c hc),a.lk,a.ln⟩
theorem At.bare (a:At K sl σ Z H Fs η G):At K sl σ Z H Fs η no:=a.mono fun _ z=>z.elim
noncomputable def wE (K:a0a)(sl:Nat->Option Nat)(C:Call)(e:E):TE:=fun σ H Q=>∃ pv Z Fs η w η',At K ⟨sl,pv⟩ σ Z H Fs η no/\evE C e η=.ok (w,η') /\
 ∀ v Z' H' Fs' G,At K ⟨sl,pv⟩ σ Z' H' Fs' η' G->Rep K Z' H' w.1 w.2 v G->Step Z H (tot Fs) Z' H' (fun a=>tot Fs' a\/G a)->Q v H'
noncomputable def wL (K:a0a)(sl:Nat->Option Nat)(C:Call)(es:List E):TA:=fun σ H Q=>∃ pv Z Fs η ws η',At K ⟨sl,pv⟩ σ Z H Fs η no/\evL C es η=.ok (ws,η') /\
 ∀ vs Z' H' Fs' G,At K ⟨sl,pv⟩ σ Z' H' Fs' η' G->RepW K Z' H' ws vs G->Step Z H (tot Fs) Z' H' (fun a=>tot Fs' a\/G a)->Q vs H'
theorem gY {e:E}{w:W}{Q:VK}(A:At K sl σ Z H Fs η R)(ev:evE C e η=.ok (w,η'))
  (k:∀ v Z' H' Fs' G,At K sl σ Z' H' Fs' η' (fun c=>R c\/G c)->Rep K Z' H' w.1 w.2 v G->(∀ c,R c->¬ G c)->Step Z H (tot Fs) Z' H' (fun a=>tot Fs' a\/G a) ->
   Step Z H (fun c=>tot Fs c\/R c) Z' H' (fun c=>tot Fs' c\/(R c\/G c))->Q v H'):wE K sl.sl C e σ H Q :=
 ⟨sl.pv,Z,Fs,η,w,η',A.bare,ev,fun v Z' H' Fs' G B r s=>by
  obtain ⟨h1,h2,h3⟩:=A.frame B s
  exact k v Z' H' Fs' G h1 r h3 s h2⟩
theorem yI {es:List E}{ws:List W}{Q:List V->Hp->Prop}(A:At K sl σ Z H Fs η R)(ev:evL C es η=.ok (ws,η'))
  (k:∀ vs Z' H' Fs' G,At K sl σ Z' H' Fs' η' (fun c=>R c\/G c)->RepW K Z' H' ws vs G->(∀ c,R c->¬ G c)->Step Z H (tot Fs) Z' H' (fun a=>tot Fs' a\/G a) ->
   Step Z H (fun c=>tot Fs c\/R c) Z' H' (fun c=>tot Fs' c\/(R c\/G c))->Q vs H'):wL K sl.sl C es σ H Q :=
 ⟨sl.pv,Z,Fs,η,ws,η',A.bare,ev,fun v Z' H' Fs' G B r s=>by
  obtain ⟨h1,h2,h3⟩:=A.frame B s
  exact k v Z' H' Fs' G h1 r h3 s h2⟩
theorem aa {α β:Type}{r:Res α}{f:α->Res β}{b:β}(h:r.bind f=.ok b):∃ a,r=.ok a/\f a=.ok b:=by
 cases r with
 | ok a=>exact ⟨a,rfl,h⟩
 | ex c x=>cases h
 | no=>cases h
theorem av {α:Type}{η:Env}{o:Option α}{b:α×Env}(h:ret η o=.ok b):∃ a,o=some a/\b=(a,η):=by
 cases o with
 | none=>cases h
 | some a=>exact ⟨a,rfl,by cases h; rfl⟩
theorem cB {α:Type}{o:Option α}{b:α}(h:ofO o=.ok b):o=some b:=by
 cases o with
 | none=>cases h
 | some a=>cases h; rfl
theorem aN {e:E}{es:List E}{ws:List W}(h:evL C (e::es) η=.ok (ws,η')):∃ w η1 us,evE C e η=.ok (w,η1)/\evL C es η1=.ok (us,η')/\ws=w::us:=by
 obtain ⟨⟨w,η1⟩,h1,h2⟩:=aa (show (evE C e η).bind (aZ (evL C es))=_ from h)
 obtain ⟨⟨us,η2⟩,h3,h4⟩:=aa (show (evL C es η1).bind (kCons w)=_ from h2)
 cases h4
 exact ⟨w,η1,us,h1,h3,rfl⟩
theorem bM {e:E}{es:List E}{ws:List W}(he:∀ i,e≠.io i)(h:evA C (e::es) η=.ok (ws,η')):∃ w η1 us,evE C e η=.ok (w,η1)/\evA C es η1=.ok (us,η')/\ws=w::us:=by
 rw [evA_eq he] at h
 obtain ⟨⟨w,η1⟩,h1,h2⟩:=aa h
 obtain ⟨⟨us,η2⟩,h3,h4⟩:=aa (show (evA C es η1).bind (kCons w)=_ from h2)
 cases h4
 exact ⟨w,η1,us,h1,h3,rfl⟩
theorem dm {i:Nat}{es:List E}{ws:List W}(h:evA C (.io i::es) η=.ok (ws,η')):∃ us η1 w,evA C es η=.ok (us,η1)/\rd η1 i=some w/\ws=w::us/\η'=del η1 i:=by
 obtain ⟨⟨us,η1⟩,h1,h2⟩:=aa (show (evA C es η).bind (kIo i)=_ from h)
 obtain ⟨w,h3,h4⟩:=aa (show (ofO (rd η1 i)).bind (fun w=>.ok (w::us,del η1 i))=_ from h2)
 cases h4
 exact ⟨us,η1,w,h1,cB h3,rfl,rfl⟩
theorem qK (e:E):(∃ i,e=.io i)\/∀ i,e≠.io i:=by
 cases e with
 | io i=>exact .inl ⟨i,rfl⟩
 | _=>exact .inr fun _ z=>by cases z
theorem gn:∀ {es:List E} {η η':Env} {ws:List W},evA C es η=.ok (ws,η')->ws.length=es.length
 | [],_,_,_,h=>by cases h; rfl
 | e::es,_,_,_,h=>by
  rcases qK e with ⟨i,rfl⟩ | he
  ·obtain ⟨us,η1,w,h1,_,rfl,_⟩:=dm h
   rw [a0n,a0n,gn h1]
  ·obtain ⟨w,η1,us,_,h2,rfl⟩:=bM he h
   rw [a0n,a0n,gn h2]
theorem ot {e:E}{es:List E}(σ:L2.St)(H:Hp)(Q:List V->Hp->Prop)(h:wL K sf C (e::es) σ H Q):i6 (wE K sf C e) (wL K sf C es) σ H Q:=by
 obtain ⟨pv,Z,Fs,η,ws,η',A,ev,k⟩:=h
 obtain ⟨w,η1,us,h1,h2,rfl⟩:=aN ev
 refine gY A h1 fun x Z1 H1 Fs1 G1 A1 r1 _ s1 _=>?_
 have A1':=A1.mono (G':=G1) fun _ z=>.inr z
 refine yI A1' h2 fun xs Z2 H2 Fs2 G2 A2 r2 d2 s2 t2=>?_
 refine k (x::xs) Z2 H2 Fs2 _ A2 ⟨x,xs,G1,G2,rfl,fun _ z=>.inl z,fun _ z=>.inr z,d2,r1.frame A1.gd.own s2 A1'.dis,r2⟩ ?_
 exact s1.trans t2
theorem uL (σ:L2.St)(H:Hp)(Q:List V->Hp->Prop)(h:wL K sf C [] σ H Q):sJ σ H Q:=by
 obtain ⟨pv,Z,Fs,η,ws,η',A,ev,k⟩:=h
 cases ev
 exact k [] Z H Fs no A rfl ((Step.refl _ _ _).mono (fun _ z=>z) fun a ha=>ha.elim id fun z=>z.elim)
noncomputable def Out (K:a0a)(Z:Fp)(H:Hp)(G:Fp)(w:W)(Q:VK):Prop:=∀ v Z' H' G',Rep K Z' H' w.1 w.2 v G'->Own Z' H' G'->Step Z H G Z' H' G'->Q v H'
theorem At.op (A:At K sl σ Z H Fs η G)(o:Own Z' H' G')(s:Step Z H G Z' H' G'):At K sl σ Z' H' Fs η G'/\Step Z H (fun c=>tot Fs c\/G c) Z' H' (fun c=>tot Fs c\/G' c):=by
 have d:∀ a,tot Fs a->¬ G a:=fun a h q=>A.dis a q h
 have f:=A.gd.own.frame s d
 refine ⟨⟨⟨f.1,A.gd.dis,s.za A.gd.zal⟩,fun i m t e=>?_,o,fun a ha q=>f.2 a q ha,A.lk,A.ln⟩,?_⟩
 ·obtain ⟨v,r,hv⟩:=A.env i m t e
  exact ⟨v,r.frame A.own s fun a ha=>d a ⟨i,ha⟩,hv⟩
 ·refine (s.frame (tot Fs)).mono (fun _ z=>z.symm) fun _ z=>z.symm
theorem bY {w:W}{Q:VK}(A:At K sl σ Z1 H1 Fs1 η1 G)(s:Step Z H F Z1 H1 (fun a=>tot Fs1 a\/G a))
  (k:∀ v Z' H' Fs' G,At K sl σ Z' H' Fs' η1 G->Rep K Z' H' w.1 w.2 v G->Step Z H F Z' H' (fun a=>tot Fs' a\/G a)->Q v H'):Out K Z1 H1 G w Q:=fun v Z' H' G' r o t=>by
 obtain ⟨B,u⟩:=A.op o t
 exact k v Z' H' Fs1 G' B r (s.trans u)
noncomputable def Loc (K:a0a)(n:Nat)(o:Op)(h:Bool)(r:List V->Hp->VK->Prop):Prop:=∀ (ws:List W) (w:W) (xs:List V) (Z:Fp) (H:Hp) (G:Fp) (Q:VK),ws.length=n->oSem o h ws=some w->RepW K Z H ws xs G->Own Z H G->(∀ a,Z a->H a≠none)->Out K Z H G w Q->r xs H Q
theorem cN {o:Op}{h:Bool}{es:List E}{w:W}(e:evE C (.op o h es) η=.ok (w,η')):∃ ws,evL C es η=.ok (ws,η')/\oSem o h ws=some w:=by
 obtain ⟨⟨ws,η1⟩,h1,h2⟩:=aa (show (evL C es η).bind (kOp o h)=_ from e)
 obtain ⟨a,h3,h4⟩:=av (show ret η1 (oSem o h ws)=_ from h2)
 cases h4
 exact ⟨ws,h1,h3⟩
theorem dS:∀ {es:List E} {η η':Env} {ws:List W},evL C es η=.ok (ws,η')->ws.length=es.length
 | [],_,_,_,h=>by cases h; rfl
 | e::es,_,_,_,h=>by
  obtain ⟨w,η1,us,_,h2,rfl⟩:=aN h
  rw [a0n,a0n,dS h2]
theorem fk {n:Nat}{o:Op}{h:Bool}{es:List E}{r:List V->Hp->VK->Prop}(l:Loc K n o h r)(hn:es.length=n)(σ:L2.St)(H:Hp)(Q:VK)(hw:wE K sf C (.op o h es) σ H Q):tCB r (wL K sf C es) σ H Q:=by
 obtain ⟨pv,Z,Fs,η,w,η',A,ev,k⟩:=hw
 obtain ⟨ws,h1,h2⟩:=cN ev
 exact ⟨pv,Z,Fs,η,ws,η',A,h1,fun vs Z' H' Fs' G B r s=>l ws w vs Z' H' G Q ((dS h1).trans hn) h2 r B.own B.gd.zal (bY B s k)⟩
theorem vq {o:Op}{h:Bool}{a:E}{r:V->Hp->VK->Prop}(l:Loc K 1 o h fun xs H Q=>∀ x,xs=[x]->r x H Q)(σ:L2.St)(H:Hp)(Q:VK)(hw:wE K sf C (.op o h [a]) σ H Q):tUn r (wE K sf C a) σ H Q:=by
 obtain ⟨pv,Z,Fs,η,w,η',A,ev,k⟩:=hw
 obtain ⟨ws,h1,h2⟩:=cN ev
 obtain ⟨wa,η1,us,e1,e2,rfl⟩:=aN h1
 cases e2
 refine ⟨pv,Z,Fs,η,wa,η',A,e1,fun x Z' H' Fs' G B r s=>l [wa] w [x] Z' H' G Q rfl h2 (RepW.one r) B.own B.gd.zal (bY B s k) x rfl⟩
theorem aO {o:Op}{h:Bool}{a b:E}{r:R2}(l:Loc K 2 o h fun xs H Q=>∀ x y,xs=[x,y]->r x y H Q)(σ:L2.St)(H:Hp)(Q:VK)(hw:wE K sf C (.op o h [a,b]) σ H Q):tOp r (wE K sf C a) (wE K sf C b) σ H Q:=by
 obtain ⟨pv,Z,Fs,η,w,η',A,ev,k⟩:=hw
 obtain ⟨ws,h1,h2⟩:=cN ev
 obtain ⟨wa,η1,us,e1,e2,rfl⟩:=aN h1
 obtain ⟨wb,η2,us,e3,e4,rfl⟩:=aN e2
 cases e4
 refine gY A e1 fun x Z1 H1 Fs1 G1 A1 r1 _ s1 _=>?_
 have A1':=A1.mono (G':=G1) fun _ z=>.inr z
 refine gY A1' e3 fun y Z2 H2 Fs2 G2 A2 r2 d2 s2 t2=>?_
 exact l [wa,wb] w [x,y] Z2 H2 _ Q rfl h2 ⟨x,[y],G1,G2,rfl,fun _ z=>.inl z,fun _ z=>.inr z,d2,r1.frame A1.gd.own s2 A1'.dis,RepW.one r2⟩ A2.own A2.gd.zal (bY A2 (s1.trans t2) k) x y rfl
theorem bH:Own Z H no:=fun _ z=>z.elim
theorem Step.drop:Step Z H G Z H no:=(Step.refl Z H G).mono (fun _ z=>z) fun _ z=>z.elim
section
variable {Q:VK}{m:Md}{ts:List T}{xs:List V}
theorem aR {i:Int}(k:Out K Z H G (m,.int i) Q):Q (.int i) H:=k _ Z H no rfl bH .drop
theorem bf {b:Bool}(k:Out K Z H G (m,.bl b) Q):Q (.bl b) H:=k _ Z H no rfl bH .drop
theorem gp {x:Str}(k:Out K Z H G (m,.str x) Q)(h:sOk x=true):Q (.str x) H:=k _ Z H no ⟨rfl,h⟩ bH .drop
theorem eD {t:T}{v:V}(o:Own Z H G)(k:Out K Z H G (m,t) Q)(r:Rep K Z H m t v G):Q v H:=k v Z H G r o (.refl _ _ _)
theorem g9 {p:Addr}{o:HO}(hp:H p=none):Stay Z H (upd H p o):=by
 have ne:∀ {a u},H a=some u->a≠p:=fun {a u} e z=>by subst z; rw [hp] at e; cases e
 refine ⟨fun a u _ e=>?_,fun a xs e=>?_,fun a u v e=>?_⟩
 ·rw [aj (ne e)]; exact e
 ·rcases e with e | ⟨u,e⟩
  ·exact .inl (by rw [aj (ne e)]; exact e)
  ·exact .inr ⟨u,by rw [aj (ne e)]; exact e⟩
 ·rw [aj (ne e)]; exact e
theorem gW {p:Addr}{o:HO}(hp:H p=none)(ow:Own Z H G)(hg:∀ a,G' a->G a\/a=p)(z:Fp)(hz:∀ a,Z a->z a)(hz':∀ a,z a->Z a\/G a):Step Z H G z (upd H p o) G':=by
 have ne:∀ {a u},H a=some u->a≠p:=fun {a u} e q=>by subst q; rw [hp] at e; cases e
 have al:∀ a,H a≠none->upd H p o a≠none:=fun a h=>by
  by_cases e:a=p
  ·rw [e,aI]; simp
  ·rw [aj e]; exact h
 refine ⟨fun a u e _=>by rw [aj (ne e)]; exact e,hz,fun a h=>(hz' a h).imp id .inl,fun a h=>(hg a h).imp id fun e=>by rw [e]; exact hp,al,fun q a h=>al a ?_⟩
 rcases hz' a h with c | c
 ·exact q a c
 ·obtain ⟨_,xs,e⟩:=ow a c
  rw [e]; simp
theorem bC {p:Addr}(ow:Own Z H G)(za:∀ a,Z a->H a≠none)(hg:∀ a,G' a->G a)(hl:xs.length<=LIM)(r:RepL K (bQ Z G G') H m.kid ts xs G')(hm:m≠.s)(k:Out K Z H G (m,.lst ts) Q)(hp:H p=none):Q (.ref p) (upd H p (.lst xs)):=by
 have ne:∀ {a u},H a=some u->a≠p:=fun {a u} e q=>by subst q; rw [hp] at e; cases e
 have np:∀ a,G' a->a≠p:=fun a h=>by obtain ⟨_,ys,e⟩:=ow a (hg a h); exact ne e
 refine k _ (bQ Z G G') _ (fun a=>G' a\/a=p) ⟨p,xs,rfl,hl,(LstR.own hm).mpr ⟨.inr rfl,aI⟩,?_⟩ ?_ (gW hp ow (fun a h=>h.imp (hg a) id) _ (fun a h=>.inl h) fun a h=>h.imp id a2A)
 ·refine (r.keep (g9 hp) (fun _ z=>z) fun a u _ e=>by rw [aj (ne e)]; exact e).mono fun a h=>⟨.inl h,np a h⟩
 ·rintro a (h | h)
  ·obtain ⟨nz,ys,e⟩:=ow a (hg a h)
   exact ⟨fun z=>z.elim nz fun q=>q.2 h,ys,by rw [aj (ne e)]; exact e⟩
  ·subst h
   refine ⟨fun z=>z.elim (fun q=>za a q hp) fun q=>?_,.inl xs,aI⟩
   obtain ⟨_,ys,e⟩:=ow a q.1
   rw [hp] at e; cases e
theorem jc {p:Addr}(ow:Own Z H G)(hg:∀ a,G' a->G a)(hl:xs.length<=LIM)(r:RepL K (bQ Z G G') H m.kid ts xs G')(k:Out K Z H G (m,.tup ts) Q)(hp:H p=none):Q (.ref p) (upd H p (.tup xs)):=by
 have ne:∀ {a u},H a=some u->a≠p:=fun {a u} e q=>by subst q; rw [hp] at e; cases e
 refine k _ (bQ Z G G') _ G' ⟨p,xs,rfl,.inl (.inl aI),hl,?_⟩ ?_ (gW hp ow (fun a h=>.inl (hg a h)) _ (fun a h=>.inl h) fun a h=>h.imp id a2A)
 ·exact r.keep (g9 hp) (fun _ z=>z) fun a u _ e=>by rw [aj (ne e)]; exact e
 ·intro a h
  obtain ⟨nz,ys,e⟩:=ow a (hg a h)
  exact ⟨fun z=>z.elim nz fun q=>q.2 h,ys,by rw [aj (ne e)]; exact e⟩
theorem gC {v:V}{H':Hp}(ow:Own Z H G)(hg:∀ a,G' a->G a)(hl:xs.length<=LIM)(r:RepL K (bQ Z G G') H m.kid ts xs G')(k:Out K Z H G (m,.tup ts) Q)(same:∀ b o,H b=some o->H' b=some o)(hv:∃ c,v=.ref c/\SqT K H' c xs):Q v H':=by
 obtain ⟨c,rfl,hs⟩:=hv
 have al:∀ a,H a≠none->H' a≠none:=fun a h=>by
  cases e:H a with
  | none=>exact absurd e h
  | some o=>rw [same a o e]; simp
 refine k _ (bQ Z G G') _ G' ⟨c,xs,rfl,hs,hl,?_⟩ (fun a h=>?_) ⟨fun a o e _=>same a o e,fun a h=>.inl h,fun a h=>h.imp id fun q=>.inl q.1,fun a h=>.inl (hg a h),al,fun q a h=>al a ?_⟩
 ·refine r.keep ⟨fun a o _ e=>same a o e,fun a ys e=>?_,fun a o u e=>same a _ e⟩ (fun _ z=>z) fun a u _ e=>same a u e
  rcases e with e | ⟨u,e⟩
  ·exact .inl (same a _ e)
  ·exact .inr ⟨u,same a _ e⟩
 ·obtain ⟨nz,ys,e⟩:=ow a (hg a h)
  exact ⟨fun z=>z.elim nz fun q=>q.2 h,ys,same a _ e⟩
 ·rcases h with h | h
  ·exact q a h
  ·obtain ⟨_,ys,e⟩:=ow a h.1
   rw [e]; simp
theorem cw {p:Addr}{h:Bool}{w:W}(ow:Own Z H G)(za:∀ a,Z a->H a≠none)(hl:xs.length<=LIM)(r:∃ G',(∀ a,G' a->G a)/\RepL K (bQ Z G G') H m ts xs G')(hn:newL h m ts=some w)(k:Out K Z H G w Q)(hp:H p=none):Q (.ref p) (upd H p (.lst xs)):=by
 obtain ⟨G',hg,r⟩:=r
 unfold newL at hn
 split at hn
 ·split at hn
  ·rename_i hlv
   cases hn
   refine bC (m:=.d) (G':=no) ow za (fun _ z=>z.elim) hl ?_ (by simp) k hp
   exact r.leaves (fun _ _ _ e=>e) hlv
  ·cases hn
 ·cases hn
  exact bC (m:=m.up) ow za hg hl (by rw [du]; exact r) (cD m) k hp
end
end
end MR
namespace MR
open L2 L3 M
open PySem (Addr Str sizeLine)
section
variable {K:a0a}{h:Bool}
theorem dM {α β:Type}{ws:List α}{x y:β}(e:ws.length=[x,y].length):∃ a b,ws=[a,b]:=by
 match ws,e with
 | [a,b],_=>exact ⟨a,b,rfl⟩
theorem xr {α β:Type}{ws:List α}{x:β}(e:ws.length=[x].length):∃ a,ws=[a]:=by
 match ws,e with
 | [a],_=>exact ⟨a,rfl⟩
theorem b8 {Z:Fp}{H:Hp}{G:Fp}{u w:W}{x y:V}(r:RepW K Z H [u,w] [x,y] G):∃ G1 G2,(∀ a,G1 a->G a)/\(∀ a,G2 a->G a)/\(∀ a,G1 a->¬ G2 a)/\Rep K Z H u.1 u.2 x G1/\Rep K Z H w.1 w.2 y G2:=by
 obtain ⟨x',r',G1,G2,e,h1,h2,d,p,y',r2,G3,G4,e2,h3,h4,d2,q,z⟩:=r
 cases e; cases e2
 exact ⟨G1,G3,h1,fun a ha=>h2 a (h3 a ha),fun a ha hb=>d a ha (h3 a hb),p,q⟩
theorem q8 {Z:Fp}{H:Hp}{G:Fp}{w:W}{x:V}(r:RepW K Z H [w] [x] G):Rep K Z H w.1 w.2 x G:=by
 obtain ⟨x',r',G1,G2,e,h1,h2,d,p,z⟩:=r
 cases e
 exact p.mono h1
theorem b4 {ws:List W}{xs:List V}{Z:Fp}{H:Hp}{G:Fp}{w:W}(hw:ws=[w])(r:RepW K Z H ws xs G):∃ x,xs=[x]/\Rep K Z H w.1 w.2 x G:=by
 subst hw
 obtain ⟨x,hx⟩:=xr (x:=()) (show xs.length=[()].length from r.length)
 subst hx
 exact ⟨x,rfl,q8 r⟩
theorem ml {n:Nat}(h:n<=LIM):n < sizeLine:=a2f h (by decide)
theorem bg {n:Nat}(h:n<=LIM):n<=sizeLine:=a1Q (ml h)
theorem cz {n:Nat}(h:fits n=true):n<=LIM:=of_decide_eq_true h
theorem nE {o:Op}{C:Int->Int->Prop}{g:Int->Int->T}(inv:∀ {u v w:W},oSem o h [u,v]=some w->∃ m n i j,u=(m,.int i)/\v=(n,.int j)/\C i j/\w=(.d,g i j))(gv:Int->Int->V)(hg:∀ {Z:Fp} {H:Hp} {G:Fp} {Q:VK} {i j:Int},Out K Z H G (.d,g i j) Q->Q (gv i j) H) :
  Loc K 2 o h fun xs H Q=>∀ x y,xs=[x,y]->rI C gv x y H Q:=by
 intro ws w xs Z H G Q hn e r ow za k x y hx
 subst hx
 obtain ⟨u,v,rfl⟩:=dM r.length.symm
 obtain ⟨m,n,i,j,rfl,rfl,c,rfl⟩:=inv e
 obtain ⟨G1,G2,_,_,_,r1,r2⟩:=b8 r
 exact ⟨i,j,r1,r2,c,hg k⟩
theorem fL {o:Op}{g:Int->Int->T}(inv:∀ {u v w:W},oSem o h [u,v]=some w->∃ m n i j,u=(m,.int i)/\v=(n,.int j)/\w=(.d,g i j))(gv:Int->Int->V)(hg:∀ {Z:Fp} {H:Hp} {G:Fp} {Q:VK} {i j:Int},Out K Z H G (.d,g i j) Q->Q (gv i j) H) :
  Loc K 2 o h fun xs H Q=>∀ x y,xs=[x,y]->rI0 gv x y H Q:=by
 intro ws w xs Z H G Q hn e r ow za k x y hx
 subst hx
 obtain ⟨u,v,rfl⟩:=dM r.length.symm
 obtain ⟨m,n,i,j,rfl,rfl,rfl⟩:=inv e
 obtain ⟨G1,G2,_,_,_,r1,r2⟩:=b8 r
 exact ⟨i,j,r1,r2,hg k⟩
theorem qo {u v w:W}(e:oSem .sub h [u,v]=some w):∃ m n i j,u=(m,.int i)/\v=(n,.int j)/\w=(.d,.int (i-j)):=by
 obtain ⟨m,a⟩:=u; obtain ⟨n,b⟩:=v
 cases a<;>first | (cases e; done) | (cases b<;>first | (cases e; exact ⟨_,_,_,_,rfl,rfl,rfl⟩) | cases e)
theorem mx {u v w:W}(e:oSem .lt h [u,v]=some w):∃ m n i j,u=(m,.int i)/\v=(n,.int j)/\w=(.d,.bl (decide (i < j))):=by
 obtain ⟨m,a⟩:=u; obtain ⟨n,b⟩:=v
 cases a<;>first | (cases e; done) | (cases b<;>first | (cases e; exact ⟨_,_,_,_,rfl,rfl,rfl⟩) | cases e)
theorem k9 {u v w:W}(e:oSem .le h [u,v]=some w):∃ m n i j,u=(m,.int i)/\v=(n,.int j)/\w=(.d,.bl (decide (i<=j))):=by
 obtain ⟨m,a⟩:=u; obtain ⟨n,b⟩:=v
 cases a<;>first | (cases e; done) | (cases b<;>first | (cases e; exact ⟨_,_,_,_,rfl,rfl,rfl⟩) | cases e)
theorem lM {u v w:W}(e:oSem .gt h [u,v]=some w):∃ m n i j,u=(m,.int i)/\v=(n,.int j)/\w=(.d,.bl (decide (j < i))):=by
 obtain ⟨m,a⟩:=u; obtain ⟨n,b⟩:=v
 cases a<;>first | (cases e; done) | (cases b<;>first | (cases e; exact ⟨_,_,_,_,rfl,rfl,rfl⟩) | cases e)
theorem lZ {u v w:W}(e:oSem .ge h [u,v]=some w):∃ m n i j,u=(m,.int i)/\v=(n,.int j)/\w=(.d,.bl (decide (j<=i))):=by
 obtain ⟨m,a⟩:=u; obtain ⟨n,b⟩:=v
 cases a<;>first | (cases e; done) | (cases b<;>first | (cases e; exact ⟨_,_,_,_,rfl,rfl,rfl⟩) | cases e)
theorem lz {u v w:W}(e:oSem .fdiv h [u,v]=some w):∃ m n i j,u=(m,.int i)/\v=(n,.int j)/\sd i j/\w=(.d,.int (i / j)):=by
 obtain ⟨m,a⟩:=u; obtain ⟨n,b⟩:=v
 cases a<;>first | (cases e; done) | (cases b<;>try (cases e; done))
 rename_i i j
 rw [mX] at e
 split at e
 ·rename_i hc
  rw [a0i,decide_eq_true_eq,decide_eq_true_eq] at hc
  cases e
  exact ⟨_,_,_,_,rfl,rfl,hc,rfl⟩
 ·cases e
theorem n8 {u v w:W}(e:oSem .mod h [u,v]=some w):∃ m n i j,u=(m,.int i)/\v=(n,.int j)/\(0 < j)/\w=(.d,.int (i % j)):=by
 obtain ⟨m,a⟩:=u; obtain ⟨n,b⟩:=v
 cases a<;>first | (cases e; done) | (cases b<;>try (cases e; done))
 rename_i i j
 rw [rB] at e
 split at e
 ·rename_i hc
  rw [decide_eq_true_eq] at hc
  cases e
  exact ⟨_,_,_,_,rfl,rfl,hc,rfl⟩
 ·cases e
theorem pO {u v w:W}(e:oSem .pow h [u,v]=some w):∃ m n i j,u=(m,.int i)/\v=(n,.int j)/\vk i j/\w=(.d,.int (i ^ j.toNat)):=by
 obtain ⟨m,a⟩:=u; obtain ⟨n,b⟩:=v
 cases a<;>first | (cases e; done) | (cases b<;>try (cases e; done))
 rename_i i j
 rw [xN] at e
 split at e
 ·rename_i hc
  rw [a0i,a0i,decide_eq_true_eq,decide_eq_true_eq,decide_eq_true_eq] at hc
  cases e
  exact ⟨_,_,_,_,rfl,rfl,⟨hc.1.1,hc.1.2,hc.2⟩,rfl⟩
 ·cases e
theorem oJ:Loc K 2 .sub h fun xs H Q=>∀ x y,xs=[x,y]->rI0 (fun i j=>.int (i-j)) x y H Q:=fL qo _ fun k=>aR k
theorem tM:Loc K 2 .lt h fun xs H Q=>∀ x y,xs=[x,y]->rI0 (fun i j=>.bl (decide (i < j))) x y H Q:=fL mx _ fun k=>bf k
theorem rN:Loc K 2 .gt h fun xs H Q=>∀ x y,xs=[x,y]->rI0 (fun i j=>.bl (decide (j < i))) x y H Q:=fL lM _ fun k=>bf k
theorem sE:Loc K 2 .ge h fun xs H Q=>∀ x y,xs=[x,y]->rI0 (fun i j=>.bl (decide (j<=i))) x y H Q:=fL lZ _ fun k=>bf k
theorem nK:Loc K 2 .fdiv h fun xs H Q=>∀ x y,xs=[x,y]->rI sd (fun i j=>.int (i / j)) x y H Q:=nE lz _ fun k=>aR k
theorem pe:Loc K 2 .mod h fun xs H Q=>∀ x y,xs=[x,y]->rI (fun _ j=>0 < j) (fun i j=>.int (i % j)) x y H Q:=nE n8 _ fun k=>aR k
theorem n0:Loc K 2 .pow h fun xs H Q=>∀ x y,xs=[x,y]->rI vk (fun i j=>.int (i ^ j.toNat)) x y H Q:=nE pO _ fun k=>aR k
theorem n5:Loc K 1 .neg h fun xs H Q=>∀ x,xs=[x]->rU (fun i=>.int (-i)) x H Q:=by
 intro ws w xs Z H G Q hn e r ow za k x hx
 subst hx
 obtain ⟨⟨m,a⟩,rfl⟩:=xr r.length.symm
 cases a<;>first | (cases e; exact ⟨_,q8 r,aR k⟩) | cases e
theorem aW {Z:Fp}{H:Hp}{G:Fp}{m:Md}{ts:List T}{v:V}(r:Rep K Z H m (.lst ts) v G):∃ a xs,v=.ref a/\H a=some (.lst xs)/\xs.length<=LIM/\RepL K Z H m.kid ts xs G:=by
 obtain ⟨a,xs,e,l,q,p⟩:=r
 exact ⟨a,xs,e,by cases m<;>exact q.2,l,p.mono fun _ z=>z.1⟩
theorem b7 {Z:Fp}{H:Hp}{G:Fp}{m:Md}{ts:List T}{v:V}(r:Rep K Z H m (.tup ts) v G):∃ a xs,v=.ref a/\SqT K H a xs/\xs.length<=LIM/\RepL K Z H m.kid ts xs G:=r
theorem gM {Z:Fp}{H:Hp}{G G1 G2:Fp}{m n:Md}{ts us:List T}{xs ys:List V}(w1:∀ a,G1 a->G a)(w2:∀ a,G2 a->G a)(d:∀ a,G1 a->¬ G2 a)(r1:RepL K Z H m ts xs G1)(r2:RepL K Z H n us ys G2) :
  ∃ G',(∀ a,G' a->G a)/\RepL K (bQ Z G G') H (m.meet n) (ts++us) (xs++ys) G':=by
 obtain ⟨A,a1,a2⟩:=RepL.weak (b0 m n).1 r1
 obtain ⟨B,b1,b2⟩:=RepL.weak (b0 m n).2 r2
 refine ⟨fun b=>A b\/B b,fun b hb=>hb.elim (fun z=>w1 b (a1 b z)) fun z=>w2 b (b1 b z),RepL.append (fun _ z=>.inl z) (fun _ z=>.inr z) (fun b za zb=>d b (a1 b za) (b1 b zb)) (a2.zmono fun b hb=>?_) (b2.zmono fun b hb=>?_)⟩
 ·exact hb.imp id fun z=>⟨w1 b z.1,fun q=>q.elim z.2 fun w=>d b z.1 (b1 b w)⟩
 ·exact hb.imp id fun z=>⟨w2 b z.1,fun q=>q.elim (fun w=>d b (a1 b w) z.1) z.2⟩
theorem bz {p q:Str}(h1:sOk p=true)(h2:sOk q=true)(hl:p.cps.size+q.cps.size<=LIM):sOk (p++q)=true:=by
 unfold sOk at *
 rw [a0i] at *
 refine ⟨?_,decide_eq_true ?_⟩
 ·show Array.all (p.cps++q.cps) _=true
  rw [Array.all_append,a0i]
  exact ⟨h1.1,h2.1⟩
 ·show (p.cps++q.cps).size<=LIM
  rw [a2l]
  exact hl
theorem qb (rT:R2)(hT:∀ {Z:Fp} {H:Hp} {G:Fp} {Q:VK} {a b:Addr} {xs ys:List V} {ts:List T},SqT K H a xs->SqT K H b ys->xs≠[]->xs.length+ys.length<=LIM->Own Z H G->(∃ G',(∀ a,G' a->G a)/\RepL K (bQ Z G G') H .s ts (xs++ys) G')->Out K Z H G (.s,.tup ts) Q->rT (.ref a) (.ref b) H Q) :
  Loc K 2 .add h fun xs H Q=>∀ x y,xs=[x,y]->rI0 (fun i j=>.int (i+j)) x y H Q\/(∃ i j,x=.str i/\y=.str j/\i.length+j.length<=sizeLine/\Q (.str (i++j)) H)\/xm x y H Q\/rT x y H Q:=by
 intro ws w xs Z H G Q hn e r ow za k x y hx
 subst hx
 obtain ⟨⟨m,a⟩,⟨n,b⟩,rfl⟩:=dM r.length.symm
 obtain ⟨G1,G2,w1,w2,d,r1,r2⟩:=b8 r
 cases a<;>first | (cases e; done) | (cases b<;>try (cases e; done))
 ·cases e
  exact .inl ⟨_,_,r1,r2,aR k⟩
 ·rename_i p q
  rw [l5] at e
  split at e
  ·rename_i hf
   cases e
   refine .inr (.inl ⟨p,q,r1.1,r2.1,bg (cz hf),gp k ?_⟩)
   exact bz r1.2 r2.2 (cz hf)
  ·cases e
 ·rename_i ts us
  rw [lN] at e
  split at e
  ·rename_i hf
   cases e
   rw [a0i] at hf
   obtain ⟨a,xs,rfl,hs,hl,p⟩:=b7 r1
   obtain ⟨b,ys,rfl,hs2,hl2,p2⟩:=b7 r2
   have hlen:=cz hf.1
   have e1:=p.length
   have e2:=p2.length
   refine .inr (.inr (.inr (hT hs hs2 ?_ (by omega) ow ?_ k)))
   ·rintro rfl
    cases ts with
    | nil=>simp at hf
    | cons _ _=>simp at e1
   ·refine ⟨no,fun _ z=>z.elim,RepL.append (G1:=no) (G2:=no) (fun _ z=>z) (fun _ z=>z) (fun _ z _=>z) ((RepL.sh p).zmono fun b hb=>?_) ((RepL.sh p2).zmono fun b hb=>?_)⟩
    ·exact hb.imp id fun z=>⟨w1 b z,fun q=>q⟩
    ·exact hb.imp id fun z=>⟨w2 b z,fun q=>q⟩
  ·cases e
 ·rename_i ts us
  rw [mH] at e
  split at e
  ·rename_i hf
   obtain ⟨a,xs,rfl,hs,hl,p⟩:=aW r1
   obtain ⟨b,ys,rfl,hs2,hl2,p2⟩:=aW r2
   have hlen:=cz hf
   have e1:=p.length
   have e2:=p2.length
   have hl3:(xs++ys).length<=LIM:=by rw [a0m]; omega
   refine .inr (.inr (.inl ⟨a,b,xs,ys,rfl,rfl,hs,hs2,bg (by omega),fun q hq=>?_⟩))
   exact cw ow za hl3 (gM w1 w2 d p p2) e k hq
  ·cases e
theorem qt:Loc K 2 .mul h fun xs H Q=>∀ x y,xs=[x,y]->rI CMul (fun i j=>.int (i * j)) x y H Q\/x4 x y H Q:=by
 intro ws w xs Z H G Q hn e r ow za k x y hx
 subst hx
 obtain ⟨⟨m,a⟩,⟨n,b⟩,rfl⟩:=dM r.length.symm
 obtain ⟨G1,G2,w1,w2,d,r1,r2⟩:=b8 r
 cases a<;>first | (cases e; done) | (cases b<;>try (cases e; done))
 ·rename_i i j
  rw [lu] at e
  split at e
  ·rename_i hc
   cases e
   refine .inl ⟨i,j,r1,r2,?_,aR k⟩
   rw [a2C,decide_eq_true_eq,decide_eq_true_eq] at hc
   have h64:(2:Int) ^ 64=18446744073709551616:=by decide
   unfold CMul
   rw [h64]
   omega
  ·cases e
 ·rename_i ts j
  have e':(if decide (j.natAbs < 4611686018427387904)&&fits (ts.length * j.toNat) then newL h .s (a0f j.toNat ts).flatten else none)=some w:=e
  split at e'
  ·rename_i hc
   rw [a0i,decide_eq_true_eq] at hc
   obtain ⟨a,xs,rfl,hs,hl,p⟩:=aW r1
   have hlen:=cz hc.2
   have e1:=p.length
   have hl3:((a0f j.toNat xs).flatten).length<=LIM:=by
    rw [List.length_flatten,List.map_replicate,List.sum_replicate_nat,e1,a2O]; exact hlen
   refine .inr ⟨a,j,xs,rfl,r2,hs,by omega,by omega,bg (by rw [e1]; exact hlen),fun q hq=>?_⟩
   refine cw ow za hl3 ⟨no,fun _ z=>z.elim,?_⟩ e' k hq
   have ps:=(RepL.sh p).zmono (Z':=bQ Z G no) fun b hb=>hb.imp id fun z=>⟨w1 b z,fun q=>q⟩
   generalize j.toNat=c
   induction c with
   | zero=>exact rfl
   | succ c ih=>exact RepL.append (fun _ z=>z) (fun _ z=>z) (fun _ z _=>z) ps ih
  ·cases e'
theorem iV {Z:Fp}{H:Hp}{G:Fp}{m:Md}{ts:List T}{xs:List V}{i:Int}{t:T}(p:RepL K Z H m ts xs G)(e:M.atI ts i=some t):∃ x,L2.atI xs i=some x/\Rep K Z H m t x G:=by
 unfold M.atI at e
 have hn:M.ixN ts.length i=L2.ixN xs.length i:=by rw [p.length]; rfl
 cases e1:M.ixN ts.length i with
 | none=>rw [e1] at e; cases e
 | some j =>
  rw [e1] at e
  obtain ⟨x,hx,r⟩:=p.get (show ts[j]?=some t from e)
  refine ⟨x,?_,r⟩
  unfold L2.atI
  rw [<- hn,e1]
  exact hx
theorem qi {x:Str}{c:Nat}(h:sOk x=true)(hc:c∈x.cps.toList):sOk ⟨#[c]⟩=true:=by
 unfold sOk at *
 rw [a0i] at *
 refine ⟨?_,rfl⟩
 have h1:=h.1
 rw [a1w] at h1
 have h2:=h1 c (Array.mem_def.mpr hc)
 rw [a1w]
 intro y hy
 have:y=c:=by simpa using hy
 rw [this]; exact h2
theorem fV {x:Str}(h:sOk x=true):x.cps.size<=LIM:=by
 unfold sOk at h
 rw [a0i,decide_eq_true_eq] at h
 exact h.2
theorem rQ:Loc K 2 .ix h fun xs H Q=>∀ x y,xs=[x,y]->(∃ p xs i v,x=.ref p/\y=.int i/\(SqL K H p xs\/SqT K H p xs)/\L2.atI xs i=some v/\Q v H)\/(∃ z i c,x=.str z/\y=.int i/\z.length<=sizeLine/\L2.atI z.cps.toList i=some c/\Q (.str ⟨#[c]⟩) H):=by
 intro ws w xs Z H G Q hn e r ow za k x y hx
 subst hx
 obtain ⟨⟨m,a⟩,⟨n,b⟩,rfl⟩:=dM r.length.symm
 obtain ⟨G1,G2,w1,w2,d,r1,r2⟩:=b8 r
 cases b with
 | int i =>
  cases a with
  | lst ts =>
   obtain ⟨a,xs,rfl,hs,hl,p⟩:=aW r1
   have e':(M.atI ts i).map (fun t=>(m.kid,t))=some w:=e
   cases e1:M.atI ts i with
   | none=>rw [e1] at e'; cases e'
   | some t =>
    rw [e1] at e'; cases e'
    obtain ⟨v,hv,rv⟩:=iV p e1
    exact .inl ⟨a,xs,i,v,rfl,r2,.inl (.inl (.inl hs)),hv,eD ow k (rv.mono w1)⟩
  | tup ts =>
   obtain ⟨a,xs,rfl,hs,hl,p⟩:=b7 r1
   have e':(M.atI ts i).map (fun t=>(m.kid,t))=some w:=e
   cases e1:M.atI ts i with
   | none=>rw [e1] at e'; cases e'
   | some t =>
    rw [e1] at e'; cases e'
    obtain ⟨v,hv,rv⟩:=iV p e1
    exact .inl ⟨a,xs,i,v,rfl,r2,.inr hs,hv,eD ow k (rv.mono w1)⟩
  | str z =>
   have e':(M.atI z.cps.toList i).map (fun c=>((.d,.str ⟨#[c]⟩):W))=some w:=e
   cases e1:M.atI z.cps.toList i with
   | none=>rw [e1] at e'; cases e'
   | some c =>
    rw [e1] at e'; cases e'
    refine .inr ⟨z,i,c,r1.1,r2,bg (fV r1.2),e1,gp k (qi r1.2 ?_)⟩
    unfold M.atI at e1
    cases e2:M.ixN z.cps.toList.length i with
    | none=>rw [e2] at e1; cases e1
    | some j=>rw [e2] at e1; exact a1a e1
  | scr ns =>
   obtain ⟨a,rfl,hL,hs⟩:=r1
   have e':(M.atI ns i).map (fun n=>((.d,.int n):W))=some w:=e
   cases e1:M.atI ns i with
   | none=>rw [e1] at e'; cases e'
   | some n =>
    rw [e1] at e'; cases e'
    refine .inl ⟨a,_,i,.int n,rfl,r2,.inl hs.sq,?_,aR k⟩
    unfold M.atI at e1
    unfold L2.atI
    rw [a0d]
    cases e2:M.ixN ns.length i with
    | none=>rw [e2] at e1; cases e1
    | some j =>
     rw [e2] at e1
     rw [show L2.ixN ns.length i=some j from e2]
     show (ns.map V.int)[j]?=_
     rw [a0t,show ns[j]?=some n from e1]
     rfl
  | _=>cases e
 | _=>cases a<;>cases e
theorem pY:Loc K 1 .len h fun xs H Q=>∃ x n,xs=[x]/\(match x with
  | .str y=>y.length<=sizeLine/\n=y.length
  | .byt y=>y.size<=sizeLine/\n=y.size
  | .ref p=>(∃ xs,SqL K H p xs/\n=xs.length)\/∃ xs,SqT K H p xs/\n=xs.length
  | _=>False)/\Q (.int (n:Nat)) H:=by
 intro ws w xs Z H G Q hn e r ow za k
 match ws,hn with
 | [(m,a)],_ =>
  obtain ⟨x,rfl,r1⟩:=b4 rfl r
  cases a with
  | lst ts =>
   obtain ⟨a,xs,hx,hs,hl,p⟩:=aW r1
   cases e
   refine ⟨x,ts.length,rfl,?_,aR k⟩
   rw [show x=.ref a from hx]
   exact .inl ⟨xs,.inl (.inl hs),p.length.symm⟩
  | tup ts =>
   obtain ⟨a,xs,hx,hs,hl,p⟩:=b7 r1
   cases e
   refine ⟨x,ts.length,rfl,?_,aR k⟩
   rw [show x=.ref a from hx]
   exact .inr ⟨xs,hs,p.length.symm⟩
  | str z =>
   cases e
   refine ⟨x,z.length,rfl,?_,aR k⟩
   rw [show x=.str z from r1.1]
   exact ⟨bg (fV r1.2),rfl⟩
  | scr ns =>
   obtain ⟨a,hx,hL,hs⟩:=r1
   cases e
   refine ⟨x,ns.length,rfl,?_,aR k⟩
   rw [show x=.ref a from hx]
   exact .inl ⟨_,hs.sq,by rw [a0d]⟩
  | _=>cases e
theorem iD {Z:Fp}{H:Hp}{G:Fp}{m:Md}:∀ ns:List Int,RepL K Z H m (ns.map T.int) (ns.map V.int) G
 | []=>rfl
 | n::ns=>⟨.int n,ns.map V.int,no,no,rfl,fun _ z=>z.elim,fun _ z=>z.elim,fun _ z=>z.elim,rfl,iD ns⟩
theorem m8:Loc K 1 .list h fun xs H Q=>∃ p ys,xs=[.ref p]/\(SqL K H p ys\/SqT K H p ys)/\∀ l,H l=none->Q (.ref l) (upd H l (.lst ys)):=by
 intro ws w xs Z H G Q hn e r ow za k
 match ws,hn with
 | [(m,a)],_ =>
  obtain ⟨x,rfl,r1⟩:=b4 rfl r
  cases a with
  | lst ts =>
   obtain ⟨a,xs,hx,hs,hl,p⟩:=aW r1
   refine ⟨a,xs,by rw [hx],.inl (.inl (.inl hs)),fun q hq=>cw ow za hl ⟨G,fun _ z=>z,p.zmono fun _ z=>.inl z⟩ e k hq⟩
  | tup ts =>
   obtain ⟨a,xs,hx,hs,hl,p⟩:=b7 r1
   refine ⟨a,xs,by rw [hx],.inr hs,fun q hq=>cw ow za hl ⟨G,fun _ z=>z,p.zmono fun _ z=>.inl z⟩ e k hq⟩
  | scr ns =>
   obtain ⟨a,hx,hL,hs⟩:=r1
   cases e
   refine ⟨a,_,by rw [hx],.inl hs.sq,fun q hq=>bC (G':=no) ow za (fun _ z=>z.elim) (by rw [a0d]; exact hL) (iD ns) (by simp) k hq⟩
  | _=>cases e
theorem lS {Z:Fp}{H:Hp}{G:Fp}{m:Md}:∀ {ts:List T} {ns:List Int} {xs:List V},a4 ts=some ns->RepL K Z H m ts xs G->xs=ns.map V.int:=by
 intro ts
 induction ts generalizing G with
 | nil=>intro ns xs e r; cases e; exact r
 | cons t ts ih =>
  intro ns xs e r
  obtain ⟨x,r',G1,G2,rfl,_,_,_,p,q⟩:=r
  cases t with
  | int i =>
   cases e1:a4 ts with
   | none=>simp [a4,e1] at e
   | some ms =>
    have:ns=i::ms:=by simpa [a4,e1] using e.symm
    subst this
    rw [a0y,<- ih e1 q,show x=.int i from p]
  | _=>cases e
theorem j3 {Z:Fp}{H:Hp}{G:Fp}{m:Md}:∀ {ts:List T} {ns:List Bool} {xs:List V},aS ts=some ns->RepL K Z H m ts xs G->xs=ns.map V.bl:=by
 intro ts
 induction ts generalizing G with
 | nil=>intro ns xs e r; cases e; exact r
 | cons t ts ih =>
  intro ns xs e r
  obtain ⟨x,r',G1,G2,rfl,_,_,_,p,q⟩:=r
  cases t with
  | bl i =>
   cases e1:aS ts with
   | none=>simp [aS,e1] at e
   | some ms =>
    have:ns=i::ms:=by simpa [aS,e1] using e.symm
    subst this
    rw [a0y,<- ih e1 q,show x=.bl i from p]
  | _=>cases e
theorem pD:Loc K 1 .sum h fun xs H Q=>∃ (a:Addr) (ns:List Int),xs=[.ref a]/\SqL K H a (ns.map V.int)/\Q (.int ns.sum) H:=by
 intro ws w xs Z H G Q hn e r ow za k
 match ws,hn with
 | [(m,a)],_ =>
  obtain ⟨x,rfl,r1⟩:=b4 rfl r
  cases a with
  | lst ts =>
   obtain ⟨a,xs,hx,hs,hl,p⟩:=aW r1
   have e':(a4 ts).map (fun ns=>((.d,.int ns.sum):W))=some w:=e
   cases e1:a4 ts with
   | none=>rw [e1] at e'; cases e'
   | some ns =>
    rw [e1] at e'; cases e'
    rw [lS e1 p] at hs
    exact ⟨a,ns,by rw [hx],.inl (.inl hs),aR k⟩
  | _=>cases e
theorem pT:Loc K 1 .all h fun xs H Q=>∃ (a:Addr) (bs:List Bool),xs=[.ref a]/\SqL K H a (bs.map V.bl)/\Q (.bl (bs.all id)) H:=by
 intro ws w xs Z H G Q hn e r ow za k
 match ws,hn with
 | [(m,a)],_ =>
  obtain ⟨x,rfl,r1⟩:=b4 rfl r
  cases a with
  | lst ts =>
   obtain ⟨a,xs,hx,hs,hl,p⟩:=aW r1
   have e':(aS ts).map (fun ns=>((.d,.bl (ns.all id)):W))=some w:=e
   cases e1:aS ts with
   | none=>rw [e1] at e'; cases e'
   | some ns =>
    rw [e1] at e'; cases e'
    rw [j3 e1 p] at hs
    exact ⟨a,ns,by rw [hx],.inl (.inl hs),bf k⟩
  | _=>cases e
end
end MR
namespace MR
open L2 L3 M
open PySem (Addr Str sizeLine)
section
variable {K:a0a}{sl:Cf}{sf:Nat->Option Nat}{C:Call}{σ:L2.St}{Z Z' Z1:Fp}{H H' H1:Hp}{Fs Fs' Fs1:Fps}{η η' η1:Env}{G G' R F:Fp}
mutual
theorem Rep.sany:∀ {t:T} {v:V} {G G':Fp},Rep K Z H .s t v G->Rep K Z H .s t v G'
 | .non,_,_,_,h=>h
 | .bl _,_,_,_,h=>h
 | .int _,_,_,_,h=>h
 | .str _,_,_,_,h=>h
 | .scr _,_,_,_,h=>h
 | .tup ts,_,_,_,⟨a,xs,e,q,l,r⟩=>⟨a,xs,e,q,l,RepL.sany r⟩
 | .lst ts,_,_,_,⟨a,xs,e,l,q,r⟩=>⟨a,xs,e,l,q,RepL.sany r⟩
 | .dct _ _,_,_,_,⟨a,xs,e,l,q,n,hl,r⟩=>⟨a,xs,e,l,q,n,hl,r⟩
 | .ins _ _ _,_,_,_,h=>h.elim
 | .gone,_,_,_,h=>h
theorem RepL.sany:∀ {ts:List T} {xs:List V} {G G':Fp},RepL K Z H .s ts xs G->RepL K Z H .s ts xs G'
 | [],_,_,_,h=>h
 | t::ts,xs,_,_,⟨x,r,G1,G2,e,h1,h2,hd,p,q⟩=>⟨x,r,no,no,e,fun _ z=>z.elim,fun _ z=>z.elim,fun _ z=>z.elim,Rep.sany p,RepL.sany q⟩
end
theorem a7:∀ (η:Env) (i j:Nat) (o:Option W),rd (wr η i o) j=if j=i/\i < η.length then o else rd η j
 | [],i,j,o=>by simp [wr,rd]
 | p::η,0,0,o=>by simp [wr,rd]
 | p::η,0,j+1,o=>by simp [wr,rd]
 | p::η,i+1,0,o=>by simp [wr,rd]
 | p::η,i+1,j+1,o=>by
  show rd (wr η i o) j=_
  rw [a7 η i j o]
  simp [rd]
theorem c7:∀ {η:Env} {i:Nat} {w:W},rd η i=some w->i < η.length
 | [],_,_,h=>by cases h
 | _::_,0,_,_=>by simp
 | _::η,i+1,_,h=>by have:=c7 (η:=η) (i:=i) h; simp; exact this
theorem dC (h:∀ a,F a->G a):Step Z H G Z H F:=(Step.refl Z H G).mono (fun _ z=>z) h
theorem uO {i j:Nat}(hs:sf i=some j)(σ:L2.St)(H:Hp)(Q:VK)(h:wE K sf C (.var i) σ H Q):j7 j σ H Q:=by
 obtain ⟨pv,Z,Fs,η,w,η',A,ev,k⟩:=h
 obtain ⟨w',e1,e2⟩:=av (show ret η ((rd η i).bind look)=_ from ev)
 cases e2
 cases e3:rd η i with
 | none=>rw [e3] at e1; cases e1
 | some u =>
  rw [e3] at e1
  obtain ⟨m,t⟩:=u
  obtain ⟨v,r,hv⟩:=A.env i m t e3
  refine ⟨v,hv.1 j hs,k v Z H Fs no A ?_ (dC fun a ha=>ha.elim id fun z=>z.elim)⟩
  cases m with
  | s=>cases e1; exact r.sany
  | d =>
   have e1':(if t.leaf=true then some (Md.d,t) else none)=some w:=e1
   split at e1'
   ·rename_i hl; cases e1'; exact r.leaf (fun _ _ _ q=>q) hl
   ·cases e1'
  | o m =>
   have e1':(if t.leaf=true then some (Md.d,t) else none)=some w:=e1
   split at e1'
   ·rename_i hl; cases e1'; exact r.leaf (fun _ _ _ q=>q) hl
   ·cases e1'
noncomputable def tj (Fs:Fps)(i:Nat):Fps:=fun j a=>j≠i/\Fs j a
theorem tO {e:E}{i j:Nat}(he:∀ η,evE C e η=ret (del η i) (rd η i))(hs:sf i=some j)(σ:L2.St)(H:Hp)(Q:VK)(h:wE K sf C e σ H Q):j7 j σ H Q:=by
 obtain ⟨pv,Z,Fs,η,w,η',A,ev,k⟩:=h
 rw [he] at ev
 obtain ⟨w',e1,e2⟩:=av ev
 cases e2
 obtain ⟨m,t⟩:=w
 obtain ⟨v,r,hv⟩:=A.env i m t e1
 refine ⟨v,hv.1 j hs,k v Z H (tj Fs i) (Fs i) ⟨⟨fun a ⟨l,h1,h2⟩=>A.gd.own a ⟨l,h2⟩,fun l l' a h1 h2=>A.gd.dis l l' a h1.2 h2.2,A.gd.zal⟩,fun l m' t' e=>?_,fun a ha=>A.gd.own a ⟨i,ha⟩,fun a ha ⟨l,h1,h2⟩=>h1 (A.gd.dis l i a h2 ha),A.lk,A.ln⟩ r (dC fun a ha=>ha.elim (fun ⟨l,h1,h2⟩=>⟨l,h2⟩) fun z=>⟨i,z⟩)⟩
 rw [a7] at e
 split at e
 ·cases e
 ·rename_i hne
  obtain ⟨v',r',hv'⟩:=A.env l m' t' e
  have hli:l≠i:=fun z=>hne ⟨z,c7 e1⟩
  exact ⟨v',r'.mono fun a ha=>⟨hli,ha⟩,hv'⟩
theorem eu {t:T}{v:V}(hv:∀ {Z:Fp} {H:Hp},Rep K Z H .d t v no)(σ:L2.St)(H:Hp)(Q:VK)(h:wE K sf C (.cst t) σ H Q):tC v σ H Q:=by
 obtain ⟨pv,Z,Fs,η,w,η',A,ev,k⟩:=h
 cases ev
 exact k v Z H Fs no A hv (dC fun a ha=>ha.elim id fun z=>z.elim)
theorem rY {es:List E}(hn:es.length<=LIM)(σ:L2.St)(H:Hp)(Q:VK)(h:wE K sf C (.tup es) σ H Q):x8 (wL K sf C es) σ H Q:=by
 obtain ⟨pv,Z,Fs,η,w,η',A,ev,k⟩:=h
 obtain ⟨⟨ws,η1⟩,h1,h2⟩:=aa (show (evL C es η).bind iF=_ from ev)
 cases h2
 refine ⟨pv,Z,Fs,η,ws,_,A,h1,fun vs Z' H' Fs' G B r s=>?_⟩
 have hl:vs.length<=LIM:=by rw [r.length,dS h1]; exact hn
 obtain ⟨G',g1,g2⟩:=RepW.to (fun u hu=>dX hu) r
 refine ⟨bg hl,fun p hp=>jc (m:=(eh ws).up) B.own g1 hl (by rw [du]; exact g2) (bY B s k) hp⟩
theorem rR {b:Bool}{es:List E}(hn:es.length<=LIM)(σ:L2.St)(H:Hp)(Q:VK)(h:wE K sf C (.lst b es) σ H Q):wR (wL K sf C es) σ H Q:=by
 obtain ⟨pv,Z,Fs,η,w,η',A,ev,k⟩:=h
 obtain ⟨⟨ws,η1⟩,h1,h2⟩:=aa (show (evL C es η).bind (lj b)=_ from ev)
 cases h2
 refine ⟨pv,Z,Fs,η,ws,_,A,h1,fun vs Z' H' Fs' G B r s=>?_⟩
 have hl:vs.length<=LIM:=by rw [r.length,dS h1]; exact hn
 refine ⟨bg hl,fun p hp=>?_⟩
 cases b with
 | true =>
  obtain ⟨G',g1,g2⟩:=RepW.to (fun u hu=>dX hu) r
  exact bC (m:=(eh ws).up) B.own B.gd.zal g1 hl (by rw [du]; exact g2) (cD _) (bY B s k) hp
 | false =>
  obtain ⟨G',g1,g2⟩:=RepW.to (N:=.s) (fun u hu=>by cases lf u.1 u.2<;>rfl) r
  exact bC (m:=.o .s) B.own B.gd.zal g1 hl g2 (by simp) (bY B s k) hp
noncomputable def wT (K:a0a)(sl:Nat->Option Nat)(C:Call)(e:E):TT:=fun σ H Q=>∃ pv Z Fs η w η' b,At K ⟨sl,pv⟩ σ Z H Fs η no/\evE C e η=.ok (w,η')/\truth w.2=some b /\
 ∀ Z' H' Fs',At K ⟨sl,pv⟩ σ Z' H' Fs' η' no->Step Z H (tot Fs) Z' H' (tot Fs')->Q b H'
noncomputable def TrV (K:a0a)(x:V)(H:Hp)(k:Bool):Prop :=
 match x with
 | .non=>k=false
 | .bl b=>k=b
 | .int i=>k=(i != 0)
 | .str y=>y.length<=sizeLine/\k=((y.length:Int) != 0)
 | .ref p=>(∃ xs,SqL K H p xs/\k=!xs.isEmpty)\/(∃ xs,SqT K H p xs/\k=!xs.isEmpty)
 | _=>False
theorem cm {α β:Type}{xs:List α}{ys:List β}(h:xs.length=ys.length):xs.isEmpty=ys.isEmpty:=by
 cases xs<;>cases ys<;>first | rfl | simp at h
theorem fz {m:Md}{t:T}{v:V}{b:Bool}(e:truth t=some b)(r:Rep K Z H m t v G):TrV K v H b:=by
 cases t with
 | non=>cases e; rw [show v=_ from r]; rfl
 | bl c=>cases e; rw [show v=_ from r]; rfl
 | int i=>cases e; rw [show v=_ from r]; rfl
 | str x =>
  cases e; rw [show v=_ from r.1]
  refine ⟨bg (fV r.2),?_⟩
  show (x.cps.size != 0)=(((x.cps.size:Nat):Int) != 0)
  cases x.cps.size with
  | zero=>rfl
  | succ n=>simp; omega
 | tup ts =>
  obtain ⟨a,xs,rfl,hs,hl,p⟩:=b7 r
  cases e
  exact .inr ⟨xs,hs,by rw [cm p.length]⟩
 | lst ts =>
  obtain ⟨a,xs,rfl,hs,hl,p⟩:=aW r
  cases e
  exact .inl ⟨xs,.inl (.inl hs),by rw [cm p.length]⟩
 | scr ns =>
  obtain ⟨a,rfl,hL,hs⟩:=r
  cases e
  exact .inl ⟨_,hs.sq,by rw [cm (a0d ..)]⟩
 | dct _ _=>cases e
 | ins _ _ _=>cases e
 | gone=>cases e
theorem mj {e:E}{w:W}{b:Bool}{Q:Bool->Hp->Prop}(A:At K sl σ Z H Fs η no)(ev:evE C e η=.ok (w,η'))(ht:truth w.2=some b)(k:∀ Z' H' Fs',At K sl σ Z' H' Fs' η' no->Step Z H (tot Fs) Z' H' (tot Fs')->Q b H'):wT K sl.sl C e σ H Q:=⟨sl.pv,Z,Fs,η,w,η',b,A,ev,ht,k⟩
theorem bZ {α:Type}{f g:Env->Res α}{p:W×Env}{r:α}(h:onT f g p=.ok r):∃ b,truth p.1.2=some b/\(if b=true then f p.2 else g p.2)=.ok r:=by
 unfold onT at h
 split at h
 ·rename_i e; exact ⟨true,e,h⟩
 ·rename_i e; exact ⟨false,e,h⟩
 ·cases h
theorem uX {e:E}(σ:L2.St)(H:Hp)(Q:Bool->Hp->Prop)(h:wT K sf C (.not e) σ H Q):vS (wT K sf C e) σ H Q:=by
 obtain ⟨pv,Z,Fs,η,w,η',b,A,ev,ht,k⟩:=h
 obtain ⟨⟨u,η1⟩,h1,h2⟩:=aa (show (evE C e η).bind nL=_ from ev)
 obtain ⟨w',e1,e2⟩:=av (show ret η1 ((truth u.2).map fun b=>((.d,.bl (!b)):W))=_ from h2)
 cases e2
 cases e3:truth u.2 with
 | none=>rw [e3] at e1; cases e1
 | some c =>
  rw [e3] at e1; cases e1
  have:b=!c:=by cases ht; rfl
  subst this
  exact mj A h1 e3 k
theorem u7 {a b:E}(σ:L2.St)(H:Hp)(Q:Bool->Hp->Prop)(h:wT K sf C (.and a b) σ H Q):wt (wT K sf C a) (wT K sf C b) σ H Q:=by
 obtain ⟨pv,Z,Fs,η,w,η',c,A,ev,ht,k⟩:=h
 obtain ⟨⟨u,η1⟩,h1,h2⟩:=aa (show (evE C a η).bind (jS (evE C b))=_ from ev)
 obtain ⟨d,h3,h4⟩:=bZ (show onT (evE C b) (okW u) (u,η1)=_ from h2)
 refine mj A h1 h3 fun Z1 H1 Fs1 A1 s1=>?_
 cases d with
 | true=>rw [if_pos rfl] at h4 ⊢; exact mj A1 h4 ht fun Z2 H2 Fs2 A2 s2=>k Z2 H2 Fs2 A2 (s1.trans s2)
 | false =>
  rw [if_neg a0h] at h4 ⊢
  cases h4
  cases (h3.symm.trans ht)
  exact k Z1 H1 Fs1 A1 s1
theorem w5 {a b:E}(σ:L2.St)(H:Hp)(Q:Bool->Hp->Prop)(h:wT K sf C (.or a b) σ H Q):tOr (wT K sf C a) (wT K sf C b) σ H Q:=by
 obtain ⟨pv,Z,Fs,η,w,η',c,A,ev,ht,k⟩:=h
 obtain ⟨⟨u,η1⟩,h1,h2⟩:=aa (show (evE C a η).bind (kOr (evE C b))=_ from ev)
 obtain ⟨d,h3,h4⟩:=bZ (show onT (okW u) (evE C b) (u,η1)=_ from h2)
 refine mj A h1 h3 fun Z1 H1 Fs1 A1 s1=>?_
 cases d with
 | false=>rw [if_neg a0h] at h4 ⊢; exact mj A1 h4 ht fun Z2 H2 Fs2 A2 s2=>k Z2 H2 Fs2 A2 (s1.trans s2)
 | true =>
  rw [if_pos rfl] at h4 ⊢
  cases h4
  cases (h3.symm.trans ht)
  exact k Z1 H1 Fs1 A1 s1
theorem uo {a b:E}(σ:L2.St)(H:Hp)(Q:VK)(h:wE K sf C (.and a b) σ H Q):wE K sf C a σ H fun x H1=>∃ k,TrV K x H1 k/\if k=true then wE K sf C b σ H1 Q else Q x H1:=by
 obtain ⟨pv,Z,Fs,η,w,η',A,ev,k⟩:=h
 obtain ⟨⟨u,η1⟩,h1,h2⟩:=aa (show (evE C a η).bind (jS (evE C b))=_ from ev)
 obtain ⟨d,h3,h4⟩:=bZ (show onT (evE C b) (okW u) (u,η1)=_ from h2)
 refine ⟨pv,Z,Fs,η,u,η1,A,h1,fun v Z1 H1 Fs1 G B r s=>⟨d,fz h3 r,?_⟩⟩
 cases d with
 | true=>rw [if_pos rfl] at h4 ⊢; exact ⟨pv,Z1,Fs1,η1,w,η',B.bare,h4,fun v' Z' H' Fs' G' B' r' s'=>k v' Z' H' Fs' G' B' r' ((s.mono (fun _ z=>z) fun _ z=>.inl z).trans s')⟩
 | false =>
  rw [if_neg a0h] at h4 ⊢
  cases h4
  exact k v Z1 H1 Fs1 G B r s
end
end MR
namespace MR
open L2 L3 M
open PySem (Addr Str sizeLine)
section
variable {K:a0a}{sl:Cf}{sf:Nat->Option Nat}{C:Call}{σ:L2.St}{Z Z' Z1:Fp}{H H' H1:Hp}{Fs Fs' Fs1:Fps}{η η' η1:Env}{G G' R F:Fp}
structure Wk (K:a0a)(J:It)(Z:Fp)(H0:Hp)(ts:List (List W)):Prop where
 go:∀ H i,Stay Z H0 H->i < ts.length->J.go i H
 stop:∀ H i,Stay Z H0 H->ts.length<=i->J.stop i H
 len:ts.length<=LIM
noncomputable def mi (K:a0a)(J:It)(Z:Fp)(H0:Hp)(ts:List (List W)):Prop :=
 ∀ H i x H',Stay Z H0 H->i < ts.length->J.yld i H x H'->H'=H/\∃ w,ts[i]?=some [w]/\Rep K Z H w.1 w.2 x no
noncomputable def yO (K:a0a)(J:It)(Z:Fp)(H0:Hp)(ts:List (List W)):Prop :=
 ∀ H i x H',Stay Z H0 H->i < ts.length->J.yld i H x H'->∃ p y z u w,x=.ref p/\(∀ b o,H b=some o->H' b=some o)/\SqT K H' p [y,z]/\ts[i]?=some [u,w]/\Rep K Z H u.1 u.2 y no/\Rep K Z H w.1 w.2 z no
theorem hI (same:∀ b o,H b=some o->H' b=some o):Stay Z H H':=by
 refine ⟨fun a o _ e=>same a o e,fun a ys e=>?_,fun a o u e=>same a _ e⟩
 rcases e with e | ⟨u,e⟩
 ·exact .inl (same a _ e)
 ·exact .inr ⟨u,same a _ e⟩
theorem ef (same:∀ a o,H a=some o->H' a=some o):Step Z H G Z H' G:=by
 have al:∀ a,H a≠none->H' a≠none:=fun a h=>by
  cases e:H a with
  | none=>exact absurd e h
  | some o=>rw [same a o e]; simp
 exact ⟨fun a o h _=>same a o h,fun _ h=>h,fun _ h=>.inl h,fun _ h=>.inl h,al,fun z a h=>al a (z a h)⟩
noncomputable def Yld (K:a0a)(J:It)(Z:Fp)(H0:Hp)(ts:List (List W)):Nat->Prop
 | 1=>mi K J Z H0 ts
 | 2=>yO K J Z H0 ts
 | _=>False
noncomputable def wI (K:a0a)(sl:Nat->Option Nat)(C:Call)(n:Nat)(k:Ik)(src:List E):TI:=fun σ H R=>∃ pv Z Fs η ws η' ts,At K ⟨sl,pv⟩ σ Z H Fs η no/\evL C src η=.ok (ws,η')/\bo k ws=some ts /\
 ∀ J Z' H' Fs',At K ⟨sl,pv⟩ σ Z' H' Fs' η' no->Step Z H (tot Fs) Z' H' (tot Fs')->Wk K J Z' H' ts->Yld K J Z' H' ts n->R J H'
theorem At.freeze (A:At K sl σ Z H Fs η G):At K sl σ (fun a=>Z a\/G a) H Fs η no:=by
 refine ⟨⟨fun a ha=>⟨fun z=>z.elim (A.gd.own a ha).1 fun q=>A.dis a q ha,(A.gd.own a ha).2⟩,A.gd.dis,fun a h=>h.elim (A.gd.zal a) fun q=>?_⟩,fun i m t e=>?_,bH,fun _ z=>z.elim,A.lk,A.ln⟩
 ·obtain ⟨_,xs,e⟩:=A.own a q
  rw [e]; simp
 ·obtain ⟨v,r,h⟩:=A.env i m t e
  exact ⟨v,r.zmono fun a h=>.inl h,h⟩
theorem bA (o:Own Z' H' G)(s:Step Z H F Z' H' (fun a=>F' a\/G a)):Step Z H F (fun a=>Z' a\/G a) H' F' where
 keep:=s.keep
 zm:=fun a h=>.inl (s.zm a h)
 zn:=fun a h=>h.elim (s.zn a) fun q=>.inr (s.fn a (.inr q))
 fn:=fun a h=>s.fn a (.inl h)
 al:=s.al
 za:=fun z a h=>h.elim (s.za z a) fun q=>by
  obtain ⟨_,xs,e⟩:=o a q
  rw [e]; simp
theorem gr {a:Addr}{xs:List V}{H0:Hp}(s:Stay Z H0 H)(hz:Z a)(h:H0 a=some (.lst xs)):SqL K H a xs:=.inl (.inl (s.1 a _ hz h))
theorem pQ {a:Addr}{xs:List V}{ts:List T}(hL:xs.length<=LIM)(hz:Z a)(h:H a=some (.lst xs))(r:RepL K Z H .s ts xs no):Wk K (Itl K a) Z H (ts.map fun t=>[(.s,t)])/\mi K (Itl K a) Z H (ts.map fun t=>[(.s,t)]):=by
 have hl:=r.length
 refine ⟨⟨fun H' i s hi=>?_,fun H' i s hi=>?_,by rw [a0d]; omega⟩,fun H' i x H'' s hi y=>?_⟩
 ·rw [a0d] at hi
  exact ⟨xs,xs[i]'(by omega),gr s hz h,by simp⟩
 ·rw [a0d] at hi
  exact ⟨xs,gr s hz h,by omega⟩
 ·rw [a0d] at hi
  obtain ⟨rfl,y⟩:=y
  have hx:=y xs (gr s hz h)
  obtain ⟨x',hx',rx⟩:=r.get (show ts[i]?=some ts[i] by simp)
  rw [hx] at hx'; cases hx'
  refine ⟨rfl,(.s,ts[i]),by rw [a0t,show ts[i]?=some ts[i] by simp]; rfl,rx.keep s (fun _ z=>z) fun _ _ z=>z.elim⟩
theorem sY {a:Addr}{xs:List V}{ts:List T}(hL:xs.length<=LIM)(h:SqT K H a xs)(r:RepL K Z H .s ts xs no):Wk K (Itt K a) Z H (ts.map fun t=>[(.s,t)])/\mi K (Itt K a) Z H (ts.map fun t=>[(.s,t)]):=by
 have hl:=r.length
 refine ⟨⟨fun H' i s hi=>?_,fun H' i s hi=>?_,by rw [a0d]; omega⟩,fun H' i x H'' s hi y=>?_⟩
 ·rw [a0d] at hi
  exact ⟨xs,xs[i]'(by omega),s.sqt h,by simp⟩
 ·rw [a0d] at hi
  exact ⟨xs,s.sqt h,by omega⟩
 ·rw [a0d] at hi
  obtain ⟨rfl,y⟩:=y
  have hx:=y xs (s.sqt h)
  obtain ⟨x',hx',rx⟩:=r.get (show ts[i]?=some ts[i] by simp)
  rw [hx] at hx'; cases hx'
  refine ⟨rfl,(.s,ts[i]),by rw [a0t,show ts[i]?=some ts[i] by simp]; rfl,rx.keep s (fun _ z=>z) fun _ _ z=>z.elim⟩
theorem uh {lo:Int}{n:Nat}(hL:n<=LIM):Wk K (Itr lo n) Z H ((a0N n).map fun (k:Nat)=>[(.d,.int (lo+k))])/\mi K (Itr lo n) Z H ((a0N n).map fun (k:Nat)=>[(.d,.int (lo+k))]):=by
 refine ⟨⟨fun H' i s hi=>by show i < n; simpa using hi,fun H' i s hi=>by show n<=i; simpa using hi,by simpa using hL⟩,fun H' i x H'' s hi y=>?_⟩
 obtain ⟨rfl,rfl⟩:=y
 refine ⟨rfl,(.d,.int (lo+i)),?_,rfl⟩
 rw [a0d,a2m] at hi
 rw [a0t,List.getElem?_range hi]
 rfl
theorem iT {a:Addr}{ns:List Int}{H0:Hp}(s:Stay Z H0 H)(h:ScrR K H0 a ns):SqL K H a (ns.map V.int):=(h.keep s.2.2).sq
theorem se {a:Addr}{ns:List Int}(hL:ns.length<=LIM)(h:ScrR K H a ns):Wk K (Itl K a) Z H (ns.map fun n=>[(.d,.int n)])/\mi K (Itl K a) Z H (ns.map fun n=>[(.d,.int n)]):=by
 refine ⟨⟨fun H' i s hi=>?_,fun H' i s hi=>?_,by rw [a0d]; exact hL⟩,fun H' i x H'' s hi y=>?_⟩
 ·rw [a0d] at hi
  exact ⟨_,(ns.map V.int)[i]'(by rw [a0d]; exact hi),iT s h,by simp⟩
 ·rw [a0d] at hi
  exact ⟨_,iT s h,by rw [a0d]; exact hi⟩
 ·rw [a0d] at hi
  obtain ⟨rfl,y⟩:=y
  have hx:=y _ (iT s h)
  refine ⟨rfl,(.d,.int ns[i]),by rw [a0t,show ns[i]?=some ns[i] by simp]; rfl,?_⟩
  rw [a0t,show ns[i]?=some ns[i] by simp] at hx
  exact (a0p hx).symm
theorem uC {e:E}(σ:L2.St)(H:Hp)(R:It->Hp->Prop)(h:wI K sf C 1 .seq [e] σ H R):qX K (wE K sf C e) σ H R\/yz K (wE K sf C e) σ H R:=by
 obtain ⟨pv,Z,Fs,η,ws,η',ts,A,ev,ht,k⟩:=h
 obtain ⟨⟨m,a⟩,η1,us,e1,e2,rfl⟩:=aN ev
 cases e2
 cases a with
 | lst ts' =>
  cases ht
  refine .inl ⟨pv,Z,Fs,η,_,_,A,e1,fun v Z' H' Fs' G B r s=>?_⟩
  obtain ⟨a,xs,rfl,l,q,p⟩:=Rep.sh r
  obtain ⟨w1,w2⟩:=pQ l q.1 q.2 p.sany
  exact ⟨a,rfl,⟨xs,.inl (.inl q.2)⟩,k _ _ H' Fs' B.freeze (bA B.own s) w1 w2⟩
 | tup ts' =>
  cases ht
  refine .inr ⟨pv,Z,Fs,η,_,_,A,e1,fun v Z' H' Fs' G B r s=>?_⟩
  obtain ⟨a,xs,rfl,q,l,p⟩:=Rep.sh r
  obtain ⟨w1,w2⟩:=sY l q p.sany
  exact ⟨a,rfl,⟨xs,q⟩,k _ _ H' Fs' B.freeze (bA B.own s) w1 w2⟩
 | scr ns =>
  cases ht
  refine .inl ⟨pv,Z,Fs,η,_,_,A,e1,fun v Z' H' Fs' G B r s=>?_⟩
  obtain ⟨a,rfl,hl,q⟩:=r
  obtain ⟨w1,w2⟩:=se (Z:=fun a=>Z' a\/G a) hl q
  exact ⟨a,rfl,⟨_,q.sq⟩,k _ _ H' Fs' B.freeze (bA B.own s) w1 w2⟩
 | _=>cases ht
theorem p62:(2:Int) ^ 62=4611686018427387904:=by decide
theorem pw {e:E}(σ:L2.St)(H:Hp)(R:It->Hp->Prop)(h:wI K sf C 1 .rng [e] σ H R):qT (wL K sf C [e]) σ H R:=by
 obtain ⟨pv,Z,Fs,η,ws,η',ts,A,ev,ht,k⟩:=h
 refine ⟨pv,Z,Fs,η,ws,η',A,ev,fun vs Z' H' Fs' G B r s=>?_⟩
 obtain ⟨⟨m,a⟩,η1,us,e1,e2,rfl⟩:=aN ev
 cases e2
 obtain ⟨x,rfl,r1⟩:=b4 rfl r
 cases a with
 | int n =>
  rw [lG] at ht
  split at ht
  ·rename_i hc
   rw [a0i,decide_eq_true_eq] at hc
   cases ht
   refine ⟨n,by rw [show x=_ from r1],by rw [p62]; omega,by rw [p62]; omega,?_⟩
   obtain ⟨w1,w2⟩:=uh (K:=K) (Z:=fun a=>Z' a\/G a) (H:=H') (lo:=0) (n:=n.toNat) (cz hc.2)
   have hz:∀ k:Nat,(0:Int)+(k:Int)=k:=fun k=>by omega
   simp only [hz] at w1 w2
   exact k _ _ H' Fs' B.freeze (bA B.own s) w1 w2
  ·cases ht
 | _=>cases ht
end
end MR
namespace MR
open L2 L3 M
open PySem (Addr Str sizeLine)
section
variable {K:a0a}{sl:Cf}{sf sg:Nat->Option Nat}{C:Call}{σ σ2:L2.St}{Z Z' Z1:Fp}{H H' H1:Hp}{Fs Fs' Fs1:Fps}{η η' η1:Env}{G G' R F:Fp}{tg is:List Nat}{pv val:Nat->Option V}
theorem aF:∀ (tg:List Nat) (η:Env) (i:Nat),rd (ak tg η) i=if i∈tg then none else rd η i
 | [],η,i=>by simp [ak]
 | t::tg,η,i=>by
  show rd (ak tg (wr η t none)) i=_
  rw [aF tg,a7]
  by_cases h1:i∈tg
  ·simp [h1]
  ·by_cases h2:i=t
   ·subst h2
    rw [if_neg h1,if_pos a0g]
    split
    ·rfl
    ·rename_i hn
     cases e:rd η i with
     | none=>rfl
     | some w=>exact absurd ⟨rfl,c7 e⟩ hn
   ·rw [if_neg h1,if_neg (show ¬ i∈t::tg by simp [h1,h2]),if_neg (show ¬ (i=t/\t < η.length) from fun h=>h2 h.1)]
noncomputable def Nn (η η':Env):Prop:=∀ i,rd η i=none->rd η' i=none
theorem Nn.refl (η:Env):Nn η η:=fun _ h=>h
theorem Nn.trans {a b c:Env}(h:Nn a b)(k:Nn b c):Nn a c:=fun i e=>k i (h i e)
theorem iJ (η:Env)(j:Nat):Nn η (del η j):=fun i e=>by
 rw [a7]; split
 ·rfl
 ·exact e
theorem nG {η:Env}{j:Nat}{w:W}(h:rd η j≠none):Nn η (put η j w):=fun i e=>by
 rw [a7]; split
 ·rename_i hc; rw [<- hc.1] at h; exact absurd e h
 ·exact e
theorem dD:∀ {is:List Nat} {ws:List W} {η0 η:Env},(∀ i∈is,rd η0 i≠none)->Nn η0 η->Nn η0 (putAll is ws η)
 | [],_,_,_,_,h=>h
 | _::_,[],_,_,_,h=>h
 | i::is,w::ws,η0,η,hi,h=>by
  show Nn η0 (putAll is ws (put η i w))
  refine dD (fun j hj=>hi j (a0c _ hj)) fun j e=>?_
  rw [a7]; split
  ·rename_i hc; rw [hc.1] at e; exact absurd e (hi i a0g)
  ·exact h j e
theorem eE {f:Env->Res (Option W×Env)}(hf:∀ {η o η'},f η=.ok (o,η')->Nn η η'):∀ {ts:List (List W)} {η η':Env} {acc ws:List W},(∀ i∈tg,rd η i=none)->aG tg f ts η acc=.ok (ws,η')->Nn η η'
 | [],η,η',acc,ws,_,h=>by cases h; exact Nn.refl _
 | t::ts,η,η',acc,ws,ht,h=>by
  obtain ⟨η1,h1,h2⟩:=aa (show (ofO (aM tg t η)).bind (fun η1=>(f η1).bind fun p=>aG tg f ts (ak tg p.2) (acc++p.1.toList))=_ from h)
  obtain ⟨⟨o,η2⟩,h3,h4⟩:=aa h2
  have hb:∀ {tg:List Nat} {t:List W} {η η1:Env},aM tg t η=some η1->∀ i,i ∉ tg->rd η1 i=rd η i:=fun {tg}=>by
   induction tg with
   | nil=>intro t η η1 h i hi; cases t with
    | nil=>cases h; rfl
    | cons _ _=>cases h
   | cons j tg ih=>intro t η η1 h i hi; cases t with
    | nil=>cases h
    | cons w t =>
     have:=ih (show aM tg t (put η j w)=some η1 from h) i (fun z=>hi (a0c _ z))
     rw [this,a7,if_neg fun z=>hi (by rw [z.1]; exact a0g)]
  have e1:=hb (cB h1)
  have hd:∀ i,rd η i=none->rd (ak tg η2) i=none:=fun i e=>by
   rw [aF]
   split
   ·rfl
   ·rename_i hi
    exact hf h3 i (by rw [e1 i hi]; exact e)
  exact Nn.trans (b:=ak tg η2) hd (eE hf (fun i hi=>by rw [aF,if_pos hi]) h4)
noncomputable def eU (sf sg:Nat->Option Nat)(tg:List Nat)(is:List Nat):Prop :=
 ∀ i j,sg i=some j->(∃ k:Nat,tg[k]?=some i/\j=k)\/(i ∉ tg/\∃ (k j0:Nat),j=tg.length+k/\is[k]?=some j0/\sf i=some j0)
theorem At.pin (A:At K ⟨sf,pv⟩ σ Z H Fs η G):∃ val,(∀ i u,pv i=some u->val i=some u)/\At K ⟨sf,val⟩ σ Z H Fs η G/\∀ i m t,rd η i=some (m,t)->val i≠none:=by
 have ch:∀ i,∃ o:Option V,(∀ u,pv i=some u->o=some u)/\(∀ u j,o=some u->sf i=some j->σ[j]?=some (some u))/\∀ m t,rd η i=some (m,t)->∃ v,o=some v/\Rep K Z H m t v (Fs i)/\(∀ j,sf i=some j->σ[j]?=some (some v)):=fun i=>by
  cases e:rd η i with
  | none=>exact ⟨pv i,fun _ h=>h,fun u j h hs=>A.lk i u j h hs,fun _ _ h=>by cases h⟩
  | some w =>
   obtain ⟨m,t⟩:=w
   obtain ⟨v,r,h1,h2⟩:=A.env i m t e
   refine ⟨some v,fun u h=>by rw [h2 u h],fun u j h hs=>?_,fun m' t' h=>by cases h; exact ⟨v,rfl,r,h1⟩⟩
   cases h
   exact h1 j hs
 obtain ⟨val,hval⟩:=Classical.axiomOfChoice ch
 refine ⟨val,fun i u h=>(hval i).1 u h,⟨A.gd,fun i m t e=>?_,A.own,A.dis,fun i u j h hs=>(hval i).2.1 u j h hs,A.ln⟩,fun i m t e=>?_⟩
 ·obtain ⟨v,h1,r,h2⟩:=(hval i).2.2 m t e
  exact ⟨v,r,h2,fun u hu=>by rw [show val i=some u from hu] at h1; cases h1; rfl⟩
 ·obtain ⟨v,h1,r,h2⟩:=(hval i).2.2 m t e
  rw [h1]; simp
theorem At.unpin (h:∀ i u,pv i=some u->val i=some u)(A:At K ⟨sf,val⟩ σ Z H Fs η G):At K ⟨sf,pv⟩ σ Z H Fs η G :=
 ⟨A.gd,fun i m t e=>let ⟨v,r,h1,h2⟩:=A.env i m t e; ⟨v,r,h1,fun u hu=>h2 u (h i u hu)⟩,A.own,A.dis,fun i u j hu hs=>A.lk i u j (h i u hu) hs,A.ln⟩
noncomputable def inV (val:Nat->Option V)(tg:List Nat):Nat->Option V:=fun i=>if i∈tg then none else val i
theorem At.into (I:eU sf sg tg is)(ht:∀ i∈tg,rd η i=none)(hσ:∀ (k j0:Nat) (v:V),is[k]?=some j0->σ[j0]?=some (some v)->σ2[tg.length+k]?=some (some v))(hl:∀ i j,sg i=some j->j < σ2.length)(A:At K ⟨sf,val⟩ σ Z H Fs η G):At K ⟨sg,inV val tg⟩ σ2 Z H Fs η G:=by
 refine ⟨A.gd,fun i m t e=>?_,A.own,A.dis,fun i u j hu hs=>?_,hl⟩
 ·have hi:i ∉ tg:=fun h=>by rw [ht i h] at e; cases e
  obtain ⟨v,r,h1,h2⟩:=A.env i m t e
  refine ⟨v,r,fun j hj=>?_,fun u hu=>h2 u (by have h3:inV val tg i=some u:=hu; unfold inV at h3; rw [if_neg hi] at h3; exact h3)⟩
  rcases I i j hj with ⟨k,hk,_⟩ | ⟨_,k,j0,rfl,hk,hs⟩
  ·exact absurd (a1a hk) hi
  ·exact hσ k j0 v hk (h1 j0 hs)
 ·have hi:i ∉ tg:=fun h=>by
   have hu':inV val tg i=some u:=hu
   unfold inV at hu'; rw [if_pos h] at hu'; cases hu'
  have hu':val i=some u:=by have h3:inV val tg i=some u:=hu; unfold inV at h3; rw [if_neg hi] at h3; exact h3
  rcases I i j hs with ⟨k,hk,_⟩ | ⟨_,k,j0,rfl,hk,hs⟩
  ·exact absurd (a1a hk) hi
  ·exact hσ k j0 u hk (A.lk i u j0 hu' hs)
theorem At.outof (ht:∀ i∈tg,rd η i=none)(hv:∀ i m t,rd η i=some (m,t)->val i≠none)(lk:∀ i u j,val i=some u->sf i=some j->σ[j]?=some (some u))(ln:∀ i j,sf i=some j->j < σ.length)(A:At K ⟨sg,inV val tg⟩ σ2 Z H Fs η G):At K ⟨sf,val⟩ σ Z H Fs η G:=by
 refine ⟨A.gd,fun i m t e=>?_,A.own,A.dis,lk,ln⟩
 have hi:i ∉ tg:=fun h=>by rw [ht i h] at e; cases e
 obtain ⟨v,r,h1,h2⟩:=A.env i m t e
 cases hu:val i with
 | none=>exact absurd hu (hv i m t e)
 | some u =>
  have:v=u:=h2 u (by show inV val tg i=some u; unfold inV; rw [if_neg hi]; exact hu)
  subst this
  exact ⟨v,r,fun j hj=>lk i v j hu hj,fun u' hu'=>by rw [show val i=some u' from hu'] at hu; cases hu; rfl⟩
end
section
variable {C:Call}
theorem ek:∀ (vs:List Nat) (η:Env),Nn η (M.share vs η)
 | [],η=>fun _ e=>e
 | v::vs,η=>Nn.trans (b:=wr η v (toS (rd η v))) (fun i e=>by
   rw [a7]; split
   ·rename_i hc; rw [<- hc.1,e]; rfl
   ·exact e) (ek vs _)
theorem mM (m:Md)(vs:List Nat)(η:Env):Nn η (after m vs η):=by
 cases m with
 | d=>exact fun _ e=>e
 | s=>exact ek vs η
 | o _=>exact ek vs η
theorem hX {α:Type}{tab:List (Str×α)}{f:α->Env->RE}{p:W×Env}{r:W×Env}(h:j5 tab f p=.ok r):∃ x a,p.1.2=.str x/\tab.lookup x=some a/\f a p.2=.ok r:=by
 unfold j5 at h
 split at h
 ·rename_i x hx
  split at h
  ·rename_i a ha; exact ⟨x,a,hx,ha,h⟩
  ·cases h
 ·cases h
theorem qg {neg:Bool}{ks:List Str}{p r:W×Env}(h:kIn neg ks p=.ok r):∃ x,p.1.2=.str x/\r.2=p.2/\r.1=(.d,.bl (ks.contains x != neg)):=by
 unfold kIn at h
 split at h
 ·rename_i x hx; cases h; exact ⟨x,hx,rfl,rfl⟩
 ·cases h
theorem lh {tab:List (Str×T)}{p r:W×Env}(h:qH tab p=.ok r):∃ x,p.1.2=.str x/\r.2=p.2/\r.1=(.s,(tab.lookup x).getD .non):=by
 unfold qH at h
 split at h
 ·rename_i x hx; cases h; exact ⟨x,hx,rfl,rfl⟩
 ·cases h
mutual
theorem ay:∀ (e:E) {η η':Env} {w:W},evE C e η=.ok (w,η')->Nn η η'
 | .var i,η,η',w,h=>by obtain ⟨_,_,e⟩:=av (show ret η ((rd η i).bind look)=_ from h); cases e; exact Nn.refl _
 | .mv i,η,η',w,h=>by obtain ⟨_,_,e⟩:=av (show ret (del η i) (rd η i)=_ from h); cases e; exact iJ _ _
 | .io i,η,η',w,h=>by obtain ⟨_,_,e⟩:=av (show ret (del η i) (rd η i)=_ from h); cases e; exact iJ _ _
 | .cst t,η,η',w,h=>by cases h; exact Nn.refl _
 | .glb _ t,η,η',w,h=>by cases h; exact Nn.refl _
 | .tup es,η,η',w,h=>by
  obtain ⟨⟨ws,η1⟩,h1,h2⟩:=aa (show (evL C es η).bind iF=_ from h)
  cases h2; exact cM es h1
 | .lst b es,η,η',w,h=>by
  obtain ⟨⟨ws,η1⟩,h1,h2⟩:=aa (show (evL C es η).bind (lj b)=_ from h)
  cases h2; exact cM es h1
 | .wk m e,η,η',w,h=>by
  obtain ⟨⟨u,η1⟩,h1,h2⟩:=aa (show (evE C e η).bind (kWk m)=_ from h)
  obtain ⟨_,_,e3⟩:=av (show ret η1 _=_ from h2)
  cases e3; exact ay e h1
 | .op o b es,η,η',w,h=>by
  obtain ⟨ws,h1,h2⟩:=cN h
  exact cM es h1
 | .and a b,η,η',w,h=>by
  obtain ⟨⟨u,η1⟩,h1,h2⟩:=aa (show (evE C a η).bind (jS (evE C b))=_ from h)
  obtain ⟨d,h3,h4⟩:=bZ (show onT (evE C b) (okW u) (u,η1)=_ from h2)
  cases d with
  | true=>rw [if_pos rfl] at h4; exact (ay a h1).trans (ay b h4)
  | false=>rw [if_neg a0h] at h4; cases h4; exact ay a h1
 | .or a b,η,η',w,h=>by
  obtain ⟨⟨u,η1⟩,h1,h2⟩:=aa (show (evE C a η).bind (kOr (evE C b))=_ from h)
  obtain ⟨d,h3,h4⟩:=bZ (show onT (okW u) (evE C b) (u,η1)=_ from h2)
  cases d with
  | false=>rw [if_neg a0h] at h4; exact (ay a h1).trans (ay b h4)
  | true=>rw [if_pos rfl] at h4; cases h4; exact ay a h1
 | .not a,η,η',w,h=>by
  obtain ⟨⟨u,η1⟩,h1,h2⟩:=aa (show (evE C a η).bind nL=_ from h)
  obtain ⟨_,_,e3⟩:=av (show ret η1 _=_ from h2)
  cases e3; exact ay a h1
 | .ifx c a b,η,η',w,h=>by
  obtain ⟨⟨u,η1⟩,h1,h2⟩:=aa (show (evE C c η).bind (onT (evE C a) (evE C b))=_ from h)
  obtain ⟨d,h3,h4⟩:=bZ h2
  cases d with
  | true=>rw [if_pos rfl] at h4; exact (ay c h1).trans (ay a h4)
  | false=>rw [if_neg a0h] at h4; exact (ay c h1).trans (ay b h4)
 | .chain o q a b c,η,η',w,h=>by
  obtain ⟨⟨x,η1⟩,h1,h2⟩:=aa (show (evE C a η).bind (kC1 o q (evE C b) (evE C c))=_ from h)
  obtain ⟨⟨y,η2⟩,h3,h4⟩:=aa (show (evE C b η1).bind (kC2 o q (evE C c) x)=_ from h2)
  obtain ⟨⟨k,η3⟩,h5,h6⟩:=aa (show (ret η2 (oSem o false [x,y])).bind (fun k=>onB k.1.2 (then' (evE C c) (kC3 q y)) (okW (.d,.bl false)) k.2)=_ from h4)
  obtain ⟨k',_,e5⟩:=av h5
  have e6:η3=η2:=congrArg a1x e5
  have n2:=(ay a h1).trans (ay b h3)
  have h6':onB k.2 (then' (evE C c) (kC3 q y)) (okW (.d,.bl false)) η2=.ok (w,η'):=by rw [<- e6]; exact h6
  generalize k.2=kk at h6'
  cases kk with
  | bl b =>
   cases b with
   | true =>
    obtain ⟨⟨z,η4⟩,h7,h8⟩:=aa (show (evE C c η2).bind (kC3 q y)=_ from h6')
    obtain ⟨z',_,e8⟩:=av (show ret η4 (oSem q false [y,z])=_ from h8)
    have e9:η'=η4:=congrArg a1x e8
    rw [e9]
    exact n2.trans (ay c h7)
   | false=>cases h6'; exact n2
  | _=>cases h6'
 | .call f es,η,η',w,h=>by
  obtain ⟨⟨ws,η1⟩,h1,h2⟩:=aa (show (evA C es η).bind (kCall C f (ios es))=_ from h)
  obtain ⟨⟨u,us⟩,h3,h4⟩:=aa (show (C f ws).bind (kBack (ios es) η1)=_ from h2)
  cases h4
  exact dD (eB es h1) (cK es h1)
 | .comp b k src tg none elt,η,η',w,h=>by
  obtain ⟨⟨ws,η1⟩,h1,h2⟩:=aa (show (evL C src η).bind (df b k tg (bG (evE C elt)))=_ from h)
  obtain ⟨⟨ts,η2⟩,h3,h4⟩:=aa (show (ret (ak tg η1) (bo k ws)).bind (fun t=>(aG tg (bG (evE C elt)) t.1 t.2 []).bind (ik b))=_ from h2)
  obtain ⟨_,_,e3⟩:=av h3
  have e4:η2=ak tg η1:=congrArg a1x e3
  subst e4
  obtain ⟨⟨us,η3⟩,h5,h6⟩:=aa (show (aG tg (bG (evE C elt)) ts (ak tg η1) []).bind (ik b)=_ from h4)
  obtain ⟨_,_,e6⟩:=av (show ret η3 _=_ from h6)
  have e7:η'=η3:=congrArg a1x e6
  subst e7
  refine (cM src h1).trans (Nn.trans (b:=ak tg η1) (fun i e=>by rw [aF]; split<;>first | rfl | exact e) (eE (fun {η o η'} hf=>?_) (fun i hi=>by rw [aF,if_pos hi]) h5))
  obtain ⟨⟨u,η4⟩,h7,h8⟩:=aa (show (evE C elt η).bind fv=_ from hf)
  cases h8
  exact ay elt h7
 | .comp b k src tg (some c) elt,η,η',w,h=>by
  obtain ⟨⟨ws,η1⟩,h1,h2⟩:=aa (show (evL C src η).bind (df b k tg (lP (evE C c) (evE C elt)))=_ from h)
  obtain ⟨⟨ts,η2⟩,h3,h4⟩:=aa (show (ret (ak tg η1) (bo k ws)).bind (fun t=>(aG tg (lP (evE C c) (evE C elt)) t.1 t.2 []).bind (ik b))=_ from h2)
  obtain ⟨_,_,e3⟩:=av h3
  have e4:η2=ak tg η1:=congrArg a1x e3
  subst e4
  obtain ⟨⟨us,η3⟩,h5,h6⟩:=aa (show (aG tg (lP (evE C c) (evE C elt)) ts (ak tg η1) []).bind (ik b)=_ from h4)
  obtain ⟨_,_,e6⟩:=av (show ret η3 _=_ from h6)
  have e7:η'=η3:=congrArg a1x e6
  subst e7
  refine (cM src h1).trans (Nn.trans (b:=ak tg η1) (fun i e=>by rw [aF]; split<;>first | rfl | exact e) (eE (fun {η o η'} hf=>?_) (fun i hi=>by rw [aF,if_pos hi]) h5))
  obtain ⟨⟨u,η4⟩,h7,h8⟩:=aa (show (evE C c η).bind (onT (bG (evE C elt)) (okW none))=_ from hf)
  obtain ⟨d,h9,h10⟩:=bZ h8
  cases d with
  | true =>
   rw [if_pos rfl] at h10
   obtain ⟨⟨u2,η5⟩,h11,h12⟩:=aa (show (evE C elt η4).bind fv=_ from h10)
   cases h12
   exact (ay c h7).trans (ay elt h11)
  | false =>
   rw [if_neg a0h] at h10
   cases h10
   exact ay c h7
 | .pop i es,η,η',w,h=>by
  obtain ⟨_,_,h0⟩:=aa (show (eQ (rd η i)).bind (l9 (evL C es) η (pN i))=_ from h)
  obtain ⟨⟨ws,η1⟩,h1,h2⟩:=aa (show (evL C es η).bind (pN i)=_ from h0)
  obtain ⟨r,h3,h4⟩:=aa (show (ofO ((rd η1 i).bind fun w=>vV w ws)).bind (fun r=>.ok (r.1,put η1 i r.2))=_ from h2)
  cases h4
  refine (cM es h1).trans (nG ?_)
  have:=cB h3
  intro e; rw [e] at this; cases this
 | .lenV i,η,η',w,h=>by obtain ⟨_,_,e⟩:=av (show ret η ((rd η i).bind fun w=>oSem .len false [w])=_ from h); cases e; exact Nn.refl _
 | .ixV i j,η,η',w,h=>by obtain ⟨_,_,e⟩:=av (show ret η (ixVT (rd η i) (rd η j))=_ from h); cases e; exact Nn.refl _
 | .tupA es,η,η',w,h=>by
  obtain ⟨⟨ws,η1⟩,h1,h2⟩:=aa (show (evA C es η).bind iF=_ from h)
  cases h2; exact cK es h1
 | .qx vs ls e,η,η',w,h=>by
  obtain ⟨⟨u,η1⟩,h1,h2⟩:=aa (show (evE C e (cR vs ls η)).bind (kX vs η)=_ from h)
  cases h2
  exact mM _ vs η
 | .mvP i p,η,η',w,h=>by
  obtain ⟨r,h1,h2⟩:=aa (show (ofO ((rd η i).bind (rA p))).bind (yh i η)=_ from h)
  cases h2
  refine nG fun e=>?_
  have:=cB h1
  rw [e] at this; cases this
 | .callT tab k es,η,η',w,h=>by
  obtain ⟨⟨u,η1⟩,h1,h2⟩:=aa (show (evE C k η).bind (j5 tab (kCT C (evA C es) (ios es)))=_ from h)
  obtain ⟨x,j,_,_,h3⟩:=hX h2
  obtain ⟨⟨ws,η2⟩,h4,h5⟩:=aa (show (evA C es η1).bind (kCall C j (ios es))=_ from h3)
  obtain ⟨⟨r,bs⟩,h6,h7⟩:=aa (show (C j ws).bind (kBack (ios es) η2)=_ from h5)
  cases h7
  exact (ay k h1).trans (dD (eB es h4) (cK es h4))
 | .inT neg ks e,η,η',w,h=>by
  obtain ⟨⟨u,η1⟩,h1,h2⟩:=aa (show (evE C e η).bind (kIn neg ks)=_ from h)
  obtain ⟨x,_,e2,_⟩:=qg h2
  cases e2; exact ay e h1
 | .ixT tab e,η,η',w,h=>by
  obtain ⟨⟨u,η1⟩,h1,h2⟩:=aa (show (evE C e η).bind (j5 tab okS)=_ from h)
  obtain ⟨x,j,_,_,h3⟩:=hX h2
  cases h3; exact ay e h1
 | .getT tab e,η,η',w,h=>by
  obtain ⟨⟨u,η1⟩,h1,h2⟩:=aa (show (evE C e η).bind (qH tab)=_ from h)
  obtain ⟨x,_,e2,_⟩:=lh h2
  cases e2; exact ay e h1
theorem cM:∀ (es:List E) {η η':Env} {ws:List W},evL C es η=.ok (ws,η')->Nn η η'
 | [],η,η',ws,h=>by cases h; exact Nn.refl _
 | e::es,η,η',ws,h=>by
  obtain ⟨w,η1,us,h1,h2,_⟩:=aN h
  exact (ay e h1).trans (cM es h2)
theorem cK:∀ (es:List E) {η η':Env} {ws:List W},evA C es η=.ok (ws,η')->Nn η η'
 | [],η,η',ws,h=>by cases h; exact Nn.refl _
 | e::es,η,η',ws,h=>by
  rcases qK e with ⟨i,hi⟩ | he
  ·subst hi
   obtain ⟨us,η1,w,h1,_,_,h4⟩:=dm h
   rw [h4]
   exact (cK es h1).trans (iJ _ _)
  ·obtain ⟨w,η1,us,h1,h2,_⟩:=bM he h
   exact (ay e h1).trans (cK es h2)
theorem eB:∀ (es:List E) {η η':Env} {ws:List W},evA C es η=.ok (ws,η')->∀ i∈ios es,rd η i≠none
 | [],_,_,_,_,i,hi=>by simp [ios] at hi
 | e::es,η,η',ws,h,i,hi=>by
  rcases qK e with ⟨j,hj⟩ | he
  ·subst hj
   obtain ⟨us,η1,w,h1,h2,_,_⟩:=dm h
   rcases a0v.mp (show i∈j::ios es from hi) with z | z
   ·subst z
    exact fun z=>by rw [cK es h1 i z] at h2; cases h2
   ·exact eB es h1 i z
  ·obtain ⟨w,η1,us,h1,h2,_⟩:=bM he h
   have hi':i∈ios es:=by
    cases e with
    | io j=>exact absurd rfl (he j)
    | _=>exact hi
   exact fun z=>eB es h2 i hi' (ay e h1 i z)
end
end
section
variable {K:a0a}{sl:Cf}{sf sg:Nat->Option Nat}{C:Call}{σ σ2:L2.St}{Z Z' Z1:Fp}{H H' H1:Hp}{Fs Fs' Fs1:Fps}{η η' η1 ηb:Env}{G G' R F:Fp}{tg is:List Nat}{pv val:Nat->Option V}
noncomputable def gT (K:a0a):Nat->TG
 | 1=>cj 0
 | 2=>wJ K 2 (ji (cj 0) (ji (cj 1) v5))
 | _=>fun _ _ _ _=>False
theorem At.put1 {i:Nat}{w:W}{x:V}(A:At K sl σ Z H Fs η G)(r:Rep K Z H w.1 w.2 x (Fs i))(hl:∀ j,sl.sl i=some j->σ[j]?=some (some x))(hp:sl.pv i=none):At K sl σ Z H Fs (put η i w) G:=by
 refine ⟨A.gd,fun j m t e=>?_,A.own,A.dis,A.lk,A.ln⟩
 rw [a7] at e
 split at e
 ·rename_i hc
  cases e
  obtain ⟨rfl,_⟩:=hc
  exact ⟨x,r,hl,fun u hu=>by rw [hp] at hu; cases hu⟩
 ·exact A.env j m t e
theorem gD {k j0:Nat}{v:V}(h1:is[k]?=some j0)(h2:σ[j0]?=some (some v)):(bc σ is)[k]?=some (some v):=by
 unfold bc
 rw [a0t,h1]
 show some ((σ[j0]?).join)=_
 rw [h2]
 rfl
theorem fB (I:eU sf sg tg is)(h:σ2.length=tg.length+is.length):∀ i j,sg i=some j->j < σ2.length:=fun i j hj=>by
 rcases I i j hj with ⟨k,hk,rfl⟩ | ⟨_,k,j0,rfl,hk,_⟩
 ·have:=(a0o.mp hk).1
  omega
 ·have:=(a0o.mp hk).1
  omega
theorem j6 {n i:Nat}{J:It}{ts:List (List W)}{ws:List W}{x:V}{Q:L2.St->Hp->Prop}(hn:tg.length=n)(nd:tg.Nodup)(I:eU sf sg tg is)(hz:∀ a,Z1 a->Z a)(st:Stay Z1 H1 H)(yl:Yld K J Z1 H1 ts n)(A:At K ⟨sf,val⟩ σ Z H Fs η G)
  (ht:∀ i∈tg,rd η i=none) (hw:ts[i]?=some ws) (hb:aM tg ws η=some ηb) (y:J.yld i H x H')
  (k:∀ σ2 H2,At K ⟨sg,inV val tg⟩ σ2 Z H2 Fs ηb G->Step Z H no Z H2 no->(σ2.length=n+(bc σ is).length/\σ2.drop n=bc σ is)->Q σ2 H2):gT K n x (a0f n none++bc σ is) H' Q:=by
 have hi:i < ts.length:=(a0o.mp hw).1
 have own0:∀ {t:Nat},t∈tg->inV val tg t=none:=fun {t} h=>if_pos h
 match n,yl with
 | 1,yl =>
  obtain ⟨e0,w,hw',r⟩:=yl H i x H' st hi y
  rw [e0]
  rw [hw] at hw'; cases hw'
  match tg,hn with
  | [t],_ =>
   cases hb
   have r':Rep K Z H w.1 w.2 x (Fs t):=(r.zmono hz).mono fun _ z=>z.elim
   refine k _ H ?_ (Step.refl _ _ _) ⟨by simp [a1T],rfl⟩
   refine (A.into (σ2:=some x::bc σ is) I ht (fun k j0 v h1 h2=>?_) (fB I (by simp [bc,a1T]))).put1 r' (fun j hj=>?_) (own0 (by simp))
   ·rw [a0S,a1T,a0s]; exact gD h1 h2
   ·rcases I t j hj with ⟨k,hk,rfl⟩ | ⟨h,_⟩
    ·cases j with
     | zero=>rfl
     | succ _=>simp at hk
    ·exact absurd (a0E.mpr rfl) h
 | 2,yl =>
  obtain ⟨p,y1,z1,u,w,rfl,sm,hq,hw',r1,r2⟩:=yl H i x H' st hi y
  rw [hw] at hw'; cases hw'
  match tg,hn with
  | [t,t'],_ =>
   cases hb
   have hne:t≠t':=fun z=>by simp [z] at nd
   have s1:Step Z H G Z H' G:=ef sm
   have o1:Own Z H' G:=fun a ha=>by
    obtain ⟨nz,ys,e⟩:=A.own a ha
    exact ⟨nz,ys,sm _ _ e⟩
   obtain ⟨A1,_⟩:=A.op o1 s1
   have sn:Stay Z H H':=hI sm
   have r1':Rep K Z H' u.1 u.2 y1 (Fs t):=((r1.zmono hz).keep sn (fun _ z=>z) fun _ _ z=>z.elim).mono fun _ z=>z.elim
   have r2':Rep K Z H' w.1 w.2 z1 (Fs t'):=((r2.zmono hz).keep sn (fun _ z=>z) fun _ _ z=>z.elim).mono fun _ z=>z.elim
   have s0:Step Z H no Z H' no:=ef sm
   refine ⟨p,[y1,z1],rfl,hq,rfl,y1,[z1],rfl,z1,[],rfl,rfl,k (some y1::some z1::bc σ is) _ ?_ s0 ⟨by simp; omega,rfl⟩⟩
   refine ((A1.into (σ2:=some y1::some z1::bc σ is) I ht (fun k j0 v h1 h2=>?_) (fB I (by simp [bc]; omega))).put1 r1' (fun j hj=>?_) (own0 (by simp))).put1 r2' (fun j hj=>?_) (own0 (by simp))
   ·rw [show [t,t'].length+k=k+1+1 by simp; omega,a0s,a0s]; exact gD h1 h2
   ·rcases I t j hj with ⟨k,hk,rfl⟩ | ⟨h,_⟩
    ·match j,hk with
     | 0,_=>rfl
     | 1,hk=>exact absurd (a0p hk).symm hne
    ·exact absurd (by simp) h
   ·rcases I t' j hj with ⟨k,hk,rfl⟩ | ⟨h,_⟩
    ·match j,hk with
     | 0,hk=>exact absurd (a0p hk) hne
     | 1,_=>rfl
    ·exact absurd (by simp) h
noncomputable def dN (Fs:Fps)(tg:List Nat):Fps:=fun j a=>j ∉ tg/\Fs j a
theorem bP {a:Addr}(h:tot (dN Fs tg) a):tot Fs a:=let ⟨j,_,h2⟩:=h; ⟨j,h2⟩
theorem At.dels (A:At K sl σ Z H Fs η G):At K sl σ Z H (dN Fs tg) (ak tg η) G:=by
 refine ⟨⟨fun a h=>A.gd.own a (bP h),fun i j a h1 h2=>A.gd.dis i j a h1.2 h2.2,A.gd.zal⟩,fun i m t e=>?_,A.own,fun a h q=>A.dis a h (bP q),A.lk,A.ln⟩
 rw [aF] at e
 split at e
 ·cases e
 ·rename_i hi
  obtain ⟨v,r,h⟩:=A.env i m t e
  exact ⟨v,r.mono fun a ha=>⟨hi,ha⟩,h⟩
theorem eJ:∀ {tg:List Nat} {t:List W} {η η1:Env},aM tg t η=some η1->∀ i,i ∉ tg->rd η1 i=rd η i
 | [],[],η,η1,h,i,_=>by cases h; rfl
 | [],_::_,_,_,h,_,_=>by cases h
 | _::_,[],_,_,h,_,_=>by cases h
 | j::tg,w::t,η,η1,h,i,hi=>by
  rw [eJ (show aM tg t (put η j w)=some η1 from h) i fun z=>hi (a0c _ z),a7,if_neg fun z=>hi (by rw [z.1]; exact a0g)]
structure CSt (K:a0a)(sf:Nat->Option Nat)(val:Nat->Option V)(σ:L2.St)(tg:List Nat)(f:Env->Res (Option W×Env))(ts:List (List W))(η0:Env)(us:List W)(η3:Env)(Z1:Fp)(H1:Hp)(F1:Fp)(i:Nat)(ys:List V)(H:Hp):Prop where
 ex:∃ (Z:Fp) (Fs:Fps) (η:Env) (acc:List W) (G:Fp),At K ⟨sf,val⟩ σ Z H Fs η G/\RepW K Z H acc ys G/\aG tg f (ts.drop i) η acc=.ok (us,η3)/\(∀ j∈tg,rd η j=none)/\(∀ j∈tg,∀ a,¬ Fs j a)/\Nn η0 η/\Step Z1 H1 F1 Z H (fun a=>tot Fs a\/G a)
 len:ys.length<=i
theorem mI {h:Bool}{us:List W}{ys:List V}{w:W}{Q:VK}(o:Own Z H G)(za:∀ a,Z a->H a≠none)(r:RepW K Z H us ys G)(hl:ys.length<=LIM)(hn:(if h then (if us.all okD then some ((.d,.lst (aL us)):W) else none) else some (.o .s,.lst (aL us)))=some w)(k:Out K Z H G w Q):∀ p,H p=none->Q (.ref p) (upd H p (.lst ys)):=by
 intro p hp
 cases h with
 | true =>
  rw [if_pos rfl] at hn
  split at hn
  ·rename_i ha
   cases hn
   rw [a0z] at ha
   obtain ⟨G',g1,g2⟩:=RepW.to (N:=.d) (fun u hu=>by
    have:=ha u hu
    unfold okD at this
    rw [a2C] at this
    unfold M.lf
    split
    ·rfl
    ·rename_i hnl
     rcases this with z | z
     ·rw [eq_of_beq z]; rfl
     ·exact absurd z hnl) r
   exact bC (m:=.d) o za g1 hl g2 (by simp) k hp
  ·cases hn
 | false =>
  rw [if_neg a0h] at hn
  cases hn
  obtain ⟨G',g1,g2⟩:=RepW.to (N:=.s) (fun u hu=>by cases M.lf u.1 u.2<;>rfl) r
  exact bC (m:=.o .s) o za g1 hl g2 (by simp) k hp
end
end MR
namespace MR
open L2 L3 M
open PySem (Addr Str sizeLine)
section
variable {K:a0a}{sf sg:Nat->Option Nat}{C:Call}{tg is:List Nat}
theorem fq {α:Type}{l:List α}{i:Nat}{a:α}(h:l[i]?=some a):l.drop i=a::l.drop (i+1):=by
 obtain ⟨h1,h2⟩:=a0o.mp h
 rw [a1D h1,h2]
theorem gX {h:Bool}{k:Ik}{f:Env->Res (Option W×Env)}{p:List W×Env}{w:W}{η':Env}(e:df h k tg f p=.ok (w,η')):∃ ts us,bo k p.1=some ts/\aG tg f ts (ak tg p.2) []=.ok (us,η')/\(if h then (if us.all okD then some ((.d,.lst (aL us)):W) else none) else some (.o .s,.lst (aL us)))=some w:=by
 obtain ⟨⟨ts,η2⟩,h3,h4⟩:=aa (show (ret (ak tg p.2) (bo k p.1)).bind (fun t=>(aG tg f t.1 t.2 []).bind (ik h))=_ from e)
 obtain ⟨ts',ht,e3⟩:=av h3
 have e4:ts=ts':=congrArg a2V e3
 have e5:η2=ak tg p.2:=congrArg a1x e3
 subst e4 e5
 obtain ⟨⟨us,η3⟩,h5,h6⟩:=aa (show (aG tg f ts (ak tg p.2) []).bind (ik h)=_ from h4)
 obtain ⟨w',hw,e6⟩:=av (show ret η3 (if h then (if us.all okD then some ((.d,.lst (aL us)):W) else none) else some (.o .s,.lst (aL us)))=_ from h6)
 have e7:w=w':=congrArg a2V e6
 have e8:η'=η3:=congrArg a1x e6
 subst e7 e8
 exact ⟨ts,us,ht,h5,hw⟩
theorem iL {f:Env->Res (Option W×Env)}{t:List W}{ts:List (List W)}{η η3:Env}{acc us:List W}(e:aG tg f (t::ts) η acc=.ok (us,η3)):∃ ηb o ηc,aM tg t η=some ηb/\f ηb=.ok (o,ηc)/\aG tg f ts (ak tg ηc) (acc++o.toList)=.ok (us,η3):=by
 obtain ⟨η1,h1,h2⟩:=aa (show (ofO (aM tg t η)).bind (fun η1=>(f η1).bind fun p=>aG tg f ts (ak tg p.2) (acc++p.1.toList))=_ from e)
 obtain ⟨⟨o,η2⟩,h3,h4⟩:=aa h2
 exact ⟨η1,o,η2,cB h1,h3,h4⟩
theorem kD {n:Nat}{h:Bool}{k:Ik}{src:List E}{f:Env->Res (Option W×Env)}{te:L2.St->Hp->(Option V->Hp->Prop)->Prop}(hn:tg.length=n)(nd:tg.Nodup)(I:eU sf sg tg is)
  (hf:∀ {η o η'},f η=.ok (o,η')->Nn η η')
  (hte:∀ {val:Nat->Option V} {σ2:L2.St} {Z:Fp} {H:Hp} {Fs:Fps} {η ηc:Env} {R:Fp} {o:Option W} {Q:Option V->Hp->Prop},At K ⟨sg,val⟩ σ2 Z H Fs η R->f η=.ok (o,ηc) ->
   (∀ oy Z' H' Fs' G,At K ⟨sg,val⟩ σ2 Z' H' Fs' ηc (fun c=>R c\/G c)->(match o,oy with | some w,some y=>Rep K Z' H' w.1 w.2 y G | none,none=>True | _,_=>False)->(∀ c,R c->¬ G c)->Step Z H (tot Fs) Z' H' (fun a=>tot Fs' a\/G a)->Q oy H')->te σ2 H Q)
  {e:E} (he:∀ η,evE C e η=(evL C src η).bind (df h k tg f)) (σ:L2.St) (H:Hp) (Q:VK) (hw:wE K sf C e σ H Q) :
  wI K sf C n k src σ H fun J H1=>∃ W:Nat->Nat->List V->Hp->Prop,(∃ m,W 0 m [] H1)/\∀ i m ys H,W i m ys H ->
   (J.stop i H/\ys.length<=sizeLine/\∀ p,H p=none->Q (.ref p) (upd H p (.lst ys))) \/
   (J.go i H/\ys.length < sizeLine/\∀ x H',J.yld i H x H'->gT K n x (a0f n none++bc σ is) H' fun σ2 H2=>(σ2.length=n+(bc σ is).length/\σ2.drop n=bc σ is)/\te σ2 H2 fun oy H3=>∃ m',m' < m/\W (i+1) m' (ys++oy.toList) H3):=by
 obtain ⟨pv,Z,Fs,η,w,η',A,ev,kk⟩:=hw
 rw [he] at ev
 obtain ⟨⟨ws,η1⟩,h1,h2⟩:=aa ev
 obtain ⟨ts,us,ht,h3,h4⟩:=gX h2
 refine ⟨pv,Z,Fs,η,ws,η1,ts,A,h1,ht,fun J Z1 H1 Fs1 A1 s1 wk yl=>?_⟩
 obtain ⟨val,v1,A2,v2⟩:=(A1.dels (tg:=tg)).pin
 have s1':Step Z H (tot Fs) Z1 H1 (tot (dN Fs1 tg)):=s1.mono (fun _ z=>z) fun _ z=>bP z
 refine ⟨fun i m ys H=>m=ts.length-i/\i<=ts.length/\CSt K sf val σ tg f ts (ak tg η1) us η' Z1 H1 (tot (dN Fs1 tg)) i ys H,⟨ts.length,by simp,a0W _,⟨⟨Z1,dN Fs1 tg,ak tg η1,[],no,A2,rfl,h3,fun j hj=>by rw [aF,if_pos hj],fun j hj a ha=>ha.1 hj,Nn.refl _,(Step.refl _ _ _).mono (fun _ z=>z) fun a ha=>ha.elim id fun z=>z.elim⟩,a0b _⟩⟩,?_⟩
 rintro i m ys H0 ⟨rfl,hi,⟨⟨Zi,Fsi,ηi,acc,Ga,Ai,ra,hc,htg,hfp,hnn,si⟩,hlen⟩⟩
 have st:Stay Z1 H1 H0:=A2.gd.own.stay si
 have hL:=wk.len
 by_cases hlt:i < ts.length
 ·right
  refine ⟨wk.go H0 i st hlt,a2f (a0j hlen hi) (ml hL),fun x H2 y=>?_⟩
  have hw:ts[i]?=some ts[i]:=by simp [hlt]
  rw [fq hw] at hc
  obtain ⟨ηb,o,ηc,hb,hfe,hc2⟩:=iL hc
  refine j6 hn nd I si.zm st yl Ai htg hw hb y fun σ2 H3 A3 s3 hσ=>⟨hσ,?_⟩
  refine hte A3 hfe fun oy Z4 H4 Fs4 G4 A4 r4 d4 s4=>⟨ts.length-(i+1),by omega,rfl,hlt,⟨?_,?_⟩⟩
  ·have ra3:RepW K Zi H3 acc ys Ga:=ra.frame bH s3 fun _ _ z=>z
   have ra4:RepW K Z4 H4 acc ys Ga:=ra3.frame A3.gd.own s4 A3.dis
   have vv:∀ j m t,rd (ak tg ηc) j=some (m,t)->val j≠none:=fun j m t e=>by
    rw [aF] at e
    split at e
    ·cases e
    ·rename_i hj
     have n1:rd ηb j≠none:=fun z=>by rw [hf hfe j z] at e; cases e
     rw [eJ hb j hj] at n1
     have n2:rd (ak tg η1) j≠none:=fun z=>n1 (hnn j z)
     cases e2:rd (ak tg η1) j with
     | none=>exact absurd e2 n2
     | some u=>exact v2 j u.1 u.2 e2
   have A5:=(A4.dels (tg:=tg)).outof (sf:=sf) (σ:=σ) (val:=val) (fun j hj=>by rw [aF,if_pos hj]) vv Ai.lk Ai.ln
   have s5:Step Z1 H1 (tot (dN Fs1 tg)) Z4 H4 (fun a=>tot (dN Fs4 tg) a\/(Ga a\/G4 a)):=by
    refine (si.trans (((s3.frame (fun a=>tot Fsi a\/Ga a)).mono (fun a ha=>ha.elim (fun z=>z.elim) id) fun a ha=>.inr ha).trans (s4.frame Ga))).mono (fun _ z=>z) fun a ha=>?_
    rcases ha with z | z | z
    ·exact .inl (.inl (bP z))
    ·exact .inr z
    ·exact .inl (.inr z)
   refine ⟨Z4,dN Fs4 tg,ak tg ηc,acc++o.toList,fun c=>Ga c\/G4 c,A5,?_,hc2,fun j hj=>by rw [aF,if_pos hj],fun j hj a ha=>ha.1 hj,fun j e=>?_,s5⟩
   ·cases o with
    | none =>
     cases oy with
     | none=>rw [a2g,a2g,a0L,a0L]; exact ra4.mono fun _ z=>.inl z
     | some _=>exact r4.elim
    | some w4 =>
     cases oy with
     | none=>exact r4.elim
     | some y4=>exact RepW.append (fun _ z=>.inl z) (fun _ z=>.inr z) d4 ra4 (RepW.one r4)
   ·have e':=hnn j e
    rw [aF]
    split
    ·rfl
    ·rename_i hj
     exact hf hfe j (by rw [eJ hb j hj]; exact e')
  ·have:ys.length<=i:=hlen
   cases oy<;>simp<;>omega
 ·left
  have hi':i=ts.length:=by omega
  subst hi'
  rw [a2w] at hc
  cases hc
  refine ⟨wk.stop H0 _ st (a0b _),bg (a0j hlen hL),mI Ai.own Ai.gd.zal ra (a0j hlen hL) h4 (bY (Ai.unpin v1) (s1'.trans si) kk)⟩
theorem iz {n:Nat}{h:Bool}{k:Ik}{src:List E}{elt:E}(hn:tg.length=n)(nd:tg.Nodup)(I:eU sf sg tg is)(σ:L2.St)(H:Hp)(Q:VK)(hw:wE K sf C (.comp h k src tg none elt) σ H Q):gg n (wI K sf C n k src) is (gT K n) (wE K sg C elt) σ H Q:=by
 refine kD (te:=fun σ2 H Q=>wE K sg C elt σ2 H fun y H'=>Q (some y) H') hn nd I (fun {η o η'} hf=>?_) (fun {val σ2 Z H Fs η ηc R o Q} A hf k=>?_) (fun η=>rfl) σ H Q hw
 ·obtain ⟨⟨u,η4⟩,h7,h8⟩:=aa (show (evE C elt η).bind fv=_ from hf)
  cases h8
  exact ay elt h7
 ·obtain ⟨⟨u,η4⟩,h7,h8⟩:=aa (show (evE C elt η).bind fv=_ from hf)
  cases h8
  exact gY A h7 fun v Z' H' Fs' G B r d s _=>k (some v) Z' H' Fs' G B r d s
end
end MR
namespace MR
open L2 L3 M
open PySem (Addr Str sizeLine)
section
variable {K:a0a}{sl:Cf}{sf sg:Nat->Option Nat}{C:Call}{σ σ2:L2.St}{Z Z' Z1:Fp}{H H' H1:Hp}{Fs Fs' Fs1:Fps}{η η' η1 ηb:Env}{G G' G1 R F:Fp}{tg is:List Nat}{pv val:Nat->Option V}
noncomputable def kB (Fs:Fps)(i:Nat)(G:Fp):Fps:=fun j a=>(j=i/\G a)\/(j≠i/\Fs j a)
theorem bx {i:Nat}{a:Addr}(h:tot (kB Fs i G) a):tot Fs a\/G a:=by
 obtain ⟨j,h | h⟩:=h
 ·exact .inr h.2
 ·exact .inl ⟨j,h.2⟩
theorem At.put {i:Nat}{w:W}{x:V}(A:At K sl σ Z H Fs η G)(r:Rep K Z H w.1 w.2 x G1)(h1:∀ a,G1 a->G a)(h2:∀ a,R a->G a)(hd:∀ a,R a->¬ G1 a)(hl:∀ j,sl.sl i=some j->σ[j]?=some (some x))(hp:∀ u,sl.pv i=some u->x=u) :
  At K sl σ Z H (kB Fs i G1) (M.put η i w) R:=by
 refine ⟨⟨fun a h=>(bx h).elim (A.gd.own a) fun q=>A.own a (h1 a q),fun j k a hj hk=>?_,A.gd.zal⟩,fun j m t e=>?_,fun a h=>A.own a (h2 a h),fun a h q=>(bx q).elim (A.dis a (h2 a h)) (hd a h),A.lk,A.ln⟩
 ·rcases hj with ⟨rfl,hj⟩ | ⟨nj,hj⟩
  ·rcases hk with ⟨rfl,_⟩ | ⟨nk,hk⟩
   ·rfl
   ·exact absurd ⟨k,hk⟩ (A.dis a (h1 a hj))
  ·rcases hk with ⟨rfl,hk⟩ | ⟨nk,hk⟩
   ·exact absurd ⟨j,hj⟩ (A.dis a (h1 a hk))
   ·exact A.gd.dis j k a hj hk
 ·rw [a7] at e
  split at e
  ·rename_i hc
   cases e
   obtain ⟨rfl,_⟩:=hc
   exact ⟨x,r.mono fun a h=>.inl ⟨rfl,h⟩,hl,hp⟩
  ·rename_i hc
   obtain ⟨v,r',h'⟩:=A.env j m t e
   by_cases hj:j=i
   ·subst hj
    exact absurd ⟨rfl,c7 e⟩ hc
   ·exact ⟨v,r'.mono fun a h=>.inr ⟨hj,h⟩,h'⟩
noncomputable def wA (K:a0a)(sl:Nat->Option Nat)(C:Call)(es:List E):TA:=fun σ H Q=>∃ pv Z Fs η ws η',At K ⟨sl,pv⟩ σ Z H Fs η no/\evA C es η=.ok (ws,η') /\
 ∀ vs Z' H' Fs' G,At K ⟨sl,pv⟩ σ Z' H' Fs' η' G->RepW K Z' H' ws vs G->Step Z H (tot Fs) Z' H' (fun a=>tot Fs' a\/G a)->(∀ (k i:Nat) (u:V),es[k]?=some (.io i)->pv i=some u->vs[k]?=some u)->Q vs H'
theorem uj (σ:L2.St)(H:Hp)(Q:List V->Hp->Prop)(h:wA K sf C [] σ H Q):sJ σ H Q:=by
 obtain ⟨pv,Z,Fs,η,ws,η',A,ev,k⟩:=h
 cases ev
 exact k [] Z H Fs no A rfl ((Step.refl _ _ _).mono (fun _ z=>z) fun a ha=>ha.elim id fun z=>z.elim) fun k i u h _=>by simp at h
theorem yH {es:List E}{ws:List W}{Q:List V->Hp->Prop}(A:At K sl σ Z H Fs η R)(ev:evA C es η=.ok (ws,η'))
  (k:∀ vs Z' H' Fs' G,At K sl σ Z' H' Fs' η' (fun c=>R c\/G c)->RepW K Z' H' ws vs G->(∀ c,R c->¬ G c)->Step Z H (tot Fs) Z' H' (fun a=>tot Fs' a\/G a) ->
   Step Z H (fun c=>tot Fs c\/R c) Z' H' (fun c=>tot Fs' c\/(R c\/G c))->(∀ (k i:Nat) (u:V),es[k]?=some (.io i)->sl.pv i=some u->vs[k]?=some u)->Q vs H'):wA K sl.sl C es σ H Q :=
 ⟨sl.pv,Z,Fs,η,ws,η',A.bare,ev,fun v Z' H' Fs' G B r s hio=>by
  obtain ⟨h1,h2,h3⟩:=A.frame B s
  exact k v Z' H' Fs' G h1 r h3 s h2 hio⟩
theorem ny {e:E}{es:List E}(he:∀ i,e≠.io i)(σ:L2.St)(H:Hp)(Q:List V->Hp->Prop)(h:wA K sf C (e::es) σ H Q):i6 (wE K sf C e) (wA K sf C es) σ H Q:=by
 obtain ⟨pv,Z,Fs,η,ws,η',A,ev,k⟩:=h
 obtain ⟨w,η1,us,h1,h2,rfl⟩:=bM he ev
 refine gY A h1 fun x Z1 H1 Fs1 G1 A1 r1 _ s1 _=>?_
 have A1':=A1.mono (G':=G1) fun _ z=>.inr z
 refine yH A1' h2 fun xs Z2 H2 Fs2 G2 A2 r2 d2 s2 t2 hio=>?_
 refine k (x::xs) Z2 H2 Fs2 _ A2 ⟨x,xs,G1,G2,rfl,fun _ z=>.inl z,fun _ z=>.inr z,d2,r1.frame A1.gd.own s2 A1'.dis,r2⟩ (s1.trans t2) fun k i u h hu=>?_
 cases k with
 | zero=>exact absurd (a0p h) (he i)
 | succ k=>exact hio k i u h hu
theorem jX {i j:Nat}{es:List E}(hs:sf i=some j)(σ:L2.St)(H:Hp)(Q:List V->Hp->Prop)(h:wA K sf C (.io i::es) σ H Q):i6 (j7 j) (wA K sf C es) σ H Q:=by
 obtain ⟨pv,Z,Fs,η,ws,η',A,ev,k⟩:=h
 obtain ⟨us,η1,w,h1,h2,rfl,rfl⟩:=dm ev
 obtain ⟨m,t⟩:=w
 cases e0:rd η i with
 | none=>rw [cK es h1 i e0] at h2; cases h2
 | some w0 =>
  obtain ⟨v,_,hv⟩:=A.env i w0.1 w0.2 e0
  refine ⟨v,hv.1 j hs,pv,Z,Fs,η,us,η1,A,h1,fun xs Z2 H2 Fs2 G2 A2 r2 s2 hio=>?_⟩
  obtain ⟨v',r,hv'⟩:=A2.env i m t h2
  have ev':v'=v:=by
   have e1:=hv.1 j hs
   rw [hv'.1 j hs] at e1
   exact a0p (a0p e1)
  subst ev'
  have A3:At K ⟨sf,pv⟩ σ Z2 H2 (tj Fs2 i) (del η1 i) (fun a=>Fs2 i a\/G2 a):=by
   refine ⟨⟨fun a ⟨l,h1,h2⟩=>A2.gd.own a ⟨l,h2⟩,fun l l' a h1 h2=>A2.gd.dis l l' a h1.2 h2.2,A2.gd.zal⟩,fun l m' t' e=>?_,fun a ha=>ha.elim (fun z=>A2.gd.own a ⟨i,z⟩) (A2.own a),fun a ha ⟨l,h1,h2⟩=>ha.elim (fun z=>h1 (A2.gd.dis l i a h2 z)) fun z=>A2.dis a z ⟨l,h2⟩,A2.lk,A2.ln⟩
   rw [a7] at e
   split at e
   ·cases e
   ·rename_i hne
    obtain ⟨v'',r',hv''⟩:=A2.env l m' t' e
    have hli:l≠i:=fun z=>hne ⟨z,c7 h2⟩
    exact ⟨v'',r'.mono fun a ha=>⟨hli,ha⟩,hv''⟩
  refine k (v'::xs) Z2 H2 (tj Fs2 i) _ A3 ⟨v',xs,Fs2 i,G2,rfl,fun _ z=>.inl z,fun _ z=>.inr z,fun a z y=>A2.dis a y ⟨i,z⟩,r,r2⟩ (s2.mono (fun _ z=>z) fun a ha=>?_) fun k i' u h hu=>?_
  ·rcases ha with ⟨l,_,z⟩ | z | z
   ·exact .inl ⟨l,z⟩
   ·exact .inl ⟨i,z⟩
   ·exact .inr z
  ·cases k with
   | zero=>cases h; rw [<- hv'.2 u hu]; rfl
   | succ k=>exact hio k i' u h hu
noncomputable def atV (io:List Nat)(vs:List V):List V:=io.filterMap fun i=>vs[i]?
noncomputable def spC (K:a0a)(C:Call)(f:Nat)(io:List Nat):List V->Hp->VK->Prop:=fun vs H Q=>∃ Z ws G w bs,RepW K Z H ws vs G/\Own Z H G/\(∀ a,Z a->H a≠none)/\C f ws=.ok (w,bs) /\
 ∀ v Z' H' G1 G2,Rep K Z' H' w.1 w.2 v G1->RepW K Z' H' bs (atV io vs) G2->(∀ a,G1 a->¬ G2 a)->Own Z' H' (fun a=>G1 a\/G2 a)->Step Z H G Z' H' (fun a=>G1 a\/G2 a)->Q v H'
noncomputable def dE:List E->Nat->List Nat
 | [],_=>[]
 | .io _::es,n=>n::dE es (n+1)
 | _::es,n=>dE es (n+1)
theorem rC {vs:List V}:∀ {es:List E} {n:Nat},(∀ (k i:Nat) (u:V),es[k]?=some (.io i)->pv i=some u->vs[n+k]?=some u)->(∀ i∈ios es,pv i≠none)->(ios es).filterMap pv=atV (dE es n) vs
 | [],_,_,_=>rfl
 | e::es,n,h,hv=>by
  have rest:(∀ i∈ios es,pv i≠none)->(ios es).filterMap pv=atV (dE es (n+1)) vs:=fun q=>rC (fun k i u hk hu=>by have:=h (k+1) i u hk hu; rw [show n+(k+1)=n+1+k by omega] at this; exact this) q
  cases e with
  | io i =>
   cases hu:pv i with
   | none=>exact absurd hu (hv i (by simp [ios]))
   | some u =>
    have h0:=h 0 i u rfl hu
    rw [Nat.add_zero] at h0
    show (i::ios es).filterMap pv=(n::dE es (n+1)).filterMap fun i=>vs[i]?
    rw [a0P,a0P,hu,h0]
    exact congrArg (u::·) (rest fun j hj=>hv j (by simp [ios,hj]))
  | _=>exact rest fun j hj=>hv j hj
theorem At.putAll:∀ {is:List Nat} {bs:List W} {Fs:Fps} {η:Env} {G2:Fp},At K ⟨sf,val⟩ σ Z H Fs η (fun a=>R a\/G2 a)->(∀ a,R a->¬ G2 a)->RepW K Z H bs (is.filterMap val) G2->(∀ i∈is,val i≠none)->∃ Fs',At K ⟨sf,val⟩ σ Z H Fs' (M.putAll is bs η) R/\∀ a,tot Fs' a->tot Fs a\/G2 a
 | [],bs,Fs,η,G2,A,_,_,_=>⟨Fs,A.mono fun _ z=>.inl z,fun _ z=>.inl z⟩
 | i::is,[],Fs,η,G2,A,_,_,_=>⟨Fs,A.mono fun _ z=>.inl z,fun _ z=>.inl z⟩
 | i::is,b::bs,Fs,η,G2,A,hd,r,hv=>by
  cases hu:val i with
  | none=>exact absurd hu (hv i a0g)
  | some u =>
   rw [a0P,hu] at r
   obtain ⟨x,r',A1,A2,e,a1,a2,ad,p,q⟩:=r
   cases e
   have B:=At.put (i:=i) (R:=fun a=>R a\/A2 a) (G1:=A1) A p (fun a h=>.inr (a1 a h)) (fun a h=>h.imp id (a2 a)) (fun a h q=>h.elim (fun z=>hd a z (a1 a q)) fun z=>ad a q z) (fun j hj=>A.lk i u j hu hj) (fun u' hu'=>by rw [show val i=some u' from hu'] at hu; cases hu; rfl)
   obtain ⟨Fs',B1,B2⟩:=At.putAll (is:=is) (bs:=bs) B (fun a h q=>hd a h (a2 a q)) q fun j hj=>hv j (a0c _ hj)
   exact ⟨Fs',B1,fun a h=>(B2 a h).elim (fun z=>(bx z).imp id (a1 a)) fun z=>.inr (a2 a z)⟩
theorem jB {f:Nat}{es:List E}{io:List Nat}(hio:dE es 0=io\/ios es=[])(σ:L2.St)(H:Hp)(Q:VK)(h:wE K sf C (.call f es) σ H Q):wA K sf C es σ H fun vs H1=>spC K C f io vs H1 Q:=by
 obtain ⟨pv,Z,Fs,η,w,η',A,ev,k⟩:=h
 obtain ⟨⟨ws,η1⟩,h1,h2⟩:=aa (show (evA C es η).bind (kCall C f (ios es))=_ from ev)
 obtain ⟨⟨u,bs⟩,h3,h4⟩:=aa (show (C f ws).bind (kBack (ios es) η1)=_ from h2)
 cases h4
 obtain ⟨val,v1,A2,v2⟩:=A.pin
 have hvn:∀ i∈ios es,val i≠none:=fun i hi=>by
  cases e:rd η i with
  | none=>exact absurd e (eB es h1 i hi)
  | some q=>exact v2 i q.1 q.2 e
 refine ⟨val,Z,Fs,η,ws,η1,A2,h1,fun vs Z1 H1 Fs1 G B r s hv=>?_⟩
 refine ⟨Z1,ws,G,u,bs,r,B.own,B.gd.zal,h3,fun v Z2 H2 G1 G2 r1 r2 d o st=>?_⟩
 obtain ⟨B2,s2⟩:=B.op o st
 have fin:∃ Fs',At K ⟨sf,val⟩ σ Z2 H2 Fs' (M.putAll (ios es) bs η1) G1/\∀ a,tot Fs' a->tot Fs1 a\/G2 a:=by
  rcases hio with e | e
  ·have e2:=rC (pv:=val) (es:=es) (n:=0) (vs:=vs) (fun k i u' hk hu=>by rw [a01]; exact hv k i u' hk hu) hvn
   rw [e] at e2
   rw [<- e2] at r2
   exact At.putAll B2 d r2 hvn
  ·rw [e]
   exact ⟨Fs1,B2.mono fun _ z=>.inl z,fun _ z=>.inl z⟩
 obtain ⟨Fs',B3,hF⟩:=fin
 refine k v Z2 H2 Fs' G1 (B3.unpin v1) r1 ((s.trans s2).mono (fun _ z=>z) fun a ha=>?_)
 rcases ha with z | z
 ·exact (hF a z).imp id .inr
 ·exact .inr (.inl z)
end
end MR
namespace MR
open L2 L3 M
open PySem (Addr Str sizeLine)
section
variable {K:a0a}{sl:Cf}{sf sg:Nat->Option Nat}{C:Call}{σ σ2:L2.St}{Z Z' Z1:Fp}{H H' H1:Hp}{Fs Fs' Fs1:Fps}{η η' η1 ηb:Env}{G G' G1 R F F':Fp}{tg is vs ls:List Nat}{pv val:Nat->Option V}
theorem kE (o:Option W):toS (toS o)=toS o:=by
 cases o with
 | none=>rfl
 | some w=>rfl
theorem et:∀ (vs:List Nat) (η:Env) (i:Nat),rd (share vs η) i=if i∈vs then toS (rd η i) else rd η i
 | [],η,i=>by simp [share]
 | v::vs,η,i=>by
  show rd (share vs (wr η v (toS (rd η v)))) i=_
  rw [et vs,a7]
  by_cases h2:i=v
  ·subst h2
   rw [if_pos (show i∈i::vs from a0g)]
   by_cases hl:i < η.length
   ·rw [if_pos (show i=i/\i < η.length from ⟨rfl,hl⟩)]
    split
    ·exact kE _
    ·rfl
   ·have e:rd η i=none:=by
     cases e:rd η i with
     | none=>rfl
     | some w=>exact absurd (c7 e) hl
    rw [if_neg (show ¬ (i=i/\i < η.length) from fun h=>hl h.2),e]
    split<;>rfl
  ·rw [if_neg (show ¬ (i=v/\v < η.length) from fun h=>h2 h.1)]
   by_cases h1:i∈vs
   ·rw [if_pos h1,if_pos (a0c _ h1)]
   ·rw [if_neg h1,if_neg (by simp [h1,h2])]
theorem gH:∀ (η:Env) (i:Nat),rd (eg η) i=none
 | [],_=>rfl
 | _::_,0=>rfl
 | _::η,i+1=>gH η i
theorem jE:∀ (vs:List Nat) (η0 η:Env) (i:Nat) (w:W),rd (iP vs η0 η) i=some w->rd η i=some w\/(i∈vs/\toS (rd η0 i)=some w)
 | [],_,_,_,_,h=>.inl h
 | v::vs,η0,η,i,w,h=>by
  rcases jE vs η0 (wr η v (toS (rd η0 v))) i w h with e | e
  ·rw [a7] at e
   split at e
   ·rename_i hc; obtain ⟨rfl,_⟩:=hc; exact .inr ⟨a0g,e⟩
   ·exact .inl e
  ·exact .inr ⟨a0c _ e.1,e.2⟩
theorem iq:∀ (vs:List Nat) (η0 η:Env) (i:Nat) (w:W),rd (ey vs η0 η) i=some w->rd η i=some w\/lfO (rd η0 i)=some w
 | [],_,_,_,_,h=>.inl h
 | v::vs,η0,η,i,w,h=>by
  rcases iq vs η0 (wr η v (lfO (rd η0 v))) i w h with e | e
  ·rw [a7] at e
   split at e
   ·rename_i hc; obtain ⟨rfl,_⟩:=hc; exact .inr e
   ·exact .inl e
  ·exact .inr e
theorem ou {i:Nat}{w:W}(h:rd (cR vs ls η) i=some w):∃ m t,rd η i=some (m,t)/\((i∈vs/\w=(.s,t))\/(t.leaf=true/\w=(.d,t))):=by
 rcases iq ls η _ i w h with e | e
 ·rcases jE vs η _ i w e with e | ⟨hi,e⟩
  ·rw [gH] at e; cases e
  ·cases q:rd η i with
   | none=>rw [q] at e; cases e
   | some u=>rw [q] at e; cases e; exact ⟨u.1,u.2,rfl,.inl ⟨hi,rfl⟩⟩
 ·cases q:rd η i with
  | none=>rw [q] at e; cases e
  | some u =>
   rw [q] at e
   obtain ⟨m,t⟩:=u
   have e':(if t.leaf=true then some ((.d,t):W) else none)=some w:=e
   split at e'
   ·rename_i hl; cases e'; exact ⟨m,t,rfl,.inr ⟨hl,rfl⟩⟩
   ·cases e'
noncomputable def bS (Fs:Fps)(vs:List Nat):Fp:=fun a=>∃ i,i∈vs/\Fs i a
noncomputable def kH:Fps:=fun _ _=>False
theorem bL {a:Addr}(h:bS Fs vs a):tot Fs a:=let ⟨i,_,h⟩:=h; ⟨i,h⟩
theorem gx {a:Addr}(h:tot kH a):False:=let ⟨_,h⟩:=h; h
theorem At.quiet (A:At K sl σ Z H Fs η no):At K sl σ (fun a=>Z a\/bS Fs vs a) H kH (cR vs ls η) no:=by
 refine ⟨⟨fun a h=>(gx h).elim,fun _ _ _ h=>h.elim,fun a h=>h.elim (A.gd.zal a) fun q=>?_⟩,fun i m t e=>?_,bH,fun _ z=>z.elim,A.lk,A.ln⟩
 ·obtain ⟨_,xs,e⟩:=A.gd.own a (bL q)
  rw [e]; simp
 ·obtain ⟨m',t',e1,e2⟩:=ou e
  obtain ⟨v,r,h⟩:=A.env i m' t' e1
  rcases e2 with ⟨hi,e2⟩ | ⟨hl,e2⟩
  ·cases e2
   exact ⟨v,(r.sh.zmono fun a h=>h.imp id fun q=>⟨i,hi,q⟩).sany,h⟩
  ·cases e2
   exact ⟨v,r.leaf (fun _ _ _ q=>q) hl,h⟩
mutual
theorem Rep.dany:∀ {t:T} {v:V} {G:Fp},Rep K Z H .d t v G->Rep K Z' H .d t v G
 | .non,_,_,h=>h
 | .bl _,_,_,h=>h
 | .int _,_,_,h=>h
 | .str _,_,_,h=>h
 | .scr _,_,_,h=>h
 | .tup ts,_,_,⟨a,xs,e,q,l,r⟩=>⟨a,xs,e,q,l,RepL.dany r⟩
 | .lst ts,_,_,⟨a,xs,e,l,q,r⟩=>⟨a,xs,e,l,q,RepL.dany r⟩
 | .dct _ _,_,_,⟨a,xs,e,l,q,n,hl,r⟩=>⟨a,xs,e,l,q,n,hl,RepL.dany r⟩
 | .ins _ _ _,_,_,h=>h.elim
 | .gone,_,_,h=>h
theorem RepL.dany:∀ {ts:List T} {xs:List V} {G:Fp},RepL K Z H .d ts xs G->RepL K Z' H .d ts xs G
 | [],_,_,h=>h
 | t::ts,xs,_,⟨x,r,G1,G2,e,h1,h2,hd,p,q⟩=>⟨x,r,G1,G2,e,h1,h2,hd,Rep.dany p,RepL.dany q⟩
end
theorem cT (A:At K sl σ Z H Fs η no)(B:Own Z' H' G)(zal:∀ a,Z' a->H' a≠none)(s:Step (fun a=>Z a\/bS Fs vs a) H F Z' H' (fun a=>F' a\/G a))(hF:∀ a,¬ F a) :
  At K sl σ (fun a=>Z' a/\¬ bS Fs vs a) H' Fs η G/\Step Z H (tot Fs) (fun a=>Z' a/\¬ bS Fs vs a) H' (fun a=>tot Fs a\/G a):=by
 have keep:∀ a o,H a=some o->H' a=some o:=fun a o e=>s.keep a o e (hF a)
 have zz:∀ a,Z a->Z' a/\¬ bS Fs vs a:=fun a h=>⟨s.zm a (.inl h),fun q=>(A.gd.own a (bL q)).1 h⟩
 have nz:∀ a,tot Fs a->¬ (Z' a/\¬ bS Fs vs a):=fun a h q=>by
  obtain ⟨nz,xs,e⟩:=A.gd.own a h
  rcases s.zn a q.1 with z | z | z
  ·exact z.elim nz q.2
  ·exact hF a z
  ·rw [e] at z; cases z
 have gd:∀ a,G a->¬ tot Fs a:=fun a h q=>by
  obtain ⟨_,xs,e⟩:=A.gd.own a q
  rcases s.fn a (.inr h) with z | z
  ·exact hF a z
  ·rw [e] at z; cases z
 refine ⟨⟨⟨fun a h=>?_,A.gd.dis,fun a h=>zal a h.1⟩,fun i m t e=>?_,fun a h=>⟨fun q=>(B a h).1 q.1,(B a h).2⟩,gd,A.lk,A.ln⟩,⟨fun a o e _=>keep a o e,zz,fun a h=>?_,fun a h=>?_,s.al,fun _ a h=>zal a h.1⟩⟩
 ·obtain ⟨_,xs,e⟩:=A.gd.own a h
  exact ⟨nz a h,xs,keep a _ e⟩
 ·obtain ⟨v,r,h⟩:=A.env i m t e
  refine ⟨v,r.keep ⟨fun a o _ e=>keep a o e,fun a xs e=>?_,fun a o u e=>keep a _ e⟩ zz fun a o _ e=>keep a o e,h⟩
  rcases e with e | ⟨u,e⟩
  ·exact .inl (keep a _ e)
  ·exact .inr ⟨u,keep a _ e⟩
 ·rcases s.zn a h.1 with z | z | z
  ·exact z.elim .inl fun q=>absurd q h.2
  ·exact (hF a z).elim
  ·exact .inr (.inr z)
 ·rcases h with h | h
  ·exact .inl h
  ·exact (s.fn a (.inr h)).elim (fun z=>(hF a z).elim) .inr
theorem At.share (A:At K sl σ Z H Fs η G):At K sl σ (fun a=>Z a\/bS Fs vs a) H (dN Fs vs) (M.share vs η) G/\∀ {Z0 H0 F0},Step Z0 H0 F0 Z H (fun a=>tot Fs a\/G a)->Step Z0 H0 F0 (fun a=>Z a\/bS Fs vs a) H (fun a=>tot (dN Fs vs) a\/G a):=by
 refine ⟨⟨⟨fun a h=>?_,fun i j a h1 h2=>A.gd.dis i j a h1.2 h2.2,fun a h=>h.elim (A.gd.zal a) fun q=>?_⟩,fun i m t e=>?_,fun a h=>⟨fun z=>z.elim (A.own a h).1 fun q=>A.dis a h (bL q),(A.own a h).2⟩,fun a h q=>A.dis a h (bP q),A.lk,A.ln⟩,fun {Z0 H0 F0} s=>⟨s.keep,fun a h=>.inl (s.zm a h),fun a h=>h.elim (s.zn a) fun q=>.inr (s.fn a (.inl (bL q))),fun a h=>s.fn a (h.imp bP id),s.al,fun z a h=>h.elim (s.za z a) fun q=>?_⟩⟩
 ·obtain ⟨i,hi,h'⟩:=h
  obtain ⟨nz,xs,e⟩:=A.gd.own a ⟨i,h'⟩
  exact ⟨fun z=>z.elim nz fun ⟨j,hj,q⟩=>hi (A.gd.dis i j a h' q ▸ hj),xs,e⟩
 ·obtain ⟨_,xs,e⟩:=A.gd.own a (bL q)
  rw [e]; simp
 ·rw [et] at e
  split at e
  ·rename_i hi
   cases q:rd η i with
   | none=>rw [q] at e; cases e
   | some u =>
    rw [q] at e; cases e
    obtain ⟨v,r,h⟩:=A.env i u.1 u.2 q
    exact ⟨v,(r.sh.zmono fun a h=>h.imp id fun q=>⟨i,hi,q⟩).sany,h⟩
  ·rename_i hi
   obtain ⟨v,r,h⟩:=A.env i m t e
   exact ⟨v,(r.zmono fun a h=>.inl h).mono fun a h=>⟨hi,h⟩,h⟩
 ·obtain ⟨_,xs,e⟩:=A.gd.own a (bL q)
  rw [e]; simp
theorem nF {x:X}{e:E}{w:W}{Q:VK}(A:At K sl σ Z H Fs η no)(ev:evX C x e η=.ok (w,η'))(k:∀ v Z' H' Fs' G,At K sl σ Z' H' Fs' η' G->Rep K Z' H' w.1 w.2 v G->Step Z H (tot Fs) Z' H' (fun a=>tot Fs' a\/G a)->Q v H'):wE K sl.sl C e σ H Q:=by
 cases x with
 | q vs ls =>
  obtain ⟨⟨u,η2⟩,h1,h2⟩:=aa (show (evE C e (cR vs ls η)).bind (kX vs η)=_ from ev)
  cases h2
  generalize hm0:M.lf u.1 u.2=m0 at k
  refine ⟨sl.pv,_,kH,_,_,η2,A.quiet (vs:=vs) (ls:=ls),h1,fun v Z' H' Fs' G B r0 s=>?_⟩
  have r:=r0.lf
  rw [hm0] at r
  obtain ⟨B1,s1⟩:=cT A B.own B.gd.zal s fun a h=>gx h
  have other:Q v H'\/m0=.d:=by
   by_cases hd:m0=.d
   ·exact .inr hd
   ·refine .inl ?_
    have e':after m0 vs η=share vs η:=by
     cases hm:m0 with
     | d=>exact absurd hm hd
     | s=>rfl
     | o m=>rfl
    obtain ⟨B2,s2⟩:=B1.share (vs:=vs)
    have zz:∀ a,(Z' a/\¬ bS Fs vs a)\/bS Fs vs a->Z' a:=fun a h=>h.elim a2A fun q=>s.zm a (.inr q)
    have zz':∀ a,Z' a->(Z' a/\¬ bS Fs vs a)\/bS Fs vs a:=fun a h=>(a2T (bS Fs vs a)).elim .inr fun q=>.inl ⟨h,q⟩
    exact k v _ H' _ G (e' ▸ B2) (r.zmono zz') (s2 s1)
  rcases other with q | hd
  ·exact q
  ·have e':after m0 vs η=η:=by rw [hd]; rfl
   refine k v _ H' Fs G (e'.symm ▸ B1) ?_ s1
   subst hd
   exact r.dany
 | l vs =>
  obtain ⟨B,s0⟩:=A.share (vs:=vs)
  have s1:=s0 ((Step.refl Z H (tot Fs)).mono (F2:=fun a=>tot Fs a\/no a) (fun _ z=>z) fun a h=>h.elim id fun z=>z.elim)
  refine ⟨sl.pv,_,_,_,w,η',B,ev,fun v Z' H' Fs' G B' r s=>k v Z' H' Fs' G B' r ((s1.mono (fun _ z=>z) fun a h=>.inl h).trans s)⟩
theorem zk {x:X}{e:E}{b:Bool}{Q:Bool->Hp->Prop}(A:At K sl σ Z H Fs η no)(ev:evT C x e η=.ok (b,η'))(k:∀ Z' H' Fs',At K sl σ Z' H' Fs' η' no->Step Z H (tot Fs) Z' H' (tot Fs')->Q b H'):wT K sl.sl C e σ H Q:=by
 cases x with
 | q vs ls =>
  obtain ⟨⟨u,η2⟩,h1,h2⟩:=aa (show (evE C e (cR vs ls η)).bind (kT η)=_ from ev)
  obtain ⟨b',h3,e3⟩:=av (show ret η (truth u.2)=_ from h2)
  cases e3
  refine ⟨sl.pv,_,kH,_,u,η2,b,A.quiet (vs:=vs) (ls:=ls),h1,h3,fun Z' H' Fs' B s=>?_⟩
  obtain ⟨B1,s1⟩:=cT (G:=no) A bH B.gd.zal (s.mono (F2:=fun a=>tot Fs' a\/no a) (fun _ z=>z) fun a h=>h.elim id fun z=>z.elim) fun a h=>gx h
  exact k _ H' Fs B1 (s1.mono (fun _ z=>z) fun a h=>.inl h)
 | l vs =>
  obtain ⟨⟨u,η2⟩,h1,h2⟩:=aa (show (evE C e (M.share vs η)).bind kT2=_ from ev)
  obtain ⟨b',h3,e3⟩:=av (show ret η2 (truth u.2)=_ from h2)
  cases e3
  obtain ⟨B,s0⟩:=A.share (vs:=vs)
  have s1:=s0 ((Step.refl Z H (tot Fs)).mono (F2:=fun a=>tot Fs a\/no a) (fun _ z=>z) fun a h=>h.elim id fun z=>z.elim)
  exact ⟨sl.pv,_,_,_,u,_,b,B,h1,h3,fun Z' H' Fs' B' s=>k Z' H' Fs' B' ((s1.mono (fun _ z=>z) fun a h=>.inl h).trans s)⟩
end
end MR
namespace MR
open L2 L3 M
open PySem (Addr Str sizeLine)
section
variable {K:a0a}{sl:Cf}{sf sg:Nat->Option Nat}{C:Call}{σ σ2:L2.St}{Z Z' Z1:Fp}{H H' H1:Hp}{Fs Fs' Fs1:Fps}{η η' η1 ηb:Env}{G G' G1 R F F':Fp}{tg is vs ls io:List Nat}{pv val:Nat->Option V}{D:b9}
noncomputable def Fin (K:a0a)(sl:Cf)(Z:Fp)(H:Hp)(F:Fp)(D:b9):Fl->Prop
 | .nx η'=>∀ σ' Z' H' Fs',At K sl σ' Z' H' Fs' η' no->Step Z H F Z' H' (tot Fs')->D.nx σ' H'
 | .rt w η'=>∀ v σ' Z' H' Fs' G,At K sl σ' Z' H' Fs' η' G->Rep K Z' H' w.1 w.2 v G->Step Z H F Z' H' (fun a=>tot Fs' a\/G a)->D.rt v H'
 | .bk η'=>∀ σ' Z' H' Fs',At K sl σ' Z' H' Fs' η' no->Step Z H F Z' H' (tot Fs')->D.bk σ' H'
 | _=>False
theorem Fin.step {fl:Fl}(s:Step Z H F Z1 H1 F')(h:Fin K sl Z H F D fl):Fin K sl Z1 H1 F' D fl:=by
 cases fl with
 | nx η=>exact fun σ' Z' H' Fs' A t=>h σ' Z' H' Fs' A (s.trans t)
 | rt w η=>exact fun v σ' Z' H' Fs' G A r t=>h v σ' Z' H' Fs' G A r (s.trans t)
 | bk η=>exact fun σ' Z' H' Fs' A t=>h σ' Z' H' Fs' A (s.trans t)
 | _=>exact h.elim
structure nB (sf:Nat->Option Nat)(io:List Nat)(pv:Nat->Option V):Prop where
 inj:∀ i i' j,sf i=some j->sf i'=some j->i=i'
 io:∀ i,i ∉ io->pv i=none
noncomputable def wS (K:a0a)(sf:Nat->Option Nat)(io:List Nat)(C:Call)(st:S):TS:=fun D σ H=>∃ pv Z Fs η,nB sf io pv/\At K ⟨sf,pv⟩ σ Z H Fs η no/\Fin K ⟨sf,pv⟩ Z H (tot Fs) D (evS C st η)
noncomputable def wSs (K:a0a)(sf:Nat->Option Nat)(io:List Nat)(C:Call)(st:List S):TS:=fun D σ H=>∃ pv Z Fs η,nB sf io pv/\At K ⟨sf,pv⟩ σ Z H Fs η no/\Fin K ⟨sf,pv⟩ Z H (tot Fs) D (evSs C st η)
theorem qy (D:b9)(σ:L2.St)(H:Hp)(h:wSs K sf io C [] D σ H):qU D σ H:=by
 obtain ⟨pv,Z,Fs,η,N,A,f⟩:=h
 exact f σ Z H Fs A (Step.refl _ _ _)
theorem nO {s:S}{r:List S}(D:b9)(σ:L2.St)(H:Hp)(h:wSs K sf io C (s::r) D σ H):yn (wS K sf io C s) (wSs K sf io C r) D σ H:=by
 obtain ⟨pv,Z,Fs,η,N,A,f⟩:=h
 refine ⟨pv,Z,Fs,η,N,A,?_⟩
 have f':Fin K ⟨sf,pv⟩ Z H (tot Fs) D (Fl.seq (evS C s η) (evSs C r)):=f
 cases e:evS C s η with
 | nx η1 =>
  rw [e] at f'
  exact fun σ' Z' H' Fs' A' t=>⟨pv,Z',Fs',η1,N,A',f'.step t⟩
 | rt w η1=>rw [e] at f'; exact f'
 | bk η1=>rw [e] at f'; exact f'
 | ex c x η1=>rw [e] at f'; exact f'.elim
 | no=>rw [e] at f'; exact f'.elim
theorem qh {s:S}(D:b9)(σ:L2.St)(H:Hp)(h:wSs K sf io C [s] D σ H):wS K sf io C s D σ H:=by
 obtain ⟨pv,Z,Fs,η,N,A,f⟩:=h
 refine ⟨pv,Z,Fs,η,N,A,?_⟩
 have f':Fin K ⟨sf,pv⟩ Z H (tot Fs) D (Fl.seq (evS C s η) (evSs C [])):=f
 cases e:evS C s η with
 | nx η1=>rw [e] at f'; exact f'
 | rt w η1=>rw [e] at f'; exact f'
 | bk η1=>rw [e] at f'; exact f'
 | ex c x η1=>rw [e] at f'; exact f'.elim
 | no=>rw [e] at f'; exact f'.elim
theorem bE {α:Type}{r:Res α}{g:α->Fl}(f:Fin K sl Z H F D (Fl.of η r g)):∃ a,r=.ok a/\Fin K sl Z H F D (g a):=by
 cases r with
 | ok a=>exact ⟨a,rfl,f⟩
 | ex c x=>exact f.elim
 | no=>exact f.elim
theorem i9 {o:Option Env}(f:Fin K sl Z H F D (nxO η o)):∃ η',o=some η'/\Fin K sl Z H F D (.nx η'):=by
 cases o with
 | some a=>exact ⟨a,rfl,f⟩
 | none=>exact f.elim
theorem At.setR {i j:Nat}{w:W}{x:V}(N:nB sf io pv)(hi:i ∉ io)(hs:sf i=some j)(A:At K ⟨sf,pv⟩ σ Z H Fs η G)(r:Rep K Z H w.1 w.2 x G1)(q1:∀ a,G1 a->G a)(q2:∀ a,R a->G a)(q3:∀ a,R a->¬ G1 a):At K ⟨sf,pv⟩ (σ.set j (some x)) Z H (kB Fs i G1) (M.put η i w) R:=by
 have hj:j < σ.length:=A.ln i j hs
 have B:At K ⟨fun k=>if k=i then none else sf k,pv⟩ (σ.set j (some x)) Z H Fs (M.del η i) G:=by
  refine ⟨A.gd,fun l m t e=>?_,A.own,A.dis,fun l u k hu hk=>?_,fun l k hk=>?_⟩
  ·rw [a7] at e
   split at e
   ·cases e
   ·rename_i hne
    obtain ⟨v,r',h1,h2⟩:=A.env l m t e
    have hl:l≠i:=fun z=>hne ⟨z,by rw [<- z]; exact c7 e⟩
    refine ⟨v,r',fun k hk=>?_,h2⟩
    have hk':sf l=some k:=by have:(if l=i then none else sf l)=some k:=hk; rw [if_neg hl] at this; exact this
    have hjk:j≠k:=fun z=>hl (N.inj l i k hk' (by rw [<- z]; exact hs))
    rw [a09 hjk]
    exact h1 k hk'
  ·have hl:l≠i:=fun z=>by
    have hu':pv l=some u:=hu
    rw [z,N.io i hi] at hu'; cases hu'
   have hk':sf l=some k:=by have:(if l=i then none else sf l)=some k:=hk; rw [if_neg hl] at this; exact this
   have hjk:j≠k:=fun z=>hl (N.inj l i k hk' (by rw [<- z]; exact hs))
   rw [a09 hjk]
   exact A.lk l u k hu hk'
  ·have hk':sf l=some k:=by
    have:(if l=i then none else sf l)=some k:=hk
    split at this
    ·cases this
    ·exact this
   rw [a1u]
   exact A.ln l k hk'
 have B2:=At.put (i:=i) (w:=w) (G1:=G1) (R:=R) B r q1 q2 q3 (fun k hk=>by have hk':(if i=i then none else sf i)=some k:=hk; rw [if_pos rfl] at hk'; cases hk') (fun u hu=>by have:=N.io i hi; rw [show pv i=some u from hu] at this; cases this)
 have e1:M.put (M.del η i) i w=M.put η i w:=by
  have:∀ (η:Env) (i:Nat) (a b:Option W),wr (wr η i a) i b=wr η i b:=fun η=>by
   induction η with
   | nil=>intro i a b; rfl
   | cons o η ih=>intro i a b; cases i with
    | zero=>rfl
    | succ i=>show o::wr (wr η i a) i b=o::wr η i b; rw [ih]
  exact this η i none (some w)
 rw [e1] at B2
 refine ⟨B2.gd,fun l m t e=>?_,B2.own,B2.dis,fun l u k hu hk=>?_,fun l k hk=>by rw [a1u]; exact A.ln l k hk⟩
 ·obtain ⟨v,r',h1,h2⟩:=B2.env l m t e
  by_cases hl:l=i
  ·subst hl
   rw [a7] at e
   split at e
   ·cases e
    refine ⟨x,r.mono fun a h=>.inl ⟨rfl,h⟩,fun k hk=>?_,fun u hu=>by have:=N.io l hi; rw [show pv l=some u from hu] at this; cases this⟩
    have:k=j:=by rw [show sf l=some k from hk] at hs; cases hs; rfl
    subst this
    rw [a1k hj]
   ·rename_i hc
    exact absurd ⟨rfl,c7 e⟩ hc
  ·refine ⟨v,r',fun k hk=>h1 k ?_,h2⟩
   show (if l=i then none else sf l)=some k
   rw [if_neg hl]; exact hk
 ·by_cases hl:l=i
  ·subst hl
   have:=N.io l hi
   rw [show pv l=some u from hu] at this; cases this
  ·exact B2.lk l u k hu (show (if l=i then none else sf l)=some k by rw [if_neg hl]; exact hk)
theorem At.set {i j:Nat}{w:W}{x:V}(N:nB sf io pv)(hi:i ∉ io)(hs:sf i=some j)(A:At K ⟨sf,pv⟩ σ Z H Fs η G)(r:Rep K Z H w.1 w.2 x G):At K ⟨sf,pv⟩ (σ.set j (some x)) Z H (kB Fs i G) (M.put η i w) no:=At.setR N hi hs A r (fun _ h=>h) (fun _ z=>z.elim) (fun _ z=>z.elim)
theorem ng {x:X}{i j:Nat}{e:E}(hi:i ∉ io)(hs:sf i=some j)(D:b9)(σ:L2.St)(H:Hp)(h:wS K sf io C (.asg x i e) D σ H):kF (wE K sf C e) (cj j) D σ H:=by
 obtain ⟨pv,Z,Fs,η,N,A,f⟩:=h
 obtain ⟨⟨w,η1⟩,h1,h2⟩:=bE (show Fin K ⟨sf,pv⟩ Z H (tot Fs) D (Fl.of η (evX C x e η) (pL i)) from f)
 refine nF (sl:=⟨sf,pv⟩) A h1 fun v Z' H' Fs' G B r s=>?_
 exact h2 _ Z' H' _ (At.set N hi hs B r) (s.mono (fun _ z=>z) fun a ha=>bx ha)
theorem uY {e:E}(D:b9)(σ:L2.St)(H:Hp)(h:wS K sf io C (.ret vs e) D σ H):xR (wE K sf C e) D σ H:=by
 obtain ⟨pv,Z,Fs,η,N,A,f⟩:=h
 obtain ⟨⟨w,η1⟩,h1,h2⟩:=bE (show Fin K ⟨sf,pv⟩ Z H (tot Fs) D (Fl.of η (evE C e (M.share vs η)) kRt) from f)
 exact nF (sl:=⟨sf,pv⟩) (x:=.l vs) A h1 fun v Z' H' Fs' G B r s=>h2 v σ Z' H' Fs' G B r s
theorem vG {x:X}{c:E}{a b:List S}(D:b9)(σ:L2.St)(H:Hp)(h:wS K sf io C (.ite x c a b) D σ H):yt (wT K sf C c) (wSs K sf io C a) (wSs K sf io C b) D σ H:=by
 obtain ⟨pv,Z,Fs,η,N,A,f⟩:=h
 obtain ⟨⟨k,η1⟩,h1,h2⟩:=bE (show Fin K ⟨sf,pv⟩ Z H (tot Fs) D (Fl.of η (evT C x c η) (kIf (evSs C a) (evSs C b))) from f)
 refine zk (sl:=⟨sf,pv⟩) A h1 fun Z' H' Fs' B s=>?_
 cases k with
 | true=>rw [if_pos rfl]; exact ⟨pv,Z',Fs',η1,N,B,Fin.step s h2⟩
 | false=>rw [if_neg a0h]; exact ⟨pv,Z',Fs',η1,N,B,Fin.step s h2⟩
theorem jf {m:Md}{ts:List T}{v:V}(hm:m≠.s)(r:Rep K Z H m (.lst ts) v G):∃ a xs,v=.ref a/\xs.length<=LIM/\G a/\H a=some (.lst xs)/\RepL K Z H m.kid ts xs (fun b=>G b/\b≠a):=by
 obtain ⟨a,xs,e,l,q,p⟩:=r
 rw [LstR.own hm] at q
 exact ⟨a,xs,e,l,q.1,q.2,p⟩
theorem oH {i:Nat}{a:Addr}{ts':List T}{xs':List V}{m':Md}(hm:m'≠.s)(A:At K ⟨sf,pv⟩ σ Z H Fs η G){w0:W}(hi:rd η i=some w0)(ha:Fs i a)(hx:∀ j,sf i=some j->σ[j]?=some (some (.ref a)))(hl:xs'.length<=LIM)(hpv:∀ u,pv i=some u->V.ref a=u)
  (hg:∀ b,G' b->(Fs i b\/G b)/\b≠a) (hR:∀ b,R b->(Fs i b\/G b)/\b≠a) (hRG:∀ b,R b->¬ G' b) (p:RepL K (fun b=>Z b\/((Fs i b\/G b)/\b≠a/\¬ G' b/\¬ R b)) H m'.kid ts' xs' G') {Q:Hp->Prop}
  (k:∀ Z' Fs',At K ⟨sf,pv⟩ σ Z' (upd H a (.lst xs')) Fs' (M.put η i (m',.lst ts')) R->Step Z H (fun b=>tot Fs b\/G b) Z' (upd H a (.lst xs')) (fun b=>tot Fs' b\/R b)->(∀ {m t v},Rep K (fun b=>Z b\/((Fs i b\/G b)/\b≠a/\¬ G' b/\¬ R b)) H m t v R->Rep K Z' (upd H a (.lst xs')) m t v R)->Q (upd H a (.lst xs'))):Q (upd H a (.lst xs')):=by
 have hta:tot Fs a:=⟨i,ha⟩
 obtain ⟨nza,ys,hya⟩:=A.gd.own a hta
 have nGa:¬ G a:=fun q=>A.dis a q hta
 have zdef:∀ b,(Z b\/((Fs i b\/G b)/\b≠a/\¬ G' b/\¬ R b))->b≠a:=fun b h z=>by
  subst z
  rcases h with h | h
  ·exact nza h
  ·exact h.2.1 rfl
 have keep:∀ b o,H b=some o->b≠a->upd H a (.lst xs') b=some o:=fun b o e hb=>by rw [aj hb]; exact e
 have neT:∀ b xs,H b=some (.tup xs)->b≠a:=fun b xs e z=>by rw [z,hya] at e; exact mh e.symm
 have neF:∀ b o u,H b=some (.frz o u)->b≠a:=fun b o u e z=>by rw [z,hya] at e; exact iR e.symm
 have stay:∀ {Y:Fp},(∀ b,Y b->b≠a)->Stay Y H (upd H a (.lst xs')):=fun {Y} hY=>⟨fun b o hb e=>keep b o e (hY b hb),fun b xs e=>by
  rcases e with e | ⟨u,e⟩
  ·exact .inl (keep b _ e (neT b xs e))
  ·exact .inr ⟨u,keep b _ e (neF b u _ e)⟩,fun b o u e=>keep b _ e (neF b o u e)⟩
 have al:∀ b,H b≠none->upd H a (.lst xs') b≠none:=fun b h=>by
  by_cases e:b=a
  ·rw [e,aI]; simp
  ·rw [aj e]; exact h
 have zal':∀ b,(Z b\/((Fs i b\/G b)/\b≠a/\¬ G' b/\¬ R b))->H b≠none:=fun b h=>by
  rcases h with h | ⟨h | h,_⟩
  ·exact A.gd.zal b h
  ·obtain ⟨_,zs,e⟩:=A.gd.own b ⟨i,h⟩; rw [e]; simp
  ·obtain ⟨_,zs,e⟩:=A.own b h; rw [e]; simp
 have listAt:∀ b,(tot Fs b\/G b)->∃ zs:OO,upd H a (.lst xs') b=some zs.ho:=fun b h=>by
  by_cases e:b=a
  ·exact ⟨.inl xs',by rw [e,aI]; rfl⟩
  ·rcases h with h | h
   ·obtain ⟨_,zs,q⟩:=A.gd.own b h; exact ⟨zs,by rw [aj e]; exact q⟩
   ·obtain ⟨_,zs,q⟩:=A.own b h; exact ⟨zs,by rw [aj e]; exact q⟩
 have nZ:∀ b,(Fs i b\/G b)->¬ Z b:=fun b h z=>h.elim (fun y=>(A.gd.own b ⟨i,y⟩).1 z) fun y=>(A.own b y).1 z
 have cJ:∀ b,tot (kB Fs i fun b=>G' b\/b=a) b->(∃ j,j≠i/\Fs j b)\/G' b\/b=a:=fun b h=>by
  obtain ⟨j,h | h⟩:=h
  ·exact .inr h.2
  ·exact .inl ⟨j,h⟩
 refine k (fun b=>Z b\/((Fs i b\/G b)/\b≠a/\¬ G' b/\¬ R b)) (kB Fs i fun b=>G' b\/b=a) ⟨⟨fun b h=>⟨fun z=>?_,?_⟩,fun j l b hj hk=>?_,fun b h=>al b (zal' b h)⟩,fun l m t e=>?_,fun b h=>⟨fun z=>?_,listAt b ((hR b h).1.imp (fun z=>⟨i,z⟩) id)⟩,fun b h q=>?_,A.lk,A.ln⟩ ⟨fun b o e n=>keep b o e fun z=>n (.inl (z ▸ hta)),fun b h=>.inl h,fun b h=>h.imp id fun q=>.inl (q.1.imp (fun z=>⟨i,z⟩) id),fun b h=>?_,al,fun _ b h=>al b (zal' b h)⟩ fun {m t v} r=>r.keep (stay zdef) (fun _ z=>z) fun b o hb e=>keep b o e (hR b hb).2
 ·rcases cJ b h with ⟨j,hj,q⟩ | q | q
  ·rcases z with z | ⟨z | z,_⟩
   ·exact (A.gd.own b ⟨j,q⟩).1 z
   ·exact hj (A.gd.dis j i b q z)
   ·exact A.dis b z ⟨j,q⟩
  ·rcases z with z | z
   ·exact nZ b (hg b q).1 z
   ·exact z.2.2.1 q
  ·exact zdef b z q
 ·rcases cJ b h with ⟨j,hj,q⟩ | q | q
  ·exact listAt b (.inl ⟨j,q⟩)
  ·exact listAt b ((hg b q).1.imp (fun z=>⟨i,z⟩) id)
  ·exact ⟨.inl xs',by rw [q,aI]; rfl⟩
 ·have key:∀ {j:Nat},(G' b\/b=a)->Fs j b->j=i:=fun {j} h q=>by
   rcases h with h | h
   ·rcases (hg b h).1 with y | y
    ·exact A.gd.dis j i b q y
    ·exact absurd ⟨j,q⟩ (A.dis b y)
   ·rw [h] at q; exact A.gd.dis j i a q ha
  rcases hj with ⟨rfl,hj⟩ | ⟨nj,hj⟩
  ·rcases hk with ⟨rfl,_⟩ | ⟨nk,hk⟩
   ·rfl
   ·exact absurd (key hj hk) nk
  ·rcases hk with ⟨rfl,hk⟩ | ⟨nk,hk⟩
   ·exact absurd (key hk hj) nj
   ·exact A.gd.dis j l b hj hk
 ·rw [a7] at e
  split at e
  ·rename_i hc
   obtain ⟨rfl,_⟩:=hc
   cases e
   refine ⟨.ref a,⟨a,xs',rfl,hl,(LstR.own hm).mpr ⟨.inl ⟨rfl,.inr rfl⟩,aI⟩,?_⟩,hx,hpv⟩
   exact (p.keep (stay zdef) (fun _ z=>z) fun b o hb e=>keep b o e (hg b hb).2).mono fun b hb=>⟨.inl ⟨rfl,.inl hb⟩,(hg b hb).2⟩
  ·rename_i hc
   have hl':l≠i:=fun z=>hc ⟨z,c7 hi⟩
   obtain ⟨v,r,h⟩:=A.env l m t e
   have nea:∀ b,Fs l b->b≠a:=fun b q z=>hl' (A.gd.dis l i a (z ▸ q) ha)
   exact ⟨v,((r.keep (stay fun b hb z=>nza (z ▸ hb)) (fun _ z=>z) fun b o hb e=>keep b o e (nea b hb)).zmono fun b h=>.inl h).mono fun b h=>.inr ⟨hl',h⟩,h⟩
 ·rcases z with z | z
  ·exact nZ b (hR b h).1 z
  ·exact z.2.2.2 h
 ·rcases cJ b q with ⟨j,hj,y⟩ | y | y
  ·rcases (hR b h).1 with z | z
   ·exact hj (A.gd.dis j i b y z)
   ·exact A.dis b z ⟨j,y⟩
  ·exact hRG b h y
  ·exact (hR b h).2 y
 ·rcases h with h | h
  ·rcases cJ b h with ⟨j,_,q⟩ | q | q
   ·exact .inl (.inl ⟨j,q⟩)
   ·exact .inl ((hg b q).1.imp (fun z=>⟨i,z⟩) id)
   ·exact .inl (.inl (q ▸ hta))
  ·exact .inl ((hR b h).1.imp (fun z=>⟨i,z⟩) id)
theorem change {i:Nat}{a:Addr}{ts':List T}{xs':List V}{m':Md}(hm:m'≠.s)(A:At K ⟨sf,pv⟩ σ Z H Fs η G){w0:W}(hi:rd η i=some w0)(ha:Fs i a)(hx:∀ j,sf i=some j->σ[j]?=some (some (.ref a)))(hl:xs'.length<=LIM)(hpv:∀ u,pv i=some u->V.ref a=u)
  (hg:∀ b,G' b->(Fs i b\/G b)/\b≠a) (p:RepL K (fun b=>Z b\/((Fs i b\/G b)/\b≠a/\¬ G' b)) H m'.kid ts' xs' G') {Q:Hp->Prop}
  (k:∀ Z' Fs',At K ⟨sf,pv⟩ σ Z' (upd H a (.lst xs')) Fs' (M.put η i (m',.lst ts')) no->Step Z H (fun b=>tot Fs b\/G b) Z' (upd H a (.lst xs')) (tot Fs')->Q (upd H a (.lst xs'))):Q (upd H a (.lst xs')) :=
 oH (R:=no) hm A hi ha hx hl hpv hg (fun _ z=>z.elim) (fun _ z=>z.elim) (p.zmono fun b h=>h.imp id fun q=>⟨q.1,q.2.1,q.2.2,fun z=>z⟩) fun Z' Fs' B s _=>k Z' Fs' B (s.mono (fun _ z=>z) fun _ z=>.inl z)
end
end MR
namespace MR
open L2 L3 M
open PySem (Addr Str sizeLine)
section
variable {K:a0a}{sl:Cf}{sf sg:Nat->Option Nat}{C:Call}{σ σ2:L2.St}{Z Z' Z1:Fp}{H H' H1:Hp}{Fs Fs' Fs1:Fps}{η η' η1 ηb:Env}{G G' G1 R F F':Fp}{tg is vs ls io:List Nat}{pv val:Nat->Option V}{D:b9}
theorem lr {o:Option W}{u:Unit}(h:eQ o=.ok u):∃ m ts,o=some (m,.lst ts):=by
 cases o with
 | none=>cases h
 | some w =>
  obtain ⟨m,t⟩:=w
  cases t with
  | lst ts=>exact ⟨m,ts,rfl⟩
  | _=>cases h
theorem At.listAt {i j:Nat}{m:Md}{ts:List T}(hs:sf i=some j)(A:At K ⟨sf,pv⟩ σ Z H Fs η G)(h:rd η i=some (m,.lst ts)):∃ a xs,σ[j]?=some (some (.ref a))/\H a=some (.lst xs):=by
 obtain ⟨v,r,hl,_⟩:=A.env i m _ h
 obtain ⟨a,xs,rfl,hx,_⟩:=aW r
 exact ⟨a,xs,hl j hs,hx⟩
theorem At.ourList {i j:Nat}{a:Addr}{m:Md}{ts:List T}(hs:sf i=some j)(hm:m≠.s)(hj:σ[j]?=some (some (.ref a)))(A:At K ⟨sf,pv⟩ σ Z H Fs η G)(h:rd η i=some (m,.lst ts)) :
  ∃ xs,xs.length<=LIM/\Fs i a/\H a=some (.lst xs)/\RepL K Z H m.kid ts xs (fun b=>Fs i b/\b≠a)/\(∀ u,pv i=some u->V.ref a=u):=by
 obtain ⟨v,r,hl,hp⟩:=A.env i m _ h
 have e:=hl j hs
 rw [hj] at e
 cases e
 obtain ⟨b,xs,e,l,g,hx,p⟩:=jf hm r
 cases e
 exact ⟨xs,l,g,hx,p,hp⟩
theorem mN {u w r:W}(h:eS u w=some r):∃ m ts n us,u=(m,.lst ts)/\w=(n,.lst us)/\m≠.s/\ts.length+us.length<=LIM/\r=((m.kid.meet n.kid).up,.lst (ts++us)):=by
 obtain ⟨m,t⟩:=u
 obtain ⟨n,t'⟩:=w
 cases m with
 | s=>cases h
 | d =>
  cases t with
  | lst ts =>
   cases t' with
   | lst us =>
    have h':(if ts.length+us.length<=LIM then some ((((Md.d.kid.meet n.kid).up,.lst (ts++us)):W)) else none)=some r:=h
    split at h'
    ·rename_i hl; cases h'; exact ⟨.d,ts,n,us,rfl,rfl,by simp,hl,rfl⟩
    ·cases h'
   | _=>cases h
  | _=>cases h
 | o m =>
  cases t with
  | lst ts =>
   cases t' with
   | lst us =>
    have h':(if ts.length+us.length<=LIM then some (((((Md.o m).kid.meet n.kid).up,.lst (ts++us)):W)) else none)=some r:=h
    split at h'
    ·rename_i hl; cases h'; exact ⟨.o m,ts,n,us,rfl,rfl,by simp,hl,rfl⟩
    ·cases h'
   | _=>cases h
  | _=>cases h
theorem nD {u k w r:W}(h:cJ u k w=some r):∃ m ts n j q,u=(m,.lst ts)/\k=(n,.int j)/\m≠.s/\M.ixN ts.length j=some q/\r=((m.kid.meet (lf w.1 w.2)).up,.lst (ts.set q w.2)):=by
 obtain ⟨m,t⟩:=u
 obtain ⟨n,t'⟩:=k
 cases m with
 | s=>cases h
 | d =>
  cases t with
  | lst ts =>
   cases t' with
   | int j =>
    have h':(M.ixN ts.length j).map (fun k=>(((Md.d.kid.meet (lf w.1 w.2)).up,.lst (ts.set k w.2)):W))=some r:=h
    cases e:M.ixN ts.length j with
    | none=>rw [e] at h'; cases h'
    | some q=>rw [e] at h'; cases h'; exact ⟨.d,ts,n,j,q,rfl,rfl,by simp,e,rfl⟩
   | _=>cases h
  | _=>cases h
 | o m =>
  cases t with
  | lst ts =>
   cases t' with
   | int j =>
    have h':(M.ixN ts.length j).map (fun k=>((((Md.o m).kid.meet (lf w.1 w.2)).up,.lst (ts.set k w.2)):W))=some r:=h
    cases e:M.ixN ts.length j with
    | none=>rw [e] at h'; cases h'
    | some q=>rw [e] at h'; cases h'; exact ⟨.o m,ts,n,j,q,rfl,rfl,by simp,e,rfl⟩
   | _=>cases h
  | _=>cases h
theorem ux {x:X}{i j:Nat}{e:E}(hs:sf i=some j)(D:b9)(σ:L2.St)(H:Hp)(h:wS K sf io C (.ext x i e) D σ H) :
  ∃ a xs,σ[j]?=some (some (.ref a))/\H a=some (.lst xs)/\wE K sf C e σ H fun y H1=>∃ b xs zs,y=.ref b/\H1 a=some (.lst xs)/\H1 b=some (.lst zs)/\xs.length+zs.length<=sizeLine/\D.nx σ (upd H1 a (.lst (xs++zs))):=by
 obtain ⟨pv,Z,Fs,η,N,A,f⟩:=h
 obtain ⟨u,h0,h1⟩:=bE (show Fin K ⟨sf,pv⟩ Z H (tot Fs) D (Fl.of η (eQ (rd η i)) (jY (evX C x e) η (lA i))) from f)
 obtain ⟨m0,t0,h00⟩:=lr h0
 obtain ⟨a,xs0,hj,ha⟩:=A.listAt hs h00
 obtain ⟨⟨w,η1⟩,h2,h3⟩:=bE (show Fin K ⟨sf,pv⟩ Z H (tot Fs) D (Fl.of η (evX C x e η) (lA i)) from h1)
 obtain ⟨η2,h4,h5⟩:=i9 (show Fin K ⟨sf,pv⟩ Z H (tot Fs) D (nxO η1 (((rd η1 i).bind fun u=>eS u w).map fun u=>M.put η1 i u)) from h3)
 refine ⟨a,xs0,hj,ha,nF (sl:=⟨sf,pv⟩) A h2 fun y Z' H' Fs' G B r s=>?_⟩
 cases e1:rd η1 i with
 | none=>rw [e1] at h4; cases h4
 | some u1 =>
  rw [e1] at h4
  cases e2:eS u1 w with
  | none=>rw [show (some u1).bind (fun u=>eS u w)=eS u1 w from rfl,e2] at h4; cases h4
  | some r1 =>
   rw [show (some u1).bind (fun u=>eS u w)=eS u1 w from rfl,e2] at h4
   cases h4
   obtain ⟨m,ts,n,us,rfl,rfl,hm,hlen,rfl⟩:=mN e2
   obtain ⟨xs,hl,hf,hx,p,hpv⟩:=B.ourList hs hm hj e1
   obtain ⟨b,zs,rfl,hb,hl2,p2⟩:=aW r
   have e3:=p.length
   have e4:=p2.length
   have hG:∀ b,G b->b≠a:=fun b h z=>B.dis b h ⟨i,z ▸ hf⟩
   obtain ⟨G',g1,g2⟩:=gM (G:=fun b=>(Fs' i b/\b≠a)\/G b) (fun _ z=>.inl z) (fun _ z=>.inr z) (fun b h q=>B.dis b q ⟨i,h.1⟩) p p2
   have ne:∀ b,((Fs' i b/\b≠a)\/G b)->b≠a:=fun b h=>h.elim And.right (hG b)
   refine ⟨b,xs,zs,rfl,hx,hb,bg (by omega),?_⟩
   refine change (K:=K) (m':=(m.kid.meet n.kid).up) (cD _) B e1 hf (fun k hk=>by rw [show sf i=some k from hk] at hs; cases hs; exact hj) (by rw [a0m]; omega) hpv (fun b h=>⟨(g1 b h).imp a2A id,ne b (g1 b h)⟩) (ts':=ts++us) (by rw [du]; exact g2.zmono fun b h=>h.imp id fun q=>⟨q.1.imp a2A id,ne b q.1,q.2⟩) fun Z2 Fs2 B2 s2=>h5 σ Z2 _ Fs2 B2 (s.trans s2)
theorem RepL.setAt:∀ {ts:List T} {xs:List V} {A0 G0 G:Fp} {q:Nat} {t:T} {y:V} {m:Md},(∀ b,A0 b->G b)->(∀ b,G0 b->G b)->(∀ b,A0 b->¬ G0 b)->RepL K Z H m ts xs A0->Rep K Z H m t y G0->RepL K Z H m (ts.set q t) (xs.set q y) G
 | [],xs,A0,G0,G,q,t,y,m,w1,w2,d,h,r=>by rw [show xs=[] from h]; exact rfl
 | u::ts,xs,A0,G0,G,0,t,y,m,w1,w2,d,⟨x,r',A,B,e,h1,h2,hd,p,q⟩,r=>by
  rw [e]
  exact ⟨y,r',G0,B,rfl,w2,fun a h=>w1 a (h2 a h),fun a h q=>d a (h2 a q) h,r,q⟩
 | u::ts,xs,A0,G0,G,n+1,t,y,m,w1,w2,d,⟨x,r',A,B,e,h1,h2,hd,p,q⟩,r=>by
  rw [e]
  refine ⟨x,r'.set n y,A,fun a=>B a\/G0 a,rfl,fun a h=>w1 a (h1 a h),fun a h=>h.elim (fun z=>w1 a (h2 a z)) (w2 a),fun a h q=>q.elim (hd a h) (d a (h1 a h)),p,?_⟩
  exact RepL.setAt (fun _ z=>.inl z) (fun _ z=>.inr z) (fun b h=>d b (h2 b h)) q r
theorem dZ (vs:List Nat)(η:Env):Nn η (M.share vs η):=fun i e=>by
 rw [et]; split
 ·rw [e]; rfl
 ·exact e
theorem uM {x:X}{e:E}{w:W}(h:evX C x e η=.ok (w,η')):Nn η η':=by
 cases x with
 | q vs ls =>
  obtain ⟨⟨u,η2⟩,h1,h2⟩:=aa (show (evE C e (cR vs ls η)).bind (kX vs η)=_ from h)
  cases h2
  show Nn η (after (M.lf u.1 u.2) vs η)
  cases hm:M.lf u.1 u.2 with
  | d=>intro i e; exact e
  | s=>exact dZ vs η
  | o m=>exact dZ vs η
 | l vs=>exact (dZ vs η).trans (ay e h)
theorem pB {x:X}{i j:Nat}{k e:E}(hs:sf i=some j)(D:b9)(σ:L2.St)(H:Hp)(h:wS K sf io C (.setI x i k e) D σ H) :
  wE K sf C e σ H fun y H1=>j7 j σ H1 fun o H1=>wE K sf C k σ H1 fun z H2=>∃ a xs n q,o=.ref a/\z=.int n/\H2 a=some (.lst xs)/\L2.ixN xs.length n=some q/\D.nx σ (upd H2 a (.lst (xs.set q y))):=by
 obtain ⟨pv,Z,Fs,η,N,A,f⟩:=h
 obtain ⟨⟨w,η1⟩,h2,h3⟩:=bE (show Fin K ⟨sf,pv⟩ Z H (tot Fs) D (Fl.of η (evX C x e η) (p9 i (evX C x k) η)) from f)
 obtain ⟨⟨kw,η2⟩,h6,h7⟩:=bE (show Fin K ⟨sf,pv⟩ Z H (tot Fs) D (Fl.of η (evX C x k η1) (l0 i w)) from h3)
 obtain ⟨η3,h4,h5⟩:=i9 (show Fin K ⟨sf,pv⟩ Z H (tot Fs) D (nxO η2 (((rd η2 i).bind fun u=>cJ u kw w).map fun u=>M.put η2 i u)) from h7)
 refine nF (sl:=⟨sf,pv⟩) A h2 fun y Z' H' Fs' G B r s=>?_
 cases e1:rd η2 i with
 | none=>rw [e1] at h4; cases h4
 | some u1 =>
  rw [e1] at h4
  cases e2:cJ u1 kw w with
  | none=>rw [show (some u1).bind (fun u=>cJ u kw w)=cJ u1 kw w from rfl,e2] at h4; cases h4
  | some r1 =>
   rw [show (some u1).bind (fun u=>cJ u kw w)=cJ u1 kw w from rfl,e2] at h4
   cases h4
   obtain ⟨m,ts,n,jj,q,rfl,rfl,hm,hq,rfl⟩:=nD e2
   have n1:rd η1 i≠none:=fun z=>by rw [uM h6 i z] at e1; cases e1
   cases e3:rd η1 i with
   | none=>exact absurd e3 n1
   | some u3 =>
    obtain ⟨v3,r3,l3,p3⟩:=B.env i u3.1 u3.2 e3
    refine ⟨v3,l3 j hs,nF (sl:=⟨sf,pv⟩) B.bare h6 fun z Z2 H2 Fs2 G2 B2 rz s2=>?_⟩
    obtain ⟨B3,s3,d3⟩:=B.frame B2 s2
    have r':=r.frame B.gd.own s2 B.dis
    have B4:=B3.mono (G':=G) fun _ z=>.inl z
    obtain ⟨v4,r4,l4,p4⟩:=B4.env i m _ e1
    have hv:v3=v4:=by have e5:=l3 j hs; have e6:=l4 j hs; rw [e5] at e6; cases e6; rfl
    subst hv
    obtain ⟨a,xs,rfl,hl,hf,hx,p⟩:=jf hm r4
    have e7:=p.length
    obtain ⟨A1,a1,a2⟩:=RepL.weak (b0 m.kid (lf w.1 w.2)).1 p
    obtain ⟨A2,b1,b2⟩:=Rep.weak (b0 m.kid (lf w.1 w.2)).2 r'.lf
    have dis:∀ b,(Fs2 i b/\b≠a)->¬ G b:=fun b h q=>B4.dis b q ⟨i,h.1⟩
    have hG:∀ b,G b->b≠a:=fun b h z=>B4.dis b h ⟨i,z ▸ hf⟩
    refine ⟨a,xs,jj,q,rfl,show z=_ from rz,hx,by rw [e7]; exact hq,?_⟩
    refine change (K:=K) (G':=fun b=>A1 b\/A2 b) (m':=(m.kid.meet (lf w.1 w.2)).up) (cD _) B4 e1 hf (fun k hk=>by rw [show sf i=some k from hk] at hs; cases hs; exact l3 _ hk) (by rw [a1u]; exact hl) p4 (fun b h=>h.elim (fun z=>⟨.inl (a1 b z).1,(a1 b z).2⟩) fun z=>⟨.inr (b1 b z),hG b (b1 b z)⟩) (ts':=ts.set q w.2) ?_ fun Z5 Fs5 B5 s5=>h5 σ Z5 _ Fs5 B5 ((s.trans (s3.mono (fun _ z=>z) fun b h=>h.imp id .inl)).trans s5)
    rw [du]
    refine RepL.setAt (A0:=A1) (G0:=A2) (fun _ z=>.inl z) (fun _ z=>.inr z) (fun b h q=>dis b (a1 b h) (b1 b q)) (a2.zmono fun b h=>?_) (b2.zmono fun b h=>?_)
    ·exact h.imp id fun q=>⟨.inl q.1.1,q.1.2,fun z=>z.elim q.2 fun z=>dis b q.1 (b1 b z)⟩
    ·exact h.imp id fun q=>⟨.inr q.1,hG b q.1,fun z=>z.elim (fun z=>dis b (a1 b z) q.1) q.2⟩
end
end MR
namespace MR
open L2 L3 M
open PySem (Addr Str sizeLine)
section
variable {K:a0a}{sl:Cf}{sf sg:Nat->Option Nat}{C:Call}{σ σ2:L2.St}{Z Z' Z1:Fp}{H H' H1:Hp}{Fs Fs' Fs1:Fps}{η η' η1 ηb:Env}{G G' G1 R F F':Fp}{tg is vs ls io:List Nat}{pv val:Nat->Option V}{D:b9}
noncomputable def gF (K:a0a):List Nat->TG
 | [j]=>cj j
 | [j,l]=>wJ K 2 (ji (cj j) (ji (cj l) v5))
 | _=>fun _ _ _ _=>False
theorem lB {fl:Fl}{g:Env->Fl}(f:Fin K sl Z H F D (Fl.turn fl g)):(∃ η',fl=.nx η'/\Fin K sl Z H F D (g η'))\/(∃ η',fl=.bk η'/\Fin K sl Z H F D (.nx η'))\/(∃ w η',fl=.rt w η'/\Fin K sl Z H F D (.rt w η')):=by
 cases fl with
 | nx η=>exact .inl ⟨η,rfl,f⟩
 | bk η=>exact .inr (.inl ⟨η,rfl,f⟩)
 | rt w η=>exact .inr (.inr ⟨w,η,rfl,f⟩)
 | ex c x η=>exact f.elim
 | no=>exact f.elim
theorem mV {fl:Fl}{g:Env->Fl}{N:L2.St->Hp->Prop}(f:Fin K sl Z H F D (Fl.turn fl g))(hN:∀ η' σ' Z' H' Fs',fl=.nx η'->Fin K sl Z H F D (g η')->At K sl σ' Z' H' Fs' η' no->Step Z H F Z' H' (tot Fs')->N σ' H'):Fin K sl Z H F { D with nx:=N,ct:=N,bk:=D.nx } fl:=by
 rcases lB f with ⟨η',rfl,f⟩ | ⟨η',rfl,f⟩ | ⟨w,η',rfl,f⟩
 ·exact fun σ' Z' H' Fs' A s=>hN η' σ' Z' H' Fs' rfl f A s
 ·exact f
 ·exact f
theorem mK {n i:Nat}{J:It}{ts:List (List W)}{ws:List W}{js:List Nat}{x:V}{Q:L2.St->Hp->Prop}(hn:tg.length=n)(nd:tg.Nodup)(N:nB sf io pv)(hio:∀ t∈tg,t ∉ io)(hjs:tg.map sf=js.map some)(hz:∀ a,Z1 a->Z a)(st:Stay Z1 H1 H)(yl:Yld K J Z1 H1 ts n)(A:At K ⟨sf,pv⟩ σ Z H Fs η no)
  (hw:ts[i]?=some ws) (hb:aM tg ws η=some ηb) (y:J.yld i H x H') (k:∀ σ2 H2 Fs2,At K ⟨sf,pv⟩ σ2 Z H2 Fs2 ηb no->Step Z H (tot Fs) Z H2 (tot Fs2)->Q σ2 H2):gF K js x σ H' Q:=by
 have hi:i < ts.length:=(a0o.mp hw).1
 match n,yl with
 | 1,yl =>
  obtain ⟨e0,w,hw',r⟩:=yl H i x H' st hi y
  rw [e0]
  rw [hw] at hw'; cases hw'
  match tg,hn,js,hjs with
  | [t],_,[j],hjs =>
   cases hb
   have hs:sf t=some j:=by simpa using hjs
   exact k _ H _ (At.set N (hio t (by simp)) hs A (r.zmono hz)) ((Step.refl _ _ _).mono (fun _ z=>z) fun a h=>(bx h).elim id fun z=>z.elim)
  | [t],_,[],hjs=>simp at hjs
  | [t],_,_::_::_,hjs=>simp at hjs
 | 2,yl =>
  obtain ⟨p,y1,z1,u,w,rfl,sm,hq,hw',r1,r2⟩:=yl H i x H' st hi y
  rw [hw] at hw'; cases hw'
  match tg,hn,js,hjs with
  | [t,t'],_,[j,j'],hjs =>
   cases hb
   have hs:sf t=some j:=by simp at hjs; exact hjs.1
   have hs':sf t'=some j':=by simp at hjs; exact hjs.2
   have s0:Step Z H no Z H' no:=ef sm
   obtain ⟨A1,s1⟩:=A.op bH s0
   have sn:Stay Z H H':=hI sm
   have r1':Rep K Z H' u.1 u.2 y1 no:=(r1.zmono hz).keep sn (fun _ z=>z) fun _ _ z=>z.elim
   have r2':Rep K Z H' w.1 w.2 z1 no:=(r2.zmono hz).keep sn (fun _ z=>z) fun _ _ z=>z.elim
   have A2:=At.set N (hio t (by simp)) hs A1 r1'
   have A3:=At.set N (hio t' (by simp)) hs' A2 r2'
   refine ⟨p,[y1,z1],rfl,hq,rfl,y1,[z1],rfl,z1,[],rfl,rfl,k _ _ _ A3 (s1.mono (fun a h=>h.elim id fun z=>z.elim) fun a h=>?_)⟩
   rcases bx h with h | h
   ·exact .inl ((bx h).elim id fun z=>z.elim)
   ·exact h.elim
  | [t,t'],_,[],hjs=>simp at hjs
  | [t,t'],_,[_],hjs=>simp at hjs
  | [t,t'],_,_::_::_::_,hjs=>simp at hjs
theorem sF {n:Nat}{k:Ik}{src:List E}{js:List Nat}{body:List S}(hn:tg.length=n)(nd:tg.Nodup)(hio:∀ t∈tg,t ∉ io)(hjs:tg.map sf=js.map some)(D:b9)(σ:L2.St)(H:Hp)(h:wS K sf io C (.forS vs ls k src tg body) D σ H) :
  ye (wI K sf C n k src) (gF K js) (wSs K sf io C body) D σ H:=by
 obtain ⟨pv,Z,Fs,η,N,A,f⟩:=h
 obtain ⟨⟨ws,η2⟩,h1,h2⟩:=bE (show Fin K ⟨sf,pv⟩ Z H (tot Fs) D (Fl.of η (evL C src (cR vs ls η)) (qc vs k tg (evSs C body) η)) from f)
 obtain ⟨⟨ts,η3⟩,h3,h4⟩:=bE (show Fin K ⟨sf,pv⟩ Z H (tot Fs) D (Fl.of η (ret (M.share vs η) (bo k ws)) (jo tg (evSs C body))) from h2)
 obtain ⟨ts',ht,e3⟩:=av h3
 have e4:ts=ts':=congrArg a2V e3
 have e5:η3=M.share vs η:=congrArg a1x e3
 subst e4 e5
 have h4':Fin K ⟨sf,pv⟩ Z H (tot Fs) D (eK tg (evSs C body) ts (M.share vs η)):=h4
 refine ⟨pv,_,kH,_,ws,η2,ts,A.quiet (vs:=vs) (ls:=ls),h1,ht,fun J Z1 H1 Fs1 B s wk yl=>?_⟩
 obtain ⟨B1,s1⟩:=cT (G:=no) A bH B.gd.zal (s.mono (F2:=fun a=>tot Fs1 a\/no a) (fun _ z=>z) fun a h=>h.elim id fun z=>z.elim) fun a h=>gx h
 obtain ⟨B2,s2⟩:=B1.share (vs:=vs)
 have s3:=(s2 s1).mono (F2:=tot (dN Fs vs)) (fun _ z=>z) fun _ z=>.inl z
 have zz:∀ a,Z1 a->((Z1 a/\¬ bS Fs vs a)\/bS Fs vs a):=fun a h=>(a2T (bS Fs vs a)).elim .inr fun q=>.inl ⟨h,q⟩
 refine ⟨fun i m σ' H'=>m=ts.length-i/\i<=ts.length/\∃ Zi Fsi ηi,At K ⟨sf,pv⟩ σ' Zi H' Fsi ηi no/\Step (fun a=>(Z1 a/\¬ bS Fs vs a)\/bS Fs vs a) H1 (tot (dN Fs vs)) Zi H' (tot Fsi)/\Fin K ⟨sf,pv⟩ Zi H' (tot Fsi) D (eK tg (evSs C body) (ts.drop i) ηi),⟨ts.length,by simp,a0W _,_,_,_,B2,Step.refl _ _ _,h4'.step s3⟩,?_⟩
 rintro i m σi H0 ⟨rfl,hi,Zi,Fsi,ηi,Ai,si,fi⟩
 have st:Stay Z1 H1 H0:=by
  have:=B2.gd.own.stay si
  exact ⟨fun a o h=>this.1 a o (zz a h),this.2⟩
 by_cases hlt:i < ts.length
 ·right
  refine ⟨wk.go H0 i st hlt,_,fun σ' H' hw=>⟨ts.length-(i+1),by omega,hw⟩,fun x H' y=>?_⟩
  have hw:ts[i]?=some ts[i]:=by simp [hlt]
  rw [fq hw] at fi
  obtain ⟨ηb,hb,fb⟩:=bE (show Fin K ⟨sf,pv⟩ Zi H0 (tot Fsi) D (Fl.of ηi (ofO (aM tg ts[i] ηi)) fun η1=>Fl.turn (evSs C body η1) (eK tg (evSs C body) (ts.drop (i+1)))) from fi)
  refine mK hn nd N hio hjs (fun a h=>si.zm a (zz a h)) st yl Ai hw (cB hb) y fun σ2 H2 Fs2 A2 t2=>?_
  refine ⟨pv,Zi,Fs2,ηb,N,A2,mV (fb.step t2) fun η' σ' Z' H' Fs' _ f' A' s'=>⟨rfl,hlt,Z',Fs',η',A',(si.trans t2).trans s',f'.step s'⟩⟩
 ·left
  have hi':i=ts.length:=by omega
  subst hi'
  rw [a2w] at fi
  exact ⟨wk.stop H0 _ st (a0b _),fi σi Zi H0 Fsi Ai (Step.refl _ _ _)⟩
end
end MR

namespace MR
open PySem PySem.Spec PyProof.Rows L2 L3
section
variable {X:Cx}{sf sg:Nat->Option Nat}{C:M.Call}{pos p2:Pos}{ea eb ec:Expr}{a b c:M.E}{h:Bool}{n:Nat}
theorem aA {e:Expr}{t t':TE}(h:PE X e t)(hw:∀ σ H Q,t' σ H Q->t σ H Q):PE X e t':=fun pins s σ H Q I q=>h pins s σ H Q I (hw σ H Q q)
theorem ma {e:Expr}{t t':TT}(h:PT X e t)(hw:∀ σ H Q,t' σ H Q->t σ H Q):PT X e t':=fun pins s σ H Q I q=>h pins s σ H Q I (hw σ H Q q)
theorem qS {e:Expr}{t t':TT}(h:PW X e t)(hw:∀ σ H Q,t' σ H Q->t σ H Q):PW X e t':=fun whole pins s σ H Q I q=>h whole pins s σ H Q I (hw σ H Q q)
theorem gI {es:List Expr}{t t':TA}(h:PA X es t)(hw:∀ σ H Q,t' σ H Q->t σ H Q):PA X es t':=fun pos pins s σ H Q I q=>h pos pins s σ H Q I (hw σ H Q q)
theorem ee {s:Stmt}{t t':TS}(h:PS X s t)(hw:∀ D σ H,t' D σ H->t D σ H):PS X s t':=fun pins s σ H D I q=>h pins s σ H D I (hw D σ H q)
theorem iI {s:List Stmt}{t t':TS}(h:PSs X s t)(hw:∀ D σ H,t' D σ H->t D σ H):PSs X s t':=fun pins s σ H D I q=>h pins s σ H D I (hw D σ H q)
theorem qZ {tg e:Expr}{t t':TI}(h:PI X tg e t)(hw:∀ σ H R,t' σ H R->t σ H R):PI X tg e t':=fun pins s σ H R I q=>h pins s σ H R I (hw σ H R q)
theorem xV {tg e:Expr}{t t':TI}(h:PI X tg e t)(h':PI X tg e t'):PI X tg e (fun σ H R=>t σ H R\/t' σ H R):=fun pins s σ H R I q=>q.elim (h pins s σ H R I) (h' pins s σ H R I)
noncomputable abbrev SE (X:Cx)(sf:Nat->Option Nat)(C:M.Call)(me:Expr)(e:M.E):Prop:=PE X me (wE X.K sf C e)
noncomputable abbrev SB (X:Cx)(sf:Nat->Option Nat)(C:M.Call)(me:Expr)(e:M.E):Prop:=PT X me (wT X.K sf C e)
noncomputable abbrev SL (X:Cx)(sf:Nat->Option Nat)(C:M.Call)(me:List Expr)(es:List M.E):Prop:=PA X me (wL X.K sf C es)
noncomputable abbrev SA (X:Cx)(sf:Nat->Option Nat)(C:M.Call)(me:List Expr)(es:List M.E):Prop:=PA X me (wA X.K sf C es)
noncomputable abbrev SS (X:Cx)(sf:Nat->Option Nat)(io:List Nat)(C:M.Call)(ms:Stmt)(s:M.S):Prop:=PS X ms (wS X.K sf io C s)
noncomputable abbrev SSs (X:Cx)(sf:Nat->Option Nat)(io:List Nat)(C:M.Call)(ms:List Stmt)(s:List M.S):Prop:=PSs X ms (wSs X.K sf io C s)
theorem sV (j:Nat){i:Nat}{x:Str}(hs:sf i=some j:=by rfl)(hN:X.N[j]?=some x:=by rfl)(hv:Vis X.env.scope x:=by first | exact a0B rfl | exact a0u (a0B rfl) | exact a0u (a0u rfl))(hd:(x==("__debug__":Str))=false:=by decide)
  (hcd:(x==("__classdict__":Str))=false:=by decide):SE X sf C (.Name x pos) (.var i):=aA (cf hN hv hd hcd) (uO hs)
theorem sM (j:Nat){i:Nat}{x:Str}(hs:sf i=some j:=by rfl)(hN:X.N[j]?=some x:=by rfl)(hv:Vis X.env.scope x:=by first | exact a0B rfl | exact a0u (a0B rfl) | exact a0u (a0u rfl))(hd:(x==("__debug__":Str))=false:=by decide)
  (hcd:(x==("__classdict__":Str))=false:=by decide):SE X sf C (.Name x pos) (.mv i):=aA (cf hN hv hd hcd) (tO (fun _=>rfl) hs)
theorem sI {i:Int}{k:Nat}:SE X sf C (.Constant (.int i) k pos) (.cst (.int i)):=aA vJ (eu fun {_ _}=>rfl)
theorem sO {i:Bool}{k:Nat}:SE X sf C (.Constant (.bool i) k pos) (.cst (.bl i)):=aA yd (eu fun {_ _}=>rfl)
theorem sN {k:Nat}:SE X sf C (.Constant .none k pos) (.cst .non):=aA vD (eu fun {_ _}=>rfl)
theorem aT (s:String)(hl:s.length<=1000):M.sOk (Str.ofString s)=true:=by
 unfold M.sOk
 rw [Str.ofString_eq_toList,a0i]
 refine ⟨?_,decide_eq_true ?_⟩
 ·rw [a1w]
  intro x hx
  rw [List.mem_toArray,a0Z] at hx
  obtain ⟨c,_,rfl⟩:=hx
  refine decide_eq_true ?_
  have:=c.valid
  have h2:c.toNat < 0x110000:=by
   have h3:=c.valid
   unfold UInt32.isValidChar Nat.isValidChar at h3
   show c.val.toNat < _
   omega
  exact h2
 ·rw [a0e,a0d,a10]
  exact a0j hl (by decide)
theorem sS {s:String}{k:Nat}(hl:s.length<=1000:=by decide):SE X sf C (.Constant (.str (Str.ofString s)) k pos) (.cst (.str (Str.ofString s))):=aA vb (eu fun {_ _}=>⟨rfl,aT s hl⟩)
theorem sl0:SL X sf C [] []:=gI dB uL
theorem slc {es:List Expr}{bs:List M.E}(ha:SE X sf C ea a)(hb:SL X sf C es bs)(hs:starEach (ea::es) X.env=(false,eval ea X.env)::starEach es X.env:=by rfl):SL X sf C (ea::es) (a::bs):=gI (a9 ha hb hs) ot
theorem sT {es:List Expr}{bs:List M.E}{x1:Nat}(h:SL X sf C es bs)(hn:bs.length<=M.LIM:=by decide):SE X sf C (.Tuple es x1 pos) (.tup bs):=aA (m9 h) (rY hn)
theorem sLs {es:List Expr}{bs:List M.E}(hh:SL X sf C es bs)(hn:bs.length<=M.LIM:=by decide):SE X sf C (.List es pos) (.lst h bs):=aA (vK hh) (rR hn)
theorem cu (ha:SE X sf C ea a)(hb:SE X sf C eb b):SE X sf C (.BinOp ea .Add eb pos) (.op .add h [a,b]) :=
 aA (eZ (op_add.or (op_add_str.or (op_cat.or oz))) ha hb) (aO (qb (rg X.K) fun {Z H G Q a b xs ys ts} h1 h2 h3 h4 ow r k=>by
  obtain ⟨G',g1,g2⟩:=r
  refine ⟨a,b,xs,ys,rfl,rfl,h1,h2,h3,bg h4,fun v H' same hv=>gC (m:=.s) ow g1 ?_ g2 k same hv⟩
  rw [a0m]; exact h4))
theorem cY (ha:SE X sf C ea a)(hb:SE X sf C eb b):SE X sf C (.BinOp ea .Sub eb pos) (.op .sub h [a,b]):=aA (eZ uA ha hb) (aO oJ)
theorem fX (ha:SE X sf C ea a)(hb:SE X sf C eb b):SE X sf C (.BinOp ea .Mult eb pos) (.op .mul h [a,b]):=aA (eZ (op_mul.or sR) ha hb) (aO qt)
theorem wF (ha:SE X sf C ea a)(hb:SE X sf C eb b):SE X sf C (.BinOp ea .FloorDiv eb pos) (.op .fdiv h [a,b]):=aA (eZ qe ha hb) (aO nK)
theorem eO (ha:SE X sf C ea a)(hb:SE X sf C eb b):SE X sf C (.BinOp ea .Mod eb pos) (.op .mod h [a,b]):=aA (eZ um ha hb) (aO pe)
theorem eN (ha:SE X sf C ea a)(hb:SE X sf C eb b):SE X sf C (.BinOp ea .Pow eb pos) (.op .pow h [a,b]):=aA (eZ rG ha hb) (aO n0)
theorem yX (ha:SE X sf C ea a):SE X sf C (.UnaryOp .USub ea pos) (.op .neg h [a]):=aA (vY vc ha) (vq n5)
theorem sIx (ha:SE X sf C ea a)(hb:SE X sf C eb b)(hs:fF eb:=by intro _ _; rfl):SE X sf C (.Subscript ea eb pos) (.op .ix h [a,b]):=aA (rh (ix_any.or ve) ha hb hs) (aO rQ)
mutual
noncomputable def th:M.T->Th
 | .non=>.non | .bl b=>.bl b | .int i=>.int i | .str x=>.str x | .tup ts=>.tup (ths ts) | .lst ts=>.lst (ths ts) | .dct _ _=>.non | .ins _ _ _=>.non | .scr _=>.non | .gone=>.non
noncomputable def ths:List M.T->List Th
 | []=>[]
 | t::ts=>th t::ths ts
end
mutual
theorem fT {K:a0a}{Z:Fp}{H:Hp}:∀ {t:M.T} {m:M.Md} {v:V} {G:Fp} {n:Nat},M.dp t<=n->n<=64->Rep K Z H m t v G->Has K H (th t) v/\(toD (th t)).canLay0=true/\(toD (th t)).depth<=n
 | .non,_,_,_,_,_,_,r=>⟨r,rfl,a0W _⟩
 | .bl _,_,_,_,_,_,_,r=>⟨r,rfl,a0W _⟩
 | .int _,_,_,_,_,_,_,r=>⟨r,rfl,a0W _⟩
 | .str x,_,_,_,_,_,_,r=>⟨r.1,by have h:=r.2; unfold M.sOk at h; rw [a0i] at h; exact h.1,a0W _⟩
 | .tup ts,m,v,G,n,hd,hn,⟨a,xs,e,q,l,r⟩=>by
  have hd':M.dps ts+1<=n:=hd
  match n,hd' with
  | n+1,hd' =>
   obtain ⟨h1,h2,h3⟩:=d0 (n:=n) (by omega) (by omega) r
   exact ⟨⟨a,xs,e,q,h1⟩,h2,a2x h3⟩
 | .lst ts,m,v,G,n,hd,hn,⟨a,xs,e,l,q,r⟩=>by
  have hd':M.dps ts+1<=n:=hd
  match n,hd' with
  | n+1,hd' =>
   obtain ⟨h1,h2,h3⟩:=d0 (n:=n) (by omega) (by omega) r
   exact ⟨⟨a,xs,e,by cases m<;>exact q.2,h1⟩,h2,a2x h3⟩
 | .dct _ _,_,_,_,_,hd,hn,_=>by have:1000<=64:=a0j hd hn; omega
 | .ins _ _ _,_,_,_,_,hd,hn,_=>by have:1000<=64:=a0j hd hn; omega
 | .gone,_,_,_,_,hd,hn,_=>by have:1000<=64:=a0j hd hn; omega
 | .scr _,_,_,_,_,hd,hn,_=>by have:1000<=64:=a0j hd hn; omega
theorem d0 {K:a0a}{Z:Fp}{H:Hp}:∀ {ts:List M.T} {m:M.Md} {xs:List V} {G:Fp} {n:Nat},M.dps ts<=n->n<=64->RepL K Z H m ts xs G->HasL K H (ths ts) xs/\PyData.canLayAll0 (cX (ths ts))=true/\PyData.depthAll (cX (ths ts))<=n
 | [],_,_,_,_,_,_,r=>⟨r,rfl,a0W _⟩
 | t::ts,m,xs,G,n,hd,hn,⟨x,r,G1,G2,e,_,_,_,p,q⟩=>by
  have hd':max (M.dp t) (M.dps ts)<=n:=hd
  obtain ⟨h1,h2,h3⟩:=fT (n:=n) (by omega) hn p
  obtain ⟨k1,k2,k3⟩:=d0 (n:=n) (by omega) hn q
  refine ⟨⟨x,r,e,h1,k1⟩,?_,?_⟩
  ·show ((toD (th t)).canLay0&&PyData.canLayAll0 (cX (ths ts)))=true
   rw [h2,k2]; rfl
  ·show max (toD (th t)).depth (PyData.depthAll (cX (ths ts)))<=n
   omega
end
mutual
theorem iX:∀ (t u:M.T),M.dp t<=64->M.dp u<=64->PyData.eqv (toD (th t)) (toD (th u))=M.eqT t u
 | .dct _ _,_,h,_=>by have:1000<=64:=h; omega
 | .ins _ _ _,_,h,_=>by have:1000<=64:=h; omega
 | .gone,_,h,_=>by have:1000<=64:=h; omega
 | .scr _,_,h,_=>by have:1000<=64:=h; omega
 | .non,u,_,h=>by cases u<;>first | rfl | (have:1000<=64:=h; omega)
 | .bl a,u,_,h=>by cases u<;>first | rfl | (cases a<;>rfl) | (have:1000<=64:=h; omega)
 | .int i,u,_,h=>by
  cases u with
  | bl b=>cases b<;>rfl
  | _=>first | rfl | (have:1000<=64:=h; omega)
 | .str x,u,_,h=>by cases u<;>first | rfl | (have:1000<=64:=h; omega)
 | .tup ts,u,h1,h=>by
  cases u with
  | tup us=>exact fS ts us (by have:M.dps ts+1<=64:=h1; omega) (by have:M.dps us+1<=64:=h; omega)
  | _=>first | rfl | (have:1000<=64:=h; omega)
 | .lst ts,u,h1,h=>by
  cases u with
  | lst us=>exact fS ts us (by have:M.dps ts+1<=64:=h1; omega) (by have:M.dps us+1<=64:=h; omega)
  | _=>first | rfl | (have:1000<=64:=h; omega)
theorem fS:∀ (ts us:List M.T),M.dps ts<=64->M.dps us<=64->PyData.eqvAll (cX (ths ts)) (cX (ths us))=M.eqTs ts us
 | [],[],_,_=>rfl
 | [],_::_,_,_=>rfl
 | _::_,[],_,_=>rfl
 | t::ts,u::us,h1,h2=>by
  have h1':max (M.dp t) (M.dps ts)<=64:=h1
  have h2':max (M.dp u) (M.dps us)<=64:=h2
  show (PyData.eqv (toD (th t)) (toD (th u))&&PyData.eqvAll (cX (ths ts)) (cX (ths us)))=(M.eqT t u&&M.eqTs ts us)
  rw [iX t u (by omega) (by omega),fS ts us (by omega) (by omega)]
end
theorem fZ {K:a0a}{Z:Fp}{H:Hp}{t:M.T}{m:M.Md}{v:V}{G:Fp}(hd:M.dp t<=64)(r:Rep K Z H m t v G):Has K H (th t) v/\f6 (th t):=by
 obtain ⟨h1,h2,h3⟩:=fT hd (a0b _) r
 refine ⟨h1,?_⟩
 show ((toD (th t)).canLay0&&decide ((toD (th t)).depth<=64))=true
 rw [h2,decide_eq_true h3]; rfl
theorem nu {K:a0a}:Loc K 2 .eq h fun xs H Q=>∀ x y,xs=[x,y]->∃ t t',Has K H t x/\Has K H t' y/\f6 t/\f6 t'/\Q (.bl (PyData.eqv (toD t) (toD t'))) H:=by
 intro ws w xs Z H G Q hn e r ow za k x y hx
 subst hx
 obtain ⟨⟨m,a⟩,⟨n,b⟩,rfl⟩:=dM r.length.symm
 obtain ⟨G1,G2,w1,w2,d,r1,r2⟩:=b8 r
 have e':(if decide (M.dp a<=64)&&decide (M.dp b<=64) then some ((.d,.bl (M.eqT a b)):M.W) else none)=some w:=e
 split at e'
 ·rename_i hc
  rw [a0i,decide_eq_true_eq,decide_eq_true_eq] at hc
  cases e'
  obtain ⟨h1,o1⟩:=fZ hc.1 r1
  obtain ⟨h2,o2⟩:=fZ hc.2 r2
  refine ⟨th a,th b,h1,h2,o1,o2,?_⟩
  rw [iX a b hc.1 hc.2]
  exact bf k
 ·cases e'
theorem rV {K:a0a}:Loc K 2 .ne h fun xs H Q=>∀ x y,xs=[x,y]->∃ t t',Has K H t x/\Has K H t' y/\f6 t/\f6 t'/\Q (.bl (!PyData.eqv (toD t) (toD t'))) H:=by
 intro ws w xs Z H G Q hn e r ow za k x y hx
 subst hx
 obtain ⟨⟨m,a⟩,⟨n,b⟩,rfl⟩:=dM r.length.symm
 obtain ⟨G1,G2,w1,w2,d,r1,r2⟩:=b8 r
 have e':(if decide (M.dp a<=64)&&decide (M.dp b<=64) then some ((.d,.bl (!M.eqT a b)):M.W) else none)=some w:=e
 split at e'
 ·rename_i hc
  rw [a0i,decide_eq_true_eq,decide_eq_true_eq] at hc
  cases e'
  obtain ⟨h1,o1⟩:=fZ hc.1 r1
  obtain ⟨h2,o2⟩:=fZ hc.2 r2
  refine ⟨th a,th b,h1,h2,o1,o2,?_⟩
  rw [iX a b hc.1 hc.2]
  exact bf k
 ·cases e'
theorem sEq (hr:Room n X.A)(ha:SE X sf C ea a)(hb:SE X sf C eb b):SE X sf C (.Compare ea [.Eq] [eb] pos) (.op .eq h [a,b]):=aA (jw (jt hr.units) ha hb (cn _)) (aO nu)
theorem ifN {α:Type}{b:Bool}{x:Option α}{y:α}(h:(if b=true then none else x)=some y):b=false/\x=some y:=by cases b<;>first | exact ⟨rfl,h⟩ | cases h
theorem i5 {K:a0a}{Z:Fp}{H:Hp}{G:Fp}{m:M.Md}{ts:List M.T}{xs:List V}(lo hi:Option Int)(r:RepL K Z H m ts xs G):RepL K Z H m (M.cut ts lo hi) (de xs lo hi) G:=by
 have e:=r.length
 have hs:∀ n d o,HT.sIx n d o=M.sIx n d o:=fun n d o=>by cases o<;>rfl
 have hc:de xs lo hi=(xs.drop (M.sIx ts.length 0 lo)).take (M.sIx ts.length ts.length hi-M.sIx ts.length 0 lo):=by
  unfold de
  rw [hs,hs,e]
 rw [hc]
 exact (r.drop _).take _
theorem nr (ns:List Int)(lo hi:Option Int):de (ns.map V.int) lo hi=(M.cut ns lo hi).map V.int:=by
 have hs:∀ n d o,HT.sIx n d o=M.sIx n d o:=fun n d o=>by cases o<;>rfl
 unfold de M.cut
 rw [hs,hs,a0d,List.map_take,List.map_drop]
theorem t6 {α:Type}(xs:List α)(lo hi:Option Int):(M.cut xs lo hi).length<=xs.length:=by
 unfold M.cut
 rw [a1d,a02]; omega
theorem my {K:a0a}{Z:Fp}{H:Hp}{G G1:Fp}{Q:VK}{m:M.Md}{a:M.T}{x:V}{w:M.W}{lo hi:Option Int}(hg:∀ b,G1 b->G b)(ow:Own Z H G)(za:∀ a,Z a->H a≠none)(r:Rep K Z H m a x G1)
  (e:(match a with | .lst ts=>M.newL h m.kid (M.cut ts lo hi) | .tup ts=>some ((.s,.tup (M.cut ts lo hi)):M.W) | .scr ns=>some (.d,.lst ((M.cut ns lo hi).map M.T.int)) | _=>none)=some w) (k:Out K Z H G w Q):qD K x lo hi H Q\/oA K x lo hi H Q:=by
 cases a with
 | lst ts =>
  obtain ⟨p,xs,rfl,hs,hl,q⟩:=aW r
  refine .inl ⟨p,xs,rfl,.inl (.inl hs),fun l hl'=>?_⟩
  exact cw ow za (a0j (bD xs lo hi) hl) ⟨G1,hg,(i5 lo hi q).zmono fun _ z=>.inl z⟩ e k hl'
 | tup ts =>
  obtain ⟨p,xs,rfl,hs,hl,q⟩:=b7 r
  cases e
  refine .inr ⟨p,xs,rfl,hs,fun v H' same hv=>?_⟩
  exact gC (m:=.s) (G':=no) ow (fun _ z=>z.elim) (a0j (bD xs lo hi) hl) ((RepL.sh (i5 lo hi q)).zmono fun b hb=>hb.imp id fun z=>⟨hg b z,fun q=>q⟩) k same hv
 | scr ns =>
  obtain ⟨p,rfl,hL,hs⟩:=r
  cases e
  refine .inl ⟨p,_,rfl,hs.sq,fun l hl'=>?_⟩
  rw [nr]
  exact bC (m:=.d) (G':=no) ow za (fun _ z=>z.elim) (by rw [a0d]; exact a0j (t6 ns lo hi) hL) (iD _) (by simp) k hl'
 | _=>cases e
theorem tN {p3:Pos}(ha:SE X sf C ea a)(hb:SE X sf C eb b):SE X sf C (.Subscript ea (.Slice none (some eb) none p3) pos) (.op .sl2 h [a,b]) :=
 aA (gB (sl_list.or jm) ha i8 (jk hb)) (fun σ H Q hw=>aO (r:=fun x y H Q=>∃ i,y=.int i/\(qD X.K x none (some i) H Q\/oA X.K x none (some i) H Q)) (by
  intro ws w xs Z H G Q hn e r ow za k x y hx
  subst hx
  obtain ⟨⟨m,a⟩,⟨n,b⟩,rfl⟩:=dM r.length.symm
  obtain ⟨G1,G2,w1,w2,d,r1,r2⟩:=b8 r
  cases b with
  | int i=>exact ⟨i,r2,my (h:=h) (lo:=none) (hi:=some i) w1 ow za r1 (by cases a<;>exact e) k⟩
  | _=>cases a<;>cases e) σ H Q hw)
theorem xo {p3:Pos}(ha:SE X sf C ea a)(hb:SE X sf C eb b):SE X sf C (.Subscript ea (.Slice (some eb) none none p3) pos) (.op .sl1 h [a,b]) :=
 aA (gB (sl_list.or jm) ha (jk hb) i8) (fun σ H Q hw=>aO (r:=fun x y H Q=>∃ i,y=.int i/\(qD X.K x (some i) none H Q\/oA X.K x (some i) none H Q)) (by
  intro ws w xs Z H G Q hn e r ow za k x y hx
  subst hx
  obtain ⟨⟨m,a⟩,⟨n,b⟩,rfl⟩:=dM r.length.symm
  obtain ⟨G1,G2,w1,w2,d,r1,r2⟩:=b8 r
  cases b with
  | int i=>exact ⟨i,r2,my (h:=h) (lo:=some i) (hi:=none) w1 ow za r1 (by cases a<;>exact e) k⟩
  | _=>cases a<;>cases e) σ H Q hw)
theorem lO {K:a0a}:Loc K 1 .len h fun xs H Q=>∃ x n,xs=[x]/\wq K x H n/\Q (.int n) H:=by
 intro ws w xs Z H G Q hn e r ow za k
 obtain ⟨x,n,hx,hm,q⟩:=pY (h:=h) ws w xs Z H G Q hn e r ow za k
 exact ⟨x,n,hx,by cases x<;>exact hm,q⟩
section
variable {p:Pos}{x1:Str}
theorem cG (hm:X.mg "len"=none)(hg:Gl X "len":=by rfl)(ha:SE X sf C ea a)(hs:starEach [ea] X.env=(false,eval ea X.env)::starEach [] X.env:=by rfl)(hpl:(backTo pos (starEach [] X.env)).any (·.1)=false:=by rfl):SE X sf C (.Call (.Name "len" p) [ea] [] pos) (.op .len h [a]) :=
 aA (bJ ll hg hm PySem.boot_len (slc ha sl0 hs) (by decide) (by decide) hs hpl) (fk lO rfl)
theorem w6 (hc:X.calm=true:=by rfl)(hm:X.mg "sum"=none)(hg:Gl X "sum":=by rfl)(ha:SE X sf C ea a)(hs:starEach [ea] X.env=(false,eval ea X.env)::starEach [] X.env:=by rfl)(hpl:(backTo pos (starEach [] X.env)).any (·.1)=false:=by rfl):SE X sf C (.Call (.Name "sum" p) [ea] [] pos) (.op .sum h [a]) :=
 aA (bJ (kq hc) hg hm (by rfl) (slc ha sl0 hs) (by decide) (by decide) hs hpl) (fk pD rfl)
theorem mD (hc:X.calm=true:=by rfl)(hm:X.mg "all"=none)(hg:Gl X "all":=by rfl)(ha:SE X sf C ea a)(hs:starEach [ea] X.env=(false,eval ea X.env)::starEach [] X.env:=by rfl)(hpl:(backTo pos (starEach [] X.env)).any (·.1)=false:=by rfl):SE X sf C (.Call (.Name "all" p) [ea] [] pos) (.op .all h [a]) :=
 aA (bJ (kd hc) hg hm (by rfl) (slc ha sl0 hs) (by decide) (by decide) hs hpl) (fk pT rfl)
theorem jv (hm:X.mg "list"=none)(hg:Gl X "list":=by rfl)(ha:SE X sf C ea a)(hs:starEach [ea] X.env=(false,eval ea X.env)::starEach [] X.env:=by rfl)(hpl:(backTo pos (starEach [] X.env)).any (·.1)=false:=by rfl):SE X sf C (.Call (.Name "list" p) [ea] [] pos) (.op .list h [a]) :=
 aA (fA fC hg hm a0O (slc ha sl0 hs) (by decide) (by decide) hs hpl) (fk m8 rfl)
end
theorem i7 {K:a0a}{x:V}{H:Hp}{k:Bool}(h:TrV K x H k):qN K x H k:=by
 cases x with
 | ref p=>exact h.imp id .inl
 | byt _=>exact h.elim
 | _=>exact h
theorem tB (ha:SE X sf C ea a)(he:∀ whole,isTrue ea X.env whole=(do let v <- whole; standAt ea.pos; holding [v] (truthy v)):=by intro _; rfl):SB X sf C ea a :=
 ma (mz ha he) fun σ H Q h=>by
  obtain ⟨pv,Z,Fs,η,w,η',b,A,ev,ht,k⟩:=h
  exact ⟨pv,Z,Fs,η,w,η',A,ev,fun v Z' H' Fs' G B r s=>⟨b,i7 (fz ht r),k Z' H' Fs' B.bare (s.mono (fun _ z=>z) fun _ z=>.inl z)⟩⟩
theorem cy (ha:SB X sf C ea a):SB X sf C (.UnaryOp .Not ea pos) (.not a):=ma (tK ha) uX
theorem wN {σ:L2.St}{H:Hp}{Q:Bool->Hp->Prop}(hb:∀ η w η',M.evE C a η=.ok (w,η')->∃ b,w.2=.bl b)(h:wT X.K sf C a σ H Q):rf (wE X.K sf C a) σ H Q:=by
 obtain ⟨pv,Z,Fs,η,w,η',b,A,ev,ht,k⟩:=h
 refine ⟨pv,Z,Fs,η,w,η',A,ev,fun v Z' H' Fs' G B r s=>⟨b,?_,k Z' H' Fs' B.bare (s.mono (fun _ z=>z) fun _ z=>.inl z)⟩⟩
 obtain ⟨b',hb'⟩:=hb _ _ _ ev
 rw [hb'] at ht r
 cases ht
 exact r
theorem yC {o:M.Op}(ho:∀ u v w,M.oSem o h [u,v]=some w->∃ b,w.2=.bl b):∀ η w η',M.evE C (.op o h [a,b]) η=.ok (w,η')->∃ b,w.2=.bl b:=fun η w η' e=>by
 obtain ⟨ws,h1,h2⟩:=cN e
 obtain ⟨u,η1,us,_,e2,rfl⟩:=aN h1
 obtain ⟨v,η2,us,_,e4,rfl⟩:=aN e2
 cases e4
 exact ho u v w h2
theorem bW {op:CmpOp}{r:R2}{o:M.Op}(ho:OpR X (compareOp op) r)(ha:SE X sf C ea a)(hb:SE X sf C eb b)(hm:behindInMarks op eb=false)(hl:∀ σ H Q,wE X.K sf C (.op o h [a,b]) σ H Q->tOp r (wE X.K sf C a) (wE X.K sf C b) σ H Q)
  (hbl:∀ u v w,M.oSem o h [u,v]=some w->∃ b,w.2=.bl b):SB X sf C (.Compare ea [op] [eb] pos) (.op o h [a,b]) :=
 ma (oj ho ha hb hm) fun σ H Q hw=>hl σ H _ (wN (yC hbl) hw)
theorem yc {u v w:M.W}(e:M.oSem .eq h [u,v]=some w):∃ b,w.2=.bl b:=by
 obtain ⟨m,a⟩:=u; obtain ⟨n,b⟩:=v
 have e':(if decide (M.dp a<=64)&&decide (M.dp b<=64) then some ((.d,.bl (M.eqT a b)):M.W) else none)=some w:=e
 split at e'
 ·cases e'; exact ⟨_,rfl⟩
 ·cases e'
theorem xp {u v w:M.W}(e:M.oSem .ne h [u,v]=some w):∃ b,w.2=.bl b:=by
 obtain ⟨m,a⟩:=u; obtain ⟨n,b⟩:=v
 have e':(if decide (M.dp a<=64)&&decide (M.dp b<=64) then some ((.d,.bl (!M.eqT a b)):M.W) else none)=some w:=e
 split at e'
 ·cases e'; exact ⟨_,rfl⟩
 ·cases e'
theorem oq (ha:SE X sf C ea a)(hb:SE X sf C eb b):SB X sf C (.Compare ea [.Lt] [eb] pos) (.op .lt h [a,b]):=bW wB ha hb (cn _) (aO tM) fun u v w e=>by obtain ⟨_,_,_,_,_,_,rfl⟩:=mx e; exact ⟨_,rfl⟩
theorem nT (ha:SE X sf C ea a)(hb:SE X sf C eb b):SB X sf C (.Compare ea [.Gt] [eb] pos) (.op .gt h [a,b]):=bW ya ha hb (cn _) (aO rN) fun u v w e=>by obtain ⟨_,_,_,_,_,_,rfl⟩:=lM e; exact ⟨_,rfl⟩
theorem yY (ha:SE X sf C ea a)(hb:SE X sf C eb b):SB X sf C (.Compare ea [.GtE] [eb] pos) (.op .ge h [a,b]):=bW wx ha hb (cn _) (aO sE) fun u v w e=>by obtain ⟨_,_,_,_,_,_,rfl⟩:=lZ e; exact ⟨_,rfl⟩
theorem bK (hr:Room n X.A)(ha:SE X sf C ea a)(hb:SE X sf C eb b):SB X sf C (.Compare ea [.Eq] [eb] pos) (.op .eq h [a,b]):=bW (jt hr.units) ha hb (cn _) (aO nu) fun u v w e=>yc e
theorem qq (hr:Room n X.A)(ha:SE X sf C ea a)(hb:SE X sf C eb b):SB X sf C (.Compare ea [.NotEq] [eb] pos) (.op .ne h [a,b]):=bW (qj hr.units) ha hb (cn _) (aO rV) fun u v w e=>xp e
noncomputable abbrev SW (X:Cx)(sf:Nat->Option Nat)(C:M.Call)(me:Expr)(e:M.E):Prop:=PW X me (wT X.K sf C e)
theorem wA1 (ha:SB X sf C ea a):SW X sf C (.BoolOp .And [ea] pos) a:=oi ha
theorem wO1 (ha:SB X sf C ea a):SW X sf C (.BoolOp .Or [ea] pos) a:=vt ha
theorem iW {rest:List Expr}(ha:SB X sf C ea a)(hb:SW X sf C (.BoolOp .And (eb::rest) pos) b):SW X sf C (.BoolOp .And (ea::eb::rest) pos) (.and a b):=qS (uF ha hb) u7
theorem wOr {rest:List Expr}(ha:SB X sf C ea a)(hb:SW X sf C (.BoolOp .Or (eb::rest) pos) b):SW X sf C (.BoolOp .Or (ea::eb::rest) pos) (.or a b):=qS (yy ha hb) w5
theorem tW (h:SW X sf C ea a):SB X sf C ea a:=h.pt
theorem fN {tg:Expr}(ha:SE X sf C ea a):PI X tg ea (wI X.K sf C 1 .seq [a]):=qZ (xV (oM ha) (uV ha)) uC
theorem td {tg:Expr}{p:Pos}(hm:X.mg "range"=none)(hg:Gl X "range":=by rfl)(ha:SE X sf C ea a)(hs:starEach [ea] X.env=[(false,eval ea X.env)]:=by rfl):PI X tg (.Call (.Name "range" p) [ea] [] pos) (wI X.K sf C 1 .rng [a]):=qZ (kc hg hm (slc ha sl0 hs) hs) pw
noncomputable def lkN:List Nat->Nat->Nat->Option Nat
 | [],_,_=>none
 | t::ts,n,i=>if i=t then some n else lkN ts (n+1) i
theorem jI:∀ {l:List Nat} {n i j:Nat},lkN l n i=some j->∃ k,l[k]?=some i/\j=n+k/\i ∉ l.take k
 | [],_,_,_,h=>by cases h
 | t::ts,n,i,j,h=>by
  have h':(if i=t then some n else lkN ts (n+1) i)=some j:=h
  split at h'
  ·rename_i e; cases h'; exact ⟨0,by rw [e]; rfl,rfl,by simp⟩
  ·rename_i e
   obtain ⟨k,h1,h2,h3⟩:=jI h'
   exact ⟨k+1,h1,by omega,by rw [a2a,a0v]; exact fun z=>z.elim e h3⟩
noncomputable def inF (tg ls:List Nat):Nat->Option Nat:=lkN (tg++ls) 0
theorem gK {tg ls is:List Nat}(h:ls.map sf=is.map some):eU sf (inF tg ls) tg is:=fun i j hj=>by
 obtain ⟨k,h1,h2,h3⟩:=jI (show lkN (tg++ls) 0 i=some j from hj)
 rw [a01] at h2
 subst h2
 by_cases hk:j < tg.length
 ·rw [a0D hk] at h1
  exact .inl ⟨j,h1,rfl⟩
 ·have hk':tg.length<=j:=a2u hk
  rw [a0H hk'] at h1
  refine .inr ⟨fun hi=>h3 ?_,?_⟩
  ·rw [List.take_append,a03 hk']
   exact a0U _ hi
  ·have e1:(ls.map sf)[j-tg.length]?=some (sf i):=by rw [a0t,h1]; rfl
   rw [h,a0t] at e1
   cases e2:is[j-tg.length]? with
   | none=>rw [e2] at e1; cases e1
   | some j0 =>
    rw [e2] at e1
    exact ⟨j-tg.length,j0,by omega,e2,(a0p e1).symm⟩
theorem wW {x:Str}{px:Pos}{ys:List Str}{scope:Scope}{cl:List (Str×Addr)}(S:aJ [x] ys scope)(Ca:Addr)(s:Shared)(H:Hp)(fp:List Addr):PG (aw X ([x]++ys) scope cl Ca s H fp) (.Name x px) (gT X.K 1) :=
 jH (X:=aw X ([x]++ys) scope cl Ca s H fp) (i:=0) (x:=x) (pos:=px) S.nd rfl (.inl (lookup_relabel_local (S.loc x (by simp)))) (.inr (lookup_relabel_local (S.loc x (by simp))))
end
end MR

namespace MR
open PySem PySem.Spec PyProof.Rows L2 L3
section
variable {X:Cx}{sf sg:Nat->Option Nat}{C:M.Call}{pos p2:Pos}{ea eb ec:Expr}{a b c:M.E}{h:Bool}{n:Nat}{io:List Nat}
section
variable {elt iter cnd:Expr}{x y:Str}{px py pt:Pos}{kt:Nat}{scope:Scope}{cl:List (Str×Addr)}{ys:List Str}{tg ls is:List Nat}{k:M.Ik}{src:List M.E}{e cd:M.E}
theorem sC1 (ls:List Nat)(is:List Nat)(cl:List (Str×Addr))(ys:List Str){t:Nat}(hi:PI X (.Name x px) iter (wI X.K sf C 1 k src))(he:∀ Ca s H fp,SE (aw X ([x]++ys) scope cl Ca s H fp) (inF [t] ls) C elt e)
  (S:aJ [x] ys scope) (hcl:Clo X cl) (fr:Frees X scope cl ys is) (hc:X.calm=true:=by rfl) (hl:ls.map sf=is.map some:=by rfl)
  (hclos:closureFor scope X.env=pure cl:=by with_unfolding_all rfl) (hfr:(scope.names.all fun p=>p.2 != .free || (cl.lookup p.1).isSome)=true:=by rfl)
  (hs:∀ v,foldedSetIterable iter X.env v=pure v:=by intro _; rfl):SE X sf C (.ListComp elt [⟨.Name x px,iter,[],0⟩] scope pos) (.comp h k src [t] none e) :=
 aA (jN (pre:=[x]) hc hi (wW S) (fun Ca s H fp=>he Ca s H fp) hclos S hcl hfr fr hs) (iz rfl (by simp) (gK hl))
end
noncomputable def spS (K:a0a)(C:M.Call)(f:Nat)(io:List Nat):Sp:=fun vs H Q _=>spC K C f io vs H Q
theorem sa0:SA X sf C [] []:=gI dB uj
theorem sac {es:List Expr}{bs:List M.E}(ha:SE X sf C ea a)(hb:SA X sf C es bs)(he:∀ i,a≠.io i:=by intro _ z; cases z)(hs:starEach (ea::es) X.env=(false,eval ea X.env)::starEach es X.env:=by rfl):SA X sf C (ea::es) (a::bs):=gI (a9 ha hb hs) (ny he)
theorem sai (j:Nat){i:Nat}{x:Str}{es:List Expr}{bs:List M.E}(hb:SA X sf C es bs)(hs:sf i=some j:=by rfl)(hN:X.N[j]?=some x:=by rfl)(hv:Vis X.env.scope x:=by first | exact a0B rfl | exact a0u (a0B rfl) | exact a0u (a0u rfl))(hd:(x==("__debug__":Str))=false:=by decide)
  (hcd:(x==("__classdict__":Str))=false:=by decide) (hst:starEach (.Name x pos::es) X.env=(false,eval (.Name x pos) X.env)::starEach es X.env:=by rfl):SA X sf C (.Name x pos::es) (.io i::bs):=gI (a9 (cf hN hv hd hcd) hb hst) (jX hs)
noncomputable def ae (P:Program)(w:World)(K:a0a)(mg:Str->Option Value)(base:Heap)(n:Nat)(C:M.Call)(x:Str)(f:Nat)(io:List Nat):Prop :=
 ∃ fa fd ps,bI P w K mg base CX0 n fa fd ps (spS K C f io)/\mg x=some (.ref fa)/\a00 K (.ref fa)=true/\Binds K fd ps []
theorem ah {x:Str}{p:Pos}{f:Nat}{es:List Expr}{bs:List M.E}(c:ae X.prog X.w X.K X.mg X.base n C x f io)(hr:Room n X.A)(ha:SA X sf C (ea::es) bs)(hio:dE bs 0=io\/M.ios bs=[]:=by first | exact .inl rfl | exact .inr rfl)(hg:Gl X x:=by rfl)(hdb:(x==("__debug__":Str))=false:=by decide)
  (he:starEach (ea::es) X.env=(false,eval ea X.env)::starEach es X.env:=by rfl) (hpl:(backTo pos (starEach es X.env)).any (·.1)=false:=by rfl):SE X sf C (.Call (.Name x p) (ea::es) [] pos) (.call f bs):=by
 obtain ⟨fa,fd,ps,F,hm,hk,hb⟩:=c
 refine aA (jC (E:=E0) F hr hg hm hk hb .nil rk ha hdb he hpl) fun σ H Q hw=>?_
 have h2:=jB hio σ H Q hw
 obtain ⟨pv,Z,Fs,η,ws,η',A,ev,k⟩:=h2
 exact ⟨pv,Z,Fs,η,ws,η',A,ev,fun vs Z' H' Fs' G B r s hv=>by show spS X.K C f io (vs++[]) H' Q E0; rw [a0L]; exact k vs Z' H' Fs' G B r s hv⟩
theorem ss0:SSs X sf io C [] []:=iI pZ qy
theorem ss1 {s:Stmt}{t:M.S}(hs:SS X sf io C s t):SSs X sf io C [s] [t]:=iI (nQ hs) qh
theorem ssc {s:Stmt}{t:M.S}{r:List Stmt}{u:List M.S}(hs:SS X sf io C s t)(hr:SSs X sf io C r u):SSs X sf io C (s::r) (t::u):=iI (k8 hs hr) nO
theorem aV (j:Nat){i:Nat}{x:Str}{xx:M.X}{pos':Pos}(hN:X.N.Nodup)(ha:SE X sf C ea a)(hi:i ∉ io:=by decide)(hs:sf i=some j:=by rfl)(hj:X.N[j]?=some x:=by rfl)(hx:L2.Loc X.env.scope x:=by first | exact a0B rfl | exact a0u rfl)
  (hsw:swapsWith ea (some (.Name x pos')) pos.line X.env=pure false:=by rfl) (hf:X.fn x=true\/X.env.scope.names.lookup x=some .local:=by first | exact .inl rfl | exact .inr rfl):SS X sf io C (.Assign [.Name x pos'] ea pos) (.asg xx i a):=ee (rX (i:=j) hN hj hx ha hsw hf) (ng hi hs)
theorem aD {vs:List Nat}(ha:SE X sf C ea a):SS X sf io C (.Return (some ea) pos) (.ret vs a):=ee (tG ha) uY
theorem zIf {xx:M.X}{r u:List Stmt}{s t:List M.S}(hc:SB X sf C ec c)(ha:SSs X sf io C r s)(hb:SSs X sf io C u t):SS X sf io C (.If ec r u pos) (.ite xx c s t):=ee (xK hc ha hb) vG
theorem q5 (j:Nat){t:Nat}{x:Str}{px:Pos}{iter:Expr}{r:List Stmt}{s:List M.S}{vs ls:List Nat}{k:M.Ik}{src:List M.E}(hN:X.N.Nodup)(hi:PI X (.Name x px) iter (wI X.K sf C 1 k src))(ha:SSs X sf io C r s)(hio:∀ u∈[t],u ∉ io:=by decide)(hjs:[t].map sf=[j].map some:=by rfl)(hj:X.N[j]?=some x:=by rfl)(hx:L2.Loc X.env.scope x:=by first | exact a0B rfl | exact a0u rfl)
  (hc:X.calm=true:=by rfl) (hp:PassesOwn (model X.prog X.w) X.A X.env X.xe:=by exact PassesOwn.never) (hf:X.fn x=true\/X.env.scope.names.lookup x=some .local:=by first | exact .inl rfl | exact .inr rfl) (hs:∀ x,foldedSetIterable iter X.env x=pure x:=by intro _; rfl):SS X sf io C (.For (.Name x px) iter r [] pos) (.forS vs ls k src [t] s) :=
 ee (uP hp hc hi (jH (i:=j) hN hj hx hf) ha hs) (sF rfl (by simp) hio hjs)
theorem zi (j:Nat){i:Nat}{x:Str}{xx:M.X}{apos cpos px:Pos}(ha:SE X sf C ea a)(hs:sf i=some j:=by rfl)(hN:X.N[j]?=some x:=by rfl)(hv:Vis X.env.scope x:=by first | exact a0B rfl | exact a0u (a0B rfl) | exact a0u (a0u rfl))(hd:(x==("__debug__":Str))=false:=by decide)(hcd:(x==("__classdict__":Str))=false:=by decide)
  (hbase:attributeBase (.Name x px) "extend" X.env (eval (.Name x px) X.env)=eval (.Name x px) X.env:=by rfl)
  (hfew:((backTo cpos (starEach [ea] X.env)).all (fun x=>!x.1)&&(backToKw cpos (keywordEach [] X.env)).all (fun x=>x.1.isSome)&&decide ([ea].length+([]:List Keyword).length+(if ([]:List Keyword).isEmpty then 0 else 1) < 30))=true:=by rfl)
  (hline:(apos.endLine==cpos.line)=true:=by rfl) (hst:starEach [ea] X.env=(false,eval ea X.env)::starEach [] X.env:=by rfl) (hplain:(backTo cpos (starEach [] X.env)).any (·.1)=false:=by rfl) (hsw:swapsWith (.Call (.Attribute (.Name x px) "extend" apos) [ea] [] cpos) none pos.line X.env=pure false:=by rfl) :
  SS X sf io C (.Expr (.Call (.Attribute (.Name x px) "extend" apos) [ea] [] cpos) pos) (.ext xx i a) :=
 ee (oT (vQ PySem.F.plainAttrs_list PySem.F.slot_list_extend PySem.F.type_list_extend kC (cf hN hv hd hcd) (a9 ha dB hst) hbase hfew hline hst hplain) hsw) fun D σ H hw=>by
  obtain ⟨p,xs,hj,hp,pv,Z,Fs,η,w,η',A,ev,k⟩:=ux hs D σ H hw
  refine ⟨.ref p,hj,.inl ⟨rfl,xs,.inl (.inl hp)⟩,pv,Z,Fs,η,w,η',A,ev,fun v Z' H' Fs' G B r s=>?_⟩
  obtain ⟨b,ys,zs,rfl,h1,h2,h3,h4⟩:=k v Z' H' Fs' G B r s
  exact ⟨p,b,ys,zs,rfl,rfl,h1,h2,h3,h4⟩
theorem jZ (j:Nat){i:Nat}{x:Str}{xx:M.X}{px ps:Pos}(ha:SE X sf C ea a)(hb:SE X sf C eb b)(hs:sf i=some j:=by rfl)(hN:X.N[j]?=some x:=by rfl)(hv:Vis X.env.scope x:=by first | exact a0B rfl | exact a0u (a0B rfl) | exact a0u (a0u rfl))(hd:(x==("__debug__":Str))=false:=by decide)(hcd:(x==("__classdict__":Str))=false:=by decide)
  (has:∀ v,assign (.Subscript (.Name x px) eb ps) X.env v=(do
   let ov <- holding [v] (eval (.Name x px) X.env)
   let iv <- holding [v,ov] (eval eb X.env)
   standAt ps
   holding [v,ov,iv] (setItem ov iv v)
   release [v,ov,iv] []):=by intro _; rfl)
  (h1:swapsWithSole [.Subscript (.Name x px) eb ps] ea pos.line X.env=pure false:=by rfl) (h2:swappedStores [.Subscript (.Name x px) eb ps] ea X.env=pure none:=by rfl) (h3:(assignEach [.Subscript (.Name x px) eb ps] X.env).map (·.2)=[assign (.Subscript (.Name x px) eb ps) X.env]:=by rfl) :
  SS X sf io C (.Assign [.Subscript (.Name x px) eb ps] ea pos) (.setI xx i b a) :=
 ee (rH ha (sZ (cf hN hv hd hcd) hb nH has) h1 h2 h3) fun D σ H hw=>by
  obtain ⟨pv,Z,Fs,η,w,η',A,ev,k⟩:=pB hs D σ H hw
  refine ⟨pv,Z,Fs,η,w,η',A,ev,fun v Z' H' Fs' G B r s=>?_⟩
  obtain ⟨o,ho,pv2,Z2,Fs2,η2,w2,η3,A2,ev2,k2⟩:=k v Z' H' Fs' G B r s
  refine ⟨o,ho,pv2,Z2,Fs2,η2,w2,η3,A2,ev2,fun z Z3 H3 Fs3 G3 B3 r3 s3=>?_⟩
  obtain ⟨q,xs,n,m,rfl,rfl,g1,g2,g3⟩:=k2 z Z3 H3 Fs3 G3 B3 r3 s3
  exact ⟨q,xs,n,m,rfl,rfl,g1,g2,g3⟩
end
end MR

namespace MR
open PySem PySem.Spec PyProof.Rows L2 L3
section
variable {K:a0a}{Z:Fp}{H:Hp}
theorem fP:∀ {ws:List M.W} {n i:Nat} {w:M.W},M.rd (ws.map some++a0f n none) i=some w->ws[i]?=some w
 | [],0,i,w,h=>by simp [M.rd] at h
 | [],n+1,0,w,h=>by simp [a0J,M.rd] at h
 | [],n+1,i+1,w,h=>by
  have:M.rd (([]:List M.W).map some++a0f n none) i=some w:=by simpa [a0J,M.rd] using h
  have:=fP this
  simp at this
 | u::ws,n,0,w,h=>by simpa [M.rd] using h
 | u::ws,n,i+1,w,h=>by
  have:M.rd (ws.map some++a0f n none) i=some w:=by simpa [M.rd] using h
  simpa using fP this
theorem nq:∀ {ws:List M.W} {vs:List V} {G:Fp},RepW K Z H ws vs G->∃ Fs:Fps,(∀ i a,Fs i a->G a)/\(∀ i j a,Fs i a->Fs j a->i=j)/\∀ i w,ws[i]?=some w->∃ v,vs[i]?=some v/\Rep K Z H w.1 w.2 v (Fs i)
 | [],vs,G,_=>⟨fun _=>no,fun _ _ h=>h.elim,fun _ _ _ h=>h.elim,fun i w h=>by simp at h⟩
 | w::ws,vs,G,⟨x,r,G1,G2,e,h1,h2,hd,p,q⟩=>by
  obtain ⟨Fs,f1,f2,f3⟩:=nq q
  subst e
  refine ⟨fun i=>match i with | 0=>G1 | i+1=>Fs i,fun i a h=>?_,fun i j a hi hj=>?_,fun i u h=>?_⟩
  ·cases i with
   | zero=>exact h1 a h
   | succ i=>exact h2 a (f1 i a h)
  ·cases i with
   | zero =>
    cases j with
    | zero=>rfl
    | succ j=>exact absurd (f1 j a hj) (hd a hi)
   | succ i =>
    cases j with
    | zero=>exact absurd (f1 i a hi) (hd a hj)
    | succ j=>exact congrArg (·+1) (f2 i j a hi hj)
  ·cases i with
   | zero=>simp only [a1i,a1H] at h; subst h; exact ⟨x,rfl,p⟩
   | succ i=>simpa using f3 i u (by simpa using h)
noncomputable def slN (n:Nat):Nat->Option Nat:=fun i=>if i < n then some i else none
theorem bO {sl:Cf}{σ:L2.St}{Fs:Fps}{η:M.Env}{G:Fp}{vs:List V}(A:At K sl σ Z H Fs η G):∀ {io:List Nat} {bs:List M.W},io.Nodup->(∀ i∈io,sl.pv i=vs[i]?/\i < vs.length)->M.backs io η=some bs->RepW K Z H bs (atV io vs) (fun a=>∃ i∈io,Fs i a)
 | [],bs,_,_,h=>by
  simp only [M.backs,a1H] at h; subst h; rfl
 | i::io,bs,nd,hv,h=>by
  simp only [M.backs] at h
  cases e:M.rd η i with
  | none=>rw [e] at h; cases h
  | some w =>
   rw [e] at h
   simp only [a2y] at h
   cases e2:M.backs io η with
   | none=>rw [e2] at h; cases h
   | some ws =>
    rw [e2] at h
    simp only [a2y,a1H] at h
    subst h
    obtain ⟨v,r,_,hp⟩:=A.env i w.1 w.2 e
    have hi:=hv i a0g
    obtain ⟨u,hu⟩:∃ u,vs[i]?=some u:=⟨vs[i]'hi.2,a0q hi.2⟩
    have:=hp u (hi.1.trans hu)
    subst this
    refine ⟨v,atV io vs,Fs i,fun a=>∃ j∈io,Fs j a,?_,fun a h=>⟨i,a0g,h⟩,fun a ⟨j,hj,h⟩=>⟨j,a0c _ hj,h⟩,fun a h ⟨j,hj,h'⟩=>?_,r,bO A (a04.mp nd).2 (fun j hj=>hv j (a0c _ hj)) e2⟩
    ·rw [atV,a0P,hu]; rfl
    ·exact (a04.mp nd).1 (A.gd.dis i j a h h' ▸ hj)
end
section
variable {P:Program}{w:World}{K:a0a}{mg:Str->Option Value}{base:Heap}
theorem ij {Z:Fp}{H:Hp}{ws:List M.W}{vs:List V}{G:Fp}{N:List Str}{n:Nat}{io:List Nat}(r:RepW K Z H ws vs G)(o:Own Z H G)(z:∀ a,Z a->H a≠none)(hl:vs.length<=N.length) :
  ∃ Fs,(∀ a,tot Fs a->G a)/\At K ⟨slN N.length,fun i=>if i∈io then vs[i]? else none⟩ (L2.start N vs) Z H Fs (ws.map some++a0f n none) no:=by
 obtain ⟨Fs,f1,f2,f3⟩:=nq r
 have st:∀ i v,vs[i]?=some v->(L2.start N vs)[i]?=some (some v):=fun i v h=>by
  have hi:=(a0o.mp h).1
  rw [L2.start,a0D (by simpa using hi),a0t,h]; rfl
 refine ⟨Fs,fun a ⟨i,h⟩=>f1 i a h,⟨⟨fun a ⟨i,h⟩=>o a (f1 i a h),f2,z⟩,fun i m t e=>?_,fun a h=>h.elim,fun a h=>h.elim,fun i u j hu hj=>?_,fun i j hj=>?_⟩⟩
 ·obtain ⟨v,hv,rp⟩:=f3 i (m,t) (fP e)
  refine ⟨v,rp,fun j hj=>?_,fun u hu=>?_⟩
  ·simp only [slN] at hj
   split at hj
   ·cases hj; exact st i v hv
   ·cases hj
  ·simp only at hu
   split at hu
   ·rw [hv] at hu; cases hu; rfl
   ·cases hu
 ·simp only at hu
  simp only [slN] at hj
  split at hj
  ·cases hj
   split at hu
   ·exact st i u hu
   ·cases hu
  ·cases hj
 ·simp only [slN] at hj
  split at hj
  ·cases hj
   rename_i h
   rw [L2.start,a0m,a0d,a0G]; omega
  ·cases hj
theorem Fun.okM {x qual:Str}{st:Stmt}{f:Addr}{fd:FuncData}{N ps:List Str}{k:Nat}{C:M.Call}{d:M.Fn}(F:L2.Fun K x qual st f fd)(S:ao N ps (defScope st))(hps:d.ps=ps.length)(hle:ps.length<=N.length)(nd:d.io.Nodup)(hio:∀ i∈d.io,i < ps.length)
  (hbody:∀ (cdv:Value) (A:Around) (outer:List Env) (s:Shared) (H:Hp) (E:XK),Room k (A.deeper (envOfC qual (defScope st) s.heap.objs.size f cdv)) ->
   SSs (dk CX0 P w K mg base N qual (defScope st) f cdv A outer s H E).nox (slN N.length) d.io C (defBody st) d.body) {g:Nat} {C':M.Call} (hC:∀ ws,C' g ws=M.runF C d ws):bI P w K mg base CX0 (k+1) f fd ps (spS K C' g d.io):=by
 have len:∀ vs H Q E,spS K C' g d.io vs H Q E->vs.length=ps.length:=fun vs H Q E ⟨Z,ws,G,w,bs,r,_,_,hr,_⟩=>by
  rw [hC] at hr
  unfold M.runF at hr
  split at hr
  ·rename_i h; rw [r.length,h,hps]
  ·cases hr
 refine F.ok S len fun cdv A outer s H vs Q E hr h=>⟨_,hbody cdv A outer s H E hr,?_⟩
 have hlen:=len vs H Q E h
 obtain ⟨Z,ws,G,w,bs,r,o,z,hc,q⟩:=h
 rw [hC] at hc
 have hwl:ws.length=d.ps:=by rw [<- r.length,hlen,hps]
 rw [M.x_run _ _ _ hwl] at hc
 obtain ⟨Fs,ft,A0⟩:=ij (n:=d.ns) (io:=d.io) r o z (N:=N) (by omega)
 refine ⟨_,Z,Fs,_,⟨fun i i' j h h'=>?_,fun i h=>if_neg h⟩,A0,?_⟩
 ·simp only [slN] at h h'
  split at h
  ·split at h'
   ·cases h; cases h'; rfl
   ·cases h'
  ·cases h
 have hv:∀ i∈d.io,(if i∈d.io then vs[i]? else none)=vs[i]?/\i < vs.length:=fun i hi=>⟨if_pos hi,hlen ▸ hio i hi⟩
 cases e:M.evSs C d.body (ws.map some++a0f d.ns none) with
 | nx η =>
  rw [e] at hc
  intro σ' Z' H' Fs' A' t
  simp only [M.Fl.out] at hc
  cases e2:M.backs d.io η with
  | none=>rw [e2] at hc; cases hc
  | some cs =>
   rw [e2] at hc
   cases hc
   refine q .non Z' H' no _ rfl (bO A' nd hv e2) (fun _ h=>h.elim) (fun a h=>h.elim (fun z=>z.elim) fun ⟨i,_,z⟩=>A'.gd.own a ⟨i,z⟩) (t.mono ft fun a h=>h.elim (fun z=>z.elim) fun ⟨i,_,z⟩=>⟨i,z⟩)
 | rt u η =>
  rw [e] at hc
  intro v σ' Z' H' Fs' G' A' rp t
  simp only [M.Fl.out] at hc
  cases e2:M.backs d.io η with
  | none=>rw [e2] at hc; cases hc
  | some cs =>
   rw [e2] at hc
   cases hc
   exact q v Z' H' G' _ rp (bO A' nd hv e2) (fun a h ⟨i,_,z⟩=>A'.dis a h ⟨i,z⟩) (fun a h=>h.elim (A'.own a) fun ⟨i,_,z⟩=>A'.gd.own a ⟨i,z⟩) (t.mono ft fun a h=>h.elim .inr fun ⟨i,_,z⟩=>.inl ⟨i,z⟩)
 | bk η=>rw [e] at hc; cases hc
 | ex c x η=>rw [e] at hc; cases hc
 | no=>rw [e] at hc; cases hc
end
end MR

namespace MR
open PySem PySem.Spec PyProof.Rows L2 L3
noncomputable def TopV (K:a0a)(H:Hp):Th->V->Prop
 | .tup _,x=>∃ a vs,x=.ref a/\SqT K H a vs
 | .lst _,x=>∃ a vs,x=.ref a/\SqL K H a vs
 | .non,x=>x=.non
 | .bl b,x=>x=.bl b
 | .int i,x=>x=.int i
 | .str z,x=>x=.str z
theorem lR {X:Cx}{c:String}(hc:c∈["tuple","str","bool","int","list"]):cI X (.builtin "isinstance") (fun xs H Q=>∃ x t,xs=[x,.ty c]/\TopV X.K H t x/\Q (.bl (isI c t)) H):=by
 intro pins s σ H xs us Q I r h
 obtain ⟨x,t,rfl,ht,q⟩:=h
 obtain ⟨u,w',rfl,ru,rw'⟩:=kJ r
 cases rw'
 have e:a0V X.K (.type t.ty) (.type c)=some (isI c t):=kit_type.trans (iA hc t)
 have fin:∀ tk,EP X pins σ Q (.bool (isI c t)) { s with toks:=tk }:=fun tk=>⟨.bl (isI c t),H,I.tok tk,rfl,q⟩
 cases t with
 | non =>
  obtain rfl:x=.non:=ht
  exact cF I ru .non e fin
 | bl b =>
  obtain rfl:x=.bl b:=ht
  exact cF I ru (.bl b) e fin
 | int i =>
  obtain rfl:x=.int i:=ht
  exact cF I ru (.int i) e fin
 | str z =>
  obtain rfl:x=.str z:=ht
  exact cF I ru (.str z) e fin
 | tup ts =>
  obtain ⟨a,vs,rfl,hS⟩:=ht
  cases ru
  obtain ⟨its,_,p,_⟩:=I.tuple hS
  obtain ⟨o,h1,h2,_⟩:=p
  exact a0C a1v I.kIn ⟨o,h1,h2⟩ e (fun z=>nomatch z) fin
 | lst ts =>
  obtain ⟨a,vs,rfl,hS⟩:=ht
  cases ru
  obtain ⟨its,_,p,_⟩:=I.list hS
  obtain ⟨o,n,h1,h2,_⟩:=p
  exact a0C a1l I.kIn ⟨o,h1,h2⟩ e (fun z=>nomatch z) fin
theorem qz {X:Cx}{c1 c2:String}(h1:c1∈["tuple","str","bool","int","list"])(h2:c2∈["tuple","str","bool","int","list"]) :
  cI X (.builtin "isinstance") (fun xs H Q=>∃ x t p,xs=[x,.ref p]/\SqT X.K H p [.ty c1,.ty c2]/\TopV X.K H t x/\Q (.bl (isI c1 t || isI c2 t)) H):=by
 intro pins s σ H xs us Q I r h
 obtain ⟨x,t,p,rfl,hp,ht,q⟩:=h
 obtain ⟨u,w',rfl,ru,rw'⟩:=kJ r
 cases rw'
 obtain ⟨its,rv,pt,_⟩:=I.tuple hp
 obtain ⟨y1,y2,rfl,r1,r2⟩:=kJ rv
 cases r1
 cases r2
 obtain ⟨⟨oc,od,odt,osl⟩,g1,g2,n,g3⟩:=pt
 have g2':oc=.type "tuple":=g2
 have g3':odt=.seq _ n:=g3
 subst g2' g3'
 have e1:a0V X.K (.type t.ty) (.type c1)=some (isI c1 t):=kit_type.trans (iA h1 t)
 have e2:a0V X.K (.type t.ty) (.type c2)=some (isI c2 t):=kit_type.trans (iA h2 t)
 have e:a15 X.K (.type t.ty) [.type c1,.type c2]=some (isI c1 t || isI c2 t):=by
  unfold a15
  rw [e1]
  cases isI c1 t with
  | true=>rfl
  | false =>
   unfold a15
   rw [e2]
   cases isI c2 t<;>rfl
 have fin:∀ tk,EP X pins σ Q (.bool (isI c1 t || isI c2 t)) { s with toks:=tk }:=fun tk=>⟨.bl _,H,I.tok tk,rfl,q⟩
 cases t with
 | non =>
  obtain rfl:x=.non:=ht
  cases ru
  exact a05 a2i I.kIn a1f g1 e (fun z=>nomatch z) fin
 | bl b =>
  obtain rfl:x=.bl b:=ht
  cases ru
  exact a05 a2j I.kIn a1f g1 e (fun z=>nomatch z) fin
 | int i =>
  obtain rfl:x=.int i:=ht
  obtain ⟨t,rfl⟩:=ru
  exact a05 a2r I.kIn a1f g1 e (fun z=>nomatch z) fin
 | str z =>
  obtain rfl:x=.str z:=ht
  obtain ⟨t,rfl⟩:=ru
  exact a05 a2s I.kIn a1f g1 e (fun z=>nomatch z) fin
 | tup ts =>
  obtain ⟨a,vs,rfl,hS⟩:=ht
  cases ru
  obtain ⟨its,_,⟨o,q1,q2,_⟩,_⟩:=I.tuple hS
  exact a05 a1v I.kIn ⟨o,q1,q2⟩ g1 e (fun z=>nomatch z) fin
 | lst ts =>
  obtain ⟨a,vs,rfl,hS⟩:=ht
  cases ru
  obtain ⟨its,_,⟨o,n,q1,q2,_⟩,_⟩:=I.list hS
  exact a05 a1l I.kIn ⟨o,q1,q2⟩ g1 e (fun z=>nomatch z) fin
noncomputable def thT:M.T->Th
 | .non=>.non | .bl b=>.bl b | .int i=>.int i | .str x=>.str x | .tup _=>.tup [] | .lst _=>.lst [] | .scr _=>.lst [] | .dct _ _=>.non | .ins _ _ _=>.non | .gone=>.non
theorem jD {K:a0a}{Z:Fp}{H:Hp}{t:M.T}{m:M.Md}{x:V}{G:Fp}(hg:t.isG=false)(r:Rep K Z H m t x G):TopV K H (thT t) x/\(thT t).ty=t.ty:=by
 cases t with
 | non=>exact ⟨r,rfl⟩
 | bl _=>exact ⟨r,rfl⟩
 | int _=>exact ⟨r,rfl⟩
 | str _=>exact ⟨r.1,rfl⟩
 | tup _=>obtain ⟨p,xs,e,q,_⟩:=r; exact ⟨⟨p,xs,e,q⟩,rfl⟩
 | lst _=>obtain ⟨p,xs,e,_,q,_⟩:=r; exact ⟨⟨p,xs,e,.inl (.inl (by cases m<;>exact q.2))⟩,rfl⟩
 | scr _=>obtain ⟨p,e,_,q⟩:=r; exact ⟨⟨p,_,e,q.sq⟩,rfl⟩
 | dct _ _=>cases hg
 | ins _ _ _=>exact r.elim
 | gone=>cases hg
theorem gq {t:Th}{u:M.T}{c:String}(h:t.ty=u.ty):isI c t=M.isOne c u:=by unfold isI M.isOne; rw [h]
section
variable {X:Cx}{sf sg:Nat->Option Nat}{C:M.Call}{pos p2 p3:Pos}{ea eb ec:Expr}{a b c:M.E}{h:Bool}{n:Nat}{io:List Nat}
theorem jJ {Z:Fp}{H H1:Hp}{G:Fp}(same:∀ a o,H a=some o->H1 a=some o):Step Z H G Z H1 G:=by
 have al:∀ a,H a≠none->H1 a≠none:=fun a h=>by
  cases e:H a with
  | none=>exact absurd e h
  | some o=>rw [same a o e]; simp
 exact ⟨fun a o h _=>same a o h,fun _ h=>h,fun _ h=>.inl h,fun _ h=>.inl h,al,fun z a h=>al a (z a h)⟩
theorem lx {K:a0a}{Z:Fp}{H H1:Hp}{G:Fp}{w:M.W}{Q:VK}(same:∀ a o,H a=some o->H1 a=some o)(k:Out K Z H G w Q):Out K Z H1 G w Q:=fun v Z' H' G' r o t=>k v Z' H' G' r o ((jJ same).trans t)
theorem ez {H:Hp}{p:Addr}{o:HO}(hp:H p=none):∀ a u,H a=some u->upd H p o a=some u:=fun a u e=>by
 have:a≠p:=fun q=>by subst q; rw [hp] at e; cases e
 rw [aj this]; exact e
theorem TopV.same {K:a0a}{H H1:Hp}{t:Th}{x:V}(sm:∀ a o,H a=some o->H1 a=some o)(h:TopV K H t x):TopV K H1 t x:=by
 cases t with
 | tup _ =>
  obtain ⟨a,vs,e,q⟩:=h
  refine ⟨a,vs,e,?_⟩
  rcases q with (z | ⟨o,z⟩) | z
  ·exact .inl (.inl (sm _ _ z))
  ·exact .inl (.inr ⟨o,sm _ _ z⟩)
  ·exact .inr z
 | lst _ =>
  obtain ⟨a,vs,e,q⟩:=h
  refine ⟨a,vs,e,?_⟩
  rcases q with (z | ⟨o,z⟩) | z
  ·exact .inl (.inl (sm _ _ z))
  ·exact .inl (.inr ⟨o,sm _ _ z⟩)
  ·exact .inr z
 | _=>exact h
theorem bu {c:String}{k:Str}(hc:c∈["tuple","str","bool","int","list"])(hv:bootBuiltins k=some (.type c))(hm:X.mg "isinstance"=none)(hm2:X.mg k=none)(ha:SE X sf C ea a)(hg:Gl X "isinstance":=by rfl)(hg2:Gl X k:=by rfl)(hn:k≠"__name__":=by decide)(hd:(k==("__debug__":Str))=false:=by decide)
  (hs:starEach [ea,.Name k p2] X.env=(false,eval ea X.env)::starEach [.Name k p2] X.env:=by rfl) (hs2:starEach [.Name k p2] X.env=(false,eval (.Name k p2) X.env)::starEach [] X.env:=by rfl) (hpl:(backTo pos (starEach [.Name k p2] X.env)).any (·.1)=false:=by rfl) :
  SE X sf C (.Call (.Name "isinstance" p3) [ea,.Name k p2] [] pos) (.op (.isI [c]) h [a]) :=
 aA (bJ (lR hc) hg hm a1r (a9 ha (a9 (kR hg2 hm2 hv hn hd) dB hs2) hs) (by decide) (by decide) hs hpl) fun σ H Q hw=>by
  obtain ⟨pv,Z,Fs,η,w,η',A,ev,k⟩:=hw
  obtain ⟨ws,h1,h2⟩:=cN ev
  obtain ⟨⟨m,u⟩,η1,us,e1,e2,rfl⟩:=aN h1
  cases e2
  obtain ⟨hug,h2⟩:=ifN (show (if u.isG=true then none else some _)=_ from h2)
  cases h2
  refine ⟨pv,Z,Fs,η,(m,u),η',A,e1,fun x Z' H' Fs' G B r s=>?_⟩
  obtain ⟨t1,t2⟩:=jD hug r
  refine ⟨x,thT u,rfl,t1,?_⟩
  have:=bf (bY B s k)
  rw [gq t2]
  rw [show ([c].any fun c=>M.isOne c u)=M.isOne c u by simp] at this
  exact this
theorem xI {c1 c2:String}{k1 k2:Str}{p4 pt:Pos}{kt:Nat}(hc1:c1∈["tuple","str","bool","int","list"])(hv1:bootBuiltins k1=some (.type c1))(hc2:c2∈["tuple","str","bool","int","list"])(hv2:bootBuiltins k2=some (.type c2))(hm:X.mg "isinstance"=none)(hm1:X.mg k1=none)(hm2:X.mg k2=none)(ha:SE X sf C ea a)
  (hg:Gl X "isinstance":=by rfl) (hg1:Gl X k1:=by rfl) (hg2:Gl X k2:=by rfl) (hn1:k1≠"__name__":=by decide) (hd1:(k1==("__debug__":Str))=false:=by decide) (hn2:k2≠"__name__":=by decide) (hd2:(k2==("__debug__":Str))=false:=by decide)
  (hs:starEach [ea,.Tuple [.Name k1 p2,.Name k2 p4] kt pt] X.env=(false,eval ea X.env)::starEach [.Tuple [.Name k1 p2,.Name k2 p4] kt pt] X.env:=by rfl) (hs2:starEach [.Tuple [.Name k1 p2,.Name k2 p4] kt pt] X.env=(false,eval (.Tuple [.Name k1 p2,.Name k2 p4] kt pt) X.env)::starEach [] X.env:=by rfl)
  (hs3:starEach [.Name k1 p2,.Name k2 p4] X.env=(false,eval (.Name k1 p2) X.env)::starEach [.Name k2 p4] X.env:=by rfl) (hs4:starEach [.Name k2 p4] X.env=(false,eval (.Name k2 p4) X.env)::starEach [] X.env:=by rfl) (hpl:(backTo pos (starEach [.Tuple [.Name k1 p2,.Name k2 p4] kt pt] X.env)).any (·.1)=false:=by rfl) :
  SE X sf C (.Call (.Name "isinstance" p3) [ea,.Tuple [.Name k1 p2,.Name k2 p4] kt pt] [] pos) (.op (.isI [c1,c2]) h [a]) :=
 aA (bJ (qz hc1 hc2) hg hm a1r (a9 ha (a9 (m9 (a9 (kR hg1 hm1 hv1 hn1 hd1) (a9 (kR hg2 hm2 hv2 hn2 hd2) dB hs4) hs3)) dB hs2) hs) (by decide) (by decide) hs hpl) fun σ H Q hw=>by
  obtain ⟨pv,Z,Fs,η,w,η',A,ev,k⟩:=hw
  obtain ⟨ws,h1,h2⟩:=cN ev
  obtain ⟨⟨m,u⟩,η1,us,e1,e2,rfl⟩:=aN h1
  cases e2
  obtain ⟨hug,h2⟩:=ifN (show (if u.isG=true then none else some _)=_ from h2)
  cases h2
  refine ⟨pv,Z,Fs,η,(m,u),η',A,e1,fun x Z' H' Fs' G B r s=>?_⟩
  refine ⟨(by show 2<=sizeLine; decide),fun p hp=>?_⟩
  have st:=jJ (Z:=Z') (G:=fun a=>tot Fs' a\/G a) (ez (o:=.tup [.ty c1,.ty c2]) hp)
  obtain ⟨t0,t2⟩:=jD hug r
  have t1:=t0.same (ez (o:=.tup [.ty c1,.ty c2]) hp)
  refine ⟨x,thT u,p,rfl,.inl (.inl aI),t1,?_⟩
  have:=bf (lx (ez (o:=.tup [.ty c1,.ty c2]) hp) (bY B s k))
  rw [gq t2,gq t2]
  rw [show ([c1,c2].any fun c=>M.isOne c u)=(M.isOne c1 u || M.isOne c2 u) by simp] at this
  exact this
end
end MR

namespace MR
open PySem PySem.Spec PyProof.Rows L2 L3
structure Txt (mg:Str->Option Value):Prop where
 isin:mg "isinstance"=none
 int:mg "int"=none
 tup:mg "tuple"=none
 list:mg "list"=none
 bool:mg "bool"=none
 sum:mg "sum"=none
 len:mg "len"=none
 all:mg "all"=none
 zip:mg "zip"=none
 range:mg "range"=none
 enum:mg "enumerate"=none
 any:mg "any"=none
 max:mg "max"=none
 min:mg "min"=none
 sorted:mg "sorted"=none
 str:mg "str"=none
 repr:mg "repr"=none
 abs:mg "abs"=none
 dict:mg "dict"=none
 set:mg "set"=none
 rev:mg "reversed"=none
theorem frc {X:Cx}{scope:Scope}{cl:List (Str×Addr)}{y:Str}{ys:List Str}{i:Nat}{is:List Nat}{c:Addr}(r:Frees X scope cl ys is)(h1:X.N[i]?=some y:=by rfl)(h2:Vis X.env.scope y:=by first | exact a0B rfl | exact a0u (a0B rfl) | exact a0u (a0u rfl))(h3:X.env.kindOf y=some .cell\/X.env.kindOf y=some .free:=by first | exact a0B rfl | exact a0u rfl)
  (h4:X.env.cells.lookup y=some c:=by rfl) (h5:cl.lookup y=some c:=by rfl) (h6:(relabel scope X.env).names.lookup y=some .cell\/(relabel scope X.env).names.lookup y=some .free:=by first | exact a0B rfl | exact a0u rfl):Frees X scope cl (y::ys) (i::is):=.cons h1 h2 h3 h4 h5 h6 r
theorem jV {X:Cx}{y:Str}{c:Addr}{cl:List (Str×Addr)}(r:Clo X cl)(h:X.env.cells.lookup y=some c:=by rfl):Clo X ((y,c)::cl):=.cons h r
section
variable {X:Cx}{sf sg:Nat->Option Nat}{C:M.Call}{pos p2 p3:Pos}{ea eb ec:Expr}{a b c:M.E}{h:Bool}{n:Nat}{io:List Nat}
section
variable {elt iter cnd:Expr}{x y:Str}{px py pt:Pos}{kt:Nat}{scope:Scope}{tg:List Nat}{k:M.Ik}{src:List M.E}{e cd:M.E}
theorem zC1 (j:Nat)(ls:List Nat)(is:List Nat)(cl:List (Str×Addr))(ys:List Str){z:Str}{pz spos:Pos}{xx:M.X}{i t:Nat}(hi:PI X (.Name x px) iter (wI X.K sf C 1 k src))(he:∀ Ca s H fp,SE (aw X ([x]++ys) scope cl Ca s H fp) (inF [t] ls) C elt e)
  (S:aJ [x] ys scope) (hcl:Clo X cl) (fr:Frees X scope cl ys is) (hN:X.N.Nodup) (hni:i ∉ io:=by decide) (hsj:sf i=some j:=by rfl) (hj:X.N[j]?=some z:=by rfl) (hz:L2.Loc X.env.scope z:=by first | exact a0B rfl | exact a0u rfl)
  (hsw:swapsWith (.ListComp elt [⟨(.Name x px),iter,[],0⟩] scope pos) (some (.Name z pz)) spos.line X.env=pure true:=by rfl) (hc:X.calm=true:=by rfl) (hl:ls.map sf=is.map some:=by rfl)
  (hclos:closureFor scope X.env=pure cl:=by with_unfolding_all rfl) (hfr:(scope.names.all fun p=>p.2 != .free || (cl.lookup p.1).isSome)=true:=by rfl)
  (hs:∀ v,foldedSetIterable iter X.env v=pure v:=by intro _; rfl) (hfn:X.fn z=true\/X.env.scope.names.lookup z=some .local:=by first | exact .inl rfl | exact .inr rfl):SS X sf io C (.Assign [.Name z pz] (.ListComp elt [⟨(.Name x px),iter,[],0⟩] scope pos) spos) (.asg xx i (.comp h k src [t] none e)) :=
 ee (jO (pre:=[x]) hN hj hz hsw hc hi (wW S) (fun Ca s H fp=>he Ca s H fp) hclos S hcl hfr fr hs hfn) fun D σ H hw=>iz rfl (by simp) (gK hl) σ H _ (ng hni hsj D σ H hw)
end
noncomputable def bV (P:Program)(w:World)(K:a0a)(mg:Str->Option Value)(base:Heap)(n:Nat)(C:M.Call)(x:Str)(f:Nat)(io:List Nat)(t:M.T):Prop :=
 ∃ fa fd ps d dv,bI P w K mg base CX0 n fa fd ps (spS K C f io)/\mg x=some (.ref fa)/\a00 K (.ref fa)=true/\Binds K fd ps [d]/\RelV dv d/\∀ Z H m G,Rep K Z H m t dv G
theorem eG {t:M.T}:∀ {bs:List M.E} {η η':M.Env} {ws:List M.W},M.evA C (bs++[.cst t]) η=.ok (ws,η')->∃ us,M.evA C bs η=.ok (us,η')/\ws=us++[(.d,t)]
 | [],η,η',ws,e=>by
  obtain ⟨u,η1,us,e1,e2,rfl⟩:=bM (fun _ z=>by cases z) (show M.evA C [.cst t] η=_ from e)
  cases e1
  cases e2
  exact ⟨[],rfl,rfl⟩
 | b::bs,η,η',ws,e=>by
  rcases qK b with ⟨i,rfl⟩ | hb
  ·obtain ⟨us,η1,w,h1,h2,rfl,rfl⟩:=dm (show M.evA C (.io i::(bs++[.cst t])) η=_ from e)
   obtain ⟨vs,h3,rfl⟩:=eG h1
   refine ⟨w::vs,?_,rfl⟩
   show (M.evA C bs η).bind (M.kIo i)=_
   rw [h3]
   show (M.ofO (M.rd η1 i)).bind _=_
   rw [h2]
   rfl
  ·obtain ⟨u,η1,us,e1,e2,rfl⟩:=bM hb (show M.evA C (b::(bs++[.cst t])) η=_ from e)
   obtain ⟨vs,h1,rfl⟩:=eG e2
   refine ⟨u::vs,?_,rfl⟩
   rw [M.evA_eq hb,e1]
   show (M.evA C bs η1).bind (M.kCons u)=_
   rw [h1]
   rfl
theorem qC {x:Str}{p:Pos}{f:Nat}{es:List Expr}{bs bs':List M.E}{t:M.T}(c:bV X.prog X.w X.K X.mg X.base n C x f io t)(hr:Room n X.A)(ha:SA X sf C (ea::es) bs)(hbs:bs'=bs++[.cst t]:=by rfl)(hio:dE bs' 0=io\/M.ios bs'=[]:=by first | exact .inl rfl | exact .inr rfl)(hg:Gl X x:=by rfl)(hdb:(x==("__debug__":Str))=false:=by decide)
  (he:starEach (ea::es) X.env=(false,eval ea X.env)::starEach es X.env:=by rfl) (hpl:(backTo pos (starEach es X.env)).any (·.1)=false:=by rfl):SE X sf C (.Call (.Name x p) (ea::es) [] pos) (.call f bs'):=by
 obtain ⟨fa,fd,ps,d,dv,F,hm,hk,hb,hd,hR⟩:=c
 refine aA (jC (E:=E0) F hr hg hm hk hb (.cons hd .nil) rk ha hdb he hpl) fun σ H Q hw=>?_
 subst hbs
 obtain ⟨pv,Z,Fs,η,ws,η',A,ev,k⟩:=jB hio σ H Q hw
 obtain ⟨us,h1,rfl⟩:=eG ev
 refine ⟨pv,Z,Fs,η,us,η',A,h1,fun vs Z' H' Fs' G B r s hv=>?_⟩
 have hl:us.length=bs.length:=gn h1
 refine k (vs++[dv]) Z' H' Fs' G B (RepW.append (G1:=G) (G2:=no) (fun _ z=>z) (fun _ z=>z.elim) (fun _ _ z=>z) r (RepW.one (hR _ _ _ _))) s fun j i u hj hu=>?_
 by_cases q:j < bs.length
 ·rw [a0D q] at hj
  have:=hv j i u hj hu
  rw [a0D (by rw [r.length]; omega)]
  exact this
 ·rw [a0H (by omega)] at hj
  cases e:j-bs.length with
  | zero=>rw [e] at hj; simp at hj
  | succ m=>rw [e] at hj; simp at hj
end
end MR

namespace MR
open PySem PySem.Spec PyProof.Rows L2 L3
section
variable {P:Program}{w:World}{K:a0a}{mg:Str->Option Value}{base:Heap}
theorem FunD.okM {dV:Value}{x qual:Str}{st:Stmt}{f:Addr}{fd:FuncData}{N ps:List Str}{k:Nat}{C:M.Call}{d:M.Fn}(F:L3.FunD K x qual st f fd dV)(S:ao N ps (defScope st))(hps:d.ps=ps.length)(hle:ps.length<=N.length)(nd:d.io.Nodup)(hio:∀ i∈d.io,i < ps.length)
  (hbody:∀ (cdv:Value) (A:Around) (outer:List Env) (s:Shared) (H:Hp) (E:XK),Room k (A.deeper (envOfC qual (defScope st) s.heap.objs.size f cdv)) ->
   SSs (dk CX0 P w K mg base N qual (defScope st) f cdv A outer s H E).nox (slN N.length) d.io C (defBody st) d.body) {g:Nat} {C':M.Call} (hC:∀ ws,C' g ws=M.runF C d ws):bI P w K mg base CX0 (k+1) f fd ps (spS K C' g d.io):=by
 have len:∀ vs H Q E,spS K C' g d.io vs H Q E->vs.length=ps.length:=fun vs H Q E ⟨Z,ws,G,w,bs,r,_,_,hr,_⟩=>by
  rw [hC] at hr
  unfold M.runF at hr
  split at hr
  ·rename_i h; rw [r.length,h,hps]
  ·cases hr
 refine F.ok S len fun cdv A outer s H vs Q E hr h=>⟨_,hbody cdv A outer s H E hr,?_⟩
 have hlen:=len vs H Q E h
 obtain ⟨Z,ws,G,w,bs,r,o,z,hc,q⟩:=h
 rw [hC] at hc
 have hwl:ws.length=d.ps:=by rw [<- r.length,hlen,hps]
 rw [M.x_run _ _ _ hwl] at hc
 obtain ⟨Fs,ft,A0⟩:=ij (n:=d.ns) (io:=d.io) r o z (N:=N) (by omega)
 refine ⟨_,Z,Fs,_,⟨fun i i' j h h'=>?_,fun i h=>if_neg h⟩,A0,?_⟩
 ·simp only [slN] at h h'
  split at h
  ·split at h'
   ·cases h; cases h'; rfl
   ·cases h'
  ·cases h
 have hv:∀ i∈d.io,(if i∈d.io then vs[i]? else none)=vs[i]?/\i < vs.length:=fun i hi=>⟨if_pos hi,hlen ▸ hio i hi⟩
 cases e:M.evSs C d.body (ws.map some++a0f d.ns none) with
 | nx η =>
  rw [e] at hc
  intro σ' Z' H' Fs' A' t
  simp only [M.Fl.out] at hc
  cases e2:M.backs d.io η with
  | none=>rw [e2] at hc; cases hc
  | some cs =>
   rw [e2] at hc
   cases hc
   refine q .non Z' H' no _ rfl (bO A' nd hv e2) (fun _ h=>h.elim) (fun a h=>h.elim (fun z=>z.elim) fun ⟨i,_,z⟩=>A'.gd.own a ⟨i,z⟩) (t.mono ft fun a h=>h.elim (fun z=>z.elim) fun ⟨i,_,z⟩=>⟨i,z⟩)
 | rt u η =>
  rw [e] at hc
  intro v σ' Z' H' Fs' G' A' rp t
  simp only [M.Fl.out] at hc
  cases e2:M.backs d.io η with
  | none=>rw [e2] at hc; cases hc
  | some cs =>
   rw [e2] at hc
   cases hc
   exact q v Z' H' G' _ rp (bO A' nd hv e2) (fun a h ⟨i,_,z⟩=>A'.dis a h ⟨i,z⟩) (fun a h=>h.elim (A'.own a) fun ⟨i,_,z⟩=>A'.gd.own a ⟨i,z⟩) (t.mono ft fun a h=>h.elim .inr fun ⟨i,_,z⟩=>.inl ⟨i,z⟩)
 | bk η=>rw [e] at hc; cases hc
 | ex c x η=>rw [e] at hc; cases hc
 | no=>rw [e] at hc; cases hc
theorem vL {us:List Value}{d:Value}(h:(us++[d]).length=3):∃ a b,us=[a,b]:=by
 match us,h with
 | [a,b],_=>exact ⟨a,b,rfl⟩
 | [],h=>cases h
 | [_],h=>cases h
 | _::_::_::_,h=>simp at h
theorem gU {C:M.Call}{g:Nat}{io:List Nat}{vs:List V}{H:Hp}{Q:VK}{E:XK}(hC:∀ ws,C g ws=.no)(h:spS K C g io vs H Q E):False:=by
 obtain ⟨Z,ws,G,w,bs,_,_,_,e,_⟩:=h
 rw [hC] at e
 cases e
theorem fn0 {f:Addr}{fd:FuncData}{ps:List Str}{k g:Nat}{io:List Nat}{C:M.Call}(hC:∀ ws,C g ws=.no):bI P w K mg base CX0 k f fd ps (spS K C g io) :=
 ⟨fun _ _ _ _ h=>(gU hC h).elim,fun _ _ _ _ _ _ _ _ _ _ _ _ _ h=>(gU hC h).elim⟩
theorem iY {Z:Fp}{H:Hp}{a:Addr}{ns:List Int}(hO:lY H)(hl:ns.length<=63)(h:SqL K H a (ns.map V.int)):Rep K Z H .d (.scr ns) (.ref a) no:=by
 refine ⟨a,rfl,a0j hl (by decide),?_⟩
 rcases h with (z | ⟨o,z⟩) | z
 ·rcases hO a with y | ⟨o,xs,y⟩<;>rw [y] at z<;>cases z
 ·exact .inl ⟨o,z⟩
 ·exact .inr (.inr z)
theorem uS {H:Hp}{a:Addr}{ns:List Int}{C:M.Call}{ix:Nat}(hp:∃ m bs,C ix [(.d,.scr ns)]=.ok ((m,.bl true),bs))(hl:ns.length<=63)(hO:lY H)(h:SqL K H a (ns.map V.int)):spS K C ix [] [.ref a] H (fun v _=>v=.bl true) fun _ _ _=>False:=by
 obtain ⟨m,bs,e⟩:=hp
 exact ⟨no,[(.d,.scr ns)],no,(m,.bl true),bs,RepW.one (iY hO hl h),bH,fun _ z=>z.elim,e,fun v Z' H' G1 G2 r _ _ _ _=>r⟩
end
end MR

namespace MR
open PySem PySem.Spec PyProof.Rows L2 L3
structure SBs (as:List Addr)(H H':Hp):Prop where
 keep:∀ b u,b ∉ as->H b=some u->H' b=some u
 al:∀ b,H b≠none->H' b≠none
instance {as:List Addr} {H H':Hp}:CoeFun (SBs as H H') (fun _=>∀ b u,b ∉ as->H b=some u->H' b=some u):=⟨fun s=>s.keep⟩
end MR

namespace MR
open PySem PySem.Spec PyProof.Rows L2 L3
section
variable {X:Cx}{sf sg:Nat->Option Nat}{io:List Nat}{C:M.Call}{pos p2:Pos}{ea eb ec:Expr}{a b c:M.E}{h:Bool}{n:Nat}
theorem oZ {rest:List Expr}{ta tb:TE}(ha:PE X ea ta)(hb:PE X (.BoolOp .And (eb::rest) pos) tb):PE X (.BoolOp .And (ea::eb::rest) pos) (fun σ H Q=>ta σ H fun x H1=>∃ k,qN X.K x H1 k/\if k=true then tb σ H1 Q else Q x H1):=by
 intro pins s σ H Q I h
 refine BoolOp_and (thn (ha pins s σ H _ I h) fun v s1 ⟨x,H1,I1,r1,q1⟩=>?_)
 refine thn (kU pins s1 σ H1 x v (fun k H2=>if k=true then tb σ H2 Q else Q x H2) I1 r1 q1) fun k s2 ⟨H2,I2,q2⟩=>?_
 cases k with
 | true=>exact hb pins s2 σ H2 Q I2 (by rw [if_pos rfl] at q2; exact q2)
 | false=>exact ⟨x,H2,I2,r1,by rw [if_neg a0h] at q2; exact q2⟩
theorem vA1 (ha:SE X sf C ea a):SE X sf C (.BoolOp .And [ea] pos) a:=u9 ha
theorem iZ {rest:List Expr}(ha:SE X sf C ea a)(hb:SE X sf C (.BoolOp .And (eb::rest) pos) b):SE X sf C (.BoolOp .And (ea::eb::rest) pos) (.and a b):=aA (oZ ha hb) fun σ H Q h=>by
 obtain ⟨pv,Z,Fs,η,w,η',A,ev,k⟩:=uo σ H Q h
 exact ⟨pv,Z,Fs,η,w,η',A,ev,fun v Z' H' Fs' G B r s=>let ⟨c,t,q⟩:=k v Z' H' Fs' G B r s; ⟨c,i7 t,q⟩⟩
theorem sBW (h:SE X sf C ea a):SE X sf C ea a:=h
theorem jW {K:a0a}:Loc K 1 .tuple h fun xs H Q=>∃ p ys,xs=[.ref p]/\((SqL K H p ys/\∀ l,H l=none->Q (.ref l) (upd H l (.tup ys)))\/(SqT K H p ys/\Q (.ref p) H)):=by
 intro ws w xs Z H G Q hn e r ow za k
 obtain ⟨⟨m,a⟩,rfl⟩:∃ a,ws=[a]:=by match ws,hn with | [a],_=>exact ⟨a,rfl⟩
 obtain ⟨x,rfl,r1⟩:=b4 rfl r
 cases a with
 | lst ts =>
  obtain ⟨p,ys,rfl,hs,hl,q⟩:=aW r1
  cases e
  exact ⟨p,ys,rfl,.inl ⟨SqL.of hs,fun l hl'=>jc (m:=m.kid.up) (G':=G) ow (fun _ z=>z) hl (by rw [du]; exact q.zmono fun _ z=>.inl z) k hl'⟩⟩
 | tup ts =>
  obtain ⟨p,ys,rfl,hs,hl,q⟩:=b7 r1
  cases e
  exact ⟨p,ys,rfl,.inr ⟨hs,eD ow k r1⟩⟩
 | _=>cases e
theorem la {p:Pos}(hm:X.mg "tuple"=none)(hg:Gl X "tuple":=by rfl)(ha:SE X sf C ea a)(hs:starEach [ea] X.env=(false,eval ea X.env)::starEach [] X.env:=by rfl)(hpl:(backTo pos (starEach [] X.env)).any (·.1)=false:=by rfl):SE X sf C (.Call (.Name "tuple" p) [ea] [] pos) (.op .tuple h [a]) :=
 aA (fA eR hg hm a0M (slc ha sl0 hs) (by decide) (by decide) hs hpl) (fk jW rfl)
end
end MR

namespace MR
open PySem PySem.Spec PyProof.Rows L2 L3
end MR

namespace MR
open PySem PySem.Spec PyProof.Rows L2 L3
section
variable {X:Cx}{sf sg:Nat->Option Nat}{io:List Nat}{C:M.Call}{pos p2:Pos}{ea eb ec:Expr}{a b c:M.E}{h:Bool}{n:Nat}
theorem j4 {K:a0a}{o p:M.Op}{g g':Int->Int->Bool}(inv:∀ {u v w:M.W},M.oSem o false [u,v]=some w->∃ m n i j,u=(m,.int i)/\v=(n,.int j)/\w=(.d,.bl (g i j)))(inv':∀ {u v w:M.W},M.oSem p false [u,v]=some w->∃ m n i j,u=(m,.int i)/\v=(n,.int j)/\w=(.d,.bl (g' i j)))
  (σ:L2.St) (H:Hp) (Q:VK) (hw:wE K sf C (.chain o p a b c) σ H Q):mF (rI0 fun i j=>.bl (g i j)) (rI0 fun i j=>.bl (g' i j)) (wE K sf C a) (wE K sf C b) (wE K sf C c) σ H Q:=by
 obtain ⟨pv,Z,Fs,η,w,η',A,ev,k⟩:=hw
 obtain ⟨⟨x,η1⟩,h1,h2⟩:=aa (show (M.evE C a η).bind (M.kC1 o p (M.evE C b) (M.evE C c))=_ from ev)
 obtain ⟨⟨y,η2⟩,h3,h4⟩:=aa (show (M.evE C b η1).bind (M.kC2 o p (M.evE C c) x)=_ from h2)
 obtain ⟨⟨kk,η3⟩,h5,h6⟩:=aa (show (M.ret η2 (M.oSem o false [x,y])).bind (fun k=>M.onB k.1.2 (M.then' (M.evE C c) (M.kC3 p y)) (M.okW (.d,.bl false)) k.2)=_ from h4)
 obtain ⟨k',e5,e5'⟩:=av h5
 cases e5'
 obtain ⟨m1,m2,i,j,rfl,rfl,rfl⟩:=inv e5
 have dr:∀ {Z:Fp} {H:Hp} {F Z1:Fp} {H1:Hp} {Fs1:Fps} {G1:Fp},Step Z H F Z1 H1 (fun a=>tot Fs1 a\/G1 a)->Step Z H F Z1 H1 (tot Fs1):=fun s=>s.mono (fun _ z=>z) fun _ z=>.inl z
 refine gY A h1 fun vx Z1 H1 Fs1 G1 A1 r1 _ s1 _=>?_
 have A1':=A1.bare
 refine gY A1' h3 fun vy Z2 H2 Fs2 G2 A2 r2 _ s2 _=>⟨i,j,r1,r2,g i j,rfl,?_⟩
 have A2':=A2.bare
 have s12:=(dr s1).trans (dr s2)
 have h6':M.onB (.bl (g i j)) (M.then' (M.evE C c) (M.kC3 p (m2,.int j))) (M.okW (.d,.bl false)) η2=.ok (w,η'):=h6
 cases hg:g i j with
 | true =>
  rw [hg] at h6'
  rw [if_pos rfl]
  obtain ⟨⟨z,η4⟩,h7,h8⟩:=aa (show (M.evE C c η2).bind (M.kC3 p (m2,.int j))=_ from h6')
  obtain ⟨z',e8,e8'⟩:=av (show M.ret η4 (M.oSem p false [(m2,.int j),z])=_ from h8)
  cases e8'
  obtain ⟨n1,n2,i',j',e9,rfl,rfl⟩:=inv' e8
  cases e9
  refine gY A2' h7 fun vz Z3 H3 Fs3 G3 A3 r3 _ s3 _=>⟨j,j',r2,r3,?_⟩
  exact k _ Z3 H3 Fs3 no A3.bare rfl ((s12.trans (dr s3)).mono (fun _ z=>z) fun _ z=>z.elim id fun q=>q.elim)
 | false =>
  rw [hg] at h6'
  rw [if_neg a0h]
  cases h6'
  exact k _ Z2 H2 Fs2 no A2' rfl (s12.mono (fun _ z=>z) fun _ z=>z.elim id fun q=>q.elim)
theorem gm (ha:SE X sf C ea a)(hb:SE X sf C eb b)(hc:SE X sf C ec c)(hm:lastMarks [.LtE,.LtE] [eb,ec]=false:=by with_unfolding_all rfl):SE X sf C (.Compare ea [.LtE,.LtE] [eb,ec] pos) (.chain .le .le a b c) :=
 aA (kQ q9 q9 ha hb hc hm) (j4 k9 k9)
theorem nV:OpR X (compareOp .Is) (fun x y H Q=>∃ a b,x=.bl a/\y=.bl b/\Q (.bl (a==b)) H):=by
 intro pins s σ H x y v u Q I rx ry h
 obtain ⟨a,b,rfl,rfl,q⟩:=h
 cases rx
 cases ry
 cases a<;>cases b<;>exact wpAny_pure (kW I q rfl)
theorem mJ:OpR X (compareOp .IsNot) (fun x y H Q=>∃ a b,x=.bl a/\y=.bl b/\Q (.bl (!(a==b))) H):=by
 intro pins s σ H x y v u Q I rx ry h
 obtain ⟨a,b,rfl,rfl,q⟩:=h
 cases rx
 cases ry
 cases a<;>cases b<;>exact wpAny_pure (kW I q rfl)
theorem oR {u v w:M.W}(e:M.oSem .isB h [u,v]=some w):∃ m n a b,u=(m,.bl a)/\v=(n,.bl b)/\w=(.d,.bl (a==b)):=by
 obtain ⟨m,a⟩:=u; obtain ⟨n,b⟩:=v
 cases a with
 | bl a =>
  cases b with
  | bl b=>cases e; exact ⟨_,_,_,_,rfl,rfl,rfl⟩
  | _=>cases e
 | _=>cases b<;>cases e
theorem iw {u v w:M.W}(e:M.oSem .isnB h [u,v]=some w):∃ m n a b,u=(m,.bl a)/\v=(n,.bl b)/\w=(.d,.bl (!(a==b))):=by
 obtain ⟨m,a⟩:=u; obtain ⟨n,b⟩:=v
 cases a with
 | bl a =>
  cases b with
  | bl b=>cases e; exact ⟨_,_,_,_,rfl,rfl,rfl⟩
  | _=>cases e
 | _=>cases b<;>cases e
theorem qa {K:a0a}:Loc K 2 .isB h fun xs H Q=>∀ x y,xs=[x,y]->∃ a b,x=.bl a/\y=.bl b/\Q (.bl (a==b)) H:=by
 intro ws w xs Z H G Q hn e r ow za k x y hx
 subst hx
 obtain ⟨u,v,rfl⟩:=dM r.length.symm
 obtain ⟨G1,G2,w1,w2,d,r1,r2⟩:=b8 r
 obtain ⟨m,n,a,b,rfl,rfl,rfl⟩:=oR e
 exact ⟨a,b,r1,r2,bf k⟩
theorem lF {K:a0a}:Loc K 2 .isnB h fun xs H Q=>∀ x y,xs=[x,y]->∃ a b,x=.bl a/\y=.bl b/\Q (.bl (!(a==b))) H:=by
 intro ws w xs Z H G Q hn e r ow za k x y hx
 subst hx
 obtain ⟨u,v,rfl⟩:=dM r.length.symm
 obtain ⟨G1,G2,w1,w2,d,r1,r2⟩:=b8 r
 obtain ⟨m,n,a,b,rfl,rfl,rfl⟩:=iw e
 exact ⟨a,b,r1,r2,bf k⟩
theorem yN (ha:SE X sf C ea a)(hb:SE X sf C eb b):SE X sf C (.Compare ea [.Is] [eb] pos) (.op .isB h [a,b]):=aA (jw nV ha hb (cn _)) (aO qa)
theorem kM (ha:SE X sf C ea a)(hb:SE X sf C eb b):SB X sf C (.Compare ea [.IsNot] [eb] pos) (.op .isnB h [a,b]):=bW mJ ha hb (cn _) (aO lF) fun u v w e=>by obtain ⟨_,_,_,_,_,_,rfl⟩:=iw e; exact ⟨_,rfl⟩
end
end MR

namespace MR
open PySem PySem.Spec PyProof.Rows L2 L3
section
variable {X:Cx}{sf sg:Nat->Option Nat}{C:M.Call}{pos p2 p3:Pos}{ea eb ec:Expr}{a b c:M.E}{h:Bool}{n:Nat}{io:List Nat}
theorem sGc {x:Str}{i:Int}(hm:∃ t,X.mg x=some (.int i t))(hg:Gl X x:=by rfl)(hd:(x==("__debug__":Str))=false:=by decide):SE X sf C (.Name x pos) (.cst (.int i)):=by
 obtain ⟨t,hm⟩:=hm
 exact aA (nP (v:=.int i) hg hm ⟨t,rfl⟩ hd) (eu rfl)
noncomputable def qW (K:a0a)(H:Hp):List Nat->V->V->Prop
 | [],v,u=>u=v
 | j::p,v,u=>∃ a xs x,v=.ref a/\(SqL K H a xs\/SqT K H a xs)/\xs[j]?=some x/\qW K H p x u
noncomputable def wP (K:a0a)(sf:Nat->Option Nat)(i:Nat)(p:List Nat):TE:=fun σ H Q=>∃ j v u,sf i=some j/\σ[j]?=some (some v)/\qW K H p v u/\Q u H
noncomputable abbrev SP (X:Cx)(sf:Nat->Option Nat)(me:Expr)(i:Nat)(p:List Nat):Prop:=PE X me (wP X.K sf i p)
noncomputable def wG (Fs:Fps)(i:Nat)(G:Fp):Fps:=fun l a=>(l=i/\G a)\/(l≠i/\Fs l a)
end
end MR

namespace MR
open PySem PySem.Spec PyProof.Rows L2 L3
section
variable {X:Cx}{sf:Nat->Option Nat}{C:M.Call}{me:Expr}{f:Nat}{bs:List M.E}
theorem xB (h:∀ ws,C f ws=.no):SE X sf C me (.call f bs):=fun pins s σ H Q I ⟨pv,Z,Fs,η,w,η',A,ev,k⟩=>by
 obtain ⟨⟨ws,η1⟩,h1,h2⟩:=aa (show (M.evA C bs η).bind (M.kCall C f (M.ios bs))=_ from ev)
 rw [show M.kCall C f (M.ios bs) (ws,η1)=(C f ws).bind (M.kBack (M.ios bs) η1) from rfl,h] at h2
 cases h2
end
theorem fsc {N P:List Str}{sc:Scope}(h1:sc.kind=.function:=by rfl)(h2:sc.isCoroutine=false:=by rfl)(h3:sc.isGenerator=false:=by rfl)(h4:N.Nodup:=by decide +kernel)(h5:N.take P.length=P:=by rfl)(h6:∀ x∈P,sc.names.lookup x=some .local\/sc.names.lookup x=some .cell:=by decide +kernel)(h7:∀ y∈sc.names,y.2≠.free:=by decide +kernel):ao N P sc:=⟨h1,h2,h3,h4,h5,h6,h7⟩
theorem csc {pre ys:List Str}{scope:Scope}(h1:scope.kind=.function:=by rfl)(h2:∀ y∈scope.names,y.2≠.cell:=by decide +kernel)(h3:∀ y∈scope.names,y.2=.local->scope.names.lookup y.1=some .local:=by decide +kernel)(h4:∀ x∈pre,scope.names.lookup x=some .local:=by decide +kernel)(h5:(pre++ys).Nodup:=by decide +kernel):aJ pre ys scope:=⟨h1,h2,h3,h4,h5⟩
section
variable {P:Program}{w:World}{K:a0a}{mg:Str->Option Value}{base:Heap}{x:Str}{st:Stmt}{ps N:List Str}{n g:Nat}{io:List Nat}{C C':M.Call}{d:Value}{t:M.T}
structure Df (K:a0a)(mg:Str->Option Value)(x:Str)(st:Stmt)(ps:List Str):Prop where
 ex:∃ f fd,Fun K x x st f fd/\Binds K fd ps []/\mg x=some (.ref f)
structure DfD (K:a0a)(mg:Str->Option Value)(x:Str)(st:Stmt)(ps:List Str)(d:Value):Prop where
 ex:∃ f fd dV,FunD K x x st f fd dV/\Binds K fd ps []/\Binds K fd ps [d]/\mg x=some (.ref f)
theorem Df.ok (e:Df K mg x st ps)(h:∀ f fd,Fun K x x st f fd->bI P w K mg base CX0 n f fd ps (spS K C g io)):ae P w K mg base n C x g io:=by
 obtain ⟨f,fd,F,b,m⟩:=e.ex
 exact ⟨f,fd,ps,h f fd F,m,F.kp,b⟩
theorem Df.z (e:Df K mg x st ps)(hC:∀ ws,C g ws=.no:=by intro _; rfl):ae P w K mg base n C x g io:=e.ok fun _ _ _=>fn0 hC
theorem Df.s (fn:M.Fn)(e:Df K mg x st ps)(S:ao N ps (defScope st))
  (hb:∀ {f:Addr} {cdv:Value} {A:Around} {outer:List Env} {s:Shared} {H:Hp} {E:XK},Room n (A.deeper (envOfC x (defScope st) s.heap.objs.size f cdv))->SSs (dk CX0 P w K mg base N x (defScope st) f cdv A outer s H E).nox (slN N.length) fn.io C (defBody st) fn.body)
  (hC:∀ ws,C' g ws=M.runF C fn ws:=by intro _; rfl) (hps:fn.ps=ps.length:=by rfl) (hle:ps.length<=N.length:=by decide) (nd:fn.io.Nodup:=by decide) (hio:∀ i∈fn.io,i < ps.length:=by decide):ae P w K mg base (n+1) C' x g fn.io :=
 e.ok fun _ _ F=>Fun.okM F S hps hle nd hio (fun _ _ _ _ _ _ h=>hb h) hC
theorem DfD.ok (e:DfD K mg x st ps d)(h:∀ f fd dV,FunD K x x st f fd dV->bI P w K mg base CX0 n f fd ps (spS K C g io)):ae P w K mg base n C x g io:=by
 obtain ⟨f,fd,dV,F,b,_,m⟩:=e.ex
 exact ⟨f,fd,ps,h f fd dV F,m,F.kp,b⟩
theorem DfD.okD {dv:V}(e:DfD K mg x st ps d)(h:∀ f fd dV,FunD K x x st f fd dV->bI P w K mg base CX0 n f fd ps (spS K C g io))(hr:RelV dv d)(ht:∀ Z H m G,Rep K Z H m t dv G):bV P w K mg base n C x g io t:=by
 obtain ⟨f,fd,dV,F,_,b,m⟩:=e.ex
 exact ⟨f,fd,ps,d,dv,h f fd dV F,m,F.kp,b,hr,ht⟩
theorem DfD.z (e:DfD K mg x st ps d)(hC:∀ ws,C g ws=.no:=by intro _; rfl):ae P w K mg base n C x g io:=e.ok fun _ _ _ _=>fn0 hC
theorem DfD.zD {b:Bool}(e:DfD K mg x st ps (.bool b))(hC:∀ ws,C g ws=.no:=by intro _; rfl):bV P w K mg base n C x g io (.bl b):=e.okD (dv:=.bl b) (fun _ _ _ _=>fn0 hC) rfl fun _ _ _ _=>rfl
theorem DfD.fn (fn:M.Fn){f:Addr}{fd:FuncData}{dV:Value}(F:FunD K x x st f fd dV)(S:ao N ps (defScope st))
  (hb:∀ {f:Addr} {cdv:Value} {A:Around} {outer:List Env} {s:Shared} {H:Hp} {E:XK},Room n (A.deeper (envOfC x (defScope st) s.heap.objs.size f cdv))->SSs (dk CX0 P w K mg base N x (defScope st) f cdv A outer s H E).nox (slN N.length) fn.io C (defBody st) fn.body)
  (hC:∀ ws,C' g ws=M.runF C fn ws) (hps:fn.ps=ps.length) (hle:ps.length<=N.length) (nd:fn.io.Nodup) (hio:∀ i∈fn.io,i < ps.length):bI P w K mg base CX0 (n+1) f fd ps (spS K C' g fn.io):=FunD.okM F S hps hle nd hio (fun _ _ _ _ _ _ h=>hb h) hC
theorem DfD.s (fn:M.Fn)(e:DfD K mg x st ps d)(S:ao N ps (defScope st))
  (hb:∀ {f:Addr} {cdv:Value} {A:Around} {outer:List Env} {s:Shared} {H:Hp} {E:XK},Room n (A.deeper (envOfC x (defScope st) s.heap.objs.size f cdv))->SSs (dk CX0 P w K mg base N x (defScope st) f cdv A outer s H E).nox (slN N.length) fn.io C (defBody st) fn.body)
  (hC:∀ ws,C' g ws=M.runF C fn ws:=by intro _; rfl) (hps:fn.ps=ps.length:=by rfl) (hle:ps.length<=N.length:=by decide) (nd:fn.io.Nodup:=by decide) (hio:∀ i∈fn.io,i < ps.length:=by decide):ae P w K mg base (n+1) C' x g fn.io :=
 e.ok fun _ _ _ F=>DfD.fn fn F S hb hC hps hle nd hio
theorem DfD.sD {b:Bool}(fn:M.Fn)(e:DfD K mg x st ps (.bool b))(S:ao N ps (defScope st))
  (hb:∀ {f:Addr} {cdv:Value} {A:Around} {outer:List Env} {s:Shared} {H:Hp} {E:XK},Room n (A.deeper (envOfC x (defScope st) s.heap.objs.size f cdv))->SSs (dk CX0 P w K mg base N x (defScope st) f cdv A outer s H E).nox (slN N.length) fn.io C (defBody st) fn.body)
  (hC:∀ ws,C' g ws=M.runF C fn ws:=by intro _; rfl) (hps:fn.ps=ps.length:=by rfl) (hle:ps.length<=N.length:=by decide) (nd:fn.io.Nodup:=by decide) (hio:∀ i∈fn.io,i < ps.length:=by decide):bV P w K mg base (n+1) C' x g fn.io (.bl b) :=
 e.okD (dv:=.bl b) (fun _ _ _ F=>DfD.fn fn F S hb hC hps hle nd hio) rfl fun _ _ _ _=>rfl
noncomputable def Raw (K:a0a)(x:Str)(st:Stmt)(dV:Value):Prop:=∃ f oc od sl kV dc pm an cd ct,a1y K mainGlobals x=some (some (.ref f))/\K.lookup f=some ⟨oc,od,.func (a0I x x (defArgs st) (defBody st) (defScope st) dV kV dc pm an cd ct),sl⟩/\a1c K cd x=true/\a00 K (.ref f)=true
theorem bB {h:Heap}(X:K.In h)(G:h.Ns mainGlobals mg)(r:Raw K x st .none)(hb:∀ (kV doc pm:Value) (an:Option Addr) (cdv ct:Value) (us:List Value),us.length=ps.length->bindArgs (a0I x x (defArgs st) (defBody st) (defScope st) .none kV doc pm an cdv ct) ⟨us,[]⟩=pure (ps.zip us)):Df K mg x st ps:=by
 obtain ⟨f,oc,od,sl,kV,dc,pm,an,cd,ct,h1,h2,h3,h4⟩:=r
 have F:=mU (st:=st) h2 h3 h4
 exact ⟨f,_,F,F.binds hb,a1s X G h1⟩
noncomputable def RawD (K:a0a)(x:Str)(st:Stmt)(v:Value):Prop:=∃ T o m,Raw K x st (.ref T)/\K.lookup T=some o/\o.data=.seq #[v] m
theorem sk {h:Heap}{v:Value}(X:K.In h)(G:h.Ns mainGlobals mg)(r:RawD K x st v)
  (hb:∀ (T:Addr) (kV doc pm:Value) (an:Option Addr) (cdv ct:Value) (us:List Value),(us++[]).length=ps.length->∃ k:Option (Array Value)->Sem (List (Str×Value)),bindArgs (a0I x x (defArgs st) (defBody st) (defScope st) (.ref T) kV doc pm an cdv ct) ⟨us,[]⟩=seqItems? (.ref T) >>= k/\k (some #[v])=pure (ps.zip (us++[])))
  (hd:∀ (T:Addr) (kV doc pm:Value) (an:Option Addr) (cdv ct:Value) (us:List Value),(us++[v]).length=ps.length->∃ k:Option (Array Value)->Sem (List (Str×Value)),bindArgs (a0I x x (defArgs st) (defBody st) (defScope st) (.ref T) kV doc pm an cdv ct) ⟨us,[]⟩=seqItems? (.ref T) >>= k/\k (some #[v])=pure (ps.zip (us++[v]))):DfD K mg x st ps v:=by
 obtain ⟨T,o,m,⟨f,oc,od,sl,kV,dc,pm,an,cd,ct,h1,h2,h3,h4⟩,h5,h6⟩:=r
 have F:=pG (st:=st) h2 h3 h4
 exact ⟨f,_,_,F,F.binds h5 h6 (hb T),F.binds h5 h6 (hd T),a1s X G h1⟩
noncomputable def vi (K:a0a):List Str->Prop
 | []=>True
 | x::r=>a1y K mainGlobals x=some none/\vi K r
theorem tw {h:Heap}(X:K.In h)(G:h.Ns mainGlobals mg)(r:vi K ["isinstance","int","tuple","list","bool","sum","len","all","zip","range","enumerate","any","max","min","sorted","str","repr","abs","dict","set","reversed"]):Txt mg:=by
 obtain ⟨z1,z2,z3,z4,z5,z6,z7,z8,z9,z10,z11,z12,z13,z14,z15,z16,z17,z18,z19,z20,z21,_⟩:=r
 have m:=fun {x:Str} (z:a1y K mainGlobals x=some none)=>PySem.W.mg_none_of X G z
 exact ⟨m z1,m z2,m z3,m z4,m z5,m z6,m z7,m z8,m z9,m z10,m z11,m z12,m z13,m z14,m z15,m z16,m z17,m z18,m z19,m z20,m z21⟩
end
end MR

namespace MR
open PySem PySem.Spec PyProof.Rows L2 L3
section
variable {X:Cx}{sf sg:Nat->Option Nat}{C:M.Call}{pos p p2 p3:Pos}{ea eb ec:Expr}{a b c:M.E}{h:Bool}{n:Nat}{io:List Nat}{K:a0a}
theorem dn {Z:Fp}{H:Hp}{G:Fp}{m:M.Md}{t:M.T}{x:V}(hf:M.flatT t=true)(r:Rep K Z H m t x G):cH x=true/\∀ (u:M.T) (y:V) {m':M.Md} {G':Fp},M.flatT u=true->Rep K Z H m' u y G'->eqV y x=M.eqT u t:=by
 cases t with
 | non=>cases r; refine ⟨rfl,fun u y m' G' hu ru=>?_⟩; cases u<;>first | (cases ru; rfl) | (obtain ⟨e,_⟩:=ru; cases e; rfl) | cases hu
 | bl b=>cases r; refine ⟨rfl,fun u y m' G' hu ru=>?_⟩; cases u<;>first | (cases ru; rfl) | (cases ru; cases b<;>rfl) | (obtain ⟨e,_⟩:=ru; cases e; rfl) | cases hu
 | int i=>cases r; refine ⟨rfl,fun u y m' G' hu ru=>?_⟩; cases u with
  | bl c=>cases ru; cases c<;>rfl
  | _=>first | (cases ru; rfl) | (obtain ⟨e,_⟩:=ru; cases e; rfl) | cases hu
 | str z=>obtain ⟨e,_⟩:=r; cases e; refine ⟨rfl,fun u y m' G' hu ru=>?_⟩; cases u<;>first | (cases ru; rfl) | (obtain ⟨e,_⟩:=ru; cases e; rfl) | cases hu
 | _=>cases hf
theorem iC {Z:Fp}{H:Hp}{G:Fp}{m:M.Md}{t:M.T}{x:V}(hf:M.flatT t=true)(r:Rep K Z H m t x G):∀ {ts:List M.T} {xs:List V} {m':M.Md} {G':Fp},ts.all M.flatT=true->RepL K Z H m' ts xs G'->xs.all cH=true/\L2.inV x xs=ts.any fun u=>M.eqT u t
 | [],_,_,_,_,h=>by cases h; exact ⟨rfl,rfl⟩
 | u::ts,_,m',_,hl,⟨y,ys,G1,G2,e,_,_,_,q,qs⟩=>by
  cases e
  rw [a1J,a0i] at hl
  obtain ⟨h1,h2⟩:=iC hf r hl.2 qs
  refine ⟨by rw [a1J,(dn hl.1 q).1,h1]; rfl,?_⟩
  show (eqV y x || L2.inV x ys)=_
  rw [a2e,h2,(dn hf r).2 u y hl.1 q]
theorem mS {neg:Bool}{u v w:M.W}{o:M.Op}(ho:o=if neg then .notin else .isin)(e:M.oSem o h [u,v]=some w):∃ ts,M.elems v=some ts/\M.flatT u.2=true/\ts.all M.flatT=true/\w=(.d,.bl (if neg then !ts.any (fun t=>M.eqT t u.2) else ts.any fun t=>M.eqT t u.2)):=by
 obtain ⟨m,a⟩:=u; obtain ⟨n,b⟩:=v
 subst ho
 cases neg with
 | true =>
  obtain ⟨ts,h1,h2⟩:=a1K.mp (show (M.elems (n,b)).bind (fun ts=>if (M.flatT a&&ts.all M.flatT)=true then some ((.d,.bl (!ts.any fun t=>M.eqT t a)):M.W) else none)=some w from e)
  split at h2
  ·rename_i hh; rw [a0i] at hh; cases h2; exact ⟨ts,h1,hh.1,hh.2,rfl⟩
  ·cases h2
 | false =>
  obtain ⟨ts,h1,h2⟩:=a1K.mp (show (M.elems (n,b)).bind (fun ts=>if (M.flatT a&&ts.all M.flatT)=true then some ((.d,.bl (ts.any fun t=>M.eqT t a)):M.W) else none)=some w from e)
  split at h2
  ·rename_i hh; rw [a0i] at hh; cases h2; exact ⟨ts,h1,hh.1,hh.2,rfl⟩
  ·cases h2
theorem uU (neg:Bool){o:M.Op}(ho:o=if neg then .notin else .isin):Loc K 2 o h fun xs H Q=>∀ x y,xs=[x,y]->rIn K neg x y H Q:=by
 intro ws w xs Z H G Q hn e r ow za k x y hx
 subst hx
 obtain ⟨⟨m,a⟩,⟨n,b⟩,rfl⟩:=dM r.length.symm
 obtain ⟨G1,G2,w1,w2,d,r1,r2⟩:=b8 r
 obtain ⟨ts,e1,e2,e3,rfl⟩:=mS ho e
 cases b with
 | lst us =>
  cases e1
  obtain ⟨p,xs,rfl,hs,hl,q⟩:=aW r2
  obtain ⟨f1,f2⟩:=iC e2 r1 e3 q
  refine ⟨p,xs,rfl,.inl (.inl (.inl hs)),(dn e2 r1).1,f1,?_⟩
  rw [f2]
  exact bf k
 | tup us =>
  cases e1
  obtain ⟨p,xs,rfl,hs,hl,q⟩:=b7 r2
  obtain ⟨f1,f2⟩:=iC e2 r1 e3 q
  refine ⟨p,xs,rfl,.inr hs,(dn e2 r1).1,f1,?_⟩
  rw [f2]
  exact bf k
 | _=>cases e1
theorem uz (ha:SE X sf C ea a)(hb:SE X sf C eb b)(hm:behindInMarks .In eb=false:=by rfl):SB X sf C (.Compare ea [.In] [eb] pos) (.op .isin h [a,b]):=bW j2 ha hb hm (aO (uU false rfl)) fun u v w e=>by obtain ⟨_,_,_,_,rfl⟩:=mS (neg:=false) rfl e; exact ⟨_,rfl⟩
end
end MR
namespace MR
open PySem PySem.Spec PyProof.Rows L2 L3
end MR
namespace MR
open PySem PySem.Spec PyProof.Rows L2 L3
end MR
namespace MR
open PySem PySem.Spec PyProof.Rows L2 L3
end MR
namespace MR
open PySem PySem.Spec PyProof.Rows L2 L3
end MR

namespace MR
open PySem PySem.W L2 M
end MR

namespace MR
open PySem PySem.Spec PyProof.Rows L2 L3 M
end MR

namespace L3
open PySem PySem.Spec PyProof.Rows L2
end L3
namespace MR
open PySem PySem.Spec PyProof.Rows L2 L3
end MR

namespace L3
open PySem PySem.Spec PyProof.Rows L2
end L3
namespace MR
open PySem PySem.Spec PyProof.Rows L2 L3
end MR

namespace L3
open PySem PySem.Spec PySem.NumText PyProof.Rows L2
theorem ud {i:Int}(h:i.natAbs < 10000000000000000000):i.natAbs.log2 < 1920:=by
 by_cases h0:i.natAbs=0
 ·rw [h0]; decide
 ·exact a0l ((Nat.log2_lt h0).mpr (show i.natAbs < 2 ^ 64 from a0l h (by decide))) (by decide)
theorem mY {n:Int}(h:n.natAbs < 10000000000000000000):(Str.ofString (toString n)).length<=20:=by
 have h2:=int_text_length_le10 (a:=n) (k:=19) (by decide) h
 have:(Str.ofString (toString n)).length=(toString n).length:=by
  show (Str.ofString (toString n)).cps.size=_
  rw [<- a1e,signs_ofString,a0d,a10]
 omega
end L3
namespace MR
open PySem PySem.Spec PyProof.Rows L2 L3
end MR

namespace L3
open PySem PySem.Spec PyProof.Rows L2
end L3
namespace MR
open PySem PySem.Spec PyProof.Rows L2 L3
theorem slx {X:Cx}{sf:Nat->Option Nat}{C:M.Call}{ea:Expr}{a:M.E}{es:List Expr}{bs:List M.E}(ha:SE X sf C ea a)(hb:SL X sf C es bs)(hs:starEach (ea::es) X.env=(false,eval ea X.env)::starEach es X.env):SL X sf C (ea::es) (a::bs):=slc ha hb hs
theorem sTx {X:Cx}{sf:Nat->Option Nat}{C:M.Call}{pos:Pos}{es:List Expr}{bs:List M.E}{x1:Nat}(hn:bs.length<=M.LIM)(h:SL X sf C es bs):SE X sf C (.Tuple es x1 pos) (.tup bs):=sT h hn
theorem sLx {X:Cx}{sf:Nat->Option Nat}{C:M.Call}{pos:Pos}{h:Bool}{es:List Expr}{bs:List M.E}(hn:bs.length<=M.LIM)(hh:SL X sf C es bs):SE X sf C (.List es pos) (.lst h bs):=sLs hh hn
theorem aC {X:Cx}{sf:Nat->Option Nat}{C:M.Call}{pos:Pos}{h:Bool}{ea eb:Expr}{a b:M.E}(ha:SE X sf C ea a)(hb:SE X sf C eb b)(hs:fF eb):SE X sf C (.Subscript ea eb pos) (.op .ix h [a,b]):=sIx ha hb hs
theorem af {X:Cx}{sf:Nat->Option Nat}{C:M.Call}{ea:Expr}{a:M.E}{es:List Expr}{bs:List M.E}(ha:SE X sf C ea a)(hb:SA X sf C es bs)(he:∀ i,a≠.io i)(hs:starEach (ea::es) X.env=(false,eval ea X.env)::starEach es X.env):SA X sf C (ea::es) (a::bs):=sac ha hb he hs
end MR

namespace MR
open PySem PySem.Spec PyProof.Rows L2 L3
theorem walkX {sx:Str}{C:M.Call}{ix k:Nat}{l:a1W}{q:Program}{loose:List Str}{XP:(Str->Option Value)->Heap->Prop}{YP:World->Heap->Prop}{d:DefRec}{K:Params->a0a}(hp:∀ ns:List Int,ns.length<=63->∃ m bs,C ix [(.d,.scr ns)]=.ok ((m,.bl true),bs))(hn:l.most=some 63)(hdf:d.params.defaults=[])(hr:Room k callerA)
  (hY:∀ (w:World) (h:Heap),YP w h->(K w.params).In h)
  (F:∀ (w:World) (mg:Str->Option Value) (fa:Addr) (h:Heap),(K w.params).In h->h.Ns mainGlobals mg->mg d.name=some (.ref fa) ->
   ∃ fd:FuncData,(∀ (s:Shared) (u:Value),BindsTo s fd ⟨[u],[]⟩ [(sx,u)])/\∀ base:Heap,(K w.params).In base->base.Ns mainGlobals mg->bI l.prog w (K w.params) mg base CX0 k fa fd [sx] (spS (K w.params) C ix [])) :
  a2I q loose XP YP l.row.toRowW d [] (fun f vs=>a2H f vs) :=
 L2.walk_of (n:=63) (k:=k) (x:=sx) (CX:=fun _=>CX0) (sp:=fun w=>spS (K w.params) C ix []) hn (by decide) hdf hr hY F (fun _ _ a ns hl hO hS=>uS (hp ns hl) hl hO hS) fun _ _ _ _ _ z=>z
theorem qr {sx:Str}{w:World}{K:a0a}{mg:Str->Option Value}{st:Stmt}{h:Heap}{fa:Addr}{pr:Program}{k:Nat}{sp:Sp}(X:K.In h)(G:h.Ns mainGlobals mg)(hfa:mg "law"=some (.ref fa))(r:Raw K "law" st .none)(hb:∀ (kV dc pm:Value) (an:Option Addr) (cd ct:Value) (s:Shared) (v:Value),BindsTo s (a0I "law" "law" (defArgs st) (defBody st) (defScope st) .none kV dc pm an cd ct) ⟨[v],[]⟩ [(sx,v)])
  (ok:∀ f fd,Fun K "law" "law" st f fd->∀ base,bI pr w K mg base CX0 k f fd [sx] sp):∃ fd:FuncData,(∀ (s:Shared) (v:Value),BindsTo s fd ⟨[v],[]⟩ [(sx,v)])/\∀ base:Heap,K.In base->base.Ns mainGlobals mg->bI pr w K mg base CX0 k fa fd [sx] sp:=by
 obtain ⟨f,oc,od,sl,kV,dc,pm,an,cd,ct,h1,h2,h3,h4⟩:=r
 have e:=hfa.symm.trans (a1s X G h1)
 cases e
 exact ⟨_,hb kV dc pm an cd ct,fun base _ _=>ok _ _ (mU (st:=st) h2 h3 h4) base⟩
end MR

namespace L3
open PySem PySem.Spec PyProof.Rows L2
end L3
namespace MR
open PySem PySem.Spec PyProof.Rows L2 L3
end MR

namespace L3
open PySem PySem.Spec PyProof.Rows L2
end L3
namespace MR
open PySem PySem.Spec PyProof.Rows L2 L3
end MR

namespace L3
open PySem PySem.Spec PyProof.Rows L2
end L3
namespace MR
open PySem PySem.Spec PyProof.Rows L2 L3
end MR

namespace L3
open PySem PySem.Spec PyProof.Rows L2
end L3
namespace MR
open PySem PySem.Spec PyProof.Rows L2 L3
end MR

namespace MR
open L2 L3 M
open PySem (Addr Str sizeLine)
end MR
namespace MR
open PySem PySem.Spec PyProof.Rows L2 L3
end MR

namespace L3
open PySem PySem.Spec PyProof.Rows L2
end L3

namespace L3
open PySem PySem.Spec PyProof.Rows L2
end L3
namespace MR
open PySem PySem.Spec PyProof.Rows L2 L3
end MR

namespace L3
open PySem PySem.Spec PySem.NumText PyProof.Rows L2
theorem gV {X:Cx}(hg:X.A.guards=some [])(hu:X.A.units+200 < cLine):cI X (.builtin "repr") (fun xs H Q=>∃ x t,xs=[x]/\Has X.K H t x/\(toD t).showable=true/\(toD t).hasDict=false/\(toD t).depth<=64/\(toD t).shown.length<=sizeLine/\Q (.str (toD t).shown) H):=by
 intro pins s σ H xs us Q I r h
 obtain ⟨x,t,rfl,ht,hs,hd,hp,hl,q⟩:=h
 obtain ⟨u,rfl,ru⟩:=eX r
 obtain ⟨as,ra⟩:=Has.reads I ht ru
 have key:∀ a,u=.ref a->wpAny (model X.prog X.w) X.A (call (.builtin "repr") [u]) (EP X pins σ Q) X.xe s:=fun a e=>by
  subst e
  exact repr_of_reads' ra hs (PyData.noDict_hsm hd) hg (by omega) (fun _ _ e=>e) (fun h' u tk hk=>⟨.str _,H,I.kept hk,⟨_,rfl⟩,q⟩) hl
 cases t with
 | non =>
  obtain rfl:x=V.non:=ht
  obtain rfl:u=Value.none:=ru
  exact PySem.P.repr_of_none ⟨.str _,H,I.tok _,⟨_,rfl⟩,q⟩
 | bl b =>
  obtain rfl:x=V.bl b:=ht
  obtain rfl:u=Value.bool b:=ru
  exact PySem.P.repr_of_bool ⟨.str _,H,I.tok _,⟨_,by cases b<;>rfl⟩,q⟩
 | int i =>
  obtain rfl:x=V.int i:=ht
  obtain ⟨t,rfl⟩:∃ t,u=Value.int i t:=ru
  exact PySem.P.repr_of_int (of_decide_eq_true hs) ⟨.str _,H,I.tok _,⟨_,rfl⟩,q⟩
 | str z =>
  obtain rfl:x=V.str z:=ht
  obtain ⟨t,rfl⟩:∃ t,u=Value.str z t:=ru
  exact PySem.P.repr_of_str ⟨.str _,H,I.tok _,⟨_,rfl⟩,q⟩ hl
 | tup ts =>
  obtain ⟨a,vs,rfl,_,_⟩:=ht
  exact key a ru
 | lst ts =>
  obtain ⟨a,vs,rfl,_,_⟩:=ht
  exact key a ru
end L3
namespace MR
open PySem PySem.Spec PyProof.Rows L2 L3
mutual
theorem fH:∀ t:M.T,toD (th t)=M.datT t
 | .non=>rfl
 | .bl _=>rfl
 | .int _=>rfl
 | .str _=>rfl
 | .tup ts=>congrArg PyData.tuple (fD ts)
 | .lst ts=>congrArg PyData.list (fD ts)
 | .dct _ _=>rfl
 | .ins _ _ _=>rfl
 | .scr _=>rfl
 | .gone=>rfl
theorem fD:∀ ts:List M.T,cX (ths ts)=M.datTs ts
 | []=>rfl
 | t::ts=>by
  show toD (th t)::cX (ths ts)=M.datT t::M.datTs ts
  rw [fH t,fD ts]
end
noncomputable def cW (ss:List Str):Nat:=(ss.map fun s=>s.cps.size+2).sum
theorem cS (p q:Str):(p++q).cps.size=p.cps.size+q.cps.size:=a2l ..
theorem nM:∀ (ss:List Str) (k:Nat) (acc:Str),M.sOk acc=true->(∀ s∈ss,M.sOk s=true)->acc.cps.size+cW ss<=M.LIM->M.sOk (textFrom k acc ss)=true/\(textFrom k acc ss).cps.size<=acc.cps.size+cW ss
 | [],_,acc,h,_,hl=>⟨h,by show acc.cps.size<=_; omega⟩
 | s::ss,k,acc,h,hs,hl=>by
  have hp:cW (s::ss)=s.cps.size+2+cW ss:=by unfold cW; rw [a0y,a1L]
  have h1:=hs s a0g
  have key:∀ z:Str,M.sOk z=true->z.cps.size<=2->M.sOk (textFrom (k+1) (acc++z++s) ss)=true/\(textFrom (k+1) (acc++z++s) ss).cps.size<=acc.cps.size+cW (s::ss):=fun z hz hz2=>by
   have e1:(acc++z).cps.size=acc.cps.size+z.cps.size:=cS _ _
   have e2:(acc++z++s).cps.size=acc.cps.size+z.cps.size+s.cps.size:=by rw [cS,e1]
   obtain ⟨a,b⟩:=nM ss (k+1) (acc++z++s) (bz (bz h hz (by omega)) h1 (by omega)) (fun x hx=>hs x (a0c _ hx)) (by omega)
   exact ⟨a,by omega⟩
  show M.sOk (textFrom (k+1) (acc++(if k > 0 then ", " else "":String)++s) ss)=true/\(textFrom (k+1) (acc++(if k > 0 then ", " else "":String)++s) ss).cps.size<=_
  split
  ·exact key (Str.ofString ", ") (aT _ (by decide)) (by decide)
  ·exact key (Str.ofString "") (aT _ (by decide)) (by decide)
theorem jq:∀ (ss:List Str),(∀ s∈ss,M.sOk s=true)->cW ss<=M.LIM->M.sOk (Str.join ", " ss)=true/\(Str.join ", " ss).cps.size<=cW ss
 | [],_,_=>⟨aT "" (by decide),a0W _⟩
 | [s],hs,hl=>⟨hs s a0g,by show s.cps.size<=(s.cps.size+2)+0; omega⟩
 | s::u::ss,hs,hl=>by
  have hp:cW (s::u::ss)=s.cps.size+2+cW (u::ss):=by unfold cW; rw [a0y,a1L]
  obtain ⟨a,b⟩:=jq (u::ss) (fun x hx=>hs x (a0c _ hx)) (by omega)
  have e0:Str.join ", " (s::u::ss)=s++Str.ofString ", "++Str.join ", " (u::ss):=rfl
  have z2:(Str.ofString ", ").cps.size=2:=by decide
  have e1:(s++Str.ofString ", ").cps.size=s.cps.size+2:=by rw [cS,z2]
  rw [e0]
  refine ⟨bz (bz (hs s a0g) (aT _ (by decide)) (by omega)) a (by omega),?_⟩
  rw [cS,e1]; omega
mutual
theorem ig:∀ t:M.T,M.rOk t=true->M.szR t<=M.LIM->(M.datT t).showable=true/\M.sOk (M.datT t).shown=true/\(M.datT t).shown.cps.size<=M.szR t
 | .non,_,_=>⟨rfl,aT _ (by decide),by decide⟩
 | .bl b,_,_=>⟨rfl,by cases b<;>exact aT _ (by decide),by cases b<;>decide⟩
 | .int i,h,_=>by
  have hb:i.natAbs < 10000000000000000000:=of_decide_eq_true h
  have hl:=mY hb
  have h2:=int_text_length_le10 (a:=i) (k:=19) (by decide) hb
  exact ⟨decide_eq_true (ud hb),aT _ (by omega),a0j hl (show 20<=100 by decide)⟩
 | .str x,h,_=>by
  have h:(decide ((a1C x).length<=100)&&M.sOk (a1C x))=true:=h
  rw [a0i] at h
  exact ⟨rfl,h.2,of_decide_eq_true h.1⟩
 | .tup ts,h,hl=>by
  have hl':M.szRs ts+4<=M.LIM:=hl
  obtain ⟨a,b,c⟩:=dw ts h (by omega)
  obtain ⟨d,e⟩:=jq _ b (by omega)
  refine ⟨a,?_⟩
  show M.sOk (("(":Str)++Str.join ", " (PyData.shownAll (M.datTs ts))++(if (PyData.shownAll (M.datTs ts)).length==1 then ",)" else ")":String))=true/\(("(":Str)++Str.join ", " (PyData.shownAll (M.datTs ts))++(if (PyData.shownAll (M.datTs ts)).length==1 then ",)" else ")":String)).cps.size<=M.szRs ts+4
  have z1:(Str.ofString "(").cps.size=1:=by decide
  have e1:(Str.ofString "("++Str.join ", " (PyData.shownAll (M.datTs ts))).cps.size=1+(Str.join ", " (PyData.shownAll (M.datTs ts))).cps.size:=by rw [cS,z1]
  have key:∀ z:Str,M.sOk z=true->z.cps.size<=2->M.sOk (Str.ofString "("++Str.join ", " (PyData.shownAll (M.datTs ts))++z)=true/\(Str.ofString "("++Str.join ", " (PyData.shownAll (M.datTs ts))++z).cps.size<=M.szRs ts+4:=fun z hz hz2 =>
   ⟨bz (bz (aT _ (by decide)) d (by omega)) hz (by omega),by rw [cS,e1]; omega⟩
  split
  ·exact key (Str.ofString ",)") (aT _ (by decide)) (by decide)
  ·exact key (Str.ofString ")") (aT _ (by decide)) (by decide)
 | .lst ts,h,hl=>by
  have hl':M.szRs ts+4<=M.LIM:=hl
  obtain ⟨a,b,c⟩:=dw ts h (by omega)
  have z1:(Str.ofString "[").cps.size=1:=by decide
  have z2:(Str.ofString "]").cps.size=1:=by decide
  obtain ⟨d,e⟩:=nM _ 0 (Str.ofString "[") (aT _ (by decide)) b (by omega)
  refine ⟨a,?_⟩
  show M.sOk (textFrom 0 (Str.ofString "[") (PyData.shownAll (M.datTs ts))++Str.ofString "]")=true/\(textFrom 0 (Str.ofString "[") (PyData.shownAll (M.datTs ts))++Str.ofString "]").cps.size<=M.szRs ts+4
  exact ⟨bz d (aT _ (by decide)) (by omega),by rw [cS]; omega⟩
 | .dct _ _,h,_=>by cases h
 | .ins _ _ _,h,_=>by cases h
 | .scr _,h,_=>by cases h
 | .gone,h,_=>by cases h
theorem dw:∀ ts:List M.T,M.rOks ts=true->M.szRs ts<=M.LIM->PyData.showableAll (M.datTs ts)=true/\(∀ s∈PyData.shownAll (M.datTs ts),M.sOk s=true)/\cW (PyData.shownAll (M.datTs ts))<=M.szRs ts
 | [],_,_=>⟨rfl,(fun _ h=>nomatch h),a0b _⟩
 | t::ts,h,hl=>by
  have hl':M.szR t+2+M.szRs ts<=M.LIM:=hl
  have h':(M.rOk t&&M.rOks ts)=true:=h
  rw [a0i] at h'
  obtain ⟨a,b,c⟩:=ig t h'.1 (by omega)
  obtain ⟨d,e,f⟩:=dw ts h'.2 (by omega)
  refine ⟨?_,fun s hs=>?_,?_⟩
  ·show ((M.datT t).showable&&PyData.showableAll (M.datTs ts))=true
   rw [a,d]; rfl
  ·have hs:s∈(M.datT t).shown::PyData.shownAll (M.datTs ts):=hs
   rcases a0v.mp hs with rfl | hs
   ·exact b
   ·exact e s hs
  ·show cW ((M.datT t).shown::PyData.shownAll (M.datTs ts))<=M.szR t+2+M.szRs ts
   unfold cW at f ⊢
   rw [a0y,a1L]; omega
end
section
variable {X:Cx}{sf sg:Nat->Option Nat}{C:M.Call}{pos p p2 p3:Pos}{ea eb ec:Expr}{a b c:M.E}{h:Bool}{n:Nat}{io:List Nat}{K:a0a}
theorem kY:Loc K 1 .repr h fun xs H Q=>∃ x t,xs=[x]/\Has K H t x/\(toD t).showable=true/\(toD t).hasDict=false/\(toD t).depth<=64/\(toD t).shown.length<=sizeLine/\Q (.str (toD t).shown) H:=by
 intro ws w xs Z H G Q hn e r ow za k
 match ws,hn with
 | [(m,a)],_ =>
  obtain ⟨x,rfl,r1⟩:=b4 rfl r
  have e2:(if (decide (M.dp a<=64)&&M.rOk a&&M.fits (M.szR a))=true then some ((.d,.str (M.datT a).shown):M.W) else none)=some w:=e
  split at e2
  ·rename_i hb
   cases e2
   rw [a0i,a0i,decide_eq_true_eq] at hb
   obtain ⟨⟨h1,h2⟩,h3⟩:=hb
   have h3:M.szR a<=M.LIM:=of_decide_eq_true h3
   obtain ⟨o1,o2,o3⟩:=fT (n:=64) h1 (a0b _) r1
   obtain ⟨s1,s2,s3⟩:=ig a h2 h3
   refine ⟨x,th a,rfl,o1,?_,PyData.hasDict_of_canLay _ o2,o3,?_,?_⟩
   ·rw [fH]; exact s1
   ·rw [fH]; exact bg (a0j s3 h3)
   ·rw [fH]; exact gp k s2
  ·cases e2
theorem rj (hr:Room n X.A)(hm:X.mg "repr"=none)(hg:Gl X "repr":=by rfl)(ha:SE X sf C ea a)(hs:starEach [ea] X.env=(false,eval ea X.env)::starEach [] X.env:=by rfl)(hpl:(backTo pos (starEach [] X.env)).any (·.1)=false:=by rfl):SE X sf C (.Call (.Name "repr" p) [ea] [] pos) (.op .repr h [a]) :=
 aA (bJ (gV hr.gu (by have:=hr.un; omega)) hg hm (by rfl) (slc ha sl0 hs) (by decide) (by decide) hs hpl) (fk kY rfl)
end
end MR

namespace MR
open PySem PySem.Spec PyProof.Rows L2 L3
section
variable {X:Cx}{sf sg:Nat->Option Nat}{C:M.Call}{pos p p2 p3:Pos}{ea eb ec:Expr}{a b c:M.E}{h:Bool}{n:Nat}{io:List Nat}{K:a0a}
theorem qJ {o o':Option M.W}{w:M.W}(e:M.ixVT o o'=some w):∃ m ts n j t,o=some (m,.lst ts)/\m.kid=.s/\o'=some (n,.int j)/\M.atI ts j=some t/\w=(.s,t):=by
 unfold M.ixVT at e
 split at e
 ·rename_i ts n j
  cases e1:M.atI ts j with
  | none=>rw [e1] at e; cases e
  | some t=>rw [e1] at e; cases e; exact ⟨_,ts,n,j,t,rfl,rfl,rfl,e1,rfl⟩
 ·rename_i ts n j
  cases e1:M.atI ts j with
  | none=>rw [e1] at e; cases e
  | some t=>rw [e1] at e; cases e; exact ⟨_,ts,n,j,t,rfl,rfl,rfl,e1,rfl⟩
 ·cases e
theorem xQ (j l:Nat){i k:Nat}{x y:Str}{px py:Pos}(hs:sf i=some j:=by rfl)(hs':sf k=some l:=by rfl)(hN:X.N[j]?=some x:=by rfl)(hN':X.N[l]?=some y:=by rfl)
  (hv:Vis X.env.scope x:=by first | exact a0B rfl | exact a0u (a0B rfl) | exact a0u (a0u rfl)) (hv':Vis X.env.scope y:=by first | exact a0B rfl | exact a0u (a0B rfl) | exact a0u (a0u rfl))
  (hd:(x==("__debug__":Str))=false:=by decide) (hd':(y==("__debug__":Str))=false:=by decide) (hcd:(x==("__classdict__":Str))=false:=by decide) (hcd':(y==("__classdict__":Str))=false:=by decide) :
  SE X sf C (.Subscript (.Name x px) (.Name y py) pos) (.ixV i k) :=
 aA (rh ix_any (cf hN hv hd hcd) (cf hN' hv' hd' hcd') (by intro _ _; rfl)) fun σ H Q hw=>by
  obtain ⟨pv,Z,Fs,η,w,η',A,ev,kk⟩:=hw
  obtain ⟨w',e1,e2⟩:=av (show M.ret η (M.ixVT (M.rd η i) (M.rd η k))=_ from ev)
  cases e2
  obtain ⟨m,ts,n,q,t,r1,hm,r2,r3,rfl⟩:=qJ e1
  obtain ⟨v,rv,hv1⟩:=A.env i m (.lst ts) r1
  obtain ⟨u,ru,hv2⟩:=A.env k n (.int q) r2
  obtain ⟨a,xs,rfl,hs1,hl,p⟩:=aW rv
  rw [hm] at p
  obtain ⟨z,hz,rz⟩:=iV p r3
  obtain rfl:u=V.int q:=ru
  exact ⟨.ref a,hv1.1 j hs,.int q,hv2.1 l hs',a,xs,q,z,rfl,rfl,.inl (.inl (.inl hs1)),hz,kk z Z H Fs no A rz.sany ((Step.refl _ _ _).mono (fun _ z=>z) fun a ha=>ha.elim id fun z=>z.elim)⟩
end
end MR

namespace TP
open PySem PySem.W
noncomputable def en (P:Params)(k:Str)(t:Nat)(v:Value):DictEntry:=⟨PyData.keyHash P k,.str k t,v⟩
noncomputable def tu (xs:List Value):Obj:=⟨.type "tuple",none,.seq xs.toArray 0,#[]⟩
noncomputable def fe (xs:List Value):Obj:=⟨.none,none,.fields xs.toArray,#[]⟩
noncomputable def di (es:List DictEntry)(n:Nat):Obj:=⟨.type "dict",none,.dict es.toArray n,#[]⟩
noncomputable abbrev fl:Str:="/claim/cut.py"
noncomputable def iv (i:Int):Value:=.int i 0
noncomputable def cdo (n q:Str)(t t2:Nat)(ln ac:Nat)(f:Nat)(a:Nat)(b:Bool)(x y z:Value):Obj :=
 ⟨.type "code",none,.fields #[.str n t,.str q (t+1),.str fl (t+2),iv ln,iv ac,iv 0,iv 0,iv f,.ref a,.bool b,iv 181,.ref (a+1),.none,x,y,z,iv t2,iv ln,.str fl (t2+1)],#[]⟩
noncomputable def ofn (c:Value)(st:Stmt)(q:Str)(g:Nat)(d m:Value)(cd:Value):Obj:=match st with
 | .FunctionDef n ar b _ _ _ sc _ _ _=>⟨c,none,.func { name:=n,qualname:=q,params:=ar,body:=.stmts b,scope:=sc,globals:=g,closure:=[],defaults:=d,kwdefaults:=.none,pyModule:=m,code:=cd },#[]⟩
 | _=>default
noncomputable def tks:List Str->Nat->List Value
 | [],_=>[]
 | x::r,t=>.str x t::tks r (t+1)
structure R where
 os:List Obj
 ns:List DictEntry
 tb:List Value
 n:Nat
 tk:Nat
 md:Value
inductive Rc where
 | d | m | c
 | x (k:Str) (kt:Nat) (v:Value) (os:Params->List Obj) (tb:List Value) (n tk:Nat)
noncomputable def cv:Expr->Value
 | .Constant (.bool b) _ _=>.bool b
 | _=>.none
noncomputable def dO (P:Params)(n tk:Nat)(md:Value)(st:Stmt):R:=match st with
 | .FunctionDef nm ar b _ _ _ sc _ _ pos =>
  let pr:List Obj×Value×Nat:=match ar.defaults with
   | []=>([],.none,n)
   | ds=>([tu (ds.map cv)],.ref n,n+1)
  let a:=pr.2.2
  match localNames ar sc (.stmts b) with
  | none=>⟨pr.1++[tu [],fe [],ofn .none st nm 0 .none .none .none,cdo nm nm tk (tk+3) pos.line ar.args.length 3 a true .none .none (.ref (a+2)),ofn (.type "function") st nm 3 pr.2.1 md (.ref (a+3))],
    [en P nm (tk+5) (.ref (a+4))],[iv pos.line,iv pos.col,.ref (a+3)],a+5,tk+6,md⟩
  | some l =>
   let k:=l.1.length
   let j:=l.2.length
   ⟨pr.1++[tu [],fe [],tu (tks l.1 (tk+3)),tu (tks l.2 (tk+3+k)),ofn .none st nm 0 .none .none .none,cdo nm nm tk (tk+3+k+j) pos.line ar.args.length 3 a true (.ref (a+2)) (.ref (a+3)) (.ref (a+4)),ofn (.type "function") st nm 3 pr.2.1 md (.ref (a+5))],
    [en P nm (tk+5+k+j) (.ref (a+6))],[iv pos.line,iv pos.col,.ref (a+5)],a+7,tk+6+k+j,md⟩
 | _=>⟨[],[],[],n,tk,md⟩
noncomputable def one (P:Params)(n tk:Nat)(md:Value)(st:Stmt):Rc->R
 | .d=>dO P n tk md st
 | .m=>match st with
  | .Assign _ (.Constant (.str s) _ _) _=>⟨[],[],[],n,tk+2,.str s tk⟩
  | _=>⟨[],[],[],n,tk,md⟩
 | .c=>match st with
  | .Assign (.Name x _::_) (.Constant (.str s) _ _) _=>⟨[],[en P x (tk+1) (.str s tk)],[],n,tk+2,md⟩
  | .Assign (.Name x _::_) (.Constant (.int i) _ _) _=>⟨[],[en P x (tk+1) (.int i tk)],[],n,tk+2,md⟩
  | _=>⟨[],[],[],n,tk,md⟩
 | .x k kt v os tb n' tk'=>⟨os P,[en P k kt v],tb,n',tk',md⟩
noncomputable def go (P:Params):List (Stmt×Rc)->Nat->Nat->Value->List R
 | [],_,_,_=>[]
 | (st,r)::l,n,tk,md=>let x:=one P n tk md st r
  x::go P l x.n x.tk x.md
noncomputable def wj (x:R):List R->R
 | []=>x
 | y::l=>wj y l
noncomputable def ds:Data->List DictEntry
 | .dict es _=>es.toList
 | _=>[]
noncomputable def ep:Data->Nat
 | .dict _ n=>n
 | _=>0
noncomputable def r0:R:=⟨[],[],[],15,187,.str "__main__" 164⟩
noncomputable def rs (P:Params)(l:List (Stmt×Rc)):List R:=go P l 15 187 (.str "__main__" 164)
noncomputable def o3 (P:Params)(l:List R):Obj:=di (en P "__name__" 165 (wj r0 l).md::((ds (boot_o_3 P).data).tail++l.flatMap R.ns)) (ep (boot_o_3 P).data+(l.flatMap R.ns).length)
noncomputable def os (P:Params)(l:List R):List Obj :=
 boot_o_0 P::boot_o_1 P::boot_o_2 P::o3 P l::boot_o_4 P::boot_o_5 P::boot_o_6 P::boot_o_7 P::boot_o_8 P::boot_o_9 P::boot_o_10 P ::
 tu []::fe (l.flatMap R.tb)::cdo "<module>" "<module>" 182 185 1 0 0 11 false .none .none .none ::
 ⟨.type "frame",none,.plain,#[some (.ref 13),some (.ref 3),some (.ref 3),none,some (.str "__main__" 164),none,some (.ref 0)]⟩::l.flatMap R.os
noncomputable def odd {α:Type}:List α->List α×List α
 | []=>([],[])
 | x::l=>(x::(odd l).2,(odd l).1)
noncomputable def bt:Nat->List Obj->BT
 | 0,_=>.nil
 | _+1,[]=>.nil
 | k+1,x::l=>.node x (bt k (odd l).1) (bt k (odd l).2)
noncomputable abbrev p0:Pos:=⟨0,0,0,0⟩
noncomputable abbrev B0:List Frame:=[topFrame p0]
noncomputable abbrev an:Option Value:=some (.ref 6)
noncomputable def ev (p:Program):Env:={ scope:=p.main.scope,locals:=mainNs,globals:=mainNs,cells:=[],code:=.ref 13,frame:=some 14 }
noncomputable def cE (p:Program):Code:=.body (behindTheImports p) (ev p)
noncomputable def sT (p:Program)(rc:List Rc)(P:Params)(m n tk:Nat)(o:OsState):SharedT:=⟨bt 12 (os P (rs P ((p.main.body.zip rc).take m))),n,{},#[],{},tk,o⟩
noncomputable def hp (p:Program)(rc:List Rc)(m n:Nat)(P:Params):Heap:=absHeap (bt 12 (os P (rs P ((p.main.body.zip rc).take m)))) n {}
noncomputable def Cut (p:Program)(rc:List Rc)(i n t:Nat)(ps:Pos)(k N n' t':Nat)(ps':Pos)(w:World):Prop:=∀ o,segRunT treeTable p w 11 an 1 N (sT p rc w.params i n t o) (piecesOf ((p.main.body.drop i).take k) (ev p) (cE p) ps B0)=some (.next,sT p rc w.params (i+k) n' t' o,cE p,ps')
noncomputable def Ch (p:Program)(rc:List Rc)(m n1 t1:Nat)(i n t:Nat)(ps:Pos)(M:Nat):Prop:=∀ w o,topRun treeTable p w 11 an M (sT p rc w.params i n t o).abs (restOf (p.main.body.drop i) (ev p) (cE p) ps B0)=some (sT p rc w.params m n1 t1 o).abs
theorem qA {p:Program}{rc:List Rc}{m n1 t1 i n t k N n' t' M:Nat}{ps ps':Pos}(c:∀ w,Cut p rc i n t ps k N n' t' ps' w)(h:Ch p rc m n1 t1 (i+k) n' t' ps' M):Ch p rc m n1 t1 i n t ps (N+M):=fun w o=>by
 have x:=piece_app (segRun_of (c w o)) (h w o)
 rw [<- List.drop_drop,a1o] at x
 exact x
theorem tZ {p:Program}{rc:List Rc}{m n1 t1:Nat}{ps:Pos}(hd:p.main.body.drop m=[]):Ch p rc m n1 t1 m n1 t1 ps 2:=fun w o=>by
 rw [hd]
 exact piece_nil rfl
theorem qd (w:World):((boot_heap w.params).isNs mainGlobals&&(a2L []:Array GenState).size==0,(boot_heap w.params).objs.size,(boot_heap w.params).nsMap mainGlobals "__annotations__")=(true,11,an):=by kernel_rfl
theorem qv {p q:Program}{loose:List Str}{Xt:Shared->Bool}{α:Type}{Yf:Shared->α}{Ya:World->α}{N M m n1 t1:Nat}{rc:List Rc}
  (e:opening p=plainProg p.main.scope.names) (hN:Nat.ble 600 N=true) (f:∀ s,fenceModules? p s=some s) (hb:behindTheImports p=p.main.body)
  (size:∀ w:World,((boot_heap w.params).isNs mainGlobals&&(a2L []:Array GenState).size==0,(boot_heap w.params).objs.size,(boot_heap w.params).nsMap mainGlobals "__annotations__")=(true,11,an))
  (pre:∀ (w:World) (o:OsState),topGo treeTable p w 11 an 12 ⟨boot_heap w.params,a2L [],boot_drawn,boot_toks,o⟩ (topStub p)=some ((sT p rc w.params 0 15 187 o).abs,⟨denote treeTable (cE p),cE p,p0,B0⟩))
  (blk:∀ (w:World) (o:OsState),segRun treeTable p w 11 an 1 1 (sT p rc w.params 0 15 187 o).abs (blockOf (behindTheImports p) (ev p) (cE p) p0 B0)=some (.next,(sT p rc w.params 0 15 187 o).abs,cE p,p0))
  (ch:Ch p rc m n1 t1 0 15 187 p0 M) (le:Nat.ble (12+(1+M)) N=true)
  (looks:∀ w:World,(fun o=>((staticsOk (importedModules p.main.body) (boot_heap w.params) (hp p rc m n1 w.params)&&namesBound p (hp p rc m n1 w.params)&&gensDone ⟨hp p rc m n1 w.params,#[],{},t1,o⟩&&laidKept (boot_heap w.params) (hp p rc m n1 w.params)),
    openSeen q loose (importedModules p.main.body) Xt true ⟨hp p rc m n1 w.params,#[],{},t1,o⟩,Yf ⟨hp p rc m n1 w.params,#[],{},t1,o⟩))=fun _=>(true,openGood q loose,Ya w)):LeftO p q loose Xt Yf Ya N :=
 LeftO.of_pieces (H₀:=boot_heap) (H₁:=hp p rc m n1) (gs₁:=#[]) (d₁:={}) (k₁:=t1) (boot_open e hN f) size
  (fun w o=>go_top (pre w o) (piece_block (blk w o) (by have x:=ch w o; rw [a1E,<- hb] at x; exact x))) le looks
noncomputable def cb (st:Stmt)(j:Nat):Stmt:=match st with
 | .ClassDef _ _ _ b _ _ _ _ _ _ _=>b.getD j st
 | _=>st
noncomputable def drec (st:Stmt):PySem.DefRec:=match st with
 | .FunctionDef n a b _ _ _ sc _ _ pos=>⟨n,a,b,sc,pos⟩
 | _=>⟨default,default,[],default,default⟩
theorem dU {α:Type}:∀ (l:List α) (i:Nat),(odd l).1[i]?=l[2 * i]?/\(odd l).2[i]?=l[2 * i+1]?
 | [],i=>by simp [odd]
 | x::l,i=>by
  refine ⟨?_,?_⟩
  ·cases i with
   | zero=>simp [odd]
   | succ j=>rw [show 2 * (j+1)=2 * j+1+1 by omega]; simp only [odd,a0s]; exact (dU l j).2
  ·simp only [odd,a0s]; exact (dU l i).1
theorem jd {α:Type}:∀ (l:List α),(odd l).1.length=(l.length+1) / 2/\(odd l).2.length=l.length / 2
 | []=>by simp [odd]
 | x::l=>by
  have h:=jd l
  simp only [odd,a0n,h.1,h.2]
  exact ⟨by omega,trivial⟩
theorem iH:∀ (k:Nat) (l:List Obj) (a:Nat),l.length < 2 ^ k->(bt k l).get a=l[a]?
 | 0,l,a,h=>by
  have:l=[]:=List.length_eq_zero_iff.mp (by simpa using h)
  subst this; simp [bt,BT.get]
 | k+1,[],a,h=>by simp [bt,BT.get]
 | k+1,x::l,a,h=>by
  have e:2 ^ (k+1)=2 * 2 ^ k:=by rw [a2o]; omega
  have hl:=jd l
  simp only [a0n] at h
  unfold bt
  rw [BT.get_node]
  by_cases h0:a=0
  ·simp [h0]
  ·rw [if_neg h0]
   by_cases h1:a % 2=1
   ·rw [if_pos h1,iH k _ _ (by omega),(dU l (a / 2)).1]
    obtain ⟨b,rfl⟩:∃ b,a=b+1:=⟨a-1,by omega⟩
    rw [a0s]; congr 1; omega
   ·rw [if_neg h1,iH k _ _ (by omega),(dU l (a / 2-1)).2]
    obtain ⟨b,rfl⟩:∃ b,a=b+1:=⟨a-1,by omega⟩
    rw [a0s]; congr 1; omega
noncomputable def lL (p:Program)(rc:List Rc)(m:Nat)(P:Params):List Obj:=os P (rs P ((p.main.body.zip rc).take m))
noncomputable def kK (p:Program)(rc:List Rc)(m:Nat)(as:List Addr)(P:Params):Frag:=as.map fun a=>(a,(lL p rc m P).getD a default)
noncomputable def okO:Option Obj->Bool
 | some ⟨_,_,.freed,_⟩=>false
 | some _=>true
 | none=>false
theorem jG {p:Program}{rc:List Rc}{m:Nat}{P:Params}{a:Addr}{o:Obj}:∀ {as:List Addr},(kK p rc m as P).lookup a=some o->a∈as/\o=(lL p rc m P).getD a default
 | [],h=>by simp [kK] at h
 | b::as,h=>by
  unfold kK at h
  rw [a0y,a1M] at h
  by_cases e:a=b
  ·subst e
   rw [beq_self_eq_true] at h
   exact ⟨a0g ..,(a0p h).symm⟩
  ·rw [beq_false_of_ne e] at h
   have x:=jG (as:=as) h
   exact ⟨a0c _ x.1,x.2⟩
noncomputable def hkk (p:Program)(rc:List Rc)(m n:Nat):Hook where
 α:=Array Obj
 obs s:=s.heap.objs
 val w:=(hp p rc m n w.params).objs
 says w h:=∀ a o,(hp p rc m n w.params).get? a=some o->h.get? a=some o
 of w s e a o x:=by unfold Heap.get? at *; rw [e]; exact x
 keeps w h h' X k a o x:=k _ _ (X a o x)
theorem y0 {p:Program}{rc:List Rc}{m n:Nat}{as:List Addr}{w:World}{h:Heap}(hl:Nat.blt (lL p rc m w.params).length 4096=true)(hc:(as.all fun a=>Nat.blt a n&&okO (lL p rc m w.params)[a]?)=true)
  (Y:(hkk p rc m n).says w h):(kK p rc m as w.params).In h:=fun a o e=>by
 obtain ⟨e1,e2⟩:=jG e
 obtain ⟨c1,c2⟩:=a1p.mp (a0z.mp hc a e1)
 refine Y a o ?_
 have c3:a < n:=a1X c1
 have c4:(lL p rc m w.params).length < 2 ^ 12:=a1X hl
 have g:=iH 12 (lL p rc m w.params) a c4
 unfold hp Heap.get?
 rw [absHeap_at,if_pos c3]
 show (match some (((bt 12 (lL p rc m w.params)).get a).getD default) with | some ⟨_,_,.freed,_⟩=>none | o=>o)=some o
 rw [g]
 rw [a0r] at e2
 rw [<- e2]
 cases q:(lL p rc m w.params)[a]? with
 | none=>rw [q] at c2; cases c2
 | some x =>
  rw [q] at c2 e2
  have e3:o=x:=e2
  subst e3
  obtain ⟨_,_,d,_⟩:=o
  cases d<;>first | rfl | cases c2
noncomputable def pmO:Option Obj->Value
 | some ⟨_,_,.func f,_⟩=>f.pyModule
 | _=>.none
noncomputable def dvO:Option Obj->Nat
 | some ⟨_,_,.func f,_⟩=>match f.defaults with | .ref a=>a | _=>0
 | _=>0
noncomputable def rfO:Option (Option Value)->Nat
 | some (some (.ref a))=>a
 | _=>0
noncomputable def tkO:Option (Option Value)->Nat
 | some (some (.int _ t))=>t
 | some (some (.str _ t))=>t
 | _=>0
theorem raw_mk {K:Frag}{x:Str}{st:Stmt}{dV:Value}(h1:nsIn K mainGlobals x=some (some (.ref (rfO (nsIn K mainGlobals x)))))
  (h2:K.lookup (rfO (nsIn K mainGlobals x))=some ⟨.type "function",none,.func (fnOf x x (L2.defArgs st) (L2.defBody st) (L2.defScope st) dV .none .none (pmO (K.lookup (rfO (nsIn K mainGlobals x)))) none (.ref (rfO (nsIn K mainGlobals x)-1)) .none),#[]⟩)
  (h3:codeIn K (.ref (rfO (nsIn K mainGlobals x)-1)) x=true) (h4:keepIn K (.ref (rfO (nsIn K mainGlobals x)))=true):MR.Raw K x st dV:=⟨_,_,_,_,_,_,_,_,_,_,h1,h2,h3,h4⟩
theorem rawd_mk {K:Frag}{x:Str}{st:Stmt}{v:Value}(h1:nsIn K mainGlobals x=some (some (.ref (rfO (nsIn K mainGlobals x)))))
  (h2:K.lookup (rfO (nsIn K mainGlobals x))=some ⟨.type "function",none,.func (fnOf x x (L2.defArgs st) (L2.defBody st) (L2.defScope st) (.ref (dvO (K.lookup (rfO (nsIn K mainGlobals x))))) .none .none (pmO (K.lookup (rfO (nsIn K mainGlobals x)))) none (.ref (rfO (nsIn K mainGlobals x)-1)) .none),#[]⟩)
  (h3:codeIn K (.ref (rfO (nsIn K mainGlobals x)-1)) x=true) (h4:keepIn K (.ref (rfO (nsIn K mainGlobals x)))=true) (h5:K.lookup (dvO (K.lookup (rfO (nsIn K mainGlobals x))))=some (tu [v])):MR.RawD K x st v:=⟨_,_,_,raw_mk h1 h2 h3 h4,h5,rfl⟩
end TP

namespace A32
open M
open PySem (Str)
noncomputable abbrev q:=Str.ofString
noncomputable def aq:Fn:={ ps:=2,ns:=0,io:=[],body:=[
  .ite (.q [0] []) (.op .eq false [.op .ix false [.var 0,.cst (.int 0)],.cst (.str (q "num"))]) [
   .ret [] (.call 3 [.mv 1])] [],
  .ite (.q [0] []) (.op .eq false [.op .ix false [.var 0,.cst (.int 0)],.cst (.str (q "truth"))]) [
   .ret [] (.op (.isI ["bool"]) false [.mv 1])] [],
  .ite (.q [0] []) (.op .eq false [.op .ix false [.var 0,.cst (.int 0)],.cst (.str (q "pair"))]) [
   .ret [] (.call 4 [.mv 0,.mv 1])] [],
  .ret [] (.call 5 [.mv 0,.mv 1])] }
noncomputable def az:Fn:={ ps:=1,ns:=0,io:=[],body:=[
  .ite (.q [0] []) (.or (.not (.op (.isI ["int"]) false [.var 0])) (.op (.isI ["bool"]) false [.var 0])) [
   .ret [] (.cst (.bl false))] [],
  .ret [] (.chain .le .le (.op .neg false [.cst (.int 1000000000000000000)]) (.mv 0) (.cst (.int 1000000000000000000)))] }
noncomputable def aX:Fn:={ ps:=2,ns:=5,io:=[],body:=[
  .ite (.q [0] []) (.op .eq false [.op .ix false [.var 0,.cst (.int 0)],.cst (.str (q "pair"))]) [
   .ret [0,1] (.tup [.call 6 [.op .ix false [.var 0,.cst (.int 1)],.comp false .seq [.var 1] [4] none (.op .ix false [.var 4,.cst (.int 0)])],.call 6 [.op .ix false [.var 0,.cst (.int 2)],.comp false .seq [.var 1] [5] none (.op .ix false [.var 5,.cst (.int 1)])]])] [],
  .ite (.q [0] []) (.op .eq false [.op .ix false [.var 0,.cst (.int 0)],.cst (.str (q "row"))]) [
   .asg (.q [] []) 2 (.lst false []),
   .forS [1] [] .seq [.var 1] [3] [
    .ext (.q [3] []) 2 (.var 3)],
   .ret [] (.tup [.comp true .seq [.mv 1] [6] none (.op .len false [.var 6]),.call 6 [.op .ix false [.mv 0,.cst (.int 1)],.mv 2]])] [],
  .ret [] (.op .list true [.mv 1])] }
noncomputable def ag:Fn:={ ps:=3,ns:=1,io:=[],body:=[
  .ite (.q [0] []) (.op .eq false [.op .ix false [.var 0,.cst (.int 0)],.cst (.str (q "pair"))]) [
   .ret [0,1] (.and (.call 9 [.var 1]) (.and (.call 8 [.op .ix false [.var 0,.cst (.int 1)],.op .ix false [.var 1,.cst (.int 0)],.var 2]) (.call 8 [.op .ix false [.var 0,.cst (.int 2)],.op .ix false [.var 1,.cst (.int 1)],.var 2])))] [],
  .ite (.q [0] []) (.op .eq false [.op .ix false [.var 0,.cst (.int 0)],.cst (.str (q "row"))]) [
   .ret [1] (.and (.call 9 [.var 1]) (.and (.call 10 [.op .ix false [.var 1,.cst (.int 0)],.mv 2]) (.call 8 [.op .ix false [.mv 0,.cst (.int 1)],.op .ix false [.var 1,.cst (.int 1)],.op .sum false [.op .ix false [.var 1,.cst (.int 0)]]])))] [],
  .ret [0,1] (.and (.op (.isI ["list"]) false [.var 1]) (.and (.op .eq false [.op .len false [.var 1],.mv 2]) (.op .all false [.comp false .seq [.var 1] [3] none (.call 2 [.var 0,.var 3])])))] }
noncomputable def aE:Fn:={ ps:=1,ns:=0,io:=[],body:=[
  .ret [0] (.and (.op (.isI ["tuple"]) false [.var 0]) (.op .eq false [.op .len false [.var 0],.cst (.int 2)]))] }
noncomputable def au:Fn:={ ps:=2,ns:=1,io:=[],body:=[
  .ite (.q [0] [1]) (.not (.call 8 [.tup [.cst (.str (q "num"))],.var 0,.var 1])) [
   .ret [] (.cst (.bl false))] [],
  .ret [] (.op .all false [.comp false .seq [.mv 0] [2] none (.chain .le .le (.cst (.int 0)) (.var 2) (.cst (.int 200)))])] }
noncomputable def aP:Fn:={ ps:=2,ns:=4,io:=[0],body:=[
  .ite (.q [0] []) (.op .gt false [.op .ix false [.var 0,.cst (.int 3)],.cst (.int 0)]) [
   .setI (.q [0] []) 0 (.cst (.int 3)) (.op .sub false [.op .ix false [.var 0,.cst (.int 3)],.cst (.int 1)]),
   .asg (.q [0] []) 2 (.op .ix false [.var 0,.cst (.int 2)]),
   .setI (.q [] [1,2]) 0 (.cst (.int 2)) (.op .fdiv false [.var 2,.var 1]),
   .ret [] (.op .mod false [.mv 2,.mv 1])] [],
  .asg (.q [0] []) 3 (.op .ix false [.var 0,.cst (.int 1)]),
  .setI (.q [] [3]) 0 (.cst (.int 1)) (.op .add false [.var 3,.cst (.int 1)]),
  .asg (.q [] []) 4 (.cst (.int 0)),
  .ite (.q [0] []) (.op .gt false [.op .len false [.op .ix false [.var 0,.cst (.int 0)]],.cst (.int 0)]) [
   .asg (.q [0] [3]) 4 (.op .ix false [.op .ix false [.var 0,.cst (.int 0)],.op .mod false [.var 3,.op .len false [.op .ix false [.var 0,.cst (.int 0)]]]])] [],
  .ite (.q [0] [3,4]) (.and (.op .lt false [.var 3,.op .len false [.op .ix false [.var 0,.cst (.int 0)]]]) (.op .ge false [.var 4,.op .pow false [.cst (.int 10),.cst (.int 18)]])) [
   .setI (.q [] [4]) 0 (.cst (.int 2)) (.op .sub false [.var 4,.op .pow false [.cst (.int 10),.cst (.int 18)]]),
   .setI (.q [] []) 0 (.cst (.int 3)) (.cst (.int 40)),
   .ret [] (.call 20 [.io 0,.mv 1])] [],
  .asg (.q [] [3,4]) 5 (.op .mul false [.op .add false [.op .mod false [.var 4,.cst (.int 999983)],.cst (.int 3)],.op .add false [.op .add false [.op .mod false [.op .mul false [.var 3,.var 3],.cst (.int 10007)],.op .mul false [.cst (.int 61),.var 3]],.cst (.int 7)]]),
  .asg (.q [] [5]) 5 (.op .mod false [.op .mul false [.op .mod false [.var 5,.cst (.int 1000003)],.op .mod false [.var 5,.cst (.int 1000003)]],.cst (.int 999979)]),
  .ret [] (.op .mod false [.op .mod false [.op .add false [.op .fdiv false [.mv 5,.cst (.int 3)],.op .mul false [.cst (.int 131),.mv 3]],.cst (.int 99991)],.mv 1])] }
noncomputable def a0:Fn:={ ps:=1,ns:=3,io:=[0],body:=[
  .asg (.l []) 1 (.call 20 [.io 0,.cst (.int 6)]),
  .ite (.q [] [1]) (.op .lt false [.var 1,.cst (.int 4)]) [
   .ret [] (.op .sub false [.call 20 [.io 0,.cst (.int 19)],.cst (.int 9)])] [],
  .ite (.q [] [1]) (.op .eq false [.var 1,.cst (.int 4)]) [
   .asg (.q [] []) 2 (.op .pow false [.cst (.int 10),.cst (.int 18)]),
   .ret [] (.op .ix false [.lst false [.var 2,.op .sub false [.cst (.int 0),.var 2],.op .sub false [.var 2,.cst (.int 1)],.op .sub false [.cst (.int 1),.var 2],.cst (.int 0)],.call 20 [.io 0,.cst (.int 5)]])] [],
  .asg (.l []) 3 (.op .mul false [.call 20 [.io 0,.op .pow false [.cst (.int 10),.cst (.int 6)]],.op .pow false [.cst (.int 10),.cst (.int 12)]]),
  .asg (.l []) 3 (.op .add false [.var 3,.op .mul false [.call 20 [.io 0,.op .pow false [.cst (.int 10),.cst (.int 6)]],.op .pow false [.cst (.int 10),.cst (.int 6)]]]),
  .asg (.l []) 3 (.op .add false [.var 3,.call 20 [.io 0,.op .pow false [.cst (.int 10),.cst (.int 6)]]]),
  .ret [] (.op .mul false [.mv 3,.op .sub false [.cst (.int 1),.op .mul false [.cst (.int 2),.call 20 [.io 0,.cst (.int 2)]]]])] }
noncomputable def br:Fn:={ ps:=2,ns:=2,io:=[0],body:=[
  .asg (.l []) 2 (.call 20 [.io 0,.cst (.int 6)]),
  .ite (.q [] [1,2]) (.or (.op .eq false [.var 1,.cst (.int 1)]) (.op .lt false [.var 2,.cst (.int 2)])) [
   .ret [] (.op .ix false [.lst false [.tup [.cst (.str (q "num"))],.tup [.cst (.str (q "truth"))]],.op .mod false [.mv 2,.cst (.int 2)]])] [],
  .ite (.q [] [2]) (.op .lt false [.var 2,.cst (.int 4)]) [
   .asg (.l []) 3 (.call 22 [.io 0,.op .sub false [.var 1,.cst (.int 1)]]),
   .ret [] (.tup [.cst (.str (q "pair")),.mv 3,.call 22 [.io 0,.op .sub false [.mv 1,.cst (.int 1)]]])] [],
  .ret [] (.tup [.cst (.str (q "row")),.call 22 [.io 0,.op .sub false [.mv 1,.cst (.int 1)]]])] }
noncomputable def ax:Fn:={ ps:=3,ns:=3,io:=[0],body:=[
  .ite (.q [1] []) (.op .eq false [.op .ix false [.var 1,.cst (.int 0)],.cst (.str (q "num"))]) [
   .ret [] (.call 21 [.io 0])] [],
  .ite (.q [1] []) (.op .eq false [.op .ix false [.var 1,.cst (.int 0)],.cst (.str (q "truth"))]) [
   .ret [] (.op .eq false [.call 20 [.io 0,.cst (.int 2)],.cst (.int 1)])] [],
  .ite (.q [1] []) (.op .eq false [.op .ix false [.var 1,.cst (.int 0)],.cst (.str (q "pair"))]) [
   .asg (.l [1]) 3 (.call 23 [.io 0,.op .ix false [.var 1,.cst (.int 1)],.var 2]),
   .ret [] (.tup [.mv 3,.call 23 [.io 0,.op .ix false [.mv 1,.cst (.int 2)],.mv 2]])] [],
  .asg (.l []) 4 (.call 20 [.io 0,.cst (.int 4)]),
  .ite (.l [1]) (.and (.var 2) (.and (.op .eq false [.op .len false [.op .ix false [.var 1,.cst (.int 1)]],.cst (.int 1)]) (.op .eq false [.call 20 [.io 0,.cst (.int 32)],.cst (.int 31)]))) [
   .asg (.l []) 4 (.op .add false [.cst (.int 196),.call 20 [.io 0,.cst (.int 5)]])] [],
  .ret [1] (.comp true .rng [.mv 4] [5] none (.call 23 [.io 0,.op .ix false [.var 1,.cst (.int 1)],.cst (.bl false)]))] }
noncomputable def aB:Fn:={ ps:=3,ns:=0,io:=[],body:=[
  .ite (.q [0] []) (.or (.not (.op (.isI ["int"]) false [.var 0])) (.op (.isI ["bool"]) false [.var 0])) [
   .ret [] (.cst (.bl false))] [],
  .ret [] (.chain .le .le (.mv 1) (.mv 0) (.mv 2))] }
noncomputable def ab:Fn:={ ps:=3,ns:=4,io:=[],body:=[
  .ite (.q [0] []) (.op .isin false [.op .ix false [.var 0,.cst (.int 0)],.tup [.cst (.str (q "num")),.cst (.str (q "truth"))]]) [
   .ite (.q [1] [2]) (.or (.not (.op (.isI ["list"]) false [.var 1])) (.op .ne false [.op .len false [.var 1],.var 2])) [
    .ret [] (.cst (.bl false))] [],
   .ite (.q [0] []) (.op .eq false [.op .ix false [.var 0,.cst (.int 0)],.cst (.str (q "truth"))]) [
    .ret [] (.op .all false [.comp false .seq [.mv 1] [4] none (.op (.isI ["bool"]) false [.var 4])])] [],
   .asg (.q [] []) 3 (.op .pow false [.cst (.int 10),.cst (.int 18)]),
   .ret [] (.op .all false [.comp false .seq [.mv 1] [5] none (.call 257 [.var 5,.op .sub false [.cst (.int 0),.var 3],.var 3])])] [],
  .ite (.q [1] []) (.or (.not (.op (.isI ["tuple"]) false [.var 1])) (.op .ne false [.op .len false [.var 1],.cst (.int 2)])) [
   .ret [] (.cst (.bl false))] [],
  .ite (.q [0] []) (.op .eq false [.op .ix false [.var 0,.cst (.int 0)],.cst (.str (q "pair"))]) [
   .ite (.q [0,1] [2]) (.not (.call 258 [.op .ix false [.var 0,.cst (.int 1)],.op .ix false [.var 1,.cst (.int 0)],.var 2])) [
    .ret [] (.cst (.bl false))] [],
   .ret [] (.call 258 [.op .ix false [.mv 0,.cst (.int 2)],.op .ix false [.mv 1,.cst (.int 1)],.mv 2])] [],
  .ite (.q [1] [2]) (.or (.not (.op (.isI ["list"]) false [.op .ix false [.var 1,.cst (.int 0)]])) (.op .ne false [.op .len false [.op .ix false [.var 1,.cst (.int 0)]],.var 2])) [
   .ret [] (.cst (.bl false))] [],
  .ite (.q [1] []) (.not (.op .all false [.comp false .seq [.op .ix false [.var 1,.cst (.int 0)]] [6] none (.call 257 [.var 6,.cst (.int 0),.cst (.int 200)])])) [
   .ret [] (.cst (.bl false))] [],
  .ret [1] (.call 258 [.op .ix false [.mv 0,.cst (.int 1)],.op .ix false [.var 1,.cst (.int 1)],.op .sum false [.op .ix false [.var 1,.cst (.int 0)]]])] }
noncomputable def f_law_strange:Fn:={ ps:=2,ns:=2,io:=[0],body:=[
  .asg (.q [] []) 2 (.op .pow false [.cst (.int 10),.cst (.int 18)]),
  .asg (.q [] [2]) 3 (.lst false [.cst (.int 0),.cst (.int 1),.op .sub false [.cst (.int 0),.cst (.int 1)],.cst (.int 200),.cst (.int 201),.var 2,.op .add false [.var 2,.cst (.int 1)],.op .sub false [.op .sub false [.cst (.int 0),.var 2],.cst (.int 1)]]),
  .asg (.q [1,3] []) 3 (.op .add false [.var 3,.lst false [.cst (.bl true),.cst (.bl false),.cst (.non),.cst (.str (q "")),.cst (.str (q "0")),.lst false [],.tup [],.lst false [.var 1]]]),
  .asg (.q [1,3] []) 3 (.op .add false [.var 3,.lst false [.tup [.var 1],.tup [.var 1,.var 1],.lst false [.cst (.int 0)],.lst false [.cst (.bl true)],.tup [.lst false [],.lst false []]]]),
  .ret [] (.op .ix false [.mv 3,.call 20 [.io 0,.cst (.int 21)]])] }
noncomputable def ai:Fn:={ ps:=2,ns:=3,io:=[0],body:=[
  .asg (.l []) 2 (.call 20 [.io 0,.cst (.int 6)]),
  .ite (.q [1] [2]) (.and (.op (.isI ["list","tuple"]) false [.var 1]) (.and (.op .gt false [.var 2,.cst (.int 1)]) (.op .gt false [.op .len false [.var 1],.cst (.int 0)]))) [
   .asg (.l [1]) 3 (.call 20 [.io 0,.op .len false [.var 1]]),
   .asg (.q [1] []) 4 (.op .list false [.var 1]),
   .ite (.q [] [2]) (.op .eq false [.var 2,.cst (.int 2)]) [
    .asg (.q [4] [3]) 4 (.op .add false [.op .sl2 false [.var 4,.var 3],.op .sl1 false [.var 4,.op .add false [.var 3,.cst (.int 1)]]])] [
    .ite (.q [] [2]) (.op .eq false [.var 2,.cst (.int 3)]) [
     .asg (.l [4]) 4 (.op .add false [.op .add false [.op .sl2 false [.var 4,.var 3],.lst false [.call 259 [.io 0,.ixV 4 3]]],.op .sl1 false [.var 4,.var 3]])] [
     .setI (.l []) 4 (.var 3) (.call 262 [.io 0,.ixV 4 3])]],
   .ite (.q [1] []) (.op (.isI ["tuple"]) false [.var 1]) [
    .ret [] (.op .tuple false [.mv 4])] [],
   .ret [] (.mv 4)] [],
  .ite (.q [1] [2]) (.and (.op (.isI ["list"]) false [.var 1]) (.op .eq false [.var 2,.cst (.int 1)])) [
   .ret [] (.op .tuple false [.mv 1])] [],
  .ite (.q [1] [2]) (.and (.op (.isI ["tuple"]) false [.var 1]) (.op .eq false [.var 2,.cst (.int 1)])) [
   .ret [] (.op .list false [.mv 1])] [],
  .ret [] (.call 259 [.io 0,.mv 1])] }
noncomputable def aK:Fn:={ ps:=3,ns:=2,io:=[],body:=[
  .asg (.q [1] []) 3 (.op .repr false [.var 1]),
  .asg (.q [0,1] [2]) 4 (.call 8 [.var 0,.var 1,.var 2]),
  .ite (.q [1,3,4] []) (.or (.not (.op (.isI ["bool"]) false [.var 4])) (.op .ne false [.op .repr false [.var 1],.var 3])) [
   .ret [] (.cst (.bl false))] [],
  .ret [] (.op .eq false [.mv 4,.call 258 [.mv 0,.mv 1,.mv 2]])] }
noncomputable def f_law:Fn:={ ps:=1,ns:=7,io:=[],body:=[
  .asg (.q [0] []) 1 (.lst true [.op .list true [.op .sl2 true [.var 0,.cst (.int 63)]],.cst (.int 0),.cst (.int 0),.cst (.int 0)]),
  .asg (.l []) 2 (.call 22 [.io 1,.op .add false [.cst (.int 1),.call 20 [.io 1,.cst (.int 4)]]]),
  .asg (.l [2]) 3 (.comp false .rng [.call 20 [.io 1,.cst (.int 4)]] [7] none (.call 23 [.io 1,.var 2,.cst (.bl true)])),
  .asg (.q [2,3] []) 4 (.call 6 [.var 2,.var 3]),
  .ite (.q [2,3,4] []) (.op .isnB false [.call 8 [.var 2,.var 4,.op .len false [.var 3]],.cst (.bl true)]) [
   .ret [] (.cst (.bl false))] [],
  .ite (.q [2,3,4] []) (.op .isnB false [.call 8 [.var 2,.var 4,.op .add false [.op .len false [.var 3],.cst (.int 1)]],.cst (.bl false)]) [
   .ret [] (.cst (.bl false))] [],
  .forS [] [] .rng [.cst (.int 12)] [5] [
   .asg (.l [4]) 6 (.call 262 [.io 1,.var 4]),
   .ite (.q [2,3,6] []) (.not (.call 261 [.var 2,.var 6,.op .len false [.var 3]])) [
    .ret [] (.cst (.bl false))] [],
   .ite (.l [2,6]) (.not (.call 261 [.var 2,.var 6,.call 20 [.io 1,.cst (.int 5)]])) [
    .ret [] (.cst (.bl false))] []],
  .ret [] (.op .isB false [.call 8 [.mv 2,.mv 4,.op .len false [.mv 3]],.cst (.bl true)])] }
noncomputable def prog:List Fn:=[f_law,zf,aq,az,zf,zf,aX,zf,ag,aE,au,zf,zf,zf,zf,zf,zf,zf,zf,zf,aP,a0,br,ax,zf,zf,zf,zf,zf,zf,zf,zf,zf,zf,zf,zf,zf,zf,zf,zf,zf,zf,zf,zf,zf,zf,zf,zf,zf,zf,zf,zf,zf,zf,zf,zf,zf,zf,zf,zf,zf,zf,zf,zf,zf,zf,zf,zf,zf,zf,zf,zf,zf,zf,zf,zf,zf,zf,zf,zf,zf,zf,zf,zf,zf,zf,zf,zf,zf,zf,zf,zf,zf,zf,zf,zf,zf,zf,zf,zf,zf,zf,zf,zf,zf,zf,zf,zf,zf,zf,zf,zf,zf,zf,zf,zf,zf,zf,zf,zf,zf,zf,zf,zf,zf,zf,zf,zf,zf,zf,zf,zf,zf,zf,zf,zf,zf,zf,zf,zf,zf,zf,zf,zf,zf,zf,zf,zf,zf,zf,zf,zf,zf,zf,zf,zf,zf,zf,zf,zf,zf,zf,zf,zf,zf,zf,zf,zf,zf,zf,zf,zf,zf,zf,zf,zf,zf,zf,zf,zf,zf,zf,zf,zf,zf,zf,zf,zf,zf,zf,zf,zf,zf,zf,zf,zf,zf,zf,zf,zf,zf,zf,zf,zf,zf,zf,zf,zf,zf,zf,zf,zf,zf,zf,zf,zf,zf,zf,zf,zf,zf,zf,zf,zf,zf,zf,zf,zf,zf,zf,zf,zf,zf,zf,zf,zf,zf,zf,zf,zf,zf,zf,zf,zf,zf,zf,zf,zf,zf,zf,zf,zf,zf,zf,zf,zf,zf,aB,ab,f_law_strange,zf,aK,ai]
end A32

set_option compiler.extract_closed false
namespace P32
noncomputable section
open M A32
open PySem (Str)
local macro_rules
 | `(tactic| simp_all only [$ls,*])=>`(tactic| simp only [tX,uv,vB,ue,sQ,rM,vF,n3,oW,ph,pU,oE,pR,oG,qf,pV,oX,nS,pI,oY,pj,pM,pS,pF,n9,om,pd,oa,pP,qO,oe,m6,lU,o7,qL,pk,qP,iF,lj,kOp,jS,kOr,nL,kC3,kC2,kC1,kBack,kCall,fv,bG,ik,df,kCons,aZ,kX,kT,kT2,kIf,pL,rO,lA,l0,p9,jY,kNx,kRt,jo,qc,mB,okW,then',rl,eh,aL,ak,ios,putAll,vr,yJ,uD,t8,vm,pq,qQ,oC,u6,vg,ug,rK,rW,tY,vp,yB,yw,v9,xG,yo,w9,oh,qp,p7,oQ,xY,tf,kN,kS,m7,nh,so,oD,qF,lV,kZ,yx,yr,xi,wK,kL,nC,nN,t9,t7,uG,tS,rF,tq,vI,sU,oK,oI,n4,vP,mH,l5,lN,xq,lu,mX,rB,xX,uu,ui,uQ,vE,tR,vw,ze,y9,yE,yD,xH,wU,uI,rP,vN,xn,xP,uR,vX,qk,uk,wX,dW,dh,wQ,xt,sL,uw,sv,sj,lG,ly,kI,yq,lD,nI,qM,pf,oS,o8,rL,sA,sP,mP,dq,ka,km,ko,vd,tU,vj,uH,rS,uZ,vA,tE,xC,mT,mO,sC,vO,at0,at1,at2,at3,at4,List.cons_append,a1U,a0L,a0y,a1V,a0J,List.replicate_zero,reduceIte,if_true,if_false,String.reduceBEq,Bool.not_true,Bool.not_false,Bool.false_eq_true,Bool.and_self,a0F,Bool.and_true,qB,kIo,uc,tF,kj,nA,kg,jQ,kh,lI,ki,lW,kv,ir,iG,iK,mf,dY,eI,va,tD,n6,p5,vZ,rZ,v8,tQ,xF,wV,sW,lH,l8,tJ,kA,kr,uy,iM,lT,lJ,wo,su,yA,zj,yj,xD,wZ,vT,wY,xg,zc,xw,we,wM,wO,xE,xf,wH,wD,zg,yU,zo,vC,oO,tL,jP,jR,sH,uq,cQ,$ls,*])
noncomputable abbrev C (n:Nat):Call:=callR prog 1000000 1000001 n
theorem dG (n:Nat)(ws:List W):C (n+1) 2 ws=runF (C n) aq ws:=rfl
theorem gA (n:Nat)(ws:List W):C (n+1) 3 ws=runF (C n) az ws:=rfl
theorem bX (n:Nat)(ws:List W):C (n+1) 6 ws=runF (C n) aX ws:=rfl
theorem cO (n:Nat)(ws:List W):C (n+1) 8 ws=runF (C n) ag ws:=rfl
theorem gy (n:Nat)(ws:List W):C (n+1) 9 ws=runF (C n) aE ws:=rfl
theorem cx (n:Nat)(ws:List W):C (n+1) 10 ws=runF (C n) au ws:=rfl
theorem dF (n:Nat)(ws:List W):C (n+1) 20 ws=runF (C n) aP ws:=rfl
theorem eM (n:Nat)(ws:List W):C (n+1) 21 ws=runF (C n) a0 ws:=rfl
theorem gJ (n:Nat)(ws:List W):C (n+1) 22 ws=runF (C n) br ws:=rfl
theorem bh (n:Nat)(ws:List W):C (n+1) 23 ws=runF (C n) ax ws:=rfl
theorem fG (n:Nat)(ws:List W):C (n+1) 257 ws=runF (C n) aB ws:=rfl
theorem cg (n:Nat)(ws:List W):C (n+1) 258 ws=runF (C n) ab ws:=rfl
theorem eH (n:Nat)(ws:List W):C (n+1) 259 ws=runF (C n) f_law_strange ws:=rfl
theorem ic (n:Nat)(ws:List W):C (n+1) 261 ws=runF (C n) aK ws:=rfl
theorem ck (n:Nat)(ws:List W):C (n+1) 262 ws=runF (C n) ai ws:=rfl
noncomputable def tape (ns:List Int)(x y z:Int):T:=.lst [.lst (ns.map T.int),.int x,.int y,.int z]
theorem qeq (a b:String):(q a==q b)=(a==b):=by
 by_cases h:a=b
 ·subst h; simp
 ·have h2:q a≠q b:=fun z=>h (by
   have:=congrArg (fun s:Str=>s.cps.toList) z
   rw [q,Str.ofString_eq_toList,Str.ofString_eq_toList] at this
   simp only at this
   have h3:a.toList=b.toList:=by
    have inj:∀ l1 l2:List Char,l1.map Char.toNat=l2.map Char.toNat->l1=l2:=by
     intro l1
     induction l1 with
     | nil=>intro l2 h; cases l2 with
      | nil=>rfl
      | cons=>cases h
     | cons c cs ih=>intro l2 h; cases l2 with
      | nil=>cases h
      | cons d ds =>
       rw [a0y,a0y] at h
       injection h with h1 h2
       rw [ih ds h2,Char.toNat_inj.mp h1]
    exact inj _ _ (by simpa using this)
   exact String.toList_inj.mp h3)
  rw [beq_eq_false_iff_ne.mpr h2,beq_eq_false_iff_ne.mpr h]
theorem uJ {α:Type}(a b c d:α):ixN [a,b,c,d].length 1=some 1:=rfl
theorem sG {α:Type}(a b c d:α):ixN [a,b,c,d].length 2=some 2:=rfl
theorem ua {α:Type}(a b c d:α):ixN [a,b,c,d].length 3=some 3:=rfl
theorem kO (D:Call)(ns:List Int)(x y z:Int)(m:Md)(k:Int)(hz:0 < z)(hk:0 < k)(hk2:k < 1073741824) :
  runF D aP [(.d,tape ns x y z),(m,.int k)]=.ok ((.d,.int (y % k)),[(.d,tape ns x (y / k) (z-1))]):=by
 rw [x_run _ _ _ rfl]
 simp_all only [aP,tape,decide_eq_true hz,decide_eq_true hk,decide_eq_true hk2,uJ,sG,ua,a1z,a1A]
theorem yb {ns:List Int}{x:Int}(hx:0<=x)(hn:ns≠[]):∃ c,atI (ns.map T.int) (x % (ns.length:Int))=some (.int c):=by
 have hl:0 < ns.length:=a2b.mpr hn
 have h1:0<=x % (ns.length:Int):=a1Y _ (by omega)
 have h2:x % (ns.length:Int) < ns.length:=a1B _ (by omega)
 obtain ⟨j,hj⟩:∃ j:Nat,x % (ns.length:Int)=j:=⟨_,(Int.toNat_of_nonneg h1).symm⟩
 have hj':j < ns.length:=by omega
 exact ⟨ns[j],atN hj (by rw [a0t,a0q hj']; rfl)⟩
theorem bp:oSem .pow false [(.d,.int 10),(.d,.int 18)]=some (.d,.int 1000000000000000000):=rfl
theorem sX (D:Call)(ns:List Int)(x:Nat)(y z:Int)(m:Md)(k:Int)(hz:z<=0)(hk:0 < k)(hk2:k < 1073741824)(hx:x < 1000000000000000000)
  (hD:∀ y',D 20 [(.d,tape ns (x+1) y' 40),(m,.int k)]=.ok ((.d,.int (y' % k)),[(.d,tape ns (x+1) (y' / k) 39)])) :
  ∃ r x' y' z',0<=r/\r < k/\x'<=x+1/\runF D aP [(.d,tape ns x y z),(m,.int k)]=.ok ((.d,.int r),[(.d,tape ns ((x':Nat):Int) y' z')]):=by
 have hz':decide (0 < z)=false:=decide_eq_false (by omega)
 have hm:∀ a:Int,0<=a % k/\a % k < k:=fun a=>⟨a1Y _ (by omega),a1B _ hk⟩
 rw [x_run _ _ _ rfl]
 simp_all only [aP,tape,hz',decide_eq_true hk,decide_eq_true hk2,uJ,sG,ua,a1z,a1A,bp]
 generalize hE:onF _ _ _ _=e
 obtain ⟨c,rfl⟩:∃ c:Int,e=.nx [some (Md.d,T.lst [T.lst (a2W T.int ns),T.int (x+1),T.int y,T.int z]),some (m,T.int k),none,some (Md.d,T.int x),some (Md.d,T.int c),none]:=by
  rw [<- hE]
  by_cases hn:ns=[]
  ·subst hn
   exact ⟨0,rfl⟩
  ·obtain ⟨c,hc⟩:=yb (x:=(x:Int)) (by omega) hn
   have hp:decide (0 < ((a2W T.int ns).length:Int))=true:=decide_eq_true (by rw [a0d]; have:=a2b.mpr hn; omega)
   refine ⟨c,?_⟩
   rw [<- a0d (f:=T.int)] at hc
   simp_all only [hp,hc]
 have xb:decide ((x:Int).natAbs < 18446744073709551616)=true:=decide_eq_true (by omega)
 have cb:decide ((c % 999983+3).natAbs < 18446744073709551616)=true:=decide_eq_true (by omega)
 have nb:∀ a:Int,decide ((a % 1000003).natAbs < 18446744073709551616)=true:=fun a=>decide_eq_true (by omega)
 have b61:decide ((61:Int).natAbs < 18446744073709551616)=true:=rfl
 have b131:decide ((131:Int).natAbs < 18446744073709551616)=true:=rfl
 have d1:decide ((0:Int) < 999983)=true:=rfl
 have d2:decide ((0:Int) < 10007)=true:=rfl
 have d3:decide ((0:Int) < 1000003)=true:=rfl
 have d4:decide ((0:Int) < 999979)=true:=rfl
 have d5:decide ((0:Int) < 3)=true:=rfl
 have d6:decide ((3:Int) < 1073741824)=true:=rfl
 have d7:decide ((0:Int) < 99991)=true:=rfl
 cases h1:decide ((x:Int) < ((a2W T.int ns).length:Int)) with
 | false =>
  simp_all only [h1,decide_eq_true hk,decide_eq_true hk2,bp,xb,cb,nb,b61,b131,d1,d2,d3,d4,d5,d6,d7,a2p]
  exact ⟨_,x+1,y,z,(hm _).1,(hm _).2,a0b _,rfl⟩
 | true =>
  cases h2:decide (1000000000000000000<=c) with
  | false =>
   simp_all only [h1,h2,decide_eq_true hk,decide_eq_true hk2,bp,xb,cb,nb,b61,b131,d1,d2,d3,d4,d5,d6,d7,a2p]
   exact ⟨_,x+1,y,z,(hm _).1,(hm _).2,a0b _,rfl⟩
  | true =>
   have hD':=hD (c-1000000000000000000)
   unfold tape at hD'
   simp_all only [h1,h2,bp,uJ,sG,ua,a1z,a1A]
   simp_all only [hD']
   exact ⟨_,x+1,_,_,(hm _).1,(hm _).2,a0b _,rfl⟩
noncomputable def Tp (N:Nat)(t:T):Prop:=∃ ns x y z,t=tape ns ((x:Nat):Int) y z/\x<=N
theorem cc {n N:Nat}{t:T}(m:Md)(k:Int)(ht:Tp N t)(hN:N < 1000000000000000000)(hk:0 < k)(hk2:k < 1073741824) :
  ∃ r t',0<=r/\r < k/\Tp (N+1) t'/\C (n+2) 20 [(.d,t),(m,.int k)]=.ok ((.d,.int r),[(.d,t')]):=by
 obtain ⟨ns,x,y,z,rfl,hx⟩:=ht
 rw [dF]
 by_cases hz:0 < z
 ·exact ⟨_,_,a1Y _ (by omega),a1B _ hk,⟨ns,x,_,_,rfl,by omega⟩,kO (C (n+1)) ns x y z m k hz hk hk2⟩
 ·obtain ⟨r,x',y',z',h1,h2,h3,h4⟩:=sX (C (n+1)) ns x y z m k (by omega) hk hk2 (by omega) fun y'=>by rw [dF,kO (C n) ns (x+1) y' 40 m k (by decide) hk hk2]; rfl
  exact ⟨r,_,h1,h2,⟨ns,x',y',z',rfl,by omega⟩,h4⟩
theorem p6:oSem .pow false [(.d,.int 10),(.d,.int 6)]=some (.d,.int 1000000):=rfl
theorem p12:oSem .pow false [(.d,.int 10),(.d,.int 12)]=some (.d,.int 1000000000000):=rfl
theorem at5 {α:Type}(a b c d e:α)(r:Int)(h0:0<=r)(h1:r < 5):∃ x,atI [a,b,c,d,e] r=some x/\x∈[a,b,c,d,e]:=by
 have:r=0\/r=1\/r=2\/r=3\/r=4:=by omega
 rcases this with rfl | rfl | rfl | rfl | rfl
 ·exact ⟨a,rfl,by simp⟩
 ·exact ⟨b,rfl,by simp⟩
 ·exact ⟨c,rfl,by simp⟩
 ·exact ⟨d,rfl,by simp⟩
 ·exact ⟨e,rfl,by simp⟩
theorem tm {a b:Nat}{t:T}(h:Tp a t)(h2:a<=b):Tp b t:=by obtain ⟨ns,x,y,z,e,h⟩:=h; exact ⟨ns,x,y,z,e,by omega⟩
theorem number {n N:Nat}{t:T}(ht:Tp N t)(hN:N+5 < 1000000000000000000) :
  ∃ md i t',i.natAbs<=1000000000000000000/\Tp (N+5) t'/\C (n+3) 21 [(.d,t)]=.ok ((md,.int i),[(.d,t')]):=by
 rw [eM]
 obtain ⟨r,t1,r0,r1,ht1,e1⟩:=cc (n:=n) .d 6 ht (by omega) (by decide) (by decide)
 rw [x_run _ _ _ rfl]
 simp_all only [a0,e1]
 cases h1:decide (r < 4) with
 | true =>
  obtain ⟨r2,t2,_,_,ht2,e2⟩:=cc (n:=n) .d 19 ht1 (by omega) (by decide) (by decide)
  simp_all only [h1,e2]
  exact ⟨_,_,_,by omega,tm ht2 (by omega),rfl⟩
 | false =>
  cases h2:r==4 with
  | true =>
   obtain ⟨r2,t2,r20,r21,ht2,e2⟩:=cc (n:=n) .d 5 ht1 (by omega) (by decide) (by decide)
   obtain ⟨x,hx,hm⟩:=at5 (T.int 1000000000000000000) (.int (0-1000000000000000000)) (.int (1000000000000000000-1)) (.int (1-1000000000000000000)) (.int 0) r2 r20 r21
   obtain ⟨i,hi,rfl⟩:∃ i:Int,i.natAbs<=1000000000000000000/\x=T.int i:=by
    simp only [a0v,a2z,or_false] at hm
    rcases hm with e | e | e | e | e<;>exact ⟨_,by decide,e⟩
   simp_all only [h1,h2,e2,bp,hx]
   exact ⟨_,_,_,hi,tm ht2 (by omega),rfl⟩
  | false =>
   obtain ⟨r2,t2,_,_,ht2,e2⟩:=cc (n:=n) .d 1000000 ht1 (by omega) (by decide) (by decide)
   obtain ⟨r3,t3,_,_,ht3,e3⟩:=cc (n:=n) .d 1000000 ht2 (by omega) (by decide) (by decide)
   obtain ⟨r4,t4,_,_,ht4,e4⟩:=cc (n:=n) .d 1000000 ht3 (by omega) (by decide) (by decide)
   obtain ⟨r5,t5,_,_,ht5,e5⟩:=cc (n:=n) .d 2 ht4 (by omega) (by decide) (by decide)
   have b12:decide ((1000000000000:Int).natAbs < 18446744073709551616)=true:=rfl
   have b6:decide ((1000000:Int).natAbs < 18446744073709551616)=true:=rfl
   have b2:decide ((2:Int).natAbs < 18446744073709551616)=true:=rfl
   have b1:decide ((1-2 * r5).natAbs < 18446744073709551616)=true:=decide_eq_true (by omega)
   simp_all only [h1,h2,e2,e3,e4,e5,p6,p12,b12,b6,b2,b1,a2p,a2U]
   exact ⟨_,_,_,by rcases (show r5=0\/r5=1 by omega) with rfl | rfl<;>omega,tm ht5 (by omega),rfl⟩
inductive Kd where | num | truth | pair (a b:Kd) | row (a:Kd)
noncomputable def Kd.th:Kd->T
 | .num=>.tup [.str (q "num")]
 | .truth=>.tup [.str (q "truth")]
 | .pair a b=>.tup [.str (q "pair"),a.th,b.th]
 | .row a=>.tup [.str (q "row"),a.th]
noncomputable def Kd.deep:Kd->Nat
 | .num=>0 | .truth=>0 | .pair a b=>max a.deep b.deep+1 | .row a=>a.deep+1
noncomputable def kb:Nat->Nat
 | 0=>1
 | l+1=>2 * kb l+1
theorem zp {α:Type}(a b:α)(r:Int)(h0:0<=r)(h1:r < 2):atI [a,b] r=some a\/atI [a,b] r=some b:=by
 have:r=0\/r=1:=by omega
 rcases this with rfl | rfl
 ·exact .inl rfl
 ·exact .inr rfl
theorem d02:decide ((0:Int) < 2)=true:=rfl
theorem kind (n:Nat):∀ (l:Nat) {N:Nat} {t:T},Tp N t->N+kb l < 1000000000000000000->1<=l ->
  ∃ (md:Md) (k:Kd) (t':T),k.deep < l/\Tp (N+kb l) t'/\C (n+l+2) 22 [(.d,t),(.d,.int l)]=.ok ((md,k.th),[(.d,t')])
 | 0,_,_,_,_,h=>by omega
 | l+1,N,t,ht,hN,_=>by
  have hb:kb (l+1)=2 * kb l+1:=rfl
  rw [show n+(l+1)+2=(n+l+2)+1 by omega,gJ]
  obtain ⟨r,t1,r0,r1,ht1,e1⟩:=cc (n:=n+l) .d 6 ht (by omega) (by decide) (by decide)
  rw [x_run _ _ _ rfl]
  simp_all only [br,e1]
  have leafy:∃ k:Kd,k.deep=0/\(atI [T.tup [T.str (q "num")],T.tup [T.str (q "truth")]] (r % 2))=some k.th:=by
   rcases zp (T.tup [T.str (q "num")]) (T.tup [T.str (q "truth")]) (r % 2) (by omega) (by omega) with h | h
   ·exact ⟨.num,rfl,h⟩
   ·exact ⟨.truth,rfl,h⟩
  obtain ⟨k0,hk0,ek0⟩:=leafy
  cases h1:(((l+1:Nat):Int)==1) with
  | true =>
   simp_all only [h1,d02,ek0]
   exact ⟨_,k0,_,by omega,tm ht1 (by omega),rfl⟩
  | false =>
   have hl:1<=l:=by
    have:=beq_eq_false_iff_ne.mp h1
    omega
   cases h2:decide (r < 2) with
   | true =>
    simp_all only [h1,h2,d02,ek0]
    exact ⟨_,k0,_,by omega,tm ht1 (by omega),rfl⟩
   | false =>
    have el:((l+1:Nat):Int)-1=(l:Int):=by omega
    cases h3:decide (r < 4) with
    | true =>
     obtain ⟨m1,k1,t2,d1,ht2,e2⟩:=kind n l ht1 (by omega) hl
     obtain ⟨m2,k2,t3,d2,ht3,e3⟩:=kind n l ht2 (by omega) hl
     simp_all only [h1,h2,h3,el,e2,e3]
     exact ⟨_,.pair k1 k2,_,by show max k1.deep k2.deep+1 < l+1; omega,tm ht3 (by omega),rfl⟩
    | false =>
     obtain ⟨m1,k1,t2,d1,ht2,e2⟩:=kind n l ht1 (by omega) hl
     simp_all only [h1,h2,h3,el,e2]
     exact ⟨_,.row k1,_,by show k1.deep+1 < l+1; omega,tm ht2 (by omega),rfl⟩
noncomputable def OfK:Kd->T->Prop
 | .num,t=>∃ i:Int,t=.int i/\i.natAbs<=1000000000000000000
 | .truth,t=>∃ b,t=.bl b
 | .pair a b,t=>∃ x y,t=.tup [x,y]/\OfK a x/\OfK b y
 | .row a,t=>∃ ts,t=.lst ts/\ts.length<=200/\∀ u∈ts,OfK a u
mutual
noncomputable def sz:T->Nat
 | .tup ts=>szs ts+1
 | .lst ts=>szs ts+1
 | _=>1
noncomputable def szs:List T->Nat
 | []=>0
 | t::ts=>sz t+szs ts
end
noncomputable def B:Nat->Nat
 | 0=>1
 | d+1=>3 * B d+201
noncomputable def D:Nat->Nat
 | 0=>5
 | d+1=>3 * D d+1003
theorem gw:∀ {a b:Nat},a<=b->B a<=B b
 | _,0,h=>by cases Nat.le_zero.mp h; exact a0b _
 | a,b+1,h=>by
  by_cases e:a=b+1
  ·rw [e]; exact a0b _
  ·have:=gw (a:=a) (b:=b) (by omega)
   have e2:B (b+1)=3 * B b+201:=rfl
   omega
theorem gb:∀ {a b:Nat},a<=b->D a<=D b
 | _,0,h=>by cases Nat.le_zero.mp h; exact a0b _
 | a,b+1,h=>by
  by_cases e:a=b+1
  ·rw [e]; exact a0b _
  ·have:=gb (a:=a) (b:=b) (by omega)
   have e2:D (b+1)=3 * D b+1003:=rfl
   omega
theorem iS {b:Nat}:∀ {ws:List W},(∀ w∈ws,sz w.2<=b)->szs (aL ws)<=ws.length * b
 | [],_=>a0W _
 | w::ws,h=>by
  have h1:=h w a0g
  have h2:=iS fun v hv=>h v (a0c _ hv)
  show sz w.2+szs (aL ws)<=_
  rw [a0n,a1n]; omega
theorem u5 {w:W}(h:lf w.1 w.2=.d):okD w=true:=by
 unfold lf at h
 unfold okD
 split at h
 ·rename_i hl; rw [hl,a2U]
 ·rw [h]; rfl
theorem dy:∀ {ws:List W} {t:T},t∈aL ws->∃ w∈ws,w.2=t
 | w::ws,t,h=>by
  rcases a0v.mp (show t∈w.2::aL ws from h) with e | e
  ·exact ⟨w,a0g,e.symm⟩
  ·obtain ⟨v,hv,e2⟩:=dy e
   exact ⟨v,a0c _ hv,e2⟩
theorem fu:∀ ws:List W,(aL ws).length=ws.length
 | []=>rfl
 | w::ws=>by show (aL ws).length+1=ws.length+1; rw [fu ws]
theorem fO:∀ a:Kd,∃ l,a.th=.tup l/\(l.length=1->a.deep=0)
 | .num=>⟨_,rfl,fun _=>rfl⟩
 | .truth=>⟨_,rfl,fun _=>rfl⟩
 | .pair a b=>⟨_,rfl,fun h=>by cases h⟩
 | .row a=>⟨_,rfl,fun h=>by cases h⟩
theorem mn {F:Call}{a:Kd}{o2 o3 o4:Option W}{N:Nat}{t:T}{x:T}(ht:Tp N t)(mm:Nat)(hN:N+mm * D a.deep < 1000000000000000000)
  (ih:∀ N t,Tp N t->N+D a.deep < 1000000000000000000->∃ md w t',OfK a w/\sz w<=B a.deep/\lf md w=.d/\Tp (N+D a.deep) t'/\F 23 [(.d,t),(.s,a.th),(.d,.bl false)]=.ok ((md,w),[(.d,t')])) :
  ∃ ws t',ws.length=mm/\(∀ w∈ws,OfK a w.2/\sz w.2<=B a.deep/\lf w.1 w.2=.d)/\Tp (N+mm * D a.deep) t' /\
   aG [5] (bG (evE F (.call 23 [.io 0,.op .ix false [.var 1,.cst (.int 1)],.cst (.bl false)]))) ((a0N mm).map fun (k:Nat)=>[((.d,.int k):W)]) [some (.d,t),some (.s,.tup [x,a.th]),o2,o3,o4,none] []=.ok (ws,[some (.d,t'),some (.s,.tup [x,a.th]),o2,o3,o4,none]):=by
 obtain ⟨ws,η',e,t',rfl,ht',hl,hw⟩:=dA (tg:=[5]) (f:=bG (evE F (.call 23 [.io 0,.op .ix false [.var 1,.cst (.int 1)],.cst (.bl false)]))) (g:=fun (k:Nat)=>[((.d,.int k):W)])
  (fun pre η acc=>∃ t',η=[some (.d,t'),some (.s,.tup [x,a.th]),o2,o3,o4,none]/\Tp (N+pre.length * D a.deep) t'/\acc.length=pre.length/\∀ w∈acc,OfK a w.2/\sz w.2<=B a.deep/\lf w.1 w.2=.d)
  (a0N mm) [] [some (.d,t),some (.s,.tup [x,a.th]),o2,o3,o4,none] [] ⟨t,rfl,by simpa using ht,rfl,fun _ h=>nomatch h⟩ (fun p k r η acc hp ⟨t',he,ht',hl,hw⟩=>by
   subst he
   have hpl:p.length+1<=mm:=by
    have:=congrArg a18 hp
    simp at this; omega
   have hmul:p.length * D a.deep+D a.deep<=mm * D a.deep:=by
    rw [<- a1n]; exact a1b _ hpl
   obtain ⟨md,w,t2,h1,h2,h3,h4,h5⟩:=ih _ _ ht' (by omega)
   refine ⟨_,some (md,w),[some (.d,t2),some (.s,.tup [x,a.th]),o2,o3,o4,some (.d,.int k)],rfl,?_,t2,rfl,?_,?_,?_⟩
   ·simp_all only [h5]
   ·rw [a0m,a0S,a1n]; exact tm h4 (by omega)
   ·rw [a0m,a0m,hl]; rfl
   ·intro v hv
    rcases a0K.mp hv with e | e
    ·exact hw v e
    ·rw [a0E.mp e]; exact ⟨h1,h2,h3⟩)
 refine ⟨ws,t',?_,hw,?_,e⟩
 ·rw [hl]; simp
 ·simpa using ht'
theorem worth:∀ (k:Kd) (n:Nat) (lg:Bool) (m:Md) {N:Nat} {t:T},Tp N t->N+D k.deep < 1000000000000000000 ->
  ∃ (md:Md) (w:T) (t':T),OfK k w/\sz w<=B k.deep/\lf md w=.d/\Tp (N+D k.deep) t'/\C (n+k.deep+4) 23 [(.d,t),(m,k.th),(.d,.bl lg)]=.ok ((md,w),[(.d,t')])
 | .num,n,lg,m,N,t,ht,hN=>by
  obtain ⟨md,i,t1,hi,ht1,e1⟩:=number (n:=n) ht hN
  rw [show n+Kd.num.deep+4=(n+3)+1 from rfl,bh,x_run _ _ _ rfl]
  simp_all only [ax,Kd.th,qeq,e1]
  exact ⟨_,_,_,⟨i,rfl,hi⟩,a0b _,rfl,ht1,rfl⟩
 | .truth,n,lg,m,N,t,ht,hN=>by
  obtain ⟨r,t1,_,_,ht1,e1⟩:=cc (n:=n+1) .d 2 ht (by have:D Kd.truth.deep=5:=rfl; omega) (by decide) (by decide)
  rw [show n+Kd.truth.deep+4=(n+3)+1 from rfl,bh,x_run _ _ _ rfl]
  simp_all only [ax,Kd.th,qeq,e1]
  exact ⟨_,_,_,⟨_,rfl⟩,a0b _,rfl,tm ht1 (by have:D Kd.truth.deep=5:=rfl; omega),rfl⟩
 | .pair a b,n,lg,m,N,t,ht,hN=>by
  have hd:(Kd.pair a b).deep=max a.deep b.deep+1:=rfl
  have hD:D (Kd.pair a b).deep=3 * D (max a.deep b.deep)+1003:=rfl
  have hB:B (Kd.pair a b).deep=3 * B (max a.deep b.deep)+201:=rfl
  have da:=gb (a:=a.deep) (b:=max a.deep b.deep) (by omega)
  have db:=gb (a:=b.deep) (b:=max a.deep b.deep) (by omega)
  have ba:=gw (a:=a.deep) (b:=max a.deep b.deep) (by omega)
  have bb:=gw (a:=b.deep) (b:=max a.deep b.deep) (by omega)
  obtain ⟨m1,w1,t1,o1,s1,l1,ht1,e1⟩:=worth a (n+(max a.deep b.deep-a.deep)) lg .s ht (by omega)
  obtain ⟨m2,w2,t2,o2,s2,l2,ht2,e2⟩:=worth b (n+(max a.deep b.deep-b.deep)) lg (.s) ht1 (by omega)
  rw [show n+(max a.deep b.deep-a.deep)+a.deep+4=n+max a.deep b.deep+4 by omega] at e1
  rw [show n+(max a.deep b.deep-b.deep)+b.deep+4=n+max a.deep b.deep+4 by omega] at e2
  rw [show n+(Kd.pair a b).deep+4=(n+max a.deep b.deep+4)+1 by omega,bh,x_run _ _ _ rfl]
  simp_all only [ax,Kd.th,qeq,e1,e2,l1,l2]
  refine ⟨_,_,_,⟨w1,w2,rfl,o1,o2⟩,?_,rfl,tm ht2 (by omega),rfl⟩
  show sz w1+(sz w2+0)+1<=_
  omega
 | .row a,n,lg,m,N,t,ht,hN=>by
  have hd:(Kd.row a).deep=a.deep+1:=rfl
  have hD:D (Kd.row a).deep=3 * D a.deep+1003:=rfl
  have hB:B (Kd.row a).deep=3 * B a.deep+201:=rfl
  obtain ⟨l,hl,hl1⟩:=fO a
  obtain ⟨r,t1,r0,r1,ht1,e1⟩:=cc (n:=n+a.deep+2) .d 4 ht (by omega) (by decide) (by decide)
  have ih:∀ N t,Tp N t->N+D a.deep < 1000000000000000000->∃ md w t',OfK a w/\sz w<=B a.deep/\lf md w=.d/\Tp (N+D a.deep) t'/\C (n+a.deep+4) 23 [(.d,t),(.s,a.th),(.d,.bl false)]=.ok ((md,w),[(.d,t')]):=fun N t h1 h2=>worth a n false .s h1 h2
  have key:∀ (mm:Int) (N2:Nat) (t2:T),Tp N2 t2->N2<=N+3->0<=mm->(mm<=3\/(a.deep=0/\mm<=200))->∃ ws t3,decide (mm.natAbs < 4611686018427387904)=true/\fits mm.toNat=true/\ws.all okD=true /\
    OfK (.row a) (.lst (aL ws))/\sz (.lst (aL ws))<=B (Kd.row a).deep/\Tp (N+D (Kd.row a).deep) t3 /\
    aG [5] (bG (evE (C (n+a.deep+4)) (.call 23 [.io 0,.op .ix false [.var 1,.cst (.int 1)],.cst (.bl false)]))) ((a0N mm.toNat).map fun (k:Nat)=>[((.d,.int k):W)]) [some (.d,t2),some (.s,.tup [.str (q "row"),.tup l]),some (.d,.bl lg),none,none,none] []=.ok (ws,[some (.d,t3),some (.s,.tup [.str (q "row"),.tup l]),some (.d,.bl lg),none,none,none]):=by
   intro mm N2 t2 ht2 hN2 h0 hm
   have hmn:mm.toNat<=3\/(a.deep=0/\mm.toNat<=200):=hm.imp (by omega) fun h=>⟨h.1,by omega⟩
   have hD2:mm.toNat * D a.deep<=3 * D a.deep+1000:=by
    rcases hmn with h | ⟨h,h'⟩
    ·have:=a1b (D a.deep) h; omega
    ·rw [h]; have:D 0=5:=rfl; rw [this]; omega
   have hB2:mm.toNat * B a.deep<=3 * B a.deep+200:=by
    rcases hmn with h | ⟨h,h'⟩
    ·have:=a1b (B a.deep) h; omega
    ·rw [h]; have:B 0=1:=rfl; rw [this]; omega
   obtain ⟨ws,t3,h1,h2,h3,h4⟩:=mn (F:=C (n+a.deep+4)) (a:=a) (o2:=some (.d,.bl lg)) (o3:=none) (o4:=none) (x:=.str (q "row")) ht2 mm.toNat (by omega) ih
   rw [hl] at h4
   refine ⟨ws,t3,decide_eq_true (by omega),decide_eq_true (by show mm.toNat<=LIM; unfold LIM; omega),a0z.mpr fun w hw=>u5 (h2 w hw).2.2,⟨_,rfl,by rw [fu,h1]; rcases hmn with h | ⟨_,h⟩<;>omega,fun u hu=>?_⟩,?_,tm h3 (by omega),h4⟩
   ·obtain ⟨w,hw,rfl⟩:=dy hu
    exact (h2 w hw).1
   ·have:=iS (b:=B a.deep) fun w hw=>(h2 w hw).2.1
    rw [h1] at this
    show szs (aL ws)+1<=_
    omega
  rw [show n+(Kd.row a).deep+4=(n+a.deep+4)+1 by omega,bh,x_run _ _ _ rfl]
  cases lg with
  | false =>
   obtain ⟨ws,t3,k1,k2,k3,k4,k5,k6,k7⟩:=key r (N+1) t1 ht1 (by omega) r0 (.inl (by omega))
   simp_all only [ax,Kd.th,qeq,hl,e1,k1,k2,k3,k7]
   exact ⟨_,_,_,k4,k5,rfl,k6,rfl⟩
  | true =>
   cases h1:((l.length:Int)==1) with
   | false =>
    obtain ⟨ws,t3,k1,k2,k3,k4,k5,k6,k7⟩:=key r (N+1) t1 ht1 (by omega) r0 (.inl (by omega))
    simp_all only [ax,Kd.th,qeq,hl,e1,h1,k1,k2,k3,k7]
    exact ⟨_,_,_,k4,k5,rfl,k6,rfl⟩
   | true =>
    have hd0:a.deep=0:=hl1 (by have:=beq_iff_eq.mp h1; omega)
    obtain ⟨r2,t2,r20,r21,ht2,e2⟩:=cc (n:=n+a.deep+2) .d 32 ht1 (by omega) (by decide) (by decide)
    cases h2:(r2==31) with
    | false =>
     obtain ⟨ws,t3,k1,k2,k3,k4,k5,k6,k7⟩:=key r (N+1+1) t2 ht2 (by omega) r0 (.inl (by omega))
     simp_all only [ax,Kd.th,qeq,hl,e1,h1,e2,h2,k1,k2,k3,k7]
     exact ⟨_,_,_,k4,k5,rfl,k6,rfl⟩
    | true =>
     obtain ⟨r3,t4,r30,r31,ht4,e4⟩:=cc (n:=n+a.deep+2) .d 5 ht2 (by omega) (by decide) (by decide)
     obtain ⟨ws,t3,k1,k2,k3,k4,k5,k6,k7⟩:=key (196+r3) (N+1+1+1) t4 ht4 (by omega) (by omega) (.inr ⟨hd0,by omega⟩)
     simp_all only [ax,Kd.th,qeq,hl,e1,h1,e2,h2,e4,k1,k2,k3,k7]
     exact ⟨_,_,_,k4,k5,rfl,k6,rfl⟩
theorem bU {α:Type}(f:α->Md)(g:α->T):∀ ts:List α,aL (ts.map fun x=>(f x,g x))=ts.map g
 | []=>rfl
 | x::ts=>by show g x::aL _=g x::ts.map g; rw [bU f g ts]
theorem cV:∀ bs:List Bool,aS (bs.map T.bl)=some bs
 | []=>rfl
 | b::bs=>by show (aS (bs.map T.bl)).map (b::·)=_; rw [cV bs]; rfl
theorem bT {α:Type}(g:α->Bool)(ts:List α):aL (ts.map (fun t=>((.d,.bl (g t)):W)))=(ts.map g).map T.bl:=by rw [bU (fun _=>Md.d) (fun u=>T.bl (g u)),List.map_map]; rfl
theorem ox (i:Int):(["int"].any fun c=>isOne c (T.int i))=true:=rfl
theorem ym (b:Bool):(["int"].any fun c=>isOne c (T.bl b))=true:=rfl
theorem xZ:(["int"].any fun c=>isOne c T.non)=false:=rfl
theorem yk (x:Str):(["int"].any fun c=>isOne c (T.str x))=false:=rfl
theorem xA (ts:List T):(["int"].any fun c=>isOne c (T.tup ts))=false:=rfl
theorem yf (ts:List T):(["int"].any fun c=>isOne c (T.lst ts))=false:=rfl
theorem ky (i:Int):(["bool"].any fun c=>isOne c (T.int i))=false:=rfl
theorem eL (b:Bool):(["bool"].any fun c=>isOne c (T.bl b))=true:=rfl
theorem wu:(["bool"].any fun c=>isOne c T.non)=false:=rfl
theorem vR (x:Str):(["bool"].any fun c=>isOne c (T.str x))=false:=rfl
theorem xJ (ts:List T):(["bool"].any fun c=>isOne c (T.tup ts))=false:=rfl
theorem w8 (ts:List T):(["bool"].any fun c=>isOne c (T.lst ts))=false:=rfl
theorem pb (i:Int):(["list"].any fun c=>isOne c (T.int i))=false:=rfl
theorem nW (b:Bool):(["list"].any fun c=>isOne c (T.bl b))=false:=rfl
theorem ql:(["list"].any fun c=>isOne c T.non)=false:=rfl
theorem nR (x:Str):(["list"].any fun c=>isOne c (T.str x))=false:=rfl
theorem gf (ts:List T):(["list"].any fun c=>isOne c (T.tup ts))=false:=rfl
theorem cZ (ts:List T):(["list"].any fun c=>isOne c (T.lst ts))=true:=rfl
theorem pX (i:Int):(["tuple"].any fun c=>isOne c (T.int i))=false:=rfl
theorem oN (b:Bool):(["tuple"].any fun c=>isOne c (T.bl b))=false:=rfl
theorem qm:(["tuple"].any fun c=>isOne c T.non)=false:=rfl
theorem oU (x:Str):(["tuple"].any fun c=>isOne c (T.str x))=false:=rfl
theorem b5 (ts:List T):(["tuple"].any fun c=>isOne c (T.tup ts))=true:=rfl
theorem f7 (ts:List T):(["tuple"].any fun c=>isOne c (T.lst ts))=false:=rfl
theorem xW (i:Int):(["list","tuple"].any fun c=>isOne c (T.int i))=false:=rfl
theorem xT (b:Bool):(["list","tuple"].any fun c=>isOne c (T.bl b))=false:=rfl
theorem yi:(["list","tuple"].any fun c=>isOne c T.non)=false:=rfl
theorem xh (x:Str):(["list","tuple"].any fun c=>isOne c (T.str x))=false:=rfl
theorem eY (ts:List T):(["list","tuple"].any fun c=>isOne c (T.tup ts))=true:=rfl
theorem eW (ts:List T):(["list","tuple"].any fun c=>isOne c (T.lst ts))=true:=rfl
theorem rOks_all:∀ {ts:List T},rOks ts=true ↔ ∀ t∈ts,rOk t=true
 | []=>⟨(fun _ _ h=>nomatch h),fun _=>rfl⟩
 | t::ts=>by
  show (rOk t&&rOks ts)=true ↔ _
  rw [a0i,rOks_all]
  constructor
  ·rintro ⟨h1,h2⟩ u hu
   rcases a0v.mp hu with rfl | hu
   ·exact h1
   ·exact h2 u hu
  ·exact fun h=>⟨h t a0g,fun u hu=>h u (a0c _ hu)⟩
noncomputable def bw:T->Bool
 | .int i=>decide (-1000000000000000000<=i)&&decide (i<=1000000000000000000)
 | _=>false
noncomputable def bF:T->Bool
 | .bl _=>true
 | _=>false
noncomputable def bj:T->Bool
 | .int i=>decide (0<=i)&&decide (i<=200)
 | _=>false
noncomputable def iy:List T->Int
 | []=>0
 | .int i::ts=>i+iy ts
 | _::ts=>iy ts
noncomputable def aY (β:T->Bool)(n:Int):T->Bool
 | .lst ts=>(((ts.length:Nat):Int)==n)&&(ts.map β).all id
 | _=>false
noncomputable def iO:T->Int
 | .lst ts=>iy ts
 | _=>0
noncomputable def a6:Kd->T->Int->Bool
 | .num,t,n=>aY bw n t
 | .truth,t,n=>aY bF n t
 | .pair a b,.tup [x,y],n=>a6 a x n&&a6 b y n
 | .row a,.tup [x,y],n=>aY bj n x&&a6 a y (iO x)
 | _,_,_=>false
theorem qu (n:Nat)(t:T)(h:rOk t=true)(m:Md):C (n+1) 3 [(m,t)]=.ok ((.d,.bl (bw t)),[]):=by
 rw [gA,x_run _ _ _ rfl]
 cases t with
 | int i =>
  unfold bw
  cases h1:decide (-1000000000000000000<=i) with
  | false=>simp_all only [az,ox,ky,h1,a0w]
  | true=>simp_all only [az,ox,ky,h1,a0F]
 | bl b=>simp_all only [az,ym,eL,bw]
 | non=>simp_all only [az,xZ,bw]
 | str x=>simp_all only [az,yk,bw]
 | tup ts=>simp_all only [az,xA,bw]
 | lst ts=>simp_all only [az,yf,bw]
 | _=>cases h
theorem jh (n:Nat)(t:T)(h:rOk t=true)(m m':Md):C (n+2) 2 [(m,Kd.num.th),(m',t)]=.ok ((.d,.bl (bw t)),[]):=by
 have e:=fun m=>qu n t h m
 rw [dG,x_run _ _ _ rfl]
 cases t with
 | int i=>simp_all only [aq,Kd.th,qeq,e]
 | bl b=>simp_all only [aq,Kd.th,qeq,e]
 | non=>simp_all only [aq,Kd.th,qeq,e]
 | str x=>simp_all only [aq,Kd.th,qeq,e]
 | tup ts=>simp_all only [aq,Kd.th,qeq,e]
 | lst ts=>simp_all only [aq,Kd.th,qeq,e]
 | _=>cases h
theorem j8 (n:Nat)(t:T)(h:rOk t=true)(m m':Md):C (n+2) 2 [(m,Kd.truth.th),(m',t)]=.ok ((.d,.bl (bF t)),[]):=by
 rw [dG,x_run _ _ _ rfl]
 cases t with
 | int i=>simp_all only [aq,Kd.th,qeq,ky,bF]
 | bl b=>simp_all only [aq,Kd.th,qeq,eL,bF]
 | non=>simp_all only [aq,Kd.th,qeq,wu,bF]
 | str x=>simp_all only [aq,Kd.th,qeq,vR,bF]
 | tup ts=>simp_all only [aq,Kd.th,qeq,xJ,bF]
 | lst ts=>simp_all only [aq,Kd.th,qeq,w8,bF]
 | _=>cases h
theorem eF (n:Nat)(s:String)(hs:s="num"\/s="truth")(β:T->Bool)(hw:∀ t,rOk t=true->∀ m m',C (n+2) 2 [(m,.tup [.str (q s)]),(m',t)]=.ok ((.d,.bl (β t)),[]))(t:T)(h:rOk t=true)(k:Int)(m m' m2:Md):C (n+3) 8 [(m,.tup [.str (q s)]),(m',t),(m2,.int k)]=.ok ((.d,.bl (aY β k t)),[]):=by
 have q1:(q s==q "pair")=false:=by rcases hs with rfl | rfl<;>decide +kernel
 have q2:(q s==q "row")=false:=by rcases hs with rfl | rfl<;>decide +kernel
 rw [cO,x_run _ _ _ rfl]
 cases t with
 | lst ts =>
  have c1:∀ o0,aG [3] (bG (evE (C (n+2)) (.call 2 [.var 0,.var 3]))) (ts.map fun t=>[((.s,t):W)]) [some (.s,.tup [.str (q s)]),some (.s,.lst ts),o0,none] []=.ok ([]++ts.map fun t=>(.d,.bl (β t)),[some (.s,.tup [.str (q s)]),some (.s,.lst ts),o0,none]):=fun o0=>by
   refine aU (fun t=>((.d,.bl (β t)):W)) ts [] fun u hu=>⟨_,[some (.s,.tup [.str (q s)]),some (.s,.lst ts),o0,some (.s,u)],rfl,?_,rfl⟩
   have:=fun m m'=>hw u (rOks_all.mp h u hu) m m'
   simp_all only [this]
  have t1:=bT β ts
  unfold aY
  cases h1:(((ts.length:Nat):Int)==k) with
  | false=>simp_all only [ag,q1,q2,cZ,h1,a0w]
  | true=>simp_all only [ag,q1,q2,cZ,h1,c1,t1,cV,a0F]
 | int i=>simp_all only [ag,q1,q2,pb,aY]
 | bl b=>simp_all only [ag,q1,q2,nW,aY]
 | non=>simp_all only [ag,q1,q2,ql,aY]
 | str x=>simp_all only [ag,q1,q2,nR,aY]
 | tup ts=>simp_all only [ag,q1,q2,gf,aY]
 | _=>cases h
noncomputable def cU:T->Bool
 | .tup ts=>((ts.length:Nat):Int)==2
 | _=>false
theorem gL (n:Nat)(t:T)(h:rOk t=true)(m:Md):C (n+1) 9 [(m,t)]=.ok ((.d,.bl (cU t)),[]):=by
 rw [gy,x_run _ _ _ rfl]
 cases t with
 | tup ts=>simp_all only [aE,b5,cU]
 | int i=>simp_all only [aE,pX,cU]
 | bl b=>simp_all only [aE,oN,cU]
 | non=>simp_all only [aE,qm,cU]
 | str x=>simp_all only [aE,oU,cU]
 | lst ts=>simp_all only [aE,f7,cU]
 | _=>cases h
theorem dP {t:T}(h:cU t=true):∃ x y,t=.tup [x,y]:=by
 cases t with
 | tup ts =>
  have h:(((ts.length:Nat):Int)==2)=true:=h
  have h:=beq_iff_eq.mp h
  match ts,h with
  | [x,y],_=>exact ⟨x,y,rfl⟩
  | [],h=>simp at h
  | [_],h=>simp at h
  | _::_::_::r,h=>simp only [a0n] at h; omega
 | _=>cases h
theorem gh {a b:Kd}{t:T}{n:Int}(h:cU t=false):a6 (.pair a b) t n=false/\a6 (.row a) t n=false:=by
 constructor
 ·unfold a6
  split<;>first | rfl | (rename_i e; first | cases e | (exact absurd h (by decide)) | skip)
  all_goals first | rfl | (simp_all [cU])
 ·unfold a6
  split<;>first | rfl | (simp_all [cU])
theorem gj {t:T}(h:bj t=true):bw t=true/\∃ i:Int,t=.int i/\0<=i/\i<=200:=by
 cases t with
 | int i =>
  have h:(decide (0<=i)&&decide (i<=200))=true:=h
  rw [a0i,decide_eq_true_eq,decide_eq_true_eq] at h
  refine ⟨?_,i,rfl,h.1,h.2⟩
  show (decide (-1000000000000000000<=i)&&decide (i<=1000000000000000000))=true
  rw [decide_eq_true (by omega),decide_eq_true (by omega)]; rfl
 | _=>cases h
theorem p8 {t:T}(h:bw t=true):∃ i:Int,t=.int i:=by
 cases t with
 | int i=>exact ⟨i,rfl⟩
 | _=>cases h
theorem all_map {α:Type}{f:α->Bool}{ts:List α}:(ts.map f).all id=true ↔ ∀ t∈ts,f t=true:=by
 rw [a0z]
 constructor
 ·exact fun h t ht=>h _ (List.mem_map_of_mem ht)
 ·intro h b hb
  obtain ⟨t,ht,rfl⟩:=a0Z.mp hb
  exact h t ht
theorem ed:∀ {ts:List T},(∀ t∈ts,∃ i:Int,t=.int i)->∃ ns:List Int,a4 ts=some ns/\ns.sum=iy ts
 | [],_=>⟨[],rfl,rfl⟩
 | t::ts,h=>by
  obtain ⟨i,rfl⟩:=h t a0g
  obtain ⟨ns,e,s⟩:=ed fun u hu=>h u (a0c _ hu)
  refine ⟨i::ns,?_,?_⟩
  ·show (a4 ts).map (i::·)=_
   rw [e]; rfl
  ·rw [a1L,s]; rfl
theorem vM (n:Nat)(t:T)(h:rOk t=true)(k:Int)(m m':Md):C (n+4) 10 [(m,t),(m',.int k)]=.ok ((.d,.bl (aY bj k t)),[]):=by
 have e1:=fun m m' m2=>eF n "num" (.inl rfl) bw (fun t ht m m'=>jh n t ht m m') t h k m m' m2
 cases h1:aY bw k t with
 | false =>
  have h2:aY bj k t=false:=by
   cases t with
   | lst ts =>
    have h1:((((ts.length:Nat):Int)==k)&&(ts.map bw).all id)=false:=h1
    show ((((ts.length:Nat):Int)==k)&&(ts.map bj).all id)=false
    cases hl:(((ts.length:Nat):Int)==k) with
    | false=>rfl
    | true =>
     rw [hl,a0F] at h1
     cases ha:(ts.map bj).all id with
     | false=>rfl
     | true =>
      have:=all_map.mpr fun t ht=>(gj (all_map.mp ha t ht)).1
      rw [h1] at this; cases this
   | _=>rfl
  rw [h1] at e1
  rw [h2,cx,x_run _ _ _ rfl]
  cases t with
  | int i=>simp_all only [au,e1]
  | bl b=>simp_all only [au,e1]
  | non=>simp_all only [au,e1]
  | str x=>simp_all only [au,e1]
  | tup ts=>simp_all only [au,e1]
  | lst ts=>simp_all only [au,e1]
  | _=>cases h
 | true =>
  rw [h1] at e1
  cases t with
  | lst ts =>
   have h1:((((ts.length:Nat):Int)==k)&&(ts.map bw).all id)=true:=h1
   rw [a0i] at h1
   have hn:=all_map.mp h1.2
   have c1:∀ o1,aG [2] (bG (evE (C (n+3)) (.chain .le .le (.cst (.int 0)) (.var 2) (.cst (.int 200))))) (ts.map fun t=>[((.s,t):W)]) [none,o1,none] []=.ok ([]++ts.map fun t=>(.d,.bl (bj t)),[none,o1,none]):=fun o1=>by
    refine aU (fun t=>((.d,.bl (bj t)):W)) ts [] fun u hu=>⟨_,[none,o1,some (.s,u)],rfl,?_,rfl⟩
    obtain ⟨i,rfl⟩:=p8 (hn u hu)
    unfold bj
    cases h2:decide (0<=i) with
    | false=>simp_all only [h2,a0w]
    | true=>simp_all only [h2,a0F]
   have t1:=bT bj ts
   rw [show aY bj k (.lst ts)=(ts.map bj).all id by show (_&&_)=_; rw [h1.1,a0F],cx,x_run _ _ _ rfl]
   simp_all only [au,e1,c1,t1,cV]
  | _=>cases h1
theorem isf:∀ (k:Kd) (n:Nat) (t:T) (m1 m m2:Md) (c:Int),rOk t=true->C (n+k.deep+4) 8 [(m1,k.th),(m,t),(m2,.int c)]=.ok ((.d,.bl (a6 k t c)),[])
 | .num,n,t,m1,m,m2,c,h=>eF (n+1) "num" (.inl rfl) bw (fun t ht m m'=>jh (n+1) t ht m m') t h c m1 m m2
 | .truth,n,t,m1,m,m2,c,h=>eF (n+1) "truth" (.inr rfl) bF (fun t ht m m'=>j8 (n+1) t ht m m') t h c m1 m m2
 | .pair a b,n,t,m1,m,m2,c,h=>by
  have cp:=fun m=>gL (n+max a.deep b.deep+3) t h m
  rw [show n+(Kd.pair a b).deep+4=(n+max a.deep b.deep+4)+1 by show n+(max a.deep b.deep+1)+4=_; omega,cO,x_run _ _ _ rfl]
  cases hc:cU t with
  | false =>
   rw [hc] at cp
   rw [(gh (a:=a) (b:=b) (n:=c) hc).1]
   cases t with
   | int i=>simp_all only [ag,Kd.th,qeq,cp]
   | bl b=>simp_all only [ag,Kd.th,qeq,cp]
   | non=>simp_all only [ag,Kd.th,qeq,cp]
   | str x=>simp_all only [ag,Kd.th,qeq,cp]
   | tup ts=>simp_all only [ag,Kd.th,qeq,cp]
   | lst ts=>simp_all only [ag,Kd.th,qeq,cp]
   | _=>cases h
  | true =>
   rw [hc] at cp
   obtain ⟨x,y,rfl⟩:=dP hc
   have hx:rOk x=true:=rOks_all.mp h x (by simp)
   have hy:rOk y=true:=rOks_all.mp h y (by simp)
   have e1:=fun m1 m m2=>isf a (n+(max a.deep b.deep-a.deep)) x m1 m m2 c hx
   have e2:=fun m1 m m2=>isf b (n+(max a.deep b.deep-b.deep)) y m1 m m2 c hy
   rw [show n+(max a.deep b.deep-a.deep)+a.deep+4=n+max a.deep b.deep+4 by omega] at e1
   rw [show n+(max a.deep b.deep-b.deep)+b.deep+4=n+max a.deep b.deep+4 by omega] at e2
   show _=Res.ok ((Md.d,T.bl (a6 a x c&&a6 b y c)),[])
   cases h1:a6 a x c with
   | false =>
    rw [h1] at e1
    simp_all only [ag,Kd.th,qeq,cp,e1,a0w]
   | true =>
    rw [h1] at e1
    simp_all only [ag,Kd.th,qeq,cp,e1,e2,a0F]
 | .row a,n,t,m1,m,m2,c,h=>by
  have cp:=fun m=>gL (n+a.deep+3) t h m
  rw [show n+(Kd.row a).deep+4=(n+a.deep+4)+1 by show n+(a.deep+1)+4=_; omega,cO,x_run _ _ _ rfl]
  cases hc:cU t with
  | false =>
   rw [hc] at cp
   rw [(gh (a:=a) (b:=a) (n:=c) hc).2]
   cases t with
   | int i=>simp_all only [ag,Kd.th,qeq,cp]
   | bl b=>simp_all only [ag,Kd.th,qeq,cp]
   | non=>simp_all only [ag,Kd.th,qeq,cp]
   | str x=>simp_all only [ag,Kd.th,qeq,cp]
   | tup ts=>simp_all only [ag,Kd.th,qeq,cp]
   | lst ts=>simp_all only [ag,Kd.th,qeq,cp]
   | _=>cases h
  | true =>
   rw [hc] at cp
   obtain ⟨x,y,rfl⟩:=dP hc
   have hx:rOk x=true:=rOks_all.mp h x (by simp)
   have hy:rOk y=true:=rOks_all.mp h y (by simp)
   have e1:=fun m m'=>vM (n+a.deep) x hx c m m'
   have e2:=fun m1 m m2=>isf a n y m1 m m2 (iO x) hy
   show _=Res.ok ((Md.d,T.bl (aY bj c x&&a6 a y (iO x))),[])
   cases h1:aY bj c x with
   | false =>
    rw [h1] at e1
    simp_all only [ag,Kd.th,qeq,cp,e1,a0w]
   | true =>
    rw [h1] at e1
    cases x with
    | lst ls =>
     have h1:((((ls.length:Nat):Int)==c)&&(ls.map bj).all id)=true:=h1
     rw [a0i] at h1
     obtain ⟨ns,s1,s2⟩:=ed fun t ht=>let ⟨_,i,e,_⟩:=gj (all_map.mp h1.2 t ht); ⟨i,e⟩
     have e2':∀ m1 m m2,C (n+a.deep+4) 8 [(m1,a.th),(m,y),(m2,.int ns.sum)]=.ok ((.d,.bl (a6 a y (iO (.lst ls)))),[]):=fun m1 m m2=>by rw [s2]; exact e2 m1 m m2
     simp_all only [ag,Kd.th,qeq,cp,e1,s1,e2',a0F]
    | _=>cases h1
noncomputable def whB (lo hi:Int):T->Bool
 | .int i=>decide (lo<=i)&&decide (i<=hi)
 | _=>false
theorem jb (n:Nat)(t:T)(h:rOk t=true)(lo hi:Int)(m m1 m2:Md):C (n+1) 257 [(m,t),(m1,.int lo),(m2,.int hi)]=.ok ((.d,.bl (whB lo hi t)),[]):=by
 rw [fG,x_run _ _ _ rfl]
 cases t with
 | int i =>
  show _=Res.ok ((Md.d,T.bl (decide (lo<=i)&&decide (i<=hi))),[])
  cases h1:decide (lo<=i) with
  | false=>simp_all only [aB,ox,ky,h1,a0w]
  | true=>simp_all only [aB,ox,ky,h1,a0F]
 | bl b=>simp_all only [aB,ym,eL,whB]
 | non=>simp_all only [aB,xZ,whB]
 | str x=>simp_all only [aB,yk,whB]
 | tup ts=>simp_all only [aB,xA,whB]
 | lst ts=>simp_all only [aB,yf,whB]
 | _=>cases h
theorem vn (t:T):whB (0-1000000000000000000) 1000000000000000000 t=bw t:=by cases t<;>rfl
theorem uK (t:T):whB 0 200 t=bj t:=by cases t<;>rfl
theorem fl2 (x a b:Str):(M.flatT (.str x)&&[T.str a,.str b].all M.flatT)=true:=rfl
theorem gN (n:Nat)(s:String)(hs:s="num"\/s="truth")(t:T)(h:rOk t=true)(k:Int)(m m' m2:Md):C (n+2) 258 [(m,.tup [.str (q s)]),(m',t),(m2,.int k)]=.ok ((.d,.bl (aY (if s="num" then bw else bF) k t)),[]):=by
 have q0:([T.str (q "num"),.str (q "truth")].any fun t=>eqT t (.str (q s)))=true:=by rcases hs with rfl | rfl<;>decide +kernel
 have p18:oSem .pow false [(.d,.int 10),(.d,.int 18)]=some (.d,.int 1000000000000000000):=rfl
 rw [cg,x_run _ _ _ rfl]
 cases t with
 | lst ts =>
  unfold aY
  cases h1:(((ts.length:Nat):Int)==k) with
  | false=>simp_all only [ab,q0,fl2,cZ,h1,a0w]
  | true =>
   rcases hs with rfl | rfl
   ·have q3:(q "num"==q "truth")=false:=by decide +kernel
    have c1:∀ o0 o2,aG [5] (bG (evE (C (n+1)) (.call 257 [.var 5,.op .sub false [.cst (.int 0),.var 3],.var 3]))) (ts.map fun t=>[((.s,t):W)]) [o0,none,o2,some (.d,.int 1000000000000000000),none,none,none] []=.ok ([]++ts.map fun t=>(.d,.bl (bw t)),[o0,none,o2,some (.d,.int 1000000000000000000),none,none,none]):=fun o0 o2=>by
     refine aU (fun t=>((.d,.bl (bw t)):W)) ts [] fun u hu=>⟨_,[o0,none,o2,some (.d,.int 1000000000000000000),none,some (.s,u),none],rfl,?_,rfl⟩
     have:=fun m m1 m2=>jb n u (rOks_all.mp h u hu) (0-1000000000000000000) 1000000000000000000 m m1 m2
     rw [vn] at this
     simp_all only [this]
    have t1:=bT bw ts
    rw [if_pos rfl]
    simp_all only [ab,q0,q3,fl2,cZ,h1,p18,c1,t1,cV,a0F]
   ·have q3:(q "truth"==q "truth")=true:=by decide +kernel
    have c1:∀ o0 o2,aG [4] (bG (evE (C (n+1)) (.op (.isI ["bool"]) false [.var 4]))) (ts.map fun t=>[((.s,t):W)]) [o0,none,o2,none,none,none,none] []=.ok ([]++ts.map fun t=>(.d,.bl (bF t)),[o0,none,o2,none,none,none,none]):=fun o0 o2=>by
     refine aU (fun t=>((.d,.bl (bF t)):W)) ts [] fun u hu=>⟨_,[o0,none,o2,none,some (.s,u),none,none],rfl,?_,rfl⟩
     have hu:=rOks_all.mp h u hu
     cases u with
     | int i=>simp_all only [ky,bF]
     | bl b=>simp_all only [eL,bF]
     | non=>simp_all only [wu,bF]
     | str x=>simp_all only [vR,bF]
     | tup ts=>simp_all only [xJ,bF]
     | lst ts=>simp_all only [w8,bF]
     | _=>cases hu
    have t1:=bT bF ts
    rw [if_neg (by decide)]
    simp_all only [ab,q0,q3,fl2,cZ,h1,c1,t1,cV,a0F]
 | int i=>simp_all only [ab,q0,fl2,pb,aY]
 | bl b=>simp_all only [ab,q0,fl2,nW,aY]
 | non=>simp_all only [ab,q0,fl2,ql,aY]
 | str x=>simp_all only [ab,q0,fl2,nR,aY]
 | tup ts=>simp_all only [ab,q0,fl2,gf,aY]
 | _=>cases h
theorem fts:∀ (k:Kd) (n:Nat) (t:T) (m1 m m2:Md) (c:Int),rOk t=true->C (n+k.deep+2) 258 [(m1,k.th),(m,t),(m2,.int c)]=.ok ((.d,.bl (a6 k t c)),[])
 | .num,n,t,m1,m,m2,c,h=>gN n "num" (.inl rfl) t h c m1 m m2
 | .truth,n,t,m1,m,m2,c,h=>gN n "truth" (.inr rfl) t h c m1 m m2
 | .pair a b,n,t,m1,m,m2,c,h=>by
  have q0:([T.str (q "num"),.str (q "truth")].any fun t=>eqT t (.str (q "pair")))=false:=by decide +kernel
  rw [show n+(Kd.pair a b).deep+2=(n+max a.deep b.deep+2)+1 by show n+(max a.deep b.deep+1)+2=_; omega,cg,x_run _ _ _ rfl]
  cases hc:cU t with
  | false =>
   rw [(gh (a:=a) (b:=b) (n:=c) hc).1]
   cases t with
   | int i=>simp_all only [ab,Kd.th,q0,fl2,pX]
   | bl b=>simp_all only [ab,Kd.th,q0,fl2,oN]
   | non=>simp_all only [ab,Kd.th,q0,fl2,qm]
   | str x=>simp_all only [ab,Kd.th,q0,fl2,oU]
   | tup ts =>
    have hc:(((ts.length:Nat):Int)==2)=false:=hc
    simp_all only [ab,Kd.th,q0,fl2,b5,hc]
   | lst ts=>simp_all only [ab,Kd.th,q0,fl2,f7]
   | _=>cases h
  | true =>
   obtain ⟨x,y,rfl⟩:=dP hc
   have hx:rOk x=true:=rOks_all.mp h x (by simp)
   have hy:rOk y=true:=rOks_all.mp h y (by simp)
   have l2:((([x,y].length:Nat):Int)==2)=true:=rfl
   have e1:=fun m1 m m2=>fts a (n+(max a.deep b.deep-a.deep)) x m1 m m2 c hx
   have e2:=fun m1 m m2=>fts b (n+(max a.deep b.deep-b.deep)) y m1 m m2 c hy
   rw [show n+(max a.deep b.deep-a.deep)+a.deep+2=n+max a.deep b.deep+2 by omega] at e1
   rw [show n+(max a.deep b.deep-b.deep)+b.deep+2=n+max a.deep b.deep+2 by omega] at e2
   show _=Res.ok ((Md.d,T.bl (a6 a x c&&a6 b y c)),[])
   cases h1:a6 a x c with
   | false =>
    rw [h1] at e1
    simp_all only [ab,Kd.th,qeq,q0,fl2,b5,l2,e1,a0w]
   | true =>
    rw [h1] at e1
    simp_all only [ab,Kd.th,qeq,q0,fl2,b5,l2,e1,e2,a0F]
 | .row a,n,t,m1,m,m2,c,h=>by
  have q0:([T.str (q "num"),.str (q "truth")].any fun t=>eqT t (.str (q "row")))=false:=by decide +kernel
  rw [show n+(Kd.row a).deep+2=(n+a.deep+2)+1 by show n+(a.deep+1)+2=_; omega,cg,x_run _ _ _ rfl]
  cases hc:cU t with
  | false =>
   rw [(gh (a:=a) (b:=a) (n:=c) hc).2]
   cases t with
   | int i=>simp_all only [ab,Kd.th,q0,fl2,pX]
   | bl b=>simp_all only [ab,Kd.th,q0,fl2,oN]
   | non=>simp_all only [ab,Kd.th,q0,fl2,qm]
   | str x=>simp_all only [ab,Kd.th,q0,fl2,oU]
   | tup ts =>
    have hc:(((ts.length:Nat):Int)==2)=false:=hc
    simp_all only [ab,Kd.th,q0,fl2,b5,hc]
   | lst ts=>simp_all only [ab,Kd.th,q0,fl2,f7]
   | _=>cases h
  | true =>
   obtain ⟨x,y,rfl⟩:=dP hc
   have hx:rOk x=true:=rOks_all.mp h x (by simp)
   have hy:rOk y=true:=rOks_all.mp h y (by simp)
   have l2:((([x,y].length:Nat):Int)==2)=true:=rfl
   have e2:=fun m1 m m2=>fts a n y m1 m m2 (iO x) hy
   show _=Res.ok ((Md.d,T.bl (aY bj c x&&a6 a y (iO x))),[])
   cases x with
   | lst ls =>
    unfold aY
    cases hl:(((ls.length:Nat):Int)==c) with
    | false=>simp_all only [ab,Kd.th,qeq,q0,fl2,b5,cZ,l2,hl,a0w]
    | true =>
     have c1:∀ w1,aG [6] (bG (evE (C (n+a.deep+2)) (.call 257 [.var 6,.cst (.int 0),.cst (.int 200)]))) (ls.map fun t=>[((.s,t):W)]) [none,w1,none,none,none,none,none] []=.ok ([]++ls.map fun t=>(.d,.bl (bj t)),[none,w1,none,none,none,none,none]):=fun w1=>by
      refine aU (fun t=>((.d,.bl (bj t)):W)) ls [] fun u hu=>⟨_,[none,w1,none,none,none,none,some (.s,u)],rfl,?_,rfl⟩
      have:=fun m m1 m2=>jb (n+a.deep+1) u (rOks_all.mp hx u hu) 0 200 m m1 m2
      rw [uK] at this
      simp_all only [this]
     have t1:=bT bj ls
     cases ha:(ls.map bj).all id with
     | false=>simp_all only [ab,Kd.th,qeq,q0,fl2,b5,cZ,l2,hl,c1,t1,cV,ha,a0w,a2E]
     | true =>
      obtain ⟨ns,s1,s2⟩:=ed fun t ht=>let ⟨_,i,e,_⟩:=gj (all_map.mp ha t ht); ⟨i,e⟩
      have e2':∀ m1 m m2,C (n+a.deep+2) 258 [(m1,a.th),(m,y),(m2,.int ns.sum)]=.ok ((.d,.bl (a6 a y (iO (.lst ls)))),[]):=fun m1 m m2=>by rw [s2]; exact e2 m1 m m2
      simp_all only [ab,Kd.th,qeq,q0,fl2,b5,cZ,l2,hl,c1,t1,cV,ha,s1,e2',a0F]
   | int i=>simp_all only [ab,Kd.th,qeq,q0,fl2,b5,pb,l2,aY,a0w]
   | bl b=>simp_all only [ab,Kd.th,qeq,q0,fl2,b5,nW,l2,aY,a0w]
   | non=>simp_all only [ab,Kd.th,qeq,q0,fl2,b5,ql,l2,aY,a0w]
   | str x=>simp_all only [ab,Kd.th,qeq,q0,fl2,b5,nR,l2,aY,a0w]
   | tup ts=>simp_all only [ab,Kd.th,qeq,q0,fl2,b5,gf,l2,aY,a0w]
   | _=>cases hx
noncomputable def ML (x:T):List T:=[.int 0,.int 1,.int (0-1),.int 200,.int 201,.int 1000000000000000000,.int (1000000000000000000+1),.int (0-1000000000000000000-1),.bl true,.bl false,.non,.str (q ""),.str (q "0"),.lst [],.tup [],.lst [x],.tup [x],.tup [x,x],.lst [.int 0],.lst [.bl true],.tup [.lst [],.lst []]]
theorem zd:rOk (.str (q ""))=true:=by decide +kernel
theorem y7:rOk (.str (q "0"))=true:=by decide +kernel
structure Sh (d s:Nat)(t:T):Prop where
 ok:rOk t=true
 dp:dp t<=d
 sz:szR t<=s
theorem Sh.up {d s d' s':Nat}{t:T}(h:Sh d s t)(hd:d<=d')(hs:s<=s'):Sh d' s' t:=⟨h.ok,a0j h.dp hd,a0j h.sz hs⟩
theorem jx (x:T){d s:Nat}(h:Sh d s x):∀ y∈ML x,Sh (d+2) (2 * s+108) y:=fun y hy=>by
 have hs:=h.sz
 have hd:=h.dp
 simp only [ML,a0v,a2z,or_false] at hy
 have lf:∀ z:T,rOk z=true->M.dp z=0->szR z=100->Sh (d+2) (2 * s+108) z:=fun z a b c=>⟨a,by omega,by omega⟩
 have sz1:szR x+2+0+4<=2 * s+108:=by omega
 rcases hy with rfl | rfl | rfl | rfl | rfl | rfl | rfl | rfl | rfl | rfl | rfl | rfl | rfl | rfl | rfl | rfl | rfl | rfl | rfl | rfl | rfl
 ·exact lf _ rfl rfl rfl
 ·exact lf _ rfl rfl rfl
 ·exact lf _ rfl rfl rfl
 ·exact lf _ rfl rfl rfl
 ·exact lf _ rfl rfl rfl
 ·exact lf _ rfl rfl rfl
 ·exact lf _ rfl rfl rfl
 ·exact lf _ rfl rfl rfl
 ·exact lf _ rfl rfl rfl
 ·exact lf _ rfl rfl rfl
 ·exact lf _ rfl rfl rfl
 ·exact lf _ zd rfl rfl
 ·exact lf _ y7 rfl rfl
 ·exact ⟨rfl,by show 0+1<=d+2; omega,by show 0+4<=_; omega⟩
 ·exact ⟨rfl,by show 0+1<=d+2; omega,by show 0+4<=_; omega⟩
 ·exact ⟨by show (rOk x&&true)=true; rw [h.ok]; rfl,by show max (M.dp x) 0+1<=d+2; omega,sz1⟩
 ·exact ⟨by show (rOk x&&true)=true; rw [h.ok]; rfl,by show max (M.dp x) 0+1<=d+2; omega,sz1⟩
 ·exact ⟨by show (rOk x&&(rOk x&&true))=true; rw [h.ok]; rfl,by show max (M.dp x) (max (M.dp x) 0)+1<=d+2; omega,by show szR x+2+(szR x+2+0)+4<=_; omega⟩
 ·exact ⟨rfl,by show max 0 0+1<=d+2; omega,by show 100+2+0+4<=_; omega⟩
 ·exact ⟨rfl,by show max 0 0+1<=d+2; omega,by show 100+2+0+4<=_; omega⟩
 ·exact ⟨rfl,by show max (0+1) (max (0+1) 0)+1<=d+2; omega,by show (0+4)+2+((0+4)+2+0)+4<=_; omega⟩
theorem hW {ts:List T}{j:Nat}(h:j < ts.length):ts.getD j .non∈ts:=by
 rw [a0r,a0q h]
 exact a2v _
theorem lC {ts:List T}{j:Nat}(h:j < ts.length):atI ts (j:Int)=some (ts.getD j .non):=atN rfl (by rw [a0r,a0q h]; rfl)
theorem bR {n N:Nat}{t:T}(ht:Tp N t)(hN:N < 1000000000000000000)(m:Md)(x:T)(hx:rOk x=true):∃ md y t',y∈ML x/\Tp (N+1) t'/\C (n+3) 259 [(.d,t),(m,x)]=.ok ((md,y),[(.d,t')]):=by
 obtain ⟨r,t1,r0,r1,ht1,e1⟩:=cc (n:=n) .d 21 ht hN (by decide) (by decide)
 obtain ⟨j,rfl⟩:∃ j:Nat,r=(j:Int):=⟨r.toNat,by omega⟩
 have hj:j < (ML x).length:=by show j < 21; omega
 have a1:=lC hj
 have hm:=hW hj
 generalize (ML x).getD j .non=y at a1 hm
 unfold ML at a1
 have f1:fits (8+8)=true:=rfl
 have f2:fits (16+5)=true:=rfl
 rw [eH,x_run _ _ _ rfl]
 have key:∀ μ,lf .s x=μ->∃ md y t',y∈ML x/\Tp (N+1) t'/\Fl.out f_law_strange.io (evSs (C (n+2)) f_law_strange.body (([(.d,t),(m,x)]:List W).map some++a0f f_law_strange.ns none))=.ok ((md,y),[(.d,t')]):=fun μ hμ=>by
  cases x with
  | int i=>exact ⟨_,y,t1,hm,ht1,by simp_all only [f_law_strange,bp,f1,f2,a0n,a06,a01,a1j,e1,a1]; rfl⟩
  | bl b=>exact ⟨_,y,t1,hm,ht1,by simp_all only [f_law_strange,bp,f1,f2,a0n,a06,a01,a1j,e1,a1]; rfl⟩
  | non=>exact ⟨_,y,t1,hm,ht1,by simp_all only [f_law_strange,bp,f1,f2,a0n,a06,a01,a1j,e1,a1]; rfl⟩
  | str z=>exact ⟨_,y,t1,hm,ht1,by simp_all only [f_law_strange,bp,f1,f2,a0n,a06,a01,a1j,e1,a1]; rfl⟩
  | tup z=>exact ⟨_,y,t1,hm,ht1,by simp_all only [f_law_strange,bp,f1,f2,a0n,a06,a01,a1j,e1,a1]; rfl⟩
  | lst z=>exact ⟨_,y,t1,hm,ht1,by simp_all only [f_law_strange,bp,f1,f2,a0n,a06,a01,a1j,e1,a1]; rfl⟩
  | _=>cases hx
 exact key _ rfl
theorem mZ {α:Type}(ts:List α)(j:Nat):cut ts none (some (j:Int))=ts.take j:=by
 show (ts.drop 0).take ((if (j:Int) < 0 then ((j:Int)+(ts.length:Int)).toNat else min (j:Int).toNat ts.length)-0)=_
 rw [if_neg (by omega),a1E,Nat.sub_zero,Int.toNat_natCast]
 by_cases h:j<=ts.length
 ·rw [Nat.min_eq_left h]
 ·rw [Nat.min_eq_right (by omega),a03 (a0b _),a03 (by omega)]
theorem gZ {α:Type}(l:List α)(k:Nat)(h:k<=l.length):cut l (some (k:Int)) none=l.drop k:=by
 have e:sIx l.length 0 (some (k:Int))=k:=by
  show (if (k:Int) < 0 then ((k:Int)+(l.length:Int)).toNat else min (k:Int).toNat l.length)=k
  rw [if_neg (by omega)]; omega
 have e2:sIx l.length l.length none=l.length:=rfl
 rw [cut,e,e2]
 exact a03 (by rw [a02]; omega)
theorem bq:∀ a b:List T,szRs (a++b)=szRs a+szRs b
 | [],b=>(a01 _).symm
 | t::a,b=>by show szR t+2+szRs (a++b)=szR t+2+szRs a+szRs b; rw [bq a b]; omega
theorem dps_le {ts:List T}{k:Nat}:dps ts<=k ↔ ∀ t∈ts,dp t<=k:=by
 induction ts with
 | nil=>exact ⟨(fun _ _ h=>nomatch h),fun _=>a0W _⟩
 | cons t ts ih =>
  show max (dp t) (dps ts)<=k ↔ _
  constructor
  ·intro h u hu
   rcases a0v.mp hu with rfl | hu
   ·omega
   ·exact ih.mp (by omega) u hu
  ·intro h
   have:=ih.mpr fun u hu=>h u (a0c _ hu)
   have:=h t a0g
   omega
theorem gR:∀ ts:List T,ts.length<=szRs ts
 | []=>a0b _
 | t::ts=>by have:=gR ts; show ts.length+1<=szR t+2+szRs ts; omega
structure Shs (d s:Nat)(ts:List T):Prop where
 ok:∀ t∈ts,rOk t=true
 dp:∀ t∈ts,dp t<=d
 sz:szRs ts<=s
theorem Sh.kids {d s:Nat}{ts:List T}(h:Sh (d+1) s (.lst ts)\/Sh (d+1) s (.tup ts)):Shs d (s-4) ts/\4<=s:=by
 rcases h with h | h
 ·have h2:dps ts+1<=d+1:=h.dp
  have h3:szRs ts+4<=s:=h.sz
  exact ⟨⟨rOks_all.mp h.ok,dps_le.mp (by omega),by omega⟩,by omega⟩
 ·have h2:dps ts+1<=d+1:=h.dp
  have h3:szRs ts+4<=s:=h.sz
  exact ⟨⟨rOks_all.mp h.ok,dps_le.mp (by omega),by omega⟩,by omega⟩
theorem Shs.back {d s:Nat}{ts:List T}(h:Shs d s ts):Sh (d+1) (s+4) (.lst ts)/\Sh (d+1) (s+4) (.tup ts):=by
 have h2:dps ts<=d:=dps_le.mpr h.dp
 have h3:=h.sz
 exact ⟨⟨rOks_all.mpr h.ok,by show dps ts+1<=d+1; omega,by show szRs ts+4<=s+4; omega⟩,⟨rOks_all.mpr h.ok,by show dps ts+1<=d+1; omega,by show szRs ts+4<=s+4; omega⟩⟩
theorem mQ {ts:List T}{j:Nat}(h:j < ts.length):ts=ts.take j++ts.getD j .non::ts.drop (j+1):=by
 have e:ts.getD j .non=ts[j]:=by rw [a0r,a0q h]; rfl
 rw [e,<- a1D h,a1o]
theorem eA {ts:List T}{j:Nat}(h:j < ts.length):szRs ts=szRs (ts.take j)+(szR (ts.getD j .non)+2+szRs (ts.drop (j+1))):=by
 have e:=congrArg szRs (mQ h)
 rw [bq] at e
 exact e
theorem jM (ts:List T)(j:Nat):szRs ts=szRs (ts.take j)+szRs (ts.drop j):=by rw [<- bq,a1o]
theorem Shs.at {d s:Nat}{ts:List T}{j:Nat}(h:Shs d s ts)(hj:j < ts.length):Sh d s (ts.getD j .non):=by
 have hm:=hW hj
 have:=eA hj
 have:=h.sz
 exact ⟨h.ok _ hm,h.dp _ hm,by omega⟩
theorem Shs.out {d s:Nat}{ts:List T}{j:Nat}(h:Shs d s ts)(hj:j < ts.length):Shs d s (ts.take j++ts.drop (j+1)):=by
 have mem:∀ t∈ts.take j++ts.drop (j+1),t∈ts:=fun t ht=>(a0K.mp ht).elim a11 a12
 have:=eA hj
 have:=h.sz
 exact ⟨fun t ht=>h.ok t (mem t ht),fun t ht=>h.dp t (mem t ht),by rw [bq]; omega⟩
theorem Shs.ins {d s d' s':Nat}{ts:List T}{j:Nat}{y:T}(h:Shs d s ts)(hy:Sh d' s' y)(hd:d<=d'):Shs d' (s+s'+2) (ts.take j++[y]++ts.drop j):=by
 have mem:∀ t∈ts.take j++[y]++ts.drop j,t∈ts\/t=y:=fun t ht=>by
  rcases a0K.mp ht with ht | ht
  ·rcases a0K.mp ht with ht | ht
   ·exact .inl (a11 ht)
   ·exact .inr (a0E.mp ht)
  ·exact .inl (a12 ht)
 have e1:=jM ts j
 have e2:=h.sz
 have e3:=hy.sz
 refine ⟨fun t ht=>?_,fun t ht=>?_,?_⟩
 ·rcases mem t ht with z | rfl
  ·exact h.ok t z
  ·exact hy.ok
 ·rcases mem t ht with z | rfl
  ·exact a0j (h.dp t z) hd
  ·exact hy.dp
 ·rw [bq,bq]
  show szRs (ts.take j)+(szR y+2+0)+szRs (ts.drop j)<=_
  omega
theorem Shs.set {d s d':Nat}{ts:List T}{j:Nat}{y:T}(h:Shs d s ts)(hj:j < ts.length)(c:Nat)(hy:Sh d' (3 * szR (ts.getD j .non)+c) y)(hd:d<=d'):Shs d' (3 * s+c) (ts.set j y):=by
 have mem:∀ t∈ts.set j y,t∈ts\/t=y:=fun t ht=>List.mem_or_eq_of_mem_set ht
 have e1:=eA hj
 have e2:=h.sz
 have e3:=hy.sz
 refine ⟨fun t ht=>?_,fun t ht=>?_,?_⟩
 ·rcases mem t ht with z | rfl
  ·exact h.ok t z
  ·exact hy.ok
 ·rcases mem t ht with z | rfl
  ·exact a0j (h.dp t z) hd
  ·exact hy.dp
 ·have e4:ts.set j y=ts.take j++y::ts.drop (j+1):=List.set_eq_take_append_cons_drop .. |>.trans (if_pos hj)
  rw [e4,bq]
  show szRs (ts.take j)+(szR y+2+szRs (ts.drop (j+1)))<=_
  omega
noncomputable def Bn (L d:Nat):Prop:=∀ (N:Nat) (t:T) (x:T) (s:Nat) (m:Md),Tp N t->N+3 * d+10 < 1000000000000000000->Sh d s x->s<=1000000->∃ md y t',Sh (d+2) (3 * s+200) y/\Tp (N+3 * d+2) t'/\C L 262 [(.d,t),(m,x)]=.ok ((md,y),[(.d,t')])
theorem mG {n N d s:Nat}{t t1 x:T}{m:Md}{r:Int}(ht1:Tp (N+1) t1)(hN:N+1 < 1000000000000000000)(e1:C (n+3) 20 [(.d,t),(.d,.int 6)]=.ok ((.d,.int r),[(.d,t1)]))(hx:Sh d s x)
  (h1:((["list","tuple"].any fun c=>isOne c x)=false)\/(∃ ts,(x=.lst ts\/x=.tup ts)/\((decide (1 < r)=false/\(r==1)=false)\/(decide (1 < r)=true/\decide (0 < ((ts.length:Nat):Int))=false/\(r==1)=false)))) :
  ∃ md y t',Sh (d+2) (3 * s+200) y/\Tp (N+2) t'/\C (n+4) 262 [(.d,t),(m,x)]=.ok ((md,y),[(.d,t')]):=by
 obtain ⟨md,y,t2,hy,ht2,e2⟩:=bR (n:=n) ht1 (by omega) .s x hx.ok
 obtain ⟨md',y',t2',hy',ht2',e2'⟩:=bR (n:=n) ht1 (by omega) m x hx.ok
 have hs:=(jx x hx y' hy').up (a0b _) (show 2 * s+108<=3 * s+200 by omega)
 have hs0:=(jx x hx y hy).up (a0b _) (show 2 * s+108<=3 * s+200 by omega)
 rw [ck,x_run _ _ _ rfl]
 rcases h1 with h1 | ⟨ts,hts,h1⟩
 ·have hok:=hx.ok
  cases x with
  | int i =>
   obtain ⟨md,y,t2,hy,ht2,e2⟩:=bR (n:=n) ht1 (by omega) m (.int i) hok
   have hs:=(jx _ hx y hy).up (a0b _) (show 2 * s+108<=3 * s+200 by omega)
   exact ⟨_,y,t2,hs,ht2,by simp_all only [ai,e1,xW,pb,pX,e2]; rfl⟩
  | bl i=>exact ⟨_,y',t2',hs,ht2',by simp_all only [ai,e1,xT,nW,oN,e2']; rfl⟩
  | non=>exact ⟨_,y',t2',hs,ht2',by simp_all only [ai,e1,yi,ql,qm,e2']; rfl⟩
  | str i=>exact ⟨_,y',t2',hs,ht2',by simp_all only [ai,e1,xh,nR,oU,e2']; rfl⟩
  | tup ts=>cases h1
  | lst ts=>cases h1
  | _=>cases hok
 ·rcases hts with rfl | rfl
  ·rcases h1 with ⟨h2,h3⟩ | ⟨h2,h3,h4⟩
   ·exact ⟨_,y',t2',hs,ht2',by simp_all only [ai,e1,eW,cZ,f7,h2,h3,e2']; rfl⟩
   ·exact ⟨_,y',t2',hs,ht2',by simp_all only [ai,e1,eW,cZ,f7,h2,h3,h4,e2']; rfl⟩
  ·rcases h1 with ⟨h2,h3⟩ | ⟨h2,h3,h4⟩
   ·exact ⟨_,y',t2',hs,ht2',by simp_all only [ai,e1,eY,gf,b5,h2,h3,e2']; rfl⟩
   ·exact ⟨_,y',t2',hs,ht2',by simp_all only [ai,e1,eY,gf,b5,h2,h3,h4,e2']; rfl⟩
theorem uB {n j:Nat}(h:j < n):ixN n (j:Int)=some j:=by
 unfold ixN
 rw [if_pos (by omega),if_pos (by omega)]
 simp
theorem jg {n s:Nat}(h:n<=s)(hs:s<=10000000):fits n=true:=decide_eq_true (by show n<=16777215; omega)
theorem nX {L N d s:Nat}{t t1:T}{ts:List T}{m:Md}{r:Int}(tp:Bool)(ih:Bn L d)(hL:∀ N t x m,Tp N t->N < 1000000000000000000->rOk x=true->∃ md y t',y∈ML x/\Tp (N+1) t'/\C L 259 [(.d,t),(m,x)]=.ok ((md,y),[(.d,t')]))
  (hD:∀ N t (m:Md) (k:Int),Tp N t->N < 1000000000000000000->0 < k->k < 1073741824->∃ r t',0<=r/\r < k/\Tp (N+1) t'/\C L 20 [(.d,t),(m,.int k)]=.ok ((.d,.int r),[(.d,t')]))
  (ht1:Tp (N+1) t1) (hN:N+3 * (d+1)+10 < 1000000000000000000) (e1:C L 20 [(.d,t),(.d,.int 6)]=.ok ((.d,.int r),[(.d,t1)])) (hx:Shs d s ts) (hs:s<=1000000) (hr:1 < r) (hl:0 < ts.length) :
  ∃ md y t',Sh (d+1+2) (3 * (s+4)+200) y/\Tp (N+3 * (d+1)+2) t'/\C (L+1) 262 [(.d,t),(m,if tp then .tup ts else .lst ts)]=.ok ((md,y),[(.d,t')]):=by
 have g1:decide (1 < r)=true:=decide_eq_true hr
 have g2:decide (0 < ((ts.length:Nat):Int))=true:=decide_eq_true (by omega)
 have hlen:ts.length<=s:=a0j (gR ts) hx.sz
 obtain ⟨q,t2,q0,q1,ht2,e2⟩:=hD (N+1) t1 .d ((ts.length:Nat):Int) ht1 (by omega) (by omega) (by omega)
 obtain ⟨j,rfl⟩:∃ j:Nat,q=(j:Int):=⟨q.toNat,by omega⟩
 have hj:j < ts.length:=by omega
 have a1:=lC hj
 have hxj:=hx.at hj
 have c1:=mZ ts j
 have c2:cut ts (some ((j:Int)+1)) none=ts.drop (j+1):=gZ ts (j+1) (by omega)
 have c3:=gZ ts j (by omega)
 have lt:(ts.take j).length<=s:=by rw [a1d]; omega
 have ld:(ts.drop (j+1)).length<=s:=by rw [a02]; omega
 have ld2:(ts.drop j).length<=s:=by rw [a02]; omega
 have fin:∀ us:List T,Shs (d+2) (3 * s+200+8) us->Sh (d+1+2) (3 * (s+4)+200) (.lst us)/\Sh (d+1+2) (3 * (s+4)+200) (.tup us):=fun us h=>by
  have:=h.back
  exact ⟨this.1.up (by omega) (by omega),this.2.up (by omega) (by omega)⟩
 rw [ck,x_run _ _ _ rfl]
 by_cases w2:r=2
 ·have b2:(r==2)=true:=by rw [w2]; rfl
  have f1:fits ((ts.take j).length+(ts.drop (j+1)).length)=true:=jg (s:=2 * s) (by omega) (by omega)
  have ho:Shs (d+2) (3 * s+200+8) (ts.take j++ts.drop (j+1)):=let z:=hx.out hj; ⟨z.ok,fun t ht=>a0j (z.dp t ht) (by omega),a0j z.sz (by omega)⟩
  have ff:=fin _ ho
  cases tp with
  | true =>
   exact ⟨_,.tup (ts.take j++ts.drop (j+1)),t2,ff.2,tm ht2 (by omega),by rw [if_pos rfl]; simp_all only [ai,e1,eY,gf,b5,g1,g2,e2,b2,dh,dY,eI,c1,c2,f1]; rfl⟩
  | false =>
   exact ⟨_,.lst (ts.take j++ts.drop (j+1)),t2,ff.1,tm ht2 (by omega),by rw [if_neg a0h]; simp_all only [ai,e1,eW,cZ,f7,g1,g2,e2,b2,dW,dY,eI,c1,c2,f1]; rfl⟩
 ·have b2:(r==2)=false:=beq_eq_false_iff_ne.mpr w2
  by_cases w3:r=3
  ·have b3:(r==3)=true:=by rw [w3]; rfl
   obtain ⟨md,y,t3,hy,ht3,e3⟩:=hL (N+1+1) t2 (ts.getD j .non) .s ht2 (by omega) hxj.ok
   have hy:=jx _ hxj y hy
   have f2:fits ((ts.take j).length+[y].length)=true:=jg (s:=2 * s+1) (by rw [a0S]; omega) (by omega)
   have f3:fits ((ts.take j++[y]).length+(ts.drop j).length)=true:=jg (s:=2 * s+1) (by rw [a0m,a0S]; omega) (by omega)
   have ho:Shs (d+2) (3 * s+200+8) (ts.take j++[y]++ts.drop j):=let z:=hx.ins (j:=j) hy (by omega); ⟨z.ok,z.dp,a0j z.sz (by omega)⟩
   have ff:=fin _ ho
   cases tp with
   | true =>
    exact ⟨_,.tup (ts.take j++[y]++ts.drop j),t3,ff.2,tm ht3 (by omega),by rw [if_pos rfl]; simp_all only [ai,e1,eY,gf,b5,g1,g2,e2,b2,b3,dh,dY,eI,c1,c3,f2,f3,a1,e3]; rfl⟩
   | false =>
    exact ⟨_,.lst (ts.take j++[y]++ts.drop j),t3,ff.1,tm ht3 (by omega),by rw [if_neg a0h]; simp_all only [ai,e1,eW,cZ,f7,g1,g2,e2,b2,b3,dW,dY,eI,c1,c3,f2,f3,a1,e3]; rfl⟩
  ·have b3:(r==3)=false:=beq_eq_false_iff_ne.mpr w3
   obtain ⟨md,y,t3,hy,ht3,e3⟩:=ih (N+1+1) t2 (ts.getD j .non) (szR (ts.getD j .non)) .s ht2 (by omega) ⟨hxj.ok,hxj.dp,a0b _⟩ (a0j hxj.sz hs)
   have x1:=uB hj
   have ho:Shs (d+2) (3 * s+200+8) (ts.set j y):=let z:=hx.set hj 200 hy (by omega); ⟨z.ok,z.dp,a0j z.sz (by omega)⟩
   have ff:=fin _ ho
   cases tp with
   | true =>
    exact ⟨_,.tup (ts.set j y),t3,ff.2,tm ht3 (by omega),by rw [if_pos rfl]; simp_all only [ai,e1,eY,gf,b5,g1,g2,e2,b2,b3,dh,a1,e3,x1]; rfl⟩
   | false =>
    exact ⟨_,.lst (ts.set j y),t3,ff.1,tm ht3 (by omega),by rw [if_neg a0h]; simp_all only [ai,e1,eW,cZ,f7,g1,g2,e2,b2,b3,dW,a1,e3,x1]; rfl⟩
theorem oB {n N d s:Nat}{t t1:T}{ts:List T}{m:Md}{r:Int}(tp:Bool)(ht1:Tp (N+1) t1)(e1:C (n+3) 20 [(.d,t),(.d,.int 6)]=.ok ((.d,.int r),[(.d,t1)]))(hr:r=1)(hx:Shs d s ts) :
  ∃ md y t',Sh (d+1) (s+4) y/\Tp (N+1) t'/\C (n+4) 262 [(.d,t),(m,if tp then .tup ts else .lst ts)]=.ok ((md,y),[(.d,t')]):=by
 have g1:decide (1 < r)=false:=decide_eq_false (by omega)
 have b1:(r==1)=true:=by rw [hr]; rfl
 have ff:=hx.back
 rw [ck,x_run _ _ _ rfl]
 cases tp with
 | true=>exact ⟨_,.lst ts,t1,ff.1,ht1,by rw [if_pos rfl]; simp_all only [ai,e1,eY,gf,b5,g1,b1,dh]; rfl⟩
 | false=>exact ⟨_,.tup ts,t1,ff.2,ht1,by rw [if_neg a0h]; simp_all only [ai,e1,eW,cZ,f7,g1,b1,mf]; rfl⟩
theorem fh (d n:Nat)(ih:∀ e,d=e+1->Bn (n+e+4) e):Bn (n+d+4) d:=fun N t x s m ht hN hx hs=>by
  obtain ⟨r,t1,r0,r1,ht1,e1⟩:=cc (n:=n+d+1) .d 6 ht (by omega) (by decide) (by decide)
  have str:(((["list","tuple"].any fun c=>isOne c x)=false)\/(∃ ts,(x=.lst ts\/x=.tup ts)/\((decide (1 < r)=false/\(r==1)=false)\/(decide (1 < r)=true/\decide (0 < ((ts.length:Nat):Int))=false/\(r==1)=false)))) ->
    ∃ md y t',Sh (d+2) (3 * s+200) y/\Tp (N+3 * d+2) t'/\C (n+d+4) 262 [(.d,t),(m,x)]=.ok ((md,y),[(.d,t')]):=fun h=>by
   obtain ⟨md,y,t',a,b,c⟩:=mG (n:=n+d) (m:=m) ht1 (by omega) e1 hx h
   exact ⟨md,y,t',a,tm b (by omega),c⟩
  have seq:∀ (tp:Bool) (ts:List T),x=(if tp then .tup ts else .lst ts)->∃ md y t',Sh (d+2) (3 * s+200) y/\Tp (N+3 * d+2) t'/\C (n+d+4) 262 [(.d,t),(m,x)]=.ok ((md,y),[(.d,t')]):=fun tp ts hxe=>by
   have hor:x=.lst ts\/x=.tup ts:=by
    cases tp with
    | true=>exact .inr hxe
    | false=>exact .inl hxe
   clear ht
   cases d with
   | zero =>
    exfalso
    have:=hx.dp
    rcases hor with e | e
    ·rw [e] at this
     have:dps ts+1<=0:=this
     omega
    ·rw [e] at this
     have:dps ts+1<=0:=this
     omega
   | succ d =>
    obtain ⟨hk,h4⟩:=Sh.kids (d:=d) (s:=s) (ts:=ts) (hor.elim (fun e=>.inl (e ▸ hx)) fun e=>.inr (e ▸ hx))
    by_cases h1:r=1
    ·obtain ⟨md,y,t',a,b,c⟩:=oB (n:=n+(d+1)) (m:=m) tp ht1 e1 h1 hk
     rw [<- hxe] at c
     exact ⟨md,y,t',a.up (by omega) (by omega),tm b (by omega),c⟩
    ·have b1:(r==1)=false:=beq_eq_false_iff_ne.mpr h1
     by_cases h2:1 < r
     ·by_cases hl:0 < ts.length
      ·obtain ⟨md,y,t',a,b,c⟩:=nX (L:=n+d+4) (N:=N) (m:=m) tp (ih d rfl) (fun N t x m h1 h2 h3=>bR (n:=n+d+1) h1 h2 m x h3) (fun N t m k h1 h2 h3 h4=>cc (n:=n+d+2) m k h1 h2 h3 h4) ht1 (by omega) e1 hk (by omega) h2 hl
       rw [<- hxe] at c
       exact ⟨md,y,t',a.up (by omega) (by omega),tm b (by omega),c⟩
      ·exact str (.inr ⟨ts,hor,.inr ⟨decide_eq_true h2,decide_eq_false (by omega),b1⟩⟩)
     ·exact str (.inr ⟨ts,hor,.inl ⟨decide_eq_false h2,b1⟩⟩)
  have hok:=hx.ok
  cases x with
  | int i=>exact str (.inl rfl)
  | bl b=>exact str (.inl rfl)
  | non=>exact str (.inl rfl)
  | str z=>exact str (.inl rfl)
  | tup ts=>exact seq true ts rfl
  | lst ts=>exact seq false ts rfl
  | _=>cases hok
theorem jl:∀ (d n:Nat),Bn (n+d+4) d
 | 0,n=>fh 0 n fun e h=>by omega
 | d+1,n=>fh (d+1) n fun e h=>by
  have:e=d:=by omega
  rw [this]
  exact jl d n
theorem bN (x:Str):(x==x)=true:=beq_self_eq_true x
theorem og (k:Kd)(hk:k.deep<=5){s:Nat}(x:T)(hx:Sh 60 s x)(hs:s<=10000000)(c:Int)(m1 m m2:Md):C 39 261 [(m1,k.th),(m,x),(m2,.int c)]=.ok ((.d,.bl true),[]):=by
 have r1:(decide (dp x<=64)&&rOk x&&fits (szR x))=true:=by
  rw [hx.ok,decide_eq_true (a0j hx.dp (by decide)),jg hx.sz hs]; rfl
 have e1:=fun m1 m m2=>isf k (34-k.deep) x m1 m m2 c hx.ok
 rw [show 34-k.deep+k.deep+4=38 by omega] at e1
 have e2:=fun m1 m m2=>fts k (36-k.deep) x m1 m m2 c hx.ok
 rw [show 36-k.deep+k.deep+2=38 by omega] at e2
 have bs:∀ b:Bool,(b==b)=true:=fun b=>by cases b<;>rfl
 have hok:=hx.ok
 obtain ⟨kl,hkl⟩:∃ l,k.th=.tup l:=let ⟨l,h,_⟩:=fO k; ⟨l,h⟩
 rw [hkl] at e1 e2 ⊢
 generalize a6 k x c=b at e1 e2
 rw [ic,x_run _ _ _ rfl]
 cases x with
 | int i=>simp_all only [aK,cQ,r1,e1,e2,eL,bN,bs]
 | bl z=>simp_all only [aK,cQ,r1,e1,e2,eL,bN,bs]
 | non=>simp_all only [aK,cQ,r1,e1,e2,eL,bN,bs]
 | str z=>simp_all only [aK,cQ,r1,e1,e2,eL,bN,bs]
 | tup ts=>simp_all only [aK,cQ,r1,e1,e2,eL,bN,bs]
 | lst ts=>simp_all only [aK,cQ,r1,e1,e2,eL,bN,bs]
 | _=>cases hok
noncomputable def fst:T->T | .tup [x,_]=>x | _=>.non
noncomputable def snd:T->T | .tup [_,x]=>x | _=>.non
noncomputable def kids:T->List T | .lst ts=>ts | _=>[]
noncomputable def cP (t:T):T:=.int (((kids t).length:Nat):Int)
noncomputable def flatT:Kd->List T->T
 | .num,ts=>.lst ts
 | .truth,ts=>.lst ts
 | .pair a b,ts=>.tup [flatT a (ts.map fst),flatT b (ts.map snd)]
 | .row a,ts=>.tup [.lst (ts.map cP),flatT a (ts.flatMap kids)]
theorem fE:∀ ts us:List T,szs (ts++us)=szs ts+szs us
 | [],us=>by show szs us=0+szs us; omega
 | t::ts,us=>by show sz t+szs (ts++us)=sz t+szs ts+szs us; rw [fE ts us]; omega
theorem ub (t:T):1<=sz t:=by
 cases t<;>first | exact a0b _ | exact Nat.le_add_left _ _
theorem dQ:∀ ts:List T,ts.length<=szs ts
 | []=>a0b _
 | t::ts=>by
  have:=dQ ts
  have:=ub t
  show ts.length+1<=sz t+szs ts
  omega
theorem gc {a b:Kd}:∀ {ts:List T},(∀ t∈ts,OfK (.pair a b) t)->szs (ts.map fst)<=szs ts/\szs (ts.map snd)<=szs ts
 | [],_=>⟨a0b _,a0b _⟩
 | t::ts,h=>by
  obtain ⟨x,y,rfl,_,_⟩:=h t a0g
  obtain ⟨h1,h2⟩:=gc fun u hu=>h u (a0c _ hu)
  refine ⟨?_,?_⟩
  ·show sz x+szs (ts.map fst)<=(sz x+(sz y+0)+1)+szs ts; omega
  ·show sz y+szs (ts.map snd)<=(sz x+(sz y+0)+1)+szs ts; omega
theorem hU {a:Kd}:∀ {ts:List T},(∀ t∈ts,OfK (.row a) t)->szs (ts.flatMap kids)<=szs ts
 | [],_=>a0b _
 | t::ts,h=>by
  obtain ⟨us,rfl,_,_⟩:=h t a0g
  have:=hU fun u hu=>h u (a0c _ hu)
  rw [a08,fE]
  show szs us+_<=(szs us+1)+szs ts
  omega
theorem dz {a b:Kd}{ts:List T}(h:∀ t∈ts,OfK (.pair a b) t):(∀ t∈ts.map fst,OfK a t)/\∀ t∈ts.map snd,OfK b t:=by
 refine ⟨fun u hu=>?_,fun u hu=>?_⟩
 ·obtain ⟨t,ht,rfl⟩:=a0Z.mp hu
  obtain ⟨x,y,rfl,h1,_⟩:=h t ht
  exact h1
 ·obtain ⟨t,ht,rfl⟩:=a0Z.mp hu
  obtain ⟨x,y,rfl,_,h1⟩:=h t ht
  exact h1
theorem fM {a:Kd}{ts:List T}(h:∀ t∈ts,OfK (.row a) t):∀ t∈ts.flatMap kids,OfK a t:=by
 intro u hu
 obtain ⟨t,ht,hu⟩:=List.mem_flatMap.mp hu
 obtain ⟨us,rfl,_,h1⟩:=h t ht
 exact h1 u hu
theorem i2 {ts:List T}(h:∀ t∈ts,OfK .num t):leaves ts=true:=a0z.mpr fun t ht=>by obtain ⟨i,rfl,_⟩:=h t ht; rfl
theorem gi {ts:List T}(h:∀ t∈ts,OfK .truth t):leaves ts=true:=a0z.mpr fun t ht=>by obtain ⟨i,rfl⟩:=h t ht; rfl
theorem i4 {α:Type}(g:α->T)(ts:List α):(ts.map fun x=>((.d,g x):W)).all okD=true:=a0z.mpr fun w hw=>by
 obtain ⟨u,_,rfl⟩:=a0Z.mp hw
 rfl
theorem ie {F:Call}{a b:Kd}{ts:List T}(h:∀ t∈ts,OfK (.pair a b) t)(η:Env)(s:Nat)(hη:∀ t,rd (put η s (.s,t)) s=some (.s,t))(hd:∀ t,ak [s] (put η s (.s,t))=η) :
  aG [s] (bG (evE F (.op .ix false [.var s,.cst (.int 0)]))) (ts.map fun t=>[((.s,t):W)]) η []=.ok ([]++ts.map fun t=>(.s,fst t),η) /\
  aG [s] (bG (evE F (.op .ix false [.var s,.cst (.int 1)]))) (ts.map fun t=>[((.s,t):W)]) η []=.ok ([]++ts.map fun t=>(.s,snd t),η):=by
 constructor
 ·refine aU (fun t=>((.s,fst t):W)) ts [] fun u hu=>⟨_,put η s (.s,u),rfl,?_,hd u⟩
  obtain ⟨x,y,rfl,_,_⟩:=h u hu
  simp_all only [hη,fst]
 ·refine aU (fun t=>((.s,snd t):W)) ts [] fun u hu=>⟨_,put η s (.s,u),rfl,?_,hd u⟩
  obtain ⟨x,y,rfl,_,_⟩:=h u hu
  simp_all only [hη,snd]
theorem mr {F:Call}{a:Kd}{ts:List T}(h:∀ t∈ts,OfK (.row a) t)(η:Env)(s:Nat)(hη:∀ t,rd (put η s (.s,t)) s=some (.s,t))(hd:∀ t,ak [s] (put η s (.s,t))=η) :
  aG [s] (bG (evE F (.op .len false [.var s]))) (ts.map fun t=>[((.s,t):W)]) η []=.ok ([]++ts.map fun t=>(.d,cP t),η):=by
 refine aU (fun t=>((.d,cP t):W)) ts [] fun u hu=>⟨_,put η s (.s,u),rfl,?_,hd u⟩
 obtain ⟨us,rfl,_,_⟩:=h u hu
 simp_all only [hη,cP,kids]
theorem flat:∀ (k:Kd) (n:Nat) (ts:List T) (m1 m:Md),(∀ t∈ts,OfK k t)->szs ts<=LIM->C (n+k.deep+1) 6 [(m1,k.th),(m,.lst ts)]=.ok ((.d,flatT k ts),[])
 | .num,n,ts,m1,m,h,_=>by
  rw [bX,x_run _ _ _ rfl]
  simp_all only [aX,Kd.th,qeq,i2 h,flatT]
 | .truth,n,ts,m1,m,h,_=>by
  rw [bX,x_run _ _ _ rfl]
  simp_all only [aX,Kd.th,qeq,gi h,flatT]
 | .pair a b,n,ts,m1,m,h,hs=>by
  have e1:=flat a (n+(max a.deep b.deep-a.deep)) (ts.map fst) .s (.o .s) (dz h).1 (a0j (gc h).1 hs)
  have e2:=flat b (n+(max a.deep b.deep-b.deep)) (ts.map snd) .s (.o .s) (dz h).2 (a0j (gc h).2 hs)
  rw [show n+(max a.deep b.deep-a.deep)+a.deep+1=n+max a.deep b.deep+1 by omega] at e1
  rw [show n+(max a.deep b.deep-b.deep)+b.deep+1=n+max a.deep b.deep+1 by omega] at e2
  rw [show n+(Kd.pair a b).deep+1=(n+max a.deep b.deep+1)+1 from rfl,bX,x_run _ _ _ rfl]
  have c1:=(ie (F:=C (n+max a.deep b.deep+1)) h [some (.s,.tup [.str (q "pair"),a.th,b.th]),some (.s,.lst ts),none,none,none,none,none] 4 (fun _=>rfl) (fun _=>rfl)).1
  have c2:=(ie (F:=C (n+max a.deep b.deep+1)) h [some (.s,.tup [.str (q "pair"),a.th,b.th]),some (.s,.lst ts),none,none,none,none,none] 5 (fun _=>rfl) (fun _=>rfl)).2
  simp_all only [aX,Kd.th,qeq,c1,c2,bU (fun _=>Md.s),e1,e2,flatT]
 | .row a,n,ts,m1,m,h,hs=>by
  have hk:=a0j (hU h) hs
  have hl:=a0j (dQ (ts.flatMap kids)) hk
  have e1:=fun m2=>flat a n (ts.flatMap kids) m2 (.o .s) (fM h) hk
  rw [show n+(Kd.row a).deep+1=(n+a.deep+1)+1 from rfl,bX,x_run _ _ _ rfl]
  have lp:eK [3] (evSs (C (n+a.deep+1)) [S.ext (X.q [3] []) 2 (E.var 3)]) (ts.map fun t=>[((Md.s,t):W)]) [some (m1,T.tup [T.str (q "row"),a.th]),some (Md.s,T.lst ts),some (Md.s.o,T.lst []),none,none,none,none] =
    .nx [some (m1,T.tup [T.str (q "row"),a.th]),some (Md.s,T.lst ts),some (Md.s.o,T.lst (ts.flatMap kids)),ts.getLast?.map fun t=>(Md.s,t),none,none,none]:=by
   refine jy (fun p=>[some (m1,T.tup [T.str (q "row"),a.th]),some (Md.s,T.lst ts),some (Md.s.o,T.lst (p.flatMap kids)),p.getLast?.map fun t=>(Md.s,t),none,none,none]) ts [] fun p t r e=>?_
   obtain ⟨us,rfl,_,_⟩:=h t (by simp at e; rw [e]; simp)
   refine ⟨_,rfl,?_⟩
   have hle:((p.flatMap kids).length+us.length<=LIM):=by
    have e':ts=p++.lst us::r:=e
    rw [e',a2c,a08,a0m,a0m] at hl
    have:(kids (.lst us)).length=us.length:=rfl
    omega
   simp_all only [if_pos hle,a2c,a08,List.flatMap_nil,kids,List.getLast?_append,List.getLast?_singleton,Option.some_or]
  have c1:=fun o0 o2 o3 o4 o5=>mr (F:=C (n+a.deep+1)) h [o0,none,o2,o3,o4,o5,none] 6 (fun _=>rfl) (fun _=>rfl)
  simp_all only [aX,Kd.th,qeq,lp,c1,bU (fun _=>Md.d),e1,i4,flatT]
theorem gP:∀ {ts:List T},iy (ts.map cP)=(((ts.flatMap kids).length:Nat):Int)
 | []=>rfl
 | t::ts=>by
  have ih:=gP (ts:=ts)
  rw [a0y,a08,a0m]
  show (((kids t).length:Nat):Int)+iy (ts.map cP)=_
  rw [ih]; omega
theorem pE {a:Kd}{ts:List T}(h:∀ t∈ts,OfK (.row a) t):∀ u∈ts.map cP,bj u=true:=fun u hu=>by
 obtain ⟨t,ht,rfl⟩:=a0Z.mp hu
 obtain ⟨us,rfl,hl,_⟩:=h t ht
 show (decide ((0:Int)<=((us.length:Nat):Int))&&decide (((us.length:Nat):Int)<=200))=true
 rw [decide_eq_true (by omega),decide_eq_true (by omega)]; rfl
theorem dg:∀ (k:Kd) (ts:List T),(∀ t∈ts,OfK k t)->a6 k (flatT k ts) ((ts.length:Nat):Int)=true/\a6 k (flatT k ts) (((ts.length:Nat):Int)+1)=false
 | .num,ts,h=>by
  constructor
  ·show ((((ts.length:Nat):Int)==((ts.length:Nat):Int))&&(ts.map bw).all id)=true
   rw [beq_self_eq_true,a0F]
   refine all_map.mpr fun t ht=>?_
   obtain ⟨i,rfl,hi⟩:=h t ht
   show (decide (-1000000000000000000<=i)&&decide (i<=1000000000000000000))=true
   rw [decide_eq_true (by omega),decide_eq_true (by omega)]; rfl
  ·show ((((ts.length:Nat):Int)==((ts.length:Nat):Int)+1)&&(ts.map bw).all id)=false
   rw [beq_eq_false_iff_ne.mpr (by omega)]; rfl
 | .truth,ts,h=>by
  constructor
  ·show ((((ts.length:Nat):Int)==((ts.length:Nat):Int))&&(ts.map bF).all id)=true
   rw [beq_self_eq_true,a0F]
   refine all_map.mpr fun t ht=>?_
   obtain ⟨i,rfl⟩:=h t ht
   rfl
  ·show ((((ts.length:Nat):Int)==((ts.length:Nat):Int)+1)&&(ts.map bF).all id)=false
   rw [beq_eq_false_iff_ne.mpr (by omega)]; rfl
 | .pair a b,ts,h=>by
  have h1:=dg a (ts.map fst) (dz h).1
  have h2:=dg b (ts.map snd) (dz h).2
  rw [a0d] at h1 h2
  constructor
  ·show (a6 a (flatT a (ts.map fst)) _&&a6 b (flatT b (ts.map snd)) _)=true
   rw [h1.1,h2.1]; rfl
  ·show (a6 a (flatT a (ts.map fst)) _&&a6 b (flatT b (ts.map snd)) _)=false
   rw [h1.2]; rfl
 | .row a,ts,h=>by
  have h1:=dg a (ts.flatMap kids) (fM h)
  have hl:=pE h
  constructor
  ·show (((((ts.map cP).length:Nat):Int)==((ts.length:Nat):Int))&&((ts.map cP).map bj).all id&&a6 a (flatT a (ts.flatMap kids)) (iy (ts.map cP)))=true
   rw [a0d,beq_self_eq_true,all_map.mpr hl,gP,h1.1]; rfl
  ·show (((((ts.map cP).length:Nat):Int)==((ts.length:Nat):Int)+1)&&((ts.map cP).map bj).all id&&a6 a (flatT a (ts.flatMap kids)) (iy (ts.map cP)))=false
   rw [a0d,beq_eq_false_iff_ne.mpr (by omega)]; rfl
theorem fQ:∀ ts:List T,(∀ u∈ts,∃ i:Int,u=.int i/\i.natAbs<=1000000000000000000)\/(∀ u∈ts,∃ b,u=.bl b)->Shs 0 (102 * ts.length) ts
 | [],_=>⟨(fun _ h=>nomatch h),(fun _ h=>nomatch h),a0b _⟩
 | t::ts,h=>by
  have ih:=fQ ts (h.imp (fun h u hu=>h u (a0c _ hu)) fun h u hu=>h u (a0c _ hu))
  have ht:rOk t=true/\dp t=0/\szR t=100:=by
   rcases h with h | h
   ·obtain ⟨i,rfl,hi⟩:=h t a0g
    exact ⟨decide_eq_true (by omega),rfl,rfl⟩
   ·obtain ⟨b,rfl⟩:=h t a0g
    exact ⟨rfl,rfl,rfl⟩
  refine ⟨fun u hu=>?_,fun u hu=>?_,?_⟩
  ·rcases a0v.mp hu with rfl | hu
   ·exact ht.1
   ·exact ih.ok u hu
  ·rcases a0v.mp hu with rfl | hu
   ·exact a2P ht.2.1
   ·exact ih.dp u hu
  ·show szR t+2+szRs ts<=_
   have:=ih.sz
   rw [a0n]; omega
noncomputable def kn:Kd->Nat
 | .num=>1 | .truth=>1 | .pair a b=>kn a+kn b+1 | .row a=>kn a+1
theorem nJ {d s1 s2:Nat}{x y:T}(h1:Sh d s1 x)(h2:Sh d s2 y):Sh (d+1) (s1+s2+8) (.tup [x,y]) :=
 ⟨by show (rOk x&&(rOk y&&true))=true; rw [h1.ok,h2.ok]; rfl,by show max (dp x) (max (dp y) 0)+1<=d+1; have:=h1.dp; have:=h2.dp; omega,by show szR x+2+(szR y+2+0)+4<=_; have:=h1.sz; have:=h2.sz; omega⟩
theorem dR:∀ (k:Kd) (ts:List T),(∀ t∈ts,OfK k t)->Sh (k.deep+1) (102 * szs ts+12 * kn k) (flatT k ts)
 | .num,ts,h=>by
  have h1:=(fQ ts (.inl fun u hu=>h u hu)).back.1
  have:=dQ ts
  exact h1.up (a0b _) (by show _<=102 * szs ts+12 * 1; omega)
 | .truth,ts,h=>by
  have h1:=(fQ ts (.inr fun u hu=>h u hu)).back.1
  have:=dQ ts
  exact h1.up (a0b _) (by show _<=102 * szs ts+12 * 1; omega)
 | .pair a b,ts,h=>by
  have h1:=dR a (ts.map fst) (dz h).1
  have h2:=dR b (ts.map snd) (dz h).2
  have hz:=szs_two h
  exact (nJ (d:=max a.deep b.deep+1) (h1.up (by omega) (a0b _)) (h2.up (by omega) (a0b _))).up (a0b _) (by show _<=102 * szs ts+12 * (kn a+kn b+1); omega)
 | .row a,ts,h=>by
  have h1:=dR a (ts.flatMap kids) (fM h)
  have hl:Sh 1 (102 * ts.length+4) (.lst (ts.map cP)):=by
   have:=(fQ (ts.map cP) (.inl fun u hu=>by
    obtain ⟨t,ht,rfl⟩:=a0Z.mp hu
    obtain ⟨us,rfl,hl,_⟩:=h t ht
    exact ⟨_,rfl,by show (((us.length:Nat):Int)).natAbs<=_; omega⟩)).back.1
   rw [a0d] at this
   exact this
  have hz:=szs_row h
  exact (nJ (d:=a.deep+1) (hl.up (by omega) (a0b _)) h1).up (a0b _) (by show _<=102 * szs ts+12 * (kn a+1); omega)
where
 szs_two {a b:Kd}:∀ {ts:List T},(∀ t∈ts,OfK (.pair a b) t)->szs (ts.map fst)+szs (ts.map snd)<=szs ts
  | [],_=>a0b _
  | t::ts,h=>by
   obtain ⟨x,y,rfl,_,_⟩:=h t a0g
   have ih:=szs_two fun u hu=>h u (a0c _ hu)
   show (sz x+szs (ts.map fst))+(sz y+szs (ts.map snd))<=(sz x+(sz y+0)+1)+szs ts
   omega
 szs_row {a:Kd}:∀ {ts:List T},(∀ t∈ts,OfK (.row a) t)->szs (ts.flatMap kids)+ts.length<=szs ts
  | [],_=>a0b _
  | t::ts,h=>by
   obtain ⟨us,rfl,_,_⟩:=h t a0g
   have ih:=szs_row fun u hu=>h u (a0c _ hu)
   rw [a08,fE,a0n]
   show szs us+szs (ts.flatMap kids)+(ts.length+1)<=(szs us+1)+szs ts
   omega
theorem ju:∀ k:Kd,kn k+1<=2 ^ (k.deep+1)
 | .num=>by decide
 | .truth=>by decide
 | .pair a b=>by
  have h1:=ju a
  have h2:=ju b
  have p1:2 ^ (a.deep+1)<=2 ^ (max a.deep b.deep+1):=a1q (by decide) (by omega)
  have p2:2 ^ (b.deep+1)<=2 ^ (max a.deep b.deep+1):=a1q (by decide) (by omega)
  show kn a+kn b+1+1<=2 ^ (max a.deep b.deep+1+1)
  rw [a2o]; omega
 | .row a=>by
  have h1:=ju a
  show kn a+1+1<=2 ^ (a.deep+1+1)
  rw [a2o]; omega
theorem jn (C:Call):∀ (a b:List S) (η:Env),evSs C (a++b) η=(evSs C a η).seq (evSs C b)
 | [],b,η=>rfl
 | s::a,b,η=>by
  show (evS C s η).seq (evSs C (a++b))=((evS C s η).seq (evSs C a)).seq (evSs C b)
  cases evS C s η<;>first | rfl | exact jn C a b _
theorem go1 {C:Call}{a b:List S}{η η':Env}(h:evSs C a η=.nx η'):evSs C (a++b) η=evSs C b η':=by rw [jn,h]; rfl
theorem gG {α:Type}{tg:List Nat}{f:Env->Fl}{g:α->List W}(I:List α->Env->Prop):∀ (ts pre:List α) (η:Env),I pre η->(∀ p x r η,pre++ts=p++x::r->I p η->∃ η1 η2,aM tg (g x) η=some η1/\f η1=.nx η2/\I (p++[x]) η2) ->
  ∃ η',eK tg f (ts.map g) η=.nx η'/\I (pre++ts) η'
 | [],pre,η,h,_=>⟨η,rfl,by rw [a0L]; exact h⟩
 | x::ts,pre,η,h,k=>by
  obtain ⟨η1,η2,h1,h2,h3⟩:=k pre x ts η rfl h
  obtain ⟨η',e,hi⟩:=gG I ts (pre++[x]) η2 h3 fun p y r η e=>k p y r η (by rw [<- e,a0R]; rfl)
  refine ⟨η',?_,by rw [a0R] at hi; exact hi⟩
  rw [a0y]
  show Fl.of _ (ofO (aM tg (g x) η)) _=_
  rw [h1]
  show Fl.turn (f η1) _=_
  rw [h2]
  exact e
theorem mL {F:Call}{a:Kd}{o0:Option W}{N:Nat}{t:T}(ht:Tp N t)(mm:Nat)(hN:N+mm * D a.deep < 1000000000000000000)
  (ih:∀ N t,Tp N t->N+D a.deep < 1000000000000000000->∃ md w t',OfK a w/\sz w<=B a.deep/\lf md w=.d/\Tp (N+D a.deep) t'/\F 23 [(.d,t),(.s,a.th),(.d,.bl true)]=.ok ((md,w),[(.d,t')])) :
  ∃ ws t',ws.length=mm/\(∀ w∈ws,OfK a w.2/\sz w.2<=B a.deep)/\Tp (N+mm * D a.deep) t' /\
   aG [7] (bG (evE F (.call 23 [.io 1,.var 2,.cst (.bl true)]))) ((a0N mm).map fun (k:Nat)=>[((.d,.int k):W)]) [o0,some (.d,t),some (.s,a.th),none,none,none,none,none] []=.ok (ws,[o0,some (.d,t'),some (.s,a.th),none,none,none,none,none]):=by
 obtain ⟨ws,η',e,t',rfl,ht',hl,hw⟩:=dA (tg:=[7]) (f:=bG (evE F (.call 23 [.io 1,.var 2,.cst (.bl true)]))) (g:=fun (k:Nat)=>[((.d,.int k):W)])
  (fun pre η acc=>∃ t',η=[o0,some (.d,t'),some (.s,a.th),none,none,none,none,none]/\Tp (N+pre.length * D a.deep) t'/\acc.length=pre.length/\∀ w∈acc,OfK a w.2/\sz w.2<=B a.deep)
  (a0N mm) [] [o0,some (.d,t),some (.s,a.th),none,none,none,none,none] [] ⟨t,rfl,by simpa using ht,rfl,fun _ h=>nomatch h⟩ (fun p k r η acc hp ⟨t',he,ht',hl,hw⟩=>by
   subst he
   have hpl:p.length+1<=mm:=by
    have:=congrArg a18 hp
    simp at this; omega
   have hmul:p.length * D a.deep+D a.deep<=mm * D a.deep:=by
    rw [<- a1n]; exact a1b _ hpl
   obtain ⟨md,w,t2,h1,h2,h3,h4,h5⟩:=ih _ _ ht' (by omega)
   refine ⟨_,some (md,w),[o0,some (.d,t2),some (.s,a.th),none,none,none,none,some (.d,.int k)],rfl,?_,t2,rfl,?_,?_,?_⟩
   ·simp_all only [h5]
   ·rw [a0m,a0S,a1n]; exact tm h4 (by omega)
   ·rw [a0m,a0m,hl]; rfl
   ·intro v hv
    rcases a0K.mp hv with e | e
    ·exact hw v e
    ·rw [a0E.mp e]; exact ⟨h1,h2⟩)
 refine ⟨ws,t',?_,hw,?_,e⟩
 ·rw [hl]; simp
 ·simpa using ht'
noncomputable abbrev LB:List S:=[
   .asg (.l [4]) 6 (.call 262 [.io 1,.var 4]),
   .ite (.q [2,3,6] []) (.not (.call 261 [.var 2,.var 6,.op .len false [.var 3]])) [
    .ret [] (.cst (.bl false))] [],
   .ite (.l [2,6]) (.not (.call 261 [.var 2,.var 6,.call 20 [.io 1,.cst (.int 5)]])) [
    .ret [] (.cst (.bl false))] []]
theorem oV (w0 o5 o6:Option W)(k:Kd)(hk:k.deep<=3)(us:List T)(x:T){s:Nat}(hx:Sh (k.deep+1) s x)(hs:s<=1000000)(m2 m3 m4:Md){N:Nat}{t:T}(ht:Tp N t)(hN:N+100 < 1000000000000000000)(xl:lf .s x=.s) :
  ∃ m2' m3' m4' o6' t',Tp (N+30) t'/\evSs (C 39) LB [w0,some (.d,t),some (m2,k.th),some (m3,.lst us),some (m4,x),o5,o6,none]=.nx [w0,some (.d,t'),some (m2',k.th),some (m3',.lst us),some (m4',x),o5,o6',none]:=by
 obtain ⟨md,y,t1,hy,ht1,e1⟩:=jl (k.deep+1) (34-k.deep) N t x s .s ht (by omega) hx hs
 rw [show 34-k.deep+(k.deep+1)+4=39 by omega] at e1
 obtain ⟨r,t2,r0,r1,ht2,e2⟩:=cc (n:=37) .d 5 ht1 (by omega) (by decide) (by decide)
 have d1:=fun c m1 m m2=>og k (by omega) y (hy.up (d':=60) (s':=10000000) (by omega) (by omega)) (a0b _) c m1 m m2
 obtain ⟨kl,hkl⟩:∃ l,k.th=.tup l:=let ⟨l,h,_⟩:=fO k; ⟨l,h⟩
 rw [hkl] at d1 ⊢
 have hok:=hy.ok
 cases y with
 | int i=>exact ⟨_,_,_,_,t2,tm ht2 (by omega),by simp_all only [e1,d1,e2]; rfl⟩
 | bl z=>exact ⟨_,_,_,_,t2,tm ht2 (by omega),by simp_all only [e1,d1,e2]; rfl⟩
 | non=>exact ⟨_,_,_,_,t2,tm ht2 (by omega),by simp_all only [e1,d1,e2]; rfl⟩
 | str z=>exact ⟨_,_,_,_,t2,tm ht2 (by omega),by simp_all only [e1,d1,e2]; rfl⟩
 | tup ts=>exact ⟨_,_,_,_,t2,tm ht2 (by omega),by simp_all only [e1,d1,e2]; rfl⟩
 | lst ts=>exact ⟨_,_,_,_,t2,tm ht2 (by omega),by simp_all only [e1,d1,e2]; rfl⟩
 | _=>cases hok
theorem gQ (ns:List Int):leaves (ns.map T.int)=true:=a0z.mpr fun t ht=>by obtain ⟨i,_,rfl⟩:=a0Z.mp ht; rfl
noncomputable abbrev Bk (f:Fn)(i j:Nat):List S:=(f.body.drop i).take j
theorem pH (k:Kd)(us:List T):lf .s (flatT k us)=.s:=by cases k<;>rfl
theorem pW (w0:Option W)(k:Kd)(hk:k.deep<=3)(us:List T)(x:T){s:Nat}(hx:Sh (k.deep+1) s x)(hs:s<=1000000)(m2 m3 m4:Md){N:Nat}{t:T}(ht:Tp N t)(hN:N+1000 < 1000000000000000000)(xl:lf .s x=.s) :
  ∃ m2' m3' m4' o5' o6' t',eK [5] (evSs (C 39) LB) ((a0N 12).map fun (k:Nat)=>[((.d,.int k):W)]) [w0,some (.d,t),some (m2,k.th),some (m3,.lst us),some (m4,x),none,none,none]=.nx [w0,some (.d,t'),some (m2',k.th),some (m3',.lst us),some (m4',x),o5',o6',none]:=by
 obtain ⟨η',lp,m2',m3',m4',o5',o6',t',_,rfl⟩:=gG (tg:=[5]) (f:=evSs (C 39) LB) (g:=fun (k:Nat)=>[((.d,.int k):W)])
  (fun pre η=>∃ (m2 m3 m4:Md) (o5 o6:Option W) (t':T),Tp (N+30 * pre.length) t'/\η=[w0,some (.d,t'),some (m2,k.th),some (m3,.lst us),some (m4,x),o5,o6,none])
  (a0N 12) [] [w0,some (.d,t),some (m2,k.th),some (m3,.lst us),some (m4,x),none,none,none] ⟨m2,m3,m4,none,none,t,ht,rfl⟩ (fun p c r η hp ⟨m2,m3,m4,o5,o6,t',ht',he⟩=>by
   subst he
   have hpl:=congrArg a18 hp
   simp only [a1U,a2m,a0m,a0n] at hpl
   obtain ⟨m2',m3',m4',o6',t2,ht2,e⟩:=oV w0 (some (.d,.int (c:Int))) o6 k hk us x hx hs m2 m3 m4 ht' (by omega) xl
   exact ⟨_,_,rfl,e,m2',m3',m4',_,o6',t2,by rw [a0m,a0S]; exact tm ht2 (by omega),rfl⟩)
 exact ⟨m2',m3',m4',o5',o6',t',lp⟩
theorem pure_law (ns:List Int):∃ m bs,C 40 0 [(.d,.scr ns)]=.ok ((m,.bl true),bs):=by
 have ht0:Tp 0 (tape (cut ns none (some 63)) 0 0 0):=⟨_,0,0,0,rfl,a0b _⟩
 obtain ⟨r,t1,r0,r1,ht1,e1⟩:=cc (n:=37) .d 4 ht0 (by decide) (by decide) (by decide)
 obtain ⟨l,hl⟩:∃ l:Nat,1+r=(l:Int):=⟨(1+r).toNat,by omega⟩
 have hl5:l<=4:=by omega
 have kbl:kb l<=63:=by
  have:l=0\/l=1\/l=2\/l=3\/l=4:=by omega
  rcases this with rfl | rfl | rfl | rfl | rfl<;>decide
 obtain ⟨md,k,t2,hkd,ht2,e2⟩:=kind (37-l) l ht1 (by omega) (by omega)
 rw [show 37-l+l+2=39 by omega] at e2
 obtain ⟨r2,t3,r20,r21,ht3,e3⟩:=cc (n:=37) .d 4 ht2 (by omega) (by decide) (by decide)
 have hk4:k.deep<=3:=by omega
 have hB4:B k.deep<=2640:=a0j (gw hk4) (by decide)
 have hD4:D k.deep<=100000:=a0j (gb hk4) (by decide)
 have ih:∀ N t,Tp N t->N+D k.deep < 1000000000000000000->∃ md w t',OfK k w/\sz w<=B k.deep/\lf md w=.d/\Tp (N+D k.deep) t'/\C 39 23 [(.d,t),(.s,k.th),(.d,.bl true)]=.ok ((md,w),[(.d,t')]):=fun N t h1 h2=>by
  have:=worth k (35-k.deep) true .s h1 h2
  rw [show 35-k.deep+k.deep+4=39 by omega] at this
  exact this
 have hmul:r2.toNat * D k.deep<=3 * 100000:=a2F (by omega) hD4
 obtain ⟨ws,t4,w1,w2,ht4,e4⟩:=mL (F:=C 39) (a:=k) (o0:=some (.d,.scr ns)) ht3 r2.toNat (by omega) ih
 have hof:∀ t∈aL ws,OfK k t:=fun t ht=>by
  obtain ⟨w,hw,rfl⟩:=dy ht
  exact (w2 w hw).1
 have hsz:szs (aL ws)<=7920:=by
  have h1:=iS (b:=B k.deep) fun w hw=>(w2 w hw).2
  have h2:ws.length * B k.deep<=3 * 2640:=a2F (by omega) hB4
  omega
 generalize hus:aL ws=us at hof hsz
 have hkn:kn k<=15:=by
  have h1:=ju k
  have h2:2 ^ (k.deep+1)<=2 ^ 4:=a1q (by decide) (by omega)
  omega
 have fsh:=dR k us hof
 have hs:102 * szs us+12 * kn k<=1000000:=by omega
 have ff:=dg k us hof
 have xl:=pH k us
 have e6:=fun m1 m=>flat k (38-k.deep) us m1 m hof (a0j hsz (by decide))
 rw [show 38-k.deep+k.deep+1=39 by omega] at e6
 have e7:=fun m1 m m2=>isf k (35-k.deep) (flatT k us) m1 m m2 ((us.length:Nat):Int) fsh.ok
 rw [show 35-k.deep+k.deep+4=39 by omega,ff.1] at e7
 have e8:=fun m1 m m2=>isf k (35-k.deep) (flatT k us) m1 m m2 (((us.length:Nat):Int)+1) fsh.ok
 rw [show 35-k.deep+k.deep+4=39 by omega,ff.2] at e8
 have hb:decide (r2.natAbs < 4611686018427387904)=true:=decide_eq_true (by omega)
 have hf:fits r2.toNat=true:=decide_eq_true (by show r2.toNat<=LIM; unfold LIM; omega)
 unfold tape at e1
 obtain ⟨kl,hkl⟩:∃ l,k.th=.tup l:=let ⟨l,h,_⟩:=fO k; ⟨l,h⟩
 have lpp:=fun m2 m3 m4=>pW (some (.d,.scr ns)) k hk4 us (flatT k us) fsh hs m2 m3 m4 ht4 (by omega) xl
 rw [hkl] at e2 e4 e6 e7 e8 lpp
 generalize flatT k us=fl at e6 e7 e8 lpp xl
 have bff:(!(false==false))=false:=rfl
 have btt:(!(true==true))=false:=rfl
 have btr:(true==true)=true:=rfl
 have hA:∃ m2 m3 m4,evSs (C 39) (Bk f_law 0 6) [some (.d,.scr ns),none,none,none,none,none,none,none]=.nx [some (.d,.scr ns),some (.d,t4),some (m2,.tup kl),some (m3,.lst us),some (m4,fl),none,none,none]:=⟨_,_,_,by simp_all only [Bk,f_law,a1E,a2a,List.take_zero,gQ,e1,hl,e2,e3,hb,hf,e4,hus,e6,e7,e8,bff,btt,xl]; rfl⟩
 obtain ⟨m2,m3,m4,hA⟩:=hA
 obtain ⟨m2',m3',m4',o5',o6',t',lp⟩:=lpp m2 m3 m4
 have r12:(decide ((12:Int).natAbs < 4611686018427387904)&&fits 12)=true:=rfl
 have t12:(12:Int).toNat=12:=rfl
 have hB:∃ md η,evSs (C 39) (f_law.body.drop 6) [some (.d,.scr ns),some (.d,t4),some (m2,.tup kl),some (m3,.lst us),some (m4,fl),none,none,none]=.rt (md,.bl true) η:=⟨_,_,by simp_all only [f_law,List.drop_succ_cons,a1E,r12,t12,lp,e7,btr]; rfl⟩
 obtain ⟨md,η,hB⟩:=hB
 rw [show C 40 0 [(.d,.scr ns)]=runF (C 39) f_law [(.d,.scr ns)] from rfl,x_run _ _ _ rfl,show f_law.body=Bk f_law 0 6++f_law.body.drop 6 from rfl]
 refine ⟨md,[],?_⟩
 show Fl.out [] (evSs (C 39) (Bk f_law 0 6++f_law.body.drop 6) [some (.d,.scr ns),none,none,none,none,none,none,none])=_
 rw [go1 hA,hB]
 rfl
end
end P32

namespace A32
open PySem PySem.Spec PyProof.Rows L2 L3 MR
noncomputable def top (i:Nat):Stmt:=PySem.Challenge.pw_broadrow_k32_what_is_a_flat.main.body.getD i (.Pass ⟨0,0,0,0⟩)
noncomputable abbrev s2:Stmt:=top 4
noncomputable abbrev s3:Stmt:=top 5
noncomputable abbrev s6:Stmt:=top 9
noncomputable abbrev s8:Stmt:=top 10
noncomputable abbrev s9:Stmt:=top 11
noncomputable abbrev s10:Stmt:=top 12
noncomputable abbrev s20:Stmt:=top 14
noncomputable abbrev s21:Stmt:=top 15
noncomputable abbrev s22:Stmt:=top 16
noncomputable abbrev s23:Stmt:=top 17
noncomputable abbrev lK:Stmt:=top 18
noncomputable abbrev mW:Stmt:=top 19
noncomputable abbrev lX:Stmt:=top 20
noncomputable abbrev lE:Stmt:=top 21
noncomputable abbrev mw:Stmt:=top 22
noncomputable abbrev s0:Stmt:=top 23
structure Glb (K:a0a)(w:World)(mg:Str->Option Value):Prop where
 GREATEST:∃ t,mg "GREATEST"=some (.int 1000000000000000000 t)
 LONGEST_stops:∃ t,mg "LONGEST_stops"=some (.int 200 t)
structure Calls (P:Program)(w:World)(K:a0a)(mg:Str->Option Value)(base:Heap)(n:Nat)(C:M.Call):Prop where
 c2:ae P w K mg base n C "is_worth" 2 []
 c3:ae P w K mg base n C "is_number" 3 []
 c6:ae P w K mg base n C "flat_of" 6 []
 c8:ae P w K mg base n C "is_flat" 8 []
 c9:ae P w K mg base n C "is_couple" 9 []
 c10:ae P w K mg base n C "are_lengths" 10 []
 c20:ae P w K mg base n C "_law_draw" 20 [0]
 c21:ae P w K mg base n C "_law_number" 21 [0]
 c22:ae P w K mg base n C "_law_kind" 22 [0]
 c23:ae P w K mg base n C "_law_worth" 23 [0]
 d23:bV P w K mg base n C "_law_worth" 23 [0] (.bl true)
 c257:ae P w K mg base n C "_law_whole" 257 []
 c258:ae P w K mg base n C "_law_fits" 258 []
 c259:ae P w K mg base n C "_law_strange" 259 [0]
 c262:ae P w K mg base n C "_law_bent" 262 [0]
 c261:ae P w K mg base n C "_law_told" 261 []
 c4:∀ ws,C 4 ws=.no
 c5:∀ ws,C 5 ws=.no
noncomputable abbrev DD (x:Str)(st:Stmt)(N:List Str)(fn:M.Fn):Prop:=∀ {P:Program} {w:World} {K:a0a} {mg:Str->Option Value} {base:Heap} {n:Nat} {C:M.Call} {f:Addr} {cdv:Value} {A:Around} {outer:List Env} {s:Shared} {H:Hp} {E:XK},Calls P w K mg base n C->Txt mg->Glb K w mg->Room n (A.deeper (envOfC x (defScope st) s.heap.objs.size f cdv))->SSs (dk CX0 P w K mg base N x (defScope st) f cdv A outer s H E).nox (slN N.length) fn.io C (defBody st) fn.body
theorem S2:ao ["kind","thing"] ["kind","thing"] (defScope s2):=fsc
theorem D2:DD "is_worth" s2 ["kind","thing"] aq:=fun {_ _ _ _ _ _ _ _ _ _ _ s _ _} cs T G hr =>
 have S:=S2
 (@ssc _ _ _ _ _ _ _ _ (@zIf _ _ _ _ _ _ _ _ _ _ _ _ (bK hr (@aC _ _ _ _ _ _ _ _ _ (sV 0) sI (by intro _ _; rfl)) sS) (@ss1 _ _ _ _ _ _ (@aD _ _ _ _ _ _ _ _ (ah cs.c3 hr (@af _ _ _ _ _ _ _ (sM 1) sa0 (by intro _ z; cases z) (by rfl))))) ss0)
    (@ssc _ _ _ _ _ _ _ _ (@zIf _ _ _ _ _ _ _ _ _ _ _ _ (bK hr (@aC _ _ _ _ _ _ _ _ _ (sV 0) sI (by intro _ _; rfl)) sS) (@ss1 _ _ _ _ _ _ (@aD _ _ _ _ _ _ _ _ (bu (by decide) a0X T.isin T.bool (sM 1)))) ss0)
    (@ssc _ _ _ _ _ _ _ _ (@zIf _ _ _ _ _ _ _ _ _ _ _ _ (bK hr (@aC _ _ _ _ _ _ _ _ _ (sV 0) sI (by intro _ _; rfl)) sS) (@ss1 _ _ _ _ _ _ (@aD _ _ _ _ _ _ _ _ (xB cs.c4))) ss0)
    (@ss1 _ _ _ _ _ _ (@aD _ _ _ _ _ _ _ _ (xB cs.c5))))))
theorem S3:ao ["thing"] ["thing"] (defScope s3):=fsc
theorem D3:DD "is_number" s3 ["thing"] az:=fun {_ _ _ _ _ _ _ _ _ _ _ s _ _} cs T G hr =>
 have S:=S3
 (@ssc _ _ _ _ _ _ _ _ (@zIf _ _ _ _ _ _ _ _ _ _ _ _ (tW (wOr (cy (tB (bu (by decide) a1Z T.isin T.int (sV 0)))) (wO1 (tB (bu (by decide) a0X T.isin T.bool (sV 0)))))) (@ss1 _ _ _ _ _ _ (@aD _ _ _ _ _ _ _ _ sO)) ss0)
    (@ss1 _ _ _ _ _ _ (@aD _ _ _ _ _ _ _ _ (gm (yX (sGc G.GREATEST)) (sM 0) (sGc G.GREATEST)))))
theorem S6:ao ["kind","worths","things","worth"] ["kind","worths"] (defScope s6):=fsc
theorem D6:DD "flat_of" s6 ["kind","worths","things","worth"] aX:=fun {_ _ _ _ _ _ _ _ _ _ _ s _ _} cs T G hr =>
 have S:=S6
 (@ssc _ _ _ _ _ _ _ _ (@zIf _ _ _ _ _ _ _ _ _ _ _ _ (bK hr (@aC _ _ _ _ _ _ _ _ _ (sV 0) sI (by intro _ _; rfl)) sS) (@ss1 _ _ _ _ _ _ (@aD _ _ _ _ _ _ _ _ (@sTx _ _ _ _ _ _ _ (by decide) (@slx _ _ _ _ _ _ _ (ah cs.c6 hr (@af _ _ _ _ _ _ _ (@aC _ _ _ _ _ _ _ _ _ (sV 0) sI (by intro _ _; rfl)) (@af _ _ _ _ _ _ _ (sC1 [] [] [] [] (fN (sV 1)) (fun _ _ _ _=>(@aC _ _ _ _ _ _ _ _ _ (sV 0) sI (by intro _ _; rfl))) csc .nil .nil) sa0 (by intro _ z; cases z) (by rfl)) (by intro _ z; cases z) (by rfl))) (@slx _ _ _ _ _ _ _ (ah cs.c6 hr (@af _ _ _ _ _ _ _ (@aC _ _ _ _ _ _ _ _ _ (sV 0) sI (by intro _ _; rfl)) (@af _ _ _ _ _ _ _ (sC1 [] [] [] [] (fN (sV 1)) (fun _ _ _ _=>(@aC _ _ _ _ _ _ _ _ _ (sV 0) sI (by intro _ _; rfl))) csc .nil .nil) sa0 (by intro _ z; cases z) (by rfl)) (by intro _ z; cases z) (by rfl))) sl0 (by rfl)) (by rfl))))) ss0)
    (@ssc _ _ _ _ _ _ _ _ (@zIf _ _ _ _ _ _ _ _ _ _ _ _ (bK hr (@aC _ _ _ _ _ _ _ _ _ (sV 0) sI (by intro _ _; rfl)) sS) (@ssc _ _ _ _ _ _ _ _ (@aV _ _ _ _ _ _ _ 2 _ _ _ _ S.nd (@sLx _ _ _ _ _ _ _ (by decide) sl0) (by decide) (by rfl) (by rfl) (by first | exact a0B rfl | exact a0u rfl) (by rfl) (by first | exact .inl rfl | exact .inr rfl))
     (@ssc _ _ _ _ _ _ _ _ (q5 3 S.nd (fN (sV 1)) (@ss1 _ _ _ _ _ _ (zi 2 (sV 3))))
     (@ss1 _ _ _ _ _ _ (@aD _ _ _ _ _ _ _ _ (@sTx _ _ _ _ _ _ _ (by decide) (@slx _ _ _ _ _ _ _ (sC1 [] [] [] [] (fN (sM 1)) (fun _ _ _ _=>(cG (hm:=T.len) (ha:=(sV 0)))) csc .nil .nil) (@slx _ _ _ _ _ _ _ (ah cs.c6 hr (@af _ _ _ _ _ _ _ (@aC _ _ _ _ _ _ _ _ _ (sM 0) sI (by intro _ _; rfl)) (@af _ _ _ _ _ _ _ (sM 2) sa0 (by intro _ z; cases z) (by rfl)) (by intro _ z; cases z) (by rfl))) sl0 (by rfl)) (by rfl))))))) ss0)
    (@ss1 _ _ _ _ _ _ (@aD _ _ _ _ _ _ _ _ (jv (hm:=T.list) (ha:=(sM 1)))))))
theorem S8:ao ["kind","thing","many"] ["kind","thing","many"] (defScope s8):=fsc
theorem D8:DD "is_flat" s8 ["kind","thing","many"] ag:=fun {_ _ _ _ _ _ _ _ _ _ _ s _ _} cs T G hr =>
 have S:=S8
 (@ssc _ _ _ _ _ _ _ _ (@zIf _ _ _ _ _ _ _ _ _ _ _ _ (bK hr (@aC _ _ _ _ _ _ _ _ _ (sV 0) sI (by intro _ _; rfl)) sS) (@ss1 _ _ _ _ _ _ (@aD _ _ _ _ _ _ _ _ (sBW (iZ (ah cs.c9 hr (@af _ _ _ _ _ _ _ (sV 1) sa0 (by intro _ z; cases z) (by rfl))) (iZ (ah cs.c8 hr (@af _ _ _ _ _ _ _ (@aC _ _ _ _ _ _ _ _ _ (sV 0) sI (by intro _ _; rfl)) (@af _ _ _ _ _ _ _ (@aC _ _ _ _ _ _ _ _ _ (sV 1) sI (by intro _ _; rfl)) (@af _ _ _ _ _ _ _ (sV 2) sa0 (by intro _ z; cases z) (by rfl)) (by intro _ z; cases z) (by rfl)) (by intro _ z; cases z) (by rfl))) (vA1 (ah cs.c8 hr (@af _ _ _ _ _ _ _ (@aC _ _ _ _ _ _ _ _ _ (sV 0) sI (by intro _ _; rfl)) (@af _ _ _ _ _ _ _ (@aC _ _ _ _ _ _ _ _ _ (sV 1) sI (by intro _ _; rfl)) (@af _ _ _ _ _ _ _ (sV 2) sa0 (by intro _ z; cases z) (by rfl)) (by intro _ z; cases z) (by rfl)) (by intro _ z; cases z) (by rfl))))))))) ss0)
    (@ssc _ _ _ _ _ _ _ _ (@zIf _ _ _ _ _ _ _ _ _ _ _ _ (bK hr (@aC _ _ _ _ _ _ _ _ _ (sV 0) sI (by intro _ _; rfl)) sS) (@ss1 _ _ _ _ _ _ (@aD _ _ _ _ _ _ _ _ (sBW (iZ (ah cs.c9 hr (@af _ _ _ _ _ _ _ (sV 1) sa0 (by intro _ z; cases z) (by rfl))) (iZ (ah cs.c10 hr (@af _ _ _ _ _ _ _ (@aC _ _ _ _ _ _ _ _ _ (sV 1) sI (by intro _ _; rfl)) (@af _ _ _ _ _ _ _ (sM 2) sa0 (by intro _ z; cases z) (by rfl)) (by intro _ z; cases z) (by rfl))) (vA1 (ah cs.c8 hr (@af _ _ _ _ _ _ _ (@aC _ _ _ _ _ _ _ _ _ (sM 0) sI (by intro _ _; rfl)) (@af _ _ _ _ _ _ _ (@aC _ _ _ _ _ _ _ _ _ (sV 1) sI (by intro _ _; rfl)) (@af _ _ _ _ _ _ _ (w6 (hm:=T.sum) (ha:=(@aC _ _ _ _ _ _ _ _ _ (sV 1) sI (by intro _ _; rfl)))) sa0 (by intro _ z; cases z) (by rfl)) (by intro _ z; cases z) (by rfl)) (by intro _ z; cases z) (by rfl))))))))) ss0)
    (@ss1 _ _ _ _ _ _ (@aD _ _ _ _ _ _ _ _ (sBW (iZ (bu (by decide) a0O T.isin T.list (sV 1)) (iZ (sEq hr (cG (hm:=T.len) (ha:=(sV 1))) (sM 2)) (vA1 (mD (hm:=T.all) (ha:=(sC1 [0] [0] [("kind",s.heap.objs.size+1)] ["kind"] (fN (sV 1)) (fun _ _ _ _=>(ah cs.c2 hr (@af _ _ _ _ _ _ _ (sV 1) (@af _ _ _ _ _ _ _ (sV 0) sa0 (by intro _ z; cases z) (by rfl)) (by intro _ z; cases z) (by rfl)))) csc (jV .nil) (frc .nil))))))))))))
theorem S9:ao ["thing"] ["thing"] (defScope s9):=fsc
theorem D9:DD "is_couple" s9 ["thing"] aE:=fun {_ _ _ _ _ _ _ _ _ _ _ s _ _} cs T G hr =>
 have S:=S9
 (@ss1 _ _ _ _ _ _ (@aD _ _ _ _ _ _ _ _ (sBW (iZ (bu (by decide) a0M T.isin T.tup (sV 0)) (vA1 (sEq hr (cG (hm:=T.len) (ha:=(sV 0))) sI))))))
theorem S10:ao ["thing","many"] ["thing","many"] (defScope s10):=fsc
theorem D10:DD "are_lengths" s10 ["thing","many"] au:=fun {_ _ _ _ _ _ _ _ _ _ _ s _ _} cs T G hr =>
 have S:=S10
 (@ssc _ _ _ _ _ _ _ _ (@zIf _ _ _ _ _ _ _ _ _ _ _ _ (cy (tB (ah cs.c8 hr (@af _ _ _ _ _ _ _ (@sTx _ _ _ _ _ _ _ (by decide) (@slx _ _ _ _ _ _ _ sS sl0 (by rfl))) (@af _ _ _ _ _ _ _ (sV 0) (@af _ _ _ _ _ _ _ (sV 1) sa0 (by intro _ z; cases z) (by rfl)) (by intro _ z; cases z) (by rfl)) (by intro _ z; cases z) (by rfl))))) (@ss1 _ _ _ _ _ _ (@aD _ _ _ _ _ _ _ _ sO)) ss0)
    (@ss1 _ _ _ _ _ _ (@aD _ _ _ _ _ _ _ _ (mD (hm:=T.all) (ha:=(sC1 [] [] [] [] (fN (sM 0)) (fun _ _ _ _=>(gm sI (sV 0) (sGc G.LONGEST_stops))) csc .nil .nil))))))
theorem S20:ao ["tape","many","rest","spot","cell","number"] ["tape","many"] (defScope s20):=fsc
theorem D20:DD "_law_draw" s20 ["tape","many","rest","spot","cell","number"] aP:=fun {_ _ _ _ _ _ _ _ _ _ _ s _ _} cs T G hr =>
 have S:=S20
 (@ssc _ _ _ _ _ _ _ _ (@zIf _ _ _ _ _ _ _ _ _ _ _ _ (nT (@aC _ _ _ _ _ _ _ _ _ (sV 0) sI (by intro _ _; rfl)) sI) (@ssc _ _ _ _ _ _ _ _ (jZ 0 (cY (@aC _ _ _ _ _ _ _ _ _ (sV 0) sI (by intro _ _; rfl)) sI) sI)
      (@ssc _ _ _ _ _ _ _ _ (@aV _ _ _ _ _ _ _ 2 _ _ _ _ S.nd (@aC _ _ _ _ _ _ _ _ _ (sV 0) sI (by intro _ _; rfl)) (by decide) (by rfl) (by rfl) (by first | exact a0B rfl | exact a0u rfl) (by rfl) (by first | exact .inl rfl | exact .inr rfl))
      (@ssc _ _ _ _ _ _ _ _ (jZ 0 (wF (sV 2) (sV 1)) sI)
      (@ss1 _ _ _ _ _ _ (@aD _ _ _ _ _ _ _ _ (eO (sM 2) (sM 1))))))) ss0)
    (@ssc _ _ _ _ _ _ _ _ (@aV _ _ _ _ _ _ _ 3 _ _ _ _ S.nd (@aC _ _ _ _ _ _ _ _ _ (sV 0) sI (by intro _ _; rfl)) (by decide) (by rfl) (by rfl) (by first | exact a0B rfl | exact a0u rfl) (by rfl) (by first | exact .inl rfl | exact .inr rfl))
    (@ssc _ _ _ _ _ _ _ _ (jZ 0 (cu (sV 3) sI) sI)
    (@ssc _ _ _ _ _ _ _ _ (@aV _ _ _ _ _ _ _ 4 _ _ _ _ S.nd sI (by decide) (by rfl) (by rfl) (by first | exact a0B rfl | exact a0u rfl) (by rfl) (by first | exact .inl rfl | exact .inr rfl))
    (@ssc _ _ _ _ _ _ _ _ (@zIf _ _ _ _ _ _ _ _ _ _ _ _ (nT (cG (hm:=T.len) (ha:=(@aC _ _ _ _ _ _ _ _ _ (sV 0) sI (by intro _ _; rfl)))) sI) (@ss1 _ _ _ _ _ _ (@aV _ _ _ _ _ _ _ 4 _ _ _ _ S.nd (@aC _ _ _ _ _ _ _ _ _ (@aC _ _ _ _ _ _ _ _ _ (sV 0) sI (by intro _ _; rfl)) (eO (sV 3) (cG (hm:=T.len) (ha:=(@aC _ _ _ _ _ _ _ _ _ (sV 0) sI (by intro _ _; rfl))))) (by intro _ _; rfl)) (by decide) (by rfl) (by rfl) (by first | exact a0B rfl | exact a0u rfl) (by rfl) (by first | exact .inl rfl | exact .inr rfl))) ss0)
    (@ssc _ _ _ _ _ _ _ _ (@zIf _ _ _ _ _ _ _ _ _ _ _ _ (tW (iW (oq (sV 3) (cG (hm:=T.len) (ha:=(@aC _ _ _ _ _ _ _ _ _ (sV 0) sI (by intro _ _; rfl))))) (wA1 (yY (sV 4) (eN sI sI))))) (@ssc _ _ _ _ _ _ _ _ (jZ 0 (cY (sV 4) (eN sI sI)) sI)
     (@ssc _ _ _ _ _ _ _ _ (jZ 0 sI sI)
     (@ss1 _ _ _ _ _ _ (@aD _ _ _ _ _ _ _ _ (ah cs.c20 hr (sai 0 (@af _ _ _ _ _ _ _ (sM 1) sa0 (by intro _ z; cases z) (by rfl)))))))) ss0)
    (@ssc _ _ _ _ _ _ _ _ (@aV _ _ _ _ _ _ _ 5 _ _ _ _ S.nd (fX (cu (eO (sV 4) sI) sI) (cu (cu (eO (fX (sV 3) (sV 3)) sI) (fX sI (sV 3))) sI)) (by decide) (by rfl) (by rfl) (by first | exact a0B rfl | exact a0u rfl) (by rfl) (by first | exact .inl rfl | exact .inr rfl))
    (@ssc _ _ _ _ _ _ _ _ (@aV _ _ _ _ _ _ _ 5 _ _ _ _ S.nd (eO (fX (eO (sV 5) sI) (eO (sV 5) sI)) sI) (by decide) (by rfl) (by rfl) (by first | exact a0B rfl | exact a0u rfl) (by rfl) (by first | exact .inl rfl | exact .inr rfl))
    (@ss1 _ _ _ _ _ _ (@aD _ _ _ _ _ _ _ _ (eO (eO (cu (wF (sM 5) sI) (fX sI (sM 3))) sI) (sM 1))))))))))))
theorem S21:ao ["tape","way","top","great"] ["tape"] (defScope s21):=fsc
theorem D21:DD "_law_number" s21 ["tape","way","top","great"] a0:=fun {_ _ _ _ _ _ _ _ _ _ _ s _ _} cs T G hr =>
 have S:=S21
 (@ssc _ _ _ _ _ _ _ _ (@aV _ _ _ _ _ _ _ 1 _ _ _ _ S.nd (ah cs.c20 hr (sai 0 (@af _ _ _ _ _ _ _ sI sa0 (by intro _ z; cases z) (by rfl)))) (by decide) (by rfl) (by rfl) (by first | exact a0B rfl | exact a0u rfl) (by rfl) (by first | exact .inl rfl | exact .inr rfl))
    (@ssc _ _ _ _ _ _ _ _ (@zIf _ _ _ _ _ _ _ _ _ _ _ _ (oq (sV 1) sI) (@ss1 _ _ _ _ _ _ (@aD _ _ _ _ _ _ _ _ (cY (ah cs.c20 hr (sai 0 (@af _ _ _ _ _ _ _ sI sa0 (by intro _ z; cases z) (by rfl)))) sI))) ss0)
    (@ssc _ _ _ _ _ _ _ _ (@zIf _ _ _ _ _ _ _ _ _ _ _ _ (bK hr (sV 1) sI) (@ssc _ _ _ _ _ _ _ _ (@aV _ _ _ _ _ _ _ 2 _ _ _ _ S.nd (eN sI sI) (by decide) (by rfl) (by rfl) (by first | exact a0B rfl | exact a0u rfl) (by rfl) (by first | exact .inl rfl | exact .inr rfl))
     (@ss1 _ _ _ _ _ _ (@aD _ _ _ _ _ _ _ _ (@aC _ _ _ _ _ _ _ _ _ (@sLx _ _ _ _ _ _ _ (by decide) (@slx _ _ _ _ _ _ _ (sV 2) (@slx _ _ _ _ _ _ _ (cY sI (sV 2)) (@slx _ _ _ _ _ _ _ (cY (sV 2) sI) (@slx _ _ _ _ _ _ _ (cY sI (sV 2)) (@slx _ _ _ _ _ _ _ sI sl0 (by rfl)) (by rfl)) (by rfl)) (by rfl)) (by rfl))) (ah cs.c20 hr (sai 0 (@af _ _ _ _ _ _ _ sI sa0 (by intro _ z; cases z) (by rfl)))) (by intro _ _; rfl))))) ss0)
    (@ssc _ _ _ _ _ _ _ _ (@aV _ _ _ _ _ _ _ 3 _ _ _ _ S.nd (fX (ah cs.c20 hr (sai 0 (@af _ _ _ _ _ _ _ (eN sI sI) sa0 (by intro _ z; cases z) (by rfl)))) (eN sI sI)) (by decide) (by rfl) (by rfl) (by first | exact a0B rfl | exact a0u rfl) (by rfl) (by first | exact .inl rfl | exact .inr rfl))
    (@ssc _ _ _ _ _ _ _ _ (@aV _ _ _ _ _ _ _ 3 _ _ _ _ S.nd (cu (sV 3) (fX (ah cs.c20 hr (sai 0 (@af _ _ _ _ _ _ _ (eN sI sI) sa0 (by intro _ z; cases z) (by rfl)))) (eN sI sI))) (by decide) (by rfl) (by rfl) (by first | exact a0B rfl | exact a0u rfl) (by rfl) (by first | exact .inl rfl | exact .inr rfl))
    (@ssc _ _ _ _ _ _ _ _ (@aV _ _ _ _ _ _ _ 3 _ _ _ _ S.nd (cu (sV 3) (ah cs.c20 hr (sai 0 (@af _ _ _ _ _ _ _ (eN sI sI) sa0 (by intro _ z; cases z) (by rfl))))) (by decide) (by rfl) (by rfl) (by first | exact a0B rfl | exact a0u rfl) (by rfl) (by first | exact .inl rfl | exact .inr rfl))
    (@ss1 _ _ _ _ _ _ (@aD _ _ _ _ _ _ _ _ (fX (sM 3) (cY sI (fX sI (ah cs.c20 hr (sai 0 (@af _ _ _ _ _ _ _ sI sa0 (by intro _ z; cases z) (by rfl)))))))))))))))
theorem S22:ao ["tape","left","way","one"] ["tape","left"] (defScope s22):=fsc
theorem D22:DD "_law_kind" s22 ["tape","left","way","one"] br:=fun {_ _ _ _ _ _ _ _ _ _ _ s _ _} cs T G hr =>
 have S:=S22
 (@ssc _ _ _ _ _ _ _ _ (@aV _ _ _ _ _ _ _ 2 _ _ _ _ S.nd (ah cs.c20 hr (sai 0 (@af _ _ _ _ _ _ _ sI sa0 (by intro _ z; cases z) (by rfl)))) (by decide) (by rfl) (by rfl) (by first | exact a0B rfl | exact a0u rfl) (by rfl) (by first | exact .inl rfl | exact .inr rfl))
    (@ssc _ _ _ _ _ _ _ _ (@zIf _ _ _ _ _ _ _ _ _ _ _ _ (tW (wOr (bK hr (sV 1) sI) (wO1 (oq (sV 2) sI)))) (@ss1 _ _ _ _ _ _ (@aD _ _ _ _ _ _ _ _ (@aC _ _ _ _ _ _ _ _ _ (@sLx _ _ _ _ _ _ _ (by decide) (@slx _ _ _ _ _ _ _ (@sTx _ _ _ _ _ _ _ (by decide) (@slx _ _ _ _ _ _ _ sS sl0 (by rfl))) (@slx _ _ _ _ _ _ _ (@sTx _ _ _ _ _ _ _ (by decide) (@slx _ _ _ _ _ _ _ sS sl0 (by rfl))) sl0 (by rfl)) (by rfl))) (eO (sM 2) sI) (by intro _ _; rfl)))) ss0)
    (@ssc _ _ _ _ _ _ _ _ (@zIf _ _ _ _ _ _ _ _ _ _ _ _ (oq (sV 2) sI) (@ssc _ _ _ _ _ _ _ _ (@aV _ _ _ _ _ _ _ 3 _ _ _ _ S.nd (ah cs.c22 hr (sai 0 (@af _ _ _ _ _ _ _ (cY (sV 1) sI) sa0 (by intro _ z; cases z) (by rfl)))) (by decide) (by rfl) (by rfl) (by first | exact a0B rfl | exact a0u rfl) (by rfl) (by first | exact .inl rfl | exact .inr rfl))
     (@ss1 _ _ _ _ _ _ (@aD _ _ _ _ _ _ _ _ (@sTx _ _ _ _ _ _ _ (by decide) (@slx _ _ _ _ _ _ _ sS (@slx _ _ _ _ _ _ _ (sM 3) (@slx _ _ _ _ _ _ _ (ah cs.c22 hr (sai 0 (@af _ _ _ _ _ _ _ (cY (sM 1) sI) sa0 (by intro _ z; cases z) (by rfl)))) sl0 (by rfl)) (by rfl)) (by rfl)))))) ss0)
    (@ss1 _ _ _ _ _ _ (@aD _ _ _ _ _ _ _ _ (@sTx _ _ _ _ _ _ _ (by decide) (@slx _ _ _ _ _ _ _ sS (@slx _ _ _ _ _ _ _ (ah cs.c22 hr (sai 0 (@af _ _ _ _ _ _ _ (cY (sM 1) sI) sa0 (by intro _ z; cases z) (by rfl)))) sl0 (by rfl)) (by rfl))))))))
theorem S23:ao ["tape","kind","long","one","many"] ["tape","kind","long"] (defScope s23):=fsc
theorem D23:DD "_law_worth" s23 ["tape","kind","long","one","many"] ax:=fun {_ _ _ _ _ _ _ _ _ _ _ s _ _} cs T G hr =>
 have S:=S23
 (@ssc _ _ _ _ _ _ _ _ (@zIf _ _ _ _ _ _ _ _ _ _ _ _ (bK hr (@aC _ _ _ _ _ _ _ _ _ (sV 1) sI (by intro _ _; rfl)) sS) (@ss1 _ _ _ _ _ _ (@aD _ _ _ _ _ _ _ _ (ah cs.c21 hr (sai 0 sa0)))) ss0)
    (@ssc _ _ _ _ _ _ _ _ (@zIf _ _ _ _ _ _ _ _ _ _ _ _ (bK hr (@aC _ _ _ _ _ _ _ _ _ (sV 1) sI (by intro _ _; rfl)) sS) (@ss1 _ _ _ _ _ _ (@aD _ _ _ _ _ _ _ _ (sEq hr (ah cs.c20 hr (sai 0 (@af _ _ _ _ _ _ _ sI sa0 (by intro _ z; cases z) (by rfl)))) sI))) ss0)
    (@ssc _ _ _ _ _ _ _ _ (@zIf _ _ _ _ _ _ _ _ _ _ _ _ (bK hr (@aC _ _ _ _ _ _ _ _ _ (sV 1) sI (by intro _ _; rfl)) sS) (@ssc _ _ _ _ _ _ _ _ (@aV _ _ _ _ _ _ _ 3 _ _ _ _ S.nd (ah cs.c23 hr (sai 0 (@af _ _ _ _ _ _ _ (@aC _ _ _ _ _ _ _ _ _ (sV 1) sI (by intro _ _; rfl)) (@af _ _ _ _ _ _ _ (sV 2) sa0 (by intro _ z; cases z) (by rfl)) (by intro _ z; cases z) (by rfl)))) (by decide) (by rfl) (by rfl) (by first | exact a0B rfl | exact a0u rfl) (by rfl) (by first | exact .inl rfl | exact .inr rfl))
     (@ss1 _ _ _ _ _ _ (@aD _ _ _ _ _ _ _ _ (@sTx _ _ _ _ _ _ _ (by decide) (@slx _ _ _ _ _ _ _ (sM 3) (@slx _ _ _ _ _ _ _ (ah cs.c23 hr (sai 0 (@af _ _ _ _ _ _ _ (@aC _ _ _ _ _ _ _ _ _ (sM 1) sI (by intro _ _; rfl)) (@af _ _ _ _ _ _ _ (sM 2) sa0 (by intro _ z; cases z) (by rfl)) (by intro _ z; cases z) (by rfl)))) sl0 (by rfl)) (by rfl)))))) ss0)
    (@ssc _ _ _ _ _ _ _ _ (@aV _ _ _ _ _ _ _ 4 _ _ _ _ S.nd (ah cs.c20 hr (sai 0 (@af _ _ _ _ _ _ _ sI sa0 (by intro _ z; cases z) (by rfl)))) (by decide) (by rfl) (by rfl) (by first | exact a0B rfl | exact a0u rfl) (by rfl) (by first | exact .inl rfl | exact .inr rfl))
    (@ssc _ _ _ _ _ _ _ _ (@zIf _ _ _ _ _ _ _ _ _ _ _ _ (tW (iW (tB (sV 2)) (iW (bK hr (cG (hm:=T.len) (ha:=(@aC _ _ _ _ _ _ _ _ _ (sV 1) sI (by intro _ _; rfl)))) sI) (wA1 (bK hr (ah cs.c20 hr (sai 0 (@af _ _ _ _ _ _ _ sI sa0 (by intro _ z; cases z) (by rfl)))) sI))))) (@ss1 _ _ _ _ _ _ (@aV _ _ _ _ _ _ _ 4 _ _ _ _ S.nd (cu sI (ah cs.c20 hr (sai 0 (@af _ _ _ _ _ _ _ sI sa0 (by intro _ z; cases z) (by rfl))))) (by decide) (by rfl) (by rfl) (by first | exact a0B rfl | exact a0u rfl) (by rfl) (by first | exact .inl rfl | exact .inr rfl))) ss0)
    (@ss1 _ _ _ _ _ _ (@aD _ _ _ _ _ _ _ _ (sC1 [1,0] [1,0] [("tape",s.heap.objs.size+1),("kind",s.heap.objs.size+2)] ["kind","tape"] (td (hm:=T.range) (ha:=(sM 4))) (fun _ _ _ _=>(ah cs.c23 hr (sai 2 (@af _ _ _ _ _ _ _ (@aC _ _ _ _ _ _ _ _ _ (sV 1) sI (by intro _ _; rfl)) (@af _ _ _ _ _ _ _ sO sa0 (by intro _ z; cases z) (by rfl)) (by intro _ z; cases z) (by rfl))))) csc (jV (jV .nil)) (frc (frc .nil))))))))))
theorem xU:ao ["thing","low","high"] ["thing","low","high"] (defScope lK):=fsc
theorem yS:DD "_law_whole" lK ["thing","low","high"] aB:=fun {_ _ _ _ _ _ _ _ _ _ _ s _ _} cs T G hr =>
 have S:=xU
 (@ssc _ _ _ _ _ _ _ _ (@zIf _ _ _ _ _ _ _ _ _ _ _ _ (tW (wOr (cy (tB (bu (by decide) a1Z T.isin T.int (sV 0)))) (wO1 (tB (bu (by decide) a0X T.isin T.bool (sV 0)))))) (@ss1 _ _ _ _ _ _ (@aD _ _ _ _ _ _ _ _ sO)) ss0)
    (@ss1 _ _ _ _ _ _ (@aD _ _ _ _ _ _ _ _ (gm (sM 1) (sM 0) (sM 2)))))
theorem xa:ao ["kind","thing","many","top"] ["kind","thing","many"] (defScope mW):=fsc
theorem yM:DD "_law_fits" mW ["kind","thing","many","top"] ab:=fun {_ _ _ _ _ _ _ _ _ _ _ s _ _} cs T G hr =>
 have S:=xa
 (@ssc _ _ _ _ _ _ _ _ (@zIf _ _ _ _ _ _ _ _ _ _ _ _ (uz (@aC _ _ _ _ _ _ _ _ _ (sV 0) sI (by intro _ _; rfl)) (@sTx _ _ _ _ _ _ _ (by decide) (@slx _ _ _ _ _ _ _ sS (@slx _ _ _ _ _ _ _ sS sl0 (by rfl)) (by rfl)))) (@ssc _ _ _ _ _ _ _ _ (@zIf _ _ _ _ _ _ _ _ _ _ _ _ (tW (wOr (cy (tB (bu (by decide) a0O T.isin T.list (sV 1)))) (wO1 (qq hr (cG (hm:=T.len) (ha:=(sV 1))) (sV 2))))) (@ss1 _ _ _ _ _ _ (@aD _ _ _ _ _ _ _ _ sO)) ss0)
      (@ssc _ _ _ _ _ _ _ _ (@zIf _ _ _ _ _ _ _ _ _ _ _ _ (bK hr (@aC _ _ _ _ _ _ _ _ _ (sV 0) sI (by intro _ _; rfl)) sS) (@ss1 _ _ _ _ _ _ (@aD _ _ _ _ _ _ _ _ (mD (hm:=T.all) (ha:=(sC1 [] [] [] [] (fN (sM 1)) (fun _ _ _ _=>(bu (by decide) a0X T.isin T.bool (sV 0))) csc .nil .nil))))) ss0)
      (@ssc _ _ _ _ _ _ _ _ (@aV _ _ _ _ _ _ _ 3 _ _ _ _ S.nd (eN sI sI) (by decide) (by rfl) (by rfl) (by first | exact a0B rfl | exact a0u rfl) (by rfl) (by first | exact .inl rfl | exact .inr rfl))
      (@ss1 _ _ _ _ _ _ (@aD _ _ _ _ _ _ _ _ (mD (hm:=T.all) (ha:=(sC1 [3] [3] [("top",s.heap.objs.size+1)] ["top"] (fN (sM 1)) (fun _ _ _ _=>(ah cs.c257 hr (@af _ _ _ _ _ _ _ (sV 0) (@af _ _ _ _ _ _ _ (cY sI (sV 1)) (@af _ _ _ _ _ _ _ (sV 1) sa0 (by intro _ z; cases z) (by rfl)) (by intro _ z; cases z) (by rfl)) (by intro _ z; cases z) (by rfl)))) csc (jV .nil) (frc .nil))))))))) ss0)
    (@ssc _ _ _ _ _ _ _ _ (@zIf _ _ _ _ _ _ _ _ _ _ _ _ (tW (wOr (cy (tB (bu (by decide) a0M T.isin T.tup (sV 1)))) (wO1 (qq hr (cG (hm:=T.len) (ha:=(sV 1))) sI)))) (@ss1 _ _ _ _ _ _ (@aD _ _ _ _ _ _ _ _ sO)) ss0)
    (@ssc _ _ _ _ _ _ _ _ (@zIf _ _ _ _ _ _ _ _ _ _ _ _ (bK hr (@aC _ _ _ _ _ _ _ _ _ (sV 0) sI (by intro _ _; rfl)) sS) (@ssc _ _ _ _ _ _ _ _ (@zIf _ _ _ _ _ _ _ _ _ _ _ _ (cy (tB (ah cs.c258 hr (@af _ _ _ _ _ _ _ (@aC _ _ _ _ _ _ _ _ _ (sV 0) sI (by intro _ _; rfl)) (@af _ _ _ _ _ _ _ (@aC _ _ _ _ _ _ _ _ _ (sV 1) sI (by intro _ _; rfl)) (@af _ _ _ _ _ _ _ (sV 2) sa0 (by intro _ z; cases z) (by rfl)) (by intro _ z; cases z) (by rfl)) (by intro _ z; cases z) (by rfl))))) (@ss1 _ _ _ _ _ _ (@aD _ _ _ _ _ _ _ _ sO)) ss0)
     (@ss1 _ _ _ _ _ _ (@aD _ _ _ _ _ _ _ _ (ah cs.c258 hr (@af _ _ _ _ _ _ _ (@aC _ _ _ _ _ _ _ _ _ (sM 0) sI (by intro _ _; rfl)) (@af _ _ _ _ _ _ _ (@aC _ _ _ _ _ _ _ _ _ (sM 1) sI (by intro _ _; rfl)) (@af _ _ _ _ _ _ _ (sM 2) sa0 (by intro _ z; cases z) (by rfl)) (by intro _ z; cases z) (by rfl)) (by intro _ z; cases z) (by rfl)))))) ss0)
    (@ssc _ _ _ _ _ _ _ _ (@zIf _ _ _ _ _ _ _ _ _ _ _ _ (tW (wOr (cy (tB (bu (by decide) a0O T.isin T.list (@aC _ _ _ _ _ _ _ _ _ (sV 1) sI (by intro _ _; rfl))))) (wO1 (qq hr (cG (hm:=T.len) (ha:=(@aC _ _ _ _ _ _ _ _ _ (sV 1) sI (by intro _ _; rfl)))) (sV 2))))) (@ss1 _ _ _ _ _ _ (@aD _ _ _ _ _ _ _ _ sO)) ss0)
    (@ssc _ _ _ _ _ _ _ _ (@zIf _ _ _ _ _ _ _ _ _ _ _ _ (cy (tB (mD (hm:=T.all) (ha:=(sC1 [] [] [] [] (fN (@aC _ _ _ _ _ _ _ _ _ (sV 1) sI (by intro _ _; rfl))) (fun _ _ _ _=>(ah cs.c257 hr (@af _ _ _ _ _ _ _ (sV 0) (@af _ _ _ _ _ _ _ sI (@af _ _ _ _ _ _ _ sI sa0 (by intro _ z; cases z) (by rfl)) (by intro _ z; cases z) (by rfl)) (by intro _ z; cases z) (by rfl)))) csc .nil .nil))))) (@ss1 _ _ _ _ _ _ (@aD _ _ _ _ _ _ _ _ sO)) ss0)
    (@ss1 _ _ _ _ _ _ (@aD _ _ _ _ _ _ _ _ (ah cs.c258 hr (@af _ _ _ _ _ _ _ (@aC _ _ _ _ _ _ _ _ _ (sM 0) sI (by intro _ _; rfl)) (@af _ _ _ _ _ _ _ (@aC _ _ _ _ _ _ _ _ _ (sV 1) sI (by intro _ _; rfl)) (@af _ _ _ _ _ _ _ (w6 (hm:=T.sum) (ha:=(@aC _ _ _ _ _ _ _ _ _ (sV 1) sI (by intro _ _; rfl)))) sa0 (by intro _ z; cases z) (by rfl)) (by intro _ z; cases z) (by rfl)) (by intro _ z; cases z) (by rfl))))))))))
theorem xO:ao ["tape","thing","top","menu"] ["tape","thing"] (defScope lX):=fsc
theorem yZ:DD "_law_strange" lX ["tape","thing","top","menu"] f_law_strange:=fun {_ _ _ _ _ _ _ _ _ _ _ s _ _} cs T G hr =>
 have S:=xO
 (@ssc _ _ _ _ _ _ _ _ (@aV _ _ _ _ _ _ _ 2 _ _ _ _ S.nd (eN sI sI) (by decide) (by rfl) (by rfl) (by first | exact a0B rfl | exact a0u rfl) (by rfl) (by first | exact .inl rfl | exact .inr rfl))
    (@ssc _ _ _ _ _ _ _ _ (@aV _ _ _ _ _ _ _ 3 _ _ _ _ S.nd (@sLx _ _ _ _ _ _ _ (by decide) (@slx _ _ _ _ _ _ _ sI (@slx _ _ _ _ _ _ _ sI (@slx _ _ _ _ _ _ _ (cY sI sI) (@slx _ _ _ _ _ _ _ sI (@slx _ _ _ _ _ _ _ sI (@slx _ _ _ _ _ _ _ (sV 2) (@slx _ _ _ _ _ _ _ (cu (sV 2) sI) (@slx _ _ _ _ _ _ _ (cY (cY sI (sV 2)) sI) sl0 (by rfl)) (by rfl)) (by rfl)) (by rfl)) (by rfl)) (by rfl)) (by rfl)) (by rfl))) (by decide) (by rfl) (by rfl) (by first | exact a0B rfl | exact a0u rfl) (by rfl) (by first | exact .inl rfl | exact .inr rfl))
    (@ssc _ _ _ _ _ _ _ _ (@aV _ _ _ _ _ _ _ 3 _ _ _ _ S.nd (cu (sV 3) (@sLx _ _ _ _ _ _ _ (by decide) (@slx _ _ _ _ _ _ _ sO (@slx _ _ _ _ _ _ _ sO (@slx _ _ _ _ _ _ _ sN (@slx _ _ _ _ _ _ _ sS (@slx _ _ _ _ _ _ _ sS (@slx _ _ _ _ _ _ _ (@sLx _ _ _ _ _ _ _ (by decide) sl0) (@slx _ _ _ _ _ _ _ (@sTx _ _ _ _ _ _ _ (by decide) sl0) (@slx _ _ _ _ _ _ _ (@sLx _ _ _ _ _ _ _ (by decide) (@slx _ _ _ _ _ _ _ (sV 1) sl0 (by rfl))) sl0 (by rfl)) (by rfl)) (by rfl)) (by rfl)) (by rfl)) (by rfl)) (by rfl)) (by rfl)))) (by decide) (by rfl) (by rfl) (by first | exact a0B rfl | exact a0u rfl) (by rfl) (by first | exact .inl rfl | exact .inr rfl))
    (@ssc _ _ _ _ _ _ _ _ (@aV _ _ _ _ _ _ _ 3 _ _ _ _ S.nd (cu (sV 3) (@sLx _ _ _ _ _ _ _ (by decide) (@slx _ _ _ _ _ _ _ (@sTx _ _ _ _ _ _ _ (by decide) (@slx _ _ _ _ _ _ _ (sV 1) sl0 (by rfl))) (@slx _ _ _ _ _ _ _ (@sTx _ _ _ _ _ _ _ (by decide) (@slx _ _ _ _ _ _ _ (sV 1) (@slx _ _ _ _ _ _ _ (sV 1) sl0 (by rfl)) (by rfl))) (@slx _ _ _ _ _ _ _ (@sLx _ _ _ _ _ _ _ (by decide) (@slx _ _ _ _ _ _ _ sI sl0 (by rfl))) (@slx _ _ _ _ _ _ _ (@sLx _ _ _ _ _ _ _ (by decide) (@slx _ _ _ _ _ _ _ sO sl0 (by rfl))) (@slx _ _ _ _ _ _ _ (@sTx _ _ _ _ _ _ _ (by decide) (@slx _ _ _ _ _ _ _ (@sLx _ _ _ _ _ _ _ (by decide) sl0) (@slx _ _ _ _ _ _ _ (@sLx _ _ _ _ _ _ _ (by decide) sl0) sl0 (by rfl)) (by rfl))) sl0 (by rfl)) (by rfl)) (by rfl)) (by rfl)) (by rfl)))) (by decide) (by rfl) (by rfl) (by first | exact a0B rfl | exact a0u rfl) (by rfl) (by first | exact .inl rfl | exact .inr rfl))
    (@ss1 _ _ _ _ _ _ (@aD _ _ _ _ _ _ _ _ (@aC _ _ _ _ _ _ _ _ _ (sM 3) (ah cs.c20 hr (sai 0 (@af _ _ _ _ _ _ _ sI sa0 (by intro _ z; cases z) (by rfl)))) (by intro _ _; rfl))))))))
theorem wz:ao ["tape","thing","way","at","some"] ["tape","thing"] (defScope lE):=fsc
theorem zl:DD "_law_bent" lE ["tape","thing","way","at","some"] ai:=fun {_ _ _ _ _ _ _ _ _ _ _ s _ _} cs T G hr =>
 have S:=wz
 (@ssc _ _ _ _ _ _ _ _ (@aV _ _ _ _ _ _ _ 2 _ _ _ _ S.nd (ah cs.c20 hr (sai 0 (@af _ _ _ _ _ _ _ sI sa0 (by intro _ z; cases z) (by rfl)))) (by decide) (by rfl) (by rfl) (by first | exact a0B rfl | exact a0u rfl) (by rfl) (by first | exact .inl rfl | exact .inr rfl))
    (@ssc _ _ _ _ _ _ _ _ (@zIf _ _ _ _ _ _ _ _ _ _ _ _ (tW (iW (tB (xI (by decide) a0O (by decide) a0M T.isin T.list T.tup (sV 1))) (iW (nT (sV 2) sI) (wA1 (nT (cG (hm:=T.len) (ha:=(sV 1))) sI))))) (@ssc _ _ _ _ _ _ _ _ (@aV _ _ _ _ _ _ _ 3 _ _ _ _ S.nd (ah cs.c20 hr (sai 0 (@af _ _ _ _ _ _ _ (cG (hm:=T.len) (ha:=(sV 1))) sa0 (by intro _ z; cases z) (by rfl)))) (by decide) (by rfl) (by rfl) (by first | exact a0B rfl | exact a0u rfl) (by rfl) (by first | exact .inl rfl | exact .inr rfl))
     (@ssc _ _ _ _ _ _ _ _ (@aV _ _ _ _ _ _ _ 4 _ _ _ _ S.nd (jv (hm:=T.list) (ha:=(sV 1))) (by decide) (by rfl) (by rfl) (by first | exact a0B rfl | exact a0u rfl) (by rfl) (by first | exact .inl rfl | exact .inr rfl))
     (@ssc _ _ _ _ _ _ _ _ (@zIf _ _ _ _ _ _ _ _ _ _ _ _ (bK hr (sV 2) sI) (@ss1 _ _ _ _ _ _ (@aV _ _ _ _ _ _ _ 4 _ _ _ _ S.nd (cu (tN (sV 4) (sV 3)) (xo (sV 4) (cu (sV 3) sI))) (by decide) (by rfl) (by rfl) (by first | exact a0B rfl | exact a0u rfl) (by rfl) (by first | exact .inl rfl | exact .inr rfl))) (@ss1 _ _ _ _ _ _ (@zIf _ _ _ _ _ _ _ _ _ _ _ _ (bK hr (sV 2) sI) (@ss1 _ _ _ _ _ _ (@aV _ _ _ _ _ _ _ 4 _ _ _ _ S.nd (cu (cu (tN (sV 4) (sV 3)) (@sLx _ _ _ _ _ _ _ (by decide) (@slx _ _ _ _ _ _ _ (ah cs.c259 hr (sai 0 (@af _ _ _ _ _ _ _ (xQ 4 3) sa0 (by intro _ z; cases z) (by rfl)))) sl0 (by rfl)))) (xo (sV 4) (sV 3))) (by decide) (by rfl) (by rfl) (by first | exact a0B rfl | exact a0u rfl) (by rfl) (by first | exact .inl rfl | exact .inr rfl))) (@ss1 _ _ _ _ _ _ (jZ 4 (ah cs.c262 hr (sai 0 (@af _ _ _ _ _ _ _ (xQ 4 3) sa0 (by intro _ z; cases z) (by rfl)))) (sV 3))))))
     (@ssc _ _ _ _ _ _ _ _ (@zIf _ _ _ _ _ _ _ _ _ _ _ _ (tB (bu (by decide) a0M T.isin T.tup (sV 1))) (@ss1 _ _ _ _ _ _ (@aD _ _ _ _ _ _ _ _ (la (hm:=T.tup) (ha:=(sM 4))))) ss0)
     (@ss1 _ _ _ _ _ _ (@aD _ _ _ _ _ _ _ _ (sM 4))))))) ss0)
    (@ssc _ _ _ _ _ _ _ _ (@zIf _ _ _ _ _ _ _ _ _ _ _ _ (tW (iW (tB (bu (by decide) a0O T.isin T.list (sV 1))) (wA1 (bK hr (sV 2) sI)))) (@ss1 _ _ _ _ _ _ (@aD _ _ _ _ _ _ _ _ (la (hm:=T.tup) (ha:=(sM 1))))) ss0)
    (@ssc _ _ _ _ _ _ _ _ (@zIf _ _ _ _ _ _ _ _ _ _ _ _ (tW (iW (tB (bu (by decide) a0M T.isin T.tup (sV 1))) (wA1 (bK hr (sV 2) sI)))) (@ss1 _ _ _ _ _ _ (@aD _ _ _ _ _ _ _ _ (jv (hm:=T.list) (ha:=(sM 1))))) ss0)
    (@ss1 _ _ _ _ _ _ (@aD _ _ _ _ _ _ _ _ (ah cs.c259 hr (sai 0 (@af _ _ _ _ _ _ _ (sM 1) sa0 (by intro _ z; cases z) (by rfl))))))))))
theorem xu:ao ["kind","thing","many","seen","found"] ["kind","thing","many"] (defScope mw):=fsc
theorem y8:DD "_law_told" mw ["kind","thing","many","seen","found"] aK:=fun {_ _ _ _ _ _ _ _ _ _ _ s _ _} cs T G hr =>
 have S:=xu
 (@ssc _ _ _ _ _ _ _ _ (@aV _ _ _ _ _ _ _ 3 _ _ _ _ S.nd (rj (hr:=hr) (hm:=T.repr) (ha:=(sV 1))) (by decide) (by rfl) (by rfl) (by first | exact a0B rfl | exact a0u rfl) (by rfl) (by first | exact .inl rfl | exact .inr rfl))
    (@ssc _ _ _ _ _ _ _ _ (@aV _ _ _ _ _ _ _ 4 _ _ _ _ S.nd (ah cs.c8 hr (@af _ _ _ _ _ _ _ (sV 0) (@af _ _ _ _ _ _ _ (sV 1) (@af _ _ _ _ _ _ _ (sV 2) sa0 (by intro _ z; cases z) (by rfl)) (by intro _ z; cases z) (by rfl)) (by intro _ z; cases z) (by rfl))) (by decide) (by rfl) (by rfl) (by first | exact a0B rfl | exact a0u rfl) (by rfl) (by first | exact .inl rfl | exact .inr rfl))
    (@ssc _ _ _ _ _ _ _ _ (@zIf _ _ _ _ _ _ _ _ _ _ _ _ (tW (wOr (cy (tB (bu (by decide) a0X T.isin T.bool (sV 4)))) (wO1 (qq hr (rj (hr:=hr) (hm:=T.repr) (ha:=(sV 1))) (sV 3))))) (@ss1 _ _ _ _ _ _ (@aD _ _ _ _ _ _ _ _ sO)) ss0)
    (@ss1 _ _ _ _ _ _ (@aD _ _ _ _ _ _ _ _ (sEq hr (sM 4) (ah cs.c258 hr (@af _ _ _ _ _ _ _ (sM 0) (@af _ _ _ _ _ _ _ (sM 1) (@af _ _ _ _ _ _ _ (sM 2) sa0 (by intro _ z; cases z) (by rfl)) (by intro _ z; cases z) (by rfl)) (by intro _ z; cases z) (by rfl)))))))))
theorem S0:ao ["script","tape","kind","worths","flat","k","bent"] ["script"] (defScope s0):=fsc
theorem D0:DD "law" s0 ["script","tape","kind","worths","flat","k","bent"] f_law:=fun {_ _ _ _ _ _ _ _ _ _ _ s _ _} cs T G hr =>
 have S:=S0
 (@ssc _ _ _ _ _ _ _ _ (@aV _ _ _ _ _ _ _ 1 _ _ _ _ S.nd (@sLx _ _ _ _ _ _ _ (by decide) (@slx _ _ _ _ _ _ _ (jv (hm:=T.list) (ha:=(tN (sV 0) sI))) (@slx _ _ _ _ _ _ _ sI (@slx _ _ _ _ _ _ _ sI (@slx _ _ _ _ _ _ _ sI sl0 (by rfl)) (by rfl)) (by rfl)) (by rfl))) (by decide) (by rfl) (by rfl) (by first | exact a0B rfl | exact a0u rfl) (by rfl) (by first | exact .inl rfl | exact .inr rfl))
    (@ssc _ _ _ _ _ _ _ _ (@aV _ _ _ _ _ _ _ 2 _ _ _ _ S.nd (ah cs.c22 hr (sai 1 (@af _ _ _ _ _ _ _ (cu sI (ah cs.c20 hr (sai 1 (@af _ _ _ _ _ _ _ sI sa0 (by intro _ z; cases z) (by rfl))))) sa0 (by intro _ z; cases z) (by rfl)))) (by decide) (by rfl) (by rfl) (by first | exact a0B rfl | exact a0u rfl) (by rfl) (by first | exact .inl rfl | exact .inr rfl))
    (@ssc _ _ _ _ _ _ _ _ (zC1 3 [2,1] [2,1] [("tape",s.heap.objs.size+1),("kind",s.heap.objs.size+2)] ["kind","tape"] (td (hm:=T.range) (ha:=(ah cs.c20 hr (sai 1 (@af _ _ _ _ _ _ _ sI sa0 (by intro _ z; cases z) (by rfl)))))) (fun _ _ _ _=>(qC (bs:=[.io 1,.var 2]) cs.d23 hr (sai 2 (@af _ _ _ _ _ _ _ (sV 1) sa0 (by intro _ z; cases z) (by rfl))))) csc (jV (jV .nil)) (frc (frc .nil)) S.nd)
    (@ssc _ _ _ _ _ _ _ _ (@aV _ _ _ _ _ _ _ 4 _ _ _ _ S.nd (ah cs.c6 hr (@af _ _ _ _ _ _ _ (sV 2) (@af _ _ _ _ _ _ _ (sV 3) sa0 (by intro _ z; cases z) (by rfl)) (by intro _ z; cases z) (by rfl))) (by decide) (by rfl) (by rfl) (by first | exact a0B rfl | exact a0u rfl) (by rfl) (by first | exact .inl rfl | exact .inr rfl))
    (@ssc _ _ _ _ _ _ _ _ (@zIf _ _ _ _ _ _ _ _ _ _ _ _ (kM (ah cs.c8 hr (@af _ _ _ _ _ _ _ (sV 2) (@af _ _ _ _ _ _ _ (sV 4) (@af _ _ _ _ _ _ _ (cG (hm:=T.len) (ha:=(sV 3))) sa0 (by intro _ z; cases z) (by rfl)) (by intro _ z; cases z) (by rfl)) (by intro _ z; cases z) (by rfl))) sO) (@ss1 _ _ _ _ _ _ (@aD _ _ _ _ _ _ _ _ sO)) ss0)
    (@ssc _ _ _ _ _ _ _ _ (@zIf _ _ _ _ _ _ _ _ _ _ _ _ (kM (ah cs.c8 hr (@af _ _ _ _ _ _ _ (sV 2) (@af _ _ _ _ _ _ _ (sV 4) (@af _ _ _ _ _ _ _ (cu (cG (hm:=T.len) (ha:=(sV 3))) sI) sa0 (by intro _ z; cases z) (by rfl)) (by intro _ z; cases z) (by rfl)) (by intro _ z; cases z) (by rfl))) sO) (@ss1 _ _ _ _ _ _ (@aD _ _ _ _ _ _ _ _ sO)) ss0)
    (@ssc _ _ _ _ _ _ _ _ (q5 5 S.nd (td (hm:=T.range) (ha:=sI)) (@ssc _ _ _ _ _ _ _ _ (@aV _ _ _ _ _ _ _ 6 _ _ _ _ S.nd (ah cs.c262 hr (sai 1 (@af _ _ _ _ _ _ _ (sV 4) sa0 (by intro _ z; cases z) (by rfl)))) (by decide) (by rfl) (by rfl) (by first | exact a0B rfl | exact a0u rfl) (by rfl) (by first | exact .inl rfl | exact .inr rfl))
     (@ssc _ _ _ _ _ _ _ _ (@zIf _ _ _ _ _ _ _ _ _ _ _ _ (cy (tB (ah cs.c261 hr (@af _ _ _ _ _ _ _ (sV 2) (@af _ _ _ _ _ _ _ (sV 6) (@af _ _ _ _ _ _ _ (cG (hm:=T.len) (ha:=(sV 3))) sa0 (by intro _ z; cases z) (by rfl)) (by intro _ z; cases z) (by rfl)) (by intro _ z; cases z) (by rfl))))) (@ss1 _ _ _ _ _ _ (@aD _ _ _ _ _ _ _ _ sO)) ss0)
     (@ss1 _ _ _ _ _ _ (@zIf _ _ _ _ _ _ _ _ _ _ _ _ (cy (tB (ah cs.c261 hr (@af _ _ _ _ _ _ _ (sV 2) (@af _ _ _ _ _ _ _ (sV 6) (@af _ _ _ _ _ _ _ (ah cs.c20 hr (sai 1 (@af _ _ _ _ _ _ _ sI sa0 (by intro _ z; cases z) (by rfl)))) sa0 (by intro _ z; cases z) (by rfl)) (by intro _ z; cases z) (by rfl)) (by intro _ z; cases z) (by rfl))))) (@ss1 _ _ _ _ _ _ (@aD _ _ _ _ _ _ _ _ sO)) ss0)))))
    (@ss1 _ _ _ _ _ _ (@aD _ _ _ _ _ _ _ _ (yN (ah cs.c8 hr (@af _ _ _ _ _ _ _ (sM 2) (@af _ _ _ _ _ _ _ (sM 4) (@af _ _ _ _ _ _ _ (cG (hm:=T.len) (ha:=(sM 3))) sa0 (by intro _ z; cases z) (by rfl)) (by intro _ z; cases z) (by rfl)) (by intro _ z; cases z) (by rfl))) sO))))))))))
end A32

namespace A32
open PySem PySem.Spec PyProof.Rows L2 L3 MR
noncomputable abbrev Cl (n:Nat):M.Call:=M.callR prog 1000000 1000001 n
section
variable {P:Program}{w:World}{K:a0a}{mg:Str->Option Value}{base:Heap}
theorem all (d2:Df K mg "is_worth" s2 ["kind","thing"])(d3:Df K mg "is_number" s3 ["thing"])(d6:Df K mg "flat_of" s6 ["kind","worths"])(d8:Df K mg "is_flat" s8 ["kind","thing","many"])(d9:Df K mg "is_couple" s9 ["thing"])(d10:Df K mg "are_lengths" s10 ["thing","many"])(d20:Df K mg "_law_draw" s20 ["tape","many"])(d21:Df K mg "_law_number" s21 ["tape"])(d22:Df K mg "_law_kind" s22 ["tape","left"])(d23:DfD K mg "_law_worth" s23 ["tape","kind","long"] (.bool true))(d257:Df K mg "_law_whole" lK ["thing","low","high"])(d258:Df K mg "_law_fits" mW ["kind","thing","many"])(d259:Df K mg "_law_strange" lX ["tape","thing"])(d262:Df K mg "_law_bent" lE ["tape","thing"])(d261:Df K mg "_law_told" mw ["kind","thing","many"])  (T:Txt mg)(G:Glb K w mg):∀ n,Calls P w K mg base n (Cl n)
 | 0 =>
  have c2:ae P w K mg base 0 (Cl 0) "is_worth" 2 []:=d2.z
  have c3:ae P w K mg base 0 (Cl 0) "is_number" 3 []:=d3.z
  have c6:ae P w K mg base 0 (Cl 0) "flat_of" 6 []:=d6.z
  have c8:ae P w K mg base 0 (Cl 0) "is_flat" 8 []:=d8.z
  have c9:ae P w K mg base 0 (Cl 0) "is_couple" 9 []:=d9.z
  have c10:ae P w K mg base 0 (Cl 0) "are_lengths" 10 []:=d10.z
  have c20:ae P w K mg base 0 (Cl 0) "_law_draw" 20 [0]:=d20.z
  have c21:ae P w K mg base 0 (Cl 0) "_law_number" 21 [0]:=d21.z
  have c22:ae P w K mg base 0 (Cl 0) "_law_kind" 22 [0]:=d22.z
  have c23:ae P w K mg base 0 (Cl 0) "_law_worth" 23 [0]:=d23.z
  have e23:bV P w K mg base 0 (Cl 0) "_law_worth" 23 [0] (.bl true):=d23.zD
  have c257:ae P w K mg base 0 (Cl 0) "_law_whole" 257 []:=d257.z
  have c258:ae P w K mg base 0 (Cl 0) "_law_fits" 258 []:=d258.z
  have c259:ae P w K mg base 0 (Cl 0) "_law_strange" 259 [0]:=d259.z
  have c262:ae P w K mg base 0 (Cl 0) "_law_bent" 262 [0]:=d262.z
  have c261:ae P w K mg base 0 (Cl 0) "_law_told" 261 []:=d261.z
  ⟨c2,c3,c6,c8,c9,c10,c20,c21,c22,c23,e23,c257,c258,c259,c262,c261,fun _=>rfl,fun _=>rfl⟩
 | n+1 =>
  have c:=all d2 d3 d6 d8 d9 d10 d20 d21 d22 d23 d257 d258 d259 d262 d261  T G n
  have c2:ae P w K mg base (n+1) (Cl (n+1)) "is_worth" 2 []:=d2.s aq S2 (C:=Cl n) (by intro f cdv A outer s H E h; exact @D2 P w K mg base n (Cl n) f cdv A outer s H E c T G h)
  have c3:ae P w K mg base (n+1) (Cl (n+1)) "is_number" 3 []:=d3.s az S3 (C:=Cl n) (by intro f cdv A outer s H E h; exact @D3 P w K mg base n (Cl n) f cdv A outer s H E c T G h)
  have c6:ae P w K mg base (n+1) (Cl (n+1)) "flat_of" 6 []:=d6.s aX S6 (C:=Cl n) (by intro f cdv A outer s H E h; exact @D6 P w K mg base n (Cl n) f cdv A outer s H E c T G h)
  have c8:ae P w K mg base (n+1) (Cl (n+1)) "is_flat" 8 []:=d8.s ag S8 (C:=Cl n) (by intro f cdv A outer s H E h; exact @D8 P w K mg base n (Cl n) f cdv A outer s H E c T G h)
  have c9:ae P w K mg base (n+1) (Cl (n+1)) "is_couple" 9 []:=d9.s aE S9 (C:=Cl n) (by intro f cdv A outer s H E h; exact @D9 P w K mg base n (Cl n) f cdv A outer s H E c T G h)
  have c10:ae P w K mg base (n+1) (Cl (n+1)) "are_lengths" 10 []:=d10.s au S10 (C:=Cl n) (by intro f cdv A outer s H E h; exact @D10 P w K mg base n (Cl n) f cdv A outer s H E c T G h)
  have c20:ae P w K mg base (n+1) (Cl (n+1)) "_law_draw" 20 [0]:=d20.s aP S20 (C:=Cl n) (by intro f cdv A outer s H E h; exact @D20 P w K mg base n (Cl n) f cdv A outer s H E c T G h)
  have c21:ae P w K mg base (n+1) (Cl (n+1)) "_law_number" 21 [0]:=d21.s a0 S21 (C:=Cl n) (by intro f cdv A outer s H E h; exact @D21 P w K mg base n (Cl n) f cdv A outer s H E c T G h)
  have c22:ae P w K mg base (n+1) (Cl (n+1)) "_law_kind" 22 [0]:=d22.s br S22 (C:=Cl n) (by intro f cdv A outer s H E h; exact @D22 P w K mg base n (Cl n) f cdv A outer s H E c T G h)
  have c23:ae P w K mg base (n+1) (Cl (n+1)) "_law_worth" 23 [0]:=d23.s ax S23 (C:=Cl n) (by intro f cdv A outer s H E h; exact @D23 P w K mg base n (Cl n) f cdv A outer s H E c T G h)
  have e23:bV P w K mg base (n+1) (Cl (n+1)) "_law_worth" 23 [0] (.bl true):=d23.sD ax S23 (C:=Cl n) (by intro f cdv A outer s H E h; exact @D23 P w K mg base n (Cl n) f cdv A outer s H E c T G h)
  have c257:ae P w K mg base (n+1) (Cl (n+1)) "_law_whole" 257 []:=d257.s aB xU (C:=Cl n) (by intro f cdv A outer s H E h; exact @yS P w K mg base n (Cl n) f cdv A outer s H E c T G h)
  have c258:ae P w K mg base (n+1) (Cl (n+1)) "_law_fits" 258 []:=d258.s ab xa (C:=Cl n) (by intro f cdv A outer s H E h; exact @yM P w K mg base n (Cl n) f cdv A outer s H E c T G h)
  have c259:ae P w K mg base (n+1) (Cl (n+1)) "_law_strange" 259 [0]:=d259.s f_law_strange xO (C:=Cl n) (by intro f cdv A outer s H E h; exact @yZ P w K mg base n (Cl n) f cdv A outer s H E c T G h)
  have c262:ae P w K mg base (n+1) (Cl (n+1)) "_law_bent" 262 [0]:=d262.s ai wz (C:=Cl n) (by intro f cdv A outer s H E h; exact @zl P w K mg base n (Cl n) f cdv A outer s H E c T G h)
  have c261:ae P w K mg base (n+1) (Cl (n+1)) "_law_told" 261 []:=d261.s aK xu (C:=Cl n) (by intro f cdv A outer s H E h; exact @y8 P w K mg base n (Cl n) f cdv A outer s H E c T G h)
  ⟨c2,c3,c6,c8,c9,c10,c20,c21,c22,c23,e23,c257,c258,c259,c262,c261,fun ws=>M.zf_no _ ws,fun ws=>M.zf_no _ ws⟩
end
theorem pure_law:∀ ns:List Int,ns.length<=63->∃ m bs,Cl 40 0 [(.d,.scr ns)]=.ok ((m,.bl true),bs):=fun ns _=>P32.pure_law ns
theorem all_mk {l:a1W}{w:World}{K:a0a}{h:Heap}{mg:Str->Option Value}{fa:Addr}(X:K.In h)(G:h.Ns mainGlobals mg)(hfa:mg "law"=some (.ref fa))(r2:Raw K "is_worth" s2 .none)(r3:Raw K "is_number" s3 .none)(r6:Raw K "flat_of" s6 .none)(r8:Raw K "is_flat" s8 .none)(r9:Raw K "is_couple" s9 .none)(r10:Raw K "are_lengths" s10 .none)(r20:Raw K "_law_draw" s20 .none)(r21:Raw K "_law_number" s21 .none)(r22:Raw K "_law_kind" s22 .none)(r23:RawD K "_law_worth" s23 (.bool true))(r257:Raw K "_law_whole" lK .none)(r258:Raw K "_law_fits" mW .none)(r259:Raw K "_law_strange" lX .none)(r262:Raw K "_law_bent" lE .none)(r261:Raw K "_law_told" mw .none)(r0:Raw K "law" s0 .none)(g0:∃ t,a1y K mainGlobals "GREATEST"=some (some (.int 1000000000000000000 t)))(g1:∃ t,a1y K mainGlobals "LONGEST_stops"=some (some (.int 200 t)))  (tx:vi K ["isinstance","int","tuple","list","bool","sum","len","all","zip","range","enumerate","any","max","min","sorted","str","repr","abs","dict","set","reversed"]) :
  ∃ fd:FuncData,(∀ (s:Shared) (v:Value),BindsTo s fd ⟨[v],[]⟩ [("script",v)])/\∀ base:Heap,K.In base->base.Ns mainGlobals mg->bI l.prog w K mg base CX0 40 fa fd ["script"] (spS K (Cl 40) 0 []):=by
 have d2:Df K mg "is_worth" s2 ["kind","thing"]:=bB X G r2 fun _ _ _ _ _ _ us hl=>match us,hl with | [_,_],_=>rfl
 have d3:Df K mg "is_number" s3 ["thing"]:=bB X G r3 fun _ _ _ _ _ _ us hl=>match us,hl with | [_],_=>rfl
 have d6:Df K mg "flat_of" s6 ["kind","worths"]:=bB X G r6 fun _ _ _ _ _ _ us hl=>match us,hl with | [_,_],_=>rfl
 have d8:Df K mg "is_flat" s8 ["kind","thing","many"]:=bB X G r8 fun _ _ _ _ _ _ us hl=>match us,hl with | [_,_,_],_=>rfl
 have d9:Df K mg "is_couple" s9 ["thing"]:=bB X G r9 fun _ _ _ _ _ _ us hl=>match us,hl with | [_],_=>rfl
 have d10:Df K mg "are_lengths" s10 ["thing","many"]:=bB X G r10 fun _ _ _ _ _ _ us hl=>match us,hl with | [_,_],_=>rfl
 have d20:Df K mg "_law_draw" s20 ["tape","many"]:=bB X G r20 fun _ _ _ _ _ _ us hl=>match us,hl with | [_,_],_=>rfl
 have d21:Df K mg "_law_number" s21 ["tape"]:=bB X G r21 fun _ _ _ _ _ _ us hl=>match us,hl with | [_],_=>rfl
 have d22:Df K mg "_law_kind" s22 ["tape","left"]:=bB X G r22 fun _ _ _ _ _ _ us hl=>match us,hl with | [_,_],_=>rfl
 have d23:DfD K mg "_law_worth" s23 ["tape","kind","long"] (.bool true):=sk X G r23 (fun _ _ _ _ _ _ _ us hl=>match us,hl with | [_,_,_],_=>⟨_,rfl,rfl⟩) (fun _ _ _ _ _ _ _ us hl=>by obtain ⟨_,_,rfl⟩:=vL hl; exact ⟨_,rfl,rfl⟩)
 have d257:Df K mg "_law_whole" lK ["thing","low","high"]:=bB X G r257 fun _ _ _ _ _ _ us hl=>match us,hl with | [_,_,_],_=>rfl
 have d258:Df K mg "_law_fits" mW ["kind","thing","many"]:=bB X G r258 fun _ _ _ _ _ _ us hl=>match us,hl with | [_,_,_],_=>rfl
 have d259:Df K mg "_law_strange" lX ["tape","thing"]:=bB X G r259 fun _ _ _ _ _ _ us hl=>match us,hl with | [_,_],_=>rfl
 have d262:Df K mg "_law_bent" lE ["tape","thing"]:=bB X G r262 fun _ _ _ _ _ _ us hl=>match us,hl with | [_,_],_=>rfl
 have d261:Df K mg "_law_told" mw ["kind","thing","many"]:=bB X G r261 fun _ _ _ _ _ _ us hl=>match us,hl with | [_,_,_],_=>rfl
 have T:=tw X G tx
 have Gm:Glb K w mg:=⟨(let ⟨t,z⟩:=g0; ⟨t,a1s X G z⟩),(let ⟨t,z⟩:=g1; ⟨t,a1s X G z⟩)⟩
 exact qr X G hfa r0 (fun _ _ _ _ _ _ _ _=>.of_eq rfl) fun f fd F base=>Fun.okM F S0 rfl (by decide) (by decide) (by decide) (fun _ _ _ _ _ _ h=>D0 (all d2 d3 d6 d8 d9 d10 d20 d21 d22 d23 d257 d258 d259 d262 d261  T Gm 39) T Gm h) fun _=>rfl
end A32

set_option maxHeartbeats 0
namespace H32
open PySem PySem.W TP
noncomputable abbrev pr:Program:=PySem.Challenge.pw_broadrow_k32_what_is_a_flat
noncomputable def tn (i:Nat):Stmt:=pr.main.body.getD i (.Pass p0)
noncomputable def rc:List Rc:=[.c,
.m,
.c,
.c,
.d,
.d,
.d,
.d,
.m,
.d,
.d,
.d,
.d,
.m,
.d,
.d,
.d,
.d,
.d,
.d,
.d,
.d,
.d,
.d]
theorem c0 (w:World):Cut pr rc 0 15 187 p0 24 583 128 344 ⟨151,0,166,51⟩ w:=fun o=>by kernel_rfl
theorem ch:Ch pr rc 24 128 344 0 15 187 p0 (583+(2)):=qA c0 (tZ (by kernel_rfl))
noncomputable def q:Program:=view pr [23]
noncomputable def lo:List Str:=(["LONGEST_stops","GREATEST","LONGEST_worths","is_worth","is_number","is_pair","is_row","flat_of","is_flat","is_couple","are_lengths","_law_draw","_law_number","_law_kind","_law_worth","_law_whole","_law_fits","_law_strange","_law_bent","_law_told"]:List String).map Str.ofString
noncomputable def as:List Addr:=[3,20,21,27,28,34,35,39,40,44,45,49,50,56,57,61,62,68,69,75,76,82,83,84,88,89,95,96,100,101,107,108,114,115,121,122,126,127]
noncomputable def K:Params->Frag:=kK pr rc 24 as
noncomputable def hk:Hook:=hkk pr rc 24 128
noncomputable abbrev Xt (s:Shared):Bool:=xlAt q [] s&&recOk (RowW.records (OpenRow.toRowW (OpenLaw.row PySem.Challenge.rw_broadrow_k32_what_is_a_flat))) s
theorem kin (w:World)(h:Heap)(Y:hk.says w h):(K w.params).In h:=y0 (by kernel_rfl) (by kernel_rfl) Y
theorem lk (w:World):(fun o=>((staticsOk (importedModules pr.main.body) (boot_heap w.params) (hp pr rc 24 128 w.params)&&namesBound pr (hp pr rc 24 128 w.params)&&gensDone ⟨hp pr rc 24 128 w.params,#[],{},344,o⟩&&laidKept (boot_heap w.params) (hp pr rc 24 128 w.params)),openSeen q lo (importedModules pr.main.body) Xt true ⟨hp pr rc 24 128 w.params,#[],{},344,o⟩,Hook.obs hk ⟨hp pr rc 24 128 w.params,#[],{},344,o⟩))=fun _=>(true,openGood q lo,Hook.val hk w):=by kernel_rfl
theorem e1:opening pr=plainProg pr.main.scope.names:=by kernel_rfl
theorem e2:behindTheImports pr=pr.main.body:=by kernel_rfl
theorem e3 (s:Shared):fenceModules? pr s=some s:=by kernel_rfl
theorem pre (w:World)(o:OsState):topGo treeTable pr w 11 an 12 ⟨boot_heap w.params,a2L [],boot_drawn,boot_toks,o⟩ (topStub pr)=some ((sT pr rc w.params 0 15 187 o).abs,⟨denote treeTable (cE pr),cE pr,p0,B0⟩):=by kernel_rfl
theorem blk (w:World)(o:OsState):segRun treeTable pr w 11 an 1 1 (sT pr rc w.params 0 15 187 o).abs (blockOf (behindTheImports pr) (ev pr) (cE pr) p0 B0)=some (.next,(sT pr rc w.params 0 15 187 o).abs,cE pr,p0):=by kernel_rfl
theorem left:LeftO pr q lo Xt (Hook.obs hk) (Hook.val hk) 1290:=qv e1 (by kernel_rfl) e3 e2 qd pre blk ch (by kernel_rfl) lk
end H32

set_option maxHeartbeats 4000000
open PySem PySem.W PyProof.Rows
set_option maxRecDepth 100000 in
set_option maxHeartbeats 0 in
theorem PySem.Challenge.cw_broadrow_k32_what_is_a_flat_holds : PySem.Challenge.rw_broadrow_k32_what_is_a_flat.Holds := by
 w_on; o_law
 refine holds_open (q:=H32.q) (loose:=H32.lo) (Xt:=H32.Xt) (XP:=XL H32.q []) (Yf:=Hook.obs H32.hk) (Ya:=Hook.val H32.hk) (YP:=Hook.says H32.hk) (N:=1290) (d:=TP.drec (H32.tn 23)) (kwd:=[]) H32.left (Hook.of H32.hk) (Hook.keeps H32.hk) (fun s e=>xl_of s (a1p.mp e).1) XL.keeps (by kernel_rfl) (by kernel_rfl) (by kernel_rfl) (fun s e=>recFacts_of (a1p.mp e).2) (by rfl) (by first | assumption | decide +kernel) (by decide +kernel) ⟨rfl,rfl,rfl,rfl,rfl,by decide +kernel⟩ ?hw ?hc
 case hw=>w_witness2
 refine MR.walkX (sx:="script") (l:=PySem.Challenge.rw_broadrow_k32_what_is_a_flat) (k:=40) (C:=A32.Cl 40) (ix:=0) (K:=H32.K) A32.pure_law rfl (by kernel_rfl) ⟨rfl,by decide,by decide,rfl⟩ H32.kin ?F
 case F =>
  intro w mg fa h KX G hmg
  refine' A32.all_mk KX G hmg ?zr2 ?zr3 ?zr6 ?zr8 ?zr9 ?zr10 ?zr20 ?zr21 ?zr22 ?zr23 ?zr257 ?zr258 ?zr259 ?zr262 ?zr261 ?zr0 ?zg0 ?zg1  ?ztx
  case zr23=>exact TP.rawd_mk (by kernel_rfl) (by kernel_rfl) (by kernel_rfl) (by kernel_rfl) (by kernel_rfl)
  case zg0=>exact ⟨TP.tkO (nsIn (H32.K w.params) mainGlobals "GREATEST"),by kernel_rfl⟩
  case zg1=>exact ⟨TP.tkO (nsIn (H32.K w.params) mainGlobals "LONGEST_stops"),by kernel_rfl⟩
  case ztx=>refine' ⟨?_,?_,?_,?_,?_,?_,?_,?_,?_,?_,?_,?_,?_,?_,?_,?_,?_,?_,?_,?_,?_,trivial⟩<;>kernel_rfl
  all_goals exact TP.raw_mk (by kernel_rfl) (by kernel_rfl) (by kernel_rfl) (by kernel_rfl)
