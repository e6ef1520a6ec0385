import PyProof.Rows.All
import Wide.All
import OpenK.AllK
import Wide.FinOn
import Lean
import PyProof.EqAt
import PyProof.EqKinds
import PyProof.TupleCall
import PySem.Challenge.RW_broadrow_k08_trees_known
open PySem.W renaming Frag → a0a, kia_one → a0F, fnOf → a04, kitOne → a09, nsIn → a1l, mg_of → a1p, keepIn → a1t, codeIn → a1F, methodObj → a1H, kitx_list → a1I, cellsFrom_some → a1Q, instObj → a1T, OpenLaw → a1Y, lookIn → a12, kitx_tuple → a17, kitx_dict → a2b, plainGet → a2g, KeysLit → a2q, findIn → a2t, WalkO → a2y
open List renaming length_cons → a0b, length_append → a0d, length_map → a0f, replicate → a0g, mem_append_right → a0h, size_toArray → a0i, drop_succ_cons → a0l, getElem?_eq_getElem → a0m, mem_cons_of_mem → a0n, mem_cons_self → a0o, getElem?_eq_some_iff → a0p, drop_zero → a0q, getElem?_map → a0t, getD_eq_getElem?_getD → a0u, getElem?_cons_succ → a0v, map_cons → a0x, length_nil → a0y, take_succ_cons → a0z, length_singleton → a0D, mem_cons → a0E, mem_singleton → a0G, length_replicate → a0H, all_eq_true → a0J, getElem?_append_right → a0K, append_nil → a0L, filterMap_cons → a0N, replicate_succ → a0O, append_assoc → a0R, getElem?_append_left → a0T, take_zero → a0U, mem_append_left → a0V, mem_append → a0W, range → a0Y, lookup_cons → a0Z, all_cons → a00, mem_of_getElem? → a02, find?_cons → a03, map_nil → a05, take_of_length_le → a1b, nodup_cons → a1d, getElem?_set_ne → a1g, length_drop → a1i, getElem?_replicate → a1m, nil_append → a1n, getElem?_cons_zero → a1o, getElem?_set_self → a1r, flatten_cons → a1s, length_take → a1w, length_dropLast → a1x, any_cons → a1y, mem_map → a1B, map_map → a1E, length_range → a1K, getElem_mem → a1P, of_mem_zip → a1W, concat_eq_append → a10, mem_range → a11, mem_filterMap → a15, any_eq_false → a2a, all_nil → a2f, drop_length → a2j, not_mem_nil → a2m, mem_filter → a2o, length → a2p, length_set → a2s, foldl → a2w, take_nil → a2z, drop_nil → a2A
open Bool renaming and_eq_true → a0c, false_ne_true → a0e, and_eq_true_iff → a0w, false_and → a0S, and_false → a1a, bne_false → a1h, true_or → a2e, or_eq_true → a2r
open Nat renaming lt_of_lt_of_le → a0j, le_refl → a0k, le_trans → a0r, ne_of_lt → a0A, lt_irrefl → a06, reduceAdd → a07, zero_le → a1e, le_of_ble_eq_true → a1v, lt_of_le_of_lt → a1A, le_of_lt → a1U, ne_of_gt → a1V, add_comm → a1X, zero_add → a2d, le_of_not_lt → a2i, succ_le_succ → a2k, mul_comm → a2F, sub_zero → a2J
open Option.some renaming inj → a0s, injEq → a1L
open PyProof.Rows renaming slot_tuple_getitem → a0B, boot_bool → a0X, boot_str → a01, boot_tuple → a08, boot_int → a1u, callWith_type1 → a1z, callWith_builtin1 → a2c, boot_isinstance → a2n, boot_list → a2C, eq_dataH → a2G, ne_dataH → a2H
open Or renaming inr → a0C, inl → a0I
open PySem.Builtin.Str renaming occurrences → a0M
open Array renaming length_toList → a0P, all_eq_true' → a1c, find?_toList → a16, size_map → a2v, mk → a2B, toList → a2E
open PySem renaming mem_of_lookup → a0Q, boot_len → a2u, call → a2x, Within → a2D
open False renaming elim → a1f
open True renaming intro → a1j
open Option renaming isSome_iff_exists → a1k, toList_none → a1D, bind_eq_some_iff → a1O, getD_none → a2h, bind_some → a2l
open PySem.Str renaming ofString → a1q
open Prod renaming snd → a1C, fst → a1N
open PySem.F renaming slot_dict_getitem → a1G, args_tuple_add_2 → a1J, entry_tuple_add → a1M, slot_tuple_add → a1R
open Sum renaming inr → a1S, inl → a19
open Int renaming emod_nonneg → a1Z, emod_lt_of_pos → a18
open Ne renaming symm → a13
open Prod.mk renaming inj → a14
open Classical renaming em → a2I
open Sum.inr renaming inj → a2K
open And renaming left → a2L
open List.Pairwise renaming nil → a2M
set_option genSizeOf false
set_option genInjectivity false
set_option Elab.async false
set_option linter.all false
set_option maxRecDepth 100000
namespace L2
open PySem PySem.Spec PyProof.Rows
noncomputable abbrev Key:=Sum Int Str
noncomputable def eF:Key->Value->Bool
 | .inl k,v=>Value.isInt k v
 | .inr x,v=>Value.isStrOf x v
noncomputable def zj (w:World):Key->Int
 | .inl k=>hashInt k
 | .inr x=>hashStr w x
theorem aH:∀ {k:Key} {v:Value},eF k v=true->(∃ i t,k=a19 i/\v=Value.int i t)\/(∃ x t,k=a1S x/\v=Value.str x t)
 | .inl i,v,h=>by
  obtain ⟨t,e⟩:=Value.isInt_shape (k:=i) (v:=v) h
  exact .inl ⟨i,t,rfl,e⟩
 | .inr x,v,h=>by
  obtain ⟨t,e⟩:=Value.isStrOf_shape (x:=x) (v:=v) h
  exact .inr ⟨x,t,rfl,e⟩
theorem j4 (i:Int)(t:Tok):eF (.inl i) (.int i t)=true:=by simp [eF,Value.isInt]
theorem jv (x:Str)(t:Tok):eF (.inr x) (.str x t)=true:=by simp [eF,Value.isStrOf]
theorem uk (a b:Int):decide ((a19 a:Key)=a19 b)=(a==b):=by
 by_cases e:a=b
 ·subst e; simp
 ·have h:¬ (a19 a:Key)=a19 b:=fun q=>e (Sum.inl.inj q)
  rw [decide_eq_false h]
  exact (beq_eq_false_iff_ne.mpr e).symm
theorem vk (a b:Str):decide ((a1S a:Key)=a1S b)=decide (a=b):=by
 by_cases e:a=b
 ·subst e; simp
 ·have h:¬ (a1S a:Key)=a1S b:=fun q=>e (a2K q)
  rw [decide_eq_false h,decide_eq_false e]
theorem tH (a:Int)(b:Str):decide ((a19 a:Key)=a1S b)=false:=decide_eq_false (fun q=>nomatch q)
theorem vo (a:Str)(b:Int):decide ((a1S a:Key)=a19 b)=false:=decide_eq_false (fun q=>nomatch q)
noncomputable def aN (prog:Program)(w:World):PySem.KeyKind prog w Key where
 is:=eF
 hash:=zj w
 inj:=fun v a b ha hb=>by
  rcases aH ha with ⟨i,t,rfl,rfl⟩ | ⟨x,t,rfl,rfl⟩
  ·rcases aH hb with ⟨j,u,rfl,e⟩ | ⟨y,u,rfl,e⟩
   ·injection e with e1 _; rw [e1]
   ·exact nomatch e
  ·rcases aH hb with ⟨j,u,rfl,e⟩ | ⟨y,u,rfl,e⟩
   ·exact nomatch e
   ·injection e with e1 _; rw [e1]
 byValue:=fun k v h=>by
  rcases aH h with ⟨i,t,rfl,rfl⟩ | ⟨x,t,rfl,rfl⟩<;>rfl
 pyHash:=fun hv h=>by
  rcases aH hv with ⟨i,t,rfl,rfl⟩ | ⟨x,t,rfl,rfl⟩
  ·exact wpAny_pyHash_int h
  ·exact wpAny_pyHash_str h
 eqBool:=fun hu hv h=>by
  rcases aH hu with ⟨i,t,rfl,rfl⟩ | ⟨x,t,rfl,rfl⟩
  ·rcases aH hv with ⟨j,u,rfl,rfl⟩ | ⟨y,u,rfl,rfl⟩
   ·rw [uk] at h; exact wpAny_eqBool_int h
   ·rw [tH] at h; exact SeqAt.EqAt.int_str i t y u _ _ _ _ h
  ·rcases aH hv with ⟨j,u,rfl,rfl⟩ | ⟨y,u,rfl,rfl⟩
   ·rw [vo] at h; exact SeqAt.EqAt.str_int x t j u _ _ _ _ h
   ·rw [vk] at h; exact wpAny_eqBool_str h
 «strs»:=fun k x t v h=>by
  rcases aH h with ⟨i,u,rfl,e⟩ | ⟨y,u,rfl,e⟩
  ·exact nomatch e
  ·injection e with e1 _
   subst e1
   cases v<;>rfl
theorem fP (prog:Program)(w:World)(i:Int)(t:Tok):(aN prog w).is (.inl i) (.int i t)=true:=j4 i t
theorem gJ (prog:Program)(w:World)(x:Str)(t:Tok):(aN prog w).is (.inr x) (.str x t)=true:=jv x t
end L2
namespace L2
open PySem PySem.Spec PyProof.Rows
set_option genInjectivity true
inductive V where
 | non | bl (b:Bool) | int (i:Int) | str (x:Str) | byt (b:Array UInt8) | flt (b:UInt64) | ref (a:Addr) | ty (n:String)
 deriving DecidableEq
set_option genInjectivity false
noncomputable def RelV:V->Value->Prop
 | .non,u=>u=Value.none
 | .bl b,u=>u=Value.bool b
 | .int i,u=>∃ t,u=Value.int i t
 | .str x,u=>∃ t,u=Value.str x t
 | .byt b,u=>∃ t,u=Value.bytes b t
 | .flt b,u=>∃ t,u=Value.float b t
 | .ref a,u=>u=Value.ref a
 | .ty n,u=>u=Value.type n
noncomputable abbrev Vals:List V->List Value->Prop:=Paired RelV
theorem Vals.length {xs:List V}{us:List Value}(r:Vals xs us):xs.length=us.length:=Paired.length r
theorem Vals.get:∀ {xs:List V} {us:List Value} {i:Nat} {x:V},Vals xs us->xs[i]?=some x->∃ u,us[i]?=some u/\RelV x u
 | _,_,_,_,.nil,e=>by simp at e
 | _,_,0,_,.cons r _,e=>by simp at e; subst e; exact ⟨_,rfl,r⟩
 | _,_,i+1,x,.cons _ t,e=>by
  obtain ⟨u,h1,h2⟩:=Vals.get (i:=i) (x:=x) t (by simpa using e)
  exact ⟨u,by simpa using h1,h2⟩
theorem Vals.append:∀ {xs ys:List V} {us ws:List Value},Vals xs us->Vals ys ws->Vals (xs++ys) (us++ws)
 | _,_,_,_,.nil,s=>s
 | _,_,_,_,.cons r t,s=>.cons r (Vals.append t s)
theorem Vals.take:∀ {xs:List V} {us:List Value} (n:Nat),Vals xs us->Vals (xs.take n) (us.take n)
 | _,_,0,_=>.nil
 | _,_,_+1,.nil=>.nil
 | _,_,n+1,.cons r t=>.cons r (Vals.take n t)
theorem Vals.drop:∀ {xs:List V} {us:List Value} (n:Nat),Vals xs us->Vals (xs.drop n) (us.drop n)
 | _,_,0,r=>r
 | _,_,_+1,.nil=>.nil
 | _,_,n+1,.cons _ t=>Vals.drop n t
noncomputable def RelO:Option V->Option Value->Prop
 | some v,some u=>RelV v u
 | none,none=>True
 | _,_=>False
noncomputable def KV {κ:Type}:List (κ×V)->List (κ×Value)->Prop:=Paired fun (p:κ×V) (q:κ×Value)=>p.1=q.1/\RelV p.2 q.2
noncomputable def kV:Key->V
 | .inl i=>.int i
 | .inr x=>.str x
inductive HO where
 | lst (xs:List V)
 | tup (xs:List V)
 | dK (kvs:List (Key×V)) | dT (kvs:List (List Key×V))
 | set (S:Int->Bool) (n:Nat)
 | ins (C dx:Addr) (fs:List (Str×V))
 | own (x:Addr)
 | xd (fs:List (Str×V))
 | met (f x:Addr)
 | rng (lo hi:Int)
 | frz (o:Obj) (u:HO)
 | tbl (ps:Array Value)
 | ext (φ:Heap->Prop)
noncomputable abbrev Hp:=Addr->Option HO
noncomputable def upd (H:Hp)(a:Addr)(o:HO):Hp:=fun b=>if b=a then some o else H b
theorem ay {H:Hp}{a:Addr}{o:HO}:upd H a o a=some o:=by unfold upd; rw [if_pos rfl]
theorem ah {H:Hp}{a b:Addr}{o:HO}(h:b≠a):upd H a o b=H b:=by unfold upd; rw [if_neg h]
theorem aS {H:Hp}{a b:Addr}{o:HO}(h:H a=some o)(h':H b=none):a≠b:=by
 intro e; subst e; rw [h] at h'; cases h'
section
variable (P:Program)(w:World)
noncomputable def ObjOk (H:Hp)(h:Heap)(a:Addr):HO->Prop
 | .lst xs=>xs.length<=sizeLine/\∃ (its:List Value) (n:Nat),Vals xs its/\h.get? a=some { cls:=.type "list",data:=.seq its.toArray n }
 | .tup xs=>xs.length<=sizeLine/\∃ its:List Value,Vals xs its/\IsTup h a its.toArray
 | .dK kvs=>kvs.length<=sizeLine/\(a==sysModules)=false/\∃ vs,KV kvs vs/\h.DictOf (aN P w) a vs
 | .dT kvs=>kvs.length<=sizeLine/\(a==sysModules)=false/\∃ xs:List (List Key×Addr×Value),
   Paired (fun (p:List Key×V) (q:List Key×Addr×Value)=>p.1=q.1/\H q.2.1=some (.tup (p.1.map kV))/\RelV p.2 q.2.2) kvs xs /\
   ∃ o es ep,h.get? a=some o/\o.ExactDict/\o.data=.dict es ep/\es.toList=xs.map (entryOfKey (tupleKind (aN P w)))/\(xs.map (·.1)).Nodup
 | .set S n=>h.SetOf (intKind P w) a S n
 | .ins C dx fs=>H dx=some (.own a)/\fs.length<=1000/\dx≠a/\h.get? a=some (a1T C dx) /\
   ∃ mA,h.Ns1 dx mA/\(∀ f,RelO (fs.lookup f) (mA f))/\a2D mA (fs.map (·.1))
 | .own _=>∃ o,h.get? a=some o
 | .xd fs=>∃ mA,h.Ns1 a mA/\∀ f,RelO (fs.lookup f) (mA f)
 | .rng lo hi=>∃ t u v,h.get? a=some { cls:=.type "range",data:=.fields #[.int lo t,.int hi u,.int 1 v] }
 | .frz o u=>h.get? a=some o/\ObjOk H h a u
 | .tbl ps=>h.get? a=some { cls:=.none,data:=.fields ps }
 | .met f x=>h.get? a=some (a1H (.ref f) (.ref x))
 | .ext φ=>φ h/\(∃ o,h.get? a=some o)/\∀ h1 h2:Heap,φ h1->(∀ o,h1.get? a=some o->h2.get? a=some o)->φ h2
noncomputable def HOk (H:Hp)(h:Heap):Prop:=∀ a o,H a=some o->ObjOk P w H h a o
end
section
variable {P:Program}{w:World}{H H':Hp}{h h':Heap}{a:Addr}{o:HO}
theorem ObjOk.lt (x:ObjOk P w H h a o):a < h.objs.size:=by
 cases o with
 | lst xs=>obtain ⟨_,_,_,_,e⟩:=x; exact Heap.lt_size e
 | tup xs=>obtain ⟨_,_,_,p⟩:=x; exact p.lt
 | dK kvs=>obtain ⟨_,_,_,_,o,_,_,e,_⟩:=x; exact Heap.lt_size e
 | dT kvs=>obtain ⟨_,_,_,_,o,_,_,e,_⟩:=x; exact Heap.lt_size e
 | set S n=>obtain ⟨o,_,_,_,e,_⟩:=x; exact Heap.lt_size e
 | ins C dx fs=>obtain ⟨_,_,_,e,_⟩:=x; exact Heap.lt_size e
 | own y=>obtain ⟨_,e⟩:=x; exact Heap.lt_size e
 | xd fs=>obtain ⟨_,⟨_,_,_,e,_⟩,_⟩:=x; exact Heap.lt_size e
 | rng lo hi=>obtain ⟨_,_,_,e⟩:=x; exact Heap.lt_size e
 | frz ob u=>obtain ⟨e,_⟩:=x; exact Heap.lt_size e
 | tbl ps=>exact Heap.lt_size (show h.get? a=some _ from x)
 | met f y=>exact Heap.lt_size (show h.get? a=some _ from x)
 | ext φ=>obtain ⟨_,⟨_,e⟩,_⟩:=x; exact Heap.lt_size e
theorem Paired.mapP {α β:Type}{F G:α->β->Prop}:∀ {l₁:List α} {l₂:List β},Paired F l₁ l₂->(∀ a b,F a b->G a b)->Paired G l₁ l₂
 | _,_,.nil,_=>.nil
 | _,_,.cons r t,f=>.cons (f _ _ r) (Paired.mapP t f)
theorem ObjOk.stay (x:ObjOk P w H h a o)(k:∀ b u,(b=a\/H b=some (.own a))->h.get? b=some u->h'.get? b=some u)
  (ho:∀ b,H b=some (.own a)->H' b=some (.own a)) (ht:∀ b xs,H b=some (.tup xs)->H' b=some (.tup xs)):ObjOk P w H' h' a o:=by
 induction o with
 | lst xs=>obtain ⟨z,its,n,r,e⟩:=x; exact ⟨z,its,n,r,k _ _ (.inl rfl) e⟩
 | tup xs=>obtain ⟨z,its,r,ob,e,c⟩:=x; exact ⟨z,its,r,ob,k _ _ (.inl rfl) e,c⟩
 | dK kvs=>obtain ⟨z,y,vs,r,ob,es,ep,e,c⟩:=x; exact ⟨z,y,vs,r,ob,es,ep,k _ _ (.inl rfl) e,c⟩
 | dT kvs =>
  obtain ⟨z,y,xs,r,ob,es,ep,e,c⟩:=x
  exact ⟨z,y,xs,Paired.mapP r fun p q z=>⟨z.1,ht _ _ z.2.1,z.2.2⟩,ob,es,ep,k _ _ (.inl rfl) e,c⟩
 | set S n=>obtain ⟨ob,es,ep,t,e,c⟩:=x; exact ⟨ob,es,ep,t,k _ _ (.inl rfl) e,c⟩
 | ins C dx fs =>
  obtain ⟨d,z,ne,e,mA,⟨od,es,ep,e2,c⟩,r⟩:=x
  exact ⟨ho _ d,z,ne,k _ _ (.inl rfl) e,mA,⟨od,es,ep,k _ _ (.inr d) e2,c⟩,r⟩
 | own y=>obtain ⟨ob,e⟩:=x; exact ⟨ob,k _ _ (.inl rfl) e⟩
 | xd fs=>obtain ⟨mA,⟨od,es,ep,e,c⟩,r⟩:=x; exact ⟨mA,⟨od,es,ep,k _ _ (.inl rfl) e,c⟩,r⟩
 | rng lo hi=>obtain ⟨t,u,v,e⟩:=x; exact ⟨t,u,v,k _ _ (.inl rfl) e⟩
 | frz ob u ih=>obtain ⟨e,q⟩:=x; exact ⟨k _ _ (.inl rfl) e,ih q⟩
 | tbl ps =>
  have e:h.get? a=some { cls:=.none,data:=.fields ps }:=x
  show h'.get? a=some { cls:=.none,data:=.fields ps }
  exact k a _ (.inl rfl) e
 | met f y =>
  have e:h.get? a=some (a1H (.ref f) (.ref y)):=x
  show h'.get? a=some (a1H (.ref f) (.ref y))
  exact k a _ (.inl rfl) e
 | ext φ=>obtain ⟨p,⟨o,e⟩,st⟩:=x; exact ⟨st _ _ p fun o q=>k _ _ (.inl rfl) q,⟨o,k _ _ (.inl rfl) e⟩,st⟩
theorem HOk.lt (x:HOk P w H h)(e:H a=some o):a < h.objs.size:=(x a o e).lt
theorem HOk.fresh (x:HOk P w H h)(e:h.objs.size<=a):H a=none:=by
 cases q:H a with
 | none=>rfl
 | some u=>exact absurd (a0j (x.lt q) e) (a06 _)
theorem HOk.kept (x:HOk P w H h)(k:∀ b u,h.get? b=some u->h'.get? b=some u):HOk P w H h':=fun a o e =>
 (x a o e).stay (fun b u _ q=>k b u q) (fun _ q=>q) fun _ _ q=>q
theorem HOk.laid (x:HOk P w H h)(k:∀ b u,h.get? b=some u->h'.get? b=some u)(hp:h.objs.size<=a)(new:ObjOk P w (upd H a o) h' a o):HOk P w (upd H a o) h':=fun b u e=>by
 have hn:=x.fresh hp
 by_cases hb:b=a
 ·subst hb; rw [ay] at e; cases e; exact new
 ·rw [ah hb] at e
  exact (x b u e).stay (fun c v _ q=>k c v q) (fun c q=>by rw [ah (aS q hn)]; exact q) fun c xs q=>by rw [ah (aS q hn)]; exact q
end
noncomputable def Rd (H:Hp)(a:Addr)(u:HO):Prop:=H a=some u\/∃ o,H a=some (.frz o u)
theorem Rd.ok {P:Program}{w:World}{H:Hp}{h:Heap}{a:Addr}{u:HO}(r:Rd H a u)(x:HOk P w H h):ObjOk P w H h a u:=by
 rcases r with r | ⟨o,r⟩
 ·exact x a u r
 ·obtain ⟨_,q⟩:=x a _ r
  exact q
noncomputable def Mut:Option HO->Prop
 | some (.lst _)=>True
 | some (.dK _)=>True
 | some (.dT _)=>True
 | some (.set _ _)=>True
 | some (.ins _ _ _)=>True
 | some (.ext _)=>True
 | _=>False
section
variable {P:Program}{w:World}{H:Hp}{h h':Heap}{x e:Addr}{o':HO}
theorem HOk.write (ok:HOk P w H h)(mu:Mut (H x))(he:e=x\/H e=some (.own x))(k:∀ b u,b≠e->h.get? b=some u->h'.get? b=some u)(heo:∃ u,h'.get? e=some u)
  (new:ObjOk P w (upd H x o') h' x o'):HOk P w (upd H x o') h':=fun b u q=>by
 have nown:∀ c y,H c=some (.own y)->c≠x:=fun c y r z=>by subst z; rw [r] at mu; exact mu
 have ntup:∀ c xs,H c=some (.tup xs)->c≠x:=fun c xs r z=>by subst z; rw [r] at mu; exact mu
 by_cases hb:b=x
 ·subst hb; rw [ay] at q; cases q; exact new
 ·rw [ah hb] at q
  by_cases hbe:b=e
  ·have q':H b=some (.own x):=by
    rcases he with z | z
    ·exact absurd (hbe.trans z) hb
    ·rw [hbe]; exact z
   rw [q] at q'; cases q'
   obtain ⟨v,hv⟩:=heo
   exact ⟨v,by rw [hbe]; exact hv⟩
  ·refine (ok b u q).stay (fun c v hc r=>k c v ?_ r) (fun c r=>by rw [ah (nown c b r)]; exact r) fun c xs r=>by rw [ah (ntup c xs r)]; exact r
   rcases hc with rfl | hc
   ·exact hbe
   ·rintro rfl
    rcases he with z | z
    ·exact nown c b hc z
    ·rw [hc] at z; cases z; exact hb rfl
end
structure Un (fs ex:List Addr)(H H':Hp)(h h':Heap):Prop where
 keep:∀ b o,h.get? b=some o->H b=none->b ∉ fs->b ∉ ex->h'.get? b=some o
 slot:∀ b o,h.get? b=some o->H b=none->b∈fs->b ∉ ex->∃ sl,h'.get? b=some { o with slots:=sl }
 free:∀ b o,h.get? b=some o->H b=none->b ∉ ex->H' b=none
 there:∀ b o,h.get? b=some o->b ∉ ex->∃ o',h'.get? b=some o'
 tups:∀ b xs,H b=some (.tup xs)->H' b=some (.tup xs)
 frzs:∀ b o u,H b=some (.frz o u)->H' b=some (.frz o u)
 tbls:∀ b ps,H b=some (.tbl ps)->∃ more,H' b=some (.tbl (ps++more))
section
variable {fs fs' ex ex':List Addr}{H H1 H2:Hp}{h h1 h2 h':Heap}{a x e:Addr}{o:HO}
theorem Un.any (u:Un fs ex H H1 h h1){b:Addr}{ob:Obj}(q:h.get? b=some ob)(n:H b=none)(hx:b ∉ ex):∃ sl,h1.get? b=some { ob with slots:=sl }:=by
 by_cases hb:b∈fs
 ·exact u.slot b ob q n hb hx
 ·exact ⟨ob.slots,u.keep b ob q n hb hx⟩
theorem Un.kept (k:∀ b u,h.get? b=some u->h'.get? b=some u):Un fs ex H H h h' :=
 ⟨fun b ob q _ _ _=>k b ob q,fun b ob q _ _ _=>⟨ob.slots,k b ob q⟩,fun _ _ _ n _=>n,fun b ob q _=>⟨ob,k b ob q⟩,fun _ _ q=>q,fun _ _ _ q=>q,fun _ ps q=>⟨#[],by rw [q]; simp⟩⟩
theorem Un.refl:Un fs ex H H h h:=Un.kept fun _ _ q=>q
theorem Un.laid (k:∀ b u,h.get? b=some u->h'.get? b=some u)(hp:h.objs.size<=a)(hn:H a=none):Un fs ex H (upd H a o) h h' where
 keep:=fun b u q _ _ _=>k b u q
 slot:=fun b u q _ _ _=>⟨u.slots,k b u q⟩
 free:=fun b u q n _=>by rw [ah (a0A (a0j (Heap.lt_size q) hp))]; exact n
 there:=fun b u q _=>⟨u,k b u q⟩
 tups:=fun b xs q=>by rw [ah (aS q hn)]; exact q
 frzs:=fun b u xs q=>by rw [ah (aS q hn)]; exact q
 tbls:=fun b ps q=>⟨#[],by rw [ah (aS q hn),q]; simp⟩
theorem Un.write (mu:Mut (H x))(he:e=x\/H e=some (.own x))(k:∀ b u,b≠e->h.get? b=some u->h'.get? b=some u)(heo:∃ u,h'.get? e=some u):Un fs ex H (upd H x o) h h':=by
 have hx:∀ b,H b=none->b≠x:=fun b n z=>by subst z; rw [n] at mu; exact mu
 have hb:∀ b,H b=none->b≠e:=fun b n z=>by
  subst z
  rcases he with r | r
  ·exact hx b n r
  ·rw [n] at r; cases r
 have hm:∀ b u,H b=some u->¬ Mut (some u)->b≠x:=fun b u q nm z=>by subst z; rw [q] at mu; exact nm mu
 refine ⟨fun b u q n _ _=>k b u (hb b n) q,fun b u q n _ _=>⟨u.slots,k b u (hb b n) q⟩,fun b u q n _=>by rw [ah (hx b n)]; exact n,fun b u q _=>?_,
  fun b xs q=>by rw [ah (hm b _ q fun z=>z)]; exact q,fun b u xs q=>by rw [ah (hm b _ q fun z=>z)]; exact q,fun b ps q=>⟨#[],by rw [ah (hm b _ q fun z=>z),q]; simp⟩⟩
 by_cases hbe:b=e
 ·subst hbe; exact heo
 ·exact ⟨u,k b u hbe q⟩
end
noncomputable def trk (h:Heap)(H:Hp):List Addr:=(a0Y h.objs.size).filter fun a=>(H a).isSome
noncomputable def fG (h:Heap)(H:Hp):Heap:=PySem.W.hideAll h (trk h H)
theorem jR (h:Heap)(H:Hp):(fG h H).objs.size=h.objs.size:=PySem.W.hideAll_size _ _
theorem lB {h:Heap}{H:Hp}{b:Addr}{o:Obj}(e:h.get? b=some o)(n:H b=none):(fG h H).get? b=some o :=
 PySem.W.hideAll_get _ e fun hm=>by
  have q:(H b).isSome=true:=(a2o.mp hm).2
  rw [n] at q; simp at q
theorem pH {h:Heap}{H:Hp}{b:Addr}{o:Obj}(e:(fG h H).get? b=some o):h.get? b=some o/\H b=none:=by
 have e':h.get? b=some o:=PySem.W.of_hideAll (trk h H) e
 refine ⟨e',?_⟩
 cases q:H b with
 | none=>rfl
 | some x =>
  have hm:b∈trk h H:=a2o.mpr ⟨a11.mpr (Heap.lt_size e'),by simp [q]⟩
  have z:(fG h H).get? b=none:=PySem.W.hideAll_none (trk h H) hm
  rw [z] at e; cases e
noncomputable def nK (g h:Heap)(L:Addr):List (Addr×Obj):=(a0Y h.objs.size).filterMap fun a=>if a=L\/(g.get? a).isSome=true then none else (h.get? a).map fun o=>(a,o)
noncomputable def rest (g h:Heap)(L d:Addr):List (Addr×Obj):=(nK g h L).filter fun p=>decide (p.1≠d)
end L2
namespace L2
open PySem PySem.Spec PyProof.Rows
structure Mod (K:a0a)(mg:Str->Option Value)(base:Heap):Prop where
 kin:K.In base
 glob:base.Ns mainGlobals mg
 blt:∃ mb,base.Ns builtinsNs mb/\∀ x:Str,x≠"__name__"->mb x=bootBuiltins x
 nolimit:base.NoLimit
structure Cx where
 prog:Program
 w:World
 K:a0a
 mg:Str->Option Value
 base:Heap
 A:Around
 N:List Str
 s₀:Shared
 H₀:Hp
 env:Env
 outer:List Env
 stack:List Env
 ex:List Addr
 fn:Str->Bool
 calm:Bool
 pn:List (Addr×Obj)
 xe:Value->Shared->Prop
noncomputable def frs (l:List Env):List Addr:=l.filterMap (·.frame)
noncomputable abbrev Cx.fs (X:Cx):List Addr:=frs X.outer
noncomputable def Vis (sc:Scope)(x:Str):Prop:=sc.names.lookup x=some .local\/sc.names.lookup x=some .cell\/sc.names.lookup x=some .free
noncomputable def Loc (sc:Scope)(x:Str):Prop:=sc.names.lookup x=some .local\/sc.names.lookup x=some .cell
noncomputable def y2 (env:Env)(h:Heap)(m:Str->Option Value)(x:Str)(u:Value):Prop :=
 (env.kindOf x=some .local/\m x=some u)\/((env.kindOf x=some .cell\/env.kindOf x=some .free)/\∃ c,env.cells.lookup x=some c/\h.IsCell c (some u))
structure Cx.Ok (X:Cx):Prop where
 mod:Mod X.K X.mg X.base
 kind:X.env.scope.kind=.function
 glob:X.env.globals=mainGlobals
 blt:X.env.builtins=builtinsNs
 above:X.s₀.heap.objs.size<=X.env.locals
 inj:∀ x y c,X.env.cells.lookup x=some c->X.env.cells.lookup y=some c->x=y
 has:∀ x,(X.env.kindOf x=some .cell\/X.env.kindOf x=some .free)->∃ c,X.env.cells.lookup x=some c
 cab:∀ x c,X.fn x=true->X.env.cells.lookup x=some c->X.s₀.heap.objs.size<=c
 hd:X.calm=true->X.A.handled=none
 frames:X.A.frames=some X.stack
 stk:X.stack=X.outer\/(X.stack=X.env::X.outer/\X.env.frame=some X.env.locals)
 exf:∀ b∈X.ex,b≠X.env.locals/\∀ x c,X.env.cells.lookup x=some c->c≠b
 bs:∀ b o,X.base.get? b=some o->X.s₀.heap.get? b=some o/\X.H₀ b=none
 bsz:X.base.objs.size<=X.s₀.heap.objs.size
 noex:∀ b o,X.base.get? b=some o->b ∉ X.ex
 exfs:∀ b∈X.ex,b ∉ X.fs
 funs:X.s₀.heap.FunFrames X.base X.outer
 frf:∀ b∈X.fs,X.H₀ b=none
structure Inv (X:Cx)(pins:List (Addr×Obj))(σ:List (Option V))(H:Hp)(s:Shared):Prop where
 ok:X.Ok
 os:s.os=X.s₀.os
 bare:AllBare s.gens
 base:Un X.fs X.ex X.H₀ H X.s₀.heap s.heap
 loc:∃ m,s.heap.Ns X.env.locals m/\∀ (i:Nat) (x:Str) (v:V),X.N[i]?=some x->σ[i]?=some (some v)->Vis X.env.scope x->∃ u,RelV v u/\y2 X.env s.heap m x u
 cell:∀ x c,X.env.cells.lookup x=some c->∃ v,s.heap.IsCell c v
 free:H X.env.locals=none
 freeC:∀ x c,X.env.cells.lookup x=some c->H c=none
 pin:∀ p∈X.pn++pins,s.heap.get? p.1=some p.2/\H p.1=none/\p.1≠X.env.locals/\p.1 ∉ X.fs/\∀ v,p.2.data≠.cell v
 hok:HOk X.prog X.w H s.heap
 len:σ.length=X.N.length
section
variable {X:Cx}{pins:List (Addr×Obj)}{σ:List (Option V)}{H H':Hp}{s:Shared}{h':Heap}
theorem Cx.Ok.nofr (ok:X.Ok){b:Addr}{o:Obj}(e:X.base.get? b=some o):b ∉ X.fs:=fun hb=>by
 have:=(ok.funs.mem hb).1
 rw [e] at this; cases this
theorem Inv.bs (I:Inv X pins σ H s):∀ b o,X.base.get? b=some o->s.heap.get? b=some o/\H b=none:=fun b o e =>
 ⟨I.base.keep b o (I.ok.bs b o e).1 (I.ok.bs b o e).2 (I.ok.nofr e) (I.ok.noex b o e),I.base.free b o (I.ok.bs b o e).1 (I.ok.bs b o e).2 (I.ok.noex b o e)⟩
theorem Inv.bk (I:Inv X pins σ H s):∀ b o,X.base.get? b=some o->s.heap.get? b=some o:=fun b o e=>(I.bs b o e).1
theorem Inv.mod (I:Inv X pins σ H s):Mod X.K X.mg X.base:=I.ok.mod
theorem Inv.kIn (I:Inv X pins σ H s):X.K.In s.heap:=I.ok.mod.kin.keeps I.bk
theorem Inv.fr (I:Inv X pins σ H s):∃ m,Fr X.base X.env.locals s.heap m :=
 let ⟨m,hn,_⟩:=I.loc
 ⟨m,hn,I.bk,a0r I.ok.bsz I.ok.above⟩
theorem Inv.lt (I:Inv X pins σ H s):X.env.locals < s.heap.objs.size:=let ⟨_,hn,_⟩:=I.loc; hn.lt
theorem Inv.sz (I:Inv X pins σ H s):X.s₀.heap.objs.size<=s.heap.objs.size:=a0r I.ok.above (a1U I.lt)
theorem Inv.nofs (I:Inv X pins σ H s){a:Addr}(h:s.heap.objs.size<=a):a ∉ X.fs:=fun hb=>by
 obtain ⟨_,o,ho,_⟩:=I.ok.funs.mem hb
 exact absurd (a0j (Heap.lt_size ho) (a0r I.sz h)) (a06 _)
theorem Inv.cne (I:Inv X pins σ H s):∀ x c,X.env.cells.lookup x=some c->c≠X.env.locals:=fun x c e z=>by
 obtain ⟨v,o,ho,hd⟩:=I.cell x c e
 obtain ⟨m,⟨o',es,ep,ho',hd',_⟩,_⟩:=I.loc
 rw [z,ho'] at ho; cases ho; rw [hd'] at hd; cases hd
theorem Inv.funs (I:Inv X pins σ H s):s.heap.FunFrames X.base X.outer:=by
 have all:∀ (l:List Env),(∀ b∈frs l,b∈X.fs)->X.s₀.heap.FunFrames X.base l->s.heap.FunFrames X.base l:=by
  intro l
  induction l with
  | nil=>intro _ _; trivial
  | cons env r ih =>
   intro hs hl
   obtain ⟨hk,⟨L,o,hf,hn,ho,hd⟩,hr⟩:=hl
   have hL:L∈X.fs:=hs L (by unfold frs; rw [a0N,hf]; exact a0o)
   obtain ⟨sl,e⟩:=I.base.slot L o ho (I.ok.frf L hL) hL fun z=>I.ok.exfs L z hL
   exact ⟨hk,⟨L,_,hf,hn,e,hd⟩,ih (fun b hb=>hs b (by unfold frs; rw [a0N,hf]; exact a0n _ hb)) hr⟩
 exact all X.outer (fun _ hb=>hb) I.ok.funs
theorem Inv.stack (I:Inv X pins σ H s):s.heap.FunFrames X.base X.stack:=by
 rcases I.ok.stk with e | ⟨e,hf⟩
 ·rw [e]; exact I.funs
 ·rw [e]
  obtain ⟨m,hn,_⟩:=I.loc
  refine .cons (by rw [I.ok.kind]; decide) hf hn ?_ I.funs
  exact Heap.get?_none_of_le (a0r I.ok.bsz I.ok.above)
theorem Inv.stkSub (I:Inv X pins σ H s):∀ b∈frs X.stack,b∈X.env.locals::X.fs:=fun b hb=>by
 rcases I.ok.stk with e | ⟨e,hf⟩
 ·rw [e] at hb; exact a0n _ hb
 ·rw [e] at hb
  unfold frs at hb
  rw [a0N,hf] at hb
  exact hb
theorem Inv.stkFree (I:Inv X pins σ H s):∀ b∈frs X.stack,H b=none:=fun b hb=>by
 rcases a0E.mp (I.stkSub b hb) with e | hb
 ·rw [e]; exact I.free
 ·obtain ⟨_,o,ho,_⟩:=I.ok.funs.mem hb
  exact I.base.free b o ho (I.ok.frf b hb) fun z=>I.ok.exfs b z hb
theorem Inv.step {g':Array GenState}{t':Nat}{d':Drawn}{ch:List Addr}(I:Inv X pins σ H s)
  (hch:∀ b∈ch,(b∈X.ex\/X.s₀.heap.objs.size<=b)/\b≠X.env.locals/\(∀ x c,X.env.cells.lookup x=some c->c≠b)/\∀ p∈X.pn++pins,p.1≠b)
  (keep:∀ b o,b≠X.env.locals->b ∉ X.fs->b ∉ ch->s.heap.get? b=some o->H b=none->h'.get? b=some o)
  (slot:∀ b o,b≠X.env.locals->b∈X.fs->b ∉ ch->s.heap.get? b=some o->H b=none->∃ sl,h'.get? b=some { o with slots:=sl }) (free:∀ b o,b ∉ ch->s.heap.get? b=some o->H b=none->H' b=none)
  (there:∀ b o,b ∉ ch->s.heap.get? b=some o->∃ o',h'.get? b=some o')
  (tups:∀ b xs,H b=some (.tup xs)->H' b=some (.tup xs)) (frzs:∀ b o u,H b=some (.frz o u)->H' b=some (.frz o u)) (tbls:∀ b ps,H b=some (.tbl ps)->∃ more,H' b=some (.tbl (ps++more)))
  (ns:∀ m,s.heap.Ns X.env.locals m->h'.Ns X.env.locals m) (hok:HOk X.prog X.w H' h') (hg:AllBare g') :
  Inv X pins σ H' { s with heap:=h',gens:=g',drawn:=d',toks:=t' }:=by
 have neL:∀ b o,X.s₀.heap.get? b=some o->b≠X.env.locals:=fun b o e=>a0A (a0j (Heap.lt_size e) I.ok.above)
 have neC:∀ b o,X.s₀.heap.get? b=some o->b ∉ X.ex->b ∉ ch:=fun b o e hx hb=>by
  rcases (hch b hb).1 with z | z
  ·exact hx z
  ·exact absurd (a0j (Heap.lt_size e) z) (a06 _)
 have cellK:∀ x c,X.env.cells.lookup x=some c->∀ v,s.heap.IsCell c v->h'.IsCell c v:=fun x c e v ⟨o,ho,hd⟩=>by
  have nch:c ∉ ch:=fun z=>(hch c z).2.2.1 x c e rfl
  by_cases hc:c∈X.fs
  ·obtain ⟨sl,q⟩:=slot c o (I.cne x c e) hc nch ho (I.freeC x c e)
   exact ⟨_,q,hd⟩
  ·exact ⟨o,keep c o (I.cne x c e) hc nch ho (I.freeC x c e),hd⟩
 refine ⟨I.ok,I.os,hg,⟨fun b o e n hb hx=>?_,fun b o e n hb hx=>?_,fun b o e n hx=>?_,fun b o e hx=>?_,fun b xs e=>tups b xs (I.base.tups b xs e),fun b o xs e=>frzs b o xs (I.base.frzs b o xs e),fun b ps e=>?_⟩,?_,fun x c e=>?_,?_,fun x c e=>?_,fun p hp=>?_,hok,I.len⟩
 ·exact keep b o (neL b o e) hb (neC b o e hx) (I.base.keep b o e n hb hx) (I.base.free b o e n hx)
 ·obtain ⟨sl,e1⟩:=I.base.slot b o e n hb hx
  obtain ⟨sl',e2⟩:=slot b _ (neL b o e) hb (neC b o e hx) e1 (I.base.free b o e n hx)
  exact ⟨sl',e2⟩
 ·obtain ⟨o',e1⟩:=I.base.there b o e hx
  exact free b o' (neC b o e hx) e1 (I.base.free b o e n hx)
 ·obtain ⟨o',e1⟩:=I.base.there b o e hx
  exact there b o' (neC b o e hx) e1
 ·obtain ⟨m1,e1⟩:=I.base.tbls b ps e
  obtain ⟨m2,e2⟩:=tbls b _ e1
  exact ⟨m1++m2,by rw [e2,Array.append_assoc]⟩
 ·obtain ⟨m,hn,hl⟩:=I.loc
  refine ⟨m,ns m hn,fun i x v e1 e2 e3=>?_⟩
  obtain ⟨u,r,l⟩:=hl i x v e1 e2 e3
  refine ⟨u,r,?_⟩
  rcases l with l | ⟨k,c,e,z⟩
  ·exact .inl l
  ·exact .inr ⟨k,c,e,cellK x c e _ z⟩
 ·obtain ⟨v,z⟩:=I.cell x c e
  exact ⟨v,cellK x c e v z⟩
 ·obtain ⟨m,⟨o,_,_,ho,_⟩,_⟩:=I.loc
  exact free _ o (fun z=>(hch _ z).2.1 rfl) ho I.free
 ·obtain ⟨v,o,ho,hd⟩:=I.cell x c e
  exact free c o (fun z=>(hch c z).2.2.1 x c e rfl) ho (I.freeC x c e)
 ·obtain ⟨e,n,ne,nf,d⟩:=I.pin p hp
  have nch:p.1 ∉ ch:=fun z=>(hch p.1 z).2.2.2 p hp rfl
  exact ⟨keep p.1 p.2 ne nf nch e n,free p.1 p.2 nch e n,ne,nf,d⟩
theorem Inv.un {t':Nat}(I:Inv X pins σ H s)(u:Un X.fs [] H H' s.heap h')(hok:HOk X.prog X.w H' h'):Inv X pins σ H' { s with heap:=h',toks:=t' }:=by
 obtain ⟨m,⟨o,es,ep,ho,r⟩,_⟩:=id I.loc
 obtain ⟨sl,hL⟩:=u.any ho I.free (by simp)
 exact I.step (g':=s.gens) (d':=s.drawn) (ch:=[]) (fun _ z=>nomatch z) (fun b o _ hb _ e n=>u.keep b o e n hb (by simp)) (fun b o _ hb _ e n=>u.slot b o e n hb (by simp)) (fun b o _ e n=>u.free b o e n (by simp)) (fun b o _ e=>u.there b o e (by simp)) u.tups u.frzs u.tbls (fun m' hm=>by
  obtain ⟨o',es',ep',ho',r'⟩:=hm
  rw [ho] at ho'; cases ho'
  exact ⟨_,es',ep',hL,r'⟩) hok I.bare
theorem Inv.call {g':Array GenState}{t':Nat}{d':Drawn}{ch:List Addr}(I:Inv X pins σ H s)(u:Un (frs X.stack) ch H H' s.heap h')(hok:HOk X.prog X.w H' h')(hg:AllBare g')
  (hch:∀ b∈ch,(b∈X.ex\/X.s₀.heap.objs.size<=b)/\b≠X.env.locals/\(∀ x c,X.env.cells.lookup x=some c->c≠b)/\∀ p∈X.pn++pins,p.1≠b) :
  Inv X pins σ H' { s with heap:=h',gens:=g',drawn:=d',toks:=t' }:=by
 obtain ⟨m,⟨o,es,ep,ho,r⟩,_⟩:=id I.loc
 obtain ⟨sl,hL⟩:=u.any ho I.free fun z=>(hch _ z).2.1 rfl
 exact I.step (ch:=ch) hch (fun b o hL hb hc e n=>u.keep b o e n (fun z=>(a0E.mp (I.stkSub b z)).elim hL hb) hc) (fun b o _ _ hc e n=>u.any e n hc) (fun b o hc e n=>u.free b o e n hc) (fun b o hc e=>u.there b o e hc) u.tups u.frzs u.tbls (fun m' hm=>by
  obtain ⟨o',es',ep',ho',r'⟩:=hm
  rw [ho] at ho'; cases ho'
  exact ⟨_,es',ep',hL,r'⟩) hok hg
theorem Inv.turned {t':Nat}{it:Addr}(I:Inv X pins σ H s)(k:∀ b o,b≠it->s.heap.get? b=some o->h'.get? b=some o)(hn:H it=none)(hL:it≠X.env.locals)
  (h1:it∈X.ex\/X.s₀.heap.objs.size<=it) (h2:∀ x c,X.env.cells.lookup x=some c->c≠it) (h3:∀ p∈X.pn++pins,p.1≠it):Inv X pins σ H { s with heap:=h',toks:=t' }:=by
 have nit:∀ b u,H b=some u->b≠it:=fun b u e z=>by rw [z,hn] at e; cases e
 refine I.step (g':=s.gens) (d':=s.drawn) (ch:=[it]) (fun b hb=>?_) (fun b o _ _ hc e _=>k b o (fun z=>hc (by simp [z])) e) (fun b o _ _ hc e _=>⟨o.slots,k b o (fun z=>hc (by simp [z])) e⟩) (fun _ _ _ _ n=>n)
  (fun b o hc e=>⟨o,k b o (fun z=>hc (by simp [z])) e⟩) (fun _ _ e=>e) (fun _ _ _ e=>e) (fun b ps e=>⟨#[],by rw [e]; simp⟩) (fun m hm=>?_) (fun b u e=>?_) I.bare
 ·have e:b=it:=by simpa using hb
  subst e
  exact ⟨h1,hL,h2,h3⟩
 ·obtain ⟨o,es,ep,ho,r⟩:=hm
  exact ⟨o,es,ep,k _ o (a13 hL) ho,r⟩
 ·refine (I.hok b u e).stay (fun c v hc q=>k c v ?_ q) (fun _ q=>q) fun _ _ q=>q
  rcases hc with z | z
  ·rw [z]; exact nit b u e
  ·exact nit c _ z
theorem Inv.tok (I:Inv X pins σ H s)(t:Nat):Inv X pins σ H { s with toks:=t }:=I.un (h':=s.heap) (t':=t) Un.refl I.hok
theorem Inv.kept {t':Nat}(I:Inv X pins σ H s)(k:∀ b u,s.heap.get? b=some u->h'.get? b=some u):Inv X pins σ H { s with heap:=h',toks:=t' }:=I.un (Un.kept k) (I.hok.kept k)
theorem Inv.laid {a:Addr}{o:HO}{t':Nat}(I:Inv X pins σ H s)(k:∀ b u,s.heap.get? b=some u->h'.get? b=some u)(hp:s.heap.objs.size<=a)(new:ObjOk X.prog X.w (upd H a o) h' a o) :
  Inv X pins σ (upd H a o) { s with heap:=h',toks:=t' }:=I.un (Un.laid k hp (I.hok.fresh hp)) (I.hok.laid k hp new)
theorem Inv.write {x e:Addr}{o:HO}{t':Nat}(I:Inv X pins σ H s)(mu:Mut (H x))(he:e=x\/H e=some (.own x))(k:∀ b u,b≠e->s.heap.get? b=some u->h'.get? b=some u)(heo:∃ u,h'.get? e=some u)
  (new:ObjOk X.prog X.w (upd H x o) h' x o):Inv X pins σ (upd H x o) { s with heap:=h',toks:=t' }:=I.un (Un.write mu he k heo) (I.hok.write mu he k heo new)
theorem Inv.weak {σ':List (Option V)}(I:Inv X pins σ H s)(hl:σ'.length=σ.length)(w:∀ (i:Nat) v,σ'[i]?=some (some v)->σ[i]?=some (some v)):Inv X pins σ' H s :=
 ⟨I.ok,I.os,I.bare,I.base,let ⟨m,hn,hl'⟩:=I.loc; ⟨m,hn,fun i x v e1 e2 e3=>hl' i x v e1 (w i v e2) e3⟩,I.cell,I.free,I.freeC,I.pin,I.hok,hl.trans I.len⟩
theorem Inv.pins_of {pins':List (Addr×Obj)}(I:Inv X pins σ H s)(h:∀ p∈pins',s.heap.get? p.1=some p.2/\H p.1=none/\p.1≠X.env.locals/\p.1 ∉ X.fs/\∀ v,p.2.data≠.cell v):Inv X pins' σ H s :=
 ⟨I.ok,I.os,I.bare,I.base,I.loc,I.cell,I.free,I.freeC,fun p hp=>(a0W.mp hp).elim (fun z=>I.pin p (a0V _ z)) (h p),I.hok,I.len⟩
theorem gw {N:List Str}(hN:N.Nodup){i j:Nat}{x:Str}(a:N[i]?=some x)(b:N[j]?=some x):i=j:=by
 obtain ⟨h1,e1⟩:=a0p.mp a
 obtain ⟨h2,e2⟩:=a0p.mp b
 exact (List.getElem_inj hN).mp (e1.trans e2.symm)
theorem jY {M:Model}{A:Around}{E:Value->Shared->Prop}{i:Nat}{x:Str}{v:V}{u:Value}{Q:Unit->Shared->Prop}(I:Inv X pins σ H s)(hN:X.N.Nodup)(hi:X.N[i]?=some x)(hx:Loc X.env.scope x)(r:RelV v u)
  (h:∀ s',Inv X pins (σ.set i (some v)) H s'->(∃ a,Heap.SameBut a s.heap s'.heap/\(a=X.env.locals\/X.env.cells.lookup x=some a))->Q () s') (hf:X.fn x=true\/X.env.scope.names.lookup x=some .local:=by first | exact .inl rfl | exact .inr rfl | assumption):wpAny M A (storeName X.env x u) Q E s:=by
 obtain ⟨m,hn,hl⟩:=id I.loc
 have hcls:(X.env.scope.kind==.class || (X.env.scope.kind==.module&&X.env.locals != X.env.globals))=false:=by rw [I.ok.kind]; rfl
 have hiσ:i < σ.length:=by rw [I.len]; exact (a0p.mp hi).1
 have cne:=I.cne
 have tracked:∀ {a:Addr} {h':Heap},(∃ o,s.heap.get? a=some o/\H a=none)->Heap.SameBut a s.heap h'->HOk X.prog X.w H h':=fun {a h'} ha hs b ob e=>by
  obtain ⟨_,_,hfree⟩:=ha
  refine (I.hok b ob e).stay (fun c w' hc q=>(hs.2 c ?_).trans q) (fun _ q=>q) fun _ _ q=>q
  rintro rfl
  rcases hc with rfl | hc
  ·rw [hfree] at e; cases e
  ·rw [hfree] at hc; cases hc
 rcases hx with hk | hk
 ·refine wpAny_storeName_local hk hn (fun h' hn' hs=>?_) hcls
  obtain ⟨oL,_,_,hoL,_⟩:=id hn
  refine h _ ⟨I.ok,I.os,I.bare,⟨fun b o e n hb hx=>?_,fun b o e n hb hx=>?_,I.base.free,fun b o e hx=>?_,I.base.tups,I.base.frzs,I.base.tbls⟩,⟨_,hn',fun j y v' e1 e2 e3=>?_⟩,fun y c e=>?_,I.free,I.freeC,fun p hp=>?_,tracked ⟨oL,hoL,I.free⟩ hs,by simpa using I.len⟩ ⟨_,hs,.inl rfl⟩
  ·exact (hs.2 b (a0A (a0j (Heap.lt_size e) I.ok.above))).trans (I.base.keep b o e n hb hx)
  ·obtain ⟨sl,e1⟩:=I.base.slot b o e n hb hx
   exact ⟨sl,(hs.2 b (a0A (a0j (Heap.lt_size e) I.ok.above))).trans e1⟩
  ·obtain ⟨o',e1⟩:=I.base.there b o e hx
   exact ⟨o',(hs.2 b (a0A (a0j (Heap.lt_size e) I.ok.above))).trans e1⟩
  ·by_cases hj:j=i
   ·subst hj
    rw [hi] at e1; cases e1
    rw [a1r hiσ] at e2
    cases e2
    exact ⟨u,r,.inl ⟨hk,by simp⟩⟩
   ·rw [a1g (a13 hj)] at e2
    obtain ⟨u',r',q⟩:=hl j y v' e1 e2 e3
    refine ⟨u',r',?_⟩
    rcases q with ⟨k,e⟩ | ⟨k,c,e,z⟩
    ·refine .inl ⟨k,?_⟩
     have:y≠x:=fun e=>hj (gw hN e1 (e ▸ hi))
     simp [this,e]
    ·exact .inr ⟨k,c,e,z.sameBut hs (cne y c e)⟩
  ·obtain ⟨w',z⟩:=I.cell y c e
   exact ⟨w',z.sameBut hs (cne y c e)⟩
  ·obtain ⟨e,n,ne,nf,d⟩:=I.pin p hp
   exact ⟨(hs.2 p.1 ne).trans e,n,ne,nf,d⟩
 ·have hfn:X.fn x=true:=by
   rcases hf with z | z
   ·exact z
   ·rw [z] at hk; cases hk
  obtain ⟨c,hc⟩:=I.ok.has x (.inl hk)
  obtain ⟨w',z⟩:=I.cell x c hc
  refine wpAny_storeName_cell I.ok.kind hk hc z (fun h' hc' hs=>?_)
  obtain ⟨oc,hoc,hocd⟩:=id z
  refine h { s with heap:=h' } ⟨I.ok,I.os,I.bare,⟨fun b o e n hb hx=>?_,fun b o e n hb hx=>?_,I.base.free,fun b o e hx=>?_,I.base.tups,I.base.frzs,I.base.tbls⟩,⟨m,hn.sameBut hs (a13 (cne x c hc)),fun j y v' e1 e2 e3=>?_⟩,fun y c' e=>?_,I.free,I.freeC,fun p hp=>?_,tracked ⟨oc,hoc,I.freeC x c hc⟩ hs,by simpa using I.len⟩ ⟨c,hs,.inr hc⟩
  ·exact (hs.2 b (a0A (a0j (Heap.lt_size e) (I.ok.cab x c hfn hc)))).trans (I.base.keep b o e n hb hx)
  ·obtain ⟨sl,e1⟩:=I.base.slot b o e n hb hx
   exact ⟨sl,(hs.2 b (a0A (a0j (Heap.lt_size e) (I.ok.cab x c hfn hc)))).trans e1⟩
  ·obtain ⟨o',e1⟩:=I.base.there b o e hx
   exact ⟨o',(hs.2 b (a0A (a0j (Heap.lt_size e) (I.ok.cab x c hfn hc)))).trans e1⟩
  ·by_cases hj:j=i
   ·subst hj
    rw [hi] at e1; cases e1
    rw [a1r hiσ] at e2
    cases e2
    exact ⟨u,r,.inr ⟨.inl hk,c,hc,hc'⟩⟩
   ·rw [a1g (a13 hj)] at e2
    obtain ⟨u',r',q⟩:=hl j y v' e1 e2 e3
    refine ⟨u',r',?_⟩
    rcases q with q | ⟨k,c',e,z'⟩
    ·exact .inl q
    ·refine .inr ⟨k,c',e,z'.sameBut hs ?_⟩
     rintro rfl
     exact hj (gw hN e1 (I.ok.inj _ _ _ e hc ▸ hi))
  ·by_cases hcc:c'=c
   ·subst hcc; exact ⟨_,hc'⟩
   ·obtain ⟨w2,z2⟩:=I.cell y c' e
    exact ⟨w2,z2.sameBut hs hcc⟩
  ·obtain ⟨e,n,ne,nf,d⟩:=I.pin p hp
   refine ⟨(hs.2 p.1 ?_).trans e,n,ne,nf,d⟩
   intro q
   rw [q,hoc] at e
   have q':oc=p.2:=a0s e
   exact d w' (by rw [<- q']; exact hocd)
theorem fX {M:Model}{A:Around}{E:Value->Shared->Prop}{i:Nat}{x:Str}{v:V}{u:Value}{Q:Unit->Shared->Prop}(I:Inv X pins σ H s)(hN:X.N.Nodup)(hi:X.N[i]?=some x)(hx:Loc X.env.scope x)(r:RelV v u)
  (h:∀ s',Inv X pins (σ.set i (some v)) H s'->Q () s') (hf:X.fn x=true\/X.env.scope.names.lookup x=some .local:=by first | exact .inl rfl | exact .inr rfl | assumption):wpAny M A (storeName X.env x u) Q E s :=
 jY I hN hi hx r (fun s' I' _=>h s' I') hf
theorem Inv.call' {s':Shared}{ch:List Addr}(I:Inv X pins σ H s)(ho:s'.os=s.os)(u:Un (frs X.stack) ch H H' s.heap s'.heap)(hok:HOk X.prog X.w H' s'.heap)(hg:AllBare s'.gens)
  (hch:∀ b∈ch,(b∈X.ex\/X.s₀.heap.objs.size<=b)/\b≠X.env.locals/\(∀ x c,X.env.cells.lookup x=some c->c≠b)/\∀ p∈X.pn++pins,p.1≠b):Inv X pins σ H' s':=by
 obtain ⟨h',g',d',t',o'⟩:=s'
 have e:o'=s.os:=ho
 subst e
 exact I.call (g':=g') (t':=t') (d':=d') u hok hg hch
end
noncomputable abbrev XK:=Value->Option Addr->Hp->Prop
noncomputable abbrev St:=List (Option V)
noncomputable abbrev VK:=V->Hp->Prop
noncomputable abbrev TE:=St->Hp->VK->Prop
noncomputable abbrev TT:=St->Hp->(Bool->Hp->Prop)->Prop
noncomputable abbrev TA:=St->Hp->(List V->Hp->Prop)->Prop
structure b9 where
 nx:St->Hp->Prop
 rt:VK
 bk:St->Hp->Prop:=fun _ _=>False
 ct:St->Hp->Prop:=fun _ _=>False
noncomputable abbrev TS:=b9->St->Hp->Prop
noncomputable def EP (X:Cx)(pins:List (Addr×Obj))(σ:St)(Q:VK)(u:Value)(s':Shared):Prop:=∃ v H',Inv X pins σ H' s'/\RelV v u/\Q v H'
noncomputable def TP (X:Cx)(pins:List (Addr×Obj))(σ:St)(Q:Bool->Hp->Prop)(b:Bool)(s':Shared):Prop:=∃ H',Inv X pins σ H' s'/\Q b H'
noncomputable def AP (X:Cx)(pins:List (Addr×Obj))(σ:St)(Q:List V->Hp->Prop)(us:List Value)(s':Shared):Prop:=∃ vs H',Inv X pins σ H' s'/\Vals vs us/\Q vs H'
noncomputable def SP (X:Cx)(pins:List (Addr×Obj))(D:b9)(f:Flow)(s':Shared):Prop :=
 match f with
 | .next=>∃ σ' H',Inv X pins σ' H' s'/\D.nx σ' H'
 | .brk=>∃ σ' H',Inv X pins σ' H' s'/\D.bk σ' H'
 | .cont=>∃ σ' H',Inv X pins σ' H' s'/\D.ct σ' H'
 | .ret u=>∃ v σ' H',Inv X pins σ' H' s'/\RelV v u/\D.rt v H'
noncomputable def PE (X:Cx)(e:Expr)(t:TE):Prop :=
 ∀ (pins:List (Addr×Obj)) (s:Shared) (σ:St) (H:Hp) (Q:VK),Inv X pins σ H s->t σ H Q->wpAny (model X.prog X.w) X.A (eval e X.env) (EP X pins σ Q) X.xe s
noncomputable def PT (X:Cx)(e:Expr)(t:TT):Prop :=
 ∀ (pins:List (Addr×Obj)) (s:Shared) (σ:St) (H:Hp) (Q:Bool->Hp->Prop),Inv X pins σ H s->t σ H Q->wpAny (model X.prog X.w) X.A (isTrue e X.env (eval e X.env)) (TP X pins σ Q) X.xe s
noncomputable def PW (X:Cx)(e:Expr)(t:TT):Prop :=
 ∀ (whole:Sem Value) (pins:List (Addr×Obj)) (s:Shared) (σ:St) (H:Hp) (Q:Bool->Hp->Prop),Inv X pins σ H s->t σ H Q->wpAny (model X.prog X.w) X.A (isTrue e X.env whole) (TP X pins σ Q) X.xe s
theorem PW.pt {X:Cx}{e:Expr}{t:TT}(h:PW X e t):PT X e t:=h _
noncomputable def PA (X:Cx)(es:List Expr)(t:TA):Prop :=
 ∀ (pos:Pos) (pins:List (Addr×Obj)) (s:Shared) (σ:St) (H:Hp) (Q:List V->Hp->Prop),Inv X pins σ H s->t σ H Q->wpAny (model X.prog X.w) X.A (spliced (backTo pos (starEach es X.env))) (AP X pins σ Q) X.xe s
noncomputable def PS (X:Cx)(st:Stmt)(t:TS):Prop :=
 ∀ (pins:List (Addr×Obj)) (s:Shared) (σ:St) (H:Hp) (D:b9),Inv X pins σ H s->t D σ H->wpAny (model X.prog X.w) X.A (exec st X.env) (SP X pins D) X.xe s
noncomputable def PSs (X:Cx)(st:List Stmt)(t:TS):Prop :=
 ∀ (pins:List (Addr×Obj)) (s:Shared) (σ:St) (H:Hp) (D:b9),Inv X pins σ H s->t D σ H->wpAny (model X.prog X.w) X.A (execs st X.env) (SP X pins D) X.xe s
theorem thn {α:Type}{t:Sem α}{Q Q':α->Shared->Prop}{M:Model}{A:Around}{E:Value->Shared->Prop}{s:Shared}(h:wpAny M A t Q E s)(hQ:∀ a s,Q a s->Q' a s):wpAny M A t Q' E s:=wpAny_mono h hQ fun _ _ x=>x
end L2
namespace L2
open PySem PySem.Spec PyProof.Rows
section
variable {X:Cx}
noncomputable def k9 (i:Nat):TE:=fun σ H Q=>∃ v,σ[i]?=some (some v)/\Q v H
noncomputable def tC (v:V):TE:=fun _ H Q=>Q v H
theorem cR {i:Nat}{x:Str}{pos:Pos}(hN:X.N[i]?=some x)(hv:Vis X.env.scope x)(hd:(x==("__debug__":Str))=false:=by decide)(hcd:(x==("__classdict__":Str))=false:=by decide):PE X (.Name x pos) (k9 i):=by
 intro pins s σ H Q I h
 obtain ⟨v,e,h⟩:=h
 obtain ⟨m,hn,hl⟩:=I.loc
 obtain ⟨u,r,l⟩:=hl i x v hN e hv
 have fin:EP X pins σ Q u s:=⟨v,H,I,r,h⟩
 rcases l with ⟨hk,hm⟩ | ⟨hk,c,hc,hcell⟩
 ·exact wpAny_Name (wpAny_loadName_local I.ok.kind hk hn hm fin) hd
 ·rcases hk with hk | hk
  ·exact wpAny_Name (wpAny_loadName_cell I.ok.kind hk hc hcell fin) hd
  ·exact wpAny_Name (wpAny_loadName_free I.ok.kind hk hc hcell fin hcd) hd
theorem dB {i j pos}:PE X (.Constant (.int i) j pos) (tC (.int i)):=fun _ _ _ H _ I h=>wpAny_Constant_int ⟨.int i,H,I.tok _,⟨_,rfl⟩,h⟩
theorem x6 {b j pos}:PE X (.Constant (.bool b) j pos) (tC (.bl b)):=fun _ _ _ H _ I h=>Constant_bool ⟨.bl b,H,I,rfl,h⟩
theorem r8 {j pos}:PE X (.Constant .none j pos) (tC .non):=fun _ _ _ H _ I h=>Constant_none ⟨.non,H,I,rfl,h⟩
theorem d5 {x j pos}:PE X (.Constant (.str x) j pos) (tC (.str x)):=fun _ _ _ H _ I h=>Calls.Constant_str ⟨.str x,H,I.tok _,⟨_,rfl⟩,h⟩
noncomputable def Gl (X:Cx)(x:Str):Prop:=X.env.kindOf x=some .globalImplicit
theorem i9 {E:Value->Shared->Prop}{pins:List (Addr×Obj)}{s:Shared}{σ:St}{H:Hp}{x:Str}{u:Value}{pos:Pos}{Q:Value->Shared->Prop}(I:Inv X pins σ H s)(hg:Gl X x)(hm:X.mg x=some u)(h:Q u s)
  (hd:(x==("__debug__":Str))=false:=by decide):wpAny (model X.prog X.w) X.A (eval (.Name x pos) X.env) Q E s :=
 Calls.Name_function_global I.ok.kind hg (Calls.loadGlobal_global (by rw [I.ok.glob]; exact I.mod.glob.keeps I.bk) hm h) hd
theorem fu {E:Value->Shared->Prop}{pins:List (Addr×Obj)}{s:Shared}{σ:St}{H:Hp}{x:Str}{u:Value}{pos:Pos}{Q:Value->Shared->Prop}(I:Inv X pins σ H s)(hg:Gl X x)(hm:X.mg x=none)(hv:bootBuiltins x=some u)(h:Q u s)
  (hn:x≠"__name__":=by decide) (hd:(x==("__debug__":Str))=false:=by decide):wpAny (model X.prog X.w) X.A (eval (.Name x pos) X.env) Q E s:=by
 obtain ⟨mb,h1,h2⟩:=I.mod.blt
 exact Calls.Name_function_global I.ok.kind hg (Calls.loadGlobal_builtin (by rw [I.ok.glob]; exact I.mod.glob.keeps I.bk) hm (by rw [I.ok.blt]; exact h1.keeps I.bk) ((h2 x hn).trans hv) h) hd
theorem jf {x:Str}{v:V}{u:Value}{pos:Pos}(hg:Gl X x)(hm:X.mg x=some u)(r:RelV v u)(hd:(x==("__debug__":Str))=false:=by decide):PE X (.Name x pos) (tC v) :=
 fun _ _ _ H _ I h=>i9 I hg hm ⟨v,H,I,r,h⟩ hd
theorem pZ {x:Str}{v:V}{u:Value}{pos:Pos}(hg:Gl X x)(hm:X.mg x=none)(hv:bootBuiltins x=some u)(r:RelV v u)(hn:x≠"__name__":=by decide)(hd:(x==("__debug__":Str))=false:=by decide):PE X (.Name x pos) (tC v) :=
 fun _ _ _ H _ I h=>fu I hg hm hv ⟨v,H,I,r,h⟩ hn hd
variable {a b:Expr}{ta tb:TE}{pos:Pos}
noncomputable def PC (X:Cx)(op:CmpOp)(a b:Expr)(t:TE):Prop :=
 ∀ (pins:List (Addr×Obj)) (s:Shared) (σ:St) (H:Hp) (Q:VK),Inv X pins σ H s->t σ H Q ->
  wpAny (model X.prog X.w) X.A (eval a X.env) (fun v s₁=>wpAny (model X.prog X.w) X.A (eval b X.env) (fun u s₂=>wpAny (model X.prog X.w) X.A (compareOp op v u) (EP X pins σ Q) X.xe s₂) X.xe s₁) X.xe s
noncomputable def tB (t:TE):TT:=fun σ H Q=>t σ H fun x H1=>∃ c,x=.bl c/\Q c H1
variable {tA tB':TT}{rest:List Expr}
noncomputable def xF (t u:TT):TT:=fun σ H Q=>t σ H fun c H1=>if c=true then u σ H1 Q else Q false H1
noncomputable def tOr (t u:TT):TT:=fun σ H Q=>t σ H fun c H1=>if c=true then Q true H1 else u σ H1 Q
noncomputable def xQ (t:TT):TT:=fun σ H Q=>t σ H fun c H1=>Q (!c) H1
theorem pO (ha:PT X a tA):PW X (.BoolOp .And [a] pos) tA:=by
 intro wh pins s σ H Q I h
 refine isTrue_and (thn (ha pins s σ H Q I h) fun c s1 e=>?_)
 cases c with
 | true=>exact isTrue_and_nil e
 | false=>exact e
theorem t5 (ha:PT X a tA):PW X (.BoolOp .Or [a] pos) tA:=by
 intro wh pins s σ H Q I h
 refine isTrue_or (thn (ha pins s σ H Q I h) fun c s1 e=>?_)
 cases c with
 | false=>exact isTrue_or_nil e
 | true=>exact e
theorem rK (ha:PT X a tA)(hb:PW X (.BoolOp .And (b::rest) pos) tB'):PW X (.BoolOp .And (a::b::rest) pos) (xF tA tB'):=by
 intro wh pins s σ H Q I h
 refine isTrue_and (thn (ha pins s σ H _ I h) fun c s1 ⟨H1,I1,q1⟩=>?_)
 cases c with
 | true=>exact hb wh pins s1 σ H1 Q I1 q1
 | false=>exact ⟨H1,I1,q1⟩
theorem v5 (ha:PT X a tA)(hb:PW X (.BoolOp .Or (b::rest) pos) tB'):PW X (.BoolOp .Or (a::b::rest) pos) (tOr tA tB'):=by
 intro wh pins s σ H Q I h
 refine isTrue_or (thn (ha pins s σ H _ I h) fun c s1 ⟨H1,I1,q1⟩=>?_)
 cases c with
 | true=>exact ⟨H1,I1,q1⟩
 | false=>exact hb wh pins s1 σ H1 Q I1 q1
theorem uK (ha:PT X a tA):PT X (.UnaryOp .Not a pos) (xQ tA):=by
 intro pins s σ H Q I h
 exact isTrue_not (ha pins s σ H (fun c H1=>Q (!c) H1) I h)
theorem vK {op}{t:TE}(h:PE X a t):PE X (.BoolOp op [a] pos) t:=fun pins s σ H Q I hw=>BoolOp_one (h pins s σ H Q I hw)
noncomputable def tIf (t:TT)(ta tb:TE):TE:=fun σ H Q=>t σ H fun c H1=>if c=true then ta σ H1 Q else tb σ H1 Q
theorem nu {c:Expr}(hc:PT X c tA)(ha:PE X a ta)(hb:PE X b tb):PE X (.IfExp c a b pos) (tIf tA ta tb):=by
 intro pins s σ H Q I h
 refine wpAny_IfExp (thn (hc pins s σ H _ I h) fun d s1 ⟨H1,I1,q1⟩=>?_)
 cases d with
 | true=>exact ha pins s1 σ H1 Q I1 q1
 | false=>exact hb pins s1 σ H1 Q I1 q1
end
end L2
namespace L2
open PySem PySem.Spec PyProof.Rows
noncomputable def SqL (K:a0a)(H:Hp)(a:Addr)(xs:List V):Prop :=
 Rd H a (.lst xs) \/
  ∃ (o:Obj) (its:Array Value) (n:Nat),K.lookup a=some o/\o.cls=.type "list"/\o.dict=none/\o.data=.seq its n/\its.size<=sizeLine/\Vals xs its.toList
noncomputable def SqT (K:a0a)(H:Hp)(a:Addr)(xs:List V):Prop :=
 Rd H a (.tup xs) \/
  ∃ (o:Obj) (its:Array Value) (n:Nat),K.lookup a=some o/\o.cls=.type "tuple"/\o.data=.seq its n/\its.size<=sizeLine/\Vals xs its.toList
noncomputable def yN:Value->Option V
 | .none=>some .non
 | .bool b=>some (.bl b)
 | .int i _=>some (.int i)
 | .str x _=>some (.str x)
 | .bytes b _=>some (.byt b)
 | .float b _=>some (.flt b)
 | .ref a=>some (.ref a)
 | .type n=>some (.ty n)
 | _=>none
theorem RelV.abs {x:V}{u:Value}(r:RelV x u):yN u=some x:=by
 cases x with
 | non=>cases r; rfl
 | bl _=>cases r; rfl
 | int _=>obtain ⟨t,rfl⟩:=r; rfl
 | str _=>obtain ⟨t,rfl⟩:=r; rfl
 | byt _=>obtain ⟨t,rfl⟩:=r; rfl
 | flt _=>obtain ⟨t,rfl⟩:=r; rfl
 | ref _=>cases r; rfl
 | ty _=>cases r; rfl
theorem RelV.inj {x y:V}{u:Value}(r:RelV x u)(q:RelV y u):x=y:=a0s (r.abs.symm.trans q.abs)
theorem Vals.inj:∀ {xs ys:List V} {us:List Value},Vals xs us->Vals ys us->xs=ys
 | _,_,_,.nil,.nil=>rfl
 | _,_,_,.cons r t,.cons r' t'=>by rw [r.inj r',Vals.inj t t']
section
variable {X:Cx}{pins:List (Addr×Obj)}{σ:St}{H:Hp}{s:Shared}{a:Addr}{xs ys:List V}
theorem SqL.of {K:a0a}(h:H a=some (.lst xs)):SqL K H a xs:=.inl (.inl h)
theorem SqT.of {K:a0a}(h:H a=some (.tup xs)):SqT K H a xs:=.inl (.inl h)
theorem Inv.list (I:Inv X pins σ H s)(h:SqL X.K H a xs):∃ its:List Value,Vals xs its/\PlainL s.heap a its.toArray/\xs.length<=sizeLine:=by
 rcases h with h | ⟨o,its,n,hk,hc,hd,hs,hz,r⟩
 ·obtain ⟨z,its,n,r,e⟩:=h.ok I.hok
  exact ⟨its,r,⟨_,n,e,rfl,rfl,rfl⟩,z⟩
 ·refine ⟨its.toList,r,⟨o,n,I.kIn a o hk,hc,hd,by simpa using hs⟩,?_⟩
  have e:=r.length
  simp only [a0P] at e
  omega
theorem Inv.tuple (I:Inv X pins σ H s)(h:SqT X.K H a xs):∃ its:List Value,Vals xs its/\IsTup s.heap a its.toArray/\xs.length<=sizeLine:=by
 rcases h with h | ⟨o,its,n,hk,hc,hs,hz,r⟩
 ·obtain ⟨z,its,r,p⟩:=h.ok I.hok
  exact ⟨its,r,p,z⟩
 ·refine ⟨its.toList,r,⟨o,I.kIn a o hk,hc,n,by simpa using hs⟩,?_⟩
  have e:=r.length
  simp only [a0P] at e
  omega
theorem Inv.list_inj (I:Inv X pins σ H s)(h:SqL X.K H a xs)(h':SqL X.K H a ys):xs=ys:=by
 obtain ⟨its,r,⟨o,n,e,_,_,d⟩,_⟩:=I.list h
 obtain ⟨its',r',⟨o',n',e',_,_,d'⟩,_⟩:=I.list h'
 rw [e] at e'; cases e'
 rw [d] at d'
 injection d' with d1 _
 have:its=its':=by simpa using congrArg a2E d1
 subst this
 exact r.inj r'
theorem Inv.tuple_inj (I:Inv X pins σ H s)(h:SqT X.K H a xs)(h':SqT X.K H a ys):xs=ys:=by
 obtain ⟨its,r,⟨o,e,_,n,d⟩,_⟩:=I.tuple h
 obtain ⟨its',r',⟨o',e',_,n',d'⟩,_⟩:=I.tuple h'
 rw [e] at e'; cases e'
 rw [d] at d'
 injection d' with d1 _
 have:its=its':=by simpa using congrArg a2E d1
 subst this
 exact r.inj r'
end
noncomputable abbrev Cx.wish (X:Cx)(E:Value->Shared->Prop):Cx:={ X with xe:=E }
noncomputable abbrev Cx.nox (X:Cx):Cx:=X.wish fun _ _=>False
theorem Cx.Ok.wish {X:Cx}(ok:X.Ok)(E:Value->Shared->Prop):(X.wish E).Ok :=
 ⟨ok.mod,ok.kind,ok.glob,ok.blt,ok.above,ok.inj,ok.has,ok.cab,ok.hd,ok.frames,ok.stk,ok.exf,ok.bs,ok.bsz,ok.noex,ok.exfs,ok.funs,ok.frf⟩
theorem Cx.Ok.unwish {X:Cx}{E:Value->Shared->Prop}(ok:(X.wish E).Ok):X.Ok :=
 ⟨ok.mod,ok.kind,ok.glob,ok.blt,ok.above,ok.inj,ok.has,ok.cab,ok.hd,ok.frames,ok.stk,ok.exf,ok.bs,ok.bsz,ok.noex,ok.exfs,ok.funs,ok.frf⟩
section
variable {X:Cx}{pins:List (Addr×Obj)}{σ:St}{H:Hp}{s:Shared}{E:Value->Shared->Prop}
theorem Inv.wish (I:Inv X pins σ H s)(E:Value->Shared->Prop):Inv (X.wish E) pins σ H s:=⟨I.ok.wish E,I.os,I.bare,I.base,I.loc,I.cell,I.free,I.freeC,I.pin,I.hok,I.len⟩
theorem Inv.unwish (I:Inv (X.wish E) pins σ H s):Inv X pins σ H s:=⟨I.ok.unwish,I.os,I.bare,I.base,I.loc,I.cell,I.free,I.freeC,I.pin,I.hok,I.len⟩
theorem SP.unwish {D:b9}{f:Flow}{s':Shared}(h:SP (X.wish E) pins D f s'):SP X pins D f s':=by
 cases f with
 | next=>obtain ⟨σ',H',I,q⟩:=h; exact ⟨σ',H',I.unwish,q⟩
 | brk=>obtain ⟨σ',H',I,q⟩:=h; exact ⟨σ',H',I.unwish,q⟩
 | cont=>obtain ⟨σ',H',I,q⟩:=h; exact ⟨σ',H',I.unwish,q⟩
 | ret u=>obtain ⟨v,σ',H',I,r,q⟩:=h; exact ⟨v,σ',H',I.unwish,r,q⟩
theorem PSs.nox {st:List Stmt}{t:TS}(h:PSs X.nox st t):PSs X st t:=fun pins s σ H D I hw =>
 wpAny_mono (h pins s σ H D (I.wish _) hw) (fun _ _ q=>q.unwish) fun _ _ z=>a1f z
end
section
variable {X:Cx}{st:Stmt}{rest:List Stmt}{t u:TS}{e:Expr}{te:TE}{pos:Pos}
noncomputable def qR:TS:=fun D σ H=>D.nx σ H
noncomputable def yD (t u:TS):TS:=fun D σ H=>t { D with nx:=u D } σ H
theorem nP:PSs X [] qR:=fun _ _ σ H _ I h=>wpAny_execs_nil ⟨σ,H,I,h⟩
theorem nG (h1:PS X st t)(h2:PSs X rest u):PSs X (st::rest) (yD t u):=by
 intro pins s σ H D I h
 refine wpAny_execs_cons (thn (h1 pins s σ H { D with nx:=u D } I h) fun f s1 q=>?_)
 cases f with
 | next =>
  obtain ⟨σ',H',I',q⟩:=q
  exact h2 pins s1 σ' H' D I' q
 | ret v=>exact q
 | brk=>exact q
 | cont=>exact q
theorem qg (h1:PS X st t):PSs X [st] t:=by
 intro pins s σ H D I h
 refine wpAny_execs_cons (thn (h1 pins s σ H D I h) fun f s1 q=>?_)
 cases f with
 | next=>exact wpAny_execs_nil q
 | ret v=>exact q
 | brk=>exact q
 | cont=>exact q
noncomputable def xj (te:TE):TS:=fun D σ H=>te σ H D.rt
theorem rG (he:PE X e te):PS X (.Return (some e) pos) (xj te):=by
 intro pins s σ H D I h
 exact wpAny_Return_some (thn (he pins s σ H _ I h) fun v s1 ⟨x,H1,I1,r1,q1⟩=>⟨x,σ,H1,I1,r1,q1⟩)
noncomputable def yb (c:TT)(t u:TS):TS:=fun D σ H=>c σ H fun b H1=>if b=true then t D σ H1 else u D σ H1
theorem wC {c:Expr}{a b:List Stmt}{tc:TT}(hc:PT X c tc)(ha:PSs X a t)(hb:PSs X b u):PS X (.If c a b pos) (yb tc t u):=by
 intro pins s σ H D I h
 refine wpAny_If (thn (hc pins s σ H _ I h) fun d s1 ⟨H1,I1,q1⟩=>?_)
 cases d with
 | true=>exact ha pins s1 σ H1 D I1 q1
 | false=>exact hb pins s1 σ H1 D I1 q1
end
noncomputable abbrev TG:=V->St->Hp->(St->Hp->Prop)->Prop
noncomputable abbrev TGs:=List V->St->Hp->(St->Hp->Prop)->Prop
noncomputable def PG (X:Cx)(target:Expr)(t:TG):Prop :=
 ∀ (pins:List (Addr×Obj)) (s:Shared) (σ:St) (H:Hp) (v:V) (u:Value) (Q:St->Hp->Prop),Inv X pins σ H s->RelV v u->t v σ H Q ->
  wpAny (model X.prog X.w) X.A (assign target X.env u) (fun _ s'=>∃ σ' H',Inv X pins σ' H' s'/\Q σ' H') X.xe s
section
variable {X:Cx}{pos:Pos}
noncomputable def cK (i:Nat):TG:=fun v σ H Q=>Q (σ.set i (some v)) H
theorem je {i:Nat}{x:Str}(hN:X.N.Nodup)(hi:X.N[i]?=some x)(hx:Loc X.env.scope x)(hf:X.fn x=true\/X.env.scope.names.lookup x=some .local:=by first | exact .inl rfl | exact .inr rfl | assumption):PG X (.Name x pos) (cK i):=by
 intro pins s σ H v u Q I r h
 exact wpAny_assign_Name (fX I hN hi hx r (fun s' I'=>⟨_,H,I',h⟩) hf)
noncomputable def vX:TGs:=fun vs σ H Q=>vs=[]/\Q σ H
noncomputable def i7 (t:TG)(u:TGs):TGs:=fun vs σ H Q=>∃ v r,vs=v::r/\t v σ H fun σ' H'=>u r σ' H' Q
noncomputable def xM (K:a0a)(n:Nat)(t:TGs):TG:=fun v σ H Q=>∃ a xs,v=.ref a/\SqT K H a xs/\xs.length=n/\t xs σ H Q
noncomputable def wy (te:TE)(g:TG):TS:=fun D σ H=>te σ H fun x H1=>g x σ H1 D.nx
theorem uB {i:Nat}{x:Str}{e:Expr}{te:TE}{pos':Pos}(hN:X.N.Nodup)(hi:X.N[i]?=some x)(hx:Loc X.env.scope x)(he:PE X e te)(hs:swapsWith e (some (.Name x pos')) pos.line X.env=pure false:=by rfl)(hf:X.fn x=true\/X.env.scope.names.lookup x=some .local:=by first | exact .inl rfl | exact .inr rfl | assumption) :
  PS X (.Assign [.Name x pos'] e pos) (wy te (cK i)):=by
 intro pins s σ H D I h
 refine wpAny_Assign_Name (thn (he pins s σ H _ I h) fun v s1 ⟨y,H1,I1,r1,q1⟩=>?_) hs
 exact fX I1 hN hi hx r1 (fun s2 I2=>⟨_,H1,I2,q1⟩) hf
end
structure It where
 go:Nat->Hp->Prop
 yld:Nat->Hp->V->Hp->Prop
 stop:Nat->Hp->Prop
noncomputable def eR (X:Cx)(pins:List (Addr×Obj))(H:Hp)(b:Addr):Prop :=
 H b=none/\b≠X.env.locals/\b ∉ X.fs/\(b∈X.ex\/X.s₀.heap.objs.size<=b)/\(∀ x c,X.env.cells.lookup x=some c->c≠b)/\∀ p∈X.pn++pins,p.1≠b
theorem Inv.fpOk {X:Cx}{pins:List (Addr×Obj)}{σ:St}{H H':Hp}{s:Shared}{b:Addr}(I:Inv X pins σ H s)(hb:s.heap.objs.size<=b)(hn:H' b=none):eR X pins H' b:=by
 refine ⟨hn,a1V (a0j I.lt hb),I.nofs hb,.inr (a0r I.sz hb),fun x c e z=>?_,fun p hp z=>?_⟩
 ·obtain ⟨v,q⟩:=I.cell x c e
  exact absurd (a0j q.lt (by rw [z]; exact hb)) (a06 _)
 ·exact absurd (a0j (Heap.lt_size (I.pin p hp).1) (by rw [z]; exact hb)) (a06 _)
structure mC (P:Program)(w:World)(K:a0a)(tg:Expr)(J:It)(fp:List Addr)(it:Addr)(tn:Nat->Heap->Prop):Prop where
 mem:it∈fp
 obj:∀ i h,tn i h->∀ b∈fp,∃ o,h.get? b=some o/\∀ v,o.data≠.cell v
 keep:∀ i h h',tn i h->(∀ b∈fp,∀ o,h.get? b=some o->h'.get? b=some o)->tn i h'
 item:∀ (X:Cx),X.prog=P->X.w=w->X.K=K->X.calm=true->∀ (i:Nat) (pins:List (Addr×Obj)) (s:Shared) (σ:St) (H:Hp) (E:Value->Shared->Prop),Inv X pins σ H s->(∀ b∈fp,eR X pins H b)->tn i s.heap->J.go i H ->
  wpAny (model P w) X.A (pyNext (.ref it)) (fun r s1=>∃ u,r=some u /\
   wpAny (model P w) X.A (letOwnedTupleGo tg (.ref it) u) (fun _ s2=>∃ x H',Inv X pins σ H' s2/\RelV x u/\J.yld i H x H'/\tn (i+1) s2.heap/\∀ b∈fp,H' b=none) E s1) E s
 done:∀ (X:Cx),X.prog=P->X.w=w->X.K=K->X.calm=true->∀ (i:Nat) (pins:List (Addr×Obj)) (s:Shared) (σ:St) (H:Hp) (E:Value->Shared->Prop),Inv X pins σ H s->(∀ b∈fp,eR X pins H b)->tn i s.heap->J.stop i H ->
  wpAny (model P w) X.A (pyNext (.ref it)) (fun r s1=>r=none/\Inv X pins σ H s1) E s
 self:∀ (A:Around) (i:Nat) (s:Shared) (Q:Value->Shared->Prop) (E:Value->Shared->Prop),tn i s.heap->Q (.ref it) s->wpAny (model P w) A (pyIter (.ref it)) Q E s
noncomputable abbrev TI:=St->Hp->(It->Hp->Prop)->Prop
noncomputable def PIE (X:Cx)(pins:List (Addr×Obj))(σ:St)(tg:Expr)(R:It->Hp->Prop)(itv:Value)(s2:Shared):Prop :=
 ∃ (it:Addr) (fp:List Addr) (tn:Nat->Heap->Prop) (J:It) (H':Hp),itv=.ref it/\Inv X pins σ H' s2/\mC X.prog X.w X.K tg J fp it tn/\tn 0 s2.heap/\(∀ b∈fp,eR X pins H' b)/\R J H'
noncomputable def PI (X:Cx)(tg iter:Expr)(wi:TI):Prop :=
 ∀ (pins:List (Addr×Obj)) (s:Shared) (σ:St) (H:Hp) (R:It->Hp->Prop),Inv X pins σ H s->wi σ H R ->
  wpAny (model X.prog X.w) X.A (eval iter X.env) (fun v s1=>wpAny (model X.prog X.w) X.A (pyIter v) (PIE X pins σ tg R) X.xe s1) X.xe s
theorem gB {M:Model}{A:Around}{E:Value->Shared->Prop}{s:Shared}{tg:Expr}{it:Addr}{u:Value}{o:Obj}{n:String}{vs:Array Value}{Q:Unit->Shared->Prop}(ho:s.heap.get? it=some o)(hc:o.cls=.type n)(hd:o.data=.fields vs)
  (hn:["enumerate","zip","dict_itemiterator","dict_reverseitemiterator","odict_iterator","itertools.zip_longest","itertools.pairwise"].contains n=false) (hQ:Q () s):wpAny M A (letOwnedTupleGo tg (.ref it) u) Q E s:=by
 unfold letOwnedTupleGo
 cases tg<;>first
  | exact wpAny_pure hQ
  | (cases u<;>first
    | exact wpAny_pure hQ
    | (refine wpAny_bind (wpAny_load ho ?_)
       rw [hc,hd]
       show wpAny M A (if (["enumerate","zip","dict_itemiterator","dict_reverseitemiterator","odict_iterator","itertools.zip_longest","itertools.pairwise"].contains n&&vs[0]?==some (rawInt _))=true then _ else _) Q E s
       rw [if_neg (by intro h; rw [hn,a0S] at h; cases h)]
       exact wpAny_pure hQ))
noncomputable def Itl (K:a0a)(a:Addr):It :=
 ⟨fun i H=>∃ xs x,SqL K H a xs/\xs[i]?=some x,fun i H x H'=>H'=H/\∀ xs,SqL K H a xs->xs[i]?=some x,fun i H=>∃ xs,SqL K H a xs/\xs.length<=i⟩
noncomputable def Itt (K:a0a)(a:Addr):It :=
 ⟨fun i H=>∃ xs x,SqT K H a xs/\xs[i]?=some x,fun i H x H'=>H'=H/\∀ xs,SqT K H a xs->xs[i]?=some x,fun i H=>∃ xs,SqT K H a xs/\xs.length<=i⟩
noncomputable def Itr (lo:Int)(n:Nat):It:=⟨fun i _=>i < n,fun i H x H'=>H'=H/\x=.int (lo+i),fun i _=>n<=i⟩
theorem jE {P:Program}{w:World}{K:a0a}{tg:Expr}(a it:Addr):mC P w K tg (Itl K a) [it] it (fun i h=>h.IsListIter it a i) where
 mem:=by simp
 obj:=fun i h st b hb=>by
  have e:b=it:=by simpa using hb
  subst e
  obtain ⟨o,e,c,d⟩:=st
  exact ⟨o,e,fun v z=>by rw [d] at z; cases z⟩
 keep:=fun i h h' st k=>st.at fun o e=>k it (by simp) o e
 item:=by
  intro X hP hw hK hc i pins s σ H E I hf st hg
  subst hP hw hK
  obtain ⟨xs,x,hq,hx⟩:=hg
  obtain ⟨its,rv,p,hz⟩:=I.list hq
  obtain ⟨u,hu,ru⟩:=rv.get hx
  obtain ⟨f0,f1,f2,f3,f4,f5⟩:=hf it (by simp)
  refine wpAny_pyNext_list_item st p.isList (x:=u) (by simpa using hu) fun h' st' sb=>?_
  have I1:Inv X pins σ H { s with heap:=h' }:=I.turned (t':=s.toks) (fun b o hb e=>(sb.2 b hb).trans e) f0 f1 f3 f4 f5
  obtain ⟨o,e,c,d⟩:=id st'
  exact ⟨u,rfl,gB (s:={ s with heap:=h' }) e c d (by decide) ⟨x,H,I1,ru,⟨rfl,fun ys hy=>by rw [I.list_inj hy hq]; exact hx⟩,st',fun b hb=>(hf b hb).1⟩⟩
 done:=by
  intro X hP hw hK hc i pins s σ H E I hf st hg
  subst hP hw hK
  obtain ⟨xs,hq,hx⟩:=hg
  obtain ⟨its,rv,p,hz⟩:=I.list hq
  obtain ⟨f0,f1,f2,f3,f4,f5⟩:=hf it (by simp)
  have hl:=rv.length
  exact wpAny_pyNext_list_end (I.ok.hd hc) st p.isList (by simp; omega) fun h' eb=>⟨rfl,I.turned (t':=s.toks) (fun b o hb e=>eb b o hb e) f0 f1 f3 f4 f5⟩
 self:=fun _ _ _ _ _ st h=>wpAny_pyIter_listiter st h
theorem gW {P:Program}{w:World}{K:a0a}{tg:Expr}(a it:Addr):mC P w K tg (Itt K a) [it] it (fun i h=>h.IsTupleIter it a i) where
 mem:=by simp
 obj:=fun i h st b hb=>by
  have e:b=it:=by simpa using hb
  subst e
  obtain ⟨o,e,c,d⟩:=st
  exact ⟨o,e,fun v z=>by rw [d] at z; cases z⟩
 keep:=fun i h h' st k=>st.at fun o e=>k it (by simp) o e
 item:=by
  intro X hP hw hK hc i pins s σ H E I hf st hg
  subst hP hw hK
  obtain ⟨xs,x,hq,hx⟩:=hg
  obtain ⟨its,rv,p,hz⟩:=I.tuple hq
  obtain ⟨u,hu,ru⟩:=rv.get hx
  obtain ⟨f0,f1,f2,f3,f4,f5⟩:=hf it (by simp)
  refine wpAny_pyNext_tuple_item st (show s.heap.IsTuple a its.toArray from p) (x:=u) (by simpa using hu) fun h' st' sb=>?_
  have I1:Inv X pins σ H { s with heap:=h' }:=I.turned (t':=s.toks) (fun b o hb e=>(sb.2 b hb).trans e) f0 f1 f3 f4 f5
  obtain ⟨o,e,c,d⟩:=id st'
  exact ⟨u,rfl,gB (s:={ s with heap:=h' }) e c d (by decide) ⟨x,H,I1,ru,⟨rfl,fun ys hy=>by rw [I.tuple_inj hy hq]; exact hx⟩,st',fun b hb=>(hf b hb).1⟩⟩
 done:=by
  intro X hP hw hK hc i pins s σ H E I hf st hg
  subst hP hw hK
  obtain ⟨xs,hq,hx⟩:=hg
  obtain ⟨its,rv,p,hz⟩:=I.tuple hq
  obtain ⟨f0,f1,f2,f3,f4,f5⟩:=hf it (by simp)
  have hl:=rv.length
  exact wpAny_pyNext_tuple_end (I.ok.hd hc) st (show s.heap.IsTuple a its.toArray from p) (by simp; omega) fun h' eb=>⟨rfl,I.turned (t':=s.toks) (fun b o hb e=>eb b o hb e) f0 f1 f3 f4 f5⟩
 self:=fun _ _ _ _ _ st h=>wpAny_pyIter_tupleiter st h
theorem g9 {P:Program}{w:World}{K:a0a}{tg:Expr}(it:Addr)(lo:Int)(n:Nat):mC P w K tg (Itr lo n) [it] it (fun i h=>IsRangeIter h it (lo+(i:Nat) * 1) ((n:Int)-(i:Nat)) 1) where
 mem:=by simp
 obj:=fun i h st b hb=>by
  have e:b=it:=by simpa using hb
  subst e
  exact ⟨_,st,fun v z=>by
   have z':Data.fields _=Data.cell v:=z
   cases z'⟩
 keep:=fun i h h' st k=>k it (by simp) _ st
 item:=by
  intro X hP hw hK hc i pins s σ H E I hf st hg
  subst hP hw hK
  obtain ⟨f0,f1,f2,f3,f4,f5⟩:=hf it (by simp)
  have W:=Walks.range (prog:=X.prog) (w:=X.w) (I.ok.hd hc) it lo 1 n
  refine W.item i s _ _ hg st fun v h' tk hv st' kk=>?_
  obtain ⟨t,rfl⟩:=hv
  have I1:Inv X pins σ H { s with heap:=h',toks:=tk }:=I.turned (fun b o hb e=>kk b o (by simpa using hb) e) f0 f1 f3 f4 f5
  refine ⟨_,rfl,gB (s:={ s with heap:=h',toks:=tk }) (n:="range_iterator") st' rfl rfl (by decide) ⟨.int (lo+i),H,I1,⟨t,?_⟩,⟨rfl,rfl⟩,st',fun b hb=>(hf b hb).1⟩⟩
  rw [Int.mul_one]
 done:=by
  intro X hP hw hK hc i pins s σ H E I hf st hg
  subst hP hw hK
  obtain ⟨f0,f1,f2,f3,f4,f5⟩:=hf it (by simp)
  exact wpAny_pyNext_range_end (I.ok.hd hc) st (by have:n<=i:=hg; omega) fun h' eb=>⟨rfl,I.turned (t':=s.toks) (fun b o hb e=>eb b o hb e) f0 f1 f3 f4 f5⟩
 self:=fun _ _ _ _ _ st h=>wpAny_pyIter_rangeiter st h
end L2
namespace L2
open PySem PySem.Spec PyProof.Rows
section
variable {X:Cx}{tg:Expr}
noncomputable def qQ (K:a0a)(tl:TE):TI:=fun σ H R=>tl σ H fun x H1=>∃ a,x=.ref a/\(∃ xs,SqL K H1 a xs)/\R (Itl K a) H1
noncomputable def xc (K:a0a)(tl:TE):TI:=fun σ H R=>tl σ H fun x H1=>∃ a,x=.ref a/\(∃ xs,SqT K H1 a xs)/\R (Itt K a) H1
theorem pU {l:Expr}{tl:TE}(hl:PE X l tl):PI X tg l (qQ X.K tl):=by
 intro pins s σ H R I h
 refine thn (hl pins s σ H _ I h) fun v s1 ⟨x,H1,I1,r1,q1⟩=>?_
 obtain ⟨a,e,⟨xs,hq⟩,q⟩:=q1
 subst e
 cases r1
 obtain ⟨its,rv,p,hz⟩:=I1.list hq
 refine wpAny_pyIter_list p.isList ?_
 refine ⟨s1.heap.objs.size,[s1.heap.objs.size],_,_,H1,rfl,I1.kept (t':=s1.toks) fun b o e=>Heap.get?_push_of_some _ e,jE a _,⟨_,Heap.get?_push_size _ rfl,rfl,rfl⟩,fun b hb=>?_,q⟩
 have e:b=s1.heap.objs.size:=by simpa using hb
 subst e
 exact I1.fpOk (a0k _) (I1.hok.fresh (a0k _))
theorem rW {l:Expr}{tl:TE}(hl:PE X l tl):PI X tg l (xc X.K tl):=by
 intro pins s σ H R I h
 refine thn (hl pins s σ H _ I h) fun v s1 ⟨x,H1,I1,r1,q1⟩=>?_
 obtain ⟨a,e,⟨xs,hq⟩,q⟩:=q1
 subst e
 cases r1
 obtain ⟨its,rv,p,hz⟩:=I1.tuple hq
 refine wpAny_pyIter_tuple (show s1.heap.IsTuple a its.toArray from p) ?_
 refine ⟨s1.heap.objs.size,[s1.heap.objs.size],_,_,H1,rfl,I1.kept (t':=s1.toks) fun b o e=>Heap.get?_push_of_some _ e,gW a _,⟨_,Heap.get?_push_size _ rfl,rfl,rfl⟩,fun b hb=>?_,q⟩
 have e:b=s1.heap.objs.size:=by simpa using hb
 subst e
 exact I1.fpOk (a0k _) (I1.hok.fresh (a0k _))
theorem k6 {pins:List (Addr×Obj)}{σ:St}{H:Hp}{s:Shared}{R:It->Hp->Prop}{E:Value->Shared->Prop}{lo hi:Int}{t u v:Tok}{tk:Nat}(I:Inv X pins σ H s)(h1:-(2 ^ 62)<=lo)(h2:lo < 2 ^ 62)(h3:-(2 ^ 62)<=hi)(h4:hi < 2 ^ 62)
  (q:R (Itr lo (hi-lo).toNat) H):wpAny (model X.prog X.w) X.A (pyIter (.ref s.heap.objs.size)) (PIE X pins σ tg R) E { s with heap:=s.heap.push { cls:=.type "range",data:=.fields #[.int lo t,.int hi u,.int 1 v] },toks:=tk }:=by
 refine wpAny_pyIter_range (IsRange.new ..) (small_one h1 h2 h3 h4) ?_
 have I1:Inv X pins σ H { s with heap:=s.heap.push { cls:=.type "range",data:=.fields #[.int lo t,.int hi u,.int 1 v] },toks:=tk }:=I.kept fun b o e=>Heap.get?_push_of_some _ e
 refine ⟨(s.heap.push { cls:=.type "range",data:=.fields #[.int lo t,.int hi u,.int 1 v] }).objs.size,[(s.heap.push { cls:=.type "range",data:=.fields #[.int lo t,.int hi u,.int 1 v] }).objs.size],_,_,H,rfl,
  I1.kept (t':=tk) fun b o e=>Heap.get?_push_of_some _ e,g9 _ lo (hi-lo).toNat,?_,fun b hb=>?_,q⟩
 ·have e1:lo+((0:Nat):Int) * 1=lo:=by simp
  have e2:(((hi-lo).toNat:Nat):Int)-((0:Nat):Int)=Builtin.Range.rangeSize lo hi 1:=by rw [rangeSize_one]; split<;>omega
  show IsRangeIter _ _ (lo+((0:Nat):Int) * 1) ((((hi-lo).toNat:Nat):Int)-((0:Nat):Int)) 1
  rw [e1,e2]
  exact Heap.get?_push_size _ rfl
 ·have e:b=(s.heap.push { cls:=.type "range",data:=.fields #[.int lo t,.int hi u,.int 1 v] }).objs.size:=by simpa using hb
  subst e
  exact I1.fpOk (a0k _) (I1.hok.fresh (a0k _))
noncomputable def qY (ta:TA):TI:=fun σ H R=>ta σ H fun vs H1=>∃ j:Int,vs=[.int j]/\-(2 ^ 62)<=j/\j < 2 ^ 62/\R (Itr 0 j.toNat) H1
theorem kb {a:Expr}{ta:TA}{p pos:Pos}(hg:Gl X "range")(hm:X.mg "range"=none)(ha:PA X [a] ta)(hs:starEach [a] X.env=[(false,eval a X.env)]:=by rfl):PI X tg (.Call (.Name "range" p) [a] [] pos) (qY ta):=by
 intro pins s σ H R I h
 refine Call_ (fu I hg hm boot_range (a1z (thn (ha pos pins s σ H _ I h) fun us s1 ⟨vs,H1,I1,r1,q1⟩=>?_) hs rfl))
 obtain ⟨j,e,q1,q2,q⟩:=q1
 subst e
 cases r1 with
 | cons r rr =>
  cases rr
  obtain ⟨t,rfl⟩:=r
  exact call_range_1 (k6 I1 (by omega) (by omega) q1 q2 (by simpa using q))
noncomputable def xr (wi:TI)(g:TG)(tb:TS):TS:=fun D σ H=>wi σ H fun J H1=>∃ W:Nat->Nat->St->Hp->Prop,(∃ m,W 0 m σ H1)/\∀ i m σ H,W i m σ H ->
 (J.stop i H/\D.nx σ H)\/(J.go i H/\∃ N:St->Hp->Prop,(∀ σ' H',N σ' H'->∃ m',m' < m/\W (i+1) m' σ' H')/\∀ x H',J.yld i H x H'->g x σ H' fun σ2 H2=>tb { D with nx:=N,ct:=N,bk:=D.nx } σ2 H2)
noncomputable def d8 (fp:List Addr)(h:Heap):List (Addr×Obj):=fp.filterMap fun b=>(h.get? b).map fun o=>(b,o)
theorem a9 {fp:List Addr}{h:Heap}{b:Addr}{o:Obj}(hb:b∈fp)(e:h.get? b=some o):(b,o)∈d8 fp h:=a15.mpr ⟨b,hb,by rw [e]; rfl⟩
theorem jt {fp:List Addr}{h:Heap}{p:Addr×Obj}(hp:p∈d8 fp h):p.1∈fp/\h.get? p.1=some p.2:=by
 obtain ⟨b,hb,e⟩:=a15.mp hp
 cases q:h.get? b with
 | none=>rw [q] at e; cases e
 | some o =>
  rw [q] at e
  have e':(b,o)=p:=a0s e
  subst e'
  exact ⟨hb,q⟩
theorem Inv.pinned {pins:List (Addr×Obj)}{σ:St}{H:Hp}{s:Shared}{fp:List Addr}(I:Inv X pins σ H s)(hf:∀ b∈fp,eR X pins H b)(ho:∀ b∈fp,∃ o,s.heap.get? b=some o/\∀ v,o.data≠.cell v):Inv X (pins++d8 fp s.heap) σ H s :=
 I.pins_of fun p hp=>(a0W.mp hp).elim (fun z=>I.pin p (a0h _ z)) fun z=>by
  obtain ⟨hb,e⟩:=jt z
  obtain ⟨f0,f1,f2,_⟩:=hf p.1 hb
  obtain ⟨o,e',d⟩:=ho p.1 hb
  rw [e] at e'; cases e'
  exact ⟨e,f0,f1,f2,d⟩
theorem Inv.unpinned {pins pl:List (Addr×Obj)}{σ:St}{H:Hp}{s:Shared}(I:Inv X (pins++pl) σ H s):Inv X pins σ H s:=I.pins_of fun p hp=>I.pin p (a0h _ (a0V _ hp))
theorem ud {iter:Expr}{body:List Stmt}{wi:TI}{g:TG}{tb:TS}{pos:Pos}(hp:PassesOwn (model X.prog X.w) X.A X.env X.xe)(hc:X.calm=true)(hi:PI X tg iter wi)(hg:PG X tg g)(hb:PSs X body tb)
  (hs:∀ x,foldedSetIterable iter X.env x=pure x:=by intro _; rfl):PS X (.For tg iter body [] pos) (xr wi g tb):=by
 intro pins s σ H D I h
 refine wpAny_For (thn (hi pins s σ H _ I h) fun v s1 h1=>thn h1 fun itv s2 h2=>?_) hs
 obtain ⟨it,fp,tn,J,H2,e,I2,T,st2,f2,W,⟨m0,w0⟩,turn⟩:=h2
 subst e
 -- what stays true of the iterator's objects through the loop
 have stat:∀ {H':Hp},(∀ b∈fp,H' b=none)->∀ b∈fp,eR X pins H' b:=fun hn b hb=>⟨hn b hb,(f2 b hb).2⟩
 refine codeAny_forLoop_any (fun n s'=>∃ i σ' H',Inv X pins σ' H' s'/\tn i s'.heap/\(∀ b∈fp,H' b=none)/\W i n σ' H') ?_ m0 ⟨0,σ,H2,I2,st2,fun b hb=>(f2 b hb).1,w0⟩
 rintro n s3 ⟨i,σ3,H3,I3,st3,fr3,w3⟩
 rcases turn i n σ3 H3 w3 with ⟨stop,qn⟩ | ⟨go,N,hN,step⟩
 ·refine wpAny_passesOwn hp (thn (T.done X rfl rfl rfl hc i pins s3 σ3 H3 X.xe I3 (stat fr3) st3 stop) fun r s4 ⟨hr,I4⟩=>?_)
  subst hr
  exact wpAny_execs_nil ⟨σ3,H3,I4,qn⟩
 ·refine wpAny_passesOwn hp (thn (T.item X rfl rfl rfl hc i pins s3 σ3 H3 X.xe I3 (stat fr3) st3 go) fun r s4 ⟨u,hr,h4⟩=>?_)
  subst hr
  refine wpAny_passesOwn hp (thn h4 fun _ s5 ⟨x,H5,I5,r5,y5,st5,fr5⟩=>?_)
  have I5':=I5.pinned (stat fr5) (T.obj _ _ st5)
  refine wpAny_passesOwn hp (thn (hg _ s5 σ3 H5 x u _ I5' r5 (step x H5 y5)) fun _ s6 ⟨σ6,H6,I6,q6⟩=>?_)
  refine wpAny_passesOwn hp (thn (hb _ s6 σ6 H6 _ I6 q6) fun f s7 q7=>?_)
  have again:∀ {σ7:St} {H7:Hp},Inv X (pins++d8 fp s5.heap) σ7 H7 s7->N σ7 H7->∃ m,m < n/\∃ i σ' H',Inv X pins σ' H' s7/\tn i s7.heap/\(∀ b∈fp,H' b=none)/\W i m σ' H':=fun {σ7 H7} I7 n7=>by
   obtain ⟨m',hm,w7⟩:=hN σ7 H7 n7
   refine ⟨m',hm,i+1,σ7,H7,I7.unpinned,T.keep _ _ _ st5 fun b hb o e=>(I7.pin (b,o) (a0h _ (a0h _ (a9 hb e)))).1,fun b hb=>?_,w7⟩
   obtain ⟨o,e,d⟩:=T.obj _ _ st5 b hb
   exact (I7.pin (b,o) (a0h _ (a0h _ (a9 hb e)))).2.1
  cases f with
  | next=>obtain ⟨σ7,H7,I7,n7⟩:=q7; exact again I7 n7
  | cont=>obtain ⟨σ7,H7,I7,n7⟩:=q7; exact again I7 n7
  | brk=>obtain ⟨σ7,H7,I7,q7⟩:=q7; exact ⟨σ7,H7,I7.unpinned,q7⟩
  | ret v=>obtain ⟨x7,σ7,H7,I7,r7,q7⟩:=q7; exact ⟨x7,σ7,H7,I7.unpinned,r7,q7⟩
end
end L2
namespace L2
open PySem PySem.Spec PyProof.Rows
noncomputable abbrev R2:=V->V->Hp->VK->Prop
noncomputable def OpR (X:Cx)(f:Value->Value->Sem Value)(r:R2):Prop :=
 ∀ (pins:List (Addr×Obj)) (s:Shared) (σ:St) (H:Hp) (x y:V) (v u:Value) (Q:VK),Inv X pins σ H s->RelV x v->RelV y u->r x y H Q ->
  wpAny (model X.prog X.w) X.A (f v u) (EP X pins σ Q) X.xe s
noncomputable def UnR (X:Cx)(f:Value->Sem Value)(r:V->Hp->VK->Prop):Prop :=
 ∀ (pins:List (Addr×Obj)) (s:Shared) (σ:St) (H:Hp) (x:V) (v:Value) (Q:VK),Inv X pins σ H s->RelV x v->r x H Q ->
  wpAny (model X.prog X.w) X.A (f v) (EP X pins σ Q) X.xe s
noncomputable def dX (X:Cx)(f:Value)(r:List V->Hp->VK->Prop):Prop :=
 ∀ (pins:List (Addr×Obj)) (s:Shared) (σ:St) (H:Hp) (xs:List V) (us:List Value) (Q:VK),Inv X pins σ H s->Vals xs us->r xs H Q ->
  wpAny (model X.prog X.w) X.A (call f us) (EP X pins σ Q) X.xe s
noncomputable def zw (X:Cx)(r:V->Hp->(Bool->Hp->Prop)->Prop):Prop :=
 ∀ (pins:List (Addr×Obj)) (s:Shared) (σ:St) (H:Hp) (x:V) (v:Value) (Q:Bool->Hp->Prop),Inv X pins σ H s->RelV x v->r x H Q ->
  wpAny (model X.prog X.w) X.A (truthy v) (TP X pins σ Q) X.xe s
noncomputable def tOp (r:R2)(ta tb:TE):TE:=fun σ H Q=>ta σ H fun x H1=>tb σ H1 fun y H2=>r x y H2 Q
noncomputable def tUn (r:V->Hp->VK->Prop)(ta:TE):TE:=fun σ H Q=>ta σ H fun x H1=>r x H1 Q
noncomputable def rI (C:Int->Int->Prop)(g:Int->Int->V):R2:=fun x y H Q=>∃ i j,x=.int i/\y=.int j/\C i j/\Q (g i j) H
noncomputable def rI0 (g:Int->Int->V):R2:=fun x y H Q=>∃ i j,x=.int i/\y=.int j/\Q (g i j) H
noncomputable def rU (g:Int->V):V->Hp->VK->Prop:=fun x H Q=>∃ i,x=.int i/\Q (g i) H
section
variable {X:Cx}{a b c:Expr}{ta tb tc:TE}{pos:Pos}
theorem so (ha:PE X a ta)(hb:PE X b tb){pins:List (Addr×Obj)}{s:Shared}{σ:St}{H:Hp}{R:V->V->Hp->Prop}(I:Inv X pins σ H s)
  (h:ta σ H fun x H1=>tb σ H1 fun y H2=>R x y H2) {Q:Value->Shared->Prop} {f:Value->Value->Sem Value}
  (hf:∀ v u s2 x y H2,Inv X pins σ H2 s2->RelV x v->RelV y u->R x y H2->wpAny (model X.prog X.w) X.A (f v u) Q X.xe s2) :
  wpAny (model X.prog X.w) X.A (eval a X.env) (fun v s₁=>wpAny (model X.prog X.w) X.A (eval b X.env) (fun u s₂=>wpAny (model X.prog X.w) X.A (f v u) Q X.xe s₂) X.xe s₁) X.xe s:=by
 refine thn (ha pins s σ H _ I h) fun v s1 ⟨x,H1,I1,r1,q1⟩=>?_
 refine thn (hb pins s1 σ H1 _ I1 q1) fun u s2 ⟨y,H2,I2,r2,q2⟩=>?_
 exact hf v u s2 x y H2 I2 r1 r2 q2
theorem eO {op:Operator}{r:R2}(ho:OpR X (binaryOp op) r)(ha:PE X a ta)(hb:PE X b tb):PE X (.BinOp a op b pos) (tOp r ta tb):=by
 intro pins s σ H Q I h
 exact wpAny_BinOp (so ha hb I h fun v u s2 x y H2 I2 rx ry q=>ho pins s2 σ H2 x y v u Q I2 rx ry q)
theorem wB {op:UnaryOp}{r:V->Hp->VK->Prop}(ho:UnR X (unaryOp op) r)(ha:PE X a ta):PE X (.UnaryOp op a pos) (tUn r ta):=by
 intro pins s σ H Q I h
 exact UnaryOp_ (thn (ha pins s σ H _ I h) fun v s1 ⟨x,H1,I1,r1,q1⟩=>ho pins s1 σ H1 x v Q I1 r1 q1)
theorem opI {f:Value->Value->Sem Value}{C:Int->Int->Prop}{g:Int->Int->Int}
  (rule:∀ (i j:Int) (t u:Tok) (s:Shared) (Q:Value->Shared->Prop) (E:Value->Shared->Prop),C i j->Q (.int (g i j) s.toks) { s with toks:=s.toks+1 }->wpAny (model X.prog X.w) X.A (f (.int i t) (.int j u)) Q E s) :
  OpR X f (rI C fun i j=>.int (g i j)):=by
 intro pins s σ H x y v u Q I rx ry h
 obtain ⟨i,j,rfl,rfl,hc,q⟩:=h
 obtain ⟨t,rfl⟩:=rx
 obtain ⟨t',rfl⟩:=ry
 exact rule i j t t' s _ _ hc ⟨.int (g i j),H,I.tok _,⟨_,rfl⟩,q⟩
theorem xB {f:Value->Value->Sem Value}{g:Int->Int->Int}
  (rule:∀ (i j:Int) (t u:Tok) (s:Shared) (Q:Value->Shared->Prop) (E:Value->Shared->Prop),Q (.int (g i j) s.toks) { s with toks:=s.toks+1 }->wpAny (model X.prog X.w) X.A (f (.int i t) (.int j u)) Q E s) :
  OpR X f (rI0 fun i j=>.int (g i j)):=by
 intro pins s σ H x y v u Q I rx ry h
 obtain ⟨i,j,rfl,rfl,q⟩:=h
 obtain ⟨t,rfl⟩:=rx
 obtain ⟨t',rfl⟩:=ry
 exact rule i j t t' s _ _ ⟨.int (g i j),H,I.tok _,⟨_,rfl⟩,q⟩
theorem qA {f:Value->Value->Sem Value}{g:Int->Int->Bool}
  (rule:∀ (i j:Int) (t u:Tok) (s:Shared) (Q:Value->Shared->Prop) (E:Value->Shared->Prop),Q (.bool (g i j)) s->wpAny (model X.prog X.w) X.A (f (.int i t) (.int j u)) Q E s) :
  OpR X f (rI0 fun i j=>.bl (g i j)):=by
 intro pins s σ H x y v u Q I rx ry h
 obtain ⟨i,j,rfl,rfl,q⟩:=h
 obtain ⟨t,rfl⟩:=rx
 obtain ⟨t',rfl⟩:=ry
 exact rule i j t t' s _ _ ⟨.bl (g i j),H,I,rfl,q⟩
noncomputable def vM (i j:Int):Prop:=0 < j/\j < 1073741824
noncomputable def tD (i j:Int):Prop:=0<=j/\j<=1000000/\i.natAbs < 2 ^ 64
noncomputable def CMul (i j:Int):Prop:=(-(2 ^ 64) < i/\i < 2 ^ 64)\/(-(2 ^ 64) < j/\j < 2 ^ 64)
theorem CMul.ok {i j:Int}(h:CMul i j):IntMulOk i j:=by
 rcases h with ⟨h1,h2⟩ | ⟨h1,h2⟩
 ·exact .of_left (intBits_le_64 h1 h2)
 ·exact .of_right (intBits_le_64 h1 h2)
theorem op_add:OpR X (binaryOp .Add) (rI0 fun i j=>.int (i+j)):=xB fun _ _ _ _ _ _ _ q=>add_int q
theorem vS:OpR X (binaryOp .Sub) (rI0 fun i j=>.int (i-j)):=xB fun _ _ _ _ _ _ _ q=>sub_int q
theorem op_mul:OpR X (binaryOp .Mult) (rI CMul fun i j=>.int (i * j)):=opI fun _ _ _ _ _ _ _ hc q=>mul_int q hc.ok
theorem nQ:OpR X (binaryOp .FloorDiv) (rI vM fun i j=>.int (i / j)):=opI fun i j _ _ _ _ _ hc q=>by
 have h1:(0:Int) < j:=hc.1
 have h2:j < 1073741824:=hc.2
 exact floordiv_int (by omega) (by rw [Int.fdiv_eq_ediv_of_nonneg i (by omega)]; exact q) (.inl (PyProof.noPylong_small (by omega)))
theorem sJ:OpR X (binaryOp .Mod) (rI (fun _ j=>0 < j) fun i j=>.int (i % j)):=opI fun i j _ _ _ _ _ hc q=>by
 have h1:(0:Int) < j:=hc
 exact mod_int' (by omega) (by rw [Int.fmod_eq_emod_of_nonneg i (by omega)]; exact q)
theorem vq:OpR X (binaryOp .Pow) (rI tD fun i j=>.int (i ^ j.toNat)):=opI fun _ _ _ _ _ _ _ hc q=>pow_int_small hc.1 hc.2.1 hc.2.2 q
theorem unI {f:Value->Sem Value}{g:Int->Int}
  (rule:∀ (i:Int) (t:Tok) (s:Shared) (Q:Value->Shared->Prop) (E:Value->Shared->Prop),Q (.int (g i) s.toks) { s with toks:=s.toks+1 }->wpAny (model X.prog X.w) X.A (f (.int i t)) Q E s) :
  UnR X f (rU fun i=>.int (g i)):=by
 intro pins s σ H x v Q I rx h
 obtain ⟨i,rfl,q⟩:=h
 obtain ⟨t,rfl⟩:=rx
 exact rule i t s _ _ ⟨.int (g i),H,I.tok _,⟨_,rfl⟩,q⟩
theorem vL:UnR X (unaryOp .USub) (rU fun i=>.int (-i)):=unI fun _ _ _ _ _ q=>neg_int q
end
section
variable {X:Cx}{a b c:Expr}{ta tb tc:TE}{pos:Pos}
theorem kn {pins:List (Addr×Obj)}{σ:St}{H:Hp}{s:Shared}{Q:VK}{k k':Bool}(I:Inv X pins σ H s)(q:Q (.bl k) H)(e:k=k'):EP X pins σ Q (.bool k') s:=by
 subst e
 exact ⟨.bl k,H,I,rfl,q⟩
theorem xX:OpR X (compareOp .Lt) (rI0 fun i j=>.bl (decide (i < j))):=qA fun _ _ _ _ _ _ _ q=>lt_int q
theorem fQ:OpR X (compareOp .LtE) (rI0 fun i j=>.bl (decide (i<=j))):=qA fun _ _ _ _ _ _ _ q=>le_int q
theorem rm:OpR X (compareOp .Gt) (rI0 fun i j=>.bl (decide (j < i))):=qA fun _ _ _ _ _ _ _ q=>gt_int q
theorem v8:OpR X (compareOp .GtE) (rI0 fun i j=>.bl (decide (j<=i))):=qA fun _ _ _ _ _ _ _ q=>ge_int q
theorem fh:OpR X (compareOp .NotIn) (fun x y H Q=>∃ i j,x=.str i/\y=.str j/\Q (.bl (!(!(Builtin.Str.occurrences j i 0 j.length 1).isEmpty))) H):=by
 intro pins s σ H x y v u Q I rx ry h
 obtain ⟨i,j,rfl,rfl,q⟩:=h
 obtain ⟨t,rfl⟩:=rx
 obtain ⟨t',rfl⟩:=ry
 exact notIn_str (kn I q rfl)
theorem OpR.or {f:Value->Value->Sem Value}{r r':R2}(h:OpR X f r)(h':OpR X f r'):OpR X f (fun x y H Q=>r x y H Q\/r' x y H Q):=by
 intro pins s σ H x y v u Q I rx ry q
 rcases q with q | q
 ·exact h pins s σ H x y v u Q I rx ry q
 ·exact h' pins s σ H x y v u Q I rx ry q
theorem bP (b:Expr){op:CmpOp}(h:op≠.In:=by decide)(h2:op≠.NotIn:=by decide):behindInMarks op b=false:=by
 have e1:(op==CmpOp.In)=false:=by cases op<;>first | rfl | exact absurd rfl h
 have e2:(op==CmpOp.NotIn)=false:=by cases op<;>first | rfl | exact absurd rfl h2
 cases b<;>simp [behindInMarks,e1,e2]
theorem cF {op:CmpOp}{r:R2}(ho:OpR X (compareOp op) r)(ha:PE X a ta)(hb:PE X b tb)(hm:behindInMarks op b=false):PE X (.Compare a [op] [b] pos) (tOp r ta tb):=by
 intro pins s σ H Q I h
 exact wpAny_Compare1 (so ha hb I h fun v u s2 x y H2 I2 rx ry q=>ho pins s2 σ H2 x y v u Q I2 rx ry q) hm
noncomputable def kx (t:TE):TT:=fun σ H Q=>t σ H fun x H'=>∃ k,x=.bl k/\Q k H'
theorem fF {op:CmpOp}{r:R2}(ho:OpR X (compareOp op) r)(ha:PE X a ta)(hb:PE X b tb)(hm:behindInMarks op b=false):PT X (.Compare a [op] [b] pos) (kx (tOp r ta tb)):=by
 intro pins s σ H Q I h
 refine wpAny_isTrue_Compare1 (thn (ha pins s σ H _ I h) fun v s1 ⟨x,H1,I1,r1,q1⟩=>thn (hb pins s1 σ H1 _ I1 q1) fun u s2 ⟨y,H2,I2,r2,q2⟩ =>
  thn (ho pins s2 σ H2 x y v u _ I2 r1 r2 q2) fun c s3 ⟨z,H3,I3,r3,k,e,q3⟩=>?_) hm
 subst e
 cases r3
 exact wpAny_truthy_bool ⟨H3,I3,q3⟩
noncomputable def eU (r r':R2)(ta tb tc:TE):TE:=fun σ H Q=>ta σ H fun x H1=>tb σ H1 fun y H2=>r x y H2 fun z H3=>∃ k,z=.bl k /\
 (if k=true then tc σ H3 fun w' H4=>r' y w' H4 Q else Q (.bl false) H3)
theorem gE {op op':CmpOp}{r r':R2}(ho:OpR X (compareOp op) r)(ho':OpR X (compareOp op') r')(ha:PE X a ta)(hb:PE X b tb)(hc:PE X c tc)
  (hm:lastMarks [op,op'] [b,c]=false:=by with_unfolding_all rfl):PE X (.Compare a [op,op'] [b,c] pos) (eU r r' ta tb tc):=by
 intro pins s σ H Q I h
 refine Compare_chain (thn (ha pins s σ H _ I h) fun v s1 ⟨x,H1,I1,r1,q1⟩=>chain_link (thn (hb pins s1 σ H1 _ I1 q1) fun u s2 ⟨y,H2,I2,r2,q2⟩ =>
  thn (ho pins s2 σ H2 x y v u _ I2 r1 r2 q2) fun d s3 ⟨z,H3,I3,r3,k,e,q3⟩=>?_)) hm
 subst e
 cases r3
 refine wpAny_truthy_bool ?_
 cases k with
 | false=>exact ite_ff ⟨.bl false,H3,I3,rfl,q3⟩
 | true=>exact ite_tt (chain_last (thn (hc pins s3 σ H3 _ I3 q3) fun w' s4 ⟨z',H4,I4,r4,q4⟩=>ho' pins s4 σ H4 y z' u w' Q I4 r2 r4 q4))
theorem mX {op op':CmpOp}{r r':R2}(ho:OpR X (compareOp op) r)(ho':OpR X (compareOp op') r')(ha:PE X a ta)(hb:PE X b tb)(hc:PE X c tc)
  (hm:lastMarks [op,op'] [b,c]=false:=by with_unfolding_all rfl):PT X (.Compare a [op,op'] [b,c] pos) (kx (eU r r' ta tb tc)):=by
 intro pins s σ H Q I h
 refine isTrue_chain (thn (ha pins s σ H _ I h) fun v s1 ⟨x,H1,I1,r1,q1⟩=>test_link (thn (hb pins s1 σ H1 _ I1 q1) fun u s2 ⟨y,H2,I2,r2,q2⟩ =>
  thn (ho pins s2 σ H2 x y v u _ I2 r1 r2 q2) fun d s3 ⟨z,H3,I3,r3,k,e,q3⟩=>?_)) hm
 subst e
 cases r3
 refine wpAny_truthy_bool ?_
 cases k with
 | false =>
  obtain ⟨k',e',q'⟩:=q3
  cases e'
  exact ite_ff ⟨H3,I3,q'⟩
 | true =>
  refine ite_tt (test_last (thn (hc pins s3 σ H3 _ I3 q3) fun w' s4 ⟨z',H4,I4,r4,q4⟩=>thn (ho' pins s4 σ H4 y z' u w' _ I4 r2 r4 q4) fun d' s5 ⟨z2,H5,I5,r5,k2,e2,q5⟩=>?_))
  subst e2
  cases r5
  exact wpAny_truthy_bool ⟨H5,I5,q5⟩
noncomputable def nh (K:a0a)(x:V)(H:Hp)(k:Bool):Prop :=
 match x with
 | .non=>k=false
 | .bl b=>k=b
 | .int i=>k=(i != 0)
 | .str y=>y.length<=sizeLine/\k=((y.length:Int) != 0)
 | .byt y=>y.size<=sizeLine/\k=((y.size:Int) != 0)
 | .ref p=>(∃ xs,SqL K H p xs/\k=!xs.isEmpty)\/(∃ xs,SqT K H p xs/\k=!xs.isEmpty)\/∃ kvs,H p=some (.dK kvs)/\k=!kvs.isEmpty
 | _=>False
theorem iD {κ:Type}{kvs:List (κ×V)}{vs:List (κ×Value)}(r:KV kvs vs):(!vs.isEmpty)=!kvs.isEmpty:=by
 cases r<;>rfl
theorem du {xs:List V}{its:List Value}(r:Vals xs its):(!its.toArray.isEmpty)=!xs.isEmpty:=by
 cases r<;>simp
theorem dG:(sizeLine:Nat) < 2 ^ 63:=by rw [sizeLine_eq]; decide
theorem ig:zw X (fun x H Q=>∃ k,nh X.K x H k/\Q k H):=by
 intro pins s σ H x v Q I rx h
 obtain ⟨k,e,q⟩:=h
 have hl:=dG
 have hs:sizeLine=16777216:=sizeLine_eq
 cases x with
 | non =>
  cases rx
  have e':k=false:=e
  subst e'
  exact truthy_none ⟨H,I,q⟩
 | bl b =>
  cases rx
  have e':k=b:=e
  subst e'
  exact wpAny_truthy_bool ⟨H,I,q⟩
 | int i =>
  obtain ⟨t,rfl⟩:=rx
  have e':k=(i != 0):=e
  subst e'
  exact PySem.P.truthy_int ⟨H,I,q⟩
 | str y =>
  obtain ⟨t,rfl⟩:=rx
  obtain ⟨hy,e'⟩:y.length<=sizeLine/\k=((y.length:Int) != 0):=e
  subst e'
  exact PySem.P.truthy_str (by omega) ⟨H,I.tok _,q⟩
 | byt y =>
  obtain ⟨t,rfl⟩:=rx
  obtain ⟨hy,e'⟩:y.size<=sizeLine/\k=((y.size:Int) != 0):=e
  subst e'
  exact PySem.W.truthy_bytes (by omega) ⟨H,I.tok _,q⟩
 | ref p =>
  cases rx
  have e':(∃ xs,SqL X.K H p xs/\k=!xs.isEmpty)\/(∃ xs,SqT X.K H p xs/\k=!xs.isEmpty)\/∃ kvs,H p=some (.dK kvs)/\k=!kvs.isEmpty:=e
  rcases e' with ⟨xs,hx,e'⟩ | ⟨xs,hx,e'⟩ | ⟨kvs,hx,e'⟩
  ·subst e'
   obtain ⟨its,r,pl,hz⟩:=I.list hx
   have hlen:=r.length
   exact wpAny_truthy_list pl.isList (by simp only [a0i]; omega) ⟨H,I.tok _,by rw [du r]; exact q⟩
  ·subst e'
   obtain ⟨its,r,pl,hz⟩:=I.tuple hx
   have hlen:=r.length
   exact truthy_tuple pl (by simp only [a0i]; omega) ⟨H,I.tok _,by rw [du r]; exact q⟩
  ·subst e'
   obtain ⟨hz,hS,vs,r,m⟩:kvs.length<=sizeLine/\(p==sysModules)=false/\∃ vs,KV kvs vs/\s.heap.DictOf (aN X.prog X.w) p vs:=I.hok p _ hx
   have hlen:kvs.length=vs.length:=Paired.length r
   exact wpAny_truthy_dict hS m (by omega) ⟨H,I.tok _,by rw [iD r]; exact q⟩
 | _=>exact (show False from e).elim
theorem ny (ha:PE X a ta)(he:∀ whole,isTrue a X.env whole=(do let v <- whole; standAt a.pos; holding [v] (truthy v))) :
  PT X a (fun σ H Q=>ta σ H fun x H'=>∃ k,nh X.K x H' k/\Q k H'):=by
 intro pins s σ H Q I h
 exact isTrue_plain (thn (ha pins s σ H _ I h) fun v s1 ⟨x,H1,I1,r1,q1⟩=>ig pins s1 σ H1 x v Q I1 r1 q1) (he _)
theorem op_add_str:OpR X (binaryOp .Add) (fun x y H Q=>∃ i j,x=.str i/\y=.str j/\i.length+j.length<=sizeLine/\Q (.str (i++j)) H):=by
 intro pins s σ H x y v u Q I rx ry h
 obtain ⟨i,j,rfl,rfl,hz,q⟩:=h
 obtain ⟨t,rfl⟩:=rx
 obtain ⟨t',rfl⟩:=ry
 exact add_str (fun t' tk=>⟨.str (i++j),H,I.tok _,⟨_,rfl⟩,q⟩) hz
theorem gU {x:V}{us:List Value}(r:Vals [x] us):∃ u,us=[u]/\RelV x u:=by
 cases r with
 | cons r1 r2=>cases r2; exact ⟨_,rfl,r1⟩
theorem wU {x y:V}{us:List Value}(r:Vals [x,y] us):∃ u w',us=[u,w']/\RelV x u/\RelV y w':=by
 cases r with
 | cons r1 r2 =>
  cases r2 with
  | cons r3 r4=>cases r4; exact ⟨_,_,rfl,r1,r3⟩
theorem j1:dX X (.type "int") (fun xs H Q=>(∃ i,xs=[.int i]/\Q (.int i) H)\/∃ k,xs=[.bl k]/\Q (.int (if k then 1 else 0)) H):=by
 intro pins s σ H xs us Q I r h
 rcases h with ⟨i,rfl,q⟩ | ⟨k,rfl,q⟩
 ·obtain ⟨u,rfl,t,rfl⟩:=gU r
  exact call_int_int ⟨.int i,H,I,⟨_,rfl⟩,q⟩
 ·obtain ⟨u,rfl,r1⟩:=gU r
  cases r1
  exact call_int_bool ⟨.int (if k then 1 else 0),H,I.tok _,⟨_,rfl⟩,q⟩
noncomputable def w9 (K:a0a)(x:V)(H:Hp)(n:Nat):Prop :=
 match x with
 | .str y=>y.length<=sizeLine/\n=y.length
 | .byt y=>y.size<=sizeLine/\n=y.size
 | .ref p=>(∃ xs,SqL K H p xs/\n=xs.length)\/∃ xs,SqT K H p xs/\n=xs.length
 | _=>False
theorem gm:dX X (.builtin "len") (fun xs H Q=>∃ x n,xs=[x]/\w9 X.K x H n/\Q (.int n) H):=by
 intro pins s σ H xs us Q I r h
 obtain ⟨x,n,rfl,e,q⟩:=h
 obtain ⟨u,rfl,rx⟩:=gU r
 have hl:=dG
 have hs:sizeLine=16777216:=sizeLine_eq
 cases x with
 | str y =>
  obtain ⟨t,rfl⟩:=rx
  obtain ⟨hy,e'⟩:y.length<=sizeLine/\n=y.length:=e
  subst e'
  exact len_str (by omega) ⟨.int _,H,I.tok _,⟨_,rfl⟩,q⟩
 | byt y =>
  obtain ⟨t,rfl⟩:=rx
  obtain ⟨hy,e'⟩:y.size<=sizeLine/\n=y.size:=e
  subst e'
  exact PySem.W.len_bytes (by omega) ⟨.int _,H,I.tok _,⟨_,rfl⟩,q⟩
 | ref p =>
  cases rx
  have e':(∃ xs,SqL X.K H p xs/\n=xs.length)\/∃ xs,SqT X.K H p xs/\n=xs.length:=e
  rcases e' with ⟨xs,hx,e'⟩ | ⟨xs,hx,e'⟩
  ·subst e'
   obtain ⟨its,r',pl,hz⟩:=I.list hx
   have hlen:=r'.length
   exact Calls.call_len_list pl.isList (by simp only [a0i]; omega) ⟨.int xs.length,H,I.tok _,⟨_,by simp only [a0i]; rw [hlen]⟩,q⟩
  ·subst e'
   obtain ⟨its,r',pl,hz⟩:=I.tuple hx
   have hlen:=r'.length
   exact len_tuple pl (by simp only [a0i]; omega) ⟨.int xs.length,H,I.tok _,⟨_,by simp only [a0i]; rw [hlen]⟩,q⟩
 | _=>exact (show False from e).elim
end
end L2
namespace L2
open PySem PySem.Spec PyProof.Rows
structure ObjM (h:Heap)(x dx C:Addr)(mA:Str->Option Value):Prop where
 obj:h.get? x=some (a1T C dx)
 ns:h.Ns1 dx mA
 ne:dx≠x
theorem jZ {h:Heap}{dx:Addr}{mA:Str->Option Value}(n:h.Ns1 dx mA):∃ od,h.get? dx=some od/\∀ name,a12 name od=some (mA name):=by
 obtain ⟨o,es,ep,ho,hd,hk,_,hm⟩:=n
 refine ⟨o,ho,fun name=>?_⟩
 have e:=hm name
 unfold nsFind findBy at e
 rw [<- a16] at e
 unfold a12
 rw [hd]
 dsimp only
 split
 ·rename_i y q
  rw [q] at e
  exact congrArg some e
 ·rename_i q
  rw [q] at e
  have a:es.toList.any (·.refKey)=false:=by
   rw [a2a]
   intro y hy
   obtain ⟨z,t,hkey⟩:=hk y (Array.mem_toList_iff.mp hy)
   simp [DictEntry.refKey,hkey]
  have a':¬ es.toList.any (·.refKey)=true:=by rw [a]; exact a0e
  rw [if_neg a']
  exact congrArg some e
theorem ObjM.look {h:Heap}{x dx C:Addr}{mA:Str->Option Value}(I:ObjM h x dx C mA):∃ od,PySem.W.InstAt h x (a1T C dx) C (some od)/\∀ name,a12 name od=some (mA name) :=
 let ⟨od,ho,hl⟩:=jZ I.ns
 ⟨od,⟨I.obj,rfl,rfl,ho⟩,hl⟩
noncomputable def wK (f:Str)(v:V):List (Str×V)->List (Str×V)
 | []=>[(f,v)]
 | (g,x)::r=>if g=f then (g,v)::r else (g,x)::wK f v r
theorem RelO.some_of {v:V}{o:Option Value}(r:RelO (some v) o):∃ u,o=some u/\RelV v u:=by
 cases o with
 | none=>exact (show False from r).elim
 | some u=>exact ⟨u,rfl,r⟩
section
variable {P:Program}{w:World}{H H':Hp}{h h':Heap}{a C dx:Addr}{fs fs':List (Str×V)}
theorem oY (hok:HOk P w H h)(e:H a=some (.ins C dx fs)):∃ mA,ObjM h a dx C mA/\(∀ f,RelO (fs.lookup f) (mA f))/\a2D mA (fs.map (·.1))/\fs.length<=1000/\H dx=some (.own a):=by
 obtain ⟨d,z,ne,ob,mA,n,r,q⟩:=(show ObjOk P w H h a (.ins C dx fs) from hok a _ e)
 exact ⟨mA,⟨ob,n,ne⟩,r,q,z,d⟩
end
structure Cls (K:a0a)(C:Addr):Prop where
 pg:a2g K C Str.empty=true
 hd:PySem.W.hasDictIn K C=true
 po:PySem.W.plainOver K C=true
 sa:a2t K (.ref C) "__setattr__"=some (some (.builtin "object.__setattr__"))
theorem Cls.get {K:a0a}{C:Addr}(c:Cls K C)(f:Str):a2g K C f=true:=c.pg
section
variable {X:Cx}{pins:List (Addr×Obj)}{σ:St}{H:Hp}{s:Shared}{A:Around}{E:Value->Shared->Prop}{Q:Value->Shared->Prop}{c:Value}{b:Bool}
inductive c8 (K:a0a)(H:Hp):V->Value->Prop where
 | non:c8 K H .non (.type "NoneType")
 | bl (x:Bool):c8 K H (.bl x) (.type "bool")
 | int (i:Int):c8 K H (.int i) (.type "int")
 | str (x:Str):c8 K H (.str x) (.type "str")
 | flt (x:UInt64):c8 K H (.flt x) (.type "float")
 | lst {a:Addr} {xs:List V} (e:H a=some (.lst xs)):c8 K H (.ref a) (.type "list")
 | frz {a:Addr} {o:Obj} {xs:List V} (e:H a=some (.frz o (.lst xs))):c8 K H (.ref a) (.type "list")
 | tup {a:Addr} {xs:List V} (e:H a=some (.tup xs)):c8 K H (.ref a) (.type "tuple")
 | dK {a:Addr} {kvs:List (Key×V)} (e:H a=some (.dK kvs)):c8 K H (.ref a) (.type "dict")
 | dT {a:Addr} {kvs:List (List Key×V)} (e:H a=some (.dT kvs)):c8 K H (.ref a) (.type "dict")
 | ins {a C dx:Addr} {fs:List (Str×V)} (e:H a=some (.ins C dx fs)) (cl:Cls K C) (ha:a2t K (.ref C) "__class__"=some (some (.builtin "object.__class__")))
   (hn:PySem.W.specialIn K (.builtin "object.__class__") "__get__"=some (some (.builtin "getset_descriptor.__get__"))) (htk:PySem.W.takesIn K (.builtin "object.__class__")=some true)
   (hm:PySem.W.mroIn K C (.type "object")=some true):c8 K H (.ref a) (.ref C)
theorem b6 {x:V}{u t:Value}(I:Inv X pins σ H s)(rx:RelV x u)(ty:c8 X.K H x t)(e:a09 X.K t c=some b)(h:∀ tk,Q (.bool b) { s with toks:=tk }) :
  wpAny (model X.prog X.w) A (call (.builtin "isinstance") [u,c]) Q E s:=by
 cases ty with
 | non=>cases (show u=Value.none from rx); exact a0F PySem.W.kitx_none I.kIn a1j e (fun z=>nomatch z) h
 | bl y=>cases (show u=Value.bool y from rx); exact a0F PySem.W.kitx_bool I.kIn a1j e (fun z=>nomatch z) h
 | int i=>obtain ⟨t,q⟩:=(show ∃ t,u=Value.int i t from rx); cases q; exact a0F PySem.W.kitx_int I.kIn a1j e (fun z=>nomatch z) h
 | str y=>obtain ⟨t,q⟩:=(show ∃ t,u=Value.str y t from rx); cases q; exact a0F PySem.W.kitx_str I.kIn a1j e (fun z=>nomatch z) h
 | flt y=>obtain ⟨t,q⟩:=(show ∃ t,u=Value.float y t from rx); cases q; exact a0F PySem.W.kitx_float I.kIn a1j e (fun z=>nomatch z) h
 | @lst a xs ea =>
  cases (show u=Value.ref a from rx)
  obtain ⟨_,_,n,_,h1⟩:=(show ObjOk X.prog X.w H s.heap a (.lst xs) from I.hok a _ ea)
  exact a0F a1I I.kIn ⟨_,h1,rfl⟩ e (fun z=>nomatch z) h
 | @frz a ob xs ea =>
  cases (show u=Value.ref a from rx)
  obtain ⟨_,_,_,n,_,h1⟩:=(show ObjOk X.prog X.w H s.heap a (.frz ob (.lst xs)) from I.hok a _ ea)
  exact a0F a1I I.kIn ⟨_,h1,rfl⟩ e (fun z=>nomatch z) h
 | @tup a xs ea =>
  cases (show u=Value.ref a from rx)
  obtain ⟨_,_,_,p⟩:=(show ObjOk X.prog X.w H s.heap a (.tup xs) from I.hok a _ ea)
  obtain ⟨o,h1,h2,_⟩:=p
  exact a0F a17 I.kIn ⟨o,h1,h2⟩ e (fun z=>nomatch z) h
 | @dK a kvs ea =>
  cases (show u=Value.ref a from rx)
  obtain ⟨_,_,vs,_,p⟩:=(show ObjOk X.prog X.w H s.heap a (.dK kvs) from I.hok a _ ea)
  obtain ⟨o,es,ep,h1,h2,_⟩:=p
  exact a0F a2b I.kIn ⟨o,h1,h2.1⟩ e (fun z=>nomatch z) h
 | @dT a kvs ea =>
  cases (show u=Value.ref a from rx)
  obtain ⟨_,_,xs,_,o,es,ep,h1,h2,_⟩:=(show ObjOk X.prog X.w H s.heap a (.dT kvs) from I.hok a _ ea)
  exact a0F a2b I.kIn ⟨o,h1,h2.1⟩ e (fun z=>nomatch z) h
 | @ins a C dx fs ea cl ha hn htk hm =>
  cases (show u=Value.ref a from rx)
  obtain ⟨mA,O,_⟩:=oY I.hok ea
  obtain ⟨od,J,_⟩:=O.look
  exact a0F (PySem.W.kitx_own (cl.get _) cl.hd ha hn htk hm) I.kIn J e (fun z=>nomatch z) h
end
end L2
namespace L2
open PySem PySem.Spec PyProof.Rows
structure Room (k:Nat)(A:Around):Prop where
 hd:A.handled=none
 dp:A.depth+3 * k+5 < recursionLimit
 un:A.units+16 * k+200 < cLine
theorem Room.deeper {k:Nat}{A:Around}(r:Room (k+1) A)(env:Env):Room k (A.deeper env) :=
 ⟨r.hd,by have:=r.dp; show A.depth+1+3 * k+5 < _; omega,by have:=r.un; show A.units+3+16 * k+200 < _; omega⟩
theorem Room.depth {k:Nat}{A:Around}(r:Room k A):A.depth < recursionLimit:=by have:=r.dp; omega
theorem Room.units {k:Nat}{A:Around}(r:Room k A):A.units+64 < cLine:=by have:=r.un; omega
noncomputable def t9:TA:=fun _ H Q=>Q [] H
noncomputable def jd (ta:TE)(tr:TA):TA:=fun σ H Q=>ta σ H fun x H1=>tr σ H1 fun xs H2=>Q (x::xs) H2
section
variable {X:Cx}{e:Expr}{es:List Expr}{te:TE}{t:TA}{pos:Pos}
theorem fI:PA X [] t9:=fun _ _ _ _ H Q I h=>Calls.spliced_nil ⟨[],H,I,.nil,h⟩
theorem b8 (ha:PE X e te)(hr:PA X es t)(hs:starEach (e::es) X.env=(false,eval e X.env)::starEach es X.env:=by rfl):PA X (e::es) (jd te t):=by
 intro pos pins s σ H Q I h
 rw [hs]
 show wpAny _ _ (spliced ((false,eval e X.env)::backTo pos (starEach es X.env))) _ _ s
 refine Calls.spliced_cons (thn (ha pins s σ H _ I h) fun u s1 ⟨x,H1,I1,r1,q1⟩=>?_)
 exact thn (hr pos pins s1 σ H1 _ I1 q1) fun us s2 ⟨xs,H2,I2,r2,q2⟩=>⟨x::xs,H2,I2,.cons r1 r2,q2⟩
noncomputable def yn (t:TA):TE:=fun σ H Q=>t σ H fun xs H1=>xs.length<=sizeLine/\∀ p,H1 p=none->Q (.ref p) (upd H1 p (.tup xs))
noncomputable def yx (t:TA):TE:=fun σ H Q=>t σ H fun xs H1=>xs.length<=sizeLine/\∀ p,H1 p=none->Q (.ref p) (upd H1 p (.lst xs))
theorem sF {x1}(h:PA X es t):PE X (.Tuple es x1 pos) (yn t):=by
 intro pins s σ H Q I hq
 refine wpAny_Tuple_spliced (thn (h pos pins s σ H _ I hq) fun us s1 ⟨xs,H1,I1,r,z,q⟩=>⟨by rw [<- r.length]; exact z,?_⟩)
 have hf:H1 s1.heap.objs.size=none:=I1.hok.fresh (a0k _)
 refine ⟨.ref s1.heap.objs.size,upd H1 s1.heap.objs.size (.tup xs),I1.laid (t':=s1.toks) (fun b u e=>Heap.get?_push_of_some _ e) (a0k _) ?_,rfl,q _ hf⟩
 exact ⟨z,us,r,⟨_,Heap.get?_push_size _ rfl,rfl,_,rfl⟩⟩
theorem uJ (h:PA X es t):PE X (.List es pos) (yx t):=by
 intro pins s σ H Q I hq
 refine wpAny_List_spliced (thn (h pos pins s σ H _ I hq) fun us s1 ⟨xs,H1,I1,r,z,q⟩=>⟨by rw [<- r.length]; exact z,?_⟩)
 have hf:H1 s1.heap.objs.size=none:=I1.hok.fresh (a0k _)
 refine ⟨.ref s1.heap.objs.size,upd H1 s1.heap.objs.size (.lst xs),I1.laid (t':=s1.toks) (fun b u e=>Heap.get?_push_of_some _ e) (a0k _) ?_,rfl,q _ hf⟩
 exact ⟨z,us,0,r,Heap.get?_push_size _ rfl⟩
end
noncomputable abbrev Sp:=List V->Hp->VK->XK->Prop
noncomputable abbrev CXT:=List Env->Hp->Shared->XK->Value->Shared->Prop
structure oI (P:Program)(w:World)(K:a0a)(mg:Str->Option Value)(base:Heap)(A:Around)(outer:List Env)(s:Shared)(H:Hp):Prop where
 frames:A.frames=some outer
 mod:Mod K mg base
 bs:∀ b o,base.get? b=some o->s.heap.get? b=some o/\H b=none
 bsz:base.objs.size<=s.heap.objs.size
 funs:s.heap.FunFrames base outer
 frf:∀ b∈frs outer,H b=none
 hok:HOk P w H s.heap
 bare:AllBare s.gens
noncomputable def CE (outer:List Env)(P:Program)(w:World)(H:Hp)(s:Shared)(Q:VK)(u:Value)(s':Shared):Prop :=
 ∃ v H',s'.os=s.os/\AllBare s'.gens/\Un (frs outer) [] H H' s.heap s'.heap/\HOk P w H' s'.heap/\RelV v u/\Q v H'
noncomputable def CR (CX:CXT)(outer:List Env)(P:Program)(w:World)(H:Hp)(s:Shared)(Q:VK)(E:XK)(r:Result)(s':Shared):Prop :=
 match r with
 | .ok (.ret u)=>CE outer P w H s Q u s'
 | .ok _=>False
 | .error e=>CX outer H s E e s'
structure cx (P:Program)(w:World)(K:a0a)(mg:Str->Option Value)(base:Heap)(CX:CXT)(k:Nat)(f:Addr)(fd:FuncData)(ps:List Str)(sp:Sp):Prop where
 len:∀ vs H Q E,sp vs H Q E->vs.length=ps.length
 run:∀ (A:Around) (outer:List Env) (s:Shared) (H:Hp) (args:Args) (us:List Value) (vs:List V) (Q:VK) (E:XK),Room k A->oI P w K mg base A outer s H->BindsTo s fd args (ps.zip us)->Vals vs us->sp vs H Q E ->
  codeAny (model P w) A (.call (.ref f) args) (CR CX outer P w H s Q E) s
section
variable {X:Cx}{pins:List (Addr×Obj)}{σ:St}{H:Hp}{s s':Shared}
theorem Inv.env0 (I:Inv X pins σ H s):oI X.prog X.w X.K X.mg X.base X.A X.stack s H :=
 ⟨I.ok.frames,I.ok.mod,I.bs,a0r I.ok.bsz I.sz,I.stack,I.stkFree,I.hok,I.bare⟩
theorem Inv.after {Q:VK}{u:Value}(I:Inv X pins σ H s)(h:CE X.stack X.prog X.w H s Q u s'):EP X pins σ Q u s':=by
 obtain ⟨v,H',os,bare,un,hok,r,q⟩:=h
 obtain ⟨hh,g,d,t,os'⟩:=s'
 obtain rfl:os'=s.os:=os
 exact ⟨v,H',I.call (h':=hh) (g':=g) (d':=d) (t':=t) (ch:=[]) un hok bare (fun b z=>absurd z (by simp)),r,q⟩
end
noncomputable def yy (sp:Sp)(dvs:List V)(E:XK)(t:TA):TE:=fun σ H Q=>t σ H fun vs H1=>sp (vs++dvs) H1 Q E
noncomputable def Binds (K:a0a)(fd:FuncData)(ps:List Str)(ds:List Value):Prop :=
 ∀ (s:Shared) (us:List Value),K.In s.heap->(us++ds).length=ps.length->BindsTo s fd ⟨us,[]⟩ (ps.zip (us++ds))
theorem Binds.all {K:a0a}{fd:FuncData}{ps:List Str}(h:∀ us:List Value,us.length=ps.length->bindArgs fd ⟨us,[]⟩=pure (ps.zip us)):Binds K fd ps []:=fun s us _ hl=>by
 rw [a0L] at hl ⊢
 exact .of_eq (h us hl)
noncomputable def iy (CX:CXT)(X:Cx)(E:XK):Prop:=∀ (pins:List (Addr×Obj)) (σ:St) (H:Hp) (s:Shared) (e:Value) (s':Shared),Inv X pins σ H s->CX X.stack H s E e s'->X.xe e s'
section
variable {X:Cx}{CX:CXT}{k:Nat}{f C:Addr}{fd:FuncData}{ps:List Str}{sp:Sp}{dvs:List V}{ds:List Value}{E:XK}{x m:Str}{p pos apos:Pos}{e o:Expr}{es:List Expr}{ta:TE}{t:TA}
theorem sD {pins:List (Addr×Obj)}{σ:St}{H:Hp}{s:Shared}{Q:VK}{us:List Value}{vs:List V}(F:cx X.prog X.w X.K X.mg X.base CX k f fd ps sp)(hr:Room k X.A)(hb:Binds X.K fd ps ds)(hd:Vals dvs ds)(hx:iy CX X E)
  (I:Inv X pins σ H s) (r:Vals vs us) (h:sp (vs++dvs) H Q E):wpAny (model X.prog X.w) X.A (call (.ref f) us) (EP X pins σ Q) X.xe s:=by
 have r2:Vals (vs++dvs) (us++ds):=r.append hd
 have hl:(us++ds).length=ps.length:=by rw [<- r2.length]; exact F.len _ _ _ _ h
 refine wpAny_call (codeAny_mono (F.run X.A X.stack s H ⟨us,[]⟩ (us++ds) (vs++dvs) Q E hr I.env0 (hb s us I.kIn hl) r2 h) fun r s' hq=>?_)
 cases r with
 | error e=>exact hx pins σ H s e s' I hq
 | ok fl =>
  cases fl with
  | ret u=>exact I.after hq
  | next=>exact a1f hq
  | brk=>exact a1f hq
  | cont=>exact a1f hq
theorem o9 (F:cx X.prog X.w X.K X.mg X.base CX k f fd ps sp)(hr:Room k X.A)(hg:Gl X x)(hm:X.mg x=some (.ref f))(hk:a1t X.K (.ref f)=true)(hb:Binds X.K fd ps ds)(hd:Vals dvs ds)(hx:iy CX X E)
  (ha:PA X (e::es) t) (hdb:(x==("__debug__":Str))=false:=by decide) (he:starEach (e::es) X.env=(false,eval e X.env)::starEach es X.env:=by rfl) (hpl:(backTo pos (starEach es X.env)).any (·.1)=false:=by rfl) :
  PE X (.Call (.Name x p) (e::es) [] pos) (yy sp dvs E t):=by
 intro pins s σ H Q I h
 refine wpAny_Call_Name_kw (i9 I hg hm ?_ hdb)
 refine PySem.W.callWith_K (h₀:=X.base) I.ok.mod.kin hk (thn (ha pos pins s σ H _ I h) fun us s1 ⟨vs,H1,I1,r,q⟩=>⟨I1.kIn,?_⟩) he hpl
 exact sD F hr hb hd hx I1 r q
end
structure aw (N P:List Str)(sc:Scope):Prop where
 kind:sc.kind=.function
 co:sc.isCoroutine=false
 gen:sc.isGenerator=false
 nd:N.Nodup
 pre:N.take P.length=P
 par:∀ x∈P,sc.names.lookup x=some .local\/sc.names.lookup x=some .cell
 nofree:∀ y∈sc.names,y.2≠.free
theorem eC {kindOf:Str->Option NameKind}{x:Str}:∀ {binds:List (Str×Value)} {m:Str->Option Value},(∀ v,(x,v) ∉ binds)->bindL kindOf binds m x=m x
 | [],_,_=>rfl
 | (n,v)::r,m,h=>by
  unfold bindL
  rw [eC fun w hw=>h w (a0n _ hw)]
  split
  ·have:x≠n:=by rintro rfl; exact h v a0o
   simp [this]
  ·rfl
theorem el {kindOf:Str->Option NameKind}{x:Str}:∀ {binds:List (Str×Value)} {m:Str->Option Value},(∀ v,(x,v) ∉ binds)->bindC kindOf binds m x=m x
 | [],_,_=>rfl
 | (n,v)::r,m,h=>by
  unfold bindC
  rw [el fun w hw=>h w (a0n _ hw)]
  split
  ·rfl
  ·have:x≠n:=by rintro rfl; exact h v a0o
   simp [this]
theorem eJ {kindOf:Str->Option NameKind}{x:Str}{v:Value}:∀ {P:List Str} {vs:List Value} {i:Nat} {m:Str->Option Value},P.Nodup->P[i]?=some x->vs[i]?=some v->kindOf x=some .local ->
  bindL kindOf (P.zip vs) m x=some v
 | [],_,_,_,_,h,_,_=>by simp at h
 | _::_,[],_,_,_,_,h,_=>by simp at h
 | p::P,w::vs,0,m,nd,h1,h2,hk=>by
  simp at h1 h2; subst h1; subst h2
  show bindL kindOf ((p,w)::P.zip vs) m p=_
  unfold bindL
  rw [eC fun v hv=>(a1d.mp nd).1 (a1W hv).1,if_pos hk]
  simp
 | p::P,w::vs,i+1,m,nd,h1,h2,hk=>by
  show bindL kindOf ((p,w)::P.zip vs) m x=_
  unfold bindL
  exact eJ (i:=i) (a1d.mp nd).2 (by simpa using h1) (by simpa using h2) hk
theorem eM {kindOf:Str->Option NameKind}{x:Str}{v:Value}:∀ {P:List Str} {vs:List Value} {i:Nat} {m:Str->Option Value},P.Nodup->P[i]?=some x->vs[i]?=some v->kindOf x≠some .local ->
  bindC kindOf (P.zip vs) m x=some v
 | [],_,_,_,_,h,_,_=>by simp at h
 | _::_,[],_,_,_,_,h,_=>by simp at h
 | p::P,w::vs,0,m,nd,h1,h2,hk=>by
  simp at h1 h2; subst h1; subst h2
  show bindC kindOf ((p,w)::P.zip vs) m p=_
  unfold bindC
  rw [el fun v hv=>(a1d.mp nd).1 (a1W hv).1,if_neg hk]
  simp
 | p::P,w::vs,i+1,m,nd,h1,h2,hk=>by
  show bindC kindOf ((p,w)::P.zip vs) m x=_
  unfold bindC
  exact eM (i:=i) (a1d.mp nd).2 (by simpa using h1) (by simpa using h2) hk
noncomputable def start (N:List Str)(vs:List V):St:=vs.map some++a0g (N.length-vs.length) none
noncomputable def fD (CX:CXT)(P:Program)(w:World)(K:a0a)(mg:Str->Option Value)(base:Heap)(N:List Str)(qual:Str)(scope:Scope)(f:Addr)(cd:Value)(A:Around)(outer:List Env)(s:Shared)(H:Hp)(E:XK):Cx where
 prog:=P
 w:=w
 K:=K
 mg:=mg
 base:=base
 A:=A.deeper (envOfC qual scope s.heap.objs.size f cd)
 N:=N
 s₀:=s
 H₀:=H
 env:=envOfC qual scope s.heap.objs.size f cd
 outer:=outer
 stack:=envOfC qual scope s.heap.objs.size f cd::outer
 ex:=[]
 calm:=true
 fn:=fun _=>true
 pn:=[]
 xe:=fun e s'=>wpAny (model P w) (A.deeper (envOfC qual scope s.heap.objs.size f cd)) (leaving (envOfC qual scope s.heap.objs.size f cd) e) (fun _ s''=>CX outer H s E e s'') (fun e' s''=>CX outer H s E e' s'') s'
theorem fS {sc:Scope}{n:Nat}{x:Str}(h:sc.names.lookup x=some .cell):∃ c,(cellsFrom n sc.names []).lookup x=some c:=by
 have q:=a1Q sc.names n [] (.inl h)
 exact a1k.mp q
theorem jM {CX:CXT}{P:Program}{w:World}{K:a0a}{mg:Str->Option Value}{base:Heap}{N ps:List Str}{qual:Str}{scope:Scope}{f:Addr}{cd:Value}{A:Around}{outer:List Env}{s s1:Shared}{H:Hp}{E:XK}{us:List Value}{vs:List V}
  (S:aw N ps scope) (hd:A.handled=none) (e0:oI P w K mg base A outer s H) (hl:vs.length=ps.length) (r:Vals vs us)
  (x:InCallC s s.heap.objs.size (bindL (envOfC qual scope s.heap.objs.size f cd).kindOf (ps.zip us) fun _=>none) (cellsFrom (s.heap.objs.size+1) scope.names []) (bindC (envOfC qual scope s.heap.objs.size f cd).kindOf (ps.zip us) fun _=>none) s1) :
  Inv (fD CX P w K mg base N qual scope f cd A outer s H E) [] (start N vs) H s1:=by
 have hpl:ps.length<=N.length:=by have:=congrArg a2p S.pre; rw [a1w] at this; omega
 obtain ⟨h1,tk,rfl,hk⟩:=x.done
 have noA:∀ b:Addr,b ∉ (fD CX P w K mg base N qual scope f cd A outer s H E).ex:=fun b z=>absurd (show b∈([]:List Addr) from z) (by simp)
 refine ⟨⟨e0.mod,S.kind,rfl,rfl,a0k _,fun y z c h1 h2=>?_,fun y hy=>?_,fun y c _ h=>?_,fun _=>hd,Around.frames_deeper e0.frames,.inr ⟨rfl,rfl⟩,fun b z=>absurd z (noA b),e0.bs,e0.bsz,fun b _ _=>noA b,fun b z=>absurd z (noA b),e0.funs,e0.frf⟩,
  rfl,e0.bare,Un.kept hk,⟨_,x.toInCall.ns,fun i y v h1 h2 h3=>?_⟩,fun y c h=>⟨_,x.cell y c h⟩,e0.hok.fresh (a0k _),fun y c h=>?_,fun p hp=>absurd (show p∈([]:List (Addr×Obj)) from hp) (by simp),e0.hok.kept hk,?_⟩
 ·exact name_of_addr x.apart (a0Q h1) (a0Q h2)
 ·have hy:scope.names.lookup y=some .cell\/scope.names.lookup y=some .free:=hy
  rcases hy with hy | hy
  ·exact fS hy
  ·exact absurd rfl (S.nofree _ (a0Q hy))
 ·exact a1U (x.above y c (a0Q h))
 ·have hi:i < vs.length:=by
   unfold start at h2
   by_cases hi:i < vs.length
   ·exact hi
   ·rw [a0K (by simpa using hi)] at h2
    rw [a1m] at h2
    split at h2<;>cases h2
  have ha:vs[i]?=some v:=by
   unfold start at h2
   rw [a0T (by simpa using hi),a0t] at h2
   cases e:vs[i]? with
   | none=>rw [e] at h2; cases h2
   | some a=>rw [e] at h2; cases h2; rfl
  obtain ⟨u,hu,rv⟩:=r.get ha
  have hp:ps[i]?=some y:=by
   rw [<- S.pre,List.getElem?_take_of_lt (by omega)]; exact h1
  have ndP:ps.Nodup:=by rw [<- S.pre]; exact S.nd.sublist (List.take_sublist _ _)
  refine ⟨u,rv,?_⟩
  rcases S.par y (a02 hp) with k | k
  ·exact .inl ⟨k,eJ ndP hp hu k⟩
  ·obtain ⟨c,e⟩:=fS (n:=s.heap.objs.size+1) k
   refine .inr ⟨.inl k,c,e,?_⟩
   have q:=x.cell y c e
   rw [eM ndP hp hu (by show scope.names.lookup y≠_; rw [k]; decide)] at q
   exact q
 ·exact e0.hok.fresh (a1U (x.above y c (a0Q h)))
 ·unfold start
  show _=N.length
  rw [a0d,a0f,a0H]
  omega
theorem vZ {CX:CXT}{P:Program}{w:World}{K:a0a}{mg:Str->Option Value}{base:Heap}{k:Nat}{f:Addr}{name qual:Str}{params:Arguments}{body:List Stmt}{scope:Scope}{dV kV doc pm cdv ct oc:Value}{an od:Option Addr}
  {osl:Array (Option Value)} {N ps:List Str} {sp:Sp} (lk:K.lookup f=some ⟨oc,od,.func (a04 name qual params body scope dV kV doc pm an cdv ct),osl⟩) (hcd:a1F K cdv qual=true) (S:aw N ps scope)
  (len:∀ vs H Q E,sp vs H Q E->vs.length=ps.length)
  (hbody:∀ (A:Around) (outer:List Env) (s:Shared) (H:Hp) (vs:List V) (Q:VK) (E:XK),Room k (A.deeper (envOfC qual scope s.heap.objs.size f cdv))->sp vs H Q E ->
   ∃ t,PSs (fD CX P w K mg base N qual scope f cdv A outer s H E) body t/\t { nx:=fun _ H'=>Q .non H',rt:=Q } (start N vs) H) :
  cx P w K mg base CX (k+1) f (a04 name qual params body scope dV kV doc pm an cdv ct) ps sp:=by
 refine ⟨len,fun A outer s H args us vs Q E hr e0 hb r hsp=>?_⟩
 have hl:=len _ _ _ _ hsp
 have KX:K.In s.heap:=e0.mod.kin.keeps fun b o e=>(e0.bs b o e).1
 have lim:s.heap.NoLimit:=e0.mod.nolimit.keeps fun b o e=>(e0.bs b o e).1
 have hkind:∀ y∈ps.zip us,scope.names.lookup y.1=some .local\/(scope.names.lookup y.1=some .cell/\((cellsFrom (s.heap.objs.size+1) scope.names []).lookup y.1).isSome=true):=fun ⟨n,v⟩ hy=>by
  rcases S.par n (a1W hy).1 with q | q
  ·exact .inl q
  ·exact .inr ⟨q,a1Q _ _ _ (.inl q)⟩
 refine codeAny_call_function hr.depth (KX _ _ lk) rfl S.co S.gen rfl (PySem.W.codeRec_of KX hcd) (hb _ _ _ _ ?_)
 refine wpAny_newFunctionEnv_cells S.kind hkind fun env he s1 x=>?_
 subst he
 refine ⟨lim.keeps x.toInCall.keep,codeAny_func ?_⟩
 obtain ⟨t,ht,hq⟩:=hbody A outer s H vs Q E (hr.deeper _) hsp
 have I:Inv (fD CX P w K mg base N qual scope f cdv A outer s H E) [] (start N vs) H s1:=jM S hr.hd e0 hl r x
 refine wpAny_mono (ht [] s1 (start N vs) H _ I hq) (fun fl s' hs=>?_) fun e s' hs=>hs
 have fin:∀ {σ':St} {H':Hp} {v:V} {u:Value},Inv (fD CX P w K mg base N qual scope f cdv A outer s H E) [] σ' H' s'->RelV v u->Q v H'->CE outer P w H s Q u s' :=
  fun {σ' H' v u} J rv q=>⟨v,H',J.os,J.bare,J.base,J.hok,rv,q⟩
 cases fl with
 | ret u =>
  obtain ⟨v,σ',H',J,rv,q⟩:=hs
  exact fin J rv q
 | next =>
  obtain ⟨σ',H',J,q⟩:=hs
  exact fin (v:=V.non) (u:=Value.none) J rfl q
 | brk =>
  obtain ⟨_,_,_,q⟩:=hs
  exact a1f q
 | cont =>
  obtain ⟨_,_,_,q⟩:=hs
  exact a1f q
end L2
namespace L2
open PySem PySem.Spec PyProof.Rows
section
variable {X:Cx}{x:Str}{p pos:Pos}{e:Expr}{es:List Expr}{t:TA}{id T:String}{r:List V->Hp->VK->Prop}
noncomputable def tCB (r:List V->Hp->VK->Prop)(t:TA):TE:=fun σ H Q=>t σ H fun vs H1=>r vs H1 Q
theorem cu (hc:dX X (.builtin id) r)(hg:Gl X x)(hm:X.mg x=none)(hv:bootBuiltins x=some (.builtin id))(ha:PA X (e::es) t)(hn:x≠"__name__":=by decide)(hdb:(x==("__debug__":Str))=false:=by decide)
  (he:starEach (e::es) X.env=(false,eval e X.env)::starEach es X.env:=by rfl) (hpl:(backTo pos (starEach es X.env)).any (·.1)=false:=by rfl):PE X (.Call (.Name x p) (e::es) [] pos) (tCB r t):=by
 intro pins s σ H Q I h
 refine wpAny_Call_Name_kw (fu I hg hm hv ?_ hn hdb)
 exact a2c (thn (ha pos pins s σ H _ I h) fun us s1 ⟨vs,H1,I1,r1,q1⟩=>hc pins s1 σ H1 vs us Q I1 r1 q1) he hpl
theorem eD (hc:dX X (.type T) r)(hg:Gl X x)(hm:X.mg x=none)(hv:bootBuiltins x=some (.type T))(ha:PA X (e::es) t)(hn:x≠"__name__":=by decide)(hdb:(x==("__debug__":Str))=false:=by decide)
  (he:starEach (e::es) X.env=(false,eval e X.env)::starEach es X.env:=by rfl) (hpl:(backTo pos (starEach es X.env)).any (·.1)=false:=by rfl):PE X (.Call (.Name x p) (e::es) [] pos) (tCB r t):=by
 intro pins s σ H Q I h
 refine wpAny_Call_Name_kw (fu I hg hm hv ?_ hn hdb)
 exact a1z (thn (ha pos pins s σ H _ I h) fun us s1 ⟨vs,H1,I1,r1,q1⟩=>hc pins s1 σ H1 vs us Q I1 r1 q1) he hpl
end
end L2
namespace HT
open PySem PyProof.Rows
section
variable {prog:Program}{w:World}{A:Around}{E:Value->Shared->Prop}{s:Shared}
theorem cat_tup {t b:Addr}{vs ws:List Value}{Q:Value->Shared->Prop}(ht:IsTup s.heap t vs.toArray)(hb:IsTup s.heap b ws.toArray)(hv:vs≠[])
  (h1:ws=[]->Q (.ref t) s) (h2:ws≠[]->Q (.ref s.heap.objs.size) { s with heap:=s.heap.push { cls:=.type "tuple",data:=.seq (vs++ws).toArray } })
  (hsz:vs.length+ws.length<=sizeLine):wpAny (model prog w) A (binaryOp .Add (.ref t) (.ref b)) Q E s:=by
 obtain ⟨⟨cls,dd,data,sl⟩,ho,hc,n,hd⟩:=id ht
 obtain ⟨⟨cls2,dd2,data2,sl2⟩,ho2,hc2,n2,hd2⟩:=id hb
 simp only at hc hd hc2 hd2
 subst hc hd hc2 hd2
 have e:vs.toArray++ws.toArray=(vs++ws).toArray:=by simp
 by_cases hw:ws=[]
 ·exact concat_meets ⟨_,ho,rfl⟩ ⟨_,ho2,rfl⟩ noFill_tuple_add seq_tuple_add a1R a1M (a1J _ _)
   (tuple_addW1 t b vs.toArray ws.toArray n n2 dd dd2 sl sl2 (by simpa using hv) (by simp [hw])) ⟨ho,ho2,h1 hw⟩
 ·refine concat_meets ⟨_,ho,rfl⟩ ⟨_,ho2,rfl⟩ noFill_tuple_add seq_tuple_add a1R a1M (a1J _ _)
   (tuple_addW2 t b vs.toArray ws.toArray n n2 dd dd2 sl sl2 (by simpa using hv) (by simpa using hw) (by rw [a0i,a0i]; exact hsz)) ⟨ho,ho2,?_⟩
  rw [e]
  exact h2 hw
noncomputable def sIx (n d:Nat):Option Int->Nat
 | none=>d
 | some v=>if v < 0 then (v+(n:Int)).toNat else min v.toNat n
theorem uq (n d:Nat)(hd:d<=n)(o:Option Int):sIx n d o<=n:=by
 cases o with
 | none=>exact hd
 | some v =>
  show (if v < 0 then (v+(n:Int)).toNat else min v.toNat n)<=n
  by_cases hv:v < 0
  ·rw [if_pos hv]; omega
  ·rw [if_neg hv]; exact Nat.min_le_right _ _
theorem jb (v:Int)(n d:Nat):(if v < 0 then max (v+(n:Int)) 0 else min v (n:Int))=((sIx n d (some v):Nat):Int):=by
 show (if v < 0 then max (v+(n:Int)) 0 else min v (n:Int))=(((if v < 0 then (v+(n:Int)).toNat else min v.toNat n):Nat):Int)
 by_cases hv:v < 0
 ·simp only [if_pos hv]; omega
 ·simp only [if_neg hv]; omega
theorem ij (lo hi:Option Int)(n:Nat):Builtin.Slice.sliceAdjust lo hi 1 (n:Int)=(((sIx n 0 lo:Nat):Int),((sIx n n hi:Nat):Int)):=by
 have h1:¬ ((1:Int) < 0):=by omega
 unfold Builtin.Slice.sliceAdjust
 simp only [h1,if_false]
 refine Prod.ext ?_ ?_
 ·cases lo with
  | none=>rfl
  | some v=>exact jb v n 0
 ·cases hi with
  | none=>rfl
  | some v=>exact jb v n n
theorem ir (i j:Nat):Builtin.Slice.slicePlaces (i:Int) (j:Int) 1=j-i:=by
 unfold Builtin.Slice.slicePlaces
 have h1:(1:Int) > 0:=by omega
 simp only [h1,if_true,Int.ediv_one]
 split<;>omega
theorem d7 {v:Value}{o:Option Int}{Q:Option Int->Shared->Prop}(p:IsPart v o)(h:Q o s):wpAny (model prog w) A (Builtin.Slice.slicePartIndex v) Q E s:=by
 cases p with
 | none=>exact slicePart_none h
 | int i t=>exact slicePart_int h
theorem sliceApplied_gen {sl:Addr}{vl vu:Value}{lo hi:Option Int}{n:Nat}{Q:Int×Int×Nat->Shared->Prop}(hs:s.heap.IsSliceOf sl vl vu .none)(pl:IsPart vl lo)(pu:IsPart vu hi)
  (h:Q (((sIx n 0 lo:Nat):Int),1,sIx n n hi-sIx n 0 lo) s):wpAny (model prog w) A (Builtin.Slice.sliceApplied (.ref sl) (pure (n:Int))) Q E s:=by
 obtain ⟨os,hos,hcs,hds⟩:=id hs
 unfold Builtin.Slice.sliceApplied Builtin.Slice.sliceFields
 refine wpAny_bind (wpAny_bind (wpAny_field hos hds (x:=vl) rfl (wpAny_bind (wpAny_field hos hds (x:=vu) rfl (wpAny_bind (wpAny_field hos hds (x:=.none) rfl (wpAny_pure ?_)))))))
 refine wpAny_bind (slicePart_none ?_)
 show wpAny _ _ (if ((1:Int)==0)=true then _ else _) _ _ s
 rw [if_neg (by decide)]
 refine wpAny_bind (d7 pl (wpAny_bind (d7 pu (wpAny_bind (wpAny_pure ?_)))))
 show wpAny _ _ (match Builtin.Slice.sliceAdjust lo hi 1 (n:Int) with | (lo,hi)=>pure (lo,(1:Int),Builtin.Slice.slicePlaces lo hi 1)) _ _ s
 rw [ij lo hi n]
 show wpAny _ _ (pure (((sIx n 0 lo:Nat):Int),(1:Int),Builtin.Slice.slicePlaces ((sIx n 0 lo:Nat):Int) ((sIx n n hi:Nat):Int) 1)) _ _ s
 rw [ir]
 exact wpAny_pure h
theorem lE (xs:Array Value)(i k:Nat):((a0Y k).filterMap fun (m:Nat)=>xs[((i:Int)+(m:Int) * 1).toNat]?).toArray=((xs.toList.drop i).take k).toArray:=by
 have e:(fun (m:Nat)=>xs[((i:Int)+(m:Int) * 1).toNat]?)=fun m=>xs[i+m]?:=by
  funext m
  have:((i:Int)+(m:Int) * 1).toNat=i+m:=by omega
  rw [this]
 rw [e]
 have:=pick_run xs i k
 rw [List.filterMap_map] at this
 have e2:((fun x=>xs[x]?) ∘ fun x=>i+x)=fun m=>xs[i+m]?:=rfl
 rw [e2] at this
 rw [this]
theorem getItem_tuple_cut {t sl:Addr}{items:Array Value}{vl vu:Value}{lo hi:Option Int}{Q:Value->Shared->Prop}(ht:IsTup s.heap t items)(hs:s.heap.IsSliceOf sl vl vu .none)(pl:IsPart vl lo)(pu:IsPart vu hi)
  (hw:¬ (sIx items.size 0 lo=0/\sIx items.size items.size hi=items.size))
  (h:Q (.ref s.heap.objs.size) { s with heap:=s.heap.push { cls:=.type "tuple",data:=.seq ((items.toList.drop (sIx items.size 0 lo)).take (sIx items.size items.size hi-sIx items.size 0 lo)).toArray } })
  (hsz:items.size<=sizeLine):wpAny (model prog w) A (getItem (.ref t) (.ref sl)) Q E s:=by
 have htake:sizeOk (.seq ((items.toList.drop (sIx items.size 0 lo)).take (sIx items.size items.size hi-sIx items.size 0 lo)).toArray):=by
  show ((items.toList.drop (sIx items.size 0 lo)).take (sIx items.size items.size hi-sIx items.size 0 lo)).toArray.size<=sizeLine
  rw [a0i,a1w,a1i,a0P]
  omega
 have hj:sIx items.size items.size hi<=items.size:=uq _ _ (a0k _) hi
 obtain ⟨os,hos,hcs,hds⟩:=id hs
 have hTs:s.TypeIs (.ref sl) "slice":=⟨os,hos,hcs⟩
 unfold getItem
 try with_reducible refine wpAny_holding ?_
 first | refine wpAny_bind (wpAny_pure ?_) | skip
 refine wpAny_bind (wpAny_sequenceKey ht.typeIs (by decide) ?_)
 refine wpAny_bind (wpAny_callSpecial?_slot (name:=Str.ofString "__getitem__") ht.typeIs a0B
  (wpAny_call_entry a0B ht.typeIs entry_tuple_getitem ?_ (args_tuple_getitem _ _)))
 show wpAny _ _ (Builtin.Tuple.tupleItemsOf (.ref t) >>= _) _ _ s
 refine wpAny_bind (tupleItemsOf_ ht ?_)
 refine wpAny_bind (wpAny_typeOf hTs ?_)
 rw [if_pos (by decide)]
 refine wpAny_bind (sliceApplied_gen hs pl pu ?_)
 have hno:¬ ((((sIx items.size 0 lo:Nat):Int)==0&&(1:Int)==1&&(sIx items.size items.size hi-sIx items.size 0 lo)==items.size)=true):=by
  intro q
  rw [a0c,a0c] at q
  have q1:((sIx items.size 0 lo:Nat):Int)=0:=eq_of_beq q.1.1
  have q2:sIx items.size items.size hi-sIx items.size 0 lo=items.size:=eq_of_beq q.2
  exact hw ⟨by omega,by omega⟩
 show wpAny _ _ (if (((sIx items.size 0 lo:Nat):Int)==0&&(1:Int)==1&&(sIx items.size items.size hi-sIx items.size 0 lo)==items.size)=true then _ else _) _ _ s
 rw [if_neg hno,lE]
 first
  | exact wpAny_bind (m:=Builtin.Tuple.tupleExact _) (wpAny_newObj_type (wpAny_pure ⟨_,rfl,wpAny_pure h⟩) htake)
  | exact wpAny_bind (m:=Builtin.Tuple.tupleExact _) (wpAny_newObj_type (wpAny_bind (wpAny_pure (wpAny_pure ⟨_,rfl,wpAny_pure h⟩))) htake)
  | exact wpAny_bind (wpAny_bind (m:=Builtin.Tuple.tupleExact _) (wpAny_newObj_type (wpAny_pure (wpAny_pure ⟨_,rfl,wpAny_pure h⟩)) htake))
  | exact wpAny_bind (wpAny_bind (m:=Builtin.Tuple.tupleExact _) (wpAny_newObj_type (wpAny_pure ⟨_,rfl,wpAny_pure h⟩) htake))
end
end HT
namespace L2
open PySem PySem.Spec PyProof.Rows
noncomputable abbrev TO:=St->Hp->(Option Int->Hp->Prop)->Prop
noncomputable def PO (X:Cx)(e:Option Expr)(t:TO):Prop :=
 ∀ (pins:List (Addr×Obj)) (s:Shared) (σ:St) (H:Hp) (Q:Option Int->Hp->Prop),Inv X pins σ H s->t σ H Q ->
  wpAny (model X.prog X.w) X.A (evalPart e X.env) (fun u s'=>∃ o H',Inv X pins σ H' s'/\IsPart u o/\Q o H') X.xe s
noncomputable def qc:TO:=fun _ H Q=>Q none H
noncomputable def yJ (t:TE):TO:=fun σ H Q=>t σ H fun x H1=>∃ i,x=.int i/\Q (some i) H1
section
variable {X:Cx}{e:Expr}{te:TE}{lo hi:Option Expr}{tl th:TO}{pos p2:Pos}
theorem iV:PO X none qc:=by
 intro pins s σ H Q I h
 rw [evalPart_none]
 exact wpAny_pure ⟨none,H,I,.none,h⟩
theorem iU (h:PE X e te):PO X (some e) (yJ te):=by
 intro pins s σ H Q I hw
 rw [evalPart_some]
 refine thn (h pins s σ H _ I hw) fun u s1 ⟨x,H1,I1,r1,q1⟩=>?_
 obtain ⟨i,rfl,q⟩:=q1
 obtain ⟨t,rfl⟩:=r1
 exact ⟨some i,H1,I1,.int i t,q⟩
noncomputable def SlR (X:Cx)(r:V->Option Int->Option Int->Hp->VK->Prop):Prop :=
 ∀ (pins:List (Addr×Obj)) (s:Shared) (σ:St) (H:Hp) (x:V) (v vl vu:Value) (lo hi:Option Int) (sl:Addr) (Q:VK),Inv X pins σ H s->RelV x v->s.heap.IsSliceOf sl vl vu .none->IsPart vl lo->IsPart vu hi->r x lo hi H Q ->
  ∃ T id,typeLookup (.type T) "__getitem__"=pure (some (.builtin id))/\s.TypeIs v T/\wpAny (model X.prog X.w) X.A (getItem v (.ref sl)) (EP X pins σ Q) X.xe s
theorem SlR.or {r r':V->Option Int->Option Int->Hp->VK->Prop}(h:SlR X r)(h':SlR X r'):SlR X (fun x lo hi H Q=>r x lo hi H Q\/r' x lo hi H Q):=by
 intro pins s σ H x v vl vu lo hi sl Q I rx hs pl pu q
 rcases q with q | q
 ·exact h pins s σ H x v vl vu lo hi sl Q I rx hs pl pu q
 ·exact h' pins s σ H x v vl vu lo hi sl Q I rx hs pl pu q
noncomputable def tSl (r:V->Option Int->Option Int->Hp->VK->Prop)(te:TE)(tl th:TO):TE:=fun σ H Q=>te σ H fun x H1=>tl σ H1 fun l H2=>th σ H2 fun u H3=>r x l u H3 Q
theorem fY {r:V->Option Int->Option Int->Hp->VK->Prop}(hr:SlR X r)(he:PE X e te)(hl:PO X lo tl)(hu:PO X hi th):PE X (.Subscript e (.Slice lo hi none p2) pos) (tSl r te tl th):=by
 intro pins s σ H Q I h
 refine Subscript_ (thn (he pins s σ H _ I h) fun v s1 ⟨x,H1,I1,r1,q1⟩=>?_)
 refine wpAny_Slice (thn (hl pins s1 σ H1 _ I1 q1) fun vl s2 ⟨l,H2,I2,pl,q2⟩=>thn (hu pins s2 σ H2 _ I2 q2) fun vu s3 ⟨u,H3,I3,pu,q3⟩=>?_)
 rw [evalPart_none]
 refine wpAny_pure ?_
 have I4:Inv X pins σ H3 { s3 with heap:=s3.heap.push { cls:=.type "slice",data:=.fields #[vl,vu,.none] } }:=I3.kept (t':=s3.toks) fun b ob q=>Heap.get?_push_of_some _ q
 obtain ⟨T,id,hT,ht,hg⟩:=hr pins { s3 with heap:=s3.heap.push { cls:=.type "slice",data:=.fields #[vl,vu,.none] } } σ H3 x v vl vu l u s3.heap.objs.size Q I4 r1 (Heap.IsSliceOf.new ..) pl pu q3
 show wpAny (model X.prog X.w) X.A (subscriptTail e (.Slice lo hi none p2) v (.ref s3.heap.objs.size)) (EP X pins σ Q) X.xe { s3 with heap:=s3.heap.push { cls:=.type "slice",data:=.fields #[vl,vu,.none] } }
 exact tail_any (ops:=[.ref s3.heap.objs.size,v]) ht hT hg (by with_unfolding_all rfl)
noncomputable def cy (xs:List V)(lo hi:Option Int):List V:=(xs.drop (HT.sIx xs.length 0 lo)).take (HT.sIx xs.length xs.length hi-HT.sIx xs.length 0 lo)
theorem bD (xs:List V)(lo hi:Option Int):(cy xs lo hi).length<=xs.length:=by
 unfold cy
 rw [a1w,a1i]
 omega
noncomputable def zB (K:a0a):V->Option Int->Option Int->Hp->VK->Prop:=fun x lo hi H Q=>∃ a xs,x=.ref a/\SqT K H a xs /\
 ¬ (HT.sIx xs.length 0 lo=0/\HT.sIx xs.length xs.length hi=xs.length)/\∀ p,H p=none->Q (.ref p) (upd H p (.tup (cy xs lo hi)))
theorem vm:SlR X (zB X.K):=by
 intro pins s σ H x v vl vu lo hi sl Q I rx hs pl pu h
 obtain ⟨a,xs,rfl,hx,hw,q⟩:=h
 cases rx
 obtain ⟨its,r,ht,hz⟩:=I.tuple hx
 have hlen:its.toArray.size=xs.length:=by rw [a0i]; exact r.length.symm
 refine ⟨"tuple",_,a0B.lookup,ht.typeIs,?_⟩
 refine HT.getItem_tuple_cut ht hs pl pu (by rw [hlen]; exact hw) ?_ (by rw [hlen]; exact hz)
 rw [hlen]
 refine ⟨.ref s.heap.objs.size,_,I.laid (t':=s.toks) (o:=.tup (cy xs lo hi)) (fun b ob q=>Heap.get?_push_of_some _ q) (a0k _) ?_,rfl,q _ (I.hok.fresh (a0k _))⟩
 exact ⟨a0r (bD xs lo hi) hz,_,(r.drop (HT.sIx xs.length 0 lo)).take (HT.sIx xs.length xs.length hi-HT.sIx xs.length 0 lo),IsTup.new _ _⟩
noncomputable def yt (K:a0a):R2:=fun x y H Q=>∃ a b xs ys,x=.ref a/\y=.ref b/\SqT K H a xs/\SqT K H b ys/\xs≠[]/\xs.length+ys.length<=sizeLine /\
 (ys=[]->Q (.ref a) H)/\(ys≠[]->∀ p,H p=none->Q (.ref p) (upd H p (.tup (xs++ys))))
theorem Vals.nil_iff {xs:List V}{us:List Value}(r:Vals xs us):us=[] ↔ xs=[]:=by
 cases r with
 | nil=>simp
 | cons _ _=>simp
theorem nN:OpR X (binaryOp .Add) (yt X.K):=by
 intro pins s σ H x y v u Q I rx ry h
 obtain ⟨a,b,xs,ys,rfl,rfl,ha,hb,hx,hz,q1,q2⟩:=h
 cases rx
 cases ry
 obtain ⟨its,r1,p1,_⟩:=I.tuple ha
 obtain ⟨its2,r2,p2,_⟩:=I.tuple hb
 refine HT.cat_tup p1 p2 (fun z=>hx (r1.nil_iff.mp z)) (fun z=>⟨.ref a,H,I,rfl,q1 (r2.nil_iff.mp z)⟩) (fun z=>?_) (by rw [<- r1.length,<- r2.length]; exact hz)
 refine ⟨.ref s.heap.objs.size,_,I.laid (t':=s.toks) (o:=.tup (xs++ys)) (fun b ob q=>Heap.get?_push_of_some _ q) (a0k _) ?_,rfl,q2 (fun w=>z (r2.nil_iff.mpr w)) _ (I.hok.fresh (a0k _))⟩
 exact ⟨by rw [a0d]; exact hz,_,r1.append r2,IsTup.new _ _⟩
end
end L2
namespace L2
open PySem PySem.Spec PyProof.Rows
noncomputable def ixN (n:Nat)(i:Int):Option Nat:=if 0<=i then (if i < n then some i.toNat else none) else if -(n:Int)<=i then some (i+n).toNat else none
noncomputable def atI {α:Type}(xs:List α)(i:Int):Option α:=(ixN xs.length i).bind fun j=>xs[j]?
theorem nJ {n:Nat}{i:Int}{j:Nat}(h:ixN n i=some j):seqIndex? i n=some j/\j < n/\-(n:Int)<=i/\i < n:=by
 unfold ixN at h
 by_cases h0:0<=i
 ·rw [if_pos h0] at h
  by_cases h1:i < n
  ·rw [if_pos h1] at h
   have e:i.toNat=j:=a0s h
   exact ⟨by rw [seqIndex_of h0 h1,e],by omega,by omega,h1⟩
  ·rw [if_neg h1] at h; cases h
 ·rw [if_neg h0] at h
  by_cases h1:-(n:Int)<=i
  ·rw [if_pos h1] at h
   have e:(i+n).toNat=j:=a0s h
   exact ⟨by rw [seqIndex_neg (by omega) h1,e],by omega,h1,by omega⟩
  ·rw [if_neg h1] at h; cases h
theorem fM {α:Type}{xs:List α}{i:Int}{v:α}(h:atI xs i=some v):∃ j,seqIndex? i xs.length=some j/\xs[j]?=some v/\j < xs.length/\-(xs.length:Int)<=i/\i < xs.length:=by
 unfold atI at h
 cases e:ixN xs.length i with
 | none=>rw [e] at h; cases h
 | some j =>
  rw [e] at h
  obtain ⟨h1,h2,h3,h4⟩:=nJ e
  exact ⟨j,h1,h,h2,h3,h4⟩
noncomputable def dt (b:Expr):Prop:=∀ o i,subscripted b false o i=operate [o,i] (getItem o i)
noncomputable def IxR (X:Cx)(r:R2):Prop :=
 ∀ (value slice:Expr) (pins:List (Addr×Obj)) (s:Shared) (σ:St) (H:Hp) (x y:V) (v u:Value) (Q:VK),Inv X pins σ H s->RelV x v->RelV y u->r x y H Q ->
  subscripted slice false v u=operate [v,u] (getItem v u)->wpAny (model X.prog X.w) X.A (subscriptTail value slice v u) (EP X pins σ Q) X.xe s
noncomputable def MtR (X:Cx)(id:String)(r:V->List V->Hp->VK->Prop):Prop :=
 ∀ (pins:List (Addr×Obj)) (s:Shared) (σ:St) (H:Hp) (x:V) (xs:List V) (v:Value) (us:List Value) (Q:VK),Inv X pins σ H s->RelV x v->Vals xs us->r x xs H Q ->
  wpAny (model X.prog X.w) X.A (call (.builtin id) (v::us)) (EP X pins σ Q) X.xe s
section
variable {X:Cx}{a b:Expr}{ta tb:TE}{pos:Pos}
theorem IxR.or {r r':R2}(h:IxR X r)(h':IxR X r'):IxR X (fun x y H Q=>r x y H Q\/r' x y H Q):=by
 intro value slice pins s σ H x y v u Q I rx ry q hs
 rcases q with q | q
 ·exact h value slice pins s σ H x y v u Q I rx ry q hs
 ·exact h' value slice pins s σ H x y v u Q I rx ry q hs
theorem qZ {r:R2}(hr:IxR X r)(ha:PE X a ta)(hb:PE X b tb)(hs:dt b):PE X (.Subscript a b pos) (tOp r ta tb):=by
 intro pins s σ H Q I h
 exact Subscript_ (so ha hb I h fun v u s2 x y H2 I2 rx ry q=>hr a b pins s2 σ H2 x y v u Q I2 rx ry q (hs _ _))
noncomputable def zP (K:a0a):R2:=fun x y H Q=>∃ p xs i v,x=.ref p/\y=.int i/\SqL K H p xs/\atI xs i=some v/\Q v H
noncomputable def zr (K:a0a):R2:=fun x y H Q=>∃ p xs i v,x=.ref p/\y=.int i/\SqT K H p xs/\atI xs i=some v/\Q v H
noncomputable def y0:R2:=fun x y H Q=>∃ z i c,x=.str z/\y=.int i/\z.length<=sizeLine/\atI z.cps.toList i=some c/\Q (.str ⟨#[c]⟩) H
theorem oz:IxR X (zP X.K):=by
 intro value slice pins s σ H x y v u Q I rx ry h hs
 obtain ⟨p,xs,i,z,rfl,rfl,hq,he,q⟩:=h
 cases rx
 obtain ⟨t,rfl⟩:=ry
 obtain ⟨its,r,pl,hz⟩:=I.list hq
 obtain ⟨j,h1,h2,h3,h4,h5⟩:=fM he
 obtain ⟨w,ew,rw'⟩:=r.get h2
 have hl:=r.length
 have hn:=dG
 have fin:EP X pins σ Q w s:=⟨z,H,I,rw',q⟩
 by_cases h0:0<=i
 ·have hj:i.toNat=j:=by
   rw [seqIndex_of h0 h5] at h1
   exact a0s h1
  exact item_listR pl.isList h0 (by omega) (by rw [hj]; simpa using ew) fin hs
 ·have hj:(i+(its.toArray.size:Int)).toNat=j:=by
   rw [seqIndex_neg (by omega) h4] at h1
   rw [a0i,<- hl]
   exact a0s h1
  exact subscriptTail_builtinR (x:=w) pl.isList.typeIs slot_list_getitem.lookup
   (wpAny_getItem_list_neg (Q:=fun r s'=>r=w/\EP X pins σ Q r s') pl.isList (by omega) (by rw [a0i]<;>omega) (by omega) (by rw [hj]; simpa using ew) ⟨rfl,fin⟩) hs
theorem vr:IxR X (zr X.K):=by
 intro value slice pins s σ H x y v u Q I rx ry h hs
 obtain ⟨p,xs,i,z,rfl,rfl,hq,he,q⟩:=h
 cases rx
 obtain ⟨t,rfl⟩:=ry
 obtain ⟨its,r,pl,hz⟩:=I.tuple hq
 obtain ⟨j,h1,h2,h3,h4,h5⟩:=fM he
 obtain ⟨w,ew,rw'⟩:=r.get h2
 have hl:=r.length
 have hn:=dG
 have fin:EP X pins σ Q w s:=⟨z,H,I,rw',q⟩
 exact subscriptTail_builtinR (x:=w) pl.typeIs slot_tuple_getitem.lookup
  (getItem_tuple (j:=j) (Q:=fun r s'=>r=w/\EP X pins σ Q r s') pl (by omega) (by omega) (by rw [a0i,<- hl]; exact h1) (by simpa using ew) ⟨rfl,fin⟩) hs
theorem vb:IxR X y0:=by
 intro value slice pins s σ H x y v u Q I rx ry h hs
 obtain ⟨z,i,c,rfl,rfl,hz,he,q⟩:=h
 obtain ⟨t,rfl⟩:=rx
 obtain ⟨t',rfl⟩:=ry
 obtain ⟨j,h1,h2,h3,h4,h5⟩:=fM he
 have hl:z.cps.toList.length=z.length:=by simp [Str.length]
 rw [hl] at h1 h4 h5
 have hn:=dG
 exact tail_any (typeIs_str s z t) slot_str_getitem.lookup (getItem_str (c:=c) (by
  have e1:decide (i < -(2 ^ 63:Int))=false:=decide_eq_false (by omega)
  have e2:decide (i >= 2 ^ 63)=false:=decide_eq_false (by omega)
  rw [e1,e2,Bool.or_false]) (by rw [h1]; simpa using h2) ⟨.str ⟨#[c]⟩,H,I.tok _,⟨_,rfl⟩,q⟩) hs
theorem ff (lo hi:Option Int)(n:Nat):(sliceBounds lo hi none n).1=((HT.sIx n 0 lo:Nat):Int)/\(sliceBounds lo hi none n).2.1=((HT.sIx n n hi:Nat):Int)/\(sliceBounds lo hi none n).2.2=1:=by
 refine ⟨?_,?_,rfl⟩
 ·cases lo with
  | none=>simp [sliceBounds,HT.sIx]
  | some i =>
   simp only [sliceBounds,HT.sIx,a2h,show (1:Int) > 0 by decide,if_true]
   by_cases h:i < 0
   ·simp only [h,if_true]<;>omega
   ·simp only [h,if_false]<;>omega
 ·cases hi with
  | none=>simp [sliceBounds,HT.sIx]
  | some i =>
   simp only [sliceBounds,HT.sIx,a2h,show (1:Int) > 0 by decide,if_true]
   by_cases h:i < 0
   ·simp only [h,if_true]<;>omega
   ·simp only [h,if_false]<;>omega
theorem ed (its:List Value)(lo hi:Option Int):slicePick its.toArray lo hi none=((its.drop (HT.sIx its.length 0 lo)).take (HT.sIx its.length its.length hi-HT.sIx its.length 0 lo)).toArray:=by
 obtain ⟨h1,h2,h3⟩:=ff lo hi its.toArray.size
 unfold slicePick
 rw [h1,h2,h3]
 simp only [sliceRange_one,pick_run,a0i]<;>rfl
noncomputable def oe (K:a0a):V->Option Int->Option Int->Hp->VK->Prop:=fun x lo hi H Q=>∃ a xs,x=.ref a/\SqL K H a xs/\∀ p,H p=none->Q (.ref p) (upd H p (.lst (cy xs lo hi)))
theorem sl_list:SlR X (oe X.K):=by
 intro pins s σ H x v vl vu lo hi sl Q I rx hs pl pu h
 obtain ⟨a,xs,rfl,hx,q⟩:=h
 cases rx
 obtain ⟨its,r,ht,hz⟩:=I.list hx
 have hlen:=r.length
 refine ⟨"list",_,slot_list_getitem.lookup,ht.isList.typeIs,?_⟩
 refine wpAny_getItem_list_slice ht.isList hs pl pu .none (by simp) ?_ (by rw [a0i]<;>omega)
 rw [ed,<- hlen]
 refine ⟨.ref s.heap.objs.size,_,I.laid (t':=s.toks) (o:=.lst (cy xs lo hi)) (fun b ob q=>Heap.get?_push_of_some _ q) (a0k _) ?_,rfl,q _ (I.hok.fresh (a0k _))⟩
 exact ⟨a0r (bD xs lo hi) hz,_,0,(r.drop (HT.sIx xs.length 0 lo)).take (HT.sIx xs.length xs.length hi-HT.sIx xs.length 0 lo),Heap.get?_push_size _ rfl⟩
noncomputable def bT:V->Bool
 | .non=>true
 | .bl _=>true
 | .int _=>true
 | .str _=>true
 | _=>false
noncomputable def eqV:V->V->Bool
 | .non,.non=>true
 | .bl a,.bl b=>a==b
 | .bl a,.int b=>(if a then 1 else 0)==b
 | .int a,.bl b=>a==(if b then 1 else 0)
 | .int a,.int b=>a==b
 | .str a,.str b=>a==b
 | _,_=>false
theorem tZ {A:Around}{s:Shared}{y x:V}{u v:Value}(ry:RelV y u)(rx:RelV x v)(fy:bT y=true)(fx:bT x=true):SeqAt.EqAt A s u v (eqV y x):=by
 cases y with
 | non =>
  cases ry
  cases x with
  | non=>cases rx; exact SeqAt.EqAt.same _
  | bl b=>cases rx; exact SeqAt.EqAt.none_bool b
  | int b=>obtain ⟨t,rfl⟩:=rx; exact SeqAt.EqAt.none_int b t
  | str b=>obtain ⟨t,rfl⟩:=rx; exact SeqAt.EqAt.none_str b t
  | _=>exact absurd (show false=true from fx) a0e
 | bl a =>
  cases ry
  cases x with
  | non=>cases rx; exact SeqAt.EqAt.bool_none a
  | bl b=>cases rx; exact SeqAt.EqAt.bool_bool a b
  | int b=>obtain ⟨t,rfl⟩:=rx; exact SeqAt.EqAt.bool_int a b t
  | str b=>obtain ⟨t,rfl⟩:=rx; exact SeqAt.EqAt.bool_str a b t
  | _=>exact absurd (show false=true from fx) a0e
 | int a =>
  obtain ⟨t',rfl⟩:=ry
  cases x with
  | non=>cases rx; exact SeqAt.EqAt.int_none a t'
  | bl b=>cases rx; exact SeqAt.EqAt.int_bool a t' b
  | int b=>obtain ⟨t,rfl⟩:=rx; exact SeqAt.EqAt.int_int a t' b t
  | str b=>obtain ⟨t,rfl⟩:=rx; exact SeqAt.EqAt.int_str a t' b t
  | _=>exact absurd (show false=true from fx) a0e
 | str a =>
  obtain ⟨t',rfl⟩:=ry
  cases x with
  | non=>cases rx; exact SeqAt.EqAt.str_none a t'
  | bl b=>cases rx; exact SeqAt.EqAt.str_bool a t' b
  | int b=>obtain ⟨t,rfl⟩:=rx; exact SeqAt.EqAt.str_int a t' b t
  | str b=>obtain ⟨t,rfl⟩:=rx; exact SeqAt.EqAt.str_str a t' b t
  | _=>exact absurd (show false=true from fx) a0e
 | _=>exact absurd (show false=true from fy) a0e
noncomputable def eqU (x:V)(u:Value):Bool:=match u with
 | .none=>eqV .non x
 | .bool b=>eqV (.bl b) x
 | .int i _=>eqV (.int i) x
 | .str z _=>eqV (.str z) x
 | _=>false
theorem mj {x y:V}{u:Value}(r:RelV y u)(f:bT y=true):eqU x u=eqV y x:=by
 cases y with
 | non=>cases r; rfl
 | bl b=>cases r; rfl
 | int i=>obtain ⟨t,rfl⟩:=r; rfl
 | str z=>obtain ⟨t,rfl⟩:=r; rfl
 | _=>exact absurd (show false=true from f) a0e
theorem cp {x:V}:∀ {xs:List V} {us:List Value},Vals xs us->xs.all bT=true->us.any (eqU x)=xs.any fun y=>eqV y x
 | _,_,.nil,_=>rfl
 | y::xs,u::us,.cons r t,f=>by
  rw [a00,a0c] at f
  rw [a1y,a1y,mj r f.1,cp t f.2]
theorem bY {A:Around}{s:Shared}{x:V}{v:Value}(rx:RelV x v)(fx:bT x=true):∀ {xs:List V} {us:List Value},Vals xs us->xs.all bT=true->∀ u∈us,SeqAt.EqAt A s u v (eqU x u)
 | _,_,.nil,_=>fun u hu=>by cases hu
 | y::xs,u::us,.cons r t,f=>fun u' hu=>by
  rw [a00,a0c] at f
  rcases a0E.mp hu with rfl | hu
  ·rw [mj r f.1]; exact tZ r rx f.1 fx
  ·exact bY rx fx t f.2 u' hu
noncomputable def inV (x:V)(xs:List V):Bool:=xs.any fun y=>eqV y x
noncomputable def rIn (K:a0a)(neg:Bool):R2:=fun x y H Q=>∃ p xs,y=.ref p/\(SqL K H p xs\/SqT K H p xs)/\bT x=true/\xs.all bT=true/\Q (.bl (if neg then !inV x xs else inV x xs)) H
theorem eu:OpR X (compareOp .In) (rIn X.K false):=by
 intro pins s σ H x y v u Q I rx ry h
 obtain ⟨p,xs,rfl,hq,fx,fs,q⟩:=h
 cases ry
 rcases hq with hq | hq
 ·obtain ⟨its,r,pl,hz⟩:=I.list hq
  refine SeqAt.in_listAt (eqU x) pl.isList (fun w hw=>bY rx fx r fs w (by simpa using hw)) ⟨.bl _,H,I,rfl,?_⟩
  rw [show its.toArray.any (eqU x)=its.any (eqU x) by simp,cp r fs]
  exact q
 ·obtain ⟨its,r,pl,hz⟩:=I.tuple hq
  refine SeqAt.in_tupleAt (eqU x) pl (fun w hw=>bY rx fx r fs w (by simpa using hw)) ⟨.bl _,H,I,rfl,?_⟩
  rw [show its.toArray.any (eqU x)=its.any (eqU x) by simp,cp r fs]
  exact q
theorem cz:OpR X (compareOp .NotIn) (rIn X.K true):=by
 intro pins s σ H x y v u Q I rx ry h
 obtain ⟨p,xs,rfl,hq,fx,fs,q⟩:=h
 cases ry
 rcases hq with hq | hq
 ·obtain ⟨its,r,pl,hz⟩:=I.list hq
  refine SeqAt.notIn_listAt (eqU x) pl.isList (fun w hw=>bY rx fx r fs w (by simpa using hw)) ⟨.bl _,H,I,rfl,?_⟩
  rw [show its.toArray.any (eqU x)=its.any (eqU x) by simp,cp r fs]
  exact q
 ·obtain ⟨its,r,pl,hz⟩:=I.tuple hq
  refine SeqAt.notIn_tupleAt (eqU x) pl (fun w hw=>bY rx fx r fs w (by simpa using hw)) ⟨.bl _,H,I,rfl,?_⟩
  rw [show its.toArray.any (eqU x)=its.any (eqU x) by simp,cp r fs]
  exact q
theorem fv:dX X (.type "list") (fun xs H Q=>∃ p ys,xs=[.ref p]/\(SqL X.K H p ys\/SqT X.K H p ys)/\∀ l,H l=none->Q (.ref l) (upd H l (.lst ys))):=by
 intro pins s σ H xs us Q I r h
 obtain ⟨p,ys,rfl,hq,q⟩:=h
 obtain ⟨u,rfl,rx⟩:=gU r
 cases rx
 have fin:∀ (its:List Value),Vals ys its->ys.length<=sizeLine->∀ (h':Heap) (c':Nat),(∀ b o',s.heap.get? b=some o'->h'.get? b=some o') ->
   h'.get? s.heap.objs.size=some { cls:=.type "list",dict:=none,data:=.seq its.toArray c',slots:=#[] }->EP X pins σ Q (.ref s.heap.objs.size) { s with heap:=h' }:=fun its r' hz h' c' kp e =>
  ⟨.ref s.heap.objs.size,_,I.laid (t':=s.toks) kp (a0k _) (show ObjOk X.prog X.w _ h' _ (.lst ys) from ⟨hz,its,c',r',e⟩),rfl,q _ (I.hok.fresh (a0k _))⟩
 rcases hq with hq | hq
 ·obtain ⟨its,r',pl,hz⟩:=I.list hq
  have hlen:=r'.length
  obtain ⟨o,ho,hc,n,hd⟩:=pl.isList
  exact call_list_seq p (.inl rfl) ho hc hd (fun h' c' kp e=>fin its r' hz h' c' kp e) (by simp only [a0i]<;>omega)
 ·obtain ⟨its,r',pl,hz⟩:=I.tuple hq
  have hlen:=r'.length
  obtain ⟨o,ho,hc,n,hd⟩:=pl
  exact call_list_seq p (.inr rfl) ho hc hd (fun h' c' kp e=>fin its r' hz h' c' kp e) (by simp only [a0i]<;>omega)
noncomputable def tyV (K:a0a)(T:String)(x:V)(H:Hp):Prop:=match x with
 | .str _=>T="str"
 | .int _=>T="int"
 | .ref p=>(T="list"/\∃ xs,SqL K H p xs)\/(T="tuple"/\∃ o,K.lookup p=some o/\o.cls=.type "tuple"/\o.dict=none) \/
   (T="dict"/\((∃ kvs,H p=some (.dK kvs))\/∃ kvs,H p=some (.dT kvs)))\/(T="set"/\∃ S n,H p=some (.set S n))
 | _=>False
theorem vP {pins:List (Addr×Obj)}{σ:St}{H:Hp}{s:Shared}{T:String}{x:V}{v:Value}(I:Inv X pins σ H s)(r:RelV x v)(ty:tyV X.K T x H) :
  s.TypeIs v T/\∀ a,v=.ref a->∃ ob,s.heap.get? a=some ob/\ob.dict=none:=by
 cases x with
 | str z =>
  obtain ⟨t,rfl⟩:=r
  cases (show T="str" from ty)
  exact ⟨typeIs_str s z t,fun _ e=>nomatch e⟩
 | int i =>
  obtain ⟨t,rfl⟩:=r
  cases (show T="int" from ty)
  exact ⟨typeIs_int s i t,fun _ e=>nomatch e⟩
 | ref p =>
  cases r
  rcases ty with ⟨rfl,xs,hq⟩ | ⟨rfl,o,hk,hc,hd⟩ | ⟨rfl,hk⟩ | ⟨rfl,S,n,hk⟩
  ·obtain ⟨its,_,pl,_⟩:=I.list hq
   refine ⟨pl.isList.typeIs,fun a e=>?_⟩
   cases e
   obtain ⟨o,n,e,c,hd,_⟩:=pl
   exact ⟨o,e,hd⟩
  ·refine ⟨⟨o,I.kIn p o hk,hc⟩,fun a e=>?_⟩
   cases e
   exact ⟨o,I.kIn _ o hk,hd⟩
  ·have z:∃ o,s.heap.get? p=some o/\o.ExactDict:=by
    rcases hk with ⟨kvs,hk⟩ | ⟨kvs,hk⟩
    ·obtain ⟨_,_,_,_,o,_,_,e,ex,_⟩:=I.hok p _ hk
     exact ⟨o,e,ex⟩
    ·obtain ⟨_,_,_,_,o,_,_,e,ex,_⟩:=I.hok p _ hk
     exact ⟨o,e,ex⟩
   obtain ⟨o,e,ex⟩:=z
   refine ⟨⟨o,e,ex.1⟩,fun a e2=>?_⟩
   cases e2
   exact ⟨o,e,ex.2.1⟩
  ·obtain ⟨o,_,_,_,e,ex,_⟩:=I.hok p _ hk
   refine ⟨⟨o,e,ex.1⟩,fun a e2=>?_⟩
   cases e2
   exact ⟨o,e,ex.2.1⟩
 | _=>exact a1f ty
noncomputable def xo (K:a0a)(T:String)(r:V->List V->Hp->VK->Prop)(to:TE):TE:=fun σ H Q=>to σ H fun x H1=>tyV K T x H1/\r x [] H1 Q
variable {o e:Expr}{es:List Expr}{to:TE}{t:TA}{name:Str}{apos cpos:Pos}{T id:String}{r:V->List V->Hp->VK->Prop}
theorem m9 (pa:PlainAttrs T)(slot:Slot T name id)(hty:typeOf (.builtin id)=pure (.type "method_descriptor"))(hm:MtR X id r)(ho:PE X o to)
  (hbase:attributeBase o name X.env (eval o X.env)=eval o X.env:=by rfl) (hline:(apos.endLine==cpos.line)=true:=by rfl):PE X (.Call (.Attribute o name apos) [] [] cpos) (xo X.K T r to):=by
 intro pins s σ H Q I h
 refine wpAny_Call_method0_late hbase hline (thn (ho pins s σ H _ I h) fun v s1 ⟨x,H1,I1,r1,ty,q1⟩=>?_)
 obtain ⟨h1,h2⟩:=vP I1 r1 ty
 exact ⟨T,id,pa,slot,hty,h1,h2,Calls.callWith_builtin rfl (PySem.evalArgs_none (hm pins s1 σ H1 x [] v [] Q I1 r1 .nil q1))⟩
end
end L2
namespace L2
open PySem PySem.Spec PyProof.Rows
noncomputable def MtM (X:Cx)(id:String)(r:V->List V->Hp->VK->Prop):Prop :=
 ∀ (pins:List (Addr×Obj)) (s:Shared) (σ:St) (H:Hp) (x:V) (xs:List V) (v:Value) (us:List Value) (Q:VK),Inv X pins σ H s->RelV x v->Vals xs us->r x xs H Q ->
  wpAny (model X.prog X.w) X.A (call (.builtin id) (v::us)) (EP X pins σ Q) X.xe s
theorem Vals.zero:∀ {us:List Value},Vals [] us->us=[]
 | _,.nil=>rfl
theorem Vals.dropLast {xs:List V}{us:List Value}(h:Vals xs us):Vals xs.dropLast us.dropLast:=by
 induction h with
 | nil=>exact .nil
 | cons r t ih =>
  cases t with
  | nil=>exact .nil
  | cons q t'=>exact .cons r ih
theorem Vals.rep {xs:List V}{us:List Value}(h:Vals xs us):∀ k:Nat,Vals (a0g k xs).flatten (a0g k us).flatten
 | 0=>.nil
 | k+1=>by
  rw [a0O,a0O,a1s,a1s]
  exact Vals.append h (Vals.rep h k)
theorem ik {α:Type}(l:List α):l.eraseIdx (l.length-1)=l.dropLast:=by
 induction l with
 | nil=>rfl
 | cons a r ih =>
  cases r with
  | nil=>rfl
  | cons b r =>
   have e:(a::b::r).length-1=((b::r).length-1)+1:=by
    have h1:(a::b::r).length=r.length+2:=rfl
    have h2:(b::r).length=r.length+1:=rfl
    omega
   rw [e,List.eraseIdx_cons_succ,ih]
   all_goals rfl
theorem eN (its:List Value):∀ (k:Nat) (acc:List Value),
  a2w (fun x1 x2=>x1++x2) acc.toArray (a0g k its.toArray)=(acc++(a0g k its).flatten).toArray
 | 0,acc=>by simp
 | k+1,acc=>by
  have e:acc.toArray++its.toArray=(acc++its).toArray:=by simp
  have e2:(acc++its)++(a0g k its).flatten=acc++(a0g (k+1) its).flatten:=by
   rw [a0O,a1s,a0R]
  rw [<- e2,<- eN its k (acc++its),<- e,a0O,List.foldl_cons]
section
variable {X:Cx}{pins:List (Addr×Obj)}{σ:St}{H:Hp}{s:Shared}{l b:Addr}{xs ys zs:List V}
theorem Inv.lset {its its':List Value}{n:Nat}{f:Array Value->Array Value}{t':Nat}(I:Inv X pins σ H s)(hH:H l=some (.lst xs))
  (e:s.heap.get? l=some { cls:=.type "list",data:=.seq its.toArray n }) (hf:f its.toArray=its'.toArray) (hv:Vals ys its') (hz:ys.length<=sizeLine) :
  Inv X pins σ (upd H l (.lst ys)) { s with heap:=s.heap.update l (Obj.mapSeq f),toks:=t' }:=by
 have q:=PySem.IsL.update e f
 rw [hf] at q
 refine I.write (x:=l) (e:=l) (by rw [hH]; exact trivial) (.inl rfl) (fun b' u hb hu=>(Heap.get?_update_other s.heap (Obj.mapSeq f) (a13 hb)).trans hu) ⟨_,q⟩ ?_
 exact ⟨hz,its',_,hv,q⟩
theorem Inv.lnew {its:List Value}{t':Nat}(I:Inv X pins σ H s)(hv:Vals ys its)(hz:ys.length<=sizeLine) :
  Inv X pins σ (upd H s.heap.objs.size (.lst ys)) { s with heap:=s.heap.push { cls:=.type "list",data:=.seq its.toArray },toks:=t' } :=
 I.laid (fun _ _ q=>Heap.get?_push_of_some _ q) (a0k _) ⟨hz,its,0,hv,Heap.get?_push_size _ rfl⟩
theorem Inv.fresh (I:Inv X pins σ H s):H s.heap.objs.size=none:=I.hok.fresh (a0k _)
theorem Inv.lstM (I:Inv X pins σ H s)(hH:H l=some (.lst xs)):xs.length<=sizeLine/\∃ (its:List Value) (n:Nat),Vals xs its/\xs.length=its.length/\s.heap.get? l=some { cls:=.type "list",data:=.seq its.toArray n }:=by
 obtain ⟨z,its,n,r,e⟩:=I.hok l _ hH
 exact ⟨z,its,n,r,r.length,e⟩
theorem mz {n:Nat}(h:n<=sizeLine):Builtin.List.listTooLong n=false:=by
 unfold Builtin.List.listTooLong
 exact decide_eq_false (by omega)
end
section
variable {X:Cx}
noncomputable def zu:V->List V->Hp->VK->Prop:=fun x vs H Q=>∃ l xs y,x=.ref l/\vs=[]/\H l=some (.lst xs)/\xs[xs.length-1]?=some y/\Q y (upd H l (.lst xs.dropLast))
theorem rP:MtM X "list.pop" zu:=by
 intro pins s σ H x vs v us Q I rx rv h
 obtain ⟨l,xs,y,rfl,rfl,hH,hy,q⟩:=h
 cases rx
 have hus:=rv.zero
 subst hus
 obtain ⟨z,its,n,r,hl,e⟩:=I.lstM hH
 obtain ⟨u,hu,ru⟩:=r.get hy
 have hy':its.toArray[its.toArray.size-1]?=some u:=by
  show its.toArray[its.length-1]?=some u
  rw [<- Array.getElem?_toList,<- hl]
  exact hu
 refine call_meets F.slot_list_pop ⟨_,e,rfl⟩ F.entry_list_pop (F.args_list_pop_1 _) (MeetsSeq.list_pop_last l its.toArray n u hy' (by rw [a0i]; omega)) ⟨e,?_⟩
 refine ⟨y,_,I.lset (its':=its.dropLast) hH e ?_ r.dropLast ?_,ru,q⟩
 ·show its.toArray.eraseIdxIfInBounds (its.toArray.size-1)=its.dropLast.toArray
  rw [a0i,List.eraseIdxIfInBounds_toArray,ik]
 ·rw [a1x]
  omega
noncomputable def xJ:R2:=fun x y H Q=>∃ l b xs zs,x=.ref l/\y=.ref b/\H l=some (.lst xs)/\H b=some (.lst zs)/\xs.length+zs.length<=sizeLine/\∀ p,H p=none->Q (.ref p) (upd H p (.lst (xs++zs)))
theorem op_cat:OpR X (binaryOp .Add) xJ:=by
 intro pins s σ H x y v u Q I rx ry h
 obtain ⟨l,b,xs,zs,rfl,rfl,hH,hB,hz,q⟩:=h
 cases rx
 cases ry
 obtain ⟨z,its,n,r,hl,e⟩:=I.lstM hH
 obtain ⟨z2,its2,n2,r2,hl2,e2⟩:=I.lstM hB
 refine PySem.P.add_list e e2 ?_ (by rw [a0i,a0i]; omega)
 have ea:its.toArray++its2.toArray=(its++its2).toArray:=by simp
 rw [ea]
 exact ⟨.ref _,_,I.lnew (t':=s.toks) (r.append r2) (by rw [a0d]; omega),rfl,q _ I.fresh⟩
noncomputable def yq:R2:=fun x y H Q=>∃ l k xs,x=.ref l/\y=.int k/\H l=some (.lst xs)/\-(2 ^ 63)<=k/\k < 2 ^ 63/\xs.length * k.toNat<=sizeLine /\
 ∀ p,H p=none->Q (.ref p) (upd H p (.lst (a0g k.toNat xs).flatten))
theorem oX {α:Type}(xs:List α)(k:Nat):(a0g k xs).flatten.length=k * xs.length:=by
 induction k with
 | zero=>simp
 | succ k ih=>rw [a0O,a1s,a0d,ih,Nat.succ_mul,a1X]
theorem tS:OpR X (binaryOp .Mult) yq:=by
 intro pins s σ H x y v u Q I rx ry h
 obtain ⟨l,k,xs,rfl,rfl,hH,h1,h2,hz,q⟩:=h
 cases rx
 obtain ⟨t,rfl⟩:=ry
 obtain ⟨z,its,n,r,hl,e⟩:=I.lstM hH
 have hlen:its.toArray.size * k.toNat<=sizeLine:=by rw [a0i,<- hl]; exact hz
 have hcap:¬ its.toArray.size * k.toNat > (2 ^ 63-1) / 8:=by
  have:(sizeLine:Nat)<=(2 ^ 63-1) / 8:=by decide
  omega
 have hfit:¬ (!Builtin.List.listFitsIndex k)=true:=by
  rw [fitsIndex_both h1 h2]
  exact a0e
 have hlong:¬ Builtin.List.listTooLong (its.toArray.size * k.toNat)=true:=by
  rw [mz hlen]
  exact a0e
 have hnew:a2w (fun x1 x2=>x1++x2) #[] (a0g (if its.toArray.isEmpty=true then 0 else k.toNat) its.toArray)=(a0g k.toNat its).flatten.toArray:=by
  have f0:∀ m:Nat,a2w (fun x1 x2=>x1++x2) #[] (a0g m its.toArray)=(a0g m its).flatten.toArray:=fun m=>by
   have:=eN its m []
   rw [a1n] at this
   exact this
  rw [f0]
  cases its with
  | nil=>simp
  | cons a r'=>rw [if_neg (by simp)]
 refine wpAny_binaryOp_repeat_ref (T:="list") (U:="int") (by decide) ⟨_,e,rfl⟩ (fun s'=>typeIs_int s' k t) noFill_list_mul F.fills_int_mul F.slot_int_rmul repeat_list F.slot_int_index.lookup
  (call_meets F.slot_int_rmul (typeIs_int s k t) F.entry_int_rmul (F.args_int_rmul_2 _ _) (int___rmul___int_list k t l its.toArray n)
   ⟨e,rfl,⟨_,e,rfl⟩,call_meets F.slot_list_mul ⟨_,e,rfl⟩ F.entry_list_mul (F.args_list_mul_2 _ _) (AutoListH.list___mul___list_int_3 l its.toArray n k t hfit hcap hlong) ⟨e,?_⟩⟩)
 rw [hnew]
 exact ⟨.ref _,_,I.lnew (t':=s.toks) (r.rep k.toNat) (by rw [oX,a2F]; exact hz),rfl,q _ I.fresh⟩
end
end L2
namespace Att
open PySem PySem.W PySem.Calls PyProof.Rows
theorem df {P:Params}{h:Heap}:∀ (ns:List Int) (vs:List Value),WellAll P h vs (ns.map WData.int)->IntsAre vs ns:=by
 intro ns
 induction ns with
 | nil =>
  intro vs w
  rw [a05] at w
  cases w
  exact .nil
 | cons n ns ih =>
  intro vs w
  rw [a0x] at w
  cases w with
  | cons a b =>
   cases a
   exact .cons _ _ (ih _ b)
theorem jw {l:OpenLaw}{n:Nat}(hn:l.most=some n){P:Params}{h:Heap}{args:List WData}{vals:List Value}
  (hpre:l.row.toRowW.claim.pre args=true) (hwl:WellAll P h vals args) :
  ∃ a vs ns,vals=[Value.ref a]/\args=[WData.list (ns.map WData.int)]/\h.get? a=some { cls:=.type "list",data:=.seq vs.toArray }/\IntsAre vs ns/\ns.length<=n:=by
 have hsh:WShape.hasAll [] args [.list .int]=true:=(pre_splitW hpre).1
 have hc:l.pre.holds [] { args:=args }=true:=(pre_splitW hpre).2
 obtain ⟨d,r,rfl,h1,h2⟩:=hasAllW_cons hsh
 obtain rfl:=hasAllW_nil h2
 obtain ⟨xs,rfl,h3⟩:=hasW_list h1
 obtain ⟨ns,rfl⟩:=items_int h3
 have hlen:ns.length<=n:=by
  unfold OpenLaw.pre at hc
  have h4:(WTm.not (.lt (.lit (.int (n:Int))) (.len (.arg 0)))).holds [] { args:=[.list (ns.map .int)] }=true:=by
   have h4:=(holds_andW hc).1
   rw [hn] at h4
   exact h4
  have h5:=condW_of h4 (w_not (w_lt w_lit (w_len_list (w_arg rfl))))
  rw [a0f] at h5
  refine a2i fun q=>?_
  have q':(n:Int) < ((ns.length:Nat):Int):=by omega
  first
   | (rw [decide_eq_true q'] at h5; exact absurd h5 (by decide))
   | (simp at h5; omega)
 cases hwl with
 | cons w1 w2 =>
  cases w2
  cases w1 with
  | list ho hall=>exact ⟨_,_,ns,rfl,rfl,ho,df ns _ hall,hlen⟩
theorem j3 (l:OpenLaw)(args:List WData):l.row.toRowW.claim.post args (.bool true) args=true :=
 postW_of (r:=l.row.toRowW) (X:=(true==true))
  (show WShape.has [] (.bool true) .bool=true by first | rfl | decide | simp [WShape.has,WShape.arms,WShape.armsAll])
  (show (WTm.eq .res (.lit (.bool true))).value [] { args:=args,res:=some (.bool true),after:=args }=some (.bool (true==true)) from w_eq_bool (w_res rfl) w_lit) rfl
theorem attach_call {l:OpenLaw}{n:Nat}{q:Program}{loose:List Str}{XP:(Str->Option Value)->Heap->Prop}{YP:World->Heap->Prop}{d:DefRec}
  (hn:l.most=some n) (hdf:d.params.defaults=[])
  (call:∀ (w:World) (s₀ s₁:Shared) (mg mb:Str->Option Value) (fa:Addr) (o:Obj) (pm cd doc:Value) (a:Addr) (vs:List Value) (ns:List Int),
   Ground q loose [] XP w s₀ mg mb s₁.heap->YP w s₁.heap ->
   s₁.heap.get? fa=some o->o.data=.func (docDef d.name d.params d.body d.scope pm cd doc)->s₁.heap.CodeRec cd d.name->mg d.name=some (.ref fa) ->
   s₁.heap.get? a=some { cls:=.type "list",data:=.seq vs.toArray }->IntsAre vs ns->ns.length<=n->s₁.gens=#[] ->
   codeAny (model l.prog w) callerA (.call (.ref fa) ⟨[.ref a],[]⟩) (fun r s'=>r=.ok (.ret (.bool true))/\OldK s₁.heap s'.heap/\s'.os=s₁.os/\AllBare s'.gens) s₁) :
  WalkO q loose XP YP l.row.toRowW d [] (fun f vs=>a2x f vs):=by
 intro w s₀ s₁ mg mb G Y fa o pm cd doc dV kV ho hd hcd hD hmg hg args vals as hpre hlay hrd hwl hlo
 obtain rfl:dV=.none:=Dflts.none hD hdf
 obtain rfl:kV=.none:=Dflts.noKw hD
 obtain ⟨a,vs,ns,rfl,rfl,hobj,hints,hlen⟩:=jw hn hpre hwl
 refine enter_call (codeAny_mono (call w s₀ s₁ mg mb fa o pm cd doc a vs ns G Y ho (fd_plain hd) hcd hmg hobj hints hlen hg) fun r s' hq=>?_)
 obtain ⟨rfl,h2,h3,h4⟩:=hq
 exact ⟨.inl ⟨.bool true,.bool true,[],rfl,fun _=>rfl,.bool true,j3 l _,fun _=>⟨a2M,fun _ hm=>(nomatch hm)⟩⟩,h2,h3,h4⟩
end Att
namespace L2
open PySem PySem.Spec PyProof.Rows
theorem b7:∀ {vs:List Value} {ns:List Int},IntsAre vs ns->Vals (ns.map V.int) vs
 | _,_,.nil=>.nil
 | _,_,.cons n t h=>.cons ⟨t,rfl⟩ (b7 h)
noncomputable def lA (H:Hp):Prop:=∀ b,H b=none\/∃ o xs,H b=some (.frz o (.lst xs))
theorem nF {P:Program}{w:World}{K:a0a}{mg mb:Str->Option Value}{CX:CXT}{k:Nat}{fa a:Addr}{fd:FuncData}{x:Str}{sp:Sp}{s₁:Shared}{vs:List Value}{ns:List Int}
  (KX:K.In s₁.heap) (hns:s₁.heap.Ns mainGlobals mg) (hb:s₁.heap.Ns builtinsNs mb) (hbb:∀ x:Str,x≠"__name__"->mb x=bootBuiltins x) (hlim:s₁.heap.NoLimit) (hg:s₁.gens=#[])
  (ha:s₁.heap.get? a=some { cls:=.type "list",data:=.seq vs.toArray }) (hi:IntsAre vs ns) (hl:ns.length<=sizeLine) (hr:Room k callerA)
  (F:∀ base:Heap,K.In base->base.Ns mainGlobals mg->cx P w K mg base CX k fa fd [x] sp) (hbind:∀ (s:Shared) (u:Value),BindsTo s fd ⟨[u],[]⟩ [(x,u)])
  (hsp:∀ H:Hp,lA H->SqL K H a (ns.map V.int)->sp [.ref a] H (fun v _=>v=.bl true) fun _ _ _=>False)
  (hCX:∀ H e s',CX [] H s₁ (fun _ _ _=>False) e s'->False) :
  codeAny (model P w) callerA (.call (.ref fa) ⟨[.ref a],[]⟩) (fun r s'=>r=.ok (.ret (.bool true))/\OldK s₁.heap s'.heap/\s'.os=s₁.os/\AllBare s'.gens) s₁:=by
 have rv:=b7 hi
 have lenV:=hi.length
 -- from an abstract heap in which nothing but the script may be tracked
 have core:∀ H:Hp,lA H->SqL K H a (ns.map V.int)->HOk P w H s₁.heap->(∀ b,H b≠none->b=a)->(H a≠none->K.lookup a=none) ->
   codeAny (model P w) callerA (.call (.ref fa) ⟨[.ref a],[]⟩) (fun r s'=>r=.ok (.ret (.bool true))/\OldK s₁.heap s'.heap/\s'.os=s₁.os/\AllBare s'.gens) s₁:=by
  intro H hO hS hok hA hK
  have base_of:∀ {b:Addr} {o:Obj},s₁.heap.get? b=some o->H b=none->(fG s₁.heap H).get? b=some o:=fun e n=>lB e n
  have noA:∀ {b:Addr} {o:Obj} {es:Array DictEntry} {ep:Nat},s₁.heap.get? b=some o->o.data=.dict es ep->H b=none:=fun {b o es ep} e d=>by
   cases q:H b with
   | none=>rfl
   | some u =>
    have e':b=a:=hA b (by rw [q]; simp)
    subst e'
    rw [ha] at e; cases e
    have d':Data.seq vs.toArray _=Data.dict es ep:=d
    cases d'
  have nsK:∀ {b:Addr} {m:Str->Option Value},s₁.heap.Ns b m->(fG s₁.heap H).Ns b m:=fun {b m} ⟨o,es,ep,e,d,r⟩=>⟨o,es,ep,base_of e (noA e d),d,r⟩
  have hKb:K.In (fG s₁.heap H):=fun b o e=>base_of (KX b o e) (by
   cases q:H b with
   | none=>rfl
   | some u =>
    have e':b=a:=hA b (by rw [q]; simp)
    subst e'
    rw [hK (by rw [q]; simp)] at e; cases e)
  have hM:Mod K mg (fG s₁.heap H):=⟨hKb,nsK hns,⟨mb,nsK hb,hbb⟩,let ⟨mc,h1,h2⟩:=hlim; ⟨mc,nsK h1,h2⟩⟩
  have e0:oI P w K mg (fG s₁.heap H) callerA [] s₁ H:=⟨rfl,hM,fun b o e=>pH e,Nat.le_of_eq (jR _ _),trivial,fun b hb=>absurd (show b∈([]:List Addr) from hb) (by simp),hok,.of_eq hg⟩
  refine codeAny_mono ((F _ hKb (nsK hns)).run callerA [] s₁ H ⟨[.ref a],[]⟩ [.ref a] [.ref a] _ _ hr e0 (hbind s₁ (.ref a)) (.cons rfl .nil) (hsp H hO hS)) fun r s' h=>?_
  cases r with
  | error e=>exact (hCX H e s' h).elim
  | ok fl =>
   cases fl with
   | next=>exact a1f h
   | brk=>exact a1f h
   | cont=>exact a1f h
   | ret u =>
    obtain ⟨v,H',os,bare,un,hok',r',q⟩:=h
    have q':v=.bl true:=q
    subst q'
    obtain rfl:u=Value.bool true:=r'
    refine ⟨rfl,OldK.of_keep fun b o e=>?_,os,bare⟩
    cases q:H b with
    | none=>exact un.keep b o e q (by intro z; exact absurd (show b∈([]:List Addr) from z) (by simp)) (by simp)
    | some u =>
     rcases hO b with z | ⟨ob,xs,z⟩
     ·rw [q] at z; cases z
     ·have z2:=un.frzs b ob _ z
      obtain ⟨e1,_⟩:=hok b _ z
      obtain ⟨e2,_⟩:=hok' b _ z2
      rw [e] at e1; cases e1
      exact e2
 cases hk:K.lookup a with
 | some o =>
  -- the script is one of the module's own objects
  have e:=KX a o hk
  rw [ha] at e
  cases e
  refine core (fun _=>none) (fun _=>.inl rfl) (.inr ⟨_,vs.toArray,_,hk,rfl,rfl,rfl,by rw [a0i,lenV]; exact hl,by simpa using rv⟩) (fun b u z=>by have z':(none:Option HO)=some u:=z; cases z') (fun b z=>absurd rfl z) fun z=>absurd rfl z
 | none =>
  refine core (fun b=>if b=a then some (.frz { cls:=.type "list",data:=.seq vs.toArray } (.lst (ns.map V.int))) else none) (fun b=>?_) (.inl (.inr ⟨{ cls:=.type "list",data:=.seq vs.toArray },if_pos rfl⟩)) (fun b u z=>?_) (fun b z=>?_) fun _=>hk
  ·by_cases hb:b=a
   ·exact .inr ⟨_,_,if_pos hb⟩
   ·exact .inl (if_neg hb)
  ·by_cases hb:b=a
   ·have z':=(if_pos hb).symm.trans z
    cases z'
    subst hb
    exact ⟨ha,by rw [a0f]; exact hl,vs,_,rv,ha⟩
   ·have z':=(if_neg hb).symm.trans z
    cases z'
  ·by_cases hb:b=a
   ·exact hb
   ·exact absurd (if_neg hb) z
end L2
namespace L2
open PySem PySem.Spec PyProof.Rows
theorem walk_of {l:a1Y}{n k:Nat}{q:Program}{loose:List Str}{XP:(Str->Option Value)->Heap->Prop}{YP:World->Heap->Prop}{d:DefRec}{K:Params->a0a}{CX:World->CXT}{sp:World->Sp}{x:Str}
  (hn:l.most=some n) (hn2:n<=sizeLine) (hdf:d.params.defaults=[]) (hr:Room k callerA)
  (hY:∀ (w:World) (h:Heap),YP w h->(K w.params).In h)
  (F:∀ (w:World) (mg:Str->Option Value) (fa:Addr) (h:Heap),(K w.params).In h->h.Ns mainGlobals mg->mg d.name=some (.ref fa) ->
   ∃ fd:FuncData,(∀ (s:Shared) (u:Value),BindsTo s fd ⟨[u],[]⟩ [(x,u)]) /\
    ∀ base:Heap,(K w.params).In base->base.Ns mainGlobals mg->cx l.prog w (K w.params) mg base (CX w) k fa fd [x] (sp w))
  (hsp:∀ (w:World) (H:Hp) (a:Addr) (ns:List Int),ns.length<=n->lA H->SqL (K w.params) H a (ns.map V.int)->sp w [.ref a] H (fun v _=>v=.bl true) fun _ _ _=>False)
  (hCX:∀ (w:World) (H:Hp) (s:Shared) (e:Value) (s':Shared),CX w [] H s (fun _ _ _=>False) e s'->False) :
  a2y q loose XP YP l.row.toRowW d [] (fun f vs=>a2x f vs):=by
 refine Att.attach_call hn hdf fun w s₀ s₁ mg mb fa o pm cd doc a vs ns G Y ho hd hcd hmg hobj hints hlen hg=>?_
 have KX:=hY w _ Y
 obtain ⟨fd,hb,hF⟩:=F w mg fa _ KX G.T.g hmg
 exact nF KX G.T.g G.T.b G.T.builtins G.T.nolimit hg hobj hints (a0r hlen hn2) hr hF hb (fun H hO hS=>hsp w H a ns hlen hO hS) fun H e s'=>hCX w H s₁ e s'
end L2
namespace L2
open PySem PySem.Spec PyProof.Rows
noncomputable def defArgs (s:Stmt):Arguments:=match s with
 | .FunctionDef _ a _ _ _ _ _ _ _ _=>a
 | _=>{ posonlyargs:=[],args:=[],vararg:=none,kwonlyargs:=[],kw_defaults:=[],kwarg:=none,defaults:=[] }
noncomputable def defBody (s:Stmt):List Stmt:=match s with
 | .FunctionDef _ _ b _ _ _ _ _ _ _=>b
 | _=>[]
noncomputable def defScope (s:Stmt):Scope:=match s with
 | .FunctionDef _ _ _ _ _ _ sc _ _ _=>sc
 | _=>{ kind:=.function,names:=[],isGenerator:=false,isCoroutine:=false }
noncomputable abbrev CX0:CXT:=fun _ _ _ _ _ _=>False
noncomputable abbrev E0:XK:=fun _ _ _=>False
theorem yu {X:Cx}:iy CX0 X E0:=fun _ _ _ _ _ _ _ h=>h.elim
structure Fun (K:a0a)(x qual:Str)(st:Stmt)(f:Addr)(fd:FuncData):Prop where
 ex:∃ (oc:Value) (od:Option Addr) (kV doc pm:Value) (an:Option Addr) (cdv ct:Value) (osl:Array (Option Value)),
  fd=a04 x qual (defArgs st) (defBody st) (defScope st) .none kV doc pm an cdv ct/\K.lookup f=some ⟨oc,od,.func fd,osl⟩/\a1F K cdv qual=true
 kp:a1t K (.ref f)=true
section
variable {P:Program}{w:World}{K:a0a}{mg:Str->Option Value}{base:Heap}
theorem Fun.ok {x qual:Str}{st:Stmt}{f:Addr}{fd:FuncData}{N ps:List Str}{k:Nat}{sp:Sp}(F:Fun K x qual st f fd)(S:aw N ps (defScope st))(len:∀ vs H Q E,sp vs H Q E->vs.length=ps.length)
  (hbody:∀ (cdv:Value) (A:Around) (outer:List Env) (s:Shared) (H:Hp) (vs:List V) (Q:VK) (E:XK),Room k (A.deeper (envOfC qual (defScope st) s.heap.objs.size f cdv))->sp vs H Q E ->
   ∃ t,PSs (fD CX0 P w K mg base N qual (defScope st) f cdv A outer s H E).nox (defBody st) t/\t { nx:=fun _ H'=>Q .non H',rt:=Q } (start N vs) H):cx P w K mg base CX0 (k+1) f fd ps sp:=by
 obtain ⟨oc,od,kV,doc,pm,an,cdv,ct,osl,rfl,lk,hcd⟩:=F.ex
 refine vZ lk hcd S len fun A outer s H vs Q E hr hsp=>?_
 obtain ⟨t,h,q⟩:=hbody cdv A outer s H vs Q E hr hsp
 exact ⟨t,h.nox,q⟩
theorem Fun.binds {x qual:Str}{st:Stmt}{f:Addr}{fd:FuncData}{ps:List Str}(F:Fun K x qual st f fd)
  (h:∀ (kV doc pm:Value) (an:Option Addr) (cdv ct:Value) (us:List Value),us.length=ps.length->bindArgs (a04 x qual (defArgs st) (defBody st) (defScope st) .none kV doc pm an cdv ct) ⟨us,[]⟩=pure (ps.zip us)):Binds K fd ps []:=by
 obtain ⟨oc,od,kV,doc,pm,an,cdv,ct,osl,rfl,lk,hcd⟩:=F.ex
 exact .all (h kV doc pm an cdv ct)
theorem nE {x qual:Str}{st:Stmt}{f:Addr}{oc:Value}{od an:Option Addr}{osl:Array (Option Value)}{kV doc pm cdv ct:Value}(l:K.lookup f=some ⟨oc,od,.func (a04 x qual (defArgs st) (defBody st) (defScope st) .none kV doc pm an cdv ct),osl⟩)
  (c:a1F K cdv qual=true) (k:a1t K (.ref f)=true):Fun K x qual st f (a04 x qual (defArgs st) (defBody st) (defScope st) .none kV doc pm an cdv ct):=⟨⟨oc,od,kV,doc,pm,an,cdv,ct,osl,rfl,l,c⟩,k⟩
end
theorem w8 {A:Around}{k:Nat}(hr:Room k A):A.units+1 < cLine:=a1A (Nat.add_le_add_left (by decide:1<=64) _) hr.units
section
variable {X:Cx}
theorem pv (i:Nat){x:Str}{pos:Pos}(hN:X.N[i]?=some x:=by rfl)(hv:Vis X.env.scope x:=by first | exact a0I rfl | exact a0C (a0I rfl) | exact a0C (a0C rfl))(hd:(x==("__debug__":Str))=false:=by decide)
  (hcd:(x==("__classdict__":Str))=false:=by decide):PE X (.Name x pos) (k9 i):=cR hN hv hd hcd
end
noncomputable def Same (H H':Hp):Prop:=∀ b o,H b=some o->H' b=some o
theorem Same.refl (H:Hp):Same H H:=fun _ _ h=>h
end L2
namespace L2
open PySem PySem.Spec PyProof.Rows
section
variable {κ:Type}[DecidableEq κ]
noncomputable def c6 (kvs:List (κ×V))(k:κ):Option V:=(kvs.find? fun kv=>decide (kv.1=k)).map (·.2)
noncomputable def gH (kvs:List (κ×V))(k:κ)(v:V):List (κ×V) :=
 if (kvs.any fun kv=>decide (kv.1=k))=true then kvs.map (fun kv=>if kv.1=k then (kv.1,v) else kv) else kvs++[(k,v)]
theorem fR {p:κ×V}{r:List (κ×V)}{k:κ}(e:p.1=k):c6 (p::r) k=some p.2:=by simp [c6,a03,e]
theorem gy {p:κ×V}{r:List (κ×V)}{k:κ}(e:¬ p.1=k):c6 (p::r) k=c6 r k:=by simp [c6,a03,e]
theorem gj (kvs:List (κ×V))(k:κ)(v:V):(gH kvs k v).length<=kvs.length+1:=by
 unfold gH
 split
 ·rw [a0f]; omega
 ·rw [a0d,a0b,a0y]; omega
theorem KV.val {kvs:List (κ×V)}{vs:List (κ×Value)}(r:KV kvs vs)(k:κ):RelO (c6 kvs k) (valueAt vs k):=by
 unfold KV at r
 induction r with
 | nil=>exact a1j
 | @cons p q ps qs h t ih =>
  obtain ⟨h1,h2⟩:=h
  by_cases e:p.1=k
  ·have e':q.1=k:=h1.symm.trans e
   have b:valueAt (q::qs) k=some q.2:=by simp [valueAt,a03,e']
   rw [fR e,b]; exact h2
  ·have e':¬ q.1=k:=fun z=>e (h1.trans z)
   have b:valueAt (q::qs) k=valueAt qs k:=by simp [valueAt,a03,e']
   rw [gy e,b]; exact ih
theorem KV.any {kvs:List (κ×V)}{vs:List (κ×Value)}(r:KV kvs vs)(k:κ):(kvs.any fun kv=>decide (kv.1=k))=vs.any fun kv=>decide (kv.1=k):=by
 unfold KV at r
 induction r with
 | nil=>rfl
 | cons h t ih=>rw [a1y,a1y,ih,h.1]
theorem KV.repl {kvs:List (κ×V)}{vs:List (κ×Value)}(r:KV kvs vs)(k:κ){y:V}{u:Value}(ry:RelV y u) :
  KV (kvs.map fun kv=>if kv.1=k then (kv.1,y) else kv) (vs.map fun kv=>if kv.1=k then (kv.1,u) else kv):=by
 unfold KV at r ⊢
 induction r with
 | nil=>exact .nil
 | @cons p q ps qs h t ih =>
  rw [a0x,a0x]
  refine .cons ?_ ih
  obtain ⟨h1,h2⟩:=h
  by_cases e:p.1=k
  ·rw [if_pos e,if_pos (h1.symm.trans e)]; exact ⟨h1,ry⟩
  ·rw [if_neg e,if_neg (fun z=>e (h1.trans z))]; exact ⟨h1,h2⟩
theorem KV.put {kvs:List (κ×V)}{vs:List (κ×Value)}(r:KV kvs vs)(k:κ){y:V}{u:Value}(ry:RelV y u):KV (gH kvs k y) (stored vs k u):=by
 unfold gH stored
 rw [r.any k]
 by_cases e:(vs.any fun kv=>decide (kv.1=k))=true
 ·rw [if_pos e,if_pos e]; exact r.repl k ry
 ·rw [if_neg e,if_neg e]; exact Paired.snoc r ⟨rfl,ry⟩
end
theorem kG {P:Program}{w:World}{k:Key}{u:Value}(r:RelV (kV k) u):(aN P w).is k u=true:=by
 cases k with
 | inl i=>obtain ⟨t,e⟩:=(show ∃ t,u=Value.int i t from r); subst e; exact fP P w i t
 | inr x=>obtain ⟨t,e⟩:=(show ∃ t,u=Value.str x t from r); subst e; exact gJ P w x t
theorem ez {P:Program}{w:World}:∀ {ks:List Key} {us:List Value},Vals (ks.map kV) us->ItemsAre (aN P w) ks us
 | [],_,r=>by rw [a05] at r; cases r; exact .nil
 | k::ks,_,r=>by
  rw [a0x] at r
  cases r with
  | cons h t=>exact .cons (kG h) (ez t)
noncomputable abbrev KT (H:Hp):List (List Key×V)->List (List Key×Addr×Value)->Prop:=Paired fun p q=>p.1=q.1/\H q.2.1=some (.tup (p.1.map kV))/\RelV p.2 q.2.2
theorem KT.val {H:Hp}{kvs:List (List Key×V)}{xs:List (List Key×Addr×Value)}(r:KT H kvs xs)(k:List Key):RelO (c6 kvs k) ((atKey xs k).map (·.2)):=by
 induction r with
 | nil=>exact a1j
 | @cons p q ps qs h t ih =>
  obtain ⟨h1,_,h2⟩:=h
  by_cases e:p.1=k
  ·have e':q.1=k:=h1.symm.trans e
   have b:atKey (q::qs) k=some q.2:=by simp [atKey,a03,e']
   rw [fR e,b]; exact h2
  ·have e':¬ q.1=k:=fun z=>e (h1.trans z)
   have b:atKey (q::qs) k=atKey qs k:=by simp [atKey,a03,e']
   rw [gy e,b]; exact ih
section
variable {P:Program}{w:World}{H:Hp}{h:Heap}{a:Addr}
theorem rh {u:HO}(ok:HOk P w H h)(e:Rd H a u):ObjOk P w H h a u:=e.ok ok
theorem mx {kvs:List (Key×V)}(ok:HOk P w H h)(e:Rd H a (.dK kvs)):kvs.length<=sizeLine/\(a==sysModules)=false/\∃ vs,KV kvs vs/\h.DictOf (aN P w) a vs :=
 show ObjOk P w H h a (.dK kvs) from rh ok e
theorem wo {kvs:List (Key×V)}(ok:HOk P w H h)(e:H a=some (.dK kvs)):kvs.length<=sizeLine/\(a==sysModules)=false/\∃ vs,KV kvs vs/\h.DictOf (aN P w) a vs:=mx ok (.inl e)
theorem nH {ks:List Key}(ok:HOk P w H h)(e:H a=some (.tup (ks.map kV))):(tupleKind (aN P w)).is h ks a:=by
 obtain ⟨_,its,r,o,h1,h2,n,h3⟩:=(show ObjOk P w H h a (.tup (ks.map kV)) from ok a _ e)
 exact ⟨o,its.toArray,n,h1,h2,h3,by simpa using ez r⟩
theorem qX {kvs:List (List Key×V)}(ok:HOk P w H h)(e:Rd H a (.dT kvs)):kvs.length<=sizeLine/\(a==sysModules)=false /\
  ∃ xs,KT H kvs xs/\h.DictOfH (tupleKind (aN P w)) a xs:=by
 obtain ⟨z,y,xs,r,o,es,ep,h1,h2,h3,h4,h5⟩:=(show ObjOk P w H h a (.dT kvs) from rh ok e)
 refine ⟨z,y,xs,r,o,es,ep,h1,h2,h3,h4,fun x hx=>?_,h5⟩
 have all:∀ {l:List (List Key×V)} {m:List (List Key×Addr×Value)},KT H l m->∀ x∈m,(tupleKind (aN P w)).is h x.1 x.2.1:=by
  intro l m q
  induction q with
  | nil=>intro x hx; exact nomatch hx
  | @cons p q ps qs hq t ih =>
   intro x hx
   rcases a0E.mp hx with e | hx
   ·subst e
    exact nH ok (by rw [<- hq.1]; exact hq.2.1)
   ·exact ih x hx
 exact all r x hx
end
noncomputable def tM (H:Hp)(a:Addr)(y:V)(r:Option V):Prop :=
 (∃ kvs k,Rd H a (.dK kvs)/\y=kV k/\r=c6 kvs k)\/∃ kvs k b,Rd H a (.dT kvs)/\y=.ref b/\H b=some (.tup (k.map kV))/\r=c6 kvs k
section
variable {X:Cx}{pins:List (Addr×Obj)}{σ:St}{H:Hp}{s:Shared}{a:Addr}{y v:V}{u r:Value}{o:Option V}{A:Around}{E:Value->Shared->Prop}
theorem Inv.big (I:Inv X pins σ H s):sysModules < s.heap.objs.size:=by
 have h:mainGlobals < s.heap.objs.size:=(I.mod.glob.keeps I.bk).lt
 exact Nat.lt_trans (by decide) h
theorem jQ {Q:Value->Shared->Prop}(hu:A.units+1 < cLine)(I:Inv X pins σ H s)(g:tM H a y (some v))(ry:RelV y u)(h:∀ w' s',Inv X pins σ H s'->RelV v w'->Q w' s') :
  wpAny (model X.prog X.w) A (getItem (.ref a) u) Q E s:=by
 rcases g with ⟨kvs,k,e,ey,l⟩ | ⟨kvs,k,b,e,ey,eb,l⟩
 ·subst ey
  obtain ⟨z,hd,vs,rel,dd⟩:=mx I.hok e
  obtain ⟨w',hw,rw'⟩:=RelO.some_of (v:=v) (o:=valueAt vs k) (by rw [l]; exact rel.val k)
  exact wpAny_getItem_of (kG ry) dd.mapOf hw (h w' _ (I.tok _) rw')
 ·subst ey
  cases (show u=Value.ref b from ry)
  obtain ⟨z,hd,xs,rel,dd⟩:=qX I.hok e
  obtain ⟨w',hw,rw'⟩:=RelO.some_of (v:=v) (o:=(atKey xs k).map (·.2)) (by rw [l]; exact rel.val k)
  obtain ⟨p,hp,hp2⟩:=Option.map_eq_some_iff.mp hw
  refine wpAny_getItem_heap (tupleKind_room_in1 hu) (nH I.hok eb) dd hp ?_
  rw [hp2]
  exact h w' _ (I.tok _) rw'
theorem pW {h':Heap}{t':Nat}{ob:HO}(I:Inv X pins σ H s)(mu:Mut (H a))(hs:Heap.SameBut a s.heap h')(he:∃ q,h'.get? a=some q)(new:ObjOk X.prog X.w (upd H a ob) h' a ob) :
  Inv X pins σ (upd H a ob) { s with heap:=h',toks:=t' } :=
 I.write (x:=a) (e:=a) mu (.inl rfl) (fun b q hb z=>(hs.2 b hb).trans z) he new
theorem rO {P:Program}{w:World}{H':Hp}{h':Heap}{kvs:List (Key×V)}{vs:List (Key×Value)}(z:kvs.length<=sizeLine)(hd:(a==sysModules)=false)(rel:KV kvs vs)(dd:h'.DictOf (aN P w) a vs) :
  ObjOk P w H' h' a (.dK kvs):=⟨z,hd,vs,rel,dd⟩
end
noncomputable def u9 (i:Expr):Prop:=∀ ov iv,subscripted i false ov iv=operate [ov,iv] (getItem ov iv)
theorem qi {prog:Program}{w:World}{A:Around}{E:Value->Shared->Prop}{s:Shared}{env:Env}{value slice:Expr}{pos:Pos}{T id:String}{Q:Value->Shared->Prop}
  (hl:typeLookup (.type T) "__getitem__"=pure (some (.builtin id))) (hs:u9 slice)
  (h:wpAny (model prog w) A (eval value env) (fun o s₁=>wpAny (model prog w) A (eval slice env) (fun i s₂=>s₂.TypeIs o T/\wpAny (model prog w) A (getItem o i) Q E s₂) E s₁) E s) :
  wpAny (model prog w) A (eval (.Subscript value slice pos) env) Q E s:=by
 refine Subscript_ (wpAny_mono h (fun o s₁ h₁=>wpAny_mono h₁ (fun i s₂ h₂=>?_) fun _ _ x=>x) fun _ _ x=>x)
 obtain ⟨hT,h₂⟩:=h₂
 unfold subscriptTail
 refine wpAny_bind ?_
 rw [getitemInPython_of_ne hT.not_modules]
 refine wpAny_bind (wpAny_specialOf hT hl ?_)
 have fin:wpAny (model prog w) A (subscripted slice false o i) (fun r s₃=>wpAny (model prog w) A (letTemporaryGo value o r >>= fun _=>pure r) Q E s₃) E s₂:=by
  rw [hs o i]
  exact wpAny_operating (wpAny_mono h₂ (fun r s₃ h₃=>wpAny_bind (wpAny_letTemporaryGo (wpAny_pure h₃))) fun _ _ x=>x)
 first
  | exact wpAny_pure (wpAny_bind fin)
  | exact wpAny_bind (wpAny_pure (wpAny_bind fin))
  | exact wpAny_bind fin
theorem gg {X:Cx}{pins:List (Addr×Obj)}{σ:St}{H:Hp}{s:Shared}{a:Addr}{y:V}{o:Option V}(I:Inv X pins σ H s)(g:tM H a y o):s.TypeIs (.ref a) "dict":=by
 rcases g with ⟨kvs,k,e,_,_⟩ | ⟨kvs,k,b,e,_,_,_⟩
 ·obtain ⟨_,_,vs,_,dd⟩:=mx I.hok e
  exact dd.typeIs
 ·obtain ⟨_,_,xs,_,dd⟩:=qX I.hok e
  exact dd.typeIs
noncomputable def q9 (td ty:TE):TE:=fun σ H Q=>td σ H fun x H1=>ty σ H1 fun y H2=>∃ a v,x=.ref a/\tM H2 a y (some v)/\Q v H2
section
variable {X:Cx}{o i e value:Expr}{pos pos' tpos:Pos}{td ty tv:TE}
theorem o8 (hu:X.A.units+1 < cLine)(ho:PE X o td)(hi:PE X i ty)(hs:u9 i):PE X (.Subscript o i pos) (q9 td ty):=by
 intro pins s σ H Q I h
 refine qi a1G.lookup hs (thn (ho pins s σ H _ I h) fun u s1 ⟨x,H1,I1,rx,q1⟩=>thn (hi pins s1 σ H1 _ I1 q1) fun iv s2 ⟨y,H2,I2,ry,a,v,ex,g,q2⟩=>?_)
 subst ex
 obtain rfl:u=Value.ref a:=rx
 exact ⟨gg I2 g,jQ hu I2 g ry fun w' s3 I3 rw'=>⟨v,H2,I3,rw',q2⟩⟩
end
theorem lJ {P:Program}{w:World}{H:Hp}(h:Heap)(hb:sysModules < h.objs.size):ObjOk P w H (h.push { cls:=.type "dict",data:=.dict #[] }) h.objs.size (.dK []) :=
 ⟨a1e _,beq_eq_false_iff_ne.mpr (a13 (a0A hb)),[],.nil,Heap.DictOf.new h⟩
noncomputable def fg:List (TE×TE)->St->Hp->(List (V×V)->Hp->Prop)->Prop
 | [],_,H,Q=>Q [] H
 | (tk,tv)::r,σ,H,Q=>tk σ H fun x H1=>tv σ H1 fun y H2=>fg r σ H2 fun ps H3=>Q ((x,y)::ps) H3
noncomputable abbrev VV:List (V×V)->List (Value×Value)->Prop:=Paired fun p q=>RelV p.1 q.1/\RelV p.2 q.2
noncomputable def PPs (X:Cx)(pos:Pos)(keys:List (Option Expr))(values:List Expr)(trs:List (TE×TE)):Prop :=
 ∀ (pins:List (Addr×Obj)) (s:Shared) (σ:St) (H:Hp) (Q:List (V×V)->Hp->Prop),Inv X pins σ H s->fg trs σ H Q ->
  wpAny (model X.prog X.w) X.A (evalPairs (pairTrees keys values X.env pos)) (fun vs s'=>∃ ps H',Inv X pins σ H' s'/\VV ps vs/\Q ps H') X.xe s
theorem qz {X:Cx}{pos:Pos}:PPs X pos [] [] []:=fun pins s σ H Q I h=>pairTrees_nil_walk ⟨[],H,I,.nil,h⟩
theorem lU {X:Cx}{pos:Pos}{k v:Expr}{ks:List (Option Expr)}{vs:List Expr}{tk tv:TE}{trs:List (TE×TE)}(hk:PE X k tk)(hv:PE X v tv)(hr:PPs X pos ks vs trs) :
  PPs X pos (some k::ks) (v::vs) ((tk,tv)::trs):=fun pins s σ H Q I h =>
 pairTrees_cons_walk (thn (hk pins s σ H _ I h) fun u s1 ⟨x,H1,I1,rx,q1⟩=>thn (hv pins s1 σ H1 _ I1 q1) fun w2 s2 ⟨y,H2,I2,ry,q2⟩ =>
  thn (hr pins s2 σ H2 _ I2 q2) fun ws s3 ⟨ps,H3,I3,rel,q3⟩=>⟨(x,y)::ps,H3,I3,.cons ⟨rx,ry⟩ rel,q3⟩)
noncomputable def ck (kvs more:List (Key×V)):List (Key×V):=more.foldl (fun acc kv=>gH acc kv.1 kv.2) kvs
theorem KV.merge:∀ {more:List (Key×V)} {rs:List (Key×Value)} {kvs:List (Key×V)} {vs:List (Key×Value)},KV more rs->KV kvs vs->KV (ck kvs more) (merged vs rs):=by
 intro more rs kvs vs r
 unfold KV at r
 induction r generalizing kvs vs with
 | nil=>intro q; exact q
 | @cons p q ps qs h t ih =>
  intro r0
  have e:KV (gH kvs p.1 p.2) (stored vs q.1 q.2):=by
   have:=r0.put p.1 h.2
   rw [<- h.1]; exact this
  exact ih e
theorem cb:∀ (more kvs:List (Key×V)),(ck kvs more).length<=kvs.length+more.length
 | [],kvs=>by show kvs.length<=kvs.length+0; omega
 | p::r,kvs=>by
  have h1:=cb r (gH kvs p.1 p.2)
  have h2:=gj kvs p.1 p.2
  show (ck (gH kvs p.1 p.2) r).length<=_
  rw [a0b]; omega
theorem dF {P:Program}{w:World}:∀ {kvs:List (Key×V)} {ws:List (Value×Value)},VV (kvs.map fun kv=>(kV kv.1,kv.2)) ws->∃ rs,Carries (aN P w) ws rs/\KV kvs rs
 | [],_,r=>by rw [a05] at r; cases r; exact ⟨[],a1j,.nil⟩
 | p::kvs,_,r=>by
  rw [a0x] at r
  cases r with
  | @cons a b as bs h t =>
   obtain ⟨rs,c,q⟩:=dF (P:=P) (w:=w) t
   obtain ⟨b1,b2⟩:=b
   exact ⟨(p.1,b2)::rs,⟨kG h.1,rfl,c⟩,.cons ⟨rfl,h.2⟩ q⟩
noncomputable def rD (trs:List (TE×TE)):TE:=fun σ H Q=>∀ p,H p=none->fg trs σ (upd H p (.dK [])) fun ps H2=>H2 p=some (.dK [])/\∃ kvs:List (Key×V),ps=kvs.map (fun kv=>(kV kv.1,kv.2))/\kvs.length<=15/\Q (.ref p) (upd H2 p (.dK (ck [] kvs)))
theorem pI {X:Cx}{pos:Pos}{keys:List (Option Expr)}{values:List Expr}{trs:List (TE×TE)}(h:PPs X pos keys values trs)(hall:keys.all (·.isSome)=true)(hl:keys.length=values.length)(h0:keys≠[])
  (h15:keys.length<=15):PE X (.Dict keys values pos) (rD trs):=by
 intro pins s σ H Q I q
 have hn:=I.hok.fresh (a0k s.heap.objs.size)
 have I1:=I.laid (a:=s.heap.objs.size) (o:=.dK []) (h':=s.heap.push { cls:=.type "dict",data:=.dict #[] }) (t':=s.toks) (fun _ _ q=>Heap.get?_push_of_some _ q) (a0k _) (lJ s.heap I.big)
 refine wpAny_Dict_walk (knd:=aN X.prog X.w) hall hl h0 h15 (thn (h pins _ σ _ _ I1 (q _ hn)) fun ws s2 ⟨ps,H2,I2,rel,e,kvs,ep,lk,q2⟩=>?_)
 subst ep
 obtain ⟨rs,c,rk⟩:=dF (P:=X.prog) (w:=X.w) rel
 obtain ⟨z,hd,vs0,r0,dd⟩:=wo I2.hok e
 cases r0
 refine ⟨rs,c,dd,fun h' dd' hs=>⟨.ref s.heap.objs.size,_,?_,rfl,q2⟩⟩
 have hz:(ck [] kvs).length<=sizeLine:=by
  have h1:=cb kvs []
  rw [a0y] at h1
  rw [sizeLine_eq]; omega
 have he:∃ q,h'.get? s.heap.objs.size=some q:=let ⟨q,_,_,hq,_⟩:=dd'; ⟨q,hq⟩
 exact pW I2 (by rw [e]; exact a1j) hs he (rO hz hd (rk.merge .nil) dd')
end L2
namespace L2
open PySem PySem.Spec PyProof.Rows
end L2

set_option maxHeartbeats 4000000
namespace L3
open PySem PySem.Spec PyProof.Rows L2
noncomputable abbrev noX:Value->Shared->Prop:=fun _ _=>False
theorem jT {P:Program}{w:World}{H:Hp}{h:Heap}{a:Addr}{o:HO}(x:HOk P w H h)(hn:H a=none)(new:ObjOk P w (upd H a o) h a o):HOk P w (upd H a o) h:=by
 intro b u e
 by_cases hb:b=a
 ·subst hb
  rw [ay] at e
  cases e
  exact new
 ·rw [ah hb] at e
  refine (x b u e).stay (fun c v _ q=>q) (fun c q=>?_) (fun c xs q=>?_)
  ·rw [ah (aS q hn)]; exact q
  ·rw [ah (aS q hn)]; exact q
section
variable {prog:Program}{w:World}{A:Around}{R:Result->Shared->Prop}{s:Shared}
theorem iC {elt tg iter:Expr}{scope:Scope}{pos:Pos}{it acc:Value}{env:Env}(J:Nat->Shared->Prop)
  (turn:∀ n s,J n s->wpAny (model prog w) A (pyNext it) (fun r s₁=>match r with
   | none=>R (.ok .next) s₁
   | some v=>wpAny (model prog w) A (letOwnedTupleGo tg it v) (fun _ s₂=>wpAny (model prog w) A (assign tg env v) (fun _ s₃ =>
     wpAny (model prog w) A (eval elt env) (fun y s₄=>wpAny (model prog w) A (call (.builtin "list.append") [acc,y]) (fun _ s₅=>∃ m,m < n/\J m s₅) noX s₄) noX s₃) noX s₂) noX s₁) noX s)
  (n:Nat) (h:J n s):codeAny (model prog w) A (.compLoop (.ListComp elt [⟨tg,iter,[],0⟩] scope pos) 0 it acc env) R s:=by
 refine codeAny_loop rfl J (fun n s hJ=>?_) n h
 show wpAny _ A ((compTurn (.ListComp elt [⟨tg,iter,[],0⟩] scope pos) 0 it acc env).onRaise (fun x=>do noteFrame x env; theTreesLotGoes x)) _ _ s
 refine wpAny_noted ?_
 rw [compTurn_list]
 refine wpAny_bind (wpAny_standAt (wpAny_bind (wpAny_mono (turn n s hJ) (fun r s₁ h₁=>?_) fun _ _ z=>z.elim)))
 cases r with
 | none=>exact wpAny_pure h₁
 | some v =>
  refine wpAny_bind (wpAny_mono h₁ (fun _ s₂ h₂=>?_) fun _ _ z=>z.elim)
  refine wpAny_bind (wpAny_mono h₂ (fun _ s₃ h₃=>?_) fun _ _ z=>z.elim)
  refine wpAny_bind (wpAny_tests_nil ?_)
  exact wpAny_bind (wpAny_bind (wpAny_mono h₃ (fun y s₄ h₄=>wpAny_bind (wpAny_mono h₄ (fun _ s₅ h₅=>wpAny_pure (wpAny_pure ⟨rfl,h₅⟩)) fun _ _ z=>z.elim)) fun _ _ z=>z.elim))
end
noncomputable def av (X:Cx)(N:List Str)(scope:Scope)(cl:List (Str×Addr))(C:Addr)(s:Shared)(H:Hp)(fp:List Addr):Cx where
 prog:=X.prog
 w:=X.w
 K:=X.K
 mg:=X.mg
 base:=X.base
 A:=X.A
 N:=N
 s₀:=s
 H₀:=H
 env:=compEnvC scope cl C X.env
 outer:=X.stack
 stack:=X.stack
 ex:=fp
 fn:=fun _=>false
 calm:=X.calm
 pn:=X.pn
 xe:=noX
structure kg (x:Str)(ys:List Str)(scope:Scope):Prop where
 kind:scope.kind=.function
 cell:∀ y∈scope.names,y.2≠.cell
 nm:∀ y∈scope.names,y.2=.local->scope.names.lookup y.1=some .local
 loc:scope.names.lookup x=some .local
 nd:(x::ys).Nodup
inductive Clo (X:Cx):List (Str×Addr)->Prop
 | nil:Clo X []
 | cons {y:Str} {c:Addr} {cl:List (Str×Addr)}:X.env.cells.lookup y=some c->Clo X cl->Clo X ((y,c)::cl)
theorem Clo.get {X:Cx}{cl:List (Str×Addr)}(h:Clo X cl):∀ {y:Str} {c:Addr},cl.lookup y=some c->X.env.cells.lookup y=some c:=by
 induction h with
 | nil=>intro y c e; cases e
 | @cons z d cl' hz _ ih =>
  intro y c e
  cases q:y==z with
  | true =>
   simp only [a0Z,q] at e
   cases e
   rw [eq_of_beq q]; exact hz
  | false =>
   simp only [a0Z,q] at e
   exact ih e
inductive Frees (X:Cx)(scope:Scope)(cl:List (Str×Addr)):List Str->List Nat->Prop
 | nil:Frees X scope cl [] []
 | cons {y:Str} {ys:List Str} {i:Nat} {is:List Nat} {c:Addr}:X.N[i]?=some y->Vis X.env.scope y->(X.env.kindOf y=some .cell\/X.env.kindOf y=some .free)->X.env.cells.lookup y=some c->cl.lookup y=some c ->
   ((relabel scope X.env).names.lookup y=some .cell\/(relabel scope X.env).names.lookup y=some .free)->Frees X scope cl ys is->Frees X scope cl (y::ys) (i::is)
theorem Frees.len {X:Cx}{scope:Scope}{cl:List (Str×Addr)}{ys:List Str}{is:List Nat}(F:Frees X scope cl ys is):is.length=ys.length:=by
 induction F with
 | nil=>rfl
 | cons _ _ _ _ _ _ _ ih=>rw [a0b,a0b,ih]
noncomputable def bh (σ:L2.St)(is:List Nat):L2.St:=is.map fun i=>(σ[i]?).join
theorem Frees.get {X:Cx}{scope:Scope}{cl:List (Str×Addr)}{ys:List Str}{is:List Nat}{σ:L2.St}(F:Frees X scope cl ys is):∀ {j:Nat} {y:Str} {v:V},ys[j]?=some y->(bh σ is)[j]?=some (some v) ->
  ∃ (i:Nat) (c:Addr),X.N[i]?=some y/\σ[i]?=some (some v)/\Vis X.env.scope y/\(X.env.kindOf y=some .cell\/X.env.kindOf y=some .free)/\X.env.cells.lookup y=some c/\cl.lookup y=some c /\
   ((relabel scope X.env).names.lookup y=some .cell\/(relabel scope X.env).names.lookup y=some .free):=by
 induction F with
 | nil=>intro j y v e; simp at e
 | @cons z zs i is c h1 h2 h3 h4 h5 h6 _ ih =>
  intro j y v e1 e2
  unfold bh at e2
  rw [a0x] at e2
  cases j with
  | zero =>
   rw [a1o] at e1 e2
   cases e1
   cases q:σ[i]? with
   | none=>rw [q] at e2; cases e2
   | some o =>
    rw [q] at e2
    have e3:o=some v:=a0s e2
    subst e3
    exact ⟨i,c,h1,q,h2,h3,h4,h5,h6⟩
  | succ j =>
   rw [a0v] at e1 e2
   exact ih e1 e2
theorem gq {X:Cx}{pins:List (Addr×Obj)}{σ:L2.St}{H:Hp}{s:Shared}{x:Str}{ys:List Str}{is:List Nat}{scope:Scope}{cl:List (Str×Addr)}{fp:List Addr}{C:Addr}{h1:Heap}{t1:Nat}{m1:Str->Option Value}
  (I:Inv X pins σ H s) (hf:∀ b∈fp,eR X pins H b) (hfo:∀ b∈fp,b < s.heap.objs.size) (S:kg x ys scope) (hcl:Clo X cl)
  (hfr:(scope.names.all fun p=>p.2 != .free || (cl.lookup p.1).isSome)=true) (fr:Frees X scope cl ys is)
  (hC:s.heap.objs.size<=C) (old:∀ b o,s.heap.get? b=some o->h1.get? b=some o) (hn:h1.Ns C m1) :
  Inv (av X (x::ys) scope cl C s H fp) pins (none::bh σ is) H { s with heap:=h1,toks:=t1 }:=by
 have stk:∀ b,b≠X.env.locals->b ∉ X.fs->b ∉ frs X.stack:=fun b q1 q2 hb=>(a0E.mp (I.stkSub b hb)).elim q1 q2
 have key:∀ a k,(relabel scope X.env).names.lookup a=some k->(k=.cell\/k=.free)->∃ c,cl.lookup a=some c:=fun a k e hk=>by
  have hm:=a0Q e
  obtain ⟨⟨n,k0⟩,hp,ep⟩:=a1B.mp hm
  have hk0:k0=.free/\n=a:=by
   dsimp only at ep
   split at ep
   ·rename_i hc
    simp only [a0c] at hc
    exact ⟨eq_of_beq hc.1.1,(a14 ep).1⟩
   ·obtain ⟨e1,e2⟩:=a14 ep
    subst e2
    rcases hk with z | z
    ·exact absurd z (S.cell _ hp)
    ·exact ⟨z,e1⟩
  obtain ⟨z1,z2⟩:=hk0
  subst z1 z2
  have q:=a0J.mp hfr _ hp
  have q2:(cl.lookup n).isSome=true:=by simpa using q
  exact a1k.mp q2
 refine ⟨⟨I.ok.mod,S.kind,I.ok.glob,I.ok.blt,hC,fun a b c e1 e2=>I.ok.inj a b c (hcl.get e1) (hcl.get e2),fun a ha=>?_,fun a c e=>absurd e a0e,I.ok.hd,I.ok.frames,.inl rfl,
   fun b hb=>⟨a0A (a0j (hfo b hb) hC),fun a c e=>(hf b hb).2.2.2.2.1 a c (hcl.get e)⟩,I.bs,a0r I.ok.bsz I.sz,fun b o e hb=>?_,fun b hb=>stk b (hf b hb).2.1 (hf b hb).2.2.1,I.stack,I.stkFree⟩,
  rfl,I.bare,Un.kept old,⟨m1,hn,fun j y v e1 e2 e3=>?_⟩,fun a c e=>?_,I.hok.fresh hC,fun a c e=>I.freeC a c (hcl.get e),fun p hp=>?_,I.hok.kept old,?_⟩
 ·rcases ha with e | e
  ·exact key a _ e (.inl rfl)
  ·exact key a _ e (.inr rfl)
 ·rcases (hf b hb).2.2.2.1 with z | z
  ·exact I.ok.noex b o e z
  ·exact absurd (a0j (Heap.lt_size (I.ok.bs b o e).1) z) (a06 _)
 ·cases j with
  | zero =>
   have z:(none:Option V)=some v:=a0s e2
   cases z
  | succ j =>
   obtain ⟨i,c,g1,g2,g3,g4,g5,g6,g7⟩:=fr.get (σ:=σ) (show ys[j]?=some y from e1) (show (bh σ is)[j]?=some (some v) from e2)
   obtain ⟨m0,hn0,hl0⟩:=I.loc
   obtain ⟨u,r,l⟩:=hl0 i y v g1 g2 g3
   rcases l with ⟨k,_⟩ | ⟨_,c',e',z⟩
   ·rcases g4 with q | q
    ·rw [k] at q; cases q
    ·rw [k] at q; cases q
   ·rw [g5] at e'
    cases e'
    obtain ⟨o,ho,hd⟩:=z
    exact ⟨u,r,.inr ⟨g7,c,g6,⟨o,old _ _ ho,hd⟩⟩⟩
 ·obtain ⟨v,o,ho,hd⟩:=I.cell a c (hcl.get e)
  exact ⟨v,o,old _ _ ho,hd⟩
 ·obtain ⟨e,n,ne,nf,d⟩:=I.pin p hp
  exact ⟨old _ _ e,n,a0A (a0j (Heap.lt_size e) hC),stk _ ne nf,d⟩
 ·show (none::bh σ is).length=(x::ys).length
  unfold bh
  rw [a0b,a0b,a0f,fr.len]
noncomputable abbrev fw (its:List Value):Obj:={ cls:=.type "list",data:=.seq its.toArray its.length }
theorem jV {X:Cx}(hc:X.calm=true):dX X (.builtin "all") (fun xs H Q=>∃ (a:Addr) (bs:List Bool),xs=[.ref a]/\SqL X.K H a (bs.map V.bl)/\Q (.bl (bs.all id)) H):=by
 intro pins s σ H xs us Q I r h
 obtain ⟨a,bs,rfl,hS,q⟩:=h
 obtain ⟨u,rfl,ru⟩:=gU r
 cases ru
 obtain ⟨its,rv,p,hz⟩:=I.list hS
 have hlen:its.toArray.size=bs.length:=by rw [a0i,<- rv.length,a0f]
 have hlt:a < s.heap.objs.size:=by obtain ⟨o,e,_⟩:=p.isList; exact Heap.lt_size e
 refine call_all_walk (wpAny_pyIter_list p.isList ?_)
 refine ⟨s.heap.objs.size,_,_,_,_,_,fun i=>bs.getD i true,rfl,Walks.list (A:=X.A.in1) (show X.A.in1.handled=none from I.ok.hd hc) s.heap.objs.size a (a0A hlt) its.toArray,⟨⟨_,Heap.get?_push_size _ rfl,rfl,rfl⟩,p.isList.push _⟩,fun i v s' Q' E' hv hQ=>?_,fun h' tk k=>?_⟩
 ·have hv':its[i]?=some v:=by simpa using hv
  have hi:i < its.length:=(a0p.mp hv').1
  have hib:i < bs.length:=by have:=rv.length; rw [a0f] at this; omega
  obtain ⟨w',e1,e2⟩:=rv.get (i:=i) (x:=.bl bs[i]) (by rw [a0t,a0m hib]; rfl)
  rw [hv'] at e1
  cases e1
  cases e2
  refine wpAny_truthy_bool ?_
  have e3:bs.getD i true=bs[i]:=by rw [a0u,a0m hib]; rfl
  rw [<- e3]; exact hQ
 ·have e:(a0Y its.toArray.size).all (fun i=>bs.getD i true)=bs.all id:=by
   rw [hlen,Bool.eq_iff_iff,a0J,a0J]
   constructor
   ·intro z b hb
    obtain ⟨i,hi,e⟩:=List.getElem_of_mem hb
    have:=z i (a11.mpr hi)
    rw [a0u,a0m hi] at this
    simpa [e] using this
   ·intro z i hi
    have hi':=a11.mp hi
    rw [a0u,a0m hi']
    exact z _ (a1P hi')
  rw [e]
  exact ⟨.bl (bs.all id),H,I.kept (fun b o eo=>k b o (fun hm=>by
   have:b=s.heap.objs.size:=by simpa using hm
   exact absurd (this ▸ Heap.lt_size eo) (a06 _)) (Heap.get?_push_of_some _ eo)),rfl,q⟩
inductive Th where
 | non | bl (b:Bool) | int (i:Int) | str (x:Str) | tup (ts:List Th) | lst (ts:List Th)
mutual
noncomputable def Has (K:a0a)(H:Hp):Th->V->Prop
 | .non,v=>v=.non
 | .bl b,v=>v=.bl b
 | .int i,v=>v=.int i
 | .str x,v=>v=.str x
 | .tup ts,v=>∃ a vs,v=.ref a/\SqT K H a vs/\HasL K H ts vs
 | .lst ts,v=>∃ a vs,v=.ref a/\H a=some (.lst vs)/\HasL K H ts vs
noncomputable def HasL (K:a0a)(H:Hp):List Th->List V->Prop
 | [],vs=>vs=[]
 | t::ts,vs=>∃ v r,vs=v::r/\Has K H t v/\HasL K H ts r
end
noncomputable def Th.ty:Th->String
 | .non=>"NoneType" | .bl _=>"bool" | .int _=>"int" | .str _=>"str" | .tup _=>"tuple" | .lst _=>"list"
noncomputable def isI (c:String)(t:Th):Bool:=t.ty==c || (t.ty=="bool"&&c=="int")
theorem kit_type {K:a0a}{A B:String}:a09 K (.type A) (.type B)=a09 [] (.type A) (.type B):=by
 unfold a09 PySem.W.kitCls PySem.W.subIn
 rfl
theorem sA:∀ c∈["tuple","str","bool","int","list"],∀ n∈["NoneType","bool","int","str","tuple","list"],a09 [] (.type n) (.type c)=some (n==c || (n=="bool"&&c=="int")):=by decide +kernel
theorem uZ (t:Th):t.ty∈["NoneType","bool","int","str","tuple","list"]:=by cases t<;>simp [Th.ty]
theorem vE {c:String}(hc:c∈["tuple","str","bool","int","list"])(t:Th):a09 [] (.type t.ty) (.type c)=some (isI c t):=sA c hc t.ty (uZ t)
structure DTab (K:a0a)(w:World)(a:Addr)(T:List (Str×V)):Prop where
 ex:∃ es n,K.lookup a=some ⟨.type "dict",none,.dict es n,#[]⟩/\a2q w.params es.toList/\Paired (fun (p:Str×V) (e:DictEntry)=>(∃ t,e.key=.str p.1 t)/\RelV p.2 e.val) T es.toList
 lo:(a==sysModules)=false
theorem gn {x:Str}:∀ {T:List (Str×V)} {l:List DictEntry},Paired (fun (p:Str×V) (e:DictEntry)=>(∃ t,e.key=.str p.1 t)/\RelV p.2 e.val) T l->RelO (T.lookup x) ((l.find? fun d=>Value.isStrOf x d.key).map (·.val))
 | _,_,.nil=>trivial
 | (k,v)::T,e::l,.cons ⟨⟨t,h1⟩,h2⟩ r=>by
  have ih:=gn (x:=x) r
  have q:Value.isStrOf x e.key=(x==k):=by
   have h1':e.key=.str k t:=h1
   rw [h1']
   show (k==x)=(x==k)
   by_cases z:x=k
   ·subst z; rfl
   ·rw [beq_false_of_ne z,beq_false_of_ne (a13 z)]
  rw [a03,q,a0Z]
  cases x==k with
  | true=>exact h2
  | false=>exact ih
theorem DTab.map {K:a0a}{w:World}{a:Addr}{T:List (Str×V)}{P:Program}{h:Heap}(D:DTab K w a T)(X:K.In h):∃ f:Str->Option Value,h.MapOf (strKind P w) a f/\∀ x,RelO (T.lookup x) (f x):=by
 obtain ⟨es,n,h1,h2,h3⟩:=D.ex
 refine ⟨_,PySem.W.mapOf_K (prog:=P) X h1 h2,fun x=>?_⟩
 have q:=gn (x:=x) h3
 have e:findBy Value.isStrOf es x=(es.toList.find? fun d=>Value.isStrOf x d.key).map (·.val):=by
  unfold findBy
  rw [<- a16]
 rw [e]; exact q
theorem RelO.some_is {v:V}{o:Option Value}(r:RelO (some v) o):∃ u,o=some u/\RelV v u:=by
 cases o with
 | none=>exact r.elim
 | some u=>exact ⟨u,rfl,r⟩
theorem RelO.same_some {o:Option V}{u:Option Value}(r:RelO o u):u.isSome=o.isSome:=by
 cases o with
 | none =>
  cases u with
  | none=>rfl
  | some u=>exact r.elim
 | some v =>
  obtain ⟨u,rfl,_⟩:=RelO.some_is r
  rfl
section
variable {X:Cx}
theorem lj:OpR X (compareOp .In) (fun x y H Q=>∃ z a T,x=.str z/\y=.ref a/\DTab X.K X.w a T/\Q (.bl (T.lookup z).isSome) H):=by
 intro pins s σ H x y v u Q I rx ry h
 obtain ⟨z,a,T,rfl,rfl,D,q⟩:=h
 obtain ⟨t,rfl⟩:=rx
 cases ry
 obtain ⟨f,hm,hf⟩:=D.map (P:=X.prog) I.kIn
 refine wpAny_in_of (strKind_is X.prog X.w z t) D.lo hm ?_
 rw [RelO.same_some (hf z)]
 exact ⟨.bl (T.lookup z).isSome,H,I.tok _,rfl,q⟩
theorem gM:OpR X (compareOp .NotIn) (fun x y H Q=>∃ z a T,x=.str z/\y=.ref a/\DTab X.K X.w a T/\Q (.bl (!(T.lookup z).isSome)) H):=by
 intro pins s σ H x y v u Q I rx ry h
 obtain ⟨z,a,T,rfl,rfl,D,q⟩:=h
 obtain ⟨t,rfl⟩:=rx
 cases ry
 obtain ⟨f,hm,hf⟩:=D.map (P:=X.prog) I.kIn
 refine wpAny_notIn_of (strKind_is X.prog X.w z t) D.lo hm ?_
 rw [RelO.same_some (hf z)]
 exact ⟨.bl (!(T.lookup z).isSome),H,I.tok _,rfl,q⟩
theorem sZ:IxR X (fun x y H Q=>∃ a z T v,x=.ref a/\y=.str z/\DTab X.K X.w a T/\T.lookup z=some v/\Q v H):=by
 intro value slice pins s σ H x y v u Q I rx ry h hs
 obtain ⟨a,z,T,r,rfl,rfl,D,l,q⟩:=h
 cases rx
 obtain ⟨t,rfl⟩:=ry
 obtain ⟨f,hm,hf⟩:=D.map (P:=X.prog) I.kIn
 have e:=hf z
 rw [l] at e
 obtain ⟨w',e1,e2⟩:=RelO.some_is e
 exact tail_any hm.typeIs a1G.lookup (wpAny_getItem_of (strKind_is X.prog X.w z t) hm e1 ⟨r,H,I.tok _,e2,q⟩) hs
end
theorem fN {H:Hp}{p:Addr}(h:H p=none)(o:HO):Same H (upd H p o):=fun b u q=>by rw [ah (aS q h)]; exact q
noncomputable def q0 (K:a0a):R2:=fun x y H Q=>∃ a b xs ys,x=.ref a/\y=.ref b/\SqT K H a xs/\SqT K H b ys/\xs≠[]/\xs.length+ys.length<=sizeLine/\∀ v H',Same H H'->(∃ c,v=.ref c/\SqT K H' c (xs++ys))->Q v H'
theorem n6 {X:Cx}:OpR X (binaryOp .Add) (q0 X.K):=fun pins s σ H x y v u Q I rx ry h=>by
 obtain ⟨a,b,xs,ys,e1,e2,h1,h2,hx,hz,q⟩:=h
 exact nN pins s σ H x y v u Q I rx ry ⟨a,b,xs,ys,e1,e2,h1,h2,hx,hz,fun z=>q _ _ (Same.refl _) ⟨a,rfl,by rw [z,a0L]; exact h1⟩,fun _ p hp=>q _ _ (fN hp _) ⟨p,rfl,SqT.of ay⟩⟩
theorem xG {X:Cx}{x:Str}{T:String}{pos:Pos}(hg:Gl X x)(hm:X.mg x=none)(hv:bootBuiltins x=some (.type T))(hn:x≠"__name__":=by decide)(hd:(x==("__debug__":Str))=false:=by decide):PE X (.Name x pos) (tC (.ty T)):=pZ (v:=.ty T) hg hm hv rfl hn hd
theorem iA {X:Cx}{x:Str}{a:Addr}{pos:Pos}(hg:Gl X x)(hm:X.mg x=some (.ref a))(hd:(x==("__debug__":Str))=false:=by decide):PE X (.Name x pos) (tC (.ref a)):=jf (v:=.ref a) hg hm rfl hd
mutual
noncomputable def toD:Th->PyData
 | .non=>.none
 | .bl b=>.bool b
 | .int i=>.int i
 | .str x=>.str x
 | .tup ts=>.tuple (de ts)
 | .lst ts=>.list (de ts)
noncomputable def de:List Th->List PyData
 | []=>[]
 | t::ts=>toD t::de ts
end
section
variable {X:Cx}{pins:List (Addr×Obj)}{σ:L2.St}{H:Hp}{s:Shared}
mutual
theorem Has.reads (I:Inv X pins σ H s):∀ {t:Th} {v:V} {u:Value},Has X.K H t v->RelV v u->∃ as,Reads s.heap u (toD t) as
 | .non,_,u,h,r=>by
  obtain rfl:_=V.non:=h
  obtain rfl:u=Value.none:=r
  exact ⟨_,.none⟩
 | .bl b,_,u,h,r=>by
  obtain rfl:_=V.bl b:=h
  obtain rfl:u=Value.bool b:=r
  exact ⟨_,.bool b⟩
 | .int i,_,u,h,r=>by
  obtain rfl:_=V.int i:=h
  obtain ⟨t,rfl⟩:∃ t,u=Value.int i t:=r
  exact ⟨_,.int i t⟩
 | .str x,_,u,h,r=>by
  obtain rfl:_=V.str x:=h
  obtain ⟨t,rfl⟩:∃ t,u=Value.str x t:=r
  exact ⟨_,.str x t⟩
 | .tup ts,_,u,⟨a,vs,e,hS,hL⟩,r=>by
  subst e
  obtain rfl:u=Value.ref a:=r
  obtain ⟨its,rv,⟨o,h1,h2,n,h3⟩,_⟩:=I.tuple hS
  obtain ⟨as,ra⟩:=HasL.reads I hL rv
  exact ⟨_,.tuple h1 h2 h3 (by simpa using ra)⟩
 | .lst ts,_,u,⟨a,vs,e,hS,hL⟩,r=>by
  subst e
  obtain rfl:u=Value.ref a:=r
  obtain ⟨its,rv,⟨o,n,h1,h2,_,h3⟩,_⟩:=I.list (SqL.of hS)
  obtain ⟨as,ra⟩:=HasL.reads I hL rv
  exact ⟨_,.list h1 h2 h3 (by simpa using ra)⟩
theorem HasL.reads (I:Inv X pins σ H s):∀ {ts:List Th} {vs:List V} {us:List Value},HasL X.K H ts vs->Vals vs us->∃ as,ReadsAll s.heap us (de ts) as
 | [],vs,us,h,r=>by
  obtain rfl:vs=[]:=h
  cases r
  exact ⟨_,.nil⟩
 | t::ts,vs,us,⟨v,w',e,h1,h2⟩,r=>by
  subst e
  cases r with
  | cons r1 r2 =>
   obtain ⟨as,ra⟩:=Has.reads I h1 r1
   obtain ⟨bs,rb⟩:=HasL.reads I h2 r2
   exact ⟨_,.cons ra rb⟩
end
end
noncomputable abbrev eY (t:Th):Prop:=SeqAt.shaped (toD t)=true
theorem ja {X:Cx}(hu:X.A.units+64 < cLine):OpR X (compareOp .Eq) (fun x y H Q=>∃ t t',Has X.K H t x/\Has X.K H t' y/\eY t/\eY t'/\Q (.bl (PyData.eqv (toD t) (toD t'))) H):=by
 intro pins s σ H x y v u Q I rx ry h
 obtain ⟨t,t',h1,h2,o1,o2,q⟩:=h
 obtain ⟨as,ra⟩:=Has.reads I h1 rx
 obtain ⟨bs,rb⟩:=Has.reads I h2 ry
 exact a2G ra rb o1 o2 hu ⟨.bl _,H,I,rfl,q⟩
theorem qd {X:Cx}(hu:X.A.units+64 < cLine):OpR X (compareOp .NotEq) (fun x y H Q=>∃ t t',Has X.K H t x/\Has X.K H t' y/\eY t/\eY t'/\Q (.bl (!PyData.eqv (toD t) (toD t'))) H):=by
 intro pins s σ H x y v u Q I rx ry h
 obtain ⟨t,t',h1,h2,o1,o2,q⟩:=h
 obtain ⟨as,ra⟩:=Has.reads I h1 rx
 obtain ⟨bs,rb⟩:=Has.reads I h2 ry
 exact a2H ra rb o1 o2 hu ⟨.bl _,H,I,rfl,q⟩
section
variable {prog:Program}{w:World}{A:Around}{E:Value->Shared->Prop}{s:Shared}
theorem cI {t sl:Addr}{items:Array Value}{vl vu:Value}{lo hi:Option Int}{Q:Value->Shared->Prop}(ht:IsTup s.heap t items)(hs:s.heap.IsSliceOf sl vl vu .none)(pl:IsPart vl lo)(pu:IsPart vu hi)
  (hw:HT.sIx items.size 0 lo=0/\HT.sIx items.size items.size hi=items.size) (h:Q (.ref t) s):wpAny (model prog w) A (getItem (.ref t) (.ref sl)) Q E s:=by
 obtain ⟨os,hos,hcs,hds⟩:=id hs
 have hTs:s.TypeIs (.ref sl) "slice":=⟨os,hos,hcs⟩
 unfold getItem
 try with_reducible refine wpAny_holding ?_
 first | refine wpAny_bind (wpAny_pure ?_) | skip
 refine wpAny_bind (wpAny_sequenceKey ht.typeIs (by decide) ?_)
 refine wpAny_bind (wpAny_callSpecial?_slot (name:=Str.ofString "__getitem__") ht.typeIs a0B
  (wpAny_call_entry a0B ht.typeIs entry_tuple_getitem ?_ (args_tuple_getitem _ _)))
 show wpAny _ _ (Builtin.Tuple.tupleItemsOf (.ref t) >>= _) _ _ s
 refine wpAny_bind (tupleItemsOf_ ht ?_)
 refine wpAny_bind (wpAny_typeOf hTs ?_)
 rw [if_pos (by decide)]
 refine wpAny_bind (HT.sliceApplied_gen hs pl pu ?_)
 have hyes:(((HT.sIx items.size 0 lo:Nat):Int)==0&&(1:Int)==1&&(HT.sIx items.size items.size hi-HT.sIx items.size 0 lo)==items.size)=true:=by
  rw [hw.1,hw.2]
  simp
 show wpAny _ _ (if (((HT.sIx items.size 0 lo:Nat):Int)==0&&(1:Int)==1&&(HT.sIx items.size items.size hi-HT.sIx items.size 0 lo)==items.size)=true then _ else _) _ _ s
 rw [if_pos hyes]
 unfold Builtin.Tuple.tupleIsExact
 refine wpAny_bind (wpAny_bind (wpAny_typeOf ht.typeIs (wpAny_pure ?_)))
 rw [if_pos (by decide)]
 first
  | exact wpAny_bind (wpAny_rule (wpAny_pure ⟨_,rfl,wpAny_pure h⟩))
  | exact wpAny_bind (wpAny_rule (wpAny_bind (wpAny_pure (wpAny_pure ⟨_,rfl,wpAny_pure h⟩))))
end
section
variable {X:Cx}
noncomputable def qr (K:a0a):V->Option Int->Option Int->Hp->VK->Prop:=fun x lo hi H Q=>∃ a xs,x=.ref a/\SqT K H a xs/\∀ v H',Same H H'->(∃ c,v=.ref c/\SqT K H' c (cy xs lo hi))->Q v H'
theorem i0:SlR X (qr X.K):=by
 intro pins s σ H x v vl vu lo hi sl Q I rx hs pl pu h
 obtain ⟨a,xs,rfl,hx,q⟩:=h
 by_cases hw:HT.sIx xs.length 0 lo=0/\HT.sIx xs.length xs.length hi=xs.length
 ·cases rx
  obtain ⟨its,r,ht,hz⟩:=I.tuple hx
  have hlen:its.toArray.size=xs.length:=by rw [a0i]; exact r.length.symm
  refine ⟨"tuple",_,a0B.lookup,ht.typeIs,?_⟩
  refine cI ht hs pl pu (by rw [hlen]; exact hw) ⟨.ref a,H,I,rfl,q _ _ (Same.refl H) ⟨a,rfl,?_⟩⟩
  have e:cy xs lo hi=xs:=by
   unfold cy
   rw [hw.1,hw.2]
   simp
  rw [e]
  exact hx
 ·exact vm pins s σ H _ v vl vu lo hi sl Q I rx hs pl pu ⟨a,xs,rfl,hx,hw,fun p hp=>q _ _ (fN hp _) ⟨p,rfl,SqT.of ay⟩⟩
end
noncomputable def zi (K:a0a):R2:=fun x y H Q=>∃ p xs i v,x=.ref p/\y=.int i/\(SqL K H p xs\/SqT K H p xs)/\atI xs i=some v/\Q v H
theorem ix_any {X:Cx}:IxR X (zi X.K):=fun value slice pins s σ H x y v u Q I rx ry h hs=>by
 obtain ⟨p,xs,i,z,e1,e2,hq,ha,q⟩:=h
 rcases hq with hq | hq
 ·exact oz value slice pins s σ H x y v u Q I rx ry ⟨p,xs,i,z,e1,e2,hq,ha,q⟩ hs
 ·exact vr value slice pins s σ H x y v u Q I rx ry ⟨p,xs,i,z,e1,e2,hq,ha,q⟩ hs
end L3

namespace L3
open PySem PySem.Spec PySem.Builtin PySem.Builtin.Str PyProof.Rows L2
end L3

namespace L3
open PySem PySem.Spec PyProof.Rows L2
noncomputable def ItO (h:Heap):Bool->Addr->Addr->Nat->Prop
 | true,it,a,n=>h.IsTupleIter it a n
 | false,it,a,n=>h.IsListIter it a n
end L3
namespace L3
open PySem PySem.Spec PyProof.Rows L2
structure aO (pre ys:List Str)(scope:Scope):Prop where
 kind:scope.kind=.function
 cell:∀ y∈scope.names,y.2≠.cell
 nm:∀ y∈scope.names,y.2=.local->scope.names.lookup y.1=some .local
 loc:∀ x∈pre,scope.names.lookup x=some .local
 nd:(pre++ys).Nodup
theorem mR {pre:List Str}{τ:L2.St}{j:Nat}{v:V}(e:(a0g pre.length none++τ)[j]?=some (some v)):∃ i,j=pre.length+i/\τ[i]?=some (some v):=by
 by_cases hj:j < pre.length
 ·rw [a0T (by rw [a0H]; exact hj),a1m,if_pos hj] at e
  cases a0s e
 ·refine ⟨j-pre.length,by omega,?_⟩
  rw [a0K (by rw [a0H]; omega),a0H] at e
  exact e
theorem jL {X:Cx}{pins:List (Addr×Obj)}{σ:L2.St}{H:Hp}{s:Shared}{pre ys:List Str}{is:List Nat}{scope:Scope}{cl:List (Str×Addr)}{fp:List Addr}{C:Addr}{h1:Heap}{t1:Nat}{m1:Str->Option Value}
  (I:Inv X pins σ H s) (hf:∀ b∈fp,eR X pins H b) (hfo:∀ b∈fp,b < s.heap.objs.size) (S:aO pre ys scope) (hcl:Clo X cl)
  (hfr:(scope.names.all fun p=>p.2 != .free || (cl.lookup p.1).isSome)=true) (fr:Frees X scope cl ys is)
  (hC:s.heap.objs.size<=C) (old:∀ b o,s.heap.get? b=some o->h1.get? b=some o) (hn:h1.Ns C m1) :
  Inv (av X (pre++ys) scope cl C s H fp) pins (a0g pre.length none++bh σ is) H { s with heap:=h1,toks:=t1 }:=by
 have stk:∀ b,b≠X.env.locals->b ∉ X.fs->b ∉ frs X.stack:=fun b q1 q2 hb=>(a0E.mp (I.stkSub b hb)).elim q1 q2
 have key:∀ a k,(relabel scope X.env).names.lookup a=some k->(k=.cell\/k=.free)->∃ c,cl.lookup a=some c:=fun a k e hk=>by
  have hm:=a0Q e
  obtain ⟨⟨n,k0⟩,hp,ep⟩:=a1B.mp hm
  have hk0:k0=.free/\n=a:=by
   dsimp only at ep
   split at ep
   ·rename_i hc
    simp only [a0c] at hc
    exact ⟨eq_of_beq hc.1.1,(a14 ep).1⟩
   ·obtain ⟨e1,e2⟩:=a14 ep
    subst e2
    rcases hk with z | z
    ·exact absurd z (S.cell _ hp)
    ·exact ⟨z,e1⟩
  obtain ⟨z1,z2⟩:=hk0
  subst z1 z2
  have q:=a0J.mp hfr _ hp
  have q2:(cl.lookup n).isSome=true:=by simpa using q
  exact a1k.mp q2
 refine ⟨⟨I.ok.mod,S.kind,I.ok.glob,I.ok.blt,hC,fun a b c e1 e2=>I.ok.inj a b c (hcl.get e1) (hcl.get e2),fun a ha=>?_,fun a c e=>absurd e a0e,I.ok.hd,I.ok.frames,.inl rfl,
   fun b hb=>⟨a0A (a0j (hfo b hb) hC),fun a c e=>(hf b hb).2.2.2.2.1 a c (hcl.get e)⟩,I.bs,a0r I.ok.bsz I.sz,fun b o e hb=>?_,fun b hb=>stk b (hf b hb).2.1 (hf b hb).2.2.1,I.stack,I.stkFree⟩,
  rfl,I.bare,Un.kept old,⟨m1,hn,fun j y v e1 e2 e3=>?_⟩,fun a c e=>?_,I.hok.fresh hC,fun a c e=>I.freeC a c (hcl.get e),fun p hp=>?_,I.hok.kept old,?_⟩
 ·rcases ha with e | e
  ·exact key a _ e (.inl rfl)
  ·exact key a _ e (.inr rfl)
 ·rcases (hf b hb).2.2.2.1 with z | z
  ·exact I.ok.noex b o e z
  ·exact absurd (a0j (Heap.lt_size (I.ok.bs b o e).1) z) (a06 _)
 ·obtain ⟨k,rfl,e2'⟩:=mR e2
  have e1':ys[k]?=some y:=by
   have e1'':(pre++ys)[pre.length+k]?=some y:=e1
   rw [a0K (by omega),Nat.add_sub_cancel_left] at e1''
   exact e1''
  obtain ⟨i,c,g1,g2,g3,g4,g5,g6,g7⟩:=fr.get (σ:=σ) e1' e2'
  obtain ⟨m0,hn0,hl0⟩:=I.loc
  obtain ⟨u,r,l⟩:=hl0 i y v g1 g2 g3
  rcases l with ⟨k,_⟩ | ⟨_,c',e',z⟩
  ·rcases g4 with q | q
   ·rw [k] at q; cases q
   ·rw [k] at q; cases q
  ·rw [g5] at e'
   cases e'
   obtain ⟨o,ho,hd⟩:=z
   exact ⟨u,r,.inr ⟨g7,c,g6,⟨o,old _ _ ho,hd⟩⟩⟩
 ·obtain ⟨v,o,ho,hd⟩:=I.cell a c (hcl.get e)
  exact ⟨v,o,old _ _ ho,hd⟩
 ·obtain ⟨e,n,ne,nf,d⟩:=I.pin p hp
  exact ⟨old _ _ e,n,a0A (a0j (Heap.lt_size e) hC),stk _ ne nf,d⟩
 ·show (a0g pre.length none++bh σ is).length=(pre++ys).length
  unfold bh
  rw [a0d,a0d,a0H,a0f,fr.len]
end L3
namespace L3
open PySem PySem.Spec PyProof.Rows L2
end L3
namespace L3
open PySem PySem.Spec PyProof.Rows L2
end L3
namespace L3
open PySem PySem.Spec PyProof.Rows L2
end L3
namespace L3
open PySem PySem.Spec PyProof.Rows L2
end L3
namespace L3
open PySem PySem.Spec PyProof.Rows L2
section
variable {prog:Program}{w:World}{A:Around}{R:Result->Shared->Prop}{s:Shared}
theorem gK {elt tg iter cnd:Expr}{scope:Scope}{pos:Pos}{it acc:Value}{env:Env}(J:Nat->Shared->Prop)
  (turn:∀ n s,J n s->wpAny (model prog w) A (pyNext it) (fun r s₁=>match r with
   | none=>R (.ok .next) s₁
   | some v=>wpAny (model prog w) A (letOwnedTupleGo tg it v) (fun _ s₂=>wpAny (model prog w) A (assign tg env v) (fun _ s₃=>wpAny (model prog w) A (isTrue cnd env (eval cnd env)) (fun ok s₄=>if ok=true then
     wpAny (model prog w) A (eval elt env) (fun y s₅=>wpAny (model prog w) A (call (.builtin "list.append") [acc,y]) (fun _ s₆=>∃ m,m < n/\J m s₆) noX s₅) noX s₄ else ∃ m,m < n/\J m s₄) noX s₃) noX s₂) noX s₁) noX s)
  (n:Nat) (h:J n s):codeAny (model prog w) A (.compLoop (.ListComp elt [⟨tg,iter,[cnd],0⟩] scope pos) 0 it acc env) R s:=by
 refine codeAny_loop rfl J (fun n s hJ=>?_) n h
 show wpAny _ A ((compTurn (.ListComp elt [⟨tg,iter,[cnd],0⟩] scope pos) 0 it acc env).onRaise (fun x=>do noteFrame x env; theTreesLotGoes x)) _ _ s
 refine wpAny_noted ?_
 rw [compTurn_list]
 refine wpAny_bind (wpAny_standAt (wpAny_bind (wpAny_mono (turn n s hJ) (fun r s₁ h₁=>?_) fun _ _ z=>z.elim)))
 cases r with
 | none=>exact wpAny_pure h₁
 | some v =>
  refine wpAny_bind (wpAny_mono h₁ (fun _ s₂ h₂=>?_) fun _ _ z=>z.elim)
  refine wpAny_bind (wpAny_mono h₂ (fun _ s₃ h₃=>?_) fun _ _ z=>z.elim)
  refine wpAny_bind (wpAny_tests_one (wpAny_mono h₃ (fun ok s₄ h₄=>?_) fun _ _ z=>z.elim))
  cases ok with
  | true=>exact wpAny_bind (wpAny_bind (wpAny_mono h₄ (fun y s₅ h₅=>wpAny_bind (wpAny_mono h₅ (fun _ s₆ h₆=>wpAny_pure (wpAny_pure ⟨rfl,h₆⟩)) fun _ _ z=>z.elim)) fun _ _ z=>z.elim))
  | false=>exact wpAny_bind (wpAny_pure (wpAny_pure ⟨rfl,h₄⟩))
end
end L3

namespace L3
open PySem PySem.Spec PyProof.Rows L2
noncomputable def qE (n:Nat)(J:It)(g:TG)(tc:TT)(te:TE)(σ':L2.St)(H1:Hp)(Q:VK):Prop:=∃ W:Nat->Nat->List V->Hp->Prop,(∃ m,W 0 m [] H1)/\∀ i m ys H,W i m ys H ->
 (J.stop i H/\ys.length<=sizeLine/\∀ p,H p=none->Q (.ref p) (upd H p (.lst ys))) \/
 (J.go i H/\ys.length < sizeLine/\∀ x H',J.yld i H x H'->g x (a0g n none++σ') H' fun σ2 H2=>(σ2.length=n+σ'.length/\σ2.drop n=σ')/\tc σ2 H2 fun ok H3=>if ok=true then te σ2 H3 fun y H4=>∃ m',m' < m/\W (i+1) m' (ys++[y]) H4 else ∃ m',m' < m/\W (i+1) m' ys H3)
noncomputable def qy (n:Nat)(J:It)(g:TG)(te:TE)(σ':L2.St)(H1:Hp)(Q:VK):Prop:=∃ W:Nat->Nat->List V->Hp->Prop,(∃ m,W 0 m [] H1)/\∀ i m ys H,W i m ys H ->
 (J.stop i H/\ys.length<=sizeLine/\∀ p,H p=none->Q (.ref p) (upd H p (.lst ys))) \/
 (J.go i H/\ys.length < sizeLine/\∀ x H',J.yld i H x H'->g x (a0g n none++σ') H' fun σ2 H2=>(σ2.length=n+σ'.length/\σ2.drop n=σ')/\te σ2 H2 fun y H4=>∃ m',m' < m/\W (i+1) m' (ys++[y]) H4)
noncomputable def dP (n:Nat)(wi:TI)(is:List Nat)(g:TG)(tc:TT)(te:TE):TE:=fun σ H Q=>wi σ H fun J H1=>qE n J g tc te (bh σ is) H1 Q
noncomputable def hW (n:Nat)(wi:TI)(is:List Nat)(g:TG)(te:TE):TE:=fun σ H Q=>wi σ H fun J H1=>qy n J g te (bh σ is) H1 Q
theorem lP {n:Nat}{σ2 σ':L2.St}(h:σ2.drop n=σ'){j:Nat}{w:V}(e:(a0g n none++σ')[j]?=some (some w)):σ2[j]?=some (some w):=by
 by_cases hj:j < n
 ·rw [a0T (by simpa using hj),a1m,if_pos hj] at e
  cases a0s e
 ·rw [a0K (by simpa using hj),a0H,<- h,List.getElem?_drop,Nat.add_sub_cancel' (by omega)] at e
  exact e
noncomputable def CW (X:Cx)(cs:List Expr)(k:Bool->Shared->Prop)(s:Shared):Prop:=match cs with
 | []=>k true s
 | [c]=>wpAny (model X.prog X.w) X.A (isTrue c X.env (eval c X.env)) k noX s
 | _=>False
noncomputable def PC (X:Cx)(cs:List Expr)(tc:TT):Prop:=∀ (pins:List (Addr×Obj)) (s:Shared) (σ:L2.St) (H:Hp) (Q:Bool->Hp->Prop),Inv X pins σ H s->tc σ H Q->CW X cs (fun ok s'=>∃ H',Inv X pins σ H' s'/\Q ok H') s
theorem CW.mono {X:Cx}{cs:List Expr}{k k':Bool->Shared->Prop}{s:Shared}(h:CW X cs k s)(w:∀ b s,k b s->k' b s):CW X cs k' s:=by
 match cs,h with
 | [],h=>exact w _ _ h
 | [c],h=>exact wpAny_mono h w fun _ _ z=>z
theorem gr {X:Cx}{elt tg iter:Expr}{cs:List Expr}{scope:Scope}{pos:Pos}{it acc:Value}{R:Result->Shared->Prop}{s:Shared}(J:Nat->Shared->Prop)
  (turn:∀ n s,J n s->wpAny (model X.prog X.w) X.A (pyNext it) (fun r s₁=>match r with
   | none=>R (.ok .next) s₁
   | some v=>wpAny (model X.prog X.w) X.A (letOwnedTupleGo tg it v) (fun _ s₂=>wpAny (model X.prog X.w) X.A (assign tg X.env v) (fun _ s₃=>CW X cs (fun ok s₄=>if ok=true then
     wpAny (model X.prog X.w) X.A (eval elt X.env) (fun y s₅=>wpAny (model X.prog X.w) X.A (call (.builtin "list.append") [acc,y]) (fun _ s₆=>∃ m,m < n/\J m s₆) noX s₅) noX s₄ else ∃ m,m < n/\J m s₄) s₃) noX s₂) noX s₁) noX s)
  (n:Nat) (h:J n s) (hcs:cs.length<=1):codeAny (model X.prog X.w) X.A (.compLoop (.ListComp elt [⟨tg,iter,cs,0⟩] scope pos) 0 it acc X.env) R s:=by
 match cs,hcs with
 | [],_=>exact iC J turn n h
 | [c],_=>exact gK J turn n h
theorem kl {X:Cx}{elt iter tg:Expr}{cs:List Expr}{pre:List Str}{pos:Pos}{scope:Scope}{cl:List (Str×Addr)}{ys:List Str}{is:List Nat}{wi:TI}{g:TG}{te:TE}{tc:TT}{use:Option (Value->Sem Unit)}{Q:VK}{Qp:Value->Shared->Prop}{pins:List (Addr×Obj)}{s:Shared}{σ:L2.St}{H:Hp}{ip:Pos}
  (hc:X.calm=true) (hi:PI X tg iter wi) (hg:∀ C s H fp,PG (av X (pre++ys) scope cl C s H fp) tg g) (he:∀ C s H fp,PE (av X (pre++ys) scope cl C s H fp) elt te) (hcd:∀ C s H fp,PC (av X (pre++ys) scope cl C s H fp) cs tc) (hcs:cs.length<=1)
  (hclos:closureFor scope X.env=pure cl) (S:aO pre ys scope) (hcl:Clo X cl) (hfr:(scope.names.all fun p=>p.2 != .free || (cl.lookup p.1).isSome)=true) (fr:Frees X scope cl ys is) (hs:∀ v,foldedSetIterable iter X.env v=pure v)
  (fin:∀ (s4:Shared) (Hn:Hp) (D L:Addr) (m4:Str->Option Value),Inv X pins σ Hn s4->s4.heap.Ns L m4->L≠X.env.locals->(∀ a c,X.env.cells.lookup a=some c->c≠L)->Hn L=none->X.s₀.heap.objs.size<=L->(∀ p∈X.pn++pins,p.1≠L)->Q (.ref D) Hn->compPost (model X.prog X.w) X.A X.xe use Qp (.ref D) L (.ok .next) s4)
  (I:Inv X pins σ H s) (h:dP pre.length wi is g tc te σ H Q) :
  wpAny (model X.prog X.w) X.A (comprehension (.ListComp elt [⟨tg,iter,cs,0⟩] scope pos) scope X.env ip (newList []) false (eval iter X.env) use) Qp X.xe s:=by
 refine wpAny_comprehension_free (use:=use) rfl hs hclos S.kind S.nm (thn (hi pins s σ H _ I h) fun xv s1 h1=>thn h1 fun itv s2 h2=>?_)
 obtain ⟨it,fp,tn,J,H2,rfl,I2,T,st2,f2,W,⟨m0,w0⟩,turn⟩:=h2
 have fpo:∀ b∈fp,b < s2.heap.objs.size:=fun b hb=>by
  obtain ⟨o,e,_⟩:=T.obj _ _ st2 b hb
  exact Heap.lt_size e
 refine wpAny_newObj_type (wpAny_newFunctionEnv S.cell (fun y hy=>by cases hy) (fun g' hns hsb=>?_) S.kind)
 dsimp only at hns hsb ⊢
 generalize hP2:s2.heap.push { cls:=.type "list",dict:=none,data:=.seq ([]:List Value).toArray }=P2 at hns hsb ⊢
 have hCs:P2.objs.size=s2.heap.objs.size+1:=by rw [<- hP2,Heap.size_push]
 have hDC:s2.heap.objs.size≠P2.objs.size:=by omega
 have hle:s2.heap.objs.size<=P2.objs.size:=by omega
 have nc:∀ b o,s2.heap.get? b=some o->b≠P2.objs.size:=fun b o e=>a0A (a0j (Heap.lt_size e) hle)
 have nd:∀ b o,s2.heap.get? b=some o->b≠s2.heap.objs.size:=fun b o e=>a0A (Heap.lt_size e)
 have ndH:∀ b u,H2 b=some u->b≠s2.heap.objs.size:=fun b u e=>a0A (I2.hok.lt e)
 have old:∀ b o,s2.heap.get? b=some o->g'.get? b=some o:=fun b o e=>hsb.extBut b o (nc b o e) (Heap.get?_push_of_some _ (hP2 ▸ Heap.get?_push_of_some _ e))
 have accD:g'.get? s2.heap.objs.size=some (fw []):=hsb.extBut _ _ hDC (Heap.get?_push_of_some _ (hP2 ▸ Heap.get?_push_size _ rfl))
 have stkD:s2.heap.objs.size ∉ frs X.stack:=fun hb=>(a0E.mp (I2.stkSub _ hb)).elim (fun z=>absurd z (a1V I2.lt)) (I2.nofs (a0k _))
 generalize hσ':bh σ is=σ' at turn
 have I3:Inv (av X (pre++ys) scope cl P2.objs.size s2 H2 fp) pins (a0g pre.length none++σ') H2 { s2 with heap:=g',toks:=s2.toks+([]:List (Str×Value)).length }:=by rw [<- hσ']; exact jL (pre:=pre) I2 f2 fpo S hcl hfr fr hle old hns
 have stat:∀ {H':Hp} {o:Obj},(∀ b∈fp,H' b=none)->∀ b∈fp,eR (av X (pre++ys) scope cl P2.objs.size s2 H2 fp) (pins++[(s2.heap.objs.size,o)]) H' b:=fun {H' o} hn b hb=>by
  refine ⟨hn b hb,a0A (a0j (fpo b hb) hle),fun z=>(a0E.mp (I2.stkSub _ z)).elim (f2 b hb).2.1 (f2 b hb).2.2.1,.inl hb,fun a c e=>(f2 b hb).2.2.2.2.1 a c (hcl.get e),fun p hp=>?_⟩
  rcases a0W.mp hp with z | z
  ·exact (f2 b hb).2.2.2.2.2 p (a0V _ z)
  ·rcases a0W.mp z with z | z
   ·exact (f2 b hb).2.2.2.2.2 p (a0h _ z)
   ·rw [a0G.mp z]
    exact a1V (fpo b hb)
 have loop:codeAny (model X.prog X.w) X.A (.compLoop (.ListComp elt [⟨tg,iter,cs,0⟩] scope pos) 0 (.ref it) (.ref s2.heap.objs.size) (compEnvC scope cl P2.objs.size X.env))
   (compPost (model X.prog X.w) X.A X.xe use Qp (.ref s2.heap.objs.size) P2.objs.size) { s2 with heap:=g',toks:=s2.toks+([]:List (Str×Value)).length }:=by
  refine gr (X:=av X (pre++ys) scope cl P2.objs.size s2 H2 fp) (fun n s'=>∃ i zs its H',Inv (av X (pre++ys) scope cl P2.objs.size s2 H2 fp) pins (a0g pre.length none++σ') H' s'/\tn i s'.heap/\(∀ b∈fp,H' b=none)/\s'.heap.get? s2.heap.objs.size=some (fw its)/\Vals zs its/\H' s2.heap.objs.size=none/\W i n zs H')
   ?_ m0 ⟨0,[],[],H2,I3,T.keep _ _ _ st2 (fun b _ o e=>old b o e),fun b hb=>(f2 b hb).1,accD,.nil,I2.hok.fresh (a0k _),w0⟩ hcs
  rintro n s3 ⟨i,zs,its,H3,J3,st3,fr3,d3,rv3,nd3,w3⟩
  have hzl:=rv3.length
  have J3':Inv (av X (pre++ys) scope cl P2.objs.size s2 H2 fp) (pins++[(s2.heap.objs.size,fw its)]) (a0g pre.length none++σ') H3 s3:=J3.pins_of fun p hp=>by
   rcases a0W.mp hp with z | z
   ·exact J3.pin p (a0h _ z)
   ·rw [a0G.mp z]
    exact ⟨d3,nd3,hDC,stkD,fun v q=>by cases q⟩
  rcases turn i n zs H3 w3 with ⟨stop,hz,q⟩ | ⟨go,hz,step⟩
  ·refine wpAny_mono (T.done (av X (pre++ys) scope cl P2.objs.size s2 H2 fp) rfl rfl rfl hc i _ s3 _ H3 noX J3' (stat fr3) st3 stop) (fun r s4 h4=>?_) fun _ _ z=>z.elim
   obtain ⟨hr,I4⟩:=h4
   subst hr
   obtain ⟨m4,hn4,_⟩:=id I4.loc
   have f4:H3 P2.objs.size=none:=I4.free
   have d4:s4.heap.get? s2.heap.objs.size=some (fw its):=(I4.pin (s2.heap.objs.size,fw its) (a0h _ (a0h _ (a0G.mpr rfl)))).1
   have u4:Un (frs X.stack) fp H2 H3 s2.heap s4.heap:=I4.base
   have un:Un (frs X.stack) fp H2 (upd H3 s2.heap.objs.size (.lst zs)) s2.heap s4.heap :=
    ⟨u4.keep,u4.slot,fun b o e n hx=>by rw [ah (nd b o e)]; exact u4.free b o e n hx,u4.there,
     fun b xs q=>by rw [ah (ndH b _ q)]; exact u4.tups b xs q,fun b o u q=>by rw [ah (ndH b _ q)]; exact u4.frzs b o u q,fun b ps q=>by rw [ah (ndH b _ q)]; exact u4.tbls b ps q⟩
   have IX:Inv X pins σ (upd H3 s2.heap.objs.size (.lst zs)) s4:=I2.call' (s':=s4) (ch:=fp) I4.os un (jT I4.hok nd3 ⟨hz,its,its.length,rv3,d4⟩) I4.bare
    (fun b hb=>⟨(f2 b hb).2.2.2.1,(f2 b hb).2.1,(f2 b hb).2.2.2.2.1,(f2 b hb).2.2.2.2.2⟩)
   have cL:P2.objs.size≠X.env.locals:=a1V (a0j I2.lt hle)
   have cC:∀ a c,X.env.cells.lookup a=some c->c≠P2.objs.size:=fun a c e=>by
    obtain ⟨v',o',ho',_⟩:=I2.cell a c e
    exact nc c o' ho'
   exact fin s4 _ s2.heap.objs.size P2.objs.size m4 IX hn4 cL cC (by rw [ah (a13 hDC)]; exact f4) (a0r I2.sz hle) (fun p hp=>nc p.1 _ (I2.pin p hp).1) (q _ nd3)
  ·refine wpAny_mono (T.item (av X (pre++ys) scope cl P2.objs.size s2 H2 fp) rfl rfl rfl hc i _ s3 _ H3 noX J3' (stat fr3) st3 go) (fun r s4 h4=>?_) fun _ _ z=>z.elim
   obtain ⟨u,hr,h4⟩:=h4
   subst hr
   refine wpAny_mono h4 (fun _ s5 h5=>?_) fun _ _ z=>z.elim
   obtain ⟨v,H5,I5,r5,y5,st5,fr5⟩:=h5
   have I5':=I5.pinned (stat fr5) (T.obj _ _ st5)
   refine wpAny_mono (hg P2.objs.size s2 H2 fp _ s5 _ H5 v u _ I5' r5 (step v H5 y5)) (fun _ s6 h6=>?_) fun _ _ z=>z.elim
   obtain ⟨σ6,H6,I6,⟨hl6,hd6⟩,step'⟩:=h6
   have back:∀ {H7:Hp} {s7:Shared},Inv (av X (pre++ys) scope cl P2.objs.size s2 H2 fp) ((pins++[(s2.heap.objs.size,fw its)])++d8 fp s5.heap) σ6 H7 s7->Inv (av X (pre++ys) scope cl P2.objs.size s2 H2 fp) pins (a0g pre.length none++σ') H7 s7:=fun I7=>I7.unpinned.unpinned.weak (by rw [hl6,a0d,a0H]) fun j w' e=>lP hd6 e
   refine CW.mono (hcd P2.objs.size s2 H2 fp _ s6 _ H6 _ I6 step') fun ok s6' h6'=>?_
   obtain ⟨H6',I6',q6⟩:=h6'
   cases ok with
   | false =>
    rw [if_neg a0e] at q6
    obtain ⟨m',hm',w7⟩:=q6
    have pinD:=I6'.pin (s2.heap.objs.size,fw its) (a0h _ (a0V _ (a0h _ (a0G.mpr rfl))))
    rw [if_neg a0e]
    refine ⟨m',hm',i+1,zs,its,H6',back I6',T.keep _ _ _ st5 fun b hb o e=>?_,fun b hb=>?_,pinD.1,rv3,pinD.2.1,w7⟩
    ·exact (I6'.pin (b,o) (a0h _ (a0h _ (a9 hb e)))).1
    ·obtain ⟨o,e,_⟩:=T.obj _ _ st5 b hb
     exact (I6'.pin (b,o) (a0h _ (a0h _ (a9 hb e)))).2.1
   | true =>
    rw [if_pos rfl] at q6 ⊢
    refine wpAny_mono (he P2.objs.size s2 H2 fp _ s6' _ H6' _ I6' q6) (fun yv s7 h7=>?_) fun _ _ z=>z.elim
    obtain ⟨y',H7,I7,r7,m',hm',w7⟩:=h7
    have pinD:=I7.pin (s2.heap.objs.size,fw its) (a0h _ (a0V _ (a0h _ (a0G.mpr rfl))))
    refine append_at (hsz:=by show its.toArray.size<=sizeLine; rw [a0i]; omega) pinD.1 fun h8 sb8 hD8=>?_
    have I8:Inv (av X (pre++ys) scope cl P2.objs.size s2 H2 fp) pins (a0g pre.length none++σ') H7 { s7 with heap:=h8 }:=(back I7).turned (t':=s7.toks) (it:=s2.heap.objs.size) (fun b o hb e=>(sb8.2 b hb).trans e) pinD.2.1 hDC (.inr (a0k _))
     (fun a c e z=>by
      obtain ⟨v',o',ho',_⟩:=I2.cell a c (hcl.get e)
      exact nd c o' ho' z)
     (fun p hp=>nd p.1 _ (I2.pin p hp).1)
    refine ⟨m',hm',i+1,zs++[y'],its++[yv],H7,I8,T.keep _ _ _ st5 fun b hb o e=>?_,fun b hb=>?_,?_,rv3.append (.cons r7 .nil),pinD.2.1,w7⟩
    ·exact (sb8.2 b (a0A (fpo b hb))).trans (I7.pin (b,o) (a0h _ (a0h _ (a9 hb e)))).1
    ·obtain ⟨o,e,_⟩:=T.obj _ _ st5 b hb
     exact (I7.pin (b,o) (a0h _ (a0h _ (a9 hb e)))).2.1
    ·show h8.get? s2.heap.objs.size=_
     rw [hD8]
     simp [fw]
 exact codeAny_compStart_list loop (T.self X.A 0 _ _ _ (T.keep _ _ _ st2 (fun b _ o e=>old b o e)) loop)
section
variable {X:Cx}{elt iter tg cnd:Expr}{pre:List Str}{pos spos pz:Pos}{z:Str}{jz:Nat}{scope:Scope}{cl:List (Str×Addr)}{ys:List Str}{is:List Nat}{wi:TI}{g:TG}{te:TE}{tc:TT}
theorem pcF (h:PT X cnd tc)(hx:∀ v s,X.xe v s->False):PC X [cnd] tc:=fun pins s σ H Q I q=>wpAny_mono (h pins s σ H Q I q) (fun _ _ z=>z) fun v s z=>hx v s z
noncomputable def tT:TT:=fun _ H Q=>Q true H
theorem pcN:PC X [] tT:=fun pins s σ H Q I q=>⟨H,I,q⟩
theorem goN {n:Nat}{σ:L2.St}{H:Hp}{Q:VK}(h:hW n wi is g te σ H Q):dP n wi is g tT te σ H Q:=h
theorem gx {cs:List Expr}(hc:X.calm=true)(hi:PI X tg iter wi)(hg:∀ C s H fp,PG (av X (pre++ys) scope cl C s H fp) tg g)(he:∀ C s H fp,PE (av X (pre++ys) scope cl C s H fp) elt te)(hcd:∀ C s H fp,PC (av X (pre++ys) scope cl C s H fp) cs tc)(hcs:cs.length<=1)
  (hclos:closureFor scope X.env=pure cl) (S:aO pre ys scope) (hcl:Clo X cl) (hfr:(scope.names.all fun p=>p.2 != .free || (cl.lookup p.1).isSome)=true) (fr:Frees X scope cl ys is) (hs:∀ v,foldedSetIterable iter X.env v=pure v) :
  PE X (.ListComp elt [⟨tg,iter,cs,0⟩] scope pos) (dP pre.length wi is g tc te):=by
 intro pins s σ H Q I h
 rw [eval_ListComp]
 show wpAny _ _ (comprehension _ scope X.env _ (newList []) false (eval iter X.env) none) _ _ s
 refine kl hc hi hg he hcd hcs hclos S hcl hfr fr hs (fun s4 Hn D L m4 IX hn cL cC hL hz hp q=>?_) I h
 exact ⟨m4,hn,fun h' sb=>⟨.ref D,_,IX.turned (t':=s4.toks) (it:=L) (fun b o hb e=>(sb.2 b hb).trans e) hL cL (.inr hz) cC hp,rfl,q⟩⟩
theorem jS (hc:X.calm=true)(hi:PI X tg iter wi)(hg:∀ C s H fp,PG (av X (pre++ys) scope cl C s H fp) tg g)(he:∀ C s H fp,PE (av X (pre++ys) scope cl C s H fp) elt te)
  (hclos:closureFor scope X.env=pure cl) (S:aO pre ys scope) (hcl:Clo X cl) (hfr:(scope.names.all fun p=>p.2 != .free || (cl.lookup p.1).isSome)=true) (fr:Frees X scope cl ys is) (hs:∀ v,foldedSetIterable iter X.env v=pure v:=by intro _; rfl) :
  PE X (.ListComp elt [⟨tg,iter,[],0⟩] scope pos) (hW pre.length wi is g te):=fun pins s σ H Q I h=>gx hc hi hg he (fun _ _ _ _=>pcN) (a1e _) hclos S hcl hfr fr hs pins s σ H Q I (goN h)
theorem jA (hc:X.calm=true)(hi:PI X tg iter wi)(hg:∀ C s H fp,PG (av X (pre++ys) scope cl C s H fp) tg g)(he:∀ C s H fp,PE (av X (pre++ys) scope cl C s H fp) elt te)(hcd:∀ C s H fp,PT (av X (pre++ys) scope cl C s H fp) cnd tc)
  (hclos:closureFor scope X.env=pure cl) (S:aO pre ys scope) (hcl:Clo X cl) (hfr:(scope.names.all fun p=>p.2 != .free || (cl.lookup p.1).isSome)=true) (fr:Frees X scope cl ys is) (hs:∀ v,foldedSetIterable iter X.env v=pure v:=by intro _; rfl) :
  PE X (.ListComp elt [⟨tg,iter,[cnd],0⟩] scope pos) (dP pre.length wi is g tc te):=gx hc hi hg he (fun _ _ _ _=>pcF (hcd _ _ _ _) fun _ _ z=>z) (a0k _) hclos S hcl hfr fr hs
end
end L3

namespace L3
open PySem PySem.Spec PyProof.Rows L2
end L3
namespace L3
open PySem PySem.Spec PyProof.Rows L2
end L3
namespace L3
open PySem PySem.Spec PyProof.Rows L2
end L3

namespace L3
open PySem PySem.Spec PyProof.Rows L2
theorem b7:∀ {ns:List Int} {us:List Value},Vals (ns.map V.int) us->IntsAre us ns
 | [],_,.nil=>.nil
 | n::ns,_,.cons ⟨t,e⟩ r=>by cases e; exact .cons n t (b7 r)
end L3
namespace L3
open PySem PySem.Spec PyProof.Rows L2
noncomputable abbrev qS (h:Heap)(T:Addr)(a b c:Value):Prop:=h.get? T=some { cls:=.type "tuple",data:=.seq #[a,b,c] }
end L3
namespace L3
open PySem PySem.Spec PyProof.Rows L2
noncomputable def Z3 (n a1 a2 a3:Nat)(i:Nat)(h:Heap):Prop :=
 IsZip h (n+5) (n+3) (n+4) .none/\qS h (n+3) (.ref n) (.ref (n+1)) (.ref (n+2))/\(∃ a b c,qS h (n+4) a b c)/\ItO h false n a1 i/\ItO h false (n+1) a2 i/\ItO h false (n+2) a3 i
end L3

namespace M
open PySem (Str)
inductive T where
 | non | bl (b:Bool) | int (i:Int) | str (x:Str) | tup (ts:List T) | lst (ts:List T) | dct (ks vs:List T) | ins (c:Str) (fs:List Str) (vs:List T)
 | scr (ns:List Int)
 | gone
 deriving Inhabited
inductive Md where
 | s | d | o (m:Md)
 deriving DecidableEq,Inhabited
noncomputable def Md.kid:Md->Md
 | .s=>.s | .d=>.d | .o m=>m
noncomputable def Md.up:Md->Md
 | .d=>.d | m=>.o m
noncomputable def Md.meet:Md->Md->Md
 | .s,_=>.s | .d,m=>m | .o _,.s=>.s | .o a,.d=>.o a | .o a,.o b=>.o (a.meet b)
noncomputable def Md.le:Md->Md->Bool
 | .s,_=>true
 | .o a,.o b=>a.le b
 | .o _,.d=>true
 | .d,.d=>true
 | _,_=>false
noncomputable abbrev W:=Md×T
noncomputable abbrev Env:=List (Option W)
noncomputable def LIM:Nat:=16777215
noncomputable def T.leaf:T->Bool
 | .non | .bl _ | .int _ | .str _ | .scr _=>true
 | _=>false
noncomputable def T.isG:T->Bool
 | .gone=>true
 | _=>false
noncomputable def T.isN:T->Bool
 | .non=>true
 | _=>false
noncomputable def leaves (ts:List T):Bool:=ts.all T.leaf
inductive Op where
 | add | sub | mul | fdiv | mod | pow | neg | eq | ne | lt | le | gt | ge | is | isnot | isin | notin | ix | sl | sl1 | sl2 | sl3
 | len | isI (cs:List String) | max1 | min1 | count | fdivN | modN | intS | apd | mulS | listS | list | tuple | sum | all | any | max | min | int | str | rng | sorted | join | split | abs | dict | get | lzip | isB | isnB | lower | inS | ninS | inX | ninX | leS
 deriving DecidableEq,Inhabited
inductive Ik where
 | seq | rng | enm | zip | sq2 | zip3 | chr
 deriving DecidableEq,Inhabited
inductive E where
 | var (i:Nat) | mv (i:Nat) | io (i:Nat) | cst (t:T) | glb (x:Str) (t:T)
 | tup (es:List E) | lst (h:Bool) (es:List E) | op (o:Op) (h:Bool) (es:List E) | wk (m:Md) (e:E)
 | and (a b:E) | or (a b:E) | not (a:E) | ifx (c a b:E) | chain (o p:Op) (a b c:E)
 | call (f:Nat) (es:List E) | comp (h:Bool) (k:Ik) (src:List E) (tg:List Nat) (cnd:Option E) (elt:E)
 | pop (i:Nat) (es:List E) | lenV (i:Nat)
 | tupA (es:List E) | qx (vs ls:List Nat) (e:E) | mvP (i:Nat) (p:List Nat)
 | callT (tab:List (Str×Nat)) (k:E) (es:List E) | inT (neg:Bool) (ks:List Str) (e:E) | ixT (tab:List (Str×T)) (e:E) | getT (tab:List (Str×T)) (e:E)
 deriving Inhabited
inductive X where
 | q (vs ls:List Nat) | l (vs:List Nat)
 deriving Inhabited
inductive S where
 | asg (x:X) (i:Nat) (e:E) | asgT (x:X) (is:List Nat) (e:E) | setI (x:X) (i:Nat) (k e:E)
 | exp (x:X) (e:E) | app (x:X) (i:Nat) (e:E) | ext (x:X) (i:Nat) (e:E)
 | ret (vs:List Nat) (e:E) | retN | ite (x:X) (c:E) (a b:List S)
 | forS (vs ls:List Nat) (k:Ik) (src:List E) (tg:List Nat) (body:List S) | forU (k:Ik) (src:List E) (tg:List Nat) (body:List S) | whl (x:X) (c:E) (body:List S)
 | brk | pas | stop | tri (body:List S)
 deriving Inhabited
structure Fn where
 ps:Nat
 ns:Nat
 io:List Nat
 body:List S
inductive Res (α:Type) where
 | ok (a:α) | ex (c:Str) (x:List T) | no
noncomputable def Res.bind {α β:Type}:Res α->(α->Res β)->Res β
 | .ok a,f=>f a
 | .ex c x,_=>.ex c x
 | .no,_=>.no
noncomputable def ofO {α:Type}:Option α->Res α
 | some a=>.ok a
 | none=>.no
inductive Fl where
 | nx (η:Env) | rt (w:W) (η:Env) | bk (η:Env) | ex (c:Str) (x:List T) (η:Env) | no
noncomputable def truth:T->Option Bool
 | .non=>some false | .bl b=>some b | .int i=>some (i != 0) | .str x=>some (x.cps.size != 0) | .tup ts=>some (!ts.isEmpty) | .lst ts=>some (!ts.isEmpty) | .dct ks _=>some (!ks.isEmpty) | .ins ..=>none | .scr ns=>some (!ns.isEmpty) | .gone=>none
noncomputable def b2i:Bool->Int
 | true=>1 | false=>0
mutual
noncomputable def eqT:T->T->Bool
 | .non,.non=>true
 | .bl a,.bl b=>a==b
 | .bl a,.int i=>b2i a==i
 | .int i,.bl a=>i==b2i a
 | .int i,.int j=>i==j
 | .str x,.str y=>x==y
 | .tup ts,.tup us=>eqTs ts us
 | .lst ts,.lst us=>eqTs ts us
 | _,_=>false
noncomputable def eqTs:List T->List T->Bool
 | [],[]=>true
 | t::ts,u::us=>eqT t u&&eqTs ts us
 | _,_=>false
end
mutual
noncomputable def dp:T->Nat
 | .tup ts=>dps ts+1
 | .lst ts=>dps ts+1
 | .scr _=>1000
 | .dct _ _=>1000
 | .ins _ _ _=>1000
 | .gone=>1000
 | _=>0
noncomputable def dps:List T->Nat
 | []=>0
 | t::ts=>max (dp t) (dps ts)
end
noncomputable def sOk (x:Str):Bool:=x.cps.all (· < 0x110000)&&decide (x.cps.size<=LIM)
noncomputable def ixN (n:Nat)(i:Int):Option Nat:=if 0<=i then (if i < n then some i.toNat else none) else if -(n:Int)<=i then some (i+n).toNat else none
noncomputable def atI {α:Type}(xs:List α)(i:Int):Option α:=(ixN xs.length i).bind fun j=>xs[j]?
noncomputable def sIx (n d:Nat):Option Int->Nat
 | none=>d
 | some i=>if i < 0 then (i+n).toNat else min i.toNat n
noncomputable def cut {α:Type}(xs:List α)(lo hi:Option Int):List α:=(xs.drop (sIx xs.length 0 lo)).take (sIx xs.length xs.length hi-sIx xs.length 0 lo)
noncomputable def T.ty:T->String
 | .non=>"NoneType" | .bl _=>"bool" | .int _=>"int" | .str _=>"str" | .tup _=>"tuple" | .lst _=>"list" | .dct ..=>"dict" | .ins ..=>"object" | .scr _=>"list" | .gone=>"gone"
noncomputable def isOne (c:String)(t:T):Bool:=t.ty==c || (t.ty=="bool"&&c=="int")
noncomputable def dM:List T->Option (List Int)
 | []=>some []
 | .int i::ts=>(dM ts).map (i::·)
 | _::_=>none
noncomputable def aK:List T->Option (List Bool)
 | []=>some []
 | .bl b::ts=>(aK ts).map (b::·)
 | _::_=>none
noncomputable def elems:W->Option (List T)
 | (_,.tup ts)=>some ts
 | (_,.lst ts)=>some ts
 | _=>none
noncomputable def flatT:T->Bool
 | .non | .bl _ | .int _ | .str _=>true
 | _=>false
noncomputable def isStr:T->Bool
 | .str _=>true
 | _=>false
noncomputable def inXok:T->Bool
 | .non | .bl _ | .int _ | .str _ | .lst _ | .tup _=>true
 | _=>false
noncomputable def lowN (c:Nat):Nat:=if 65<=c/\c<=90 then c+32 else c
noncomputable def vV:List Int->Int
 | []=>0
 | [n]=>n
 | n::ns=>max n (vV ns)
noncomputable def wu:List Int->Int
 | []=>0
 | [n]=>n
 | n::ns=>min n (wu ns)
noncomputable def xY (x:Int):List Int->List Int
 | []=>[x]
 | y::ys=>if x<=y then x::y::ys else y::xY x ys
noncomputable def rB:List Int->List Int
 | []=>[]
 | x::xs=>xY x (rB xs)
noncomputable def nr:List T->Option (List Str)
 | []=>some []
 | .str x::ts=>(nr ts).map (x::·)
 | _::_=>none
noncomputable def spl (c:Nat):List Nat->List Nat->List (List Nat)
 | acc,[]=>[acc]
 | acc,x::xs=>if x=c then acc::spl c [] xs else spl c (acc++[x]) xs
noncomputable def xg (x:Str):List Str:=(spl 32 [] x.cps.toList).map fun l=>⟨l.toArray⟩
noncomputable def xf (l:List Nat):Nat:=l.foldl (fun a c=>a * 10+(c-48)) 0
noncomputable def vd (x:Str):Int:=match x.cps.toList with
 | 45::cs=>-((xf cs:Nat):Int)
 | cs=>((xf cs:Nat):Int)
noncomputable def xW (i:Int):Str:=Str.ofString (toString i)
noncomputable def xU:List T->List T->List T
 | t::ts,u::us=>.tup [t,u]::xU ts us
 | _,_=>[]
noncomputable def newL (h:Bool)(m:Md)(ts:List T):Option W:=if h then (if leaves ts then some (.d,.lst ts) else none) else some (m.up,.lst ts)
noncomputable def a6 (n:Nat):Bool:=decide (n<=LIM)
noncomputable def oSem:Op->Bool->List W->Option W
 | .add,h,[(m,a),(n,b)]=>match a,b with
  | .int i,.int j=>some (.d,.int (i+j))
  | .str x,.str y=>if a6 (x.cps.size+y.cps.size) then some (.d,.str (x++y)) else none
  | .lst ts,.lst us=>if a6 (ts.length+us.length) then newL h (m.kid.meet n.kid) (ts++us) else none
  | .tup ts,.tup us=>if a6 (ts.length+us.length)&&!ts.isEmpty then some (.s,.tup (ts++us)) else none
  | _,_=>none
 | .sub,_,[(_,.int i),(_,.int j)]=>some (.d,.int (i-j))
 | .mul,h,[(m,a),(_,b)]=>match a,b with
  | .int i,.int j=>if (decide (i.natAbs < 18446744073709551616)) || (decide (j.natAbs < 18446744073709551616)) then some (.d,.int (i * j)) else none
  | .lst ts,.int k=>if decide (k.natAbs < 4611686018427387904)&&a6 (ts.length * k.toNat) then newL h .s (a0g k.toNat ts).flatten else none
  | _,_=>none
 | .fdiv,_,[(_,.int i),(_,.int j)]=>if decide (0 < j)&&decide (j < 1073741824) then some (.d,.int (i / j)) else none
 | .mod,_,[(_,.int i),(_,.int j)]=>if decide (0 < j) then some (.d,.int (i % j)) else none
 | .pow,_,[(_,.int i),(_,.int j)]=>if decide (0<=j)&&decide (j<=1000000)&&decide (i.natAbs < 18446744073709551616) then some (.d,.int (i ^ j.toNat)) else none
 | .fdivN,_,[(_,.int i),(_,.int j)]=>if (j != 0)&&decide (j.natAbs < 18446744073709551616) then some (.d,.int (i.fdiv j)) else none
 | .modN,_,[(_,.int i),(_,.int j)]=>if j != 0 then some (.d,.int (i.fmod j)) else none
 | .neg,_,[(_,.int i)]=>some (.d,.int (-i))
 | .eq,_,[(_,a),(_,b)]=>if decide (dp a<=64)&&decide (dp b<=64) then some (.d,.bl (eqT a b)) else none
 | .ne,_,[(_,a),(_,b)]=>if decide (dp a<=64)&&decide (dp b<=64) then some (.d,.bl (!eqT a b)) else none
 | .lt,_,[(_,.int i),(_,.int j)]=>some (.d,.bl (decide (i < j)))
 | .le,_,[(_,.int i),(_,.int j)]=>some (.d,.bl (decide (i<=j)))
 | .gt,_,[(_,.int i),(_,.int j)]=>some (.d,.bl (decide (j < i)))
 | .ge,_,[(_,.int i),(_,.int j)]=>some (.d,.bl (decide (j<=i)))
 | .is,_,[(_,a),(_,.non)]=>if a.isG then none else some (.d,.bl a.isN)
 | .isnot,_,[(_,a),(_,.non)]=>if a.isG then none else some (.d,.bl (!a.isN))
 | .ix,_,[(m,a),(_,.int i)]=>match a with
  | .lst ts=>(atI ts i).map fun t=>(m.kid,t)
  | .tup ts=>(atI ts i).map fun t=>(m.kid,t)
  | .str x=>(atI x.cps.toList i).map fun c=>(.d,.str ⟨#[c]⟩)
  | .scr ns=>(atI ns i).map fun n=>(.d,.int n)
  | _=>none
 | .sl,h,[(m,.lst ts)]=>newL h m.kid ts
 | .sl1,h,[(m,.lst ts),(_,.int i)]=>newL h m.kid (cut ts (some i) none)
 | .sl2,h,[(m,.lst ts),(_,.int i)]=>newL h m.kid (cut ts none (some i))
 | .sl3,h,[(m,.lst ts),(_,.int i),(_,.int j)]=>newL h m.kid (cut ts (some i) (some j))
 | .sl2,_,[(_,.scr ns),(_,.int i)]=>some (.d,.lst ((cut ns none (some i)).map T.int))
 | .sl1,_,[(_,.scr ns),(_,.int i)]=>some (.d,.lst ((cut ns (some i) none).map T.int))
 | .sl,_,[(_,.scr ns)]=>some (.d,.lst (ns.map T.int))
 | .sl1,_,[(_,.tup ts),(_,.int i)]=>some (.s,.tup (cut ts (some i) none))
 | .sl2,_,[(_,.tup ts),(_,.int i)]=>some (.s,.tup (cut ts none (some i)))
 | .sl3,_,[(_,.tup ts),(_,.int i),(_,.int j)]=>some (.s,.tup (cut ts (some i) (some j)))
 | .len,_,[(_,a)]=>match a with
  | .lst ts=>some (.d,.int ts.length)
  | .tup ts=>some (.d,.int ts.length)
  | .str x=>some (.d,.int x.cps.size)
  | .scr ns=>some (.d,.int ns.length)
  | .dct ks _=>some (.d,.int ks.length)
  | _=>none
 | .isI cs,_,[(_,a)]=>if a.isG then none else some (.d,.bl (cs.any fun c=>isOne c a))
 | .list,h,[(m,a)]=>match a with
  | .lst ts=>newL h m.kid ts
  | .tup ts=>newL h m.kid ts
  | .scr ns=>some (.d,.lst (ns.map T.int))
  | _=>none
 | .tuple,_,[(m,a)]=>match a with
  | .lst ts=>some (m.kid.up,.tup ts)
  | .tup ts=>some (m,.tup ts)
  | _=>none
 | .sum,_,[(_,.lst ts)]=>(dM ts).map fun ns=>(.d,.int ns.sum)
 | .all,_,[(_,.lst ts)]=>(aK ts).map fun bs=>(.d,.bl (bs.all id))
 | .any,_,[(_,.lst ts)]=>(aK ts).map fun bs=>(.d,.bl (bs.any id))
 | .max,_,[(_,.int i),(_,.int j)]=>some (.d,.int (if j > i then j else i))
 | .min,_,[(_,.int i),(_,.int j)]=>some (.d,.int (if j < i then j else i))
 | .rng,_,[(_,.int i),(_,.int j)]=>if decide (i.natAbs < 4611686018427387904)&&decide (j.natAbs < 4611686018427387904)&&a6 (j-i).toNat then some (.d,.lst ((a0Y (j-i).toNat).map fun (k:Nat)=>T.int (i+k))) else none
 | .isin,_,[(_,a),(n,b)]=>(elems (n,b)).bind fun ts=>if flatT a&&ts.all flatT then some (.d,.bl (ts.any fun t=>eqT t a)) else none
 | .notin,_,[(_,a),(n,b)]=>(elems (n,b)).bind fun ts=>if flatT a&&ts.all flatT then some (.d,.bl (!ts.any fun t=>eqT t a)) else none
 | .int,_,[(_,.int i)]=>some (.d,.int i)
 | .int,_,[(_,.bl b)]=>some (.d,.int (b2i b))
 | .abs,_,[(_,.int i)]=>some (.d,.int i.natAbs)
 | .max1,_,[(_,.lst ts)]=>(dM ts).bind fun ns=>if ns.isEmpty then none else some (.d,.int (vV ns))
 | .min1,_,[(_,.lst ts)]=>(dM ts).bind fun ns=>if ns.isEmpty then none else some (.d,.int (wu ns))
 | .sorted,_,[(_,.lst ts)]=>(dM ts).bind fun ns=>if decide (ns.length < 64) then some (.d,.lst ((rB ns).map T.int)) else none
 | .str,_,[(_,.int i)]=>if decide (i.natAbs < 10000000000000000000) then some (.d,.str (xW i)) else none
 | .intS,_,[(_,.str x)]=>if decide ((vd x).natAbs < 10000000000000000000)&&(xW (vd x)==x) then some (.d,.int (vd x)) else none
 | .join,_,[(_,.str z),(_,.lst ts)]=>(nr ts).bind fun ss=>if sOk (Str.join z ss)&&decide ((ss.map fun s=>s.cps.size+z.cps.size).sum<=LIM) then some (.d,.str (Str.join z ss)) else none
 | .split,_,[(_,.str z),(_,.str y)]=>if (y==Str.ofString " ")&&decide (z.cps.size+2<=LIM)&&(xg z).all sOk then some (.d,.lst ((xg z).map T.str)) else none
 | .mulS,_,[(_,.str x),(_,.int k)]=>if decide (0<=k)&&decide (k<=100)&&decide (x.cps.size<=1000) then some (.d,.str ⟨(a0g k.toNat x.cps.toList).flatten.toArray⟩) else none
 | .listS,_,[(_,.str x)]=>some (.d,.lst (x.cps.toList.map fun c=>T.str ⟨#[c]⟩))
 | .apd,_,[(m,.lst ts),(_,_)]=>if m==.s then none else if decide (ts.length < LIM) then some (.d,.non) else none
 | .count,_,[(_,.lst ts),(_,.bl b)]=>(aK ts).map fun bs=>(.d,.int (bs.count b))
 | .lower,_,[(_,.str x)]=>if x.cps.toList.all (fun c=>decide (c < 128)) then some (.d,.str ⟨x.cps.map lowN⟩) else none
 | .inS,_,[(_,.str x),(_,.str y)]=>some (.d,.bl (!(a0M y x 0 y.length 1).isEmpty))
 | .ninS,_,[(_,.str x),(_,.str y)]=>some (.d,.bl (!(!(a0M y x 0 y.length 1).isEmpty)))
 | .inX,_,[(_,a),(_,.tup ts)]=>if ts.all isStr&&inXok a then some (.d,.bl (ts.any fun t=>eqT t a)) else none
 | .ninX,_,[(_,a),(_,.tup ts)]=>if ts.all isStr&&inXok a then some (.d,.bl (!ts.any fun t=>eqT t a)) else none
 | .leS,_,[(_,.str x),(_,.str y)]=>some (.d,.bl (!decide (y.cps.toList < x.cps.toList)))
 | .isB,_,[(_,.bl a),(_,.bl b)]=>some (.d,.bl (a==b))
 | .isnB,_,[(_,.bl a),(_,.bl b)]=>some (.d,.bl (!(a==b)))
 | .lzip,_,[(m,a),(n,b)]=>(elems (m,a)).bind fun ts=>(elems (n,b)).bind fun us=>some ((m.kid.meet n.kid).up.up,.lst (xU ts us))
 | _,_,_=>none
noncomputable def rd:Env->Nat->Option W
 | [],_=>none
 | o::_,0=>o
 | _::η,i+1=>rd η i
noncomputable def wr:Env->Nat->Option W->Env
 | [],_,_=>[]
 | _::η,0,w=>w::η
 | o::η,i+1,w=>o::wr η i w
noncomputable abbrev put (η:Env)(i:Nat)(w:W):Env:=wr η i (some w)
noncomputable abbrev del (η:Env)(i:Nat):Env:=wr η i none
noncomputable def look:W->Option W
 | (.s,t)=>some (.s,t)
 | (_,t)=>if t.leaf=true then some (.d,t) else none
noncomputable def toS:Option W->Option W
 | some (_,t)=>some (.s,t)
 | none=>none
noncomputable def share:List Nat->Env->Env
 | [],η=>η
 | i::is,η=>share is (wr η i (toS (rd η i)))
noncomputable def lfO:Option W->Option W
 | some (_,t)=>if t.leaf=true then some (.d,t) else none
 | none=>none
noncomputable def dU:Env->Env
 | []=>[]
 | _::η=>none::dU η
noncomputable def iF:List Nat->Env->Env->Env
 | [],_,η=>η
 | i::is,η0,η=>iF is η0 (wr η i (toS (rd η0 i)))
noncomputable def dI:List Nat->Env->Env->Env
 | [],_,η=>η
 | i::is,η0,η=>dI is η0 (wr η i (lfO (rd η0 i)))
noncomputable def pick (vs ls:List Nat)(η:Env):Env:=dI ls η (iF vs η (dU η))
noncomputable def after (m:Md)(vs:List Nat)(η:Env):Env:=match m with
 | .d=>η
 | _=>share vs η
noncomputable def aT:List Nat->List W->Env->Option Env
 | [],[],η=>some η
 | i::is,w::ws,η=>aT is ws (put η i w)
 | _,_,_=>none
noncomputable def qT (m:Md):Nat->List T->List (List W)
 | _,[]=>[]
 | i,t::ts=>[(.d,.int i),(m,t)]::qT m (i+1) ts
noncomputable def yE (m n:Md):List T->List T->List (List W)
 | t::ts,u::us=>[(m,t),(n,u)]::yE m n ts us
 | _,_=>[]
noncomputable def mG:List T->Option (List (List W))
 | []=>some []
 | .tup [x,y]::ts=>(mG ts).map ([(.s,x),(.s,y)]::·)
 | _::_=>none
noncomputable def kU:List T->List T->List T->List (List W)
 | t::ts,u::us,v::vs=>[(.s,t),(.s,u),(.s,v)]::kU ts us vs
 | _,_,_=>[]
noncomputable def bF:Ik->List W->Option (List (List W))
 | .seq,[(_,.lst ts)]=>some (ts.map fun t=>[(.s,t)])
 | .seq,[(_,.tup ts)]=>some (ts.map fun t=>[(.s,t)])
 | .seq,[(_,.scr ns)]=>some (ns.map fun n=>[(.d,.int n)])
 | .rng,[(_,.int n)]=>if decide (n.natAbs < 4611686018427387904)&&a6 n.toNat then some ((a0Y n.toNat).map fun (k:Nat)=>[(.d,.int k)]) else none
 | .rng,[(_,.int i),(_,.int j)]=>if decide (i.natAbs < 4611686018427387904)&&decide (j.natAbs < 4611686018427387904)&&a6 (j-i).toNat then some ((a0Y (j-i).toNat).map fun (k:Nat)=>[(.d,.int (i+k))]) else none
 | .enm,[(_,.lst ts)]=>some (qT .s 0 ts)
 | .zip,[(m,a),(n,b)]=>(elems (m,a)).bind fun ts=>(elems (n,b)).bind fun us=>some (yE .s .s ts us)
 | .sq2,[(_,.lst ts)]=>mG ts
 | .zip3,[(_,.lst ts),(_,.lst us),(_,.lst vs)]=>some (kU ts us vs)
 | .chr,[(_,.str x)]=>some (x.cps.toList.map fun c=>[(.d,.str ⟨#[c]⟩)])
 | _,_=>none
noncomputable abbrev Call:=Nat->List W->Res (W×List W)
noncomputable abbrev RE:=Res (W×Env)
noncomputable def lf (m:Md)(t:T):Md:=if t.leaf=true then .d else m
noncomputable def dH:List W->Md
 | []=>.d
 | w::ws=>(lf w.1 w.2).meet (dH ws)
noncomputable def aX:List W->List T
 | []=>[]
 | w::ws=>w.2::aX ws
noncomputable def aj:List Nat->Env->Env
 | [],η=>η
 | i::is,η=>aj is (del η i)
noncomputable def ios:List E->List Nat
 | []=>[]
 | .io i::es=>i::ios es
 | _::es=>ios es
noncomputable def putAll:List Nat->List W->Env->Env
 | i::is,w::ws,η=>putAll is ws (put η i w)
 | _,_,η=>η
noncomputable def fB:W->List W->Option (W×W)
 | (.s,_),_=>none
 | (m,.lst ts),[]=>(ts.getLast?).map fun t=>((m.kid,t),(m,.lst ts.dropLast))
 | (m,.lst (t::ts)),[(_,.int 0)]=>some ((m.kid,t),(m,.lst ts))
 | _,_=>none
noncomputable def tG:W->W->Option W
 | (.s,_),_=>none
 | (m,.lst ts),(n,t)=>if ts.length < LIM then some ((m.kid.meet (lf n t)).up,.lst (ts++[t])) else none
 | _,_=>none
noncomputable def uP:W->W->Option W
 | (.s,_),_=>none
 | (m,.lst ts),(n,.lst us)=>if ts.length+us.length<=LIM then some ((m.kid.meet n.kid).up,.lst (ts++us)) else none
 | _,_=>none
noncomputable def fU:W->W->W->Option W
 | (.s,_),_,_=>none
 | (m,.lst ts),(_,.int j),(n,t)=>(ixN ts.length j).map fun k=>((m.kid.meet (lf n t)).up,.lst (ts.set k t))
 | _,_,_=>none
noncomputable def eX:Option W->Res Unit
 | some (_,.lst _)=>.ok ()
 | _=>.no
noncomputable def yo:W->Option (List W)
 | (m,.tup ts)=>some (ts.map fun t=>(m.kid,t))
 | _=>none
noncomputable def ret {α:Type}(η:Env)(o:Option α):Res (α×Env):=match o with
 | some a=>.ok (a,η)
 | none=>.no
noncomputable def onB {α:Type}:T->(Env->Res α)->(Env->Res α)->Env->Res α
 | .bl true,f,_,η=>f η
 | .bl false,_,g,η=>g η
 | _,_,_,_=>.no
noncomputable def onT {α:Type}(f g:Env->Res α)(p:W×Env):Res α:=match truth p.1.2 with
 | some true=>f p.2
 | some false=>g p.2
 | none=>.no
noncomputable def okW {α:Type}(a:α)(η:Env):Res (α×Env):=.ok (a,η)
noncomputable def il (p:List W×Env):RE:=.ok (((dH p.1).up,.tup (aX p.1)),p.2)
noncomputable def kL (h:Bool)(p:List W×Env):RE:=.ok ((if h then (dH p.1).up else .o .s,.lst (aX p.1)),p.2)
noncomputable def kWk (m:Md)(p:W×Env):RE:=ret p.2 (if m.le p.1.1 then some (m,p.1.2) else none)
noncomputable def kOp (o:Op)(h:Bool)(p:List W×Env):RE:=ret p.2 (oSem o h p.1)
noncomputable def jW (f:Env->RE)(p:W×Env):RE:=onT f (okW p.1) p
noncomputable def kOr (f:Env->RE)(p:W×Env):RE:=onT (okW p.1) f p
noncomputable def jP (p:W×Env):RE:=ret p.2 ((truth p.1.2).map fun b=>(.d,.bl (!b)))
noncomputable def kC3 (q:Op)(y:W)(z:W×Env):RE:=ret z.2 (oSem q false [y,z.1])
noncomputable def then' {α β:Type}(f:Env->Res (α×Env))(k:α×Env->Res β)(η:Env):Res β:=(f η).bind k
noncomputable def kC2 (o q:Op)(fc:Env->RE)(x:W)(y:W×Env):RE:=(ret y.2 (oSem o false [x,y.1])).bind fun k=>onB k.1.2 (then' fc (kC3 q y.1)) (okW (.d,.bl false)) k.2
noncomputable def kC1 (o q:Op)(fb fc:Env->RE)(x:W×Env):RE:=(fb x.2).bind (kC2 o q fc x.1)
noncomputable def kBack (is:List Nat)(η:Env)(r:W×List W):RE:=.ok (r.1,putAll is r.2 η)
noncomputable def kCall (C:Call)(f:Nat)(is:List Nat)(p:List W×Env):RE:=(C f p.1).bind (kBack is p.2)
noncomputable def cZ (p:W×Env):Res (Option W×Env):=.ok (some p.1,p.2)
noncomputable def b0 (f:Env->RE)(η:Env):Res (Option W×Env):=(f η).bind cZ
noncomputable def gb (c f:Env->RE)(η:Env):Res (Option W×Env):=(c η).bind (onT (b0 f) (okW none))
noncomputable def aG (tg:List Nat)(f:Env->Res (Option W×Env)):List (List W)->Env->List W->Res (List W×Env)
 | [],η,acc=>.ok (acc,η)
 | ws::r,η,acc=>(ofO (aT tg ws η)).bind fun η1=>(f η1).bind fun p=>aG tg f r (aj tg p.2) (acc++p.1.toList)
noncomputable def okD (w:W):Bool:=w.1==.d || w.2.leaf
noncomputable def fW (h:Bool)(q:List W×Env):RE:=ret q.2 (if h then (if q.1.all okD then some (.d,.lst (aX q.1)) else none) else some (.o .s,.lst (aX q.1)))
noncomputable def cG (h:Bool)(k:Ik)(tg:List Nat)(f:Env->Res (Option W×Env))(p:List W×Env):RE:=(ret (aj tg p.2) (bF k p.1)).bind fun t=>(aG tg f t.1 t.2 []).bind (fW h)
noncomputable def gR (f:Env->Res (List W×Env))(η:Env)(k:List W×Env->RE)(_:Unit):RE:=(f η).bind k
noncomputable def kf (i:Nat)(p:List W×Env):RE:=(ofO ((rd p.2 i).bind fun w=>fB w p.1)).bind fun r=>.ok (r.1,put p.2 i r.2)
noncomputable def iO (w:W)(q:List W×Env):Res (List W×Env):=.ok (w::q.1,q.2)
noncomputable def aU (f:Env->Res (List W×Env))(p:W×Env):Res (List W×Env):=(f p.2).bind (iO p.1)
noncomputable def ku:List Nat->Md->T->Option (W×T)
 | [],m,t=>some ((m,t),.gone)
 | j::p,m,.lst ts=>(ts[j]?).bind fun t=>(ku p m.kid t).map fun r=>(r.1,.lst (ts.set j r.2))
 | j::p,m,.tup ts=>(ts[j]?).bind fun t=>(ku p m.kid t).map fun r=>(r.1,.tup (ts.set j r.2))
 | _::_,_,_=>none
noncomputable def rC (p:List Nat)(w:W):Option (W×W):=(ku p w.1 w.2).map fun r=>(r.1,(w.1,r.2))
noncomputable def xS (i:Nat)(η:Env)(r:W×W):RE:=.ok (r.1,put η i r.2)
noncomputable def kTab {α:Type}(tab:List (Str×α))(f:α->Env->RE)(p:W×Env):RE:=match p.1.2 with
 | .str x=>match tab.lookup x with
  | some a=>f a p.2
  | none=>.no
 | _=>.no
noncomputable def kCT (C:Call)(fa:Env->Res (List W×Env))(is:List Nat)(j:Nat)(η:Env):RE:=(fa η).bind (kCall C j is)
noncomputable def kIn (neg:Bool)(ks:List Str)(p:W×Env):RE:=match p.1.2 with
 | .str x=>.ok ((.d,.bl (ks.contains x != neg)),p.2)
 | _=>.no
noncomputable def okS (t:T)(η:Env):RE:=.ok ((.s,t),η)
noncomputable def oa (tab:List (Str×T))(p:W×Env):RE:=match p.1.2 with
 | .str x=>.ok ((.s,(tab.lookup x).getD .non),p.2)
 | _=>.no
noncomputable def kX (vs:List Nat)(η:Env)(p:W×Env):RE:=.ok ((lf p.1.1 p.1.2,p.1.2),after (lf p.1.1 p.1.2) vs η)
noncomputable def kIo (i:Nat)(p:List W×Env):Res (List W×Env):=(ofO (rd p.2 i)).bind fun w=>.ok (w::p.1,del p.2 i)
section
variable (C:Call)
mutual
noncomputable def evE:E->Env->RE
 | .var i,η=>ret η ((rd η i).bind look)
 | .mv i,η=>ret (del η i) (rd η i)
 | .io i,η=>ret (del η i) (rd η i)
 | .cst t,η=>.ok ((.d,t),η)
 | .glb _ t,η=>.ok ((.s,t),η)
 | .tup es,η=>(evL es η).bind il
 | .lst h es,η=>(evL es η).bind (kL h)
 | .wk m e,η=>(evE e η).bind (kWk m)
 | .op o h es,η=>(evL es η).bind (kOp o h)
 | .and a b,η=>(evE a η).bind (jW (evE b))
 | .or a b,η=>(evE a η).bind (kOr (evE b))
 | .not a,η=>(evE a η).bind jP
 | .ifx c a b,η=>(evE c η).bind (onT (evE a) (evE b))
 | .chain o q a b c,η=>(evE a η).bind (kC1 o q (evE b) (evE c))
 | .call f es,η=>(evA es η).bind (kCall C f (ios es))
 | .comp h k src tg none elt,η=>(evL src η).bind (cG h k tg (b0 (evE elt)))
 | .comp h k src tg (some c) elt,η=>(evL src η).bind (cG h k tg (gb (evE c) (evE elt)))
 | .pop i es,η=>(eX (rd η i)).bind (gR (evL es) η (kf i))
 | .lenV i,η=>ret η ((rd η i).bind fun w=>oSem .len false [w])
 | .tupA es,η=>(evA es η).bind il
 | .qx vs ls e,η=>(evE e (pick vs ls η)).bind (kX vs η)
 | .mvP i p,η=>(ofO ((rd η i).bind (rC p))).bind (xS i η)
 | .callT tab k es,η=>(evE k η).bind (kTab tab (kCT C (evA es) (ios es)))
 | .inT neg ks e,η=>(evE e η).bind (kIn neg ks)
 | .ixT tab e,η=>(evE e η).bind (kTab tab okS)
 | .getT tab e,η=>(evE e η).bind (oa tab)
noncomputable def evL:List E->Env->Res (List W×Env)
 | [],η=>.ok ([],η)
 | e::es,η=>(evE e η).bind (aU (evL es))
noncomputable def evA:List E->Env->Res (List W×Env)
 | [],η=>.ok ([],η)
 | .io i::es,η=>(evA es η).bind (kIo i)
 | e::es,η=>(evE e η).bind (aU (evA es))
end
noncomputable def kT (η:Env)(p:W×Env):Res (Bool×Env):=ret η (truth p.1.2)
noncomputable def kT2 (p:W×Env):Res (Bool×Env):=ret p.2 (truth p.1.2)
noncomputable def evX:X->E->Env->RE
 | .q vs ls,e,η=>(evE C e (pick vs ls η)).bind (kX vs η)
 | .l vs,e,η=>evE C e (share vs η)
noncomputable def evT:X->E->Env->Res (Bool×Env)
 | .q vs ls,e,η=>(evE C e (pick vs ls η)).bind (kT η)
 | .l vs,e,η=>(evE C e (share vs η)).bind kT2
noncomputable def Fl.of {α:Type}(η:Env):Res α->(α->Fl)->Fl
 | .ok a,f=>f a
 | .ex c x,_=>.ex c x η
 | .no,_=>.no
noncomputable def Fl.seq:Fl->(Env->Fl)->Fl
 | .nx η,f=>f η
 | z,_=>z
noncomputable def Fl.turn:Fl->(Env->Fl)->Fl
 | .nx η,f=>f η
 | .bk η,_=>.nx η
 | z,_=>z
noncomputable def onF:Bool->(Env->Fl)->(Env->Fl)->Env->Fl
 | true,f,_,η=>f η
 | false,_,g,η=>g η
noncomputable def dA (tg:List Nat)(f:Env->Fl):List (List W)->Env->Fl
 | [],η=>.nx η
 | ws::r,η=>Fl.of η (ofO (aT tg ws η)) fun η1=>Fl.turn (f η1) (dA tg f r)
noncomputable def kIf (f g:Env->Fl)(p:Bool×Env):Fl:=onF p.1 f g p.2
noncomputable def rg (f:Env->Fl)(g:Env->Fl)(η:Env):Fl:=Fl.turn (f η) g
noncomputable def uD (c:Env->Res (Bool×Env))(f:Env->Fl):Nat->Env->Fl
 | 0,_=>.no
 | n+1,η=>Fl.of η (c η) (kIf (rg f (uD c f n)) .nx)
noncomputable def yI:Nat:=1000000000000
noncomputable def nxO (η:Env):Option Env->Fl
 | some η=>.nx η
 | none=>.no
noncomputable def om (i:Nat)(p:W×Env):Fl:=.nx (put p.2 i p.1)
noncomputable def rn (is:List Nat)(p:W×Env):Fl:=nxO p.2 ((yo p.1).bind fun ws=>aT is ws p.2)
noncomputable def ue (i:Nat)(p:W×Env):Fl:=nxO p.2 (((rd p.2 i).bind fun w=>tG w p.1).map fun w=>put p.2 i w)
noncomputable def uj (i:Nat)(p:W×Env):Fl:=nxO p.2 (((rd p.2 i).bind fun w=>uP w p.1).map fun w=>put p.2 i w)
noncomputable def qU (i:Nat)(x:W)(q:W×Env):Fl:=nxO q.2 (((rd q.2 i).bind fun w=>fU w q.1 x).map fun w=>put q.2 i w)
noncomputable def u6 (i:Nat)(f:Env->RE)(η:Env)(p:W×Env):Fl:=Fl.of η (f p.2) (qU i p.1)
noncomputable def mD (f:Env->RE)(η:Env)(k:W×Env->Fl)(_:Unit):Fl:=Fl.of η (f η) k
noncomputable def kNx (p:W×Env):Fl:=.nx p.2
noncomputable def kRt (p:W×Env):Fl:=.rt p.1 p.2
noncomputable def iS (tg:List Nat)(f:Env->Fl)(t:List (List W)×Env):Fl:=dA tg f t.1 t.2
noncomputable def ql (vs:List Nat)(k:Ik)(tg:List Nat)(f:Env->Fl)(η:Env)(p:List W×Env):Fl:=Fl.of η (ret (share vs η) (bF k p.1)) (iS tg f)
noncomputable def yz (k:Ik)(tg:List Nat)(f:Env->Fl)(p:List W×Env):Fl:=Fl.of p.2 (ret p.2 (bF k p.1)) (iS tg f)
mutual
noncomputable def evS:S->Env->Fl
 | .asg x i e,η=>Fl.of η (evX C x e η) (om i)
 | .asgT x is e,η=>Fl.of η (evX C x e η) (rn is)
 | .setI x i k e,η=>Fl.of η (evX C x e η) (u6 i (evX C x k) η)
 | .exp x e,η=>Fl.of η (evX C x e η) kNx
 | .app x i e,η=>Fl.of η (eX (rd η i)) (mD (evX C x e) η (ue i))
 | .ext x i e,η=>Fl.of η (eX (rd η i)) (mD (evX C x e) η (uj i))
 | .ret vs e,η=>Fl.of η (evE C e (share vs η)) kRt
 | .retN,η=>.rt (.d,.non) η
 | .ite x c a b,η=>Fl.of η (evT C x c η) (kIf (evSs a) (evSs b))
 | .forS vs ls k src tg body,η=>Fl.of η (evL C src (pick vs ls η)) (ql vs k tg (evSs body) η)
 | .forU k src tg body,η=>Fl.of η (evL C src η) (yz k tg (evSs body))
 | .whl x c body,η=>uD (evT C x c) (evSs body) yI η
 | .brk,η=>.bk η
 | .pas,η=>.nx η
 | .stop,_=>.no
 | .tri body,η=>evSs body η
noncomputable def evSs:List S->Env->Fl
 | [],η=>.nx η
 | s::r,η=>Fl.seq (evS s η) (evSs r)
end
end
noncomputable def backs:List Nat->Env->Option (List W)
 | [],_=>some []
 | i::is,η=>(rd η i).bind fun w=>(backs is η).bind fun ws=>some (w::ws)
noncomputable def kq (w:W)(b:List W):Res (W×List W):=.ok (w,b)
noncomputable def Fl.out (io:List Nat):Fl->Res (W×List W)
 | .nx η=>(ofO (backs io η)).bind (kq (.d,.non))
 | .rt w η=>(ofO (backs io η)).bind (kq w)
 | .ex c x _=>.ex c x
 | _=>.no
noncomputable def runF (C:Call)(f:Fn)(ws:List W):Res (W×List W) :=
 if ws.length=f.ps then Fl.out f.io (evSs C f.body (ws.map some++a0g f.ns none)) else .no
noncomputable abbrev zA:=List Fn
noncomputable def sy (n:Nat):List W->Res (W×List W)
 | [(m,t)]=>if (lf m t==.d&&(decide (dp t<=n)&&decide (dp t<=64)))=true then .ok ((.d,.non),[]) else .no
 | _=>.no
noncomputable def rz:List Nat->List T->List T
 | [],_=>[]
 | n::ns,ts=>.lst (ts.take n)::rz ns (ts.drop n)
noncomputable def lF:List T->Option (List Nat)
 | []=>some []
 | .int (.ofNat n)::ts=>(lF ts).map (n::·)
 | _::_=>none
noncomputable def wY:List W->Res (W×List W)
 | [(_,.lst ls),(m,.lst ts)]=>(ofO (lF ls)).bind fun ns=>.ok ((m.kid.up.up,.lst (rz ns ts)),[])
 | _=>.no
noncomputable def callR (P:zA)(s r:Nat):Nat->Call
 | 0=>fun _ _=>.no
 | n+1=>fun f ws=>if f=s then sy n ws else if f=r then wY ws else (ofO P[f]?).bind fun d=>runF (callR P s r n) d ws
noncomputable abbrev zf:Fn:={ ps:=0,ns:=0,io:=[],body:=[.stop] }
theorem zf_no (C:Call)(ws:List W):runF C zf ws=.no:=by cases ws<;>rfl
theorem sR (C:Call)(i:Nat)(η:Env):evE C (.var i) η=ret η ((rd η i).bind look):=rfl
theorem ua (C:Call)(i:Nat)(η:Env):evE C (.mv i) η=ret (del η i) (rd η i):=rfl
theorem uC (C:Call)(i:Nat)(η:Env):evE C (.io i) η=ret (del η i) (rd η i):=rfl
theorem vp (C:Call)(t:T)(η:Env):evE C (.cst t) η=.ok ((.d,t),η):=rfl
theorem sC (C:Call)(es:List E)(η:Env):evE C (.tup es) η=(evL C es η).bind il:=rfl
theorem rF (C:Call)(h:Bool)(es:List E)(η:Env):evE C (.lst h es) η=(evL C es η).bind (kL h):=rfl
theorem rX (C:Call)(o:Op)(h:Bool)(es:List E)(η:Env):evE C (.op o h es) η=(evL C es η).bind (kOp o h):=rfl
theorem pR (C:Call)(a:E)(b:E)(η:Env):evE C (.and a b) η=(evE C a η).bind (jW (evE C b)):=rfl
theorem pN (C:Call)(a:E)(b:E)(η:Env):evE C (.or a b) η=(evE C a η).bind (kOr (evE C b)):=rfl
theorem n9 (C:Call)(a:E)(η:Env):evE C (.not a) η=(evE C a η).bind jP:=rfl
theorem oi (C:Call)(c:E)(a:E)(b:E)(η:Env):evE C (.ifx c a b) η=(evE C c η).bind (onT (evE C a) (evE C b)):=rfl
theorem nS (C:Call)(o:Op)(q:Op)(a:E)(b:E)(c:E)(η:Env):evE C (.chain o q a b c) η=(evE C a η).bind (kC1 o q (evE C b) (evE C c)):=rfl
theorem nM (C:Call)(f:Nat)(es:List E)(η:Env):evE C (.call f es) η=(evA C es η).bind (kCall C f (ios es)):=rfl
theorem qu (C:Call)(h:Bool)(k:Ik)(src:List E)(tg:List Nat)(elt:E)(η:Env):evE C (.comp h k src tg none elt) η=(evL C src η).bind (cG h k tg (b0 (evE C elt))):=rfl
theorem qM (C:Call)(h:Bool)(k:Ik)(src:List E)(tg:List Nat)(c:E)(elt:E)(η:Env):evE C (.comp h k src tg (some c) elt) η=(evL C src η).bind (cG h k tg (gb (evE C c) (evE C elt))):=rfl
theorem qI (C:Call)(i:Nat)(es:List E)(η:Env):evE C (.pop i es) η=(eX (rd η i)).bind (gR (evL C es) η (kf i)):=rfl
theorem jF (C:Call)(neg:Bool)(ks:List Str)(e:E)(η:Env):evE C (.inT neg ks e) η=(evE C e η).bind (kIn neg ks):=rfl
theorem jK (C:Call)(tab:List (Str×T))(e:E)(η:Env):evE C (.ixT tab e) η=(evE C e η).bind (kTab tab okS):=rfl
theorem jn (C:Call)(neg:Bool)(ks:List Str)(e:E)(es:List E)(η:Env):evA C (.inT neg ks e::es) η=(evE C (.inT neg ks e) η).bind (aU (evA C es)):=rfl
theorem j8 (C:Call)(tab:List (Str×T))(e:E)(es:List E)(η:Env):evA C (.ixT tab e::es) η=(evE C (.ixT tab e) η).bind (aU (evA C es)):=rfl
theorem vn {α:Type}(tab:List (Str×α))(f:α->Env->RE)(m:Md)(x:Str)(η:Env):kTab tab f ((m,.str x),η)=(match tab.lookup x with | some a=>f a η | none=>.no):=rfl
theorem vG (h:Bool)(m n:Md)(ts:List T)(i:Int):oSem .sl2 h [(m,.lst ts),(n,.int i)]=newL h m.kid (cut ts none (some i)):=rfl
theorem ug (h:Bool)(m n:Md)(ts:List T)(i:Int):oSem .sl1 h [(m,.lst ts),(n,.int i)]=newL h m.kid (cut ts (some i) none):=rfl
theorem tP (h:Bool)(m n:Md)(ts:List T)(k:Int):oSem .mul h [(m,.lst ts),(n,.int k)]=if decide (k.natAbs < 4611686018427387904)&&a6 (ts.length * k.toNat) then newL h .s (a0g k.toNat ts).flatten else none:=rfl
noncomputable def lkM:Md->Md
 | .s=>.s | _=>.d
theorem yU:lkM .s=.s:=rfl
theorem zG:lkM .d=.d:=rfl
theorem zN (m:Md):lkM (.o m)=.d:=rfl
theorem yd (m:Md)(i:Int):look (m,.int i)=some (lkM m,.int i):=by cases m<;>rfl
theorem wq (m:Md)(b:Bool):look (m,.bl b)=some (lkM m,.bl b):=by cases m<;>rfl
theorem yH (m:Md)(x:Str):look (m,.str x)=some (lkM m,.str x):=by cases m<;>rfl
theorem xH (m:Md):look (m,.non)=some (lkM m,.non):=by cases m<;>rfl
theorem tq (m n k:Md)(ts us vs:List T):bF .zip3 [(m,.lst ts),(n,.lst us),(k,.lst vs)]=some (kU ts us vs):=rfl
theorem zt (neg:Bool)(ks:List Str)(m:Md)(x:Str)(η:Env):kIn neg ks ((m,.str x),η)=.ok ((.d,.bl (ks.contains x != neg)),η):=rfl
theorem g8 (C:Call)(i:Nat)(η:Env):evE C (.lenV i) η=ret η ((rd η i).bind fun w=>oSem .len false [w]):=rfl
theorem iu (C:Call)(i:Nat)(es:List E)(η:Env):evA C (.lenV i::es) η=(evE C (.lenV i) η).bind (aU (evA C es)):=rfl
theorem sj (C:Call)(η:Env):evA C [] η=.ok ([],η):=rfl
theorem rY (C:Call)(i:Nat)(es:List E)(η:Env):evA C (.io i::es) η=(evA C es η).bind (kIo i):=rfl
theorem jo (C:Call)(i:Nat)(es:List E)(η:Env):evA C (.var i::es) η=(evE C (.var i) η).bind (aU (evA C es)):=rfl
theorem mf (C:Call)(i:Nat)(es:List E)(η:Env):evA C (.mv i::es) η=(evE C (.mv i) η).bind (aU (evA C es)):=rfl
theorem jI (C:Call)(t:T)(es:List E)(η:Env):evA C (.cst t::es) η=(evE C (.cst t) η).bind (aU (evA C es)):=rfl
theorem jq (C:Call)(l:List E)(es:List E)(η:Env):evA C (.tup l::es) η=(evE C (.tup l) η).bind (aU (evA C es)):=rfl
theorem jD (C:Call)(h:Bool)(l:List E)(es:List E)(η:Env):evA C (.lst h l::es) η=(evE C (.lst h l) η).bind (aU (evA C es)):=rfl
theorem kH (C:Call)(o:Op)(h:Bool)(l:List E)(es:List E)(η:Env):evA C (.op o h l::es) η=(evE C (.op o h l) η).bind (aU (evA C es)):=rfl
theorem jU (C:Call)(a b:E)(es:List E)(η:Env):evA C (.and a b::es) η=(evE C (.and a b) η).bind (aU (evA C es)):=rfl
theorem my (C:Call)(a b:E)(es:List E)(η:Env):evA C (.or a b::es) η=(evE C (.or a b) η).bind (aU (evA C es)):=rfl
theorem jJ (C:Call)(a:E)(es:List E)(η:Env):evA C (.not a::es) η=(evE C (.not a) η).bind (aU (evA C es)):=rfl
theorem ke (C:Call)(c a b:E)(es:List E)(η:Env):evA C (.ifx c a b::es) η=(evE C (.ifx c a b) η).bind (aU (evA C es)):=rfl
theorem gA (C:Call)(o p:Op)(a b c:E)(es:List E)(η:Env):evA C (.chain o p a b c::es) η=(evE C (.chain o p a b c) η).bind (aU (evA C es)):=rfl
theorem gX (C:Call)(f:Nat)(l:List E)(es:List E)(η:Env):evA C (.call f l::es) η=(evE C (.call f l) η).bind (aU (evA C es)):=rfl
theorem hE (C:Call)(h:Bool)(k:Ik)(src:List E)(tg:List Nat)(cnd:Option E)(elt:E)(es:List E)(η:Env):evA C (.comp h k src tg cnd elt::es) η=(evE C (.comp h k src tg cnd elt) η).bind (aU (evA C es)):=rfl
theorem jm (C:Call)(i:Nat)(l:List E)(es:List E)(η:Env):evA C (.pop i l::es) η=(evE C (.pop i l) η).bind (aU (evA C es)):=rfl
theorem uE {C:Call}{e:E}{es:List E}{η:Env}(he:∀ i,e≠.io i):evA C (e::es) η=(evE C e η).bind (aU (evA C es)):=by
 cases e with
 | io i=>exact absurd rfl (he i)
 | _=>rfl
theorem nI (C:Call)(η:Env):evL C ([]) η=.ok ([],η):=rfl
theorem oA (C:Call)(e:E)(es:List E)(η:Env):evL C (e::es) η=(evE C e η).bind (aU (evL C es)):=rfl
theorem pL (C:Call)(x:X)(i:Nat)(e:E)(η:Env):evS C (.asg x i e) η=Fl.of η (evX C x e η) (om i):=rfl
theorem oG (C:Call)(x:X)(is:List Nat)(e:E)(η:Env):evS C (.asgT x is e) η=Fl.of η (evX C x e η) (rn is):=rfl
theorem qH (C:Call)(x:X)(i:Nat)(k:E)(e:E)(η:Env):evS C (.setI x i k e) η=Fl.of η (evX C x e η) (u6 i (evX C x k) η):=rfl
theorem oF (C:Call)(x:X)(e:E)(η:Env):evS C (.exp x e) η=Fl.of η (evX C x e η) kNx:=rfl
theorem qt (C:Call)(x:X)(i:Nat)(e:E)(η:Env):evS C (.app x i e) η=Fl.of η (eX (rd η i)) (mD (evX C x e) η (ue i)):=rfl
theorem oh (C:Call)(x:X)(i:Nat)(e:E)(η:Env):evS C (.ext x i e) η=Fl.of η (eX (rd η i)) (mD (evX C x e) η (uj i)):=rfl
theorem oj (C:Call)(vs:List Nat)(e:E)(η:Env):evS C (.ret vs e) η=Fl.of η (evE C e (share vs η)) kRt:=rfl
theorem qj (C:Call)(η:Env):evS C (.retN) η=.rt (.d,.non) η:=rfl
theorem qp (C:Call)(x:X)(c:E)(a:List S)(b:List S)(η:Env):evS C (.ite x c a b) η=Fl.of η (evT C x c η) (kIf (evSs C a) (evSs C b)):=rfl
theorem nV (C:Call)(vs:List Nat)(ls:List Nat)(k:Ik)(src:List E)(tg:List Nat)(body:List S)(η:Env):evS C (.forS vs ls k src tg body) η=Fl.of η (evL C src (pick vs ls η)) (ql vs k tg (evSs C body) η):=rfl
theorem pE (C:Call)(x:X)(c:E)(body:List S)(η:Env):evS C (.whl x c body) η=uD (evT C x c) (evSs C body) yI η:=rfl
theorem oO (C:Call)(η:Env):evS C (.brk) η=.bk η:=rfl
theorem qo (C:Call)(η:Env):evS C (.pas) η=.nx η:=rfl
theorem ll (C:Call)(η:Env):evSs C ([]) η=.nx η:=rfl
theorem ng (C:Call)(s:S)(r:List S)(η:Env):evSs C (s::r) η=Fl.seq (evS C s η) (evSs C r):=rfl
theorem pQ (C:Call)(vs:List Nat)(ls:List Nat)(e:E)(η:Env):evX C (.q vs ls) e η=(evE C e (pick vs ls η)).bind (kX vs η):=rfl
theorem oN (C:Call)(vs:List Nat)(e:E)(η:Env):evX C (.l vs) e η=evE C e (share vs η):=rfl
theorem ox (C:Call)(vs:List Nat)(ls:List Nat)(e:E)(η:Env):evT C (.q vs ls) e η=(evE C e (pick vs ls η)).bind (kT η):=rfl
theorem pG (C:Call)(vs:List Nat)(e:E)(η:Env):evT C (.l vs) e η=(evE C e (share vs η)).bind kT2:=rfl
theorem tf {α β:Type}(a:α)(f:α->Res β):(Res.ok a).bind f=f a:=rfl
theorem zD {α:Type}(η:Env)(a:α)(f:α->Fl):Fl.of η (.ok a) f=f a:=rfl
theorem va (η:Env)(f:Env->Fl):Fl.seq (.nx η) f=f η:=rfl
theorem uA (w:W)(η:Env)(f:Env->Fl):Fl.seq (.rt w η) f=.rt w η:=rfl
theorem s8 (η:Env)(f:Env->Fl):Fl.seq (.bk η) f=.bk η:=rfl
theorem oK (η:Env)(f:Env->Fl):Fl.turn (.nx η) f=f η:=rfl
theorem qP (w:W)(η:Env)(f:Env->Fl):Fl.turn (.rt w η) f=.rt w η:=rfl
theorem oB (η:Env)(f:Env->Fl):Fl.turn (.bk η) f=.nx η:=rfl
theorem uQ {α:Type}(f g:Env->Res α)(η:Env):onB (.bl true) f g η=f η:=rfl
theorem r9 {α:Type}(f g:Env->Res α)(η:Env):onB (.bl false) f g η=g η:=rfl
theorem uz {α:Type}(f g:Env->Res α)(m:Md)(b:Bool)(η:Env):onT f g ((m,.bl b),η)=onB (.bl b) f g η:=by cases b<;>rfl
theorem uY {α:Type}(f g:Env->Res α)(m:Md)(η:Env):onT f g ((m,.bl true),η)=f η:=rfl
theorem um {α:Type}(f g:Env->Res α)(m:Md)(η:Env):onT f g ((m,.bl false),η)=g η:=rfl
theorem ve (f g:Env->Fl)(η:Env):onF true f g η=f η:=rfl
theorem sL (f g:Env->Fl)(η:Env):onF false f g η=g η:=rfl
theorem xa {α:Type}(a:α):ofO (some a)=.ok a:=rfl
theorem xb {α:Type}(η:Env)(a:α):ret η (some a)=.ok (a,η):=rfl
theorem xi (o:Option W)(η:Env):rd (o::η) 0=o:=rfl
theorem wJ (o:Option W)(η:Env)(i:Nat):rd (o::η) (i+1)=rd η i:=rfl
theorem xV (o w:Option W)(η:Env):wr (o::η) 0 w=w::η:=rfl
theorem vY (o w:Option W)(η:Env)(i:Nat):wr (o::η) (i+1) w=o::wr η i w:=rfl
theorem qG (t:T):look (.s,t)=some (.s,t):=rfl
theorem qk (m:Md)(i:Int):(look (.d,.int i))=some (.d,.int i):=rfl
theorem nY (m:Md)(b:Bool):(look (.d,.bl b))=some (.d,.bl b):=rfl
theorem qN (x:Str):(look (.d,.str x))=some (.d,.str x):=rfl
theorem oW:(look (.d,.non))=some (.d,.non):=rfl
theorem vU (m:Md)(t:T):toS (some (m,t))=some (.s,t):=rfl
theorem vR:toS none=none:=rfl
theorem k8 (η:Env):share [] η=η:=rfl
theorem kz (i:Nat)(is:List Nat)(η:Env):share (i::is) η=share is (wr η i (toS (rd η i))):=rfl
theorem mr:dU []=[]:=rfl
theorem kA (o:Option W)(η:Env):dU (o::η)=none::dU η:=rfl
theorem sG (vs ls:List Nat)(η:Env):pick vs ls η=dI ls η (iF vs η (dU η)):=rfl
theorem ou (η0 η:Env):iF [] η0 η=η:=rfl
theorem qB (i:Nat)(is:List Nat)(η0 η:Env):iF (i::is) η0 η=iF is η0 (wr η i (toS (rd η0 i))):=rfl
theorem nA (η0 η:Env):dI [] η0 η=η:=rfl
theorem lN (i:Nat)(is:List Nat)(η0 η:Env):dI (i::is) η0 η=dI is η0 (wr η i (lfO (rd η0 i))):=rfl
theorem xR (m:Md)(i:Int):lfO (some (m,.int i))=some (.d,.int i):=rfl
theorem yr (m:Md)(b:Bool):lfO (some (m,.bl b))=some (.d,.bl b):=rfl
theorem yG (m:Md)(x:Str):lfO (some (m,.str x))=some (.d,.str x):=rfl
theorem wQ (m:Md):lfO (some (m,.non))=some (.d,.non):=rfl
theorem ko (vs:List Nat)(η:Env):after .d vs η=η:=rfl
theorem lX (vs:List Nat)(η:Env):after .s vs η=share vs η:=rfl
theorem lV (m:Md)(vs:List Nat)(η:Env):after (.o m) vs η=share vs η:=rfl
theorem rJ (m:Md)(i:Int):lf m (.int i)=.d:=rfl
theorem uR (m:Md)(b:Bool):lf m (.bl b)=.d:=rfl
theorem vg (m:Md)(x:Str):lf m (.str x)=.d:=rfl
theorem vF (m:Md):lf m .non=.d:=rfl
theorem uy (m:Md)(ts:List T):lf m (.lst ts)=m:=rfl
theorem rS (m:Md)(ts:List T):lf m (.tup ts)=m:=rfl
theorem uW (t:T):lf .d t=.d:=by unfold lf; split<;>rfl
theorem rH (m:Md):Md.s.le m=true:=by cases m<;>rfl
theorem pM:Md.d.le .d=true:=rfl
theorem pk (m:Md):(Md.o m).le .d=true:=rfl
theorem oP (m n:Md):(Md.o m).le (.o n)=m.le n:=rfl
theorem vj (h:Bool)(m n:Md)(i j:Int):oSem .add h [(m,.int i),(n,.int j)]=some (.d,.int (i+j)):=rfl
theorem mI (h:Bool)(m n:Md)(ts us:List T):oSem .add h [(m,.lst ts),(n,.lst us)]=if a6 (ts.length+us.length) then newL h (m.kid.meet n.kid) (ts++us) else none:=rfl
theorem lT (h:Bool)(m n:Md)(x y:Str):oSem .add h [(m,.str x),(n,.str y)]=if a6 (x.cps.size+y.cps.size) then some (.d,.str (x++y)) else none:=rfl
theorem nB (h:Bool)(m n:Md)(ts us:List T):oSem .add h [(m,.tup ts),(n,.tup us)]=if a6 (ts.length+us.length)&&!ts.isEmpty then some (.s,.tup (ts++us)) else none:=rfl
theorem xO (h:Bool)(m n:Md)(i j:Int):oSem .sub h [(m,.int i),(n,.int j)]=some (.d,.int (i-j)):=rfl
theorem ky (h:Bool)(m n:Md)(i j:Int):oSem .mul h [(m,.int i),(n,.int j)]=if (decide (i.natAbs < 18446744073709551616)) || (decide (j.natAbs < 18446744073709551616)) then some (.d,.int (i * j)) else none:=rfl
theorem mK (h:Bool)(m n:Md)(i j:Int):oSem .fdiv h [(m,.int i),(n,.int j)]=if decide (0 < j)&&decide (j < 1073741824) then some (.d,.int (i / j)) else none:=rfl
theorem ro (h:Bool)(m n:Md)(i j:Int):oSem .mod h [(m,.int i),(n,.int j)]=if decide (0 < j) then some (.d,.int (i % j)) else none:=rfl
theorem ji (h:Bool)(m n:Md)(i j:Int):oSem .pow h [(m,.int i),(n,.int j)]=if decide (0<=j)&&decide (j<=1000000)&&decide (i.natAbs < 18446744073709551616) then some (.d,.int (i ^ j.toNat)) else none:=rfl
theorem wd (h:Bool)(m:Md)(i:Int):oSem .neg h [(m,.int i)]=some (.d,.int (-i)):=rfl
theorem vw (h:Bool)(m n:Md)(i j:Int):oSem .eq h [(m,.int i),(n,.int j)]=some (.d,.bl (i==j)):=rfl
theorem tp (h:Bool)(m n:Md)(x y:Str):oSem .eq h [(m,.str x),(n,.str y)]=some (.d,.bl (x==y)):=rfl
theorem tF (h:Bool)(m n:Md)(a b:Bool):oSem .eq h [(m,.bl a),(n,.bl b)]=some (.d,.bl (a==b)):=rfl
theorem vf (h:Bool)(m n:Md)(i j:Int):oSem .ne h [(m,.int i),(n,.int j)]=some (.d,.bl (!(i==j))):=rfl
theorem tw (h:Bool)(m n:Md)(x y:Str):oSem .ne h [(m,.str x),(n,.str y)]=some (.d,.bl (!(x==y))):=rfl
theorem u7 (h:Bool)(m n:Md)(a b:Bool):oSem .ne h [(m,.bl a),(n,.bl b)]=some (.d,.bl (!(a==b))):=rfl
theorem zK (h:Bool)(m n:Md)(i j:Int):oSem .lt h [(m,.int i),(n,.int j)]=some (.d,.bl (decide (i < j))):=rfl
theorem zF (h:Bool)(m n:Md)(i j:Int):oSem .le h [(m,.int i),(n,.int j)]=some (.d,.bl (decide (i<=j))):=rfl
theorem yZ (h:Bool)(m n:Md)(i j:Int):oSem .gt h [(m,.int i),(n,.int j)]=some (.d,.bl (decide (j < i))):=rfl
theorem zo (h:Bool)(m n:Md)(i j:Int):oSem .ge h [(m,.int i),(n,.int j)]=some (.d,.bl (decide (j<=i))):=rfl
theorem xy (h:Bool)(m n:Md)(ts:List T)(i:Int):oSem .ix h [(m,.lst ts),(n,.int i)]=(atI ts i).map fun t=>(m.kid,t):=rfl
theorem wg (h:Bool)(m n:Md)(ts:List T)(i:Int):oSem .ix h [(m,.tup ts),(n,.int i)]=(atI ts i).map fun t=>(m.kid,t):=rfl
theorem sE (h:Bool)(m:Md)(ts:List T):oSem .len h [(m,.lst ts)]=some (.d,.int ts.length):=rfl
theorem sQ (h:Bool)(m:Md)(ts:List T):oSem .len h [(m,.tup ts)]=some (.d,.int ts.length):=rfl
theorem sX (h:Bool)(m:Md)(ns:List Int):oSem .len h [(m,.scr ns)]=some (.d,.int ns.length):=rfl
theorem yA (h:Bool)(m n:Md)(ns:List Int)(i:Int):oSem .ix h [(m,.scr ns),(n,.int i)]=(atI ns i).map fun n=>(.d,.int n):=rfl
theorem xh (h:Bool)(m n:Md)(ns:List Int)(i:Int):oSem .sl2 h [(m,.scr ns),(n,.int i)]=some (.d,.lst ((cut ns none (some i)).map T.int)):=rfl
theorem ur (m:Md)(ns:List Int):lf m (.scr ns)=.d:=rfl
theorem yc (m:Md)(ns:List Int):lfO (some (m,.scr ns))=some (.d,.scr ns):=rfl
theorem pT (ns:List Int):look (.d,.scr ns)=some (.d,.scr ns):=rfl
theorem vC (h:Bool)(m:Md)(x:Str):oSem .len h [(m,.str x)]=some (.d,.int x.cps.size):=rfl
theorem yB (cs:List String)(h:Bool)(m:Md)(a:T):oSem (.isI cs) h [(m,a)]=if a.isG then none else some (.d,.bl (cs.any fun c=>isOne c a)):=rfl
theorem v3:T.isG .non=false:=rfl
theorem ze (b:Bool):T.isG (.bl b)=false:=rfl
theorem xC (i:Int):T.isG (.int i)=false:=rfl
theorem xZ (x:Str):T.isG (.str x)=false:=rfl
theorem wz (ts:List T):T.isG (.tup ts)=false:=rfl
theorem xN (ts:List T):T.isG (.lst ts)=false:=rfl
theorem yw (ns:List Int):T.isG (.scr ns)=false:=rfl
theorem xP:T.isN .non=true:=rfl
theorem zh (b:Bool):T.isN (.bl b)=false:=rfl
theorem xk (i:Int):T.isN (.int i)=false:=rfl
theorem xt (x:Str):T.isN (.str x)=false:=rfl
theorem wF (ts:List T):T.isN (.tup ts)=false:=rfl
theorem wH (ts:List T):T.isN (.lst ts)=false:=rfl
theorem nR (h:Bool)(m:Md)(ts:List T):oSem .list h [(m,.lst ts)]=newL h m.kid ts:=rfl
theorem qv (h:Bool)(m:Md)(ts:List T):oSem .list h [(m,.tup ts)]=newL h m.kid ts:=rfl
theorem uT (h:Bool)(m n:Md)(a:T)(ts:List T):oSem .isin h [(m,a),(n,.tup ts)]=if flatT a&&ts.all flatT then some (.d,.bl (ts.any fun t=>eqT t a)) else none:=rfl
theorem oM (h:Bool)(m n:Md)(a:T)(ts:List T):oSem .isin h [(m,a),(n,.lst ts)]=if flatT a&&ts.all flatT then some (.d,.bl (ts.any fun t=>eqT t a)) else none:=rfl
theorem pK (h:Bool)(m n:Md)(a:T)(ts:List T):oSem .notin h [(m,a),(n,.tup ts)]=if flatT a&&ts.all flatT then some (.d,.bl (!ts.any fun t=>eqT t a)) else none:=rfl
theorem oR (h:Bool)(m:Md)(x:Str):oSem .lower h [(m,.str x)]=if x.cps.toList.all (fun c=>decide (c < 128)) then some (.d,.str ⟨x.cps.map lowN⟩) else none:=rfl
theorem wV (h:Bool)(m n:Md)(x y:Str):oSem .inS h [(m,.str x),(n,.str y)]=some (.d,.bl (!(a0M y x 0 y.length 1).isEmpty)):=rfl
theorem uL (h:Bool)(m n:Md)(x y:Str):oSem .ninS h [(m,.str x),(n,.str y)]=some (.d,.bl (!(!(a0M y x 0 y.length 1).isEmpty))):=rfl
theorem wm (h:Bool)(m n:Md)(a:T)(ts:List T):oSem .inX h [(m,a),(n,.tup ts)]=if ts.all isStr&&inXok a then some (.d,.bl (ts.any fun t=>eqT t a)) else none:=rfl
theorem t7 (h:Bool)(m n:Md)(a:T)(ts:List T):oSem .ninX h [(m,a),(n,.tup ts)]=if ts.all isStr&&inXok a then some (.d,.bl (!ts.any fun t=>eqT t a)) else none:=rfl
theorem vW (h:Bool)(m n:Md)(x y:Str):oSem .leS h [(m,.str x),(n,.str y)]=some (.d,.bl (!decide (y.cps.toList < x.cps.toList))):=rfl
theorem wx (m:Md)(x:Str):bF .chr [(m,.str x)]=some (x.cps.toList.map fun c=>[(.d,.str ⟨#[c]⟩)]):=rfl
theorem kC (h:Bool)(m n:Md)(a:T)(ts:List T):oSem .notin h [(m,a),(n,.lst ts)]=if flatT a&&ts.all flatT then some (.d,.bl (!ts.any fun t=>eqT t a)) else none:=rfl
theorem uv (h:Bool)(m:Md)(b:Bool):oSem .int h [(m,.bl b)]=some (.d,.int (b2i b)):=rfl
theorem t8 (h:Bool)(m:Md)(i:Int):oSem .int h [(m,.int i)]=some (.d,.int i):=rfl
theorem pC (h:Bool)(m n:Md)(i j:Int):oSem .fdivN h [(m,.int i),(n,.int j)]=if (j != 0)&&decide (j.natAbs < 18446744073709551616) then some (.d,.int (i.fdiv j)) else none:=rfl
theorem vi (h:Bool)(m n:Md)(i j:Int):oSem .modN h [(m,.int i),(n,.int j)]=if j != 0 then some (.d,.int (i.fmod j)) else none:=rfl
theorem vO (h:Bool)(m n:Md)(a b:Bool):oSem .isnB h [(m,.bl a),(n,.bl b)]=some (.d,.bl (!(a==b))):=rfl
theorem xm (h:Bool)(m:Md)(ts:List T):oSem .all h [(m,.lst ts)]=(aK ts).map fun bs=>(.d,.bl (bs.all id)):=rfl
theorem rZ (m:Md)(ts:List T):newL true m ts=if leaves ts then some (.d,.lst ts) else none:=rfl
theorem rR (m:Md)(ts:List T):newL false m ts=some (m.up,.lst ts):=rfl
theorem se (m:Md)(ts:List T):bF .seq [(m,.lst ts)]=some (ts.map fun t=>[(.s,t)]):=rfl
theorem uh (m:Md)(ts:List T):bF .seq [(m,.tup ts)]=some (ts.map fun t=>[(.s,t)]):=rfl
theorem mQ (m:Md)(n:Int):bF .rng [(m,.int n)]=if decide (n.natAbs < 4611686018427387904)&&a6 n.toNat then some ((a0Y n.toNat).map fun (k:Nat)=>[(.d,.int k)]) else none:=rfl
theorem lb (η:Env):aT [] [] η=some η:=rfl
theorem lZ (i:Nat)(is:List Nat)(w:W)(ws:List W)(η:Env):aT (i::is) (w::ws) η=aT is ws (put η i w):=rfl
theorem x9 {α β:Type}(f:α->β)(a:α):(some a).map f=some (f a):=rfl
theorem kO (b:Bool):truth (.bl b)=some b:=rfl
theorem m8 (i:Int):truth (.int i)=some (i != 0):=rfl
theorem qK {α β:Type}(a:α)(f:α->Option β):(some a).bind f=f a:=rfl
theorem nL:Md.s.kid=.s:=rfl
theorem qO:Md.d.kid=.d:=rfl
theorem qC (m:Md):(Md.o m).kid=m:=rfl
theorem tJ:Md.s.up=.o .s:=rfl
theorem vI:Md.d.up=.d:=rfl
theorem ui (m:Md):(Md.o m).up=.o (.o m):=rfl
theorem lG (m:Md):Md.s.meet m=.s:=by cases m<;>rfl
theorem cH (m:Md):Md.d.meet m=m:=by cases m<;>rfl
theorem j2 (m:Md):(Md.o m).meet .s=.s:=rfl
theorem j5 (m:Md):(Md.o m).meet .d=.o m:=rfl
theorem jX (m n:Md):(Md.o m).meet (.o n)=.o (m.meet n):=rfl
theorem sY (n:Md)(ts:List T)(t:T):tG (.d,.lst ts) (n,t)=if ts.length < LIM then some ((lf n t).up,.lst (ts++[t])) else none:=by show (if _ then some ((Md.d.meet _).up,_) else none)=_; rw [cH]
theorem t6 (m n:Md)(ts:List T)(t:T):tG (.o m,.lst ts) (n,t)=if ts.length < LIM then some ((m.meet (lf n t)).up,.lst (ts++[t])) else none:=rfl
theorem uM (n:Md)(ts us:List T):uP (.d,.lst ts) (n,.lst us)=if ts.length+us.length<=LIM then some (n.kid.up,.lst (ts++us)) else none:=by show (if _ then some ((Md.d.meet _).up,_) else none)=_; rw [cH]
theorem vJ (m n:Md)(ts us:List T):uP (.o m,.lst ts) (n,.lst us)=if ts.length+us.length<=LIM then some ((m.meet n.kid).up,.lst (ts++us)) else none:=rfl
theorem uN (l n:Md)(ts:List T)(t:T)(j:Int):fU (.d,.lst ts) (l,.int j) (n,t)=(ixN ts.length j).map fun k=>((lf n t).up,.lst (ts.set k t)):=by show ((ixN ts.length j).map fun k=>((Md.d.meet _).up,_))=_; rw [cH]
theorem ti (m l n:Md)(ts:List T)(t:T)(j:Int):fU (.o m,.lst ts) (l,.int j) (n,t)=(ixN ts.length j).map fun k=>((m.meet (lf n t)).up,.lst (ts.set k t)):=rfl
theorem u1 (m:Md)(ts:List T):eX (some (m,.lst ts))=.ok ():=rfl
theorem tQ (m:Md)(ts:List T):yo (m,.tup ts)=some (ts.map fun t=>(m.kid,t)):=rfl
theorem x8 (η η':Env):nxO η (some η')=.nx η':=rfl
theorem la (η:Env):backs [] η=some []:=rfl
theorem kQ (i:Nat)(is:List Nat)(η:Env):backs (i::is) η=(rd η i).bind fun w=>(backs is η).bind fun ws=>some (w::ws):=rfl
theorem rL (io:List Nat)(η:Env):Fl.out io (.nx η)=(ofO (backs io η)).bind (kq (.d,.non)):=rfl
theorem tI (io:List Nat)(w:W)(η:Env):Fl.out io (.rt w η)=(ofO (backs io η)).bind (kq w):=rfl
theorem x_run (C:Call)(f:Fn)(ws:List W)(h:ws.length=f.ps):runF C f ws=Fl.out f.io (evSs C f.body (ws.map some++a0g f.ns none)):=if_pos h
theorem at0 {α:Type}(a:α)(l:List α):atI (a::l) 0=some a:=by simp [atI,ixN]
theorem atN {α:Type}{xs:List α}{i:Int}{n:Nat}{a:α}(hi:i=n)(h:xs[n]?=some a):atI xs i=some a:=by
 subst hi
 have:=(a0p.mp h).1
 rw [atI,ixN,if_pos (by omega),if_pos (by omega)]
 exact h
theorem at1 {α:Type}(a b:α)(l:List α):atI (a::b::l) 1=some b:=atN (n:=1) rfl rfl
theorem at2 {α:Type}(a b c:α)(l:List α):atI (a::b::c::l) 2=some c:=atN (n:=2) rfl rfl
theorem at3 {α:Type}(a b c d:α)(l:List α):atI (a::b::c::d::l) 3=some d:=atN (n:=3) rfl rfl
theorem at4 {α:Type}(a b c d e:α)(l:List α):atI (a::b::c::d::e::l) 4=some e:=atN (n:=4) rfl rfl
theorem a4 {α:Type}{tg:List Nat}{f:Env->Res (Option W×Env)}{η:Env}{g:α->List W}(w:α->W):∀ (ts:List α) (acc:List W),(∀ x∈ts,∃ η1 η2,aT tg (g x) η=some η1/\f η1=.ok (some (w x),η2)/\aj tg η2=η) ->
  aG tg f (ts.map g) η acc=.ok (acc++ts.map w,η)
 | [],acc,_=>by rw [a05,a05,a0L]; rfl
 | x::ts,acc,h=>by
  obtain ⟨η1,η2,h1,h2,h3⟩:=h x a0o
  rw [a0x,a0x]
  show (ofO (aT tg (g x) η)).bind _=_
  rw [h1]
  show (f η1).bind _=_
  rw [h2]
  show aG tg f (ts.map g) (aj tg η2) (acc++[w x])=_
  rw [h3,a4 w ts _ fun y hy=>h y (a0n _ hy),a0R]
  rfl
end M

namespace MR
open L2 L3 M
open PySem (Addr Str sizeLine)
noncomputable abbrev Fp:=Addr->Prop
noncomputable def ScrR (K:a0a)(H:Hp)(a:Addr)(ns:List Int):Prop:=(∃ o,H a=some (.frz o (.lst (ns.map V.int))))\/SqL K (fun _=>none) a (ns.map V.int)
theorem ScrR.sq {K:a0a}{H:Hp}{a:Addr}{ns:List Int}(h:ScrR K H a ns):SqL K H a (ns.map V.int):=by
 rcases h with ⟨o,h⟩ | ((h | ⟨o,h⟩) | h)
 ·exact .inl (.inr ⟨o,h⟩)
 ·cases h
 ·cases h
 ·exact .inr h
theorem ScrR.keep {K:a0a}{H H':Hp}{a:Addr}{ns:List Int}(s:∀ a o u,H a=some (.frz o u)->H' a=some (.frz o u))(h:ScrR K H a ns):ScrR K H' a ns:=h.imp (fun ⟨o,e⟩=>⟨o,s a o _ e⟩) id
noncomputable def LstR (K:a0a)(Z:Fp)(H:Hp)(G:Fp)(a:Addr)(xs:List V):Md->Prop
 | .s=>Z a/\H a=some (.lst xs)
 | _=>G a/\H a=some (.lst xs)
mutual
noncomputable def Rep (K:a0a)(Z:Fp)(H:Hp):Md->T->V->Fp->Prop
 | _,.non,v,_=>v=.non
 | _,.bl b,v,_=>v=.bl b
 | _,.int i,v,_=>v=.int i
 | _,.str x,v,_=>v=.str x/\sOk x=true
 | m,.tup ts,v,G=>∃ a xs,v=.ref a/\SqT K H a xs/\xs.length<=LIM/\RepL K Z H m.kid ts xs G
 | m,.lst ts,v,G=>∃ a xs,v=.ref a/\xs.length<=LIM/\LstR K Z H G a xs m/\RepL K Z H m.kid ts xs (fun b=>G b/\b≠a)
 | _,.dct _ _,_,_=>False
 | _,.ins _ _ _,_,_=>False
 | _,.gone,_,_=>True
 | _,.scr ns,v,_=>∃ a,v=.ref a/\ns.length<=LIM/\ScrR K H a ns
noncomputable def RepL (K:a0a)(Z:Fp)(H:Hp):Md->List T->List V->Fp->Prop
 | _,[],xs,_=>xs=[]
 | m,t::ts,xs,G=>∃ x r G1 G2,xs=x::r/\(∀ a,G1 a->G a)/\(∀ a,G2 a->G a)/\(∀ a,G1 a->¬ G2 a)/\Rep K Z H m t x G1/\RepL K Z H m ts r G2
end
section
variable {K:a0a}{Z Z':Fp}{H H':Hp}{m:Md}{t:T}{ts:List T}{v:V}{xs:List V}{G G':Fp}
theorem LstR.mono {a:Addr}(w:∀ a,G a->G' a)(h:LstR K Z H G a xs m):LstR K Z H G' a xs m:=by
 cases m with
 | s=>exact h
 | d=>exact ⟨w _ h.1,h.2⟩
 | o m=>exact ⟨w _ h.1,h.2⟩
mutual
theorem Rep.mono:∀ {m:Md} {t:T} {v:V} {G G':Fp},(∀ a,G a->G' a)->Rep K Z H m t v G->Rep K Z H m t v G'
 | _,.non,_,_,_,_,h=>h
 | _,.bl _,_,_,_,_,h=>h
 | _,.int _,_,_,_,_,h=>h
 | _,.str _,_,_,_,_,h=>h
 | m,.tup ts,v,G,G',w,⟨a,xs,e,q,l,r⟩=>⟨a,xs,e,q,l,RepL.mono w r⟩
 | m,.lst ts,v,G,G',w,⟨a,xs,e,l,q,r⟩=>⟨a,xs,e,l,q.mono w,RepL.mono (fun b hb=>⟨w b hb.1,hb.2⟩) r⟩
 | _,.dct _ _,_,_,_,_,h=>h.elim
 | _,.ins _ _ _,_,_,_,_,h=>h.elim
 | _,.gone,_,_,_,_,h=>h
 | _,.scr _,_,_,_,_,h=>h
theorem RepL.mono:∀ {m:Md} {ts:List T} {xs:List V} {G G':Fp},(∀ a,G a->G' a)->RepL K Z H m ts xs G->RepL K Z H m ts xs G'
 | _,[],_,_,_,_,h=>h
 | m,t::ts,xs,G,G',w,⟨x,r,G1,G2,e,h1,h2,hd,p,q⟩=>⟨x,r,G1,G2,e,fun a ha=>w a (h1 a ha),fun a ha=>w a (h2 a ha),hd,p,q⟩
end
noncomputable def Stay (Z:Fp)(H H':Hp):Prop:=(∀ a o,Z a->H a=some o->H' a=some o)/\(∀ a xs,Rd H a (.tup xs)->Rd H' a (.tup xs))/\∀ a o u,H a=some (.frz o u)->H' a=some (.frz o u)
theorem Stay.sqt (s:Stay Z H H'){a:Addr}(h:SqT K H a xs):SqT K H' a xs:=by
 rcases h with h | h
 ·exact .inl (s.2.1 a xs h)
 ·exact .inr h
theorem LstR.keep {a:Addr}(s:Stay Z H H')(z:∀ a,Z a->Z' a)(g:∀ a o,G a->H a=some o->H' a=some o)(h:LstR K Z H G a xs m):LstR K Z' H' G a xs m:=by
 cases m with
 | s=>exact ⟨z _ h.1,s.1 _ _ h.1 h.2⟩
 | d=>exact ⟨h.1,g _ _ h.1 h.2⟩
 | o m=>exact ⟨h.1,g _ _ h.1 h.2⟩
mutual
theorem Rep.keep (s:Stay Z H H')(z:∀ a,Z a->Z' a):∀ {m:Md} {t:T} {v:V} {G:Fp},(∀ a o,G a->H a=some o->H' a=some o)->Rep K Z H m t v G->Rep K Z' H' m t v G
 | _,.non,_,_,_,h=>h
 | _,.bl _,_,_,_,h=>h
 | _,.int _,_,_,_,h=>h
 | _,.str _,_,_,_,h=>h
 | m,.tup ts,v,G,g,⟨a,xs,e,q,l,r⟩=>⟨a,xs,e,s.sqt q,l,RepL.keep s z g r⟩
 | m,.lst ts,v,G,g,⟨a,xs,e,l,q,r⟩=>⟨a,xs,e,l,q.keep s z g,RepL.keep s z (fun b o hb=>g b o hb.1) r⟩
 | _,.dct _ _,_,_,_,h=>h.elim
 | _,.ins _ _ _,_,_,_,h=>h.elim
 | _,.gone,_,_,_,h=>h
 | _,.scr _,_,_,_,⟨a,e,l,q⟩=>⟨a,e,l,q.keep s.2.2⟩
theorem RepL.keep (s:Stay Z H H')(z:∀ a,Z a->Z' a):∀ {m:Md} {ts:List T} {xs:List V} {G:Fp},(∀ a o,G a->H a=some o->H' a=some o)->RepL K Z H m ts xs G->RepL K Z' H' m ts xs G
 | _,[],_,_,_,h=>h
 | m,t::ts,xs,G,g,⟨x,r,G1,G2,e,h1,h2,hd,p,q⟩=>⟨x,r,G1,G2,e,h1,h2,hd,Rep.keep s z (fun a o ha=>g a o (h1 a ha)) p,RepL.keep s z (fun a o ha=>g a o (h2 a ha)) q⟩
end
theorem eP (Z:Fp)(H:Hp):Stay Z H H:=⟨fun _ _ _ h=>h,fun _ _ h=>h,fun _ _ _ h=>h⟩
theorem Rep.zmono (z:∀ a,Z a->Z' a)(h:Rep K Z H m t v G):Rep K Z' H m t v G:=h.keep (eP Z H) z fun _ _ _ q=>q
theorem RepL.zmono (z:∀ a,Z a->Z' a)(h:RepL K Z H m ts xs G):RepL K Z' H m ts xs G:=h.keep (eP Z H) z fun _ _ _ q=>q
theorem RepL.length:∀ {ts:List T} {xs:List V} {G:Fp},RepL K Z H m ts xs G->xs.length=ts.length
 | [],_,_,h=>by rw [show _=[] from h]; rfl
 | _::_,_,_,⟨x,r,G1,G2,e,_,_,_,_,q⟩=>by rw [e,a0b,a0b,RepL.length q]
theorem RepL.get:∀ {ts:List T} {xs:List V} {G:Fp} {i:Nat} {t:T},RepL K Z H m ts xs G->ts[i]?=some t->∃ x,xs[i]?=some x/\Rep K Z H m t x G
 | [],_,_,_,_,_,e=>by simp at e
 | _::_,_,_,0,_,⟨x,r,G1,G2,e,h1,_,_,p,_⟩,e2=>by
  rw [a1o] at e2; cases e2
  exact ⟨x,by rw [e]; rfl,p.mono h1⟩
 | _::_,_,_,i+1,_,⟨x,r,G1,G2,e,_,h2,_,_,q⟩,e2=>by
  rw [a0v] at e2
  obtain ⟨y,hy,p⟩:=RepL.get q e2
  exact ⟨y,by rw [e,a0v]; exact hy,p.mono h2⟩
theorem RepL.append:∀ {ts us:List T} {xs ys:List V} {G1 G2 G:Fp},(∀ a,G1 a->G a)->(∀ a,G2 a->G a)->(∀ a,G1 a->¬ G2 a)->RepL K Z H m ts xs G1->RepL K Z H m us ys G2->RepL K Z H m (ts++us) (xs++ys) G
 | [],us,xs,ys,G1,G2,G,w1,w2,d,h,k=>by rw [show xs=[] from h]; exact k.mono w2
 | t::ts,us,xs,ys,G1,G2,G,w1,w2,d,⟨x,r,A,B,e,h1,h2,hd,p,q⟩,k=>by
  rw [e]
  refine ⟨x,r++ys,A,fun a=>B a\/G2 a,rfl,fun a ha=>w1 a (h1 a ha),fun a ha=>ha.elim (fun z=>w1 a (h2 a z)) (w2 a),fun a ha hb=>hb.elim (hd a ha) (d a (h1 a ha)),p,?_⟩
  exact RepL.append (fun a z=>.inl z) (fun a z=>.inr z) (fun a ha=>d a (h2 a ha)) q k
theorem RepL.take:∀ {ts:List T} {xs:List V} {G:Fp} (n:Nat),RepL K Z H m ts xs G->RepL K Z H m (ts.take n) (xs.take n) G
 | [],_,_,n,h=>by rw [show _=[] from h,a2z,a2z]; rfl
 | _::_,_,_,0,h=>rfl
 | _::_,_,_,n+1,⟨x,r,A,B,e,h1,h2,hd,p,q⟩=>by rw [e]; exact ⟨x,r.take n,A,B,rfl,h1,h2,hd,p,RepL.take n q⟩
theorem RepL.drop:∀ {ts:List T} {xs:List V} {G:Fp} (n:Nat),RepL K Z H m ts xs G->RepL K Z H m (ts.drop n) (xs.drop n) G
 | [],_,_,n,h=>by rw [show _=[] from h,a2A,a2A]; rfl
 | _::_,_,_,0,h=>h
 | _::_,_,_,n+1,⟨x,r,A,B,e,h1,h2,hd,p,q⟩=>by rw [e]; exact (RepL.drop n q).mono h2
theorem Rep.leaf {m':Md}(hs:∀ a o u,H a=some (.frz o u)->H' a=some (.frz o u))(hl:t.leaf=true)(h:Rep K Z H m t v G):Rep K Z' H' m' t v G':=by
 cases t with
 | non=>exact h
 | bl _=>exact h
 | int _=>exact h
 | str _=>exact h
 | scr _=>obtain ⟨a,e,l,q⟩:=h; exact ⟨a,e,l,q.keep hs⟩
 | _=>cases hl
theorem RepL.leaves {m':Md}(hs:∀ a o u,H a=some (.frz o u)->H' a=some (.frz o u)):∀ {ts:List T} {xs:List V} {G G':Fp},leaves ts=true->RepL K Z H m ts xs G->RepL K Z' H' m' ts xs G'
 | [],_,_,_,_,h=>h
 | t::ts,_,_,G',hl,⟨x,r,A,B,e,h1,h2,hd,p,q⟩=>by
  have h':(t.leaf&&ts.all T.leaf)=true:=hl
  rw [a0c] at h'
  exact ⟨x,r,fun _=>False,fun _=>False,e,fun _ z=>z.elim,fun _ z=>z.elim,fun _ z=>z.elim,p.leaf hs h'.1,RepL.leaves hs h'.2 q⟩
noncomputable def no:Fp:=fun _=>False
mutual
theorem Rep.sh:∀ {m:Md} {t:T} {v:V} {G:Fp},Rep K Z H m t v G->Rep K (fun a=>Z a\/G a) H .s t v no
 | _,.non,_,_,h=>h
 | _,.bl _,_,_,h=>h
 | _,.int _,_,_,h=>h
 | _,.str _,_,_,h=>h
 | m,.tup ts,v,G,⟨a,xs,e,q,l,r⟩=>⟨a,xs,e,q,l,RepL.sh r⟩
 | m,.lst ts,v,G,⟨a,xs,e,l,q,r⟩=>⟨a,xs,e,l,by
   cases m with
   | s=>exact ⟨.inl q.1,q.2⟩
   | d=>exact ⟨.inr q.1,q.2⟩
   | o m=>exact ⟨.inr q.1,q.2⟩,(RepL.zmono (fun b hb=>hb.elim .inl fun z=>.inr z.1) (RepL.sh r)).mono fun _ z=>z.elim⟩
 | _,.dct _ _,_,_,h=>h.elim
 | _,.ins _ _ _,_,_,h=>h.elim
 | _,.gone,_,_,h=>h
 | _,.scr _,_,_,h=>h
theorem RepL.sh:∀ {m:Md} {ts:List T} {xs:List V} {G:Fp},RepL K Z H m ts xs G->RepL K (fun a=>Z a\/G a) H .s ts xs no
 | _,[],_,_,h=>h
 | m,t::ts,xs,G,⟨x,r,G1,G2,e,h1,h2,hd,p,q⟩=>⟨x,r,no,no,e,fun _ z=>z,fun _ z=>z,fun _ z _=>z,Rep.zmono (fun b hb=>hb.imp id (h1 b)) (Rep.sh p),RepL.zmono (fun b hb=>hb.imp id (h2 b)) (RepL.sh q)⟩
end
theorem y3:∀ a:Md,a.le .d=true
 | .s=>rfl | .d=>rfl | .o _=>rfl
theorem fA:∀ a:Md,a.le a=true
 | .s=>rfl | .d=>rfl | .o a=>fA a
theorem gc:∀ {a b c:Md},a.le b=true->b.le c=true->a.le c=true
 | .s,_,.s,_,_=>rfl
 | .s,_,.d,_,_=>rfl
 | .s,_,.o _,_,_=>rfl
 | .o a,.o b,.o c,h,k=>gc (a:=a) (b:=b) (c:=c) h k
 | .o a,.o b,.d,h,k=>rfl
 | .o a,.d,.d,h,k=>rfl
 | .d,.d,.d,_,_=>rfl
 | .d,.s,_,h,_=>by cases h
 | .d,.o _,_,h,_=>by cases h
 | .o _,.s,_,h,_=>by cases h
 | .o _,.o _,.s,_,k=>by cases k
 | .o _,.d,.s,_,k=>by cases k
 | .o _,.d,.o _,_,k=>by cases k
 | .d,.d,.s,_,k=>by cases k
 | .d,.d,.o _,_,k=>by cases k
theorem cq:∀ a b:Md,(a.meet b).le a=true/\(a.meet b).le b=true
 | .s,.s=>⟨rfl,rfl⟩
 | .s,.d=>⟨rfl,rfl⟩
 | .s,.o _=>⟨rfl,rfl⟩
 | .d,.s=>⟨rfl,rfl⟩
 | .d,.d=>⟨rfl,rfl⟩
 | .d,.o b=>⟨rfl,fA b⟩
 | .o _,.s=>⟨rfl,rfl⟩
 | .o a,.d=>⟨fA a,rfl⟩
 | .o a,.o b=>cq a b
theorem mT:∀ {a b:Md},a.le b=true->a.kid.le b.kid=true
 | .s,.s,_=>rfl
 | .s,.d,_=>rfl
 | .s,.o _,_=>by first | rfl | exact (by cases ‹Md›<;>rfl)
 | .o a,.o b,h=>h
 | .o a,.d,_=>y3 a
 | .d,.d,_=>rfl
 | .d,.s,h=>by cases h
 | .d,.o _,h=>by cases h
 | .o _,.s,h=>by cases h
theorem gY:∀ a:Md,a.up.kid=a
 | .s=>rfl | .d=>rfl | .o _=>rfl
theorem eI (a:Md):a.up≠.s:=by cases a<;>intro h<;>cases h
theorem LstR.own {a:Addr}(hm:m≠.s):LstR K Z H G a xs m ↔ G a/\H a=some (.lst xs):=by
 cases m with
 | s=>exact absurd rfl hm
 | d=>exact Iff.rfl
 | o m=>exact Iff.rfl
noncomputable abbrev bN (Z G G':Fp):Fp:=fun a=>Z a\/(G a/\¬ G' a)
mutual
theorem Rep.weak:∀ {m m':Md} {t:T} {v:V} {G:Fp},m'.le m=true->Rep K Z H m t v G->∃ G',(∀ a,G' a->G a)/\Rep K (bN Z G G') H m' t v G'
 | m,m',.non,_,G,_,h=>⟨G,fun _ z=>z,h⟩
 | m,m',.bl _,_,G,_,h=>⟨G,fun _ z=>z,h⟩
 | m,m',.int _,_,G,_,h=>⟨G,fun _ z=>z,h⟩
 | m,m',.str _,_,G,_,h=>⟨G,fun _ z=>z,h⟩
 | m,m',.scr _,_,G,_,h=>⟨G,fun _ z=>z,h⟩
 | m,m',.tup ts,v,G,hm,⟨a,xs,e,q,l,r⟩=>by
  obtain ⟨G',h1,h2⟩:=RepL.weak (mT hm) r
  exact ⟨G',h1,a,xs,e,q,l,h2⟩
 | m,m',.lst ts,v,G,hm,h=>by
  cases m' with
  | s=>exact ⟨no,fun _ z=>z.elim,(Rep.sh h).zmono fun a ha=>ha.imp id fun z=>⟨z,fun q=>q⟩⟩
  | d =>
   cases m with
   | s=>cases hm
   | o _=>cases hm
   | d=>exact ⟨G,fun _ z=>z,h.zmono fun _ z=>.inl z⟩
  | o k =>
   have hne:m≠.s:=by rintro rfl; cases hm
   obtain ⟨a,xs,e,l,q,r⟩:=h
   rw [LstR.own hne] at q
   obtain ⟨G',h1,h2⟩:=RepL.weak (mT hm) r
   refine ⟨fun b=>G' b\/b=a,fun b hb=>hb.elim (fun z=>(h1 b z).1) (fun z=>z ▸ q.1),a,xs,e,l,⟨.inr rfl,q.2⟩,?_⟩
   refine (h2.zmono fun b hb=>?_).mono fun b hb=>⟨.inl hb,(h1 b hb).2⟩
   rcases hb with z | ⟨⟨z1,z2⟩,z3⟩
   ·exact .inl z
   ·exact .inr ⟨z1,fun q=>q.elim z3 z2⟩
 | _,_,.dct _ _,_,_,_,h=>h.elim
 | _,_,.ins _ _ _,_,_,_,h=>h.elim
 | m,m',.gone,_,G,_,h=>⟨G,fun _ z=>z,h⟩
theorem RepL.weak:∀ {m m':Md} {ts:List T} {xs:List V} {G:Fp},m'.le m=true->RepL K Z H m ts xs G->∃ G',(∀ a,G' a->G a)/\RepL K (bN Z G G') H m' ts xs G'
 | m,m',[],_,G,_,h=>⟨G,fun _ z=>z,h⟩
 | m,m',t::ts,xs,G,hm,⟨x,r,G1,G2,e,h1,h2,hd,p,q⟩=>by
  obtain ⟨A,a1,a2⟩:=Rep.weak hm p
  obtain ⟨B,b1,b2⟩:=RepL.weak hm q
  refine ⟨fun b=>A b\/B b,fun b hb=>hb.elim (fun z=>h1 b (a1 b z)) (fun z=>h2 b (b1 b z)),x,r,A,B,e,fun _ z=>.inl z,fun _ z=>.inr z,fun b za zb=>hd b (a1 b za) (b1 b zb),?_,?_⟩
  ·refine a2.zmono fun b hb=>hb.imp id fun z=>⟨h1 b z.1,fun q=>q.elim z.2 fun w=>hd b z.1 (b1 b w)⟩
  ·refine b2.zmono fun b hb=>hb.imp id fun z=>⟨h2 b z.1,fun q=>q.elim (fun w=>hd b (a1 b w) z.1) z.2⟩
end
noncomputable def RepW (K:a0a)(Z:Fp)(H:Hp):List W->List V->Fp->Prop
 | [],xs,_=>xs=[]
 | w::ws,xs,G=>∃ x r G1 G2,xs=x::r/\(∀ a,G1 a->G a)/\(∀ a,G2 a->G a)/\(∀ a,G1 a->¬ G2 a)/\Rep K Z H w.1 w.2 x G1/\RepW K Z H ws r G2
theorem RepW.length:∀ {ws:List W} {xs:List V} {G:Fp},RepW K Z H ws xs G->xs.length=ws.length
 | [],_,_,h=>by rw [show _=[] from h]; rfl
 | _::_,_,_,⟨x,r,G1,G2,e,_,_,_,_,q⟩=>by rw [e,a0b,a0b,RepW.length q]
theorem RepW.mono:∀ {ws:List W} {xs:List V} {G G':Fp},(∀ a,G a->G' a)->RepW K Z H ws xs G->RepW K Z H ws xs G'
 | [],_,_,_,_,h=>h
 | _::_,_,_,_,w,⟨x,r,G1,G2,e,h1,h2,hd,p,q⟩=>⟨x,r,G1,G2,e,fun a ha=>w a (h1 a ha),fun a ha=>w a (h2 a ha),hd,p,q⟩
theorem RepW.keep (s:Stay Z H H')(z:∀ a,Z a->Z' a):∀ {ws:List W} {xs:List V} {G:Fp},(∀ a o,G a->H a=some o->H' a=some o)->RepW K Z H ws xs G->RepW K Z' H' ws xs G
 | [],_,_,_,h=>h
 | _::_,_,_,g,⟨x,r,G1,G2,e,h1,h2,hd,p,q⟩=>⟨x,r,G1,G2,e,h1,h2,hd,p.keep s z fun a o ha=>g a o (h1 a ha),RepW.keep s z (fun a o ha=>g a o (h2 a ha)) q⟩
theorem RepW.append:∀ {ws us:List W} {xs ys:List V} {G1 G2 G:Fp},(∀ a,G1 a->G a)->(∀ a,G2 a->G a)->(∀ a,G1 a->¬ G2 a)->RepW K Z H ws xs G1->RepW K Z H us ys G2->RepW K Z H (ws++us) (xs++ys) G
 | [],us,xs,ys,G1,G2,G,w1,w2,d,h,k=>by rw [show xs=[] from h]; exact k.mono w2
 | t::ts,us,xs,ys,G1,G2,G,w1,w2,d,⟨x,r,A,B,e,h1,h2,hd,p,q⟩,k=>by
  rw [e]
  refine ⟨x,r++ys,A,fun a=>B a\/G2 a,rfl,fun a ha=>w1 a (h1 a ha),fun a ha=>ha.elim (fun z=>w1 a (h2 a z)) (w2 a),fun a ha hb=>hb.elim (hd a ha) (d a (h1 a ha)),p,?_⟩
  exact RepW.append (fun a z=>.inl z) (fun a z=>.inr z) (fun a ha=>d a (h2 a ha)) q k
theorem RepW.one {w:W}{x:V}(p:Rep K Z H w.1 w.2 x G):RepW K Z H [w] [x] G:=⟨x,[],G,no,rfl,fun _ h=>h,fun _ h=>h.elim,fun _ _ h=>h,p,rfl⟩
theorem d9:∀ {ws:List W} {w:W},w∈ws->(dH ws).le (lf w.1 w.2)=true
 | u::ws,w,h=>by
  rcases a0E.mp h with z | z
  ·subst z; exact (cq _ _).1
  ·exact gc (cq _ _).2 (d9 z)
theorem Rep.lf (h:Rep K Z H m t v G):Rep K Z H (M.lf m t) t v G:=by
 unfold M.lf
 split
 ·rename_i hl; exact h.leaf (fun _ _ _ q=>q) hl
 ·exact h
theorem RepW.to {N:Md}:∀ {ws:List W} {xs:List V} {G:Fp},(∀ w∈ws,N.le (M.lf w.1 w.2)=true)->RepW K Z H ws xs G->∃ G',(∀ a,G' a->G a)/\RepL K (bN Z G G') H N (aX ws) xs G'
 | [],_,G,_,h=>⟨G,fun _ z=>z,h⟩
 | w::ws,xs,G,hm,⟨x,r,G1,G2,e,h1,h2,hd,p,q⟩=>by
  obtain ⟨A,a1,a2⟩:=Rep.weak (hm w a0o) p.lf
  obtain ⟨B,b1,b2⟩:=RepW.to (fun u hu=>hm u (a0n _ hu)) q
  refine ⟨fun b=>A b\/B b,fun b hb=>hb.elim (fun z=>h1 b (a1 b z)) (fun z=>h2 b (b1 b z)),x,r,A,B,e,fun _ z=>.inl z,fun _ z=>.inr z,fun b za zb=>hd b (a1 b za) (b1 b zb),?_,?_⟩
  ·refine a2.zmono fun b hb=>hb.imp id fun z=>⟨h1 b z.1,fun q=>q.elim z.2 fun w=>hd b z.1 (b1 b w)⟩
  ·refine b2.zmono fun b hb=>hb.imp id fun z=>⟨h2 b z.1,fun q=>q.elim (fun w=>hd b (a1 b w) z.1) z.2⟩
end
noncomputable def Own (Z:Fp)(H:Hp)(F:Fp):Prop:=∀ a,F a->¬ Z a/\∃ xs,H a=some (.lst xs)
structure Step (Z:Fp)(H:Hp)(F:Fp)(Z':Fp)(H':Hp)(F':Fp):Prop where
 keep:∀ a o,H a=some o->¬ F a->H' a=some o
 zm:∀ a,Z a->Z' a
 zn:∀ a,Z' a->Z a\/F a\/H a=none
 fn:∀ a,F' a->F a\/H a=none
 al:∀ a,H a≠none->H' a≠none
 za:(∀ a,Z a->H a≠none)->∀ a,Z' a->H' a≠none
section
variable {K:a0a}{Z Z1 Z2 Z':Fp}{H H1 H2 H':Hp}{F F1 F2 F' R G:Fp}
theorem Step.refl (Z:Fp)(H:Hp)(F:Fp):Step Z H F Z H F:=⟨fun _ _ h _=>h,fun _ h=>h,fun _ h=>.inl h,fun _ h=>.inl h,fun _ h=>h,fun z=>z⟩
theorem Step.trans (s:Step Z H F Z1 H1 F1)(t:Step Z1 H1 F1 Z2 H2 F2):Step Z H F Z2 H2 F2 where
 keep:=fun a o h n=>t.keep a o (s.keep a o h n) fun q=>(s.fn a q).elim n fun z=>by rw [h] at z; cases z
 zm:=fun a h=>t.zm a (s.zm a h)
 zn:=fun a h=>by
  rcases t.zn a h with q | q | q
  ·exact s.zn a q
  ·exact .inr (s.fn a q)
  ·exact .inr (.inr (by
    cases e:H a with
    | none=>rfl
    | some o=>exact absurd q (s.al a (by rw [e]; simp))))
 fn:=fun a h=>by
  rcases t.fn a h with q | q
  ·exact s.fn a q
  ·exact .inr (by
    cases e:H a with
    | none=>rfl
    | some o=>exact absurd q (s.al a (by rw [e]; simp)))
 al:=fun a h=>t.al a (s.al a h)
 za:=fun z=>t.za (s.za z)
theorem Step.frame (R:Fp)(s:Step Z H F Z' H' F'):Step Z H (fun a=>F a\/R a) Z' H' (fun a=>F' a\/R a) where
 keep:=fun a o h n=>s.keep a o h fun q=>n (.inl q)
 zm:=s.zm
 zn:=fun a h=>(s.zn a h).imp id fun q=>q.imp .inl id
 fn:=fun a h=>h.elim (fun q=>(s.fn a q).imp .inl id) fun q=>.inl (.inr q)
 al:=s.al
 za:=s.za
theorem Step.mono (s:Step Z H F Z' H' F')(h1:∀ a,F a->F1 a)(h2:∀ a,F2 a->F' a):Step Z H F1 Z' H' F2 where
 keep:=fun a o h n=>s.keep a o h fun q=>n (h1 a q)
 zm:=s.zm
 zn:=fun a h=>(s.zn a h).imp id fun q=>q.imp (h1 a) id
 fn:=fun a h=>(s.fn a (h2 a h)).imp (h1 a) id
 al:=s.al
 za:=s.za
theorem Own.stay (o:Own Z H F)(s:Step Z H F Z' H' F'):Stay Z H H':=by
 refine ⟨fun a u hz h=>s.keep a u h fun q=>(o a q).1 hz,fun a xs h=>?_,fun a u v h=>s.keep a _ h fun q=>?_⟩
 ·rcases h with h | ⟨u,h⟩
  ·refine .inl (s.keep a _ h fun q=>?_)
   obtain ⟨_,ys,e⟩:=o a q
   rw [h] at e; cases e
  ·refine .inr ⟨u,s.keep a _ h fun q=>?_⟩
   obtain ⟨_,ys,e⟩:=o a q
   rw [h] at e; cases e
 ·obtain ⟨_,ys,e⟩:=o a q
  rw [h] at e; cases e
theorem Rep.frame {m:Md}{t:T}{v:V}(o:Own Z H F)(s:Step Z H F Z' H' F')(d:∀ a,G a->¬ F a)(h:Rep K Z H m t v G):Rep K Z' H' m t v G:=h.keep (o.stay s) s.zm fun a u ha e=>s.keep a u e (d a ha)
theorem RepW.frame {ws:List W}{xs:List V}(o:Own Z H F)(s:Step Z H F Z' H' F')(d:∀ a,G a->¬ F a)(h:RepW K Z H ws xs G):RepW K Z' H' ws xs G:=h.keep (o.stay s) s.zm fun a u ha e=>s.keep a u e (d a ha)
theorem Own.frame (o:Own Z H G)(s:Step Z H F Z' H' F')(d:∀ a,G a->¬ F a):Own Z' H' G/\∀ a,G a->¬ F' a:=by
 refine ⟨fun a ha=>?_,fun a ha q=>?_⟩
 ·obtain ⟨nz,xs,e⟩:=o a ha
  refine ⟨fun q=>?_,xs,s.keep a _ e (d a ha)⟩
  rcases s.zn a q with z | z | z
  ·exact nz z
  ·exact d a ha z
  ·rw [e] at z; cases z
 ·obtain ⟨nz,xs,e⟩:=o a ha
  rcases s.fn a q with z | z
  ·exact d a ha z
  ·rw [e] at z; cases z
end
noncomputable abbrev Fps:=Nat->Fp
noncomputable def tot (Fs:Fps):Fp:=fun a=>∃ i,Fs i a
structure Gd (Z:Fp)(H:Hp)(Fs:Fps):Prop where
 own:Own Z H (tot Fs)
 dis:∀ i j a,Fs i a->Fs j a->i=j
 zal:∀ a,Z a->H a≠none
structure Cf where
 sl:Nat->Option Nat
 pv:Nat->Option V
noncomputable def yX (K:a0a)(sl:Cf)(Z:Fp)(H:Hp)(η:Env)(σ:L2.St)(Fs:Fps):Prop :=
 ∀ i m t,rd η i=some (m,t)->∃ v,Rep K Z H m t v (Fs i)/\(∀ j,sl.sl i=some j->σ[j]?=some (some v))/\∀ u,sl.pv i=some u->v=u
structure At (K:a0a)(sl:Cf)(σ:L2.St)(Z:Fp)(H:Hp)(Fs:Fps)(η:Env)(G:Fp):Prop where
 gd:Gd Z H Fs
 env:yX K sl Z H η σ Fs
 own:Own Z H G
 dis:∀ a,G a->¬ tot Fs a
 lk:∀ i u j,sl.pv i=some u->sl.sl i=some j->σ[j]?=some (some u)
 ln:∀ i j,sl.sl i=some j->j < σ.length
section
variable {K:a0a}{sl:Cf}{σ:L2.St}{Z Z':Fp}{H H':Hp}{Fs Fs':Fps}{η η':Env}{G G' R:Fp}
theorem At.frame (a:At K sl σ Z H Fs η R)(b:At K sl σ Z' H' Fs' η' G)(s:Step Z H (tot Fs) Z' H' (fun c=>tot Fs' c\/G c)) :
  At K sl σ Z' H' Fs' η' (fun c=>R c\/G c)/\Step Z H (fun c=>tot Fs c\/R c) Z' H' (fun c=>tot Fs' c\/(R c\/G c))/\∀ c,R c->¬ G c:=by
 have o:=a.own.frame s a.dis
 refine ⟨⟨b.gd,b.env,fun c hc=>hc.elim (o.1 c) (b.own c),fun c hc=>hc.elim (fun z q=>o.2 c z (.inl q)) (b.dis c),b.lk,b.ln⟩,(s.frame R).mono (fun _ z=>z) fun c hc=>?_,fun c z q=>o.2 c z (.inr q)⟩
 rcases hc with z | z | z
 ·exact .inl (.inl z)
 ·exact .inr z
 ·exact .inl (.inr z)
end
end MR
namespace MR
open L2 L3 M
open PySem (Addr Str sizeLine)
section
variable {K:a0a}{sl:Cf}{sf:Nat->Option Nat}{C:Call}{σ:L2.St}{Z Z' Z1:Fp}{H H' H1:Hp}{Fs Fs' Fs1:Fps}{η η' η1:Env}{G G' R F:Fp}
theorem At.mono (a:At K sl σ Z H Fs η G)(h:∀ c,G' c->G c):At K sl σ Z H Fs η G':=⟨a.gd,a.env,fun c hc=>a.own c (h c hc),fun c hc=>a.dis c (h c hc),a.lk,a.ln⟩
theorem At.bare (a:At K sl σ Z H Fs η G):At K sl σ Z H Fs η no:=a.mono fun _ z=>z.elim
noncomputable def wE (K:a0a)(sl:Nat->Option Nat)(C:Call)(e:E):TE:=fun σ H Q=>∃ pv Z Fs η w η',At K ⟨sl,pv⟩ σ Z H Fs η no/\evE C e η=.ok (w,η') /\
 ∀ v Z' H' Fs' G,At K ⟨sl,pv⟩ σ Z' H' Fs' η' G->Rep K Z' H' w.1 w.2 v G->Step Z H (tot Fs) Z' H' (fun a=>tot Fs' a\/G a)->Q v H'
noncomputable def wL (K:a0a)(sl:Nat->Option Nat)(C:Call)(es:List E):TA:=fun σ H Q=>∃ pv Z Fs η ws η',At K ⟨sl,pv⟩ σ Z H Fs η no/\evL C es η=.ok (ws,η') /\
 ∀ vs Z' H' Fs' G,At K ⟨sl,pv⟩ σ Z' H' Fs' η' G->RepW K Z' H' ws vs G->Step Z H (tot Fs) Z' H' (fun a=>tot Fs' a\/G a)->Q vs H'
theorem c9 {e:E}{w:W}{Q:VK}(A:At K sl σ Z H Fs η R)(ev:evE C e η=.ok (w,η'))
  (k:∀ v Z' H' Fs' G,At K sl σ Z' H' Fs' η' (fun c=>R c\/G c)->Rep K Z' H' w.1 w.2 v G->(∀ c,R c->¬ G c)->Step Z H (tot Fs) Z' H' (fun a=>tot Fs' a\/G a) ->
   Step Z H (fun c=>tot Fs c\/R c) Z' H' (fun c=>tot Fs' c\/(R c\/G c))->Q v H'):wE K sl.sl C e σ H Q :=
 ⟨sl.pv,Z,Fs,η,w,η',A.bare,ev,fun v Z' H' Fs' G B r s=>by
  obtain ⟨h1,h2,h3⟩:=A.frame B s
  exact k v Z' H' Fs' G h1 r h3 s h2⟩
theorem yQ {es:List E}{ws:List W}{Q:List V->Hp->Prop}(A:At K sl σ Z H Fs η R)(ev:evL C es η=.ok (ws,η'))
  (k:∀ vs Z' H' Fs' G,At K sl σ Z' H' Fs' η' (fun c=>R c\/G c)->RepW K Z' H' ws vs G->(∀ c,R c->¬ G c)->Step Z H (tot Fs) Z' H' (fun a=>tot Fs' a\/G a) ->
   Step Z H (fun c=>tot Fs c\/R c) Z' H' (fun c=>tot Fs' c\/(R c\/G c))->Q vs H'):wL K sl.sl C es σ H Q :=
 ⟨sl.pv,Z,Fs,η,ws,η',A.bare,ev,fun v Z' H' Fs' G B r s=>by
  obtain ⟨h1,h2,h3⟩:=A.frame B s
  exact k v Z' H' Fs' G h1 r h3 s h2⟩
theorem aa {α β:Type}{r:Res α}{f:α->Res β}{b:β}(h:r.bind f=.ok b):∃ a,r=.ok a/\f a=.ok b:=by
 cases r with
 | ok a=>exact ⟨a,rfl,h⟩
 | ex c x=>cases h
 | no=>cases h
theorem ai {α:Type}{η:Env}{o:Option α}{b:α×Env}(h:ret η o=.ok b):∃ a,o=some a/\b=(a,η):=by
 cases o with
 | none=>cases h
 | some a=>exact ⟨a,rfl,by cases h; rfl⟩
theorem bQ {α:Type}{o:Option α}{b:α}(h:ofO o=.ok b):o=some b:=by
 cases o with
 | none=>cases h
 | some a=>cases h; rfl
theorem aL {e:E}{es:List E}{ws:List W}(h:evL C (e::es) η=.ok (ws,η')):∃ w η1 us,evE C e η=.ok (w,η1)/\evL C es η1=.ok (us,η')/\ws=w::us:=by
 obtain ⟨⟨w,η1⟩,h1,h2⟩:=aa (show (evE C e η).bind (aU (evL C es))=_ from h)
 obtain ⟨⟨us,η2⟩,h3,h4⟩:=aa (show (evL C es η1).bind (iO w)=_ from h2)
 cases h4
 exact ⟨w,η1,us,h1,h3,rfl⟩
theorem dJ {e:E}{es:List E}{ws:List W}(he:∀ i,e≠.io i)(h:evA C (e::es) η=.ok (ws,η')):∃ w η1 us,evE C e η=.ok (w,η1)/\evA C es η1=.ok (us,η')/\ws=w::us:=by
 rw [uE he] at h
 obtain ⟨⟨w,η1⟩,h1,h2⟩:=aa h
 obtain ⟨⟨us,η2⟩,h3,h4⟩:=aa (show (evA C es η1).bind (iO w)=_ from h2)
 cases h4
 exact ⟨w,η1,us,h1,h3,rfl⟩
theorem fz {i:Nat}{es:List E}{ws:List W}(h:evA C (.io i::es) η=.ok (ws,η')):∃ us η1 w,evA C es η=.ok (us,η1)/\rd η1 i=some w/\ws=w::us/\η'=del η1 i:=by
 obtain ⟨⟨us,η1⟩,h1,h2⟩:=aa (show (evA C es η).bind (kIo i)=_ from h)
 obtain ⟨w,h3,h4⟩:=aa (show (ofO (rd η1 i)).bind (fun w=>.ok (w::us,del η1 i))=_ from h2)
 cases h4
 exact ⟨us,η1,w,h1,bQ h3,rfl,rfl⟩
theorem xp (e:E):(∃ i,e=.io i)\/∀ i,e≠.io i:=by
 cases e with
 | io i=>exact .inl ⟨i,rfl⟩
 | _=>exact .inr fun _ z=>by cases z
theorem og {e:E}{es:List E}(σ:L2.St)(H:Hp)(Q:List V->Hp->Prop)(h:wL K sf C (e::es) σ H Q):jd (wE K sf C e) (wL K sf C es) σ H Q:=by
 obtain ⟨pv,Z,Fs,η,ws,η',A,ev,k⟩:=h
 obtain ⟨w,η1,us,h1,h2,rfl⟩:=aL ev
 refine c9 A h1 fun x Z1 H1 Fs1 G1 A1 r1 _ s1 _=>?_
 have A1':=A1.mono (G':=G1) fun _ z=>.inr z
 refine yQ A1' h2 fun xs Z2 H2 Fs2 G2 A2 r2 d2 s2 t2=>?_
 refine k (x::xs) Z2 H2 Fs2 _ A2 ⟨x,xs,G1,G2,rfl,fun _ z=>.inl z,fun _ z=>.inr z,d2,r1.frame A1.gd.own s2 A1'.dis,r2⟩ ?_
 exact s1.trans t2
theorem tR (σ:L2.St)(H:Hp)(Q:List V->Hp->Prop)(h:wL K sf C [] σ H Q):t9 σ H Q:=by
 obtain ⟨pv,Z,Fs,η,ws,η',A,ev,k⟩:=h
 cases ev
 exact k [] Z H Fs no A rfl ((Step.refl _ _ _).mono (fun _ z=>z) fun a ha=>ha.elim id fun z=>z.elim)
noncomputable def Out (K:a0a)(Z:Fp)(H:Hp)(G:Fp)(w:W)(Q:VK):Prop:=∀ v Z' H' G',Rep K Z' H' w.1 w.2 v G'->Own Z' H' G'->Step Z H G Z' H' G'->Q v H'
theorem At.op (A:At K sl σ Z H Fs η G)(o:Own Z' H' G')(s:Step Z H G Z' H' G'):At K sl σ Z' H' Fs η G'/\Step Z H (fun c=>tot Fs c\/G c) Z' H' (fun c=>tot Fs c\/G' c):=by
 have d:∀ a,tot Fs a->¬ G a:=fun a h q=>A.dis a q h
 have f:=A.gd.own.frame s d
 refine ⟨⟨⟨f.1,A.gd.dis,s.za A.gd.zal⟩,fun i m t e=>?_,o,fun a ha q=>f.2 a q ha,A.lk,A.ln⟩,?_⟩
 ·obtain ⟨v,r,hv⟩:=A.env i m t e
  exact ⟨v,r.frame A.own s fun a ha=>d a ⟨i,ha⟩,hv⟩
 ·refine (s.frame (tot Fs)).mono (fun _ z=>z.symm) fun _ z=>z.symm
theorem bX {w:W}{Q:VK}(A:At K sl σ Z1 H1 Fs1 η1 G)(s:Step Z H F Z1 H1 (fun a=>tot Fs1 a\/G a))
  (k:∀ v Z' H' Fs' G,At K sl σ Z' H' Fs' η1 G->Rep K Z' H' w.1 w.2 v G->Step Z H F Z' H' (fun a=>tot Fs' a\/G a)->Q v H'):Out K Z1 H1 G w Q:=fun v Z' H' G' r o t=>by
 obtain ⟨B,u⟩:=A.op o t
 exact k v Z' H' Fs1 G' B r (s.trans u)
noncomputable def Loc (K:a0a)(n:Nat)(o:Op)(h:Bool)(r:List V->Hp->VK->Prop):Prop:=∀ (ws:List W) (w:W) (xs:List V) (Z:Fp) (H:Hp) (G:Fp) (Q:VK),ws.length=n->oSem o h ws=some w->RepW K Z H ws xs G->Own Z H G->(∀ a,Z a->H a≠none)->Out K Z H G w Q->r xs H Q
theorem cc {o:Op}{h:Bool}{es:List E}{w:W}(e:evE C (.op o h es) η=.ok (w,η')):∃ ws,evL C es η=.ok (ws,η')/\oSem o h ws=some w:=by
 obtain ⟨⟨ws,η1⟩,h1,h2⟩:=aa (show (evL C es η).bind (kOp o h)=_ from e)
 obtain ⟨a,h3,h4⟩:=ai (show ret η1 (oSem o h ws)=_ from h2)
 cases h4
 exact ⟨ws,h1,h3⟩
theorem dq:∀ {es:List E} {η η':Env} {ws:List W},evL C es η=.ok (ws,η')->ws.length=es.length
 | [],_,_,_,h=>by cases h; rfl
 | e::es,_,_,_,h=>by
  obtain ⟨w,η1,us,_,h2,rfl⟩:=aL h
  rw [a0b,a0b,dq h2]
theorem iP {n:Nat}{o:Op}{h:Bool}{es:List E}{r:List V->Hp->VK->Prop}(l:Loc K n o h r)(hn:es.length=n)(σ:L2.St)(H:Hp)(Q:VK)(hw:wE K sf C (.op o h es) σ H Q):tCB r (wL K sf C es) σ H Q:=by
 obtain ⟨pv,Z,Fs,η,w,η',A,ev,k⟩:=hw
 obtain ⟨ws,h1,h2⟩:=cc ev
 exact ⟨pv,Z,Fs,η,ws,η',A,h1,fun vs Z' H' Fs' G B r s=>l ws w vs Z' H' G Q ((dq h1).trans hn) h2 r B.own B.gd.zal (bX B s k)⟩
theorem sd {o:Op}{h:Bool}{a:E}{r:V->Hp->VK->Prop}(l:Loc K 1 o h fun xs H Q=>∀ x,xs=[x]->r x H Q)(σ:L2.St)(H:Hp)(Q:VK)(hw:wE K sf C (.op o h [a]) σ H Q):tUn r (wE K sf C a) σ H Q:=by
 obtain ⟨pv,Z,Fs,η,w,η',A,ev,k⟩:=hw
 obtain ⟨ws,h1,h2⟩:=cc ev
 obtain ⟨wa,η1,us,e1,e2,rfl⟩:=aL h1
 cases e2
 refine ⟨pv,Z,Fs,η,wa,η',A,e1,fun x Z' H' Fs' G B r s=>l [wa] w [x] Z' H' G Q rfl h2 (RepW.one r) B.own B.gd.zal (bX B s k) x rfl⟩
theorem aE {o:Op}{h:Bool}{a b:E}{r:R2}(l:Loc K 2 o h fun xs H Q=>∀ x y,xs=[x,y]->r x y H Q)(σ:L2.St)(H:Hp)(Q:VK)(hw:wE K sf C (.op o h [a,b]) σ H Q):tOp r (wE K sf C a) (wE K sf C b) σ H Q:=by
 obtain ⟨pv,Z,Fs,η,w,η',A,ev,k⟩:=hw
 obtain ⟨ws,h1,h2⟩:=cc ev
 obtain ⟨wa,η1,us,e1,e2,rfl⟩:=aL h1
 obtain ⟨wb,η2,us,e3,e4,rfl⟩:=aL e2
 cases e4
 refine c9 A e1 fun x Z1 H1 Fs1 G1 A1 r1 _ s1 _=>?_
 have A1':=A1.mono (G':=G1) fun _ z=>.inr z
 refine c9 A1' e3 fun y Z2 H2 Fs2 G2 A2 r2 d2 s2 t2=>?_
 exact l [wa,wb] w [x,y] Z2 H2 _ Q rfl h2 ⟨x,[y],G1,G2,rfl,fun _ z=>.inl z,fun _ z=>.inr z,d2,r1.frame A1.gd.own s2 A1'.dis,RepW.one r2⟩ A2.own A2.gd.zal (bX A2 (s1.trans t2) k) x y rfl
theorem bg:Own Z H no:=fun _ z=>z.elim
theorem Step.drop:Step Z H G Z H no:=(Step.refl Z H G).mono (fun _ z=>z) fun _ z=>z.elim
section
variable {Q:VK}{m:Md}{ts:List T}{xs:List V}
theorem aR {i:Int}(k:Out K Z H G (m,.int i) Q):Q (.int i) H:=k _ Z H no rfl bg .drop
theorem aZ {b:Bool}(k:Out K Z H G (m,.bl b) Q):Q (.bl b) H:=k _ Z H no rfl bg .drop
theorem iN {x:Str}(k:Out K Z H G (m,.str x) Q)(h:sOk x=true):Q (.str x) H:=k _ Z H no ⟨rfl,h⟩ bg .drop
theorem fT {t:T}{v:V}(o:Own Z H G)(k:Out K Z H G (m,t) Q)(r:Rep K Z H m t v G):Q v H:=k v Z H G r o (.refl _ _ _)
theorem gG {p:Addr}{o:HO}(hp:H p=none):Stay Z H (upd H p o):=by
 have ne:∀ {a u},H a=some u->a≠p:=fun {a u} e z=>by subst z; rw [hp] at e; cases e
 refine ⟨fun a u _ e=>?_,fun a xs e=>?_,fun a u v e=>?_⟩
 ·rw [ah (ne e)]; exact e
 ·rcases e with e | ⟨u,e⟩
  ·exact .inl (by rw [ah (ne e)]; exact e)
  ·exact .inr ⟨u,by rw [ah (ne e)]; exact e⟩
 ·rw [ah (ne e)]; exact e
theorem dy {p:Addr}{o:HO}(hp:H p=none)(ow:Own Z H G)(hg:∀ a,G' a->G a\/a=p)(z:Fp)(hz:∀ a,Z a->z a)(hz':∀ a,z a->Z a\/G a):Step Z H G z (upd H p o) G':=by
 have ne:∀ {a u},H a=some u->a≠p:=fun {a u} e q=>by subst q; rw [hp] at e; cases e
 have al:∀ a,H a≠none->upd H p o a≠none:=fun a h=>by
  by_cases e:a=p
  ·rw [e,ay]; simp
  ·rw [ah e]; exact h
 refine ⟨fun a u e _=>by rw [ah (ne e)]; exact e,hz,fun a h=>(hz' a h).imp id .inl,fun a h=>(hg a h).imp id fun e=>by rw [e]; exact hp,al,fun q a h=>al a ?_⟩
 rcases hz' a h with c | c
 ·exact q a c
 ·obtain ⟨_,xs,e⟩:=ow a c
  rw [e]; simp
theorem bG {p:Addr}(ow:Own Z H G)(za:∀ a,Z a->H a≠none)(hg:∀ a,G' a->G a)(hl:xs.length<=LIM)(r:RepL K (bN Z G G') H m.kid ts xs G')(hm:m≠.s)(k:Out K Z H G (m,.lst ts) Q)(hp:H p=none):Q (.ref p) (upd H p (.lst xs)):=by
 have ne:∀ {a u},H a=some u->a≠p:=fun {a u} e q=>by subst q; rw [hp] at e; cases e
 have np:∀ a,G' a->a≠p:=fun a h=>by obtain ⟨_,ys,e⟩:=ow a (hg a h); exact ne e
 refine k _ (bN Z G G') _ (fun a=>G' a\/a=p) ⟨p,xs,rfl,hl,(LstR.own hm).mpr ⟨.inr rfl,ay⟩,?_⟩ ?_ (dy hp ow (fun a h=>h.imp (hg a) id) _ (fun a h=>.inl h) fun a h=>h.imp id a2L)
 ·refine (r.keep (gG hp) (fun _ z=>z) fun a u _ e=>by rw [ah (ne e)]; exact e).mono fun a h=>⟨.inl h,np a h⟩
 ·rintro a (h | h)
  ·obtain ⟨nz,ys,e⟩:=ow a (hg a h)
   exact ⟨fun z=>z.elim nz fun q=>q.2 h,ys,by rw [ah (ne e)]; exact e⟩
  ·subst h
   refine ⟨fun z=>z.elim (fun q=>za a q hp) fun q=>?_,xs,ay⟩
   obtain ⟨_,ys,e⟩:=ow a q.1
   rw [hp] at e; cases e
theorem qb {p:Addr}(ow:Own Z H G)(hg:∀ a,G' a->G a)(hl:xs.length<=LIM)(r:RepL K (bN Z G G') H m.kid ts xs G')(k:Out K Z H G (m,.tup ts) Q)(hp:H p=none):Q (.ref p) (upd H p (.tup xs)):=by
 have ne:∀ {a u},H a=some u->a≠p:=fun {a u} e q=>by subst q; rw [hp] at e; cases e
 refine k _ (bN Z G G') _ G' ⟨p,xs,rfl,.inl (.inl ay),hl,?_⟩ ?_ (dy hp ow (fun a h=>.inl (hg a h)) _ (fun a h=>.inl h) fun a h=>h.imp id a2L)
 ·exact r.keep (gG hp) (fun _ z=>z) fun a u _ e=>by rw [ah (ne e)]; exact e
 ·intro a h
  obtain ⟨nz,ys,e⟩:=ow a (hg a h)
  exact ⟨fun z=>z.elim nz fun q=>q.2 h,ys,by rw [ah (ne e)]; exact e⟩
theorem gk {v:V}{H':Hp}(ow:Own Z H G)(hg:∀ a,G' a->G a)(hl:xs.length<=LIM)(r:RepL K (bN Z G G') H m.kid ts xs G')(k:Out K Z H G (m,.tup ts) Q)(same:∀ b o,H b=some o->H' b=some o)(hv:∃ c,v=.ref c/\SqT K H' c xs):Q v H':=by
 obtain ⟨c,rfl,hs⟩:=hv
 have al:∀ a,H a≠none->H' a≠none:=fun a h=>by
  cases e:H a with
  | none=>exact absurd e h
  | some o=>rw [same a o e]; simp
 refine k _ (bN Z G G') _ G' ⟨c,xs,rfl,hs,hl,?_⟩ (fun a h=>?_) ⟨fun a o e _=>same a o e,fun a h=>.inl h,fun a h=>h.imp id fun q=>.inl q.1,fun a h=>.inl (hg a h),al,fun q a h=>al a ?_⟩
 ·refine r.keep ⟨fun a o _ e=>same a o e,fun a ys e=>?_,fun a o u e=>same a _ e⟩ (fun _ z=>z) fun a u _ e=>same a u e
  rcases e with e | ⟨u,e⟩
  ·exact .inl (same a _ e)
  ·exact .inr ⟨u,same a _ e⟩
 ·obtain ⟨nz,ys,e⟩:=ow a (hg a h)
  exact ⟨fun z=>z.elim nz fun q=>q.2 h,ys,same a _ e⟩
 ·rcases h with h | h
  ·exact q a h
  ·obtain ⟨_,ys,e⟩:=ow a h.1
   rw [e]; simp
theorem bZ {p:Addr}{h:Bool}{w:W}(ow:Own Z H G)(za:∀ a,Z a->H a≠none)(hl:xs.length<=LIM)(r:∃ G',(∀ a,G' a->G a)/\RepL K (bN Z G G') H m ts xs G')(hn:newL h m ts=some w)(k:Out K Z H G w Q)(hp:H p=none):Q (.ref p) (upd H p (.lst xs)):=by
 obtain ⟨G',hg,r⟩:=r
 unfold newL at hn
 split at hn
 ·split at hn
  ·rename_i hlv
   cases hn
   refine bG (m:=.d) (G':=no) ow za (fun _ z=>z.elim) hl ?_ (by simp) k hp
   exact r.leaves (fun _ _ _ e=>e) hlv
  ·cases hn
 ·cases hn
  exact bG (m:=m.up) ow za hg hl (by rw [gY]; exact r) (eI m) k hp
end
end
end MR
namespace MR
open L2 L3 M
open PySem (Addr Str sizeLine)
section
variable {K:a0a}{h:Bool}
theorem cS {α β:Type}{ws:List α}{x y:β}(e:ws.length=[x,y].length):∃ a b,ws=[a,b]:=by
 match ws,e with
 | [a,b],_=>exact ⟨a,b,rfl⟩
theorem v9 {α β:Type}{ws:List α}{x:β}(e:ws.length=[x].length):∃ a,ws=[a]:=by
 match ws,e with
 | [a],_=>exact ⟨a,rfl⟩
theorem bL {Z:Fp}{H:Hp}{G:Fp}{u w:W}{x y:V}(r:RepW K Z H [u,w] [x,y] G):∃ G1 G2,(∀ a,G1 a->G a)/\(∀ a,G2 a->G a)/\(∀ a,G1 a->¬ G2 a)/\Rep K Z H u.1 u.2 x G1/\Rep K Z H w.1 w.2 y G2:=by
 obtain ⟨x',r',G1,G2,e,h1,h2,d,p,y',r2,G3,G4,e2,h3,h4,d2,q,z⟩:=r
 cases e; cases e2
 exact ⟨G1,G3,h1,fun a ha=>h2 a (h3 a ha),fun a ha hb=>d a ha (h3 a hb),p,q⟩
theorem rA {Z:Fp}{H:Hp}{G:Fp}{w:W}{x:V}(r:RepW K Z H [w] [x] G):Rep K Z H w.1 w.2 x G:=by
 obtain ⟨x',r',G1,G2,e,h1,h2,d,p,z⟩:=r
 cases e
 exact p.mono h1
theorem cA {ws:List W}{xs:List V}{Z:Fp}{H:Hp}{G:Fp}{w:W}(hw:ws=[w])(r:RepW K Z H ws xs G):∃ x,xs=[x]/\Rep K Z H w.1 w.2 x G:=by
 subst hw
 obtain ⟨x,hx⟩:=v9 (x:=()) (show xs.length=[()].length from r.length)
 subst hx
 exact ⟨x,rfl,rA r⟩
theorem kj {n:Nat}(h:n<=LIM):n < sizeLine:=a1A h (by decide)
theorem LIM_le {n:Nat}(h:n<=LIM):n<=sizeLine:=a1U (kj h)
theorem b5 {n:Nat}(h:a6 n=true):n<=LIM:=of_decide_eq_true h
theorem nt {o:Op}{C:Int->Int->Prop}{g:Int->Int->T}(inv:∀ {u v w:W},oSem o h [u,v]=some w->∃ m n i j,u=(m,.int i)/\v=(n,.int j)/\C i j/\w=(.d,g i j))(gv:Int->Int->V)(hg:∀ {Z:Fp} {H:Hp} {G:Fp} {Q:VK} {i j:Int},Out K Z H G (.d,g i j) Q->Q (gv i j) H) :
  Loc K 2 o h fun xs H Q=>∀ x y,xs=[x,y]->rI C gv x y H Q:=by
 intro ws w xs Z H G Q hn e r ow za k x y hx
 subst hx
 obtain ⟨u,v,rfl⟩:=cS r.length.symm
 obtain ⟨m,n,i,j,rfl,rfl,c,rfl⟩:=inv e
 obtain ⟨G1,G2,_,_,_,r1,r2⟩:=bL r
 exact ⟨i,j,r1,r2,c,hg k⟩
theorem dz {o:Op}{g:Int->Int->T}(inv:∀ {u v w:W},oSem o h [u,v]=some w->∃ m n i j,u=(m,.int i)/\v=(n,.int j)/\w=(.d,g i j))(gv:Int->Int->V)(hg:∀ {Z:Fp} {H:Hp} {G:Fp} {Q:VK} {i j:Int},Out K Z H G (.d,g i j) Q->Q (gv i j) H) :
  Loc K 2 o h fun xs H Q=>∀ x y,xs=[x,y]->rI0 gv x y H Q:=by
 intro ws w xs Z H G Q hn e r ow za k x y hx
 subst hx
 obtain ⟨u,v,rfl⟩:=cS r.length.symm
 obtain ⟨m,n,i,j,rfl,rfl,rfl⟩:=inv e
 obtain ⟨G1,G2,_,_,_,r1,r2⟩:=bL r
 exact ⟨i,j,r1,r2,hg k⟩
theorem qm {u v w:W}(e:oSem .sub h [u,v]=some w):∃ m n i j,u=(m,.int i)/\v=(n,.int j)/\w=(.d,.int (i-j)):=by
 obtain ⟨m,a⟩:=u; obtain ⟨n,b⟩:=v
 cases a<;>first | (cases e; done) | (cases b<;>first | (cases e; exact ⟨_,_,_,_,rfl,rfl,rfl⟩) | cases e)
theorem lY {u v w:W}(e:oSem .lt h [u,v]=some w):∃ m n i j,u=(m,.int i)/\v=(n,.int j)/\w=(.d,.bl (decide (i < j))):=by
 obtain ⟨m,a⟩:=u; obtain ⟨n,b⟩:=v
 cases a<;>first | (cases e; done) | (cases b<;>first | (cases e; exact ⟨_,_,_,_,rfl,rfl,rfl⟩) | cases e)
theorem cf {u v w:W}(e:oSem .le h [u,v]=some w):∃ m n i j,u=(m,.int i)/\v=(n,.int j)/\w=(.d,.bl (decide (i<=j))):=by
 obtain ⟨m,a⟩:=u; obtain ⟨n,b⟩:=v
 cases a<;>first | (cases e; done) | (cases b<;>first | (cases e; exact ⟨_,_,_,_,rfl,rfl,rfl⟩) | cases e)
theorem mB {u v w:W}(e:oSem .gt h [u,v]=some w):∃ m n i j,u=(m,.int i)/\v=(n,.int j)/\w=(.d,.bl (decide (j < i))):=by
 obtain ⟨m,a⟩:=u; obtain ⟨n,b⟩:=v
 cases a<;>first | (cases e; done) | (cases b<;>first | (cases e; exact ⟨_,_,_,_,rfl,rfl,rfl⟩) | cases e)
theorem sv {u v w:W}(e:oSem .ge h [u,v]=some w):∃ m n i j,u=(m,.int i)/\v=(n,.int j)/\w=(.d,.bl (decide (j<=i))):=by
 obtain ⟨m,a⟩:=u; obtain ⟨n,b⟩:=v
 cases a<;>first | (cases e; done) | (cases b<;>first | (cases e; exact ⟨_,_,_,_,rfl,rfl,rfl⟩) | cases e)
theorem kN {u v w:W}(e:oSem .fdiv h [u,v]=some w):∃ m n i j,u=(m,.int i)/\v=(n,.int j)/\vM i j/\w=(.d,.int (i / j)):=by
 obtain ⟨m,a⟩:=u; obtain ⟨n,b⟩:=v
 cases a<;>first | (cases e; done) | (cases b<;>try (cases e; done))
 rename_i i j
 rw [mK] at e
 split at e
 ·rename_i hc
  rw [a0c,decide_eq_true_eq,decide_eq_true_eq] at hc
  cases e
  exact ⟨_,_,_,_,rfl,rfl,hc,rfl⟩
 ·cases e
theorem ph {u v w:W}(e:oSem .mod h [u,v]=some w):∃ m n i j,u=(m,.int i)/\v=(n,.int j)/\(0 < j)/\w=(.d,.int (i % j)):=by
 obtain ⟨m,a⟩:=u; obtain ⟨n,b⟩:=v
 cases a<;>first | (cases e; done) | (cases b<;>try (cases e; done))
 rename_i i j
 rw [ro] at e
 split at e
 ·rename_i hc
  rw [decide_eq_true_eq] at hc
  cases e
  exact ⟨_,_,_,_,rfl,rfl,hc,rfl⟩
 ·cases e
theorem qD {u v w:W}(e:oSem .pow h [u,v]=some w):∃ m n i j,u=(m,.int i)/\v=(n,.int j)/\tD i j/\w=(.d,.int (i ^ j.toNat)):=by
 obtain ⟨m,a⟩:=u; obtain ⟨n,b⟩:=v
 cases a<;>first | (cases e; done) | (cases b<;>try (cases e; done))
 rename_i i j
 rw [ji] at e
 split at e
 ·rename_i hc
  rw [a0c,a0c,decide_eq_true_eq,decide_eq_true_eq,decide_eq_true_eq] at hc
  cases e
  exact ⟨_,_,_,_,rfl,rfl,⟨hc.1.1,hc.1.2,hc.2⟩,rfl⟩
 ·cases e
theorem pj:Loc K 2 .sub h fun xs H Q=>∀ x y,xs=[x,y]->rI0 (fun i j=>.int (i-j)) x y H Q:=dz qm _ fun k=>aR k
theorem uV:Loc K 2 .lt h fun xs H Q=>∀ x y,xs=[x,y]->rI0 (fun i j=>.bl (decide (i < j))) x y H Q:=dz lY _ fun k=>aZ k
theorem tV:Loc K 2 .le h fun xs H Q=>∀ x y,xs=[x,y]->rI0 (fun i j=>.bl (decide (i<=j))) x y H Q:=dz cf _ fun k=>aZ k
theorem kP:Loc K 2 .gt h fun xs H Q=>∀ x y,xs=[x,y]->rI0 (fun i j=>.bl (decide (j < i))) x y H Q:=dz mB _ fun k=>aZ k
theorem tK:Loc K 2 .ge h fun xs H Q=>∀ x y,xs=[x,y]->rI0 (fun i j=>.bl (decide (j<=i))) x y H Q:=dz sv _ fun k=>aZ k
theorem lz:Loc K 2 .fdiv h fun xs H Q=>∀ x y,xs=[x,y]->rI vM (fun i j=>.int (i / j)) x y H Q:=nt kN _ fun k=>aR k
theorem oV:Loc K 2 .mod h fun xs H Q=>∀ x y,xs=[x,y]->rI (fun _ j=>0 < j) (fun i j=>.int (i % j)) x y H Q:=nt ph _ fun k=>aR k
theorem qw:Loc K 2 .pow h fun xs H Q=>∀ x y,xs=[x,y]->rI tD (fun i j=>.int (i ^ j.toNat)) x y H Q:=nt qD _ fun k=>aR k
theorem oH:Loc K 1 .neg h fun xs H Q=>∀ x,xs=[x]->rU (fun i=>.int (-i)) x H Q:=by
 intro ws w xs Z H G Q hn e r ow za k x hx
 subst hx
 obtain ⟨⟨m,a⟩,rfl⟩:=v9 r.length.symm
 cases a<;>first | (cases e; exact ⟨_,rA r,aR k⟩) | cases e
theorem bB {Z:Fp}{H:Hp}{G:Fp}{m:Md}{ts:List T}{v:V}(r:Rep K Z H m (.lst ts) v G):∃ a xs,v=.ref a/\H a=some (.lst xs)/\xs.length<=LIM/\RepL K Z H m.kid ts xs G:=by
 obtain ⟨a,xs,e,l,q,p⟩:=r
 exact ⟨a,xs,e,by cases m<;>exact q.2,l,p.mono fun _ z=>z.1⟩
theorem bH {Z:Fp}{H:Hp}{G:Fp}{m:Md}{ts:List T}{v:V}(r:Rep K Z H m (.tup ts) v G):∃ a xs,v=.ref a/\SqT K H a xs/\xs.length<=LIM/\RepL K Z H m.kid ts xs G:=r
theorem lD {Z:Fp}{H:Hp}{G G1 G2:Fp}{m n:Md}{ts us:List T}{xs ys:List V}(w1:∀ a,G1 a->G a)(w2:∀ a,G2 a->G a)(d:∀ a,G1 a->¬ G2 a)(r1:RepL K Z H m ts xs G1)(r2:RepL K Z H n us ys G2) :
  ∃ G',(∀ a,G' a->G a)/\RepL K (bN Z G G') H (m.meet n) (ts++us) (xs++ys) G':=by
 obtain ⟨A,a1,a2⟩:=RepL.weak (cq m n).1 r1
 obtain ⟨B,b1,b2⟩:=RepL.weak (cq m n).2 r2
 refine ⟨fun b=>A b\/B b,fun b hb=>hb.elim (fun z=>w1 b (a1 b z)) fun z=>w2 b (b1 b z),RepL.append (fun _ z=>.inl z) (fun _ z=>.inr z) (fun b za zb=>d b (a1 b za) (b1 b zb)) (a2.zmono fun b hb=>?_) (b2.zmono fun b hb=>?_)⟩
 ·exact hb.imp id fun z=>⟨w1 b z.1,fun q=>q.elim z.2 fun w=>d b z.1 (b1 b w)⟩
 ·exact hb.imp id fun z=>⟨w2 b z.1,fun q=>q.elim (fun w=>d b (a1 b w) z.1) z.2⟩
theorem p9 {p q:Str}(h1:sOk p=true)(h2:sOk q=true)(hl:p.cps.size+q.cps.size<=LIM):sOk (p++q)=true:=by
 unfold sOk at *
 rw [a0c] at *
 refine ⟨?_,decide_eq_true ?_⟩
 ·show Array.all (p.cps++q.cps) _=true
  rw [Array.all_append,a0c]
  exact ⟨h1.1,h2.1⟩
 ·show (p.cps++q.cps).size<=LIM
  rw [Array.size_append]
  exact hl
theorem pA (rT:R2)(hT:∀ {Z:Fp} {H:Hp} {G:Fp} {Q:VK} {a b:Addr} {xs ys:List V} {ts:List T},SqT K H a xs->SqT K H b ys->xs≠[]->xs.length+ys.length<=LIM->Own Z H G->(∃ G',(∀ a,G' a->G a)/\RepL K (bN Z G G') H .s ts (xs++ys) G')->Out K Z H G (.s,.tup ts) Q->rT (.ref a) (.ref b) H Q) :
  Loc K 2 .add h fun xs H Q=>∀ x y,xs=[x,y]->rI0 (fun i j=>.int (i+j)) x y H Q\/(∃ i j,x=.str i/\y=.str j/\i.length+j.length<=sizeLine/\Q (.str (i++j)) H)\/xJ x y H Q\/rT x y H Q:=by
 intro ws w xs Z H G Q hn e r ow za k x y hx
 subst hx
 obtain ⟨⟨m,a⟩,⟨n,b⟩,rfl⟩:=cS r.length.symm
 obtain ⟨G1,G2,w1,w2,d,r1,r2⟩:=bL r
 cases a<;>first | (cases e; done) | (cases b<;>try (cases e; done))
 ·cases e
  exact .inl ⟨_,_,r1,r2,aR k⟩
 ·rename_i p q
  rw [lT] at e
  split at e
  ·rename_i hf
   cases e
   refine .inr (.inl ⟨p,q,r1.1,r2.1,LIM_le (b5 hf),iN k ?_⟩)
   exact p9 r1.2 r2.2 (b5 hf)
  ·cases e
 ·rename_i ts us
  rw [nB] at e
  split at e
  ·rename_i hf
   cases e
   rw [a0c] at hf
   obtain ⟨a,xs,rfl,hs,hl,p⟩:=bH r1
   obtain ⟨b,ys,rfl,hs2,hl2,p2⟩:=bH r2
   have hlen:=b5 hf.1
   have e1:=p.length
   have e2:=p2.length
   refine .inr (.inr (.inr (hT hs hs2 ?_ (by omega) ow ?_ k)))
   ·rintro rfl
    cases ts with
    | nil=>simp at hf
    | cons _ _=>simp at e1
   ·refine ⟨no,fun _ z=>z.elim,RepL.append (G1:=no) (G2:=no) (fun _ z=>z) (fun _ z=>z) (fun _ z _=>z) ((RepL.sh p).zmono fun b hb=>?_) ((RepL.sh p2).zmono fun b hb=>?_)⟩
    ·exact hb.imp id fun z=>⟨w1 b z,fun q=>q⟩
    ·exact hb.imp id fun z=>⟨w2 b z,fun q=>q⟩
  ·cases e
 ·rename_i ts us
  rw [mI] at e
  split at e
  ·rename_i hf
   obtain ⟨a,xs,rfl,hs,hl,p⟩:=bB r1
   obtain ⟨b,ys,rfl,hs2,hl2,p2⟩:=bB r2
   have hlen:=b5 hf
   have e1:=p.length
   have e2:=p2.length
   have hl3:(xs++ys).length<=LIM:=by rw [a0d]; omega
   refine .inr (.inr (.inl ⟨a,b,xs,ys,rfl,rfl,hs,hs2,LIM_le (by omega),fun q hq=>?_⟩))
   exact bZ ow za hl3 (lD w1 w2 d p p2) e k hq
  ·cases e
theorem pP:Loc K 2 .mul h fun xs H Q=>∀ x y,xs=[x,y]->rI CMul (fun i j=>.int (i * j)) x y H Q\/yq x y H Q:=by
 intro ws w xs Z H G Q hn e r ow za k x y hx
 subst hx
 obtain ⟨⟨m,a⟩,⟨n,b⟩,rfl⟩:=cS r.length.symm
 obtain ⟨G1,G2,w1,w2,d,r1,r2⟩:=bL r
 cases a<;>first | (cases e; done) | (cases b<;>try (cases e; done))
 ·rename_i i j
  rw [ky] at e
  split at e
  ·rename_i hc
   cases e
   refine .inl ⟨i,j,r1,r2,?_,aR k⟩
   rw [a2r,decide_eq_true_eq,decide_eq_true_eq] at hc
   have h64:(2:Int) ^ 64=18446744073709551616:=by decide
   unfold CMul
   rw [h64]
   omega
  ·cases e
 ·rename_i ts j
  have e':(if decide (j.natAbs < 4611686018427387904)&&a6 (ts.length * j.toNat) then newL h .s (a0g j.toNat ts).flatten else none)=some w:=e
  split at e'
  ·rename_i hc
   rw [a0c,decide_eq_true_eq] at hc
   obtain ⟨a,xs,rfl,hs,hl,p⟩:=bB r1
   have hlen:=b5 hc.2
   have e1:=p.length
   have hl3:((a0g j.toNat xs).flatten).length<=LIM:=by
    rw [List.length_flatten,List.map_replicate,List.sum_replicate_nat,e1,a2F]; exact hlen
   refine .inr ⟨a,j,xs,rfl,r2,hs,by omega,by omega,LIM_le (by rw [e1]; exact hlen),fun q hq=>?_⟩
   refine bZ ow za hl3 ⟨no,fun _ z=>z.elim,?_⟩ e' k hq
   have ps:=(RepL.sh p).zmono (Z':=bN Z G no) fun b hb=>hb.imp id fun z=>⟨w1 b z,fun q=>q⟩
   generalize j.toNat=c
   induction c with
   | zero=>exact rfl
   | succ c ih=>exact RepL.append (fun _ z=>z) (fun _ z=>z) (fun _ z _=>z) ps ih
  ·cases e'
theorem mN {Z:Fp}{H:Hp}{G:Fp}{m:Md}{ts:List T}{xs:List V}{i:Int}{t:T}(p:RepL K Z H m ts xs G)(e:M.atI ts i=some t):∃ x,L2.atI xs i=some x/\Rep K Z H m t x G:=by
 unfold M.atI at e
 have hn:M.ixN ts.length i=L2.ixN xs.length i:=by rw [p.length]; rfl
 cases e1:M.ixN ts.length i with
 | none=>rw [e1] at e; cases e
 | some j =>
  rw [e1] at e
  obtain ⟨x,hx,r⟩:=p.get (show ts[j]?=some t from e)
  refine ⟨x,?_,r⟩
  unfold L2.atI
  rw [<- hn,e1]
  exact hx
theorem pS {x:Str}{c:Nat}(h:sOk x=true)(hc:c∈x.cps.toList):sOk ⟨#[c]⟩=true:=by
 unfold sOk at *
 rw [a0c] at *
 refine ⟨?_,rfl⟩
 have h1:=h.1
 rw [a1c] at h1
 have h2:=h1 c (Array.mem_def.mpr hc)
 rw [a1c]
 intro y hy
 have:y=c:=by simpa using hy
 rw [this]; exact h2
theorem fJ {x:Str}(h:sOk x=true):x.cps.size<=LIM:=by
 unfold sOk at h
 rw [a0c,decide_eq_true_eq] at h
 exact h.2
theorem sk:Loc K 2 .ix h fun xs H Q=>∀ x y,xs=[x,y]->(∃ p xs i v,x=.ref p/\y=.int i/\(SqL K H p xs\/SqT K H p xs)/\L2.atI xs i=some v/\Q v H)\/(∃ z i c,x=.str z/\y=.int i/\z.length<=sizeLine/\L2.atI z.cps.toList i=some c/\Q (.str ⟨#[c]⟩) H):=by
 intro ws w xs Z H G Q hn e r ow za k x y hx
 subst hx
 obtain ⟨⟨m,a⟩,⟨n,b⟩,rfl⟩:=cS r.length.symm
 obtain ⟨G1,G2,w1,w2,d,r1,r2⟩:=bL r
 cases b with
 | int i =>
  cases a with
  | lst ts =>
   obtain ⟨a,xs,rfl,hs,hl,p⟩:=bB r1
   have e':(M.atI ts i).map (fun t=>(m.kid,t))=some w:=e
   cases e1:M.atI ts i with
   | none=>rw [e1] at e'; cases e'
   | some t =>
    rw [e1] at e'; cases e'
    obtain ⟨v,hv,rv⟩:=mN p e1
    exact .inl ⟨a,xs,i,v,rfl,r2,.inl (.inl (.inl hs)),hv,fT ow k (rv.mono w1)⟩
  | tup ts =>
   obtain ⟨a,xs,rfl,hs,hl,p⟩:=bH r1
   have e':(M.atI ts i).map (fun t=>(m.kid,t))=some w:=e
   cases e1:M.atI ts i with
   | none=>rw [e1] at e'; cases e'
   | some t =>
    rw [e1] at e'; cases e'
    obtain ⟨v,hv,rv⟩:=mN p e1
    exact .inl ⟨a,xs,i,v,rfl,r2,.inr hs,hv,fT ow k (rv.mono w1)⟩
  | str z =>
   have e':(M.atI z.cps.toList i).map (fun c=>((.d,.str ⟨#[c]⟩):W))=some w:=e
   cases e1:M.atI z.cps.toList i with
   | none=>rw [e1] at e'; cases e'
   | some c =>
    rw [e1] at e'; cases e'
    refine .inr ⟨z,i,c,r1.1,r2,LIM_le (fJ r1.2),e1,iN k (pS r1.2 ?_)⟩
    unfold M.atI at e1
    cases e2:M.ixN z.cps.toList.length i with
    | none=>rw [e2] at e1; cases e1
    | some j=>rw [e2] at e1; exact a02 e1
  | scr ns =>
   obtain ⟨a,rfl,hL,hs⟩:=r1
   have e':(M.atI ns i).map (fun n=>((.d,.int n):W))=some w:=e
   cases e1:M.atI ns i with
   | none=>rw [e1] at e'; cases e'
   | some n =>
    rw [e1] at e'; cases e'
    refine .inl ⟨a,_,i,.int n,rfl,r2,.inl hs.sq,?_,aR k⟩
    unfold M.atI at e1
    unfold L2.atI
    rw [a0f]
    cases e2:M.ixN ns.length i with
    | none=>rw [e2] at e1; cases e1
    | some j =>
     rw [e2] at e1
     rw [show L2.ixN ns.length i=some j from e2]
     show (ns.map V.int)[j]?=_
     rw [a0t,show ns[j]?=some n from e1]
     rfl
  | _=>cases e
 | _=>cases a<;>cases e
theorem ot:Loc K 1 .len h fun xs H Q=>∃ x n,xs=[x]/\(match x with
  | .str y=>y.length<=sizeLine/\n=y.length
  | .byt y=>y.size<=sizeLine/\n=y.size
  | .ref p=>(∃ xs,SqL K H p xs/\n=xs.length)\/∃ xs,SqT K H p xs/\n=xs.length
  | _=>False)/\Q (.int (n:Nat)) H:=by
 intro ws w xs Z H G Q hn e r ow za k
 match ws,hn with
 | [(m,a)],_ =>
  obtain ⟨x,rfl,r1⟩:=cA rfl r
  cases a with
  | lst ts =>
   obtain ⟨a,xs,hx,hs,hl,p⟩:=bB r1
   cases e
   refine ⟨x,ts.length,rfl,?_,aR k⟩
   rw [show x=.ref a from hx]
   exact .inl ⟨xs,.inl (.inl hs),p.length.symm⟩
  | tup ts =>
   obtain ⟨a,xs,hx,hs,hl,p⟩:=bH r1
   cases e
   refine ⟨x,ts.length,rfl,?_,aR k⟩
   rw [show x=.ref a from hx]
   exact .inr ⟨xs,hs,p.length.symm⟩
  | str z =>
   cases e
   refine ⟨x,z.length,rfl,?_,aR k⟩
   rw [show x=.str z from r1.1]
   exact ⟨LIM_le (fJ r1.2),rfl⟩
  | scr ns =>
   obtain ⟨a,hx,hL,hs⟩:=r1
   cases e
   refine ⟨x,ns.length,rfl,?_,aR k⟩
   rw [show x=.ref a from hx]
   exact .inl ⟨_,hs.sq,by rw [a0f]⟩
  | dct ks vs=>exact (show False from r1).elim
  | _=>cases e
theorem gZ {Z:Fp}{H:Hp}{G:Fp}{m:Md}:∀ ns:List Int,RepL K Z H m (ns.map T.int) (ns.map V.int) G
 | []=>rfl
 | n::ns=>⟨.int n,ns.map V.int,no,no,rfl,fun _ z=>z.elim,fun _ z=>z.elim,fun _ z=>z.elim,rfl,gZ ns⟩
theorem lu:Loc K 1 .list h fun xs H Q=>∃ p ys,xs=[.ref p]/\(SqL K H p ys\/SqT K H p ys)/\∀ l,H l=none->Q (.ref l) (upd H l (.lst ys)):=by
 intro ws w xs Z H G Q hn e r ow za k
 match ws,hn with
 | [(m,a)],_ =>
  obtain ⟨x,rfl,r1⟩:=cA rfl r
  cases a with
  | lst ts =>
   obtain ⟨a,xs,hx,hs,hl,p⟩:=bB r1
   refine ⟨a,xs,by rw [hx],.inl (.inl (.inl hs)),fun q hq=>bZ ow za hl ⟨G,fun _ z=>z,p.zmono fun _ z=>.inl z⟩ e k hq⟩
  | tup ts =>
   obtain ⟨a,xs,hx,hs,hl,p⟩:=bH r1
   refine ⟨a,xs,by rw [hx],.inr hs,fun q hq=>bZ ow za hl ⟨G,fun _ z=>z,p.zmono fun _ z=>.inl z⟩ e k hq⟩
  | scr ns =>
   obtain ⟨a,hx,hL,hs⟩:=r1
   cases e
   refine ⟨a,_,by rw [hx],.inl hs.sq,fun q hq=>bG (G':=no) ow za (fun _ z=>z.elim) (by rw [a0f]; exact hL) (gZ ns) (by simp) k hq⟩
  | _=>cases e
theorem jy {Z:Fp}{H:Hp}{G:Fp}{m:Md}:∀ {ts:List T} {ns:List Bool} {xs:List V},aK ts=some ns->RepL K Z H m ts xs G->xs=ns.map V.bl:=by
 intro ts
 induction ts generalizing G with
 | nil=>intro ns xs e r; cases e; exact r
 | cons t ts ih =>
  intro ns xs e r
  obtain ⟨x,r',G1,G2,rfl,_,_,_,p,q⟩:=r
  cases t with
  | bl i =>
   cases e1:aK ts with
   | none=>simp [aK,e1] at e
   | some ms =>
    have:ns=i::ms:=by simpa [aK,e1] using e.symm
    subst this
    rw [a0x,<- ih e1 q,show x=.bl i from p]
  | _=>cases e
theorem oE:Loc K 1 .all h fun xs H Q=>∃ (a:Addr) (bs:List Bool),xs=[.ref a]/\SqL K H a (bs.map V.bl)/\Q (.bl (bs.all id)) H:=by
 intro ws w xs Z H G Q hn e r ow za k
 match ws,hn with
 | [(m,a)],_ =>
  obtain ⟨x,rfl,r1⟩:=cA rfl r
  cases a with
  | lst ts =>
   obtain ⟨a,xs,hx,hs,hl,p⟩:=bB r1
   have e':(aK ts).map (fun ns=>((.d,.bl (ns.all id)):W))=some w:=e
   cases e1:aK ts with
   | none=>rw [e1] at e'; cases e'
   | some ns =>
    rw [e1] at e'; cases e'
    rw [jy e1 p] at hs
    exact ⟨a,ns,by rw [hx],.inl (.inl hs),aZ k⟩
  | _=>cases e
end
end MR
namespace MR
open L2 L3 M
open PySem (Addr Str sizeLine)
section
variable {K:a0a}{sl:Cf}{sf:Nat->Option Nat}{C:Call}{σ:L2.St}{Z Z' Z1:Fp}{H H' H1:Hp}{Fs Fs' Fs1:Fps}{η η' η1:Env}{G G' R F:Fp}
mutual
theorem Rep.sany:∀ {t:T} {v:V} {G G':Fp},Rep K Z H .s t v G->Rep K Z H .s t v G'
 | .non,_,_,_,h=>h
 | .bl _,_,_,_,h=>h
 | .int _,_,_,_,h=>h
 | .str _,_,_,_,h=>h
 | .scr _,_,_,_,h=>h
 | .tup ts,_,_,_,⟨a,xs,e,q,l,r⟩=>⟨a,xs,e,q,l,RepL.sany r⟩
 | .lst ts,_,_,_,⟨a,xs,e,l,q,r⟩=>⟨a,xs,e,l,q,RepL.sany r⟩
 | .dct _ _,_,_,_,h=>h.elim
 | .ins _ _ _,_,_,_,h=>h.elim
 | .gone,_,_,_,h=>h
theorem RepL.sany:∀ {ts:List T} {xs:List V} {G G':Fp},RepL K Z H .s ts xs G->RepL K Z H .s ts xs G'
 | [],_,_,_,h=>h
 | t::ts,xs,_,_,⟨x,r,G1,G2,e,h1,h2,hd,p,q⟩=>⟨x,r,no,no,e,fun _ z=>z.elim,fun _ z=>z.elim,fun _ z=>z.elim,Rep.sany p,RepL.sany q⟩
end
theorem a7:∀ (η:Env) (i j:Nat) (o:Option W),rd (wr η i o) j=if j=i/\i < η.length then o else rd η j
 | [],i,j,o=>by simp [wr,rd]
 | p::η,0,0,o=>by simp [wr,rd]
 | p::η,0,j+1,o=>by simp [wr,rd]
 | p::η,i+1,0,o=>by simp [wr,rd]
 | p::η,i+1,j+1,o=>by
  show rd (wr η i o) j=_
  rw [a7 η i j o]
  simp [rd]
theorem cD:∀ {η:Env} {i:Nat} {w:W},rd η i=some w->i < η.length
 | [],_,_,h=>by cases h
 | _::_,0,_,_=>by simp
 | _::η,i+1,_,h=>by have:=cD (η:=η) (i:=i) h; simp; exact this
theorem cT (h:∀ a,F a->G a):Step Z H G Z H F:=(Step.refl Z H G).mono (fun _ z=>z) h
theorem r6 {i j:Nat}(hs:sf i=some j)(σ:L2.St)(H:Hp)(Q:VK)(h:wE K sf C (.var i) σ H Q):k9 j σ H Q:=by
 obtain ⟨pv,Z,Fs,η,w,η',A,ev,k⟩:=h
 obtain ⟨w',e1,e2⟩:=ai (show ret η ((rd η i).bind look)=_ from ev)
 cases e2
 cases e3:rd η i with
 | none=>rw [e3] at e1; cases e1
 | some u =>
  rw [e3] at e1
  obtain ⟨m,t⟩:=u
  obtain ⟨v,r,hv⟩:=A.env i m t e3
  refine ⟨v,hv.1 j hs,k v Z H Fs no A ?_ (cT fun a ha=>ha.elim id fun z=>z.elim)⟩
  cases m with
  | s=>cases e1; exact r.sany
  | d =>
   have e1':(if t.leaf=true then some (Md.d,t) else none)=some w:=e1
   split at e1'
   ·rename_i hl; cases e1'; exact r.leaf (fun _ _ _ q=>q) hl
   ·cases e1'
  | o m =>
   have e1':(if t.leaf=true then some (Md.d,t) else none)=some w:=e1
   split at e1'
   ·rename_i hl; cases e1'; exact r.leaf (fun _ _ _ q=>q) hl
   ·cases e1'
noncomputable def sU (Fs:Fps)(i:Nat):Fps:=fun j a=>j≠i/\Fs j a
theorem uc {e:E}{i j:Nat}(he:∀ η,evE C e η=ret (del η i) (rd η i))(hs:sf i=some j)(σ:L2.St)(H:Hp)(Q:VK)(h:wE K sf C e σ H Q):k9 j σ H Q:=by
 obtain ⟨pv,Z,Fs,η,w,η',A,ev,k⟩:=h
 rw [he] at ev
 obtain ⟨w',e1,e2⟩:=ai ev
 cases e2
 obtain ⟨m,t⟩:=w
 obtain ⟨v,r,hv⟩:=A.env i m t e1
 refine ⟨v,hv.1 j hs,k v Z H (sU Fs i) (Fs i) ⟨⟨fun a ⟨l,h1,h2⟩=>A.gd.own a ⟨l,h2⟩,fun l l' a h1 h2=>A.gd.dis l l' a h1.2 h2.2,A.gd.zal⟩,fun l m' t' e=>?_,fun a ha=>A.gd.own a ⟨i,ha⟩,fun a ha ⟨l,h1,h2⟩=>h1 (A.gd.dis l i a h2 ha),A.lk,A.ln⟩ r (cT fun a ha=>ha.elim (fun ⟨l,h1,h2⟩=>⟨l,h2⟩) fun z=>⟨i,z⟩)⟩
 rw [a7] at e
 split at e
 ·cases e
 ·rename_i hne
  obtain ⟨v',r',hv'⟩:=A.env l m' t' e
  have hli:l≠i:=fun z=>hne ⟨z,cD e1⟩
  exact ⟨v',r'.mono fun a ha=>⟨hli,ha⟩,hv'⟩
theorem dW {t:T}{v:V}(hv:∀ {Z:Fp} {H:Hp},Rep K Z H .d t v no)(σ:L2.St)(H:Hp)(Q:VK)(h:wE K sf C (.cst t) σ H Q):tC v σ H Q:=by
 obtain ⟨pv,Z,Fs,η,w,η',A,ev,k⟩:=h
 cases ev
 exact k v Z H Fs no A hv (cT fun a ha=>ha.elim id fun z=>z.elim)
theorem s9 {es:List E}(hn:es.length<=LIM)(σ:L2.St)(H:Hp)(Q:VK)(h:wE K sf C (.tup es) σ H Q):yn (wL K sf C es) σ H Q:=by
 obtain ⟨pv,Z,Fs,η,w,η',A,ev,k⟩:=h
 obtain ⟨⟨ws,η1⟩,h1,h2⟩:=aa (show (evL C es η).bind il=_ from ev)
 cases h2
 refine ⟨pv,Z,Fs,η,ws,_,A,h1,fun vs Z' H' Fs' G B r s=>?_⟩
 have hl:vs.length<=LIM:=by rw [r.length,dq h1]; exact hn
 obtain ⟨G',g1,g2⟩:=RepW.to (fun u hu=>d9 hu) r
 refine ⟨LIM_le hl,fun p hp=>qb (m:=(dH ws).up) B.own g1 hl (by rw [gY]; exact g2) (bX B s k) hp⟩
theorem rN {b:Bool}{es:List E}(hn:es.length<=LIM)(σ:L2.St)(H:Hp)(Q:VK)(h:wE K sf C (.lst b es) σ H Q):yx (wL K sf C es) σ H Q:=by
 obtain ⟨pv,Z,Fs,η,w,η',A,ev,k⟩:=h
 obtain ⟨⟨ws,η1⟩,h1,h2⟩:=aa (show (evL C es η).bind (kL b)=_ from ev)
 cases h2
 refine ⟨pv,Z,Fs,η,ws,_,A,h1,fun vs Z' H' Fs' G B r s=>?_⟩
 have hl:vs.length<=LIM:=by rw [r.length,dq h1]; exact hn
 refine ⟨LIM_le hl,fun p hp=>?_⟩
 cases b with
 | true =>
  obtain ⟨G',g1,g2⟩:=RepW.to (fun u hu=>d9 hu) r
  exact bG (m:=(dH ws).up) B.own B.gd.zal g1 hl (by rw [gY]; exact g2) (eI _) (bX B s k) hp
 | false =>
  obtain ⟨G',g1,g2⟩:=RepW.to (N:=.s) (fun u hu=>by cases lf u.1 u.2<;>rfl) r
  exact bG (m:=.o .s) B.own B.gd.zal g1 hl g2 (by simp) (bX B s k) hp
noncomputable def wT (K:a0a)(sl:Nat->Option Nat)(C:Call)(e:E):TT:=fun σ H Q=>∃ pv Z Fs η w η' b,At K ⟨sl,pv⟩ σ Z H Fs η no/\evE C e η=.ok (w,η')/\truth w.2=some b /\
 ∀ Z' H' Fs',At K ⟨sl,pv⟩ σ Z' H' Fs' η' no->Step Z H (tot Fs) Z' H' (tot Fs')->Q b H'
noncomputable def TrV (K:a0a)(x:V)(H:Hp)(k:Bool):Prop :=
 match x with
 | .non=>k=false
 | .bl b=>k=b
 | .int i=>k=(i != 0)
 | .str y=>y.length<=sizeLine/\k=((y.length:Int) != 0)
 | .ref p=>(∃ xs,SqL K H p xs/\k=!xs.isEmpty)\/(∃ xs,SqT K H p xs/\k=!xs.isEmpty)
 | _=>False
theorem bV {α β:Type}{xs:List α}{ys:List β}(h:xs.length=ys.length):xs.isEmpty=ys.isEmpty:=by
 cases xs<;>cases ys<;>first | rfl | simp at h
theorem cM {m:Md}{t:T}{v:V}{b:Bool}(e:truth t=some b)(r:Rep K Z H m t v G):TrV K v H b:=by
 cases t with
 | non=>cases e; rw [show v=_ from r]; rfl
 | bl c=>cases e; rw [show v=_ from r]; rfl
 | int i=>cases e; rw [show v=_ from r]; rfl
 | str x =>
  cases e; rw [show v=_ from r.1]
  refine ⟨LIM_le (fJ r.2),?_⟩
  show (x.cps.size != 0)=(((x.cps.size:Nat):Int) != 0)
  cases x.cps.size with
  | zero=>rfl
  | succ n=>simp; omega
 | tup ts =>
  obtain ⟨a,xs,rfl,hs,hl,p⟩:=bH r
  cases e
  exact .inr ⟨xs,hs,by rw [bV p.length]⟩
 | lst ts =>
  obtain ⟨a,xs,rfl,hs,hl,p⟩:=bB r
  cases e
  exact .inl ⟨xs,.inl (.inl hs),by rw [bV p.length]⟩
 | scr ns =>
  obtain ⟨a,rfl,hL,hs⟩:=r
  cases e
  exact .inl ⟨_,hs.sq,by rw [bV (a0f ..)]⟩
 | dct _ _=>exact r.elim
 | ins _ _ _=>cases e
 | gone=>cases e
theorem hU {e:E}{w:W}{b:Bool}{Q:Bool->Hp->Prop}(A:At K sl σ Z H Fs η no)(ev:evE C e η=.ok (w,η'))(ht:truth w.2=some b)(k:∀ Z' H' Fs',At K sl σ Z' H' Fs' η' no->Step Z H (tot Fs) Z' H' (tot Fs')->Q b H'):wT K sl.sl C e σ H Q:=⟨sl.pv,Z,Fs,η,w,η',b,A,ev,ht,k⟩
theorem ba {α:Type}{f g:Env->Res α}{p:W×Env}{r:α}(h:onT f g p=.ok r):∃ b,truth p.1.2=some b/\(if b=true then f p.2 else g p.2)=.ok r:=by
 unfold onT at h
 split at h
 ·rename_i e; exact ⟨true,e,h⟩
 ·rename_i e; exact ⟨false,e,h⟩
 ·cases h
theorem vA {e:E}(σ:L2.St)(H:Hp)(Q:Bool->Hp->Prop)(h:wT K sf C (.not e) σ H Q):xQ (wT K sf C e) σ H Q:=by
 obtain ⟨pv,Z,Fs,η,w,η',b,A,ev,ht,k⟩:=h
 obtain ⟨⟨u,η1⟩,h1,h2⟩:=aa (show (evE C e η).bind jP=_ from ev)
 obtain ⟨w',e1,e2⟩:=ai (show ret η1 ((truth u.2).map fun b=>((.d,.bl (!b)):W))=_ from h2)
 cases e2
 cases e3:truth u.2 with
 | none=>rw [e3] at e1; cases e1
 | some c =>
  rw [e3] at e1; cases e1
  have:b=!c:=by cases ht; rfl
  subst this
  exact hU A h1 e3 k
theorem u5 {a b:E}(σ:L2.St)(H:Hp)(Q:Bool->Hp->Prop)(h:wT K sf C (.and a b) σ H Q):xF (wT K sf C a) (wT K sf C b) σ H Q:=by
 obtain ⟨pv,Z,Fs,η,w,η',c,A,ev,ht,k⟩:=h
 obtain ⟨⟨u,η1⟩,h1,h2⟩:=aa (show (evE C a η).bind (jW (evE C b))=_ from ev)
 obtain ⟨d,h3,h4⟩:=ba (show onT (evE C b) (okW u) (u,η1)=_ from h2)
 refine hU A h1 h3 fun Z1 H1 Fs1 A1 s1=>?_
 cases d with
 | true=>rw [if_pos rfl] at h4 ⊢; exact hU A1 h4 ht fun Z2 H2 Fs2 A2 s2=>k Z2 H2 Fs2 A2 (s1.trans s2)
 | false =>
  rw [if_neg a0e] at h4 ⊢
  cases h4
  cases (h3.symm.trans ht)
  exact k Z1 H1 Fs1 A1 s1
theorem xA {a b:E}(σ:L2.St)(H:Hp)(Q:Bool->Hp->Prop)(h:wT K sf C (.or a b) σ H Q):tOr (wT K sf C a) (wT K sf C b) σ H Q:=by
 obtain ⟨pv,Z,Fs,η,w,η',c,A,ev,ht,k⟩:=h
 obtain ⟨⟨u,η1⟩,h1,h2⟩:=aa (show (evE C a η).bind (kOr (evE C b))=_ from ev)
 obtain ⟨d,h3,h4⟩:=ba (show onT (okW u) (evE C b) (u,η1)=_ from h2)
 refine hU A h1 h3 fun Z1 H1 Fs1 A1 s1=>?_
 cases d with
 | false=>rw [if_neg a0e] at h4 ⊢; exact hU A1 h4 ht fun Z2 H2 Fs2 A2 s2=>k Z2 H2 Fs2 A2 (s1.trans s2)
 | true =>
  rw [if_pos rfl] at h4 ⊢
  cases h4
  cases (h3.symm.trans ht)
  exact k Z1 H1 Fs1 A1 s1
theorem vT {c a b:E}(σ:L2.St)(H:Hp)(Q:VK)(h:wE K sf C (.ifx c a b) σ H Q):tIf (wT K sf C c) (wE K sf C a) (wE K sf C b) σ H Q:=by
 obtain ⟨pv,Z,Fs,η,w,η',A,ev,k⟩:=h
 obtain ⟨⟨u,η1⟩,h1,h2⟩:=aa (show (evE C c η).bind (onT (evE C a) (evE C b))=_ from ev)
 obtain ⟨d,h3,h4⟩:=ba h2
 refine hU A h1 h3 fun Z1 H1 Fs1 A1 s1=>?_
 cases d with
 | true=>rw [if_pos rfl] at h4 ⊢; exact ⟨pv,Z1,Fs1,η1,w,η',A1,h4,fun v Z' H' Fs' G B r s=>k v Z' H' Fs' G B r (s1.trans s)⟩
 | false=>rw [if_neg a0e] at h4 ⊢; exact ⟨pv,Z1,Fs1,η1,w,η',A1,h4,fun v Z' H' Fs' G B r s=>k v Z' H' Fs' G B r (s1.trans s)⟩
theorem tO {e:E}(σ:L2.St)(H:Hp)(Q:VK)(h:wE K sf C (.not e) σ H Q):wE K sf C e σ H fun x H1=>∃ k,TrV K x H1 k/\Q (.bl (!k)) H1:=by
 obtain ⟨pv,Z,Fs,η,w,η',A,ev,k⟩:=h
 obtain ⟨⟨u,η1⟩,h1,h2⟩:=aa (show (evE C e η).bind jP=_ from ev)
 obtain ⟨w',e1,e2⟩:=ai (show ret η1 ((truth u.2).map fun b=>((.d,.bl (!b)):W))=_ from h2)
 cases e2
 cases e3:truth u.2 with
 | none=>rw [e3] at e1; cases e1
 | some c =>
  rw [e3] at e1; cases e1
  exact ⟨pv,Z,Fs,η,u,_,A,h1,fun v Z' H' Fs' G B r s=>⟨c,cM e3 r,k _ Z' H' Fs' no B.bare rfl (s.mono (fun _ z=>z) fun a ha=>ha.elim .inl fun z=>z.elim)⟩⟩
theorem t4 {a b:E}(σ:L2.St)(H:Hp)(Q:VK)(h:wE K sf C (.and a b) σ H Q):wE K sf C a σ H fun x H1=>∃ k,TrV K x H1 k/\if k=true then wE K sf C b σ H1 Q else Q x H1:=by
 obtain ⟨pv,Z,Fs,η,w,η',A,ev,k⟩:=h
 obtain ⟨⟨u,η1⟩,h1,h2⟩:=aa (show (evE C a η).bind (jW (evE C b))=_ from ev)
 obtain ⟨d,h3,h4⟩:=ba (show onT (evE C b) (okW u) (u,η1)=_ from h2)
 refine ⟨pv,Z,Fs,η,u,η1,A,h1,fun v Z1 H1 Fs1 G B r s=>⟨d,cM h3 r,?_⟩⟩
 cases d with
 | true=>rw [if_pos rfl] at h4 ⊢; exact ⟨pv,Z1,Fs1,η1,w,η',B.bare,h4,fun v' Z' H' Fs' G' B' r' s'=>k v' Z' H' Fs' G' B' r' ((s.mono (fun _ z=>z) fun _ z=>.inl z).trans s')⟩
 | false =>
  rw [if_neg a0e] at h4 ⊢
  cases h4
  exact k v Z1 H1 Fs1 G B r s
end
end MR
namespace MR
open L2 L3 M
open PySem (Addr Str sizeLine)
section
variable {K:a0a}{sl:Cf}{sf:Nat->Option Nat}{C:Call}{σ:L2.St}{Z Z' Z1:Fp}{H H' H1:Hp}{Fs Fs' Fs1:Fps}{η η' η1:Env}{G G' R F:Fp}
structure Wk (K:a0a)(J:It)(Z:Fp)(H0:Hp)(ts:List (List W)):Prop where
 go:∀ H i,Stay Z H0 H->i < ts.length->J.go i H
 stop:∀ H i,Stay Z H0 H->ts.length<=i->J.stop i H
 len:ts.length<=LIM
noncomputable def ka (K:a0a)(J:It)(Z:Fp)(H0:Hp)(ts:List (List W)):Prop :=
 ∀ H i x H',Stay Z H0 H->i < ts.length->J.yld i H x H'->H'=H/\∃ w,ts[i]?=some [w]/\Rep K Z H w.1 w.2 x no
noncomputable def zc (K:a0a)(J:It)(Z:Fp)(H0:Hp)(ts:List (List W)):Prop :=
 ∀ H i x H',Stay Z H0 H->i < ts.length->J.yld i H x H'->∃ p y z u w,x=.ref p/\(∀ b o,H b=some o->H' b=some o)/\SqT K H' p [y,z]/\ts[i]?=some [u,w]/\Rep K Z H u.1 u.2 y no/\Rep K Z H w.1 w.2 z no
theorem gz (same:∀ b o,H b=some o->H' b=some o):Stay Z H H':=by
 refine ⟨fun a o _ e=>same a o e,fun a ys e=>?_,fun a o u e=>same a _ e⟩
 rcases e with e | ⟨u,e⟩
 ·exact .inl (same a _ e)
 ·exact .inr ⟨u,same a _ e⟩
theorem d0 (same:∀ a o,H a=some o->H' a=some o):Step Z H G Z H' G:=by
 have al:∀ a,H a≠none->H' a≠none:=fun a h=>by
  cases e:H a with
  | none=>exact absurd e h
  | some o=>rw [same a o e]; simp
 exact ⟨fun a o h _=>same a o h,fun _ h=>h,fun _ h=>.inl h,fun _ h=>.inl h,al,fun z a h=>al a (z a h)⟩
noncomputable def Yld (K:a0a)(J:It)(Z:Fp)(H0:Hp)(ts:List (List W)):Nat->Prop
 | 1=>ka K J Z H0 ts
 | 2=>zc K J Z H0 ts
 | _=>False
noncomputable def wI (K:a0a)(sl:Nat->Option Nat)(C:Call)(n:Nat)(k:Ik)(src:List E):TI:=fun σ H R=>∃ pv Z Fs η ws η' ts,At K ⟨sl,pv⟩ σ Z H Fs η no/\evL C src η=.ok (ws,η')/\bF k ws=some ts /\
 ∀ J Z' H' Fs',At K ⟨sl,pv⟩ σ Z' H' Fs' η' no->Step Z H (tot Fs) Z' H' (tot Fs')->Wk K J Z' H' ts->Yld K J Z' H' ts n->R J H'
theorem At.freeze (A:At K sl σ Z H Fs η G):At K sl σ (fun a=>Z a\/G a) H Fs η no:=by
 refine ⟨⟨fun a ha=>⟨fun z=>z.elim (A.gd.own a ha).1 fun q=>A.dis a q ha,(A.gd.own a ha).2⟩,A.gd.dis,fun a h=>h.elim (A.gd.zal a) fun q=>?_⟩,fun i m t e=>?_,bg,fun _ z=>z.elim,A.lk,A.ln⟩
 ·obtain ⟨_,xs,e⟩:=A.own a q
  rw [e]; simp
 ·obtain ⟨v,r,h⟩:=A.env i m t e
  exact ⟨v,r.zmono fun a h=>.inl h,h⟩
theorem bb (o:Own Z' H' G)(s:Step Z H F Z' H' (fun a=>F' a\/G a)):Step Z H F (fun a=>Z' a\/G a) H' F' where
 keep:=s.keep
 zm:=fun a h=>.inl (s.zm a h)
 zn:=fun a h=>h.elim (s.zn a) fun q=>.inr (s.fn a (.inr q))
 fn:=fun a h=>s.fn a (.inl h)
 al:=s.al
 za:=fun z a h=>h.elim (s.za z a) fun q=>by
  obtain ⟨_,xs,e⟩:=o a q
  rw [e]; simp
theorem fo {a:Addr}{xs:List V}{H0:Hp}(s:Stay Z H0 H)(hz:Z a)(h:H0 a=some (.lst xs)):SqL K H a xs:=.inl (.inl (s.1 a _ hz h))
theorem pY {a:Addr}{xs:List V}{ts:List T}(hL:xs.length<=LIM)(hz:Z a)(h:H a=some (.lst xs))(r:RepL K Z H .s ts xs no):Wk K (Itl K a) Z H (ts.map fun t=>[(.s,t)])/\ka K (Itl K a) Z H (ts.map fun t=>[(.s,t)]):=by
 have hl:=r.length
 refine ⟨⟨fun H' i s hi=>?_,fun H' i s hi=>?_,by rw [a0f]; omega⟩,fun H' i x H'' s hi y=>?_⟩
 ·rw [a0f] at hi
  exact ⟨xs,xs[i]'(by omega),fo s hz h,by simp⟩
 ·rw [a0f] at hi
  exact ⟨xs,fo s hz h,by omega⟩
 ·rw [a0f] at hi
  obtain ⟨rfl,y⟩:=y
  have hx:=y xs (fo s hz h)
  obtain ⟨x',hx',rx⟩:=r.get (show ts[i]?=some ts[i] by simp)
  rw [hx] at hx'; cases hx'
  refine ⟨rfl,(.s,ts[i]),by rw [a0t,show ts[i]?=some ts[i] by simp]; rfl,rx.keep s (fun _ z=>z) fun _ _ z=>z.elim⟩
theorem su {a:Addr}{xs:List V}{ts:List T}(hL:xs.length<=LIM)(h:SqT K H a xs)(r:RepL K Z H .s ts xs no):Wk K (Itt K a) Z H (ts.map fun t=>[(.s,t)])/\ka K (Itt K a) Z H (ts.map fun t=>[(.s,t)]):=by
 have hl:=r.length
 refine ⟨⟨fun H' i s hi=>?_,fun H' i s hi=>?_,by rw [a0f]; omega⟩,fun H' i x H'' s hi y=>?_⟩
 ·rw [a0f] at hi
  exact ⟨xs,xs[i]'(by omega),s.sqt h,by simp⟩
 ·rw [a0f] at hi
  exact ⟨xs,s.sqt h,by omega⟩
 ·rw [a0f] at hi
  obtain ⟨rfl,y⟩:=y
  have hx:=y xs (s.sqt h)
  obtain ⟨x',hx',rx⟩:=r.get (show ts[i]?=some ts[i] by simp)
  rw [hx] at hx'; cases hx'
  refine ⟨rfl,(.s,ts[i]),by rw [a0t,show ts[i]?=some ts[i] by simp]; rfl,rx.keep s (fun _ z=>z) fun _ _ z=>z.elim⟩
theorem vN {lo:Int}{n:Nat}(hL:n<=LIM):Wk K (Itr lo n) Z H ((a0Y n).map fun (k:Nat)=>[(.d,.int (lo+k))])/\ka K (Itr lo n) Z H ((a0Y n).map fun (k:Nat)=>[(.d,.int (lo+k))]):=by
 refine ⟨⟨fun H' i s hi=>by show i < n; simpa using hi,fun H' i s hi=>by show n<=i; simpa using hi,by simpa using hL⟩,fun H' i x H'' s hi y=>?_⟩
 obtain ⟨rfl,rfl⟩:=y
 refine ⟨rfl,(.d,.int (lo+i)),?_,rfl⟩
 rw [a0f,a1K] at hi
 rw [a0t,List.getElem?_range hi]
 rfl
theorem ie {a:Addr}{ns:List Int}{H0:Hp}(s:Stay Z H0 H)(h:ScrR K H0 a ns):SqL K H a (ns.map V.int):=(h.keep s.2.2).sq
theorem tX {a:Addr}{ns:List Int}(hL:ns.length<=LIM)(h:ScrR K H a ns):Wk K (Itl K a) Z H (ns.map fun n=>[(.d,.int n)])/\ka K (Itl K a) Z H (ns.map fun n=>[(.d,.int n)]):=by
 refine ⟨⟨fun H' i s hi=>?_,fun H' i s hi=>?_,by rw [a0f]; exact hL⟩,fun H' i x H'' s hi y=>?_⟩
 ·rw [a0f] at hi
  exact ⟨_,(ns.map V.int)[i]'(by rw [a0f]; exact hi),ie s h,by simp⟩
 ·rw [a0f] at hi
  exact ⟨_,ie s h,by rw [a0f]; exact hi⟩
 ·rw [a0f] at hi
  obtain ⟨rfl,y⟩:=y
  have hx:=y _ (ie s h)
  refine ⟨rfl,(.d,.int ns[i]),by rw [a0t,show ns[i]?=some ns[i] by simp]; rfl,?_⟩
  rw [a0t,show ns[i]?=some ns[i] by simp] at hx
  exact (a0s hx).symm
theorem u0 {e:E}(σ:L2.St)(H:Hp)(R:It->Hp->Prop)(h:wI K sf C 1 .seq [e] σ H R):qQ K (wE K sf C e) σ H R\/xc K (wE K sf C e) σ H R:=by
 obtain ⟨pv,Z,Fs,η,ws,η',ts,A,ev,ht,k⟩:=h
 obtain ⟨⟨m,a⟩,η1,us,e1,e2,rfl⟩:=aL ev
 cases e2
 cases a with
 | lst ts' =>
  cases ht
  refine .inl ⟨pv,Z,Fs,η,_,_,A,e1,fun v Z' H' Fs' G B r s=>?_⟩
  obtain ⟨a,xs,rfl,l,q,p⟩:=Rep.sh r
  obtain ⟨w1,w2⟩:=pY l q.1 q.2 p.sany
  exact ⟨a,rfl,⟨xs,.inl (.inl q.2)⟩,k _ _ H' Fs' B.freeze (bb B.own s) w1 w2⟩
 | tup ts' =>
  cases ht
  refine .inr ⟨pv,Z,Fs,η,_,_,A,e1,fun v Z' H' Fs' G B r s=>?_⟩
  obtain ⟨a,xs,rfl,q,l,p⟩:=Rep.sh r
  obtain ⟨w1,w2⟩:=su l q p.sany
  exact ⟨a,rfl,⟨xs,q⟩,k _ _ H' Fs' B.freeze (bb B.own s) w1 w2⟩
 | scr ns =>
  cases ht
  refine .inl ⟨pv,Z,Fs,η,_,_,A,e1,fun v Z' H' Fs' G B r s=>?_⟩
  obtain ⟨a,rfl,hl,q⟩:=r
  obtain ⟨w1,w2⟩:=tX (Z:=fun a=>Z' a\/G a) hl q
  exact ⟨a,rfl,⟨_,q.sq⟩,k _ _ H' Fs' B.freeze (bb B.own s) w1 w2⟩
 | _=>cases ht
theorem p62:(2:Int) ^ 62=4611686018427387904:=by decide
theorem pq {e:E}(σ:L2.St)(H:Hp)(R:It->Hp->Prop)(h:wI K sf C 1 .rng [e] σ H R):qY (wL K sf C [e]) σ H R:=by
 obtain ⟨pv,Z,Fs,η,ws,η',ts,A,ev,ht,k⟩:=h
 refine ⟨pv,Z,Fs,η,ws,η',A,ev,fun vs Z' H' Fs' G B r s=>?_⟩
 obtain ⟨⟨m,a⟩,η1,us,e1,e2,rfl⟩:=aL ev
 cases e2
 obtain ⟨x,rfl,r1⟩:=cA rfl r
 cases a with
 | int n =>
  rw [mQ] at ht
  split at ht
  ·rename_i hc
   rw [a0c,decide_eq_true_eq] at hc
   cases ht
   refine ⟨n,by rw [show x=_ from r1],by rw [p62]; omega,by rw [p62]; omega,?_⟩
   obtain ⟨w1,w2⟩:=vN (K:=K) (Z:=fun a=>Z' a\/G a) (H:=H') (lo:=0) (n:=n.toNat) (b5 hc.2)
   have hz:∀ k:Nat,(0:Int)+(k:Int)=k:=fun k=>by omega
   simp only [hz] at w1 w2
   exact k _ _ H' Fs' B.freeze (bb B.own s) w1 w2
  ·cases ht
 | _=>cases ht
end
end MR
namespace MR
open L2 L3 M
open PySem (Addr Str sizeLine)
section
variable {K:a0a}{sl:Cf}{sf sg:Nat->Option Nat}{C:Call}{σ σ2:L2.St}{Z Z' Z1:Fp}{H H' H1:Hp}{Fs Fs' Fs1:Fps}{η η' η1:Env}{G G' R F:Fp}{tg is:List Nat}{pv val:Nat->Option V}
theorem aC:∀ (tg:List Nat) (η:Env) (i:Nat),rd (aj tg η) i=if i∈tg then none else rd η i
 | [],η,i=>by simp [aj]
 | t::tg,η,i=>by
  show rd (aj tg (wr η t none)) i=_
  rw [aC tg,a7]
  by_cases h1:i∈tg
  ·simp [h1]
  ·by_cases h2:i=t
   ·subst h2
    rw [if_neg h1,if_pos a0o]
    split
    ·rfl
    ·rename_i hn
     cases e:rd η i with
     | none=>rfl
     | some w=>exact absurd ⟨rfl,cD e⟩ hn
   ·rw [if_neg h1,if_neg (show ¬ i∈t::tg by simp [h1,h2]),if_neg (show ¬ (i=t/\t < η.length) from fun h=>h2 h.1)]
noncomputable def Nn (η η':Env):Prop:=∀ i,rd η i=none->rd η' i=none
theorem Nn.refl (η:Env):Nn η η:=fun _ h=>h
theorem Nn.trans {a b c:Env}(h:Nn a b)(k:Nn b c):Nn a c:=fun i e=>k i (h i e)
theorem hI (η:Env)(j:Nat):Nn η (del η j):=fun i e=>by
 rw [a7]; split
 ·rfl
 ·exact e
theorem lx {η:Env}{j:Nat}{w:W}(h:rd η j≠none):Nn η (put η j w):=fun i e=>by
 rw [a7]; split
 ·rename_i hc; rw [<- hc.1] at h; exact absurd e h
 ·exact e
theorem cV:∀ {is:List Nat} {ws:List W} {η0 η:Env},(∀ i∈is,rd η0 i≠none)->Nn η0 η->Nn η0 (putAll is ws η)
 | [],_,_,_,_,h=>h
 | _::_,[],_,_,_,h=>h
 | i::is,w::ws,η0,η,hi,h=>by
  show Nn η0 (putAll is ws (put η i w))
  refine cV (fun j hj=>hi j (a0n _ hj)) fun j e=>?_
  rw [a7]; split
  ·rename_i hc; rw [hc.1] at e; exact absurd e (hi i a0o)
  ·exact h j e
theorem dS {f:Env->Res (Option W×Env)}(hf:∀ {η o η'},f η=.ok (o,η')->Nn η η'):∀ {ts:List (List W)} {η η':Env} {acc ws:List W},(∀ i∈tg,rd η i=none)->aG tg f ts η acc=.ok (ws,η')->Nn η η'
 | [],η,η',acc,ws,_,h=>by cases h; exact Nn.refl _
 | t::ts,η,η',acc,ws,ht,h=>by
  obtain ⟨η1,h1,h2⟩:=aa (show (ofO (aT tg t η)).bind (fun η1=>(f η1).bind fun p=>aG tg f ts (aj tg p.2) (acc++p.1.toList))=_ from h)
  obtain ⟨⟨o,η2⟩,h3,h4⟩:=aa h2
  have hb:∀ {tg:List Nat} {t:List W} {η η1:Env},aT tg t η=some η1->∀ i,i ∉ tg->rd η1 i=rd η i:=fun {tg}=>by
   induction tg with
   | nil=>intro t η η1 h i hi; cases t with
    | nil=>cases h; rfl
    | cons _ _=>cases h
   | cons j tg ih=>intro t η η1 h i hi; cases t with
    | nil=>cases h
    | cons w t =>
     have:=ih (show aT tg t (put η j w)=some η1 from h) i (fun z=>hi (a0n _ z))
     rw [this,a7,if_neg fun z=>hi (by rw [z.1]; exact a0o)]
  have e1:=hb (bQ h1)
  have hd:∀ i,rd η i=none->rd (aj tg η2) i=none:=fun i e=>by
   rw [aC]
   split
   ·rfl
   ·rename_i hi
    exact hf h3 i (by rw [e1 i hi]; exact e)
  exact Nn.trans (b:=aj tg η2) hd (dS hf (fun i hi=>by rw [aC,if_pos hi]) h4)
noncomputable def dE (sf sg:Nat->Option Nat)(tg:List Nat)(is:List Nat):Prop :=
 ∀ i j,sg i=some j->(∃ k:Nat,tg[k]?=some i/\j=k)\/(i ∉ tg/\∃ (k j0:Nat),j=tg.length+k/\is[k]?=some j0/\sf i=some j0)
theorem At.pin (A:At K ⟨sf,pv⟩ σ Z H Fs η G):∃ val,(∀ i u,pv i=some u->val i=some u)/\At K ⟨sf,val⟩ σ Z H Fs η G/\∀ i m t,rd η i=some (m,t)->val i≠none:=by
 have ch:∀ i,∃ o:Option V,(∀ u,pv i=some u->o=some u)/\(∀ u j,o=some u->sf i=some j->σ[j]?=some (some u))/\∀ m t,rd η i=some (m,t)->∃ v,o=some v/\Rep K Z H m t v (Fs i)/\(∀ j,sf i=some j->σ[j]?=some (some v)):=fun i=>by
  cases e:rd η i with
  | none=>exact ⟨pv i,fun _ h=>h,fun u j h hs=>A.lk i u j h hs,fun _ _ h=>by cases h⟩
  | some w =>
   obtain ⟨m,t⟩:=w
   obtain ⟨v,r,h1,h2⟩:=A.env i m t e
   refine ⟨some v,fun u h=>by rw [h2 u h],fun u j h hs=>?_,fun m' t' h=>by cases h; exact ⟨v,rfl,r,h1⟩⟩
   cases h
   exact h1 j hs
 obtain ⟨val,hval⟩:=Classical.axiomOfChoice ch
 refine ⟨val,fun i u h=>(hval i).1 u h,⟨A.gd,fun i m t e=>?_,A.own,A.dis,fun i u j h hs=>(hval i).2.1 u j h hs,A.ln⟩,fun i m t e=>?_⟩
 ·obtain ⟨v,h1,r,h2⟩:=(hval i).2.2 m t e
  exact ⟨v,r,h2,fun u hu=>by rw [show val i=some u from hu] at h1; cases h1; rfl⟩
 ·obtain ⟨v,h1,r,h2⟩:=(hval i).2.2 m t e
  rw [h1]; simp
theorem At.unpin (h:∀ i u,pv i=some u->val i=some u)(A:At K ⟨sf,val⟩ σ Z H Fs η G):At K ⟨sf,pv⟩ σ Z H Fs η G :=
 ⟨A.gd,fun i m t e=>let ⟨v,r,h1,h2⟩:=A.env i m t e; ⟨v,r,h1,fun u hu=>h2 u (h i u hu)⟩,A.own,A.dis,fun i u j hu hs=>A.lk i u j (h i u hu) hs,A.ln⟩
noncomputable def inV (val:Nat->Option V)(tg:List Nat):Nat->Option V:=fun i=>if i∈tg then none else val i
theorem At.into (I:dE sf sg tg is)(ht:∀ i∈tg,rd η i=none)(hσ:∀ (k j0:Nat) (v:V),is[k]?=some j0->σ[j0]?=some (some v)->σ2[tg.length+k]?=some (some v))(hl:∀ i j,sg i=some j->j < σ2.length)(A:At K ⟨sf,val⟩ σ Z H Fs η G):At K ⟨sg,inV val tg⟩ σ2 Z H Fs η G:=by
 refine ⟨A.gd,fun i m t e=>?_,A.own,A.dis,fun i u j hu hs=>?_,hl⟩
 ·have hi:i ∉ tg:=fun h=>by rw [ht i h] at e; cases e
  obtain ⟨v,r,h1,h2⟩:=A.env i m t e
  refine ⟨v,r,fun j hj=>?_,fun u hu=>h2 u (by have h3:inV val tg i=some u:=hu; unfold inV at h3; rw [if_neg hi] at h3; exact h3)⟩
  rcases I i j hj with ⟨k,hk,_⟩ | ⟨_,k,j0,rfl,hk,hs⟩
  ·exact absurd (a02 hk) hi
  ·exact hσ k j0 v hk (h1 j0 hs)
 ·have hi:i ∉ tg:=fun h=>by
   have hu':inV val tg i=some u:=hu
   unfold inV at hu'; rw [if_pos h] at hu'; cases hu'
  have hu':val i=some u:=by have h3:inV val tg i=some u:=hu; unfold inV at h3; rw [if_neg hi] at h3; exact h3
  rcases I i j hs with ⟨k,hk,_⟩ | ⟨_,k,j0,rfl,hk,hs⟩
  ·exact absurd (a02 hk) hi
  ·exact hσ k j0 u hk (A.lk i u j0 hu' hs)
theorem At.outof (ht:∀ i∈tg,rd η i=none)(hv:∀ i m t,rd η i=some (m,t)->val i≠none)(lk:∀ i u j,val i=some u->sf i=some j->σ[j]?=some (some u))(ln:∀ i j,sf i=some j->j < σ.length)(A:At K ⟨sg,inV val tg⟩ σ2 Z H Fs η G):At K ⟨sf,val⟩ σ Z H Fs η G:=by
 refine ⟨A.gd,fun i m t e=>?_,A.own,A.dis,lk,ln⟩
 have hi:i ∉ tg:=fun h=>by rw [ht i h] at e; cases e
 obtain ⟨v,r,h1,h2⟩:=A.env i m t e
 cases hu:val i with
 | none=>exact absurd hu (hv i m t e)
 | some u =>
  have:v=u:=h2 u (by show inV val tg i=some u; unfold inV; rw [if_neg hi]; exact hu)
  subst this
  exact ⟨v,r,fun j hj=>lk i v j hu hj,fun u' hu'=>by rw [show val i=some u' from hu'] at hu; cases hu; rfl⟩
end
section
variable {C:Call}
theorem dN:∀ (vs:List Nat) (η:Env),Nn η (M.share vs η)
 | [],η=>fun _ e=>e
 | v::vs,η=>Nn.trans (b:=wr η v (toS (rd η v))) (fun i e=>by
   rw [a7]; split
   ·rename_i hc; rw [<- hc.1,e]; rfl
   ·exact e) (dN vs _)
theorem mV (m:Md)(vs:List Nat)(η:Env):Nn η (after m vs η):=by
 cases m with
 | d=>exact fun _ e=>e
 | s=>exact dN vs η
 | o _=>exact dN vs η
theorem cn {α:Type}{tab:List (Str×α)}{f:α->Env->RE}{p:W×Env}{r:W×Env}(h:kTab tab f p=.ok r):∃ x a,p.1.2=.str x/\tab.lookup x=some a/\f a p.2=.ok r:=by
 unfold kTab at h
 split at h
 ·rename_i x hx
  split at h
  ·rename_i a ha; exact ⟨x,a,hx,ha,h⟩
  ·cases h
 ·cases h
theorem fE {neg:Bool}{ks:List Str}{p r:W×Env}(h:kIn neg ks p=.ok r):∃ x,p.1.2=.str x/\r.2=p.2/\r.1=(.d,.bl (ks.contains x != neg)):=by
 unfold kIn at h
 split at h
 ·rename_i x hx; cases h; exact ⟨x,hx,rfl,rfl⟩
 ·cases h
theorem kS {tab:List (Str×T)}{p r:W×Env}(h:oa tab p=.ok r):∃ x,p.1.2=.str x/\r.2=p.2/\r.1=(.s,(tab.lookup x).getD .non):=by
 unfold oa at h
 split at h
 ·rename_i x hx; cases h; exact ⟨x,hx,rfl,rfl⟩
 ·cases h
mutual
theorem ao:∀ (e:E) {η η':Env} {w:W},evE C e η=.ok (w,η')->Nn η η'
 | .var i,η,η',w,h=>by obtain ⟨_,_,e⟩:=ai (show ret η ((rd η i).bind look)=_ from h); cases e; exact Nn.refl _
 | .mv i,η,η',w,h=>by obtain ⟨_,_,e⟩:=ai (show ret (del η i) (rd η i)=_ from h); cases e; exact hI _ _
 | .io i,η,η',w,h=>by obtain ⟨_,_,e⟩:=ai (show ret (del η i) (rd η i)=_ from h); cases e; exact hI _ _
 | .cst t,η,η',w,h=>by cases h; exact Nn.refl _
 | .glb _ t,η,η',w,h=>by cases h; exact Nn.refl _
 | .tup es,η,η',w,h=>by
  obtain ⟨⟨ws,η1⟩,h1,h2⟩:=aa (show (evL C es η).bind il=_ from h)
  cases h2; exact cj es h1
 | .lst b es,η,η',w,h=>by
  obtain ⟨⟨ws,η1⟩,h1,h2⟩:=aa (show (evL C es η).bind (kL b)=_ from h)
  cases h2; exact cj es h1
 | .wk m e,η,η',w,h=>by
  obtain ⟨⟨u,η1⟩,h1,h2⟩:=aa (show (evE C e η).bind (kWk m)=_ from h)
  obtain ⟨_,_,e3⟩:=ai (show ret η1 _=_ from h2)
  cases e3; exact ao e h1
 | .op o b es,η,η',w,h=>by
  obtain ⟨ws,h1,h2⟩:=cc h
  exact cj es h1
 | .and a b,η,η',w,h=>by
  obtain ⟨⟨u,η1⟩,h1,h2⟩:=aa (show (evE C a η).bind (jW (evE C b))=_ from h)
  obtain ⟨d,h3,h4⟩:=ba (show onT (evE C b) (okW u) (u,η1)=_ from h2)
  cases d with
  | true=>rw [if_pos rfl] at h4; exact (ao a h1).trans (ao b h4)
  | false=>rw [if_neg a0e] at h4; cases h4; exact ao a h1
 | .or a b,η,η',w,h=>by
  obtain ⟨⟨u,η1⟩,h1,h2⟩:=aa (show (evE C a η).bind (kOr (evE C b))=_ from h)
  obtain ⟨d,h3,h4⟩:=ba (show onT (okW u) (evE C b) (u,η1)=_ from h2)
  cases d with
  | false=>rw [if_neg a0e] at h4; exact (ao a h1).trans (ao b h4)
  | true=>rw [if_pos rfl] at h4; cases h4; exact ao a h1
 | .not a,η,η',w,h=>by
  obtain ⟨⟨u,η1⟩,h1,h2⟩:=aa (show (evE C a η).bind jP=_ from h)
  obtain ⟨_,_,e3⟩:=ai (show ret η1 _=_ from h2)
  cases e3; exact ao a h1
 | .ifx c a b,η,η',w,h=>by
  obtain ⟨⟨u,η1⟩,h1,h2⟩:=aa (show (evE C c η).bind (onT (evE C a) (evE C b))=_ from h)
  obtain ⟨d,h3,h4⟩:=ba h2
  cases d with
  | true=>rw [if_pos rfl] at h4; exact (ao c h1).trans (ao a h4)
  | false=>rw [if_neg a0e] at h4; exact (ao c h1).trans (ao b h4)
 | .chain o q a b c,η,η',w,h=>by
  obtain ⟨⟨x,η1⟩,h1,h2⟩:=aa (show (evE C a η).bind (kC1 o q (evE C b) (evE C c))=_ from h)
  obtain ⟨⟨y,η2⟩,h3,h4⟩:=aa (show (evE C b η1).bind (kC2 o q (evE C c) x)=_ from h2)
  obtain ⟨⟨k,η3⟩,h5,h6⟩:=aa (show (ret η2 (oSem o false [x,y])).bind (fun k=>onB k.1.2 (then' (evE C c) (kC3 q y)) (okW (.d,.bl false)) k.2)=_ from h4)
  obtain ⟨k',_,e5⟩:=ai h5
  have e6:η3=η2:=congrArg a1C e5
  have n2:=(ao a h1).trans (ao b h3)
  have h6':onB k.2 (then' (evE C c) (kC3 q y)) (okW (.d,.bl false)) η2=.ok (w,η'):=by rw [<- e6]; exact h6
  generalize k.2=kk at h6'
  cases kk with
  | bl b =>
   cases b with
   | true =>
    obtain ⟨⟨z,η4⟩,h7,h8⟩:=aa (show (evE C c η2).bind (kC3 q y)=_ from h6')
    obtain ⟨z',_,e8⟩:=ai (show ret η4 (oSem q false [y,z])=_ from h8)
    have e9:η'=η4:=congrArg a1C e8
    rw [e9]
    exact n2.trans (ao c h7)
   | false=>cases h6'; exact n2
  | _=>cases h6'
 | .call f es,η,η',w,h=>by
  obtain ⟨⟨ws,η1⟩,h1,h2⟩:=aa (show (evA C es η).bind (kCall C f (ios es))=_ from h)
  obtain ⟨⟨u,us⟩,h3,h4⟩:=aa (show (C f ws).bind (kBack (ios es) η1)=_ from h2)
  cases h4
  exact cV (dY es h1) (cg es h1)
 | .comp b k src tg none elt,η,η',w,h=>by
  obtain ⟨⟨ws,η1⟩,h1,h2⟩:=aa (show (evL C src η).bind (cG b k tg (b0 (evE C elt)))=_ from h)
  obtain ⟨⟨ts,η2⟩,h3,h4⟩:=aa (show (ret (aj tg η1) (bF k ws)).bind (fun t=>(aG tg (b0 (evE C elt)) t.1 t.2 []).bind (fW b))=_ from h2)
  obtain ⟨_,_,e3⟩:=ai h3
  have e4:η2=aj tg η1:=congrArg a1C e3
  subst e4
  obtain ⟨⟨us,η3⟩,h5,h6⟩:=aa (show (aG tg (b0 (evE C elt)) ts (aj tg η1) []).bind (fW b)=_ from h4)
  obtain ⟨_,_,e6⟩:=ai (show ret η3 _=_ from h6)
  have e7:η'=η3:=congrArg a1C e6
  subst e7
  refine (cj src h1).trans (Nn.trans (b:=aj tg η1) (fun i e=>by rw [aC]; split<;>first | rfl | exact e) (dS (fun {η o η'} hf=>?_) (fun i hi=>by rw [aC,if_pos hi]) h5))
  obtain ⟨⟨u,η4⟩,h7,h8⟩:=aa (show (evE C elt η).bind cZ=_ from hf)
  cases h8
  exact ao elt h7
 | .comp b k src tg (some c) elt,η,η',w,h=>by
  obtain ⟨⟨ws,η1⟩,h1,h2⟩:=aa (show (evL C src η).bind (cG b k tg (gb (evE C c) (evE C elt)))=_ from h)
  obtain ⟨⟨ts,η2⟩,h3,h4⟩:=aa (show (ret (aj tg η1) (bF k ws)).bind (fun t=>(aG tg (gb (evE C c) (evE C elt)) t.1 t.2 []).bind (fW b))=_ from h2)
  obtain ⟨_,_,e3⟩:=ai h3
  have e4:η2=aj tg η1:=congrArg a1C e3
  subst e4
  obtain ⟨⟨us,η3⟩,h5,h6⟩:=aa (show (aG tg (gb (evE C c) (evE C elt)) ts (aj tg η1) []).bind (fW b)=_ from h4)
  obtain ⟨_,_,e6⟩:=ai (show ret η3 _=_ from h6)
  have e7:η'=η3:=congrArg a1C e6
  subst e7
  refine (cj src h1).trans (Nn.trans (b:=aj tg η1) (fun i e=>by rw [aC]; split<;>first | rfl | exact e) (dS (fun {η o η'} hf=>?_) (fun i hi=>by rw [aC,if_pos hi]) h5))
  obtain ⟨⟨u,η4⟩,h7,h8⟩:=aa (show (evE C c η).bind (onT (b0 (evE C elt)) (okW none))=_ from hf)
  obtain ⟨d,h9,h10⟩:=ba h8
  cases d with
  | true =>
   rw [if_pos rfl] at h10
   obtain ⟨⟨u2,η5⟩,h11,h12⟩:=aa (show (evE C elt η4).bind cZ=_ from h10)
   cases h12
   exact (ao c h7).trans (ao elt h11)
  | false =>
   rw [if_neg a0e] at h10
   cases h10
   exact ao c h7
 | .pop i es,η,η',w,h=>by
  obtain ⟨_,_,h0⟩:=aa (show (eX (rd η i)).bind (gR (evL C es) η (kf i))=_ from h)
  obtain ⟨⟨ws,η1⟩,h1,h2⟩:=aa (show (evL C es η).bind (kf i)=_ from h0)
  obtain ⟨r,h3,h4⟩:=aa (show (ofO ((rd η1 i).bind fun w=>fB w ws)).bind (fun r=>.ok (r.1,put η1 i r.2))=_ from h2)
  cases h4
  refine (cj es h1).trans (lx ?_)
  have:=bQ h3
  intro e; rw [e] at this; cases this
 | .lenV i,η,η',w,h=>by obtain ⟨_,_,e⟩:=ai (show ret η ((rd η i).bind fun w=>oSem .len false [w])=_ from h); cases e; exact Nn.refl _
 | .tupA es,η,η',w,h=>by
  obtain ⟨⟨ws,η1⟩,h1,h2⟩:=aa (show (evA C es η).bind il=_ from h)
  cases h2; exact cg es h1
 | .qx vs ls e,η,η',w,h=>by
  obtain ⟨⟨u,η1⟩,h1,h2⟩:=aa (show (evE C e (pick vs ls η)).bind (kX vs η)=_ from h)
  cases h2
  exact mV _ vs η
 | .mvP i p,η,η',w,h=>by
  obtain ⟨r,h1,h2⟩:=aa (show (ofO ((rd η i).bind (rC p))).bind (xS i η)=_ from h)
  cases h2
  refine lx fun e=>?_
  have:=bQ h1
  rw [e] at this; cases this
 | .callT tab k es,η,η',w,h=>by
  obtain ⟨⟨u,η1⟩,h1,h2⟩:=aa (show (evE C k η).bind (kTab tab (kCT C (evA C es) (ios es)))=_ from h)
  obtain ⟨x,j,_,_,h3⟩:=cn h2
  obtain ⟨⟨ws,η2⟩,h4,h5⟩:=aa (show (evA C es η1).bind (kCall C j (ios es))=_ from h3)
  obtain ⟨⟨r,bs⟩,h6,h7⟩:=aa (show (C j ws).bind (kBack (ios es) η2)=_ from h5)
  cases h7
  exact (ao k h1).trans (cV (dY es h4) (cg es h4))
 | .inT neg ks e,η,η',w,h=>by
  obtain ⟨⟨u,η1⟩,h1,h2⟩:=aa (show (evE C e η).bind (kIn neg ks)=_ from h)
  obtain ⟨x,_,e2,_⟩:=fE h2
  cases e2; exact ao e h1
 | .ixT tab e,η,η',w,h=>by
  obtain ⟨⟨u,η1⟩,h1,h2⟩:=aa (show (evE C e η).bind (kTab tab okS)=_ from h)
  obtain ⟨x,j,_,_,h3⟩:=cn h2
  cases h3; exact ao e h1
 | .getT tab e,η,η',w,h=>by
  obtain ⟨⟨u,η1⟩,h1,h2⟩:=aa (show (evE C e η).bind (oa tab)=_ from h)
  obtain ⟨x,_,e2,_⟩:=kS h2
  cases e2; exact ao e h1
theorem cj:∀ (es:List E) {η η':Env} {ws:List W},evL C es η=.ok (ws,η')->Nn η η'
 | [],η,η',ws,h=>by cases h; exact Nn.refl _
 | e::es,η,η',ws,h=>by
  obtain ⟨w,η1,us,h1,h2,_⟩:=aL h
  exact (ao e h1).trans (cj es h2)
theorem cg:∀ (es:List E) {η η':Env} {ws:List W},evA C es η=.ok (ws,η')->Nn η η'
 | [],η,η',ws,h=>by cases h; exact Nn.refl _
 | e::es,η,η',ws,h=>by
  rcases xp e with ⟨i,hi⟩ | he
  ·subst hi
   obtain ⟨us,η1,w,h1,_,_,h4⟩:=fz h
   rw [h4]
   exact (cg es h1).trans (hI _ _)
  ·obtain ⟨w,η1,us,h1,h2,_⟩:=dJ he h
   exact (ao e h1).trans (cg es h2)
theorem dY:∀ (es:List E) {η η':Env} {ws:List W},evA C es η=.ok (ws,η')->∀ i∈ios es,rd η i≠none
 | [],_,_,_,_,i,hi=>by simp [ios] at hi
 | e::es,η,η',ws,h,i,hi=>by
  rcases xp e with ⟨j,hj⟩ | he
  ·subst hj
   obtain ⟨us,η1,w,h1,h2,_,_⟩:=fz h
   rcases a0E.mp (show i∈j::ios es from hi) with z | z
   ·subst z
    exact fun z=>by rw [cg es h1 i z] at h2; cases h2
   ·exact dY es h1 i z
  ·obtain ⟨w,η1,us,h1,h2,_⟩:=dJ he h
   have hi':i∈ios es:=by
    cases e with
    | io j=>exact absurd rfl (he j)
    | _=>exact hi
   exact fun z=>dY es h2 i hi' (ao e h1 i z)
end
end
section
variable {K:a0a}{sl:Cf}{sf sg:Nat->Option Nat}{C:Call}{σ σ2:L2.St}{Z Z' Z1:Fp}{H H' H1:Hp}{Fs Fs' Fs1:Fps}{η η' η1 ηb:Env}{G G' R F:Fp}{tg is:List Nat}{pv val:Nat->Option V}
noncomputable def gT (K:a0a):Nat->TG
 | 1=>cK 0
 | 2=>xM K 2 (i7 (cK 0) (i7 (cK 1) vX))
 | _=>fun _ _ _ _=>False
theorem At.put1 {i:Nat}{w:W}{x:V}(A:At K sl σ Z H Fs η G)(r:Rep K Z H w.1 w.2 x (Fs i))(hl:∀ j,sl.sl i=some j->σ[j]?=some (some x))(hp:sl.pv i=none):At K sl σ Z H Fs (put η i w) G:=by
 refine ⟨A.gd,fun j m t e=>?_,A.own,A.dis,A.lk,A.ln⟩
 rw [a7] at e
 split at e
 ·rename_i hc
  cases e
  obtain ⟨rfl,_⟩:=hc
  exact ⟨x,r,hl,fun u hu=>by rw [hp] at hu; cases hu⟩
 ·exact A.env j m t e
theorem gL {k j0:Nat}{v:V}(h1:is[k]?=some j0)(h2:σ[j0]?=some (some v)):(bh σ is)[k]?=some (some v):=by
 unfold bh
 rw [a0t,h1]
 show some ((σ[j0]?).join)=_
 rw [h2]
 rfl
theorem eg (I:dE sf sg tg is)(h:σ2.length=tg.length+is.length):∀ i j,sg i=some j->j < σ2.length:=fun i j hj=>by
 rcases I i j hj with ⟨k,hk,rfl⟩ | ⟨_,k,j0,rfl,hk,_⟩
 ·have:=(a0p.mp hk).1
  omega
 ·have:=(a0p.mp hk).1
  omega
theorem jC {n i:Nat}{J:It}{ts:List (List W)}{ws:List W}{x:V}{Q:L2.St->Hp->Prop}(hn:tg.length=n)(nd:tg.Nodup)(I:dE sf sg tg is)(hz:∀ a,Z1 a->Z a)(st:Stay Z1 H1 H)(yl:Yld K J Z1 H1 ts n)(A:At K ⟨sf,val⟩ σ Z H Fs η G)
  (ht:∀ i∈tg,rd η i=none) (hw:ts[i]?=some ws) (hb:aT tg ws η=some ηb) (y:J.yld i H x H')
  (k:∀ σ2 H2,At K ⟨sg,inV val tg⟩ σ2 Z H2 Fs ηb G->Step Z H no Z H2 no->(σ2.length=n+(bh σ is).length/\σ2.drop n=bh σ is)->Q σ2 H2):gT K n x (a0g n none++bh σ is) H' Q:=by
 have hi:i < ts.length:=(a0p.mp hw).1
 have own0:∀ {t:Nat},t∈tg->inV val tg t=none:=fun {t} h=>if_pos h
 match n,yl with
 | 1,yl =>
  obtain ⟨e0,w,hw',r⟩:=yl H i x H' st hi y
  rw [e0]
  rw [hw] at hw'; cases hw'
  match tg,hn with
  | [t],_ =>
   cases hb
   have r':Rep K Z H w.1 w.2 x (Fs t):=(r.zmono hz).mono fun _ z=>z.elim
   refine k _ H ?_ (Step.refl _ _ _) ⟨by simp [a1X],rfl⟩
   refine (A.into (σ2:=some x::bh σ is) I ht (fun k j0 v h1 h2=>?_) (eg I (by simp [bh,a1X]))).put1 r' (fun j hj=>?_) (own0 (by simp))
   ·rw [a0D,a1X,a0v]; exact gL h1 h2
   ·rcases I t j hj with ⟨k,hk,rfl⟩ | ⟨h,_⟩
    ·cases j with
     | zero=>rfl
     | succ _=>simp at hk
    ·exact absurd (a0G.mpr rfl) h
 | 2,yl =>
  obtain ⟨p,y1,z1,u,w,rfl,sm,hq,hw',r1,r2⟩:=yl H i x H' st hi y
  rw [hw] at hw'; cases hw'
  match tg,hn with
  | [t,t'],_ =>
   cases hb
   have hne:t≠t':=fun z=>by simp [z] at nd
   have s1:Step Z H G Z H' G:=d0 sm
   have o1:Own Z H' G:=fun a ha=>by
    obtain ⟨nz,ys,e⟩:=A.own a ha
    exact ⟨nz,ys,sm _ _ e⟩
   obtain ⟨A1,_⟩:=A.op o1 s1
   have sn:Stay Z H H':=gz sm
   have r1':Rep K Z H' u.1 u.2 y1 (Fs t):=((r1.zmono hz).keep sn (fun _ z=>z) fun _ _ z=>z.elim).mono fun _ z=>z.elim
   have r2':Rep K Z H' w.1 w.2 z1 (Fs t'):=((r2.zmono hz).keep sn (fun _ z=>z) fun _ _ z=>z.elim).mono fun _ z=>z.elim
   have s0:Step Z H no Z H' no:=d0 sm
   refine ⟨p,[y1,z1],rfl,hq,rfl,y1,[z1],rfl,z1,[],rfl,rfl,k (some y1::some z1::bh σ is) _ ?_ s0 ⟨by simp; omega,rfl⟩⟩
   refine ((A1.into (σ2:=some y1::some z1::bh σ is) I ht (fun k j0 v h1 h2=>?_) (eg I (by simp [bh]; omega))).put1 r1' (fun j hj=>?_) (own0 (by simp))).put1 r2' (fun j hj=>?_) (own0 (by simp))
   ·rw [show [t,t'].length+k=k+1+1 by simp; omega,a0v,a0v]; exact gL h1 h2
   ·rcases I t j hj with ⟨k,hk,rfl⟩ | ⟨h,_⟩
    ·match j,hk with
     | 0,_=>rfl
     | 1,hk=>exact absurd (a0s hk).symm hne
    ·exact absurd (by simp) h
   ·rcases I t' j hj with ⟨k,hk,rfl⟩ | ⟨h,_⟩
    ·match j,hk with
     | 0,hk=>exact absurd (a0s hk) hne
     | 1,_=>rfl
    ·exact absurd (by simp) h
noncomputable def da (Fs:Fps)(tg:List Nat):Fps:=fun j a=>j ∉ tg/\Fs j a
theorem bK {a:Addr}(h:tot (da Fs tg) a):tot Fs a:=let ⟨j,_,h2⟩:=h; ⟨j,h2⟩
theorem At.dels (A:At K sl σ Z H Fs η G):At K sl σ Z H (da Fs tg) (aj tg η) G:=by
 refine ⟨⟨fun a h=>A.gd.own a (bK h),fun i j a h1 h2=>A.gd.dis i j a h1.2 h2.2,A.gd.zal⟩,fun i m t e=>?_,A.own,fun a h q=>A.dis a h (bK q),A.lk,A.ln⟩
 rw [aC] at e
 split at e
 ·cases e
 ·rename_i hi
  obtain ⟨v,r,h⟩:=A.env i m t e
  exact ⟨v,r.mono fun a ha=>⟨hi,ha⟩,h⟩
theorem dw:∀ {tg:List Nat} {t:List W} {η η1:Env},aT tg t η=some η1->∀ i,i ∉ tg->rd η1 i=rd η i
 | [],[],η,η1,h,i,_=>by cases h; rfl
 | [],_::_,_,_,h,_,_=>by cases h
 | _::_,[],_,_,h,_,_=>by cases h
 | j::tg,w::t,η,η1,h,i,hi=>by
  rw [dw (show aT tg t (put η j w)=some η1 from h) i fun z=>hi (a0n _ z),a7,if_neg fun z=>hi (by rw [z.1]; exact a0o)]
structure CSt (K:a0a)(sf:Nat->Option Nat)(val:Nat->Option V)(σ:L2.St)(tg:List Nat)(f:Env->Res (Option W×Env))(ts:List (List W))(η0:Env)(us:List W)(η3:Env)(Z1:Fp)(H1:Hp)(F1:Fp)(i:Nat)(ys:List V)(H:Hp):Prop where
 ex:∃ (Z:Fp) (Fs:Fps) (η:Env) (acc:List W) (G:Fp),At K ⟨sf,val⟩ σ Z H Fs η G/\RepW K Z H acc ys G/\aG tg f (ts.drop i) η acc=.ok (us,η3)/\(∀ j∈tg,rd η j=none)/\(∀ j∈tg,∀ a,¬ Fs j a)/\Nn η0 η/\Step Z1 H1 F1 Z H (fun a=>tot Fs a\/G a)
 len:ys.length<=i
theorem lC {h:Bool}{us:List W}{ys:List V}{w:W}{Q:VK}(o:Own Z H G)(za:∀ a,Z a->H a≠none)(r:RepW K Z H us ys G)(hl:ys.length<=LIM)(hn:(if h then (if us.all okD then some ((.d,.lst (aX us)):W) else none) else some (.o .s,.lst (aX us)))=some w)(k:Out K Z H G w Q):∀ p,H p=none->Q (.ref p) (upd H p (.lst ys)):=by
 intro p hp
 cases h with
 | true =>
  rw [if_pos rfl] at hn
  split at hn
  ·rename_i ha
   cases hn
   rw [a0J] at ha
   obtain ⟨G',g1,g2⟩:=RepW.to (N:=.d) (fun u hu=>by
    have:=ha u hu
    unfold okD at this
    rw [a2r] at this
    unfold M.lf
    split
    ·rfl
    ·rename_i hnl
     rcases this with z | z
     ·rw [eq_of_beq z]; rfl
     ·exact absurd z hnl) r
   exact bG (m:=.d) o za g1 hl g2 (by simp) k hp
  ·cases hn
 | false =>
  rw [if_neg a0e] at hn
  cases hn
  obtain ⟨G',g1,g2⟩:=RepW.to (N:=.s) (fun u hu=>by cases M.lf u.1 u.2<;>rfl) r
  exact bG (m:=.o .s) o za g1 hl g2 (by simp) k hp
end
end MR
namespace MR
open L2 L3 M
open PySem (Addr Str sizeLine)
section
variable {K:a0a}{sf sg:Nat->Option Nat}{C:Call}{tg is:List Nat}
theorem eG {α:Type}{l:List α}{i:Nat}{a:α}(h:l[i]?=some a):l.drop i=a::l.drop (i+1):=by
 obtain ⟨h1,h2⟩:=a0p.mp h
 rw [List.drop_eq_getElem_cons h1,h2]
theorem gq {h:Bool}{k:Ik}{f:Env->Res (Option W×Env)}{p:List W×Env}{w:W}{η':Env}(e:cG h k tg f p=.ok (w,η')):∃ ts us,bF k p.1=some ts/\aG tg f ts (aj tg p.2) []=.ok (us,η')/\(if h then (if us.all okD then some ((.d,.lst (aX us)):W) else none) else some (.o .s,.lst (aX us)))=some w:=by
 obtain ⟨⟨ts,η2⟩,h3,h4⟩:=aa (show (ret (aj tg p.2) (bF k p.1)).bind (fun t=>(aG tg f t.1 t.2 []).bind (fW h))=_ from e)
 obtain ⟨ts',ht,e3⟩:=ai h3
 have e4:ts=ts':=congrArg a1N e3
 have e5:η2=aj tg p.2:=congrArg a1C e3
 subst e4 e5
 obtain ⟨⟨us,η3⟩,h5,h6⟩:=aa (show (aG tg f ts (aj tg p.2) []).bind (fW h)=_ from h4)
 obtain ⟨w',hw,e6⟩:=ai (show ret η3 (if h then (if us.all okD then some ((.d,.lst (aX us)):W) else none) else some (.o .s,.lst (aX us)))=_ from h6)
 have e7:w=w':=congrArg a1N e6
 have e8:η'=η3:=congrArg a1C e6
 subst e7 e8
 exact ⟨ts,us,ht,h5,hw⟩
theorem iE {f:Env->Res (Option W×Env)}{t:List W}{ts:List (List W)}{η η3:Env}{acc us:List W}(e:aG tg f (t::ts) η acc=.ok (us,η3)):∃ ηb o ηc,aT tg t η=some ηb/\f ηb=.ok (o,ηc)/\aG tg f ts (aj tg ηc) (acc++o.toList)=.ok (us,η3):=by
 obtain ⟨η1,h1,h2⟩:=aa (show (ofO (aT tg t η)).bind (fun η1=>(f η1).bind fun p=>aG tg f ts (aj tg p.2) (acc++p.1.toList))=_ from e)
 obtain ⟨⟨o,η2⟩,h3,h4⟩:=aa h2
 exact ⟨η1,o,η2,bQ h1,h3,h4⟩
theorem eE {n:Nat}{h:Bool}{k:Ik}{src:List E}{f:Env->Res (Option W×Env)}{te:L2.St->Hp->(Option V->Hp->Prop)->Prop}(hn:tg.length=n)(nd:tg.Nodup)(I:dE sf sg tg is)
  (hf:∀ {η o η'},f η=.ok (o,η')->Nn η η')
  (hte:∀ {val:Nat->Option V} {σ2:L2.St} {Z:Fp} {H:Hp} {Fs:Fps} {η ηc:Env} {R:Fp} {o:Option W} {Q:Option V->Hp->Prop},At K ⟨sg,val⟩ σ2 Z H Fs η R->f η=.ok (o,ηc) ->
   (∀ oy Z' H' Fs' G,At K ⟨sg,val⟩ σ2 Z' H' Fs' ηc (fun c=>R c\/G c)->(match o,oy with | some w,some y=>Rep K Z' H' w.1 w.2 y G | none,none=>True | _,_=>False)->(∀ c,R c->¬ G c)->Step Z H (tot Fs) Z' H' (fun a=>tot Fs' a\/G a)->Q oy H')->te σ2 H Q)
  {e:E} (he:∀ η,evE C e η=(evL C src η).bind (cG h k tg f)) (σ:L2.St) (H:Hp) (Q:VK) (hw:wE K sf C e σ H Q) :
  wI K sf C n k src σ H fun J H1=>∃ W:Nat->Nat->List V->Hp->Prop,(∃ m,W 0 m [] H1)/\∀ i m ys H,W i m ys H ->
   (J.stop i H/\ys.length<=sizeLine/\∀ p,H p=none->Q (.ref p) (upd H p (.lst ys))) \/
   (J.go i H/\ys.length < sizeLine/\∀ x H',J.yld i H x H'->gT K n x (a0g n none++bh σ is) H' fun σ2 H2=>(σ2.length=n+(bh σ is).length/\σ2.drop n=bh σ is)/\te σ2 H2 fun oy H3=>∃ m',m' < m/\W (i+1) m' (ys++oy.toList) H3):=by
 obtain ⟨pv,Z,Fs,η,w,η',A,ev,kk⟩:=hw
 rw [he] at ev
 obtain ⟨⟨ws,η1⟩,h1,h2⟩:=aa ev
 obtain ⟨ts,us,ht,h3,h4⟩:=gq h2
 refine ⟨pv,Z,Fs,η,ws,η1,ts,A,h1,ht,fun J Z1 H1 Fs1 A1 s1 wk yl=>?_⟩
 obtain ⟨val,v1,A2,v2⟩:=(A1.dels (tg:=tg)).pin
 have s1':Step Z H (tot Fs) Z1 H1 (tot (da Fs1 tg)):=s1.mono (fun _ z=>z) fun _ z=>bK z
 refine ⟨fun i m ys H=>m=ts.length-i/\i<=ts.length/\CSt K sf val σ tg f ts (aj tg η1) us η' Z1 H1 (tot (da Fs1 tg)) i ys H,⟨ts.length,by simp,a1e _,⟨⟨Z1,da Fs1 tg,aj tg η1,[],no,A2,rfl,h3,fun j hj=>by rw [aC,if_pos hj],fun j hj a ha=>ha.1 hj,Nn.refl _,(Step.refl _ _ _).mono (fun _ z=>z) fun a ha=>ha.elim id fun z=>z.elim⟩,a0k _⟩⟩,?_⟩
 rintro i m ys H0 ⟨rfl,hi,⟨⟨Zi,Fsi,ηi,acc,Ga,Ai,ra,hc,htg,hfp,hnn,si⟩,hlen⟩⟩
 have st:Stay Z1 H1 H0:=A2.gd.own.stay si
 have hL:=wk.len
 by_cases hlt:i < ts.length
 ·right
  refine ⟨wk.go H0 i st hlt,a1A (a0r hlen hi) (kj hL),fun x H2 y=>?_⟩
  have hw:ts[i]?=some ts[i]:=by simp [hlt]
  rw [eG hw] at hc
  obtain ⟨ηb,o,ηc,hb,hfe,hc2⟩:=iE hc
  refine jC hn nd I si.zm st yl Ai htg hw hb y fun σ2 H3 A3 s3 hσ=>⟨hσ,?_⟩
  refine hte A3 hfe fun oy Z4 H4 Fs4 G4 A4 r4 d4 s4=>⟨ts.length-(i+1),by omega,rfl,hlt,⟨?_,?_⟩⟩
  ·have ra3:RepW K Zi H3 acc ys Ga:=ra.frame bg s3 fun _ _ z=>z
   have ra4:RepW K Z4 H4 acc ys Ga:=ra3.frame A3.gd.own s4 A3.dis
   have vv:∀ j m t,rd (aj tg ηc) j=some (m,t)->val j≠none:=fun j m t e=>by
    rw [aC] at e
    split at e
    ·cases e
    ·rename_i hj
     have n1:rd ηb j≠none:=fun z=>by rw [hf hfe j z] at e; cases e
     rw [dw hb j hj] at n1
     have n2:rd (aj tg η1) j≠none:=fun z=>n1 (hnn j z)
     cases e2:rd (aj tg η1) j with
     | none=>exact absurd e2 n2
     | some u=>exact v2 j u.1 u.2 e2
   have A5:=(A4.dels (tg:=tg)).outof (sf:=sf) (σ:=σ) (val:=val) (fun j hj=>by rw [aC,if_pos hj]) vv Ai.lk Ai.ln
   have s5:Step Z1 H1 (tot (da Fs1 tg)) Z4 H4 (fun a=>tot (da Fs4 tg) a\/(Ga a\/G4 a)):=by
    refine (si.trans (((s3.frame (fun a=>tot Fsi a\/Ga a)).mono (fun a ha=>ha.elim (fun z=>z.elim) id) fun a ha=>.inr ha).trans (s4.frame Ga))).mono (fun _ z=>z) fun a ha=>?_
    rcases ha with z | z | z
    ·exact .inl (.inl (bK z))
    ·exact .inr z
    ·exact .inl (.inr z)
   refine ⟨Z4,da Fs4 tg,aj tg ηc,acc++o.toList,fun c=>Ga c\/G4 c,A5,?_,hc2,fun j hj=>by rw [aC,if_pos hj],fun j hj a ha=>ha.1 hj,fun j e=>?_,s5⟩
   ·cases o with
    | none =>
     cases oy with
     | none=>rw [a1D,a1D,a0L,a0L]; exact ra4.mono fun _ z=>.inl z
     | some _=>exact r4.elim
    | some w4 =>
     cases oy with
     | none=>exact r4.elim
     | some y4=>exact RepW.append (fun _ z=>.inl z) (fun _ z=>.inr z) d4 ra4 (RepW.one r4)
   ·have e':=hnn j e
    rw [aC]
    split
    ·rfl
    ·rename_i hj
     exact hf hfe j (by rw [dw hb j hj]; exact e')
  ·have:ys.length<=i:=hlen
   cases oy<;>simp<;>omega
 ·left
  have hi':i=ts.length:=by omega
  subst hi'
  rw [a2j] at hc
  cases hc
  refine ⟨wk.stop H0 _ st (a0k _),LIM_le (a0r hlen hL),lC Ai.own Ai.gd.zal ra (a0r hlen hL) h4 (bX (Ai.unpin v1) (s1'.trans si) kk)⟩
theorem mS {n:Nat}{h:Bool}{k:Ik}{src:List E}{elt:E}(hn:tg.length=n)(nd:tg.Nodup)(I:dE sf sg tg is)(σ:L2.St)(H:Hp)(Q:VK)(hw:wE K sf C (.comp h k src tg none elt) σ H Q):hW n (wI K sf C n k src) is (gT K n) (wE K sg C elt) σ H Q:=by
 refine eE (te:=fun σ2 H Q=>wE K sg C elt σ2 H fun y H'=>Q (some y) H') hn nd I (fun {η o η'} hf=>?_) (fun {val σ2 Z H Fs η ηc R o Q} A hf k=>?_) (fun η=>rfl) σ H Q hw
 ·obtain ⟨⟨u,η4⟩,h7,h8⟩:=aa (show (evE C elt η).bind cZ=_ from hf)
  cases h8
  exact ao elt h7
 ·obtain ⟨⟨u,η4⟩,h7,h8⟩:=aa (show (evE C elt η).bind cZ=_ from hf)
  cases h8
  exact c9 A h7 fun v Z' H' Fs' G B r d s _=>k (some v) Z' H' Fs' G B r d s
theorem kh {n:Nat}{h:Bool}{k:Ik}{src:List E}{elt cnd:E}(hn:tg.length=n)(nd:tg.Nodup)(I:dE sf sg tg is)(σ:L2.St)(H:Hp)(Q:VK)(hw:wE K sf C (.comp h k src tg (some cnd) elt) σ H Q):dP n (wI K sf C n k src) is (gT K n) (wT K sg C cnd) (wE K sg C elt) σ H Q:=by
 have main:=eE (te:=fun σ2 H Q=>wT K sg C cnd σ2 H fun ok H2=>if ok=true then wE K sg C elt σ2 H2 fun y H'=>Q (some y) H' else Q none H2) hn nd I (f:=gb (evE C cnd) (evE C elt)) (fun {η o η'} hf=>by
  obtain ⟨⟨u,η4⟩,h7,h8⟩:=aa (show (evE C cnd η).bind (onT (b0 (evE C elt)) (okW none))=_ from hf)
  obtain ⟨d,h9,h10⟩:=ba h8
  cases d with
  | true =>
   rw [if_pos rfl] at h10
   obtain ⟨⟨u2,η5⟩,h11,h12⟩:=aa (show (evE C elt η4).bind cZ=_ from h10)
   cases h12
   exact (ao cnd h7).trans (ao elt h11)
  | false =>
   rw [if_neg a0e] at h10
   cases h10
   exact ao cnd h7) (fun {val σ2 Z H Fs η ηc R o Q} A hf k=>by
  obtain ⟨⟨u,η4⟩,h7,h8⟩:=aa (show (evE C cnd η).bind (onT (b0 (evE C elt)) (okW none))=_ from hf)
  obtain ⟨d,h9,h10⟩:=ba h8
  refine hU A.bare h7 h9 fun Z1 H1 Fs1 A1 s1=>?_
  have A1':=A.frame (A1.mono (G':=no) fun _ z=>z) (s1.mono (fun _ z=>z) fun a ha=>ha.elim id fun z=>z.elim)
  have A2:=A1'.1.mono (G':=R) fun _ z=>.inl z
  cases d with
  | true =>
   rw [if_pos rfl] at h10 ⊢
   obtain ⟨⟨u2,η5⟩,h11,h12⟩:=aa (show (evE C elt η4).bind cZ=_ from h10)
   cases h12
   exact c9 A2 h11 fun v Z' H' Fs' G B r d s _=>k (some v) Z' H' Fs' G B r d (s1.trans s)
  | false =>
   rw [if_neg a0e] at h10 ⊢
   cases h10
   exact k none Z1 H1 Fs1 no (A2.mono fun _ z=>z.elim id fun q=>q.elim) trivial (fun _ _ z=>z) (s1.mono (fun _ z=>z) fun a ha=>ha.elim id fun z=>z.elim)) (fun η=>rfl) σ H Q hw
 refine (?_:∀ {a b:It->Hp->Prop},(∀ J H1,a J H1->b J H1)->wI K sf C n k src σ H a->wI K sf C n k src σ H b) ?_ main
 ·rintro a b hab ⟨pv,Z,Fs,η,ws,η',ts,A,ev,ht,kk⟩
  exact ⟨pv,Z,Fs,η,ws,η',ts,A,ev,ht,fun J Z' H' Fs' A' s' w' y'=>hab J H' (kk J Z' H' Fs' A' s' w' y')⟩
 ·rintro J H1 ⟨W,w0,turn⟩
  refine ⟨W,w0,fun i m ys H w=>?_⟩
  rcases turn i m ys H w with c | ⟨go,hz,step⟩
  ·exact .inl c
  ·refine .inr ⟨go,hz,fun x H' y=>?_⟩
   have st:=step x H' y
   simp only [Option.toList_some,a1D,a0L] at st
   exact st
end
end MR
namespace MR
open L2 L3 M
open PySem (Addr Str sizeLine)
section
variable {K:a0a}{sl:Cf}{sf sg:Nat->Option Nat}{C:Call}{σ σ2:L2.St}{Z Z' Z1:Fp}{H H' H1:Hp}{Fs Fs' Fs1:Fps}{η η' η1 ηb:Env}{G G' G1 R F:Fp}{tg is:List Nat}{pv val:Nat->Option V}
noncomputable def jH (Fs:Fps)(i:Nat)(G:Fp):Fps:=fun j a=>(j=i/\G a)\/(j≠i/\Fs j a)
theorem bC {i:Nat}{a:Addr}(h:tot (jH Fs i G) a):tot Fs a\/G a:=by
 obtain ⟨j,h | h⟩:=h
 ·exact .inr h.2
 ·exact .inl ⟨j,h.2⟩
theorem At.put {i:Nat}{w:W}{x:V}(A:At K sl σ Z H Fs η G)(r:Rep K Z H w.1 w.2 x G1)(h1:∀ a,G1 a->G a)(h2:∀ a,R a->G a)(hd:∀ a,R a->¬ G1 a)(hl:∀ j,sl.sl i=some j->σ[j]?=some (some x))(hp:∀ u,sl.pv i=some u->x=u) :
  At K sl σ Z H (jH Fs i G1) (M.put η i w) R:=by
 refine ⟨⟨fun a h=>(bC h).elim (A.gd.own a) fun q=>A.own a (h1 a q),fun j k a hj hk=>?_,A.gd.zal⟩,fun j m t e=>?_,fun a h=>A.own a (h2 a h),fun a h q=>(bC q).elim (A.dis a (h2 a h)) (hd a h),A.lk,A.ln⟩
 ·rcases hj with ⟨rfl,hj⟩ | ⟨nj,hj⟩
  ·rcases hk with ⟨rfl,_⟩ | ⟨nk,hk⟩
   ·rfl
   ·exact absurd ⟨k,hk⟩ (A.dis a (h1 a hj))
  ·rcases hk with ⟨rfl,hk⟩ | ⟨nk,hk⟩
   ·exact absurd ⟨j,hj⟩ (A.dis a (h1 a hk))
   ·exact A.gd.dis j k a hj hk
 ·rw [a7] at e
  split at e
  ·rename_i hc
   cases e
   obtain ⟨rfl,_⟩:=hc
   exact ⟨x,r.mono fun a h=>.inl ⟨rfl,h⟩,hl,hp⟩
  ·rename_i hc
   obtain ⟨v,r',h'⟩:=A.env j m t e
   by_cases hj:j=i
   ·subst hj
    exact absurd ⟨rfl,cD e⟩ hc
   ·exact ⟨v,r'.mono fun a h=>.inr ⟨hj,h⟩,h'⟩
noncomputable def wA (K:a0a)(sl:Nat->Option Nat)(C:Call)(es:List E):TA:=fun σ H Q=>∃ pv Z Fs η ws η',At K ⟨sl,pv⟩ σ Z H Fs η no/\evA C es η=.ok (ws,η') /\
 ∀ vs Z' H' Fs' G,At K ⟨sl,pv⟩ σ Z' H' Fs' η' G->RepW K Z' H' ws vs G->Step Z H (tot Fs) Z' H' (fun a=>tot Fs' a\/G a)->(∀ (k i:Nat) (u:V),es[k]?=some (.io i)->pv i=some u->vs[k]?=some u)->Q vs H'
theorem uu (σ:L2.St)(H:Hp)(Q:List V->Hp->Prop)(h:wA K sf C [] σ H Q):t9 σ H Q:=by
 obtain ⟨pv,Z,Fs,η,ws,η',A,ev,k⟩:=h
 cases ev
 exact k [] Z H Fs no A rfl ((Step.refl _ _ _).mono (fun _ z=>z) fun a ha=>ha.elim id fun z=>z.elim) fun k i u h _=>by simp at h
theorem zl {es:List E}{ws:List W}{Q:List V->Hp->Prop}(A:At K sl σ Z H Fs η R)(ev:evA C es η=.ok (ws,η'))
  (k:∀ vs Z' H' Fs' G,At K sl σ Z' H' Fs' η' (fun c=>R c\/G c)->RepW K Z' H' ws vs G->(∀ c,R c->¬ G c)->Step Z H (tot Fs) Z' H' (fun a=>tot Fs' a\/G a) ->
   Step Z H (fun c=>tot Fs c\/R c) Z' H' (fun c=>tot Fs' c\/(R c\/G c))->(∀ (k i:Nat) (u:V),es[k]?=some (.io i)->sl.pv i=some u->vs[k]?=some u)->Q vs H'):wA K sl.sl C es σ H Q :=
 ⟨sl.pv,Z,Fs,η,ws,η',A.bare,ev,fun v Z' H' Fs' G B r s hio=>by
  obtain ⟨h1,h2,h3⟩:=A.frame B s
  exact k v Z' H' Fs' G h1 r h3 s h2 hio⟩
theorem lR {e:E}{es:List E}(he:∀ i,e≠.io i)(σ:L2.St)(H:Hp)(Q:List V->Hp->Prop)(h:wA K sf C (e::es) σ H Q):jd (wE K sf C e) (wA K sf C es) σ H Q:=by
 obtain ⟨pv,Z,Fs,η,ws,η',A,ev,k⟩:=h
 obtain ⟨w,η1,us,h1,h2,rfl⟩:=dJ he ev
 refine c9 A h1 fun x Z1 H1 Fs1 G1 A1 r1 _ s1 _=>?_
 have A1':=A1.mono (G':=G1) fun _ z=>.inr z
 refine zl A1' h2 fun xs Z2 H2 Fs2 G2 A2 r2 d2 s2 t2 hio=>?_
 refine k (x::xs) Z2 H2 Fs2 _ A2 ⟨x,xs,G1,G2,rfl,fun _ z=>.inl z,fun _ z=>.inr z,d2,r1.frame A1.gd.own s2 A1'.dis,r2⟩ (s1.trans t2) fun k i u h hu=>?_
 cases k with
 | zero=>exact absurd (a0s h) (he i)
 | succ k=>exact hio k i u h hu
theorem jB {i j:Nat}{es:List E}(hs:sf i=some j)(σ:L2.St)(H:Hp)(Q:List V->Hp->Prop)(h:wA K sf C (.io i::es) σ H Q):jd (k9 j) (wA K sf C es) σ H Q:=by
 obtain ⟨pv,Z,Fs,η,ws,η',A,ev,k⟩:=h
 obtain ⟨us,η1,w,h1,h2,rfl,rfl⟩:=fz ev
 obtain ⟨m,t⟩:=w
 cases e0:rd η i with
 | none=>rw [cg es h1 i e0] at h2; cases h2
 | some w0 =>
  obtain ⟨v,_,hv⟩:=A.env i w0.1 w0.2 e0
  refine ⟨v,hv.1 j hs,pv,Z,Fs,η,us,η1,A,h1,fun xs Z2 H2 Fs2 G2 A2 r2 s2 hio=>?_⟩
  obtain ⟨v',r,hv'⟩:=A2.env i m t h2
  have ev':v'=v:=by
   have e1:=hv.1 j hs
   rw [hv'.1 j hs] at e1
   exact a0s (a0s e1)
  subst ev'
  have A3:At K ⟨sf,pv⟩ σ Z2 H2 (sU Fs2 i) (del η1 i) (fun a=>Fs2 i a\/G2 a):=by
   refine ⟨⟨fun a ⟨l,h1,h2⟩=>A2.gd.own a ⟨l,h2⟩,fun l l' a h1 h2=>A2.gd.dis l l' a h1.2 h2.2,A2.gd.zal⟩,fun l m' t' e=>?_,fun a ha=>ha.elim (fun z=>A2.gd.own a ⟨i,z⟩) (A2.own a),fun a ha ⟨l,h1,h2⟩=>ha.elim (fun z=>h1 (A2.gd.dis l i a h2 z)) fun z=>A2.dis a z ⟨l,h2⟩,A2.lk,A2.ln⟩
   rw [a7] at e
   split at e
   ·cases e
   ·rename_i hne
    obtain ⟨v'',r',hv''⟩:=A2.env l m' t' e
    have hli:l≠i:=fun z=>hne ⟨z,cD h2⟩
    exact ⟨v'',r'.mono fun a ha=>⟨hli,ha⟩,hv''⟩
  refine k (v'::xs) Z2 H2 (sU Fs2 i) _ A3 ⟨v',xs,Fs2 i,G2,rfl,fun _ z=>.inl z,fun _ z=>.inr z,fun a z y=>A2.dis a y ⟨i,z⟩,r,r2⟩ (s2.mono (fun _ z=>z) fun a ha=>?_) fun k i' u h hu=>?_
  ·rcases ha with ⟨l,_,z⟩ | z | z
   ·exact .inl ⟨l,z⟩
   ·exact .inl ⟨i,z⟩
   ·exact .inr z
  ·cases k with
   | zero=>cases h; rw [<- hv'.2 u hu]; rfl
   | succ k=>exact hio k i' u h hu
noncomputable def atV (io:List Nat)(vs:List V):List V:=io.filterMap fun i=>vs[i]?
noncomputable def spC (K:a0a)(C:Call)(f:Nat)(io:List Nat):List V->Hp->VK->Prop:=fun vs H Q=>∃ Z ws G w bs,RepW K Z H ws vs G/\Own Z H G/\(∀ a,Z a->H a≠none)/\C f ws=.ok (w,bs) /\
 ∀ v Z' H' G1 G2,Rep K Z' H' w.1 w.2 v G1->RepW K Z' H' bs (atV io vs) G2->(∀ a,G1 a->¬ G2 a)->Own Z' H' (fun a=>G1 a\/G2 a)->Step Z H G Z' H' (fun a=>G1 a\/G2 a)->Q v H'
noncomputable def dZ:List E->Nat->List Nat
 | [],_=>[]
 | .io _::es,n=>n::dZ es (n+1)
 | _::es,n=>dZ es (n+1)
theorem q8 {vs:List V}:∀ {es:List E} {n:Nat},(∀ (k i:Nat) (u:V),es[k]?=some (.io i)->pv i=some u->vs[n+k]?=some u)->(∀ i∈ios es,pv i≠none)->(ios es).filterMap pv=atV (dZ es n) vs
 | [],_,_,_=>rfl
 | e::es,n,h,hv=>by
  have rest:(∀ i∈ios es,pv i≠none)->(ios es).filterMap pv=atV (dZ es (n+1)) vs:=fun q=>q8 (fun k i u hk hu=>by have:=h (k+1) i u hk hu; rw [show n+(k+1)=n+1+k by omega] at this; exact this) q
  cases e with
  | io i =>
   cases hu:pv i with
   | none=>exact absurd hu (hv i (by simp [ios]))
   | some u =>
    have h0:=h 0 i u rfl hu
    rw [Nat.add_zero] at h0
    show (i::ios es).filterMap pv=(n::dZ es (n+1)).filterMap fun i=>vs[i]?
    rw [a0N,a0N,hu,h0]
    exact congrArg (u::·) (rest fun j hj=>hv j (by simp [ios,hj]))
  | _=>exact rest fun j hj=>hv j hj
theorem At.putAll:∀ {is:List Nat} {bs:List W} {Fs:Fps} {η:Env} {G2:Fp},At K ⟨sf,val⟩ σ Z H Fs η (fun a=>R a\/G2 a)->(∀ a,R a->¬ G2 a)->RepW K Z H bs (is.filterMap val) G2->(∀ i∈is,val i≠none)->∃ Fs',At K ⟨sf,val⟩ σ Z H Fs' (M.putAll is bs η) R/\∀ a,tot Fs' a->tot Fs a\/G2 a
 | [],bs,Fs,η,G2,A,_,_,_=>⟨Fs,A.mono fun _ z=>.inl z,fun _ z=>.inl z⟩
 | i::is,[],Fs,η,G2,A,_,_,_=>⟨Fs,A.mono fun _ z=>.inl z,fun _ z=>.inl z⟩
 | i::is,b::bs,Fs,η,G2,A,hd,r,hv=>by
  cases hu:val i with
  | none=>exact absurd hu (hv i a0o)
  | some u =>
   rw [a0N,hu] at r
   obtain ⟨x,r',A1,A2,e,a1,a2,ad,p,q⟩:=r
   cases e
   have B:=At.put (i:=i) (R:=fun a=>R a\/A2 a) (G1:=A1) A p (fun a h=>.inr (a1 a h)) (fun a h=>h.imp id (a2 a)) (fun a h q=>h.elim (fun z=>hd a z (a1 a q)) fun z=>ad a q z) (fun j hj=>A.lk i u j hu hj) (fun u' hu'=>by rw [show val i=some u' from hu'] at hu; cases hu; rfl)
   obtain ⟨Fs',B1,B2⟩:=At.putAll (is:=is) (bs:=bs) B (fun a h q=>hd a h (a2 a q)) q fun j hj=>hv j (a0n _ hj)
   exact ⟨Fs',B1,fun a h=>(B2 a h).elim (fun z=>(bC z).imp id (a1 a)) fun z=>.inr (a2 a z)⟩
theorem nT {f:Nat}{es:List E}{io:List Nat}(hio:dZ es 0=io\/ios es=[])(σ:L2.St)(H:Hp)(Q:VK)(h:wE K sf C (.call f es) σ H Q):wA K sf C es σ H fun vs H1=>spC K C f io vs H1 Q:=by
 obtain ⟨pv,Z,Fs,η,w,η',A,ev,k⟩:=h
 obtain ⟨⟨ws,η1⟩,h1,h2⟩:=aa (show (evA C es η).bind (kCall C f (ios es))=_ from ev)
 obtain ⟨⟨u,bs⟩,h3,h4⟩:=aa (show (C f ws).bind (kBack (ios es) η1)=_ from h2)
 cases h4
 obtain ⟨val,v1,A2,v2⟩:=A.pin
 have hvn:∀ i∈ios es,val i≠none:=fun i hi=>by
  cases e:rd η i with
  | none=>exact absurd e (dY es h1 i hi)
  | some q=>exact v2 i q.1 q.2 e
 refine ⟨val,Z,Fs,η,ws,η1,A2,h1,fun vs Z1 H1 Fs1 G B r s hv=>?_⟩
 refine ⟨Z1,ws,G,u,bs,r,B.own,B.gd.zal,h3,fun v Z2 H2 G1 G2 r1 r2 d o st=>?_⟩
 obtain ⟨B2,s2⟩:=B.op o st
 have fin:∃ Fs',At K ⟨sf,val⟩ σ Z2 H2 Fs' (M.putAll (ios es) bs η1) G1/\∀ a,tot Fs' a->tot Fs1 a\/G2 a:=by
  rcases hio with e | e
  ·have e2:=q8 (pv:=val) (es:=es) (n:=0) (vs:=vs) (fun k i u' hk hu=>by rw [a2d]; exact hv k i u' hk hu) hvn
   rw [e] at e2
   rw [<- e2] at r2
   exact At.putAll B2 d r2 hvn
  ·rw [e]
   exact ⟨Fs1,B2.mono fun _ z=>.inl z,fun _ z=>.inl z⟩
 obtain ⟨Fs',B3,hF⟩:=fin
 refine k v Z2 H2 Fs' G1 (B3.unpin v1) r1 ((s.trans s2).mono (fun _ z=>z) fun a ha=>?_)
 rcases ha with z | z
 ·exact (hF a z).imp id .inr
 ·exact .inr (.inl z)
end
end MR
namespace MR
open L2 L3 M
open PySem (Addr Str sizeLine)
section
variable {K:a0a}{sl:Cf}{sf sg:Nat->Option Nat}{C:Call}{σ σ2:L2.St}{Z Z' Z1:Fp}{H H' H1:Hp}{Fs Fs' Fs1:Fps}{η η' η1 ηb:Env}{G G' G1 R F F':Fp}{tg is vs ls:List Nat}{pv val:Nat->Option V}
theorem lW (o:Option W):toS (toS o)=toS o:=by
 cases o with
 | none=>rfl
 | some w=>rfl
theorem gV:∀ (vs:List Nat) (η:Env) (i:Nat),rd (share vs η) i=if i∈vs then toS (rd η i) else rd η i
 | [],η,i=>by simp [share]
 | v::vs,η,i=>by
  show rd (share vs (wr η v (toS (rd η v)))) i=_
  rw [gV vs,a7]
  by_cases h2:i=v
  ·subst h2
   rw [if_pos (show i∈i::vs from a0o)]
   by_cases hl:i < η.length
   ·rw [if_pos (show i=i/\i < η.length from ⟨rfl,hl⟩)]
    split
    ·exact lW _
    ·rfl
   ·have e:rd η i=none:=by
     cases e:rd η i with
     | none=>rfl
     | some w=>exact absurd (cD e) hl
    rw [if_neg (show ¬ (i=i/\i < η.length) from fun h=>hl h.2),e]
    split<;>rfl
  ·rw [if_neg (show ¬ (i=v/\v < η.length) from fun h=>h2 h.1)]
   by_cases h1:i∈vs
   ·rw [if_pos h1,if_pos (a0n _ h1)]
   ·rw [if_neg h1,if_neg (by simp [h1,h2])]
theorem gQ:∀ (η:Env) (i:Nat),rd (dU η) i=none
 | [],_=>rfl
 | _::_,0=>rfl
 | _::η,i+1=>gQ η i
theorem i6:∀ (vs:List Nat) (η0 η:Env) (i:Nat) (w:W),rd (iF vs η0 η) i=some w->rd η i=some w\/(i∈vs/\toS (rd η0 i)=some w)
 | [],_,_,_,_,h=>.inl h
 | v::vs,η0,η,i,w,h=>by
  rcases i6 vs η0 (wr η v (toS (rd η0 v))) i w h with e | e
  ·rw [a7] at e
   split at e
   ·rename_i hc; obtain ⟨rfl,_⟩:=hc; exact .inr ⟨a0o,e⟩
   ·exact .inl e
  ·exact .inr ⟨a0n _ e.1,e.2⟩
theorem gP:∀ (vs:List Nat) (η0 η:Env) (i:Nat) (w:W),rd (dI vs η0 η) i=some w->rd η i=some w\/lfO (rd η0 i)=some w
 | [],_,_,_,_,h=>.inl h
 | v::vs,η0,η,i,w,h=>by
  rcases gP vs η0 (wr η v (lfO (rd η0 v))) i w h with e | e
  ·rw [a7] at e
   split at e
   ·rename_i hc; obtain ⟨rfl,_⟩:=hc; exact .inr e
   ·exact .inl e
  ·exact .inr e
theorem qa {i:Nat}{w:W}(h:rd (pick vs ls η) i=some w):∃ m t,rd η i=some (m,t)/\((i∈vs/\w=(.s,t))\/(t.leaf=true/\w=(.d,t))):=by
 rcases gP ls η _ i w h with e | e
 ·rcases i6 vs η _ i w e with e | ⟨hi,e⟩
  ·rw [gQ] at e; cases e
  ·cases q:rd η i with
   | none=>rw [q] at e; cases e
   | some u=>rw [q] at e; cases e; exact ⟨u.1,u.2,rfl,.inl ⟨hi,rfl⟩⟩
 ·cases q:rd η i with
  | none=>rw [q] at e; cases e
  | some u =>
   rw [q] at e
   obtain ⟨m,t⟩:=u
   have e':(if t.leaf=true then some ((.d,t):W) else none)=some w:=e
   split at e'
   ·rename_i hl; cases e'; exact ⟨m,t,rfl,.inr ⟨hl,rfl⟩⟩
   ·cases e'
noncomputable def bO (Fs:Fps)(vs:List Nat):Fp:=fun a=>∃ i,i∈vs/\Fs i a
noncomputable def lh:Fps:=fun _ _=>False
theorem bJ {a:Addr}(h:bO Fs vs a):tot Fs a:=let ⟨i,_,h⟩:=h; ⟨i,h⟩
theorem eZ {a:Addr}(h:tot lh a):False:=let ⟨_,h⟩:=h; h
theorem At.quiet (A:At K sl σ Z H Fs η no):At K sl σ (fun a=>Z a\/bO Fs vs a) H lh (pick vs ls η) no:=by
 refine ⟨⟨fun a h=>(eZ h).elim,fun _ _ _ h=>h.elim,fun a h=>h.elim (A.gd.zal a) fun q=>?_⟩,fun i m t e=>?_,bg,fun _ z=>z.elim,A.lk,A.ln⟩
 ·obtain ⟨_,xs,e⟩:=A.gd.own a (bJ q)
  rw [e]; simp
 ·obtain ⟨m',t',e1,e2⟩:=qa e
  obtain ⟨v,r,h⟩:=A.env i m' t' e1
  rcases e2 with ⟨hi,e2⟩ | ⟨hl,e2⟩
  ·cases e2
   exact ⟨v,(r.sh.zmono fun a h=>h.imp id fun q=>⟨i,hi,q⟩).sany,h⟩
  ·cases e2
   exact ⟨v,r.leaf (fun _ _ _ q=>q) hl,h⟩
mutual
theorem Rep.dany:∀ {t:T} {v:V} {G:Fp},Rep K Z H .d t v G->Rep K Z' H .d t v G
 | .non,_,_,h=>h
 | .bl _,_,_,h=>h
 | .int _,_,_,h=>h
 | .str _,_,_,h=>h
 | .scr _,_,_,h=>h
 | .tup ts,_,_,⟨a,xs,e,q,l,r⟩=>⟨a,xs,e,q,l,RepL.dany r⟩
 | .lst ts,_,_,⟨a,xs,e,l,q,r⟩=>⟨a,xs,e,l,q,RepL.dany r⟩
 | .dct _ _,_,_,h=>h.elim
 | .ins _ _ _,_,_,h=>h.elim
 | .gone,_,_,h=>h
theorem RepL.dany:∀ {ts:List T} {xs:List V} {G:Fp},RepL K Z H .d ts xs G->RepL K Z' H .d ts xs G
 | [],_,_,h=>h
 | t::ts,xs,_,⟨x,r,G1,G2,e,h1,h2,hd,p,q⟩=>⟨x,r,G1,G2,e,h1,h2,hd,Rep.dany p,RepL.dany q⟩
end
theorem cm (A:At K sl σ Z H Fs η no)(B:Own Z' H' G)(zal:∀ a,Z' a->H' a≠none)(s:Step (fun a=>Z a\/bO Fs vs a) H F Z' H' (fun a=>F' a\/G a))(hF:∀ a,¬ F a) :
  At K sl σ (fun a=>Z' a/\¬ bO Fs vs a) H' Fs η G/\Step Z H (tot Fs) (fun a=>Z' a/\¬ bO Fs vs a) H' (fun a=>tot Fs a\/G a):=by
 have keep:∀ a o,H a=some o->H' a=some o:=fun a o e=>s.keep a o e (hF a)
 have zz:∀ a,Z a->Z' a/\¬ bO Fs vs a:=fun a h=>⟨s.zm a (.inl h),fun q=>(A.gd.own a (bJ q)).1 h⟩
 have nz:∀ a,tot Fs a->¬ (Z' a/\¬ bO Fs vs a):=fun a h q=>by
  obtain ⟨nz,xs,e⟩:=A.gd.own a h
  rcases s.zn a q.1 with z | z | z
  ·exact z.elim nz q.2
  ·exact hF a z
  ·rw [e] at z; cases z
 have gd:∀ a,G a->¬ tot Fs a:=fun a h q=>by
  obtain ⟨_,xs,e⟩:=A.gd.own a q
  rcases s.fn a (.inr h) with z | z
  ·exact hF a z
  ·rw [e] at z; cases z
 refine ⟨⟨⟨fun a h=>?_,A.gd.dis,fun a h=>zal a h.1⟩,fun i m t e=>?_,fun a h=>⟨fun q=>(B a h).1 q.1,(B a h).2⟩,gd,A.lk,A.ln⟩,⟨fun a o e _=>keep a o e,zz,fun a h=>?_,fun a h=>?_,s.al,fun _ a h=>zal a h.1⟩⟩
 ·obtain ⟨_,xs,e⟩:=A.gd.own a h
  exact ⟨nz a h,xs,keep a _ e⟩
 ·obtain ⟨v,r,h⟩:=A.env i m t e
  refine ⟨v,r.keep ⟨fun a o _ e=>keep a o e,fun a xs e=>?_,fun a o u e=>keep a _ e⟩ zz fun a o _ e=>keep a o e,h⟩
  rcases e with e | ⟨u,e⟩
  ·exact .inl (keep a _ e)
  ·exact .inr ⟨u,keep a _ e⟩
 ·rcases s.zn a h.1 with z | z | z
  ·exact z.elim .inl fun q=>absurd q h.2
  ·exact (hF a z).elim
  ·exact .inr (.inr z)
 ·rcases h with h | h
  ·exact .inl h
  ·exact (s.fn a (.inr h)).elim (fun z=>(hF a z).elim) .inr
theorem At.share (A:At K sl σ Z H Fs η G):At K sl σ (fun a=>Z a\/bO Fs vs a) H (da Fs vs) (M.share vs η) G/\∀ {Z0 H0 F0},Step Z0 H0 F0 Z H (fun a=>tot Fs a\/G a)->Step Z0 H0 F0 (fun a=>Z a\/bO Fs vs a) H (fun a=>tot (da Fs vs) a\/G a):=by
 refine ⟨⟨⟨fun a h=>?_,fun i j a h1 h2=>A.gd.dis i j a h1.2 h2.2,fun a h=>h.elim (A.gd.zal a) fun q=>?_⟩,fun i m t e=>?_,fun a h=>⟨fun z=>z.elim (A.own a h).1 fun q=>A.dis a h (bJ q),(A.own a h).2⟩,fun a h q=>A.dis a h (bK q),A.lk,A.ln⟩,fun {Z0 H0 F0} s=>⟨s.keep,fun a h=>.inl (s.zm a h),fun a h=>h.elim (s.zn a) fun q=>.inr (s.fn a (.inl (bJ q))),fun a h=>s.fn a (h.imp bK id),s.al,fun z a h=>h.elim (s.za z a) fun q=>?_⟩⟩
 ·obtain ⟨i,hi,h'⟩:=h
  obtain ⟨nz,xs,e⟩:=A.gd.own a ⟨i,h'⟩
  exact ⟨fun z=>z.elim nz fun ⟨j,hj,q⟩=>hi (A.gd.dis i j a h' q ▸ hj),xs,e⟩
 ·obtain ⟨_,xs,e⟩:=A.gd.own a (bJ q)
  rw [e]; simp
 ·rw [gV] at e
  split at e
  ·rename_i hi
   cases q:rd η i with
   | none=>rw [q] at e; cases e
   | some u =>
    rw [q] at e; cases e
    obtain ⟨v,r,h⟩:=A.env i u.1 u.2 q
    exact ⟨v,(r.sh.zmono fun a h=>h.imp id fun q=>⟨i,hi,q⟩).sany,h⟩
  ·rename_i hi
   obtain ⟨v,r,h⟩:=A.env i m t e
   exact ⟨v,(r.zmono fun a h=>.inl h).mono fun a h=>⟨hi,h⟩,h⟩
 ·obtain ⟨_,xs,e⟩:=A.gd.own a (bJ q)
  rw [e]; simp
theorem xD {x:X}{e:E}{w:W}{Q:VK}(A:At K sl σ Z H Fs η no)(ev:evX C x e η=.ok (w,η'))(k:∀ v Z' H' Fs' G,At K sl σ Z' H' Fs' η' G->Rep K Z' H' w.1 w.2 v G->Step Z H (tot Fs) Z' H' (fun a=>tot Fs' a\/G a)->Q v H'):wE K sl.sl C e σ H Q:=by
 cases x with
 | q vs ls =>
  obtain ⟨⟨u,η2⟩,h1,h2⟩:=aa (show (evE C e (pick vs ls η)).bind (kX vs η)=_ from ev)
  cases h2
  generalize hm0:M.lf u.1 u.2=m0 at k
  refine ⟨sl.pv,_,lh,_,_,η2,A.quiet (vs:=vs) (ls:=ls),h1,fun v Z' H' Fs' G B r0 s=>?_⟩
  have r:=r0.lf
  rw [hm0] at r
  obtain ⟨B1,s1⟩:=cm A B.own B.gd.zal s fun a h=>eZ h
  have other:Q v H'\/m0=.d:=by
   by_cases hd:m0=.d
   ·exact .inr hd
   ·refine .inl ?_
    have e':after m0 vs η=share vs η:=by
     cases hm:m0 with
     | d=>exact absurd hm hd
     | s=>rfl
     | o m=>rfl
    obtain ⟨B2,s2⟩:=B1.share (vs:=vs)
    have zz:∀ a,(Z' a/\¬ bO Fs vs a)\/bO Fs vs a->Z' a:=fun a h=>h.elim a2L fun q=>s.zm a (.inr q)
    have zz':∀ a,Z' a->(Z' a/\¬ bO Fs vs a)\/bO Fs vs a:=fun a h=>(a2I (bO Fs vs a)).elim .inr fun q=>.inl ⟨h,q⟩
    exact k v _ H' _ G (e' ▸ B2) (r.zmono zz') (s2 s1)
  rcases other with q | hd
  ·exact q
  ·have e':after m0 vs η=η:=by rw [hd]; rfl
   refine k v _ H' Fs G (e'.symm ▸ B1) ?_ s1
   subst hd
   exact r.dany
 | l vs =>
  obtain ⟨B,s0⟩:=A.share (vs:=vs)
  have s1:=s0 ((Step.refl Z H (tot Fs)).mono (F2:=fun a=>tot Fs a\/no a) (fun _ z=>z) fun a h=>h.elim id fun z=>z.elim)
  refine ⟨sl.pv,_,_,_,w,η',B,ev,fun v Z' H' Fs' G B' r s=>k v Z' H' Fs' G B' r ((s1.mono (fun _ z=>z) fun a h=>.inl h).trans s)⟩
theorem yS {x:X}{e:E}{b:Bool}{Q:Bool->Hp->Prop}(A:At K sl σ Z H Fs η no)(ev:evT C x e η=.ok (b,η'))(k:∀ Z' H' Fs',At K sl σ Z' H' Fs' η' no->Step Z H (tot Fs) Z' H' (tot Fs')->Q b H'):wT K sl.sl C e σ H Q:=by
 cases x with
 | q vs ls =>
  obtain ⟨⟨u,η2⟩,h1,h2⟩:=aa (show (evE C e (pick vs ls η)).bind (kT η)=_ from ev)
  obtain ⟨b',h3,e3⟩:=ai (show ret η (truth u.2)=_ from h2)
  cases e3
  refine ⟨sl.pv,_,lh,_,u,η2,b,A.quiet (vs:=vs) (ls:=ls),h1,h3,fun Z' H' Fs' B s=>?_⟩
  obtain ⟨B1,s1⟩:=cm (G:=no) A bg B.gd.zal (s.mono (F2:=fun a=>tot Fs' a\/no a) (fun _ z=>z) fun a h=>h.elim id fun z=>z.elim) fun a h=>eZ h
  exact k _ H' Fs B1 (s1.mono (fun _ z=>z) fun a h=>.inl h)
 | l vs =>
  obtain ⟨⟨u,η2⟩,h1,h2⟩:=aa (show (evE C e (M.share vs η)).bind kT2=_ from ev)
  obtain ⟨b',h3,e3⟩:=ai (show ret η2 (truth u.2)=_ from h2)
  cases e3
  obtain ⟨B,s0⟩:=A.share (vs:=vs)
  have s1:=s0 ((Step.refl Z H (tot Fs)).mono (F2:=fun a=>tot Fs a\/no a) (fun _ z=>z) fun a h=>h.elim id fun z=>z.elim)
  exact ⟨sl.pv,_,_,_,u,_,b,B,h1,h3,fun Z' H' Fs' B' s=>k Z' H' Fs' B' ((s1.mono (fun _ z=>z) fun a h=>.inl h).trans s)⟩
end
end MR
namespace MR
open L2 L3 M
open PySem (Addr Str sizeLine)
section
variable {K:a0a}{sl:Cf}{sf sg:Nat->Option Nat}{C:Call}{σ σ2:L2.St}{Z Z' Z1:Fp}{H H' H1:Hp}{Fs Fs' Fs1:Fps}{η η' η1 ηb:Env}{G G' G1 R F F':Fp}{tg is vs ls io:List Nat}{pv val:Nat->Option V}{D:b9}
noncomputable def Fin (K:a0a)(sl:Cf)(Z:Fp)(H:Hp)(F:Fp)(D:b9):Fl->Prop
 | .nx η'=>∀ σ' Z' H' Fs',At K sl σ' Z' H' Fs' η' no->Step Z H F Z' H' (tot Fs')->D.nx σ' H'
 | .rt w η'=>∀ v σ' Z' H' Fs' G,At K sl σ' Z' H' Fs' η' G->Rep K Z' H' w.1 w.2 v G->Step Z H F Z' H' (fun a=>tot Fs' a\/G a)->D.rt v H'
 | .bk η'=>∀ σ' Z' H' Fs',At K sl σ' Z' H' Fs' η' no->Step Z H F Z' H' (tot Fs')->D.bk σ' H'
 | _=>False
theorem Fin.step {fl:Fl}(s:Step Z H F Z1 H1 F')(h:Fin K sl Z H F D fl):Fin K sl Z1 H1 F' D fl:=by
 cases fl with
 | nx η=>exact fun σ' Z' H' Fs' A t=>h σ' Z' H' Fs' A (s.trans t)
 | rt w η=>exact fun v σ' Z' H' Fs' G A r t=>h v σ' Z' H' Fs' G A r (s.trans t)
 | bk η=>exact fun σ' Z' H' Fs' A t=>h σ' Z' H' Fs' A (s.trans t)
 | _=>exact h.elim
structure gf (sf:Nat->Option Nat)(io:List Nat)(pv:Nat->Option V):Prop where
 inj:∀ i i' j,sf i=some j->sf i'=some j->i=i'
 io:∀ i,i ∉ io->pv i=none
noncomputable def wS (K:a0a)(sf:Nat->Option Nat)(io:List Nat)(C:Call)(st:S):TS:=fun D σ H=>∃ pv Z Fs η,gf sf io pv/\At K ⟨sf,pv⟩ σ Z H Fs η no/\Fin K ⟨sf,pv⟩ Z H (tot Fs) D (evS C st η)
noncomputable def wSs (K:a0a)(sf:Nat->Option Nat)(io:List Nat)(C:Call)(st:List S):TS:=fun D σ H=>∃ pv Z Fs η,gf sf io pv/\At K ⟨sf,pv⟩ σ Z H Fs η no/\Fin K ⟨sf,pv⟩ Z H (tot Fs) D (evSs C st η)
theorem qh (D:b9)(σ:L2.St)(H:Hp)(h:wSs K sf io C [] D σ H):qR D σ H:=by
 obtain ⟨pv,Z,Fs,η,N,A,f⟩:=h
 exact f σ Z H Fs A (Step.refl _ _ _)
theorem mH {s:S}{r:List S}(D:b9)(σ:L2.St)(H:Hp)(h:wSs K sf io C (s::r) D σ H):yD (wS K sf io C s) (wSs K sf io C r) D σ H:=by
 obtain ⟨pv,Z,Fs,η,N,A,f⟩:=h
 refine ⟨pv,Z,Fs,η,N,A,?_⟩
 have f':Fin K ⟨sf,pv⟩ Z H (tot Fs) D (Fl.seq (evS C s η) (evSs C r)):=f
 cases e:evS C s η with
 | nx η1 =>
  rw [e] at f'
  exact fun σ' Z' H' Fs' A' t=>⟨pv,Z',Fs',η1,N,A',f'.step t⟩
 | rt w η1=>rw [e] at f'; exact f'
 | bk η1=>rw [e] at f'; exact f'
 | ex c x η1=>rw [e] at f'; exact f'.elim
 | no=>rw [e] at f'; exact f'.elim
theorem oC {s:S}(D:b9)(σ:L2.St)(H:Hp)(h:wSs K sf io C [s] D σ H):wS K sf io C s D σ H:=by
 obtain ⟨pv,Z,Fs,η,N,A,f⟩:=h
 refine ⟨pv,Z,Fs,η,N,A,?_⟩
 have f':Fin K ⟨sf,pv⟩ Z H (tot Fs) D (Fl.seq (evS C s η) (evSs C [])):=f
 cases e:evS C s η with
 | nx η1=>rw [e] at f'; exact f'
 | rt w η1=>rw [e] at f'; exact f'
 | bk η1=>rw [e] at f'; exact f'
 | ex c x η1=>rw [e] at f'; exact f'.elim
 | no=>rw [e] at f'; exact f'.elim
theorem cN {α:Type}{r:Res α}{g:α->Fl}(f:Fin K sl Z H F D (Fl.of η r g)):∃ a,r=.ok a/\Fin K sl Z H F D (g a):=by
 cases r with
 | ok a=>exact ⟨a,rfl,f⟩
 | ex c x=>exact f.elim
 | no=>exact f.elim
theorem At.setR {i j:Nat}{w:W}{x:V}(N:gf sf io pv)(hi:i ∉ io)(hs:sf i=some j)(A:At K ⟨sf,pv⟩ σ Z H Fs η G)(r:Rep K Z H w.1 w.2 x G1)(q1:∀ a,G1 a->G a)(q2:∀ a,R a->G a)(q3:∀ a,R a->¬ G1 a):At K ⟨sf,pv⟩ (σ.set j (some x)) Z H (jH Fs i G1) (M.put η i w) R:=by
 have hj:j < σ.length:=A.ln i j hs
 have B:At K ⟨fun k=>if k=i then none else sf k,pv⟩ (σ.set j (some x)) Z H Fs (M.del η i) G:=by
  refine ⟨A.gd,fun l m t e=>?_,A.own,A.dis,fun l u k hu hk=>?_,fun l k hk=>?_⟩
  ·rw [a7] at e
   split at e
   ·cases e
   ·rename_i hne
    obtain ⟨v,r',h1,h2⟩:=A.env l m t e
    have hl:l≠i:=fun z=>hne ⟨z,by rw [<- z]; exact cD e⟩
    refine ⟨v,r',fun k hk=>?_,h2⟩
    have hk':sf l=some k:=by have:(if l=i then none else sf l)=some k:=hk; rw [if_neg hl] at this; exact this
    have hjk:j≠k:=fun z=>hl (N.inj l i k hk' (by rw [<- z]; exact hs))
    rw [a1g hjk]
    exact h1 k hk'
  ·have hl:l≠i:=fun z=>by
    have hu':pv l=some u:=hu
    rw [z,N.io i hi] at hu'; cases hu'
   have hk':sf l=some k:=by have:(if l=i then none else sf l)=some k:=hk; rw [if_neg hl] at this; exact this
   have hjk:j≠k:=fun z=>hl (N.inj l i k hk' (by rw [<- z]; exact hs))
   rw [a1g hjk]
   exact A.lk l u k hu hk'
  ·have hk':sf l=some k:=by
    have:(if l=i then none else sf l)=some k:=hk
    split at this
    ·cases this
    ·exact this
   rw [a2s]
   exact A.ln l k hk'
 have B2:=At.put (i:=i) (w:=w) (G1:=G1) (R:=R) B r q1 q2 q3 (fun k hk=>by have hk':(if i=i then none else sf i)=some k:=hk; rw [if_pos rfl] at hk'; cases hk') (fun u hu=>by have:=N.io i hi; rw [show pv i=some u from hu] at this; cases this)
 have e1:M.put (M.del η i) i w=M.put η i w:=by
  have:∀ (η:Env) (i:Nat) (a b:Option W),wr (wr η i a) i b=wr η i b:=fun η=>by
   induction η with
   | nil=>intro i a b; rfl
   | cons o η ih=>intro i a b; cases i with
    | zero=>rfl
    | succ i=>show o::wr (wr η i a) i b=o::wr η i b; rw [ih]
  exact this η i none (some w)
 rw [e1] at B2
 refine ⟨B2.gd,fun l m t e=>?_,B2.own,B2.dis,fun l u k hu hk=>?_,fun l k hk=>by rw [a2s]; exact A.ln l k hk⟩
 ·obtain ⟨v,r',h1,h2⟩:=B2.env l m t e
  by_cases hl:l=i
  ·subst hl
   rw [a7] at e
   split at e
   ·cases e
    refine ⟨x,r.mono fun a h=>.inl ⟨rfl,h⟩,fun k hk=>?_,fun u hu=>by have:=N.io l hi; rw [show pv l=some u from hu] at this; cases this⟩
    have:k=j:=by rw [show sf l=some k from hk] at hs; cases hs; rfl
    subst this
    rw [a1r hj]
   ·rename_i hc
    exact absurd ⟨rfl,cD e⟩ hc
  ·refine ⟨v,r',fun k hk=>h1 k ?_,h2⟩
   show (if l=i then none else sf l)=some k
   rw [if_neg hl]; exact hk
 ·by_cases hl:l=i
  ·subst hl
   have:=N.io l hi
   rw [show pv l=some u from hu] at this; cases this
  ·exact B2.lk l u k hu (show (if l=i then none else sf l)=some k by rw [if_neg hl]; exact hk)
theorem At.set {i j:Nat}{w:W}{x:V}(N:gf sf io pv)(hi:i ∉ io)(hs:sf i=some j)(A:At K ⟨sf,pv⟩ σ Z H Fs η G)(r:Rep K Z H w.1 w.2 x G):At K ⟨sf,pv⟩ (σ.set j (some x)) Z H (jH Fs i G) (M.put η i w) no:=At.setR N hi hs A r (fun _ h=>h) (fun _ z=>z.elim) (fun _ z=>z.elim)
theorem vc {x:X}{i j:Nat}{e:E}(hi:i ∉ io)(hs:sf i=some j)(D:b9)(σ:L2.St)(H:Hp)(h:wS K sf io C (.asg x i e) D σ H):wy (wE K sf C e) (cK j) D σ H:=by
 obtain ⟨pv,Z,Fs,η,N,A,f⟩:=h
 obtain ⟨⟨w,η1⟩,h1,h2⟩:=cN (show Fin K ⟨sf,pv⟩ Z H (tot Fs) D (Fl.of η (evX C x e η) (om i)) from f)
 refine xD (sl:=⟨sf,pv⟩) A h1 fun v Z' H' Fs' G B r s=>?_
 exact h2 _ Z' H' _ (At.set N hi hs B r) (s.mono (fun _ z=>z) fun a ha=>bC ha)
theorem rM {e:E}(D:b9)(σ:L2.St)(H:Hp)(h:wS K sf io C (.ret vs e) D σ H):xj (wE K sf C e) D σ H:=by
 obtain ⟨pv,Z,Fs,η,N,A,f⟩:=h
 obtain ⟨⟨w,η1⟩,h1,h2⟩:=cN (show Fin K ⟨sf,pv⟩ Z H (tot Fs) D (Fl.of η (evE C e (M.share vs η)) kRt) from f)
 exact xD (sl:=⟨sf,pv⟩) (x:=.l vs) A h1 fun v Z' H' Fs' G B r s=>h2 v σ Z' H' Fs' G B r s
theorem tm {x:X}{c:E}{a b:List S}(D:b9)(σ:L2.St)(H:Hp)(h:wS K sf io C (.ite x c a b) D σ H):yb (wT K sf C c) (wSs K sf io C a) (wSs K sf io C b) D σ H:=by
 obtain ⟨pv,Z,Fs,η,N,A,f⟩:=h
 obtain ⟨⟨k,η1⟩,h1,h2⟩:=cN (show Fin K ⟨sf,pv⟩ Z H (tot Fs) D (Fl.of η (evT C x c η) (kIf (evSs C a) (evSs C b))) from f)
 refine yS (sl:=⟨sf,pv⟩) A h1 fun Z' H' Fs' B s=>?_
 cases k with
 | true=>rw [if_pos rfl]; exact ⟨pv,Z',Fs',η1,N,B,Fin.step s h2⟩
 | false=>rw [if_neg a0e]; exact ⟨pv,Z',Fs',η1,N,B,Fin.step s h2⟩
theorem oD {m:Md}{ts:List T}{v:V}(hm:m≠.s)(r:Rep K Z H m (.lst ts) v G):∃ a xs,v=.ref a/\xs.length<=LIM/\G a/\H a=some (.lst xs)/\RepL K Z H m.kid ts xs (fun b=>G b/\b≠a):=by
 obtain ⟨a,xs,e,l,q,p⟩:=r
 rw [LstR.own hm] at q
 exact ⟨a,xs,e,l,q.1,q.2,p⟩
theorem qf {i:Nat}{a:Addr}{ts':List T}{xs':List V}{m':Md}(hm:m'≠.s)(A:At K ⟨sf,pv⟩ σ Z H Fs η G){w0:W}(hi:rd η i=some w0)(ha:Fs i a)(hx:∀ j,sf i=some j->σ[j]?=some (some (.ref a)))(hl:xs'.length<=LIM)(hpv:∀ u,pv i=some u->V.ref a=u)
  (hg:∀ b,G' b->(Fs i b\/G b)/\b≠a) (hR:∀ b,R b->(Fs i b\/G b)/\b≠a) (hRG:∀ b,R b->¬ G' b) (p:RepL K (fun b=>Z b\/((Fs i b\/G b)/\b≠a/\¬ G' b/\¬ R b)) H m'.kid ts' xs' G') {Q:Hp->Prop}
  (k:∀ Z' Fs',At K ⟨sf,pv⟩ σ Z' (upd H a (.lst xs')) Fs' (M.put η i (m',.lst ts')) R->Step Z H (fun b=>tot Fs b\/G b) Z' (upd H a (.lst xs')) (fun b=>tot Fs' b\/R b)->(∀ {m t v},Rep K (fun b=>Z b\/((Fs i b\/G b)/\b≠a/\¬ G' b/\¬ R b)) H m t v R->Rep K Z' (upd H a (.lst xs')) m t v R)->Q (upd H a (.lst xs'))):Q (upd H a (.lst xs')):=by
 have hta:tot Fs a:=⟨i,ha⟩
 obtain ⟨nza,ys,hya⟩:=A.gd.own a hta
 have nGa:¬ G a:=fun q=>A.dis a q hta
 have zdef:∀ b,(Z b\/((Fs i b\/G b)/\b≠a/\¬ G' b/\¬ R b))->b≠a:=fun b h z=>by
  subst z
  rcases h with h | h
  ·exact nza h
  ·exact h.2.1 rfl
 have keep:∀ b o,H b=some o->b≠a->upd H a (.lst xs') b=some o:=fun b o e hb=>by rw [ah hb]; exact e
 have neT:∀ b xs,H b=some (.tup xs)->b≠a:=fun b xs e z=>by rw [z,hya] at e; cases e
 have neF:∀ b o u,H b=some (.frz o u)->b≠a:=fun b o u e z=>by rw [z,hya] at e; cases e
 have stay:∀ {Y:Fp},(∀ b,Y b->b≠a)->Stay Y H (upd H a (.lst xs')):=fun {Y} hY=>⟨fun b o hb e=>keep b o e (hY b hb),fun b xs e=>by
  rcases e with e | ⟨u,e⟩
  ·exact .inl (keep b _ e (neT b xs e))
  ·exact .inr ⟨u,keep b _ e (neF b u _ e)⟩,fun b o u e=>keep b _ e (neF b o u e)⟩
 have al:∀ b,H b≠none->upd H a (.lst xs') b≠none:=fun b h=>by
  by_cases e:b=a
  ·rw [e,ay]; simp
  ·rw [ah e]; exact h
 have zal':∀ b,(Z b\/((Fs i b\/G b)/\b≠a/\¬ G' b/\¬ R b))->H b≠none:=fun b h=>by
  rcases h with h | ⟨h | h,_⟩
  ·exact A.gd.zal b h
  ·obtain ⟨_,zs,e⟩:=A.gd.own b ⟨i,h⟩; rw [e]; simp
  ·obtain ⟨_,zs,e⟩:=A.own b h; rw [e]; simp
 have listAt:∀ b,(tot Fs b\/G b)->∃ zs,upd H a (.lst xs') b=some (.lst zs):=fun b h=>by
  by_cases e:b=a
  ·exact ⟨xs',by rw [e,ay]⟩
  ·rcases h with h | h
   ·obtain ⟨_,zs,q⟩:=A.gd.own b h; exact ⟨zs,by rw [ah e]; exact q⟩
   ·obtain ⟨_,zs,q⟩:=A.own b h; exact ⟨zs,by rw [ah e]; exact q⟩
 have nZ:∀ b,(Fs i b\/G b)->¬ Z b:=fun b h z=>h.elim (fun y=>(A.gd.own b ⟨i,y⟩).1 z) fun y=>(A.own b y).1 z
 have fU:∀ b,tot (jH Fs i fun b=>G' b\/b=a) b->(∃ j,j≠i/\Fs j b)\/G' b\/b=a:=fun b h=>by
  obtain ⟨j,h | h⟩:=h
  ·exact .inr h.2
  ·exact .inl ⟨j,h⟩
 refine k (fun b=>Z b\/((Fs i b\/G b)/\b≠a/\¬ G' b/\¬ R b)) (jH Fs i fun b=>G' b\/b=a) ⟨⟨fun b h=>⟨fun z=>?_,?_⟩,fun j l b hj hk=>?_,fun b h=>al b (zal' b h)⟩,fun l m t e=>?_,fun b h=>⟨fun z=>?_,listAt b ((hR b h).1.imp (fun z=>⟨i,z⟩) id)⟩,fun b h q=>?_,A.lk,A.ln⟩ ⟨fun b o e n=>keep b o e fun z=>n (.inl (z ▸ hta)),fun b h=>.inl h,fun b h=>h.imp id fun q=>.inl (q.1.imp (fun z=>⟨i,z⟩) id),fun b h=>?_,al,fun _ b h=>al b (zal' b h)⟩ fun {m t v} r=>r.keep (stay zdef) (fun _ z=>z) fun b o hb e=>keep b o e (hR b hb).2
 ·rcases fU b h with ⟨j,hj,q⟩ | q | q
  ·rcases z with z | ⟨z | z,_⟩
   ·exact (A.gd.own b ⟨j,q⟩).1 z
   ·exact hj (A.gd.dis j i b q z)
   ·exact A.dis b z ⟨j,q⟩
  ·rcases z with z | z
   ·exact nZ b (hg b q).1 z
   ·exact z.2.2.1 q
  ·exact zdef b z q
 ·rcases fU b h with ⟨j,hj,q⟩ | q | q
  ·exact listAt b (.inl ⟨j,q⟩)
  ·exact listAt b ((hg b q).1.imp (fun z=>⟨i,z⟩) id)
  ·exact ⟨xs',by rw [q,ay]⟩
 ·have key:∀ {j:Nat},(G' b\/b=a)->Fs j b->j=i:=fun {j} h q=>by
   rcases h with h | h
   ·rcases (hg b h).1 with y | y
    ·exact A.gd.dis j i b q y
    ·exact absurd ⟨j,q⟩ (A.dis b y)
   ·rw [h] at q; exact A.gd.dis j i a q ha
  rcases hj with ⟨rfl,hj⟩ | ⟨nj,hj⟩
  ·rcases hk with ⟨rfl,_⟩ | ⟨nk,hk⟩
   ·rfl
   ·exact absurd (key hj hk) nk
  ·rcases hk with ⟨rfl,hk⟩ | ⟨nk,hk⟩
   ·exact absurd (key hk hj) nj
   ·exact A.gd.dis j l b hj hk
 ·rw [a7] at e
  split at e
  ·rename_i hc
   obtain ⟨rfl,_⟩:=hc
   cases e
   refine ⟨.ref a,⟨a,xs',rfl,hl,(LstR.own hm).mpr ⟨.inl ⟨rfl,.inr rfl⟩,ay⟩,?_⟩,hx,hpv⟩
   exact (p.keep (stay zdef) (fun _ z=>z) fun b o hb e=>keep b o e (hg b hb).2).mono fun b hb=>⟨.inl ⟨rfl,.inl hb⟩,(hg b hb).2⟩
  ·rename_i hc
   have hl':l≠i:=fun z=>hc ⟨z,cD hi⟩
   obtain ⟨v,r,h⟩:=A.env l m t e
   have nea:∀ b,Fs l b->b≠a:=fun b q z=>hl' (A.gd.dis l i a (z ▸ q) ha)
   exact ⟨v,((r.keep (stay fun b hb z=>nza (z ▸ hb)) (fun _ z=>z) fun b o hb e=>keep b o e (nea b hb)).zmono fun b h=>.inl h).mono fun b h=>.inr ⟨hl',h⟩,h⟩
 ·rcases z with z | z
  ·exact nZ b (hR b h).1 z
  ·exact z.2.2.2 h
 ·rcases fU b q with ⟨j,hj,y⟩ | y | y
  ·rcases (hR b h).1 with z | z
   ·exact hj (A.gd.dis j i b y z)
   ·exact A.dis b z ⟨j,y⟩
  ·exact hRG b h y
  ·exact (hR b h).2 y
 ·rcases h with h | h
  ·rcases fU b h with ⟨j,_,q⟩ | q | q
   ·exact .inl (.inl ⟨j,q⟩)
   ·exact .inl ((hg b q).1.imp (fun z=>⟨i,z⟩) id)
   ·exact .inl (.inl (q ▸ hta))
  ·exact .inl ((hR b h).1.imp (fun z=>⟨i,z⟩) id)
end
end MR
namespace MR
open L2 L3 M
open PySem (Addr Str sizeLine)
section
variable {K:a0a}{sl:Cf}{sf sg:Nat->Option Nat}{C:Call}{σ σ2:L2.St}{Z Z' Z1:Fp}{H H' H1:Hp}{Fs Fs' Fs1:Fps}{η η' η1 ηb:Env}{G G' G1 R F F':Fp}{tg is vs ls io:List Nat}{pv val:Nat->Option V}{D:b9}
theorem RepL.splitA {m:Md}:∀ {ts us:List T} {zs:List V} {G:Fp},RepL K Z H m (ts++us) zs G->∃ xs ys G1 G2,zs=xs++ys/\(∀ a,G1 a->G a)/\(∀ a,G2 a->G a)/\(∀ a,G1 a->¬ G2 a)/\RepL K Z H m ts xs G1/\RepL K Z H m us ys G2
 | [],us,zs,G,h=>⟨[],zs,no,G,rfl,fun _ z=>z.elim,fun _ z=>z,fun _ z=>z.elim,rfl,h⟩
 | t::ts,us,zs,G,⟨x,r,A,B,e,h1,h2,hd,p,q⟩=>by
  obtain ⟨xs,ys,G1,G2,e',g1,g2,d,p1,p2⟩:=RepL.splitA q
  refine ⟨x::xs,ys,fun a=>A a\/G1 a,G2,by rw [e,e']; rfl,fun a h=>h.elim (h1 a) fun z=>h2 a (g1 a z),fun a h=>h2 a (g2 a h),fun a h z=>h.elim (fun y=>hd a y (g2 a z)) fun y=>d a y z,⟨x,xs,A,G1,rfl,fun _ z=>.inl z,fun _ z=>.inr z,fun a h z=>hd a h (g1 a z),p,p1⟩,p2⟩
theorem mM {u:W}{ws:List W}{r:W×W}(h:fB u ws=some r):∃ m ts,u=(m,.lst ts)/\m≠.s/\((ws=[]/\∃ t,ts.getLast?=some t/\r=((m.kid,t),(m,.lst ts.dropLast)))\/(∃ n t us,ws=[(n,.int 0)]/\ts=t::us/\r=((m.kid,t),(m,.lst us)))):=by
 obtain ⟨m,t⟩:=u
 have key:∀ m:Md,m≠.s->fB (m,t) ws=some r->∃ m' ts,(m,t)=(m',.lst ts)/\m'≠.s/\((ws=[]/\∃ t,ts.getLast?=some t/\r=((m'.kid,t),(m',.lst ts.dropLast)))\/(∃ n t us,ws=[(n,.int 0)]/\ts=t::us/\r=((m'.kid,t),(m',.lst us)))):=fun m hm h=>by
  unfold fB at h
  split at h
  ·cases h
  ·rename_i m1 ts1 hq1 hq2 hq3
   cases hq2
   cases e:ts1.getLast? with
   | none=>rw [e] at h; cases h
   | some t=>rw [e] at h; cases h; exact ⟨_,ts1,rfl,hm,.inl ⟨rfl,t,e,rfl⟩⟩
  ·rename_i m1 t1 ts1 n1 hq1 hq2 hq3
   cases hq2
   cases h
   exact ⟨_,_,rfl,hm,.inr ⟨_,_,_,rfl,rfl,rfl⟩⟩
  ·cases h
 cases m with
 | s=>cases h
 | d=>exact key .d (by simp) h
 | o m=>exact key (.o m) (by simp) h
theorem oS {i j:Nat}(hs:sf i=some j)(σ:L2.St)(H:Hp)(Q:VK)(h:wE K sf C (.pop i []) σ H Q):∃ a xs y,σ[j]?=some (some (.ref a))/\H a=some (.lst xs)/\xs[xs.length-1]?=some y/\Q y (upd H a (.lst xs.dropLast)):=by
 obtain ⟨pv,Z,Fs,η,w,η',A,ev,k⟩:=h
 obtain ⟨_,_,h0⟩:=aa (show (eX (rd η i)).bind (gR (evL C []) η (kf i))=_ from ev)
 obtain ⟨r,h3,h4⟩:=aa (show (ofO ((rd η i).bind fun w=>fB w [])).bind (fun r=>.ok (r.1,M.put η i r.2))=_ from h0)
 cases h4
 have h5:=bQ h3
 cases e1:rd η i with
 | none=>rw [e1] at h5; cases h5
 | some u =>
  rw [e1] at h5
  obtain ⟨m,ts,rfl,hm,⟨_,t,ht,rfl⟩ | ⟨n,t,us,e,_⟩⟩:=mM (show fB u []=some r from h5)
  ·obtain ⟨v,r4,l4,p4⟩:=A.env i m _ e1
   obtain ⟨a,xs,rfl,hl,hf,hx,p⟩:=oD hm r4
   have ets:ts=ts.dropLast++[t]:=by
    have hne:ts≠[]:=fun z=>by rw [z] at ht; cases ht
    have:=List.dropLast_concat_getLast hne
    rw [List.getLast?_eq_some_getLast hne] at ht
    cases ht
    exact this.symm
   rw [ets] at p
   obtain ⟨xs1,ys1,G1,G2,rfl,g1,g2,d,p1,p2⟩:=RepL.splitA p
   obtain ⟨y,r',A1,A2,e,a1,_,_,ry,q⟩:=p2
   obtain rfl:r'=[]:=q
   subst e
   have ry':=ry.mono a1
   refine ⟨a,xs1++[y],y,l4 j hs,hx,by simp,?_⟩
   rw [List.dropLast_concat]
   have hl1:xs1.length<=LIM:=by rw [a0d] at hl; omega
   refine qf (K:=K) (G':=G1) (R:=G2) (Q:=fun H'=>Q y H') hm A e1 hf (fun k hk=>l4 k hk) hl1 p4 (fun b h=>⟨.inl (g1 b h).1,(g1 b h).2⟩) (fun b h=>⟨.inl (g2 b h).1,(g2 b h).2⟩) (fun b h z=>d b z h) (ts':=ts.dropLast) (p1.zmono fun b h=>.inl h) fun Z' Fs' B s tr=>?_
   exact k y Z' _ Fs' G2 B (tr (ry'.zmono fun b h=>.inl h)) (s.mono (fun b h=>h.elim id fun z=>z.elim) fun _ z=>z)
  ·cases e
end
end MR
namespace MR
open L2 L3 M
open PySem (Addr Str sizeLine)
section
variable {K:a0a}{sl:Cf}{sf sg:Nat->Option Nat}{C:Call}{σ σ2:L2.St}{Z Z' Z1:Fp}{H H' H1:Hp}{Fs Fs' Fs1:Fps}{η η' η1 ηb:Env}{G G' G1 R F F':Fp}{tg is vs ls io:List Nat}{pv val:Nat->Option V}{D:b9}
noncomputable def gF (K:a0a):List Nat->TG
 | [j]=>cK j
 | [j,l]=>xM K 2 (i7 (cK j) (i7 (cK l) vX))
 | _=>fun _ _ _ _=>False
theorem lK {fl:Fl}{g:Env->Fl}(f:Fin K sl Z H F D (Fl.turn fl g)):(∃ η',fl=.nx η'/\Fin K sl Z H F D (g η'))\/(∃ η',fl=.bk η'/\Fin K sl Z H F D (.nx η'))\/(∃ w η',fl=.rt w η'/\Fin K sl Z H F D (.rt w η')):=by
 cases fl with
 | nx η=>exact .inl ⟨η,rfl,f⟩
 | bk η=>exact .inr (.inl ⟨η,rfl,f⟩)
 | rt w η=>exact .inr (.inr ⟨w,η,rfl,f⟩)
 | ex c x η=>exact f.elim
 | no=>exact f.elim
theorem mJ {fl:Fl}{g:Env->Fl}{N:L2.St->Hp->Prop}(f:Fin K sl Z H F D (Fl.turn fl g))(hN:∀ η' σ' Z' H' Fs',fl=.nx η'->Fin K sl Z H F D (g η')->At K sl σ' Z' H' Fs' η' no->Step Z H F Z' H' (tot Fs')->N σ' H'):Fin K sl Z H F { D with nx:=N,ct:=N,bk:=D.nx } fl:=by
 rcases lK f with ⟨η',rfl,f⟩ | ⟨η',rfl,f⟩ | ⟨w,η',rfl,f⟩
 ·exact fun σ' Z' H' Fs' A s=>hN η' σ' Z' H' Fs' rfl f A s
 ·exact f
 ·exact f
theorem lS {n i:Nat}{J:It}{ts:List (List W)}{ws:List W}{js:List Nat}{x:V}{Q:L2.St->Hp->Prop}(hn:tg.length=n)(nd:tg.Nodup)(N:gf sf io pv)(hio:∀ t∈tg,t ∉ io)(hjs:tg.map sf=js.map some)(hz:∀ a,Z1 a->Z a)(st:Stay Z1 H1 H)(yl:Yld K J Z1 H1 ts n)(A:At K ⟨sf,pv⟩ σ Z H Fs η no)
  (hw:ts[i]?=some ws) (hb:aT tg ws η=some ηb) (y:J.yld i H x H') (k:∀ σ2 H2 Fs2,At K ⟨sf,pv⟩ σ2 Z H2 Fs2 ηb no->Step Z H (tot Fs) Z H2 (tot Fs2)->Q σ2 H2):gF K js x σ H' Q:=by
 have hi:i < ts.length:=(a0p.mp hw).1
 match n,yl with
 | 1,yl =>
  obtain ⟨e0,w,hw',r⟩:=yl H i x H' st hi y
  rw [e0]
  rw [hw] at hw'; cases hw'
  match tg,hn,js,hjs with
  | [t],_,[j],hjs =>
   cases hb
   have hs:sf t=some j:=by simpa using hjs
   exact k _ H _ (At.set N (hio t (by simp)) hs A (r.zmono hz)) ((Step.refl _ _ _).mono (fun _ z=>z) fun a h=>(bC h).elim id fun z=>z.elim)
  | [t],_,[],hjs=>simp at hjs
  | [t],_,_::_::_,hjs=>simp at hjs
 | 2,yl =>
  obtain ⟨p,y1,z1,u,w,rfl,sm,hq,hw',r1,r2⟩:=yl H i x H' st hi y
  rw [hw] at hw'; cases hw'
  match tg,hn,js,hjs with
  | [t,t'],_,[j,j'],hjs =>
   cases hb
   have hs:sf t=some j:=by simp at hjs; exact hjs.1
   have hs':sf t'=some j':=by simp at hjs; exact hjs.2
   have s0:Step Z H no Z H' no:=d0 sm
   obtain ⟨A1,s1⟩:=A.op bg s0
   have sn:Stay Z H H':=gz sm
   have r1':Rep K Z H' u.1 u.2 y1 no:=(r1.zmono hz).keep sn (fun _ z=>z) fun _ _ z=>z.elim
   have r2':Rep K Z H' w.1 w.2 z1 no:=(r2.zmono hz).keep sn (fun _ z=>z) fun _ _ z=>z.elim
   have A2:=At.set N (hio t (by simp)) hs A1 r1'
   have A3:=At.set N (hio t' (by simp)) hs' A2 r2'
   refine ⟨p,[y1,z1],rfl,hq,rfl,y1,[z1],rfl,z1,[],rfl,rfl,k _ _ _ A3 (s1.mono (fun a h=>h.elim id fun z=>z.elim) fun a h=>?_)⟩
   rcases bC h with h | h
   ·exact .inl ((bC h).elim id fun z=>z.elim)
   ·exact h.elim
  | [t,t'],_,[],hjs=>simp at hjs
  | [t,t'],_,[_],hjs=>simp at hjs
  | [t,t'],_,_::_::_::_,hjs=>simp at hjs
theorem vH {n:Nat}{k:Ik}{src:List E}{js:List Nat}{body:List S}(hn:tg.length=n)(nd:tg.Nodup)(hio:∀ t∈tg,t ∉ io)(hjs:tg.map sf=js.map some)(D:b9)(σ:L2.St)(H:Hp)(h:wS K sf io C (.forS vs ls k src tg body) D σ H) :
  xr (wI K sf C n k src) (gF K js) (wSs K sf io C body) D σ H:=by
 obtain ⟨pv,Z,Fs,η,N,A,f⟩:=h
 obtain ⟨⟨ws,η2⟩,h1,h2⟩:=cN (show Fin K ⟨sf,pv⟩ Z H (tot Fs) D (Fl.of η (evL C src (pick vs ls η)) (ql vs k tg (evSs C body) η)) from f)
 obtain ⟨⟨ts,η3⟩,h3,h4⟩:=cN (show Fin K ⟨sf,pv⟩ Z H (tot Fs) D (Fl.of η (ret (M.share vs η) (bF k ws)) (iS tg (evSs C body))) from h2)
 obtain ⟨ts',ht,e3⟩:=ai h3
 have e4:ts=ts':=congrArg a1N e3
 have e5:η3=M.share vs η:=congrArg a1C e3
 subst e4 e5
 have h4':Fin K ⟨sf,pv⟩ Z H (tot Fs) D (dA tg (evSs C body) ts (M.share vs η)):=h4
 refine ⟨pv,_,lh,_,ws,η2,ts,A.quiet (vs:=vs) (ls:=ls),h1,ht,fun J Z1 H1 Fs1 B s wk yl=>?_⟩
 obtain ⟨B1,s1⟩:=cm (G:=no) A bg B.gd.zal (s.mono (F2:=fun a=>tot Fs1 a\/no a) (fun _ z=>z) fun a h=>h.elim id fun z=>z.elim) fun a h=>eZ h
 obtain ⟨B2,s2⟩:=B1.share (vs:=vs)
 have s3:=(s2 s1).mono (F2:=tot (da Fs vs)) (fun _ z=>z) fun _ z=>.inl z
 have zz:∀ a,Z1 a->((Z1 a/\¬ bO Fs vs a)\/bO Fs vs a):=fun a h=>(a2I (bO Fs vs a)).elim .inr fun q=>.inl ⟨h,q⟩
 refine ⟨fun i m σ' H'=>m=ts.length-i/\i<=ts.length/\∃ Zi Fsi ηi,At K ⟨sf,pv⟩ σ' Zi H' Fsi ηi no/\Step (fun a=>(Z1 a/\¬ bO Fs vs a)\/bO Fs vs a) H1 (tot (da Fs vs)) Zi H' (tot Fsi)/\Fin K ⟨sf,pv⟩ Zi H' (tot Fsi) D (dA tg (evSs C body) (ts.drop i) ηi),⟨ts.length,by simp,a1e _,_,_,_,B2,Step.refl _ _ _,h4'.step s3⟩,?_⟩
 rintro i m σi H0 ⟨rfl,hi,Zi,Fsi,ηi,Ai,si,fi⟩
 have st:Stay Z1 H1 H0:=by
  have:=B2.gd.own.stay si
  exact ⟨fun a o h=>this.1 a o (zz a h),this.2⟩
 by_cases hlt:i < ts.length
 ·right
  refine ⟨wk.go H0 i st hlt,_,fun σ' H' hw=>⟨ts.length-(i+1),by omega,hw⟩,fun x H' y=>?_⟩
  have hw:ts[i]?=some ts[i]:=by simp [hlt]
  rw [eG hw] at fi
  obtain ⟨ηb,hb,fb⟩:=cN (show Fin K ⟨sf,pv⟩ Zi H0 (tot Fsi) D (Fl.of ηi (ofO (aT tg ts[i] ηi)) fun η1=>Fl.turn (evSs C body η1) (dA tg (evSs C body) (ts.drop (i+1)))) from fi)
  refine lS hn nd N hio hjs (fun a h=>si.zm a (zz a h)) st yl Ai hw (bQ hb) y fun σ2 H2 Fs2 A2 t2=>?_
  refine ⟨pv,Zi,Fs2,ηb,N,A2,mJ (fb.step t2) fun η' σ' Z' H' Fs' _ f' A' s'=>⟨rfl,hlt,Z',Fs',η',A',(si.trans t2).trans s',f'.step s'⟩⟩
 ·left
  have hi':i=ts.length:=by omega
  subst hi'
  rw [a2j] at fi
  exact ⟨wk.stop H0 _ st (a0k _),fi σi Zi H0 Fsi Ai (Step.refl _ _ _)⟩
end
end MR

namespace MR
open PySem PySem.Spec PyProof.Rows L2 L3
section
variable {X:Cx}{sf sg:Nat->Option Nat}{C:M.Call}{pos p2:Pos}{ea eb ec:Expr}{a b c:M.E}{h:Bool}{n:Nat}
theorem ak {e:Expr}{t t':TE}(h:PE X e t)(hw:∀ σ H Q,t' σ H Q->t σ H Q):PE X e t':=fun pins s σ H Q I q=>h pins s σ H Q I (hw σ H Q q)
theorem eA {e:Expr}{t t':TT}(h:PT X e t)(hw:∀ σ H Q,t' σ H Q->t σ H Q):PT X e t':=fun pins s σ H Q I q=>h pins s σ H Q I (hw σ H Q q)
theorem ri {e:Expr}{t t':TT}(h:PW X e t)(hw:∀ σ H Q,t' σ H Q->t σ H Q):PW X e t':=fun whole pins s σ H Q I q=>h whole pins s σ H Q I (hw σ H Q q)
theorem f9 {es:List Expr}{t t':TA}(h:PA X es t)(hw:∀ σ H Q,t' σ H Q->t σ H Q):PA X es t':=fun pos pins s σ H Q I q=>h pos pins s σ H Q I (hw σ H Q q)
theorem iW {s:Stmt}{t t':TS}(h:PS X s t)(hw:∀ D σ H,t' D σ H->t D σ H):PS X s t':=fun pins s σ H D I q=>h pins s σ H D I (hw D σ H q)
theorem iw {s:List Stmt}{t t':TS}(h:PSs X s t)(hw:∀ D σ H,t' D σ H->t D σ H):PSs X s t':=fun pins s σ H D I q=>h pins s σ H D I (hw D σ H q)
theorem ly {tg e:Expr}{t t':TI}(h:PI X tg e t)(hw:∀ σ H R,t' σ H R->t σ H R):PI X tg e t':=fun pins s σ H R I q=>h pins s σ H R I (hw σ H R q)
theorem yC {tg e:Expr}{t t':TI}(h:PI X tg e t)(h':PI X tg e t'):PI X tg e (fun σ H R=>t σ H R\/t' σ H R):=fun pins s σ H R I q=>q.elim (h pins s σ H R I) (h' pins s σ H R I)
noncomputable abbrev SE (X:Cx)(sf:Nat->Option Nat)(C:M.Call)(me:Expr)(e:M.E):Prop:=PE X me (wE X.K sf C e)
noncomputable abbrev SB (X:Cx)(sf:Nat->Option Nat)(C:M.Call)(me:Expr)(e:M.E):Prop:=PT X me (wT X.K sf C e)
noncomputable abbrev SL (X:Cx)(sf:Nat->Option Nat)(C:M.Call)(me:List Expr)(es:List M.E):Prop:=PA X me (wL X.K sf C es)
noncomputable abbrev SA (X:Cx)(sf:Nat->Option Nat)(C:M.Call)(me:List Expr)(es:List M.E):Prop:=PA X me (wA X.K sf C es)
noncomputable abbrev SS (X:Cx)(sf:Nat->Option Nat)(io:List Nat)(C:M.Call)(ms:Stmt)(s:M.S):Prop:=PS X ms (wS X.K sf io C s)
noncomputable abbrev SSs (X:Cx)(sf:Nat->Option Nat)(io:List Nat)(C:M.Call)(ms:List Stmt)(s:List M.S):Prop:=PSs X ms (wSs X.K sf io C s)
theorem sV (j:Nat){i:Nat}{x:Str}(hs:sf i=some j:=by rfl)(hN:X.N[j]?=some x:=by rfl)(hv:Vis X.env.scope x:=by first | exact a0I rfl | exact a0C (a0I rfl) | exact a0C (a0C rfl))(hd:(x==("__debug__":Str))=false:=by decide)
  (hcd:(x==("__classdict__":Str))=false:=by decide):SE X sf C (.Name x pos) (.var i):=ak (cR hN hv hd hcd) (r6 hs)
theorem sM (j:Nat){i:Nat}{x:Str}(hs:sf i=some j:=by rfl)(hN:X.N[j]?=some x:=by rfl)(hv:Vis X.env.scope x:=by first | exact a0I rfl | exact a0C (a0I rfl) | exact a0C (a0C rfl))(hd:(x==("__debug__":Str))=false:=by decide)
  (hcd:(x==("__classdict__":Str))=false:=by decide):SE X sf C (.Name x pos) (.mv i):=ak (cR hN hv hd hcd) (uc (fun _=>rfl) hs)
theorem sI {i:Int}{k:Nat}:SE X sf C (.Constant (.int i) k pos) (.cst (.int i)):=ak dB (dW fun {_ _}=>rfl)
theorem sO {i:Bool}{k:Nat}:SE X sf C (.Constant (.bool i) k pos) (.cst (.bl i)):=ak x6 (dW fun {_ _}=>rfl)
theorem sN {k:Nat}:SE X sf C (.Constant .none k pos) (.cst .non):=ak r8 (dW fun {_ _}=>rfl)
theorem oT (s:String)(hl:s.length<=1000):M.sOk (Str.ofString s)=true:=by
 unfold M.sOk
 rw [Str.ofString_eq_toList,a0c]
 refine ⟨?_,decide_eq_true ?_⟩
 ·rw [a1c]
  intro x hx
  rw [List.mem_toArray,a1B] at hx
  obtain ⟨c,_,rfl⟩:=hx
  refine decide_eq_true ?_
  have:=c.valid
  have h2:c.toNat < 0x110000:=by
   have h3:=c.valid
   unfold UInt32.isValidChar Nat.isValidChar at h3
   show c.val.toNat < _
   omega
  exact h2
 ·rw [a0i,a0f,String.length_toList]
  exact a0r hl (by decide)
theorem sS {s:String}{k:Nat}(hl:s.length<=1000:=by decide):SE X sf C (.Constant (.str (Str.ofString s)) k pos) (.cst (.str (Str.ofString s))):=ak d5 (dW fun {_ _}=>⟨rfl,oT s hl⟩)
theorem sl0:SL X sf C [] []:=f9 fI tR
theorem slc {es:List Expr}{bs:List M.E}(ha:SE X sf C ea a)(hb:SL X sf C es bs)(hs:starEach (ea::es) X.env=(false,eval ea X.env)::starEach es X.env:=by rfl):SL X sf C (ea::es) (a::bs):=f9 (b8 ha hb hs) og
theorem sT {es:List Expr}{bs:List M.E}{x1:Nat}(h:SL X sf C es bs)(hn:bs.length<=M.LIM:=by decide):SE X sf C (.Tuple es x1 pos) (.tup bs):=ak (sF h) (s9 hn)
theorem sLs {es:List Expr}{bs:List M.E}(hh:SL X sf C es bs)(hn:bs.length<=M.LIM:=by decide):SE X sf C (.List es pos) (.lst h bs):=ak (uJ hh) (rN hn)
theorem bf (ha:SE X sf C ea a)(hb:SE X sf C eb b):SE X sf C (.BinOp ea .Add eb pos) (.op .add h [a,b]) :=
 ak (eO (op_add.or (op_add_str.or (op_cat.or n6))) ha hb) (aE (pA (q0 X.K) fun {Z H G Q a b xs ys ts} h1 h2 h3 h4 ow r k=>by
  obtain ⟨G',g1,g2⟩:=r
  refine ⟨a,b,xs,ys,rfl,rfl,h1,h2,h3,LIM_le h4,fun v H' same hv=>gk (m:=.s) ow g1 ?_ g2 k same hv⟩
  rw [a0d]; exact h4))
theorem dg (ha:SE X sf C ea a)(hb:SE X sf C eb b):SE X sf C (.BinOp ea .Sub eb pos) (.op .sub h [a,b]):=ak (eO vS ha hb) (aE pj)
theorem yW (ha:SE X sf C ea a)(hb:SE X sf C eb b):SE X sf C (.BinOp ea .Mult eb pos) (.op .mul h [a,b]):=ak (eO (op_mul.or tS) ha hb) (aE pP)
theorem dh (ha:SE X sf C ea a)(hb:SE X sf C eb b):SE X sf C (.BinOp ea .FloorDiv eb pos) (.op .fdiv h [a,b]):=ak (eO nQ ha hb) (aE lz)
theorem c7 (ha:SE X sf C ea a)(hb:SE X sf C eb b):SE X sf C (.BinOp ea .Mod eb pos) (.op .mod h [a,b]):=ak (eO sJ ha hb) (aE oV)
theorem qL (ha:SE X sf C ea a)(hb:SE X sf C eb b):SE X sf C (.BinOp ea .Pow eb pos) (.op .pow h [a,b]):=ak (eO vq ha hb) (aE qw)
theorem uG (ha:SE X sf C ea a):SE X sf C (.UnaryOp .USub ea pos) (.op .neg h [a]):=ak (wB vL ha) (sd oH)
theorem sLe (ha:SE X sf C ea a)(hb:SE X sf C eb b):SE X sf C (.Compare ea [.LtE] [eb] pos) (.op .le h [a,b]):=ak (cF fQ ha hb (bP _)) (aE tV)
theorem sGt (ha:SE X sf C ea a)(hb:SE X sf C eb b):SE X sf C (.Compare ea [.Gt] [eb] pos) (.op .gt h [a,b]):=ak (cF rm ha hb (bP _)) (aE kP)
theorem sGe (ha:SE X sf C ea a)(hb:SE X sf C eb b):SE X sf C (.Compare ea [.GtE] [eb] pos) (.op .ge h [a,b]):=ak (cF v8 ha hb (bP _)) (aE tK)
theorem sIx (ha:SE X sf C ea a)(hb:SE X sf C eb b)(hs:dt eb:=by intro _ _; rfl):SE X sf C (.Subscript ea eb pos) (.op .ix h [a,b]):=ak (qZ (ix_any.or vb) ha hb hs) (aE sk)
mutual
noncomputable def th:M.T->Th
 | .non=>.non | .bl b=>.bl b | .int i=>.int i | .str x=>.str x | .tup ts=>.tup (ths ts) | .lst ts=>.lst (ths ts) | .dct _ _=>.non | .ins _ _ _=>.non | .scr _=>.non | .gone=>.non
noncomputable def ths:List M.T->List Th
 | []=>[]
 | t::ts=>th t::ths ts
end
mutual
theorem iT {K:a0a}{Z:Fp}{H:Hp}:∀ {t:M.T} {m:M.Md} {v:V} {G:Fp} {n:Nat},M.dp t<=n->n<=64->Rep K Z H m t v G->Has K H (th t) v/\(toD (th t)).canLay0=true/\(toD (th t)).depth<=n
 | .non,_,_,_,_,_,_,r=>⟨r,rfl,a1e _⟩
 | .bl _,_,_,_,_,_,_,r=>⟨r,rfl,a1e _⟩
 | .int _,_,_,_,_,_,_,r=>⟨r,rfl,a1e _⟩
 | .str x,_,_,_,_,_,_,r=>⟨r.1,by have h:=r.2; unfold M.sOk at h; rw [a0c] at h; exact h.1,a1e _⟩
 | .tup ts,m,v,G,n,hd,hn,⟨a,xs,e,q,l,r⟩=>by
  have hd':M.dps ts+1<=n:=hd
  match n,hd' with
  | n+1,hd' =>
   obtain ⟨h1,h2,h3⟩:=dv (n:=n) (by omega) (by omega) r
   exact ⟨⟨a,xs,e,q,h1⟩,h2,a2k h3⟩
 | .lst ts,m,v,G,n,hd,hn,⟨a,xs,e,l,q,r⟩=>by
  have hd':M.dps ts+1<=n:=hd
  match n,hd' with
  | n+1,hd' =>
   obtain ⟨h1,h2,h3⟩:=dv (n:=n) (by omega) (by omega) r
   exact ⟨⟨a,xs,e,by cases m<;>exact q.2,h1⟩,h2,a2k h3⟩
 | .dct _ _,_,_,_,_,hd,hn,_=>by have:1000<=64:=a0r hd hn; omega
 | .ins _ _ _,_,_,_,_,hd,hn,_=>by have:1000<=64:=a0r hd hn; omega
 | .gone,_,_,_,_,hd,hn,_=>by have:1000<=64:=a0r hd hn; omega
 | .scr _,_,_,_,_,hd,hn,_=>by have:1000<=64:=a0r hd hn; omega
theorem dv {K:a0a}{Z:Fp}{H:Hp}:∀ {ts:List M.T} {m:M.Md} {xs:List V} {G:Fp} {n:Nat},M.dps ts<=n->n<=64->RepL K Z H m ts xs G->HasL K H (ths ts) xs/\PyData.canLayAll0 (de (ths ts))=true/\PyData.depthAll (de (ths ts))<=n
 | [],_,_,_,_,_,_,r=>⟨r,rfl,a1e _⟩
 | t::ts,m,xs,G,n,hd,hn,⟨x,r,G1,G2,e,_,_,_,p,q⟩=>by
  have hd':max (M.dp t) (M.dps ts)<=n:=hd
  obtain ⟨h1,h2,h3⟩:=iT (n:=n) (by omega) hn p
  obtain ⟨k1,k2,k3⟩:=dv (n:=n) (by omega) hn q
  refine ⟨⟨x,r,e,h1,k1⟩,?_,?_⟩
  ·show ((toD (th t)).canLay0&&PyData.canLayAll0 (de (ths ts)))=true
   rw [h2,k2]; rfl
  ·show max (toD (th t)).depth (PyData.depthAll (de (ths ts)))<=n
   omega
end
mutual
theorem ia:∀ (t u:M.T),M.dp t<=64->M.dp u<=64->PyData.eqv (toD (th t)) (toD (th u))=M.eqT t u
 | .dct _ _,_,h,_=>by have:1000<=64:=h; omega
 | .ins _ _ _,_,h,_=>by have:1000<=64:=h; omega
 | .gone,_,h,_=>by have:1000<=64:=h; omega
 | .scr _,_,h,_=>by have:1000<=64:=h; omega
 | .non,u,_,h=>by cases u<;>first | rfl | (have:1000<=64:=h; omega)
 | .bl a,u,_,h=>by cases u<;>first | rfl | (cases a<;>rfl) | (have:1000<=64:=h; omega)
 | .int i,u,_,h=>by
  cases u with
  | bl b=>cases b<;>rfl
  | _=>first | rfl | (have:1000<=64:=h; omega)
 | .str x,u,_,h=>by cases u<;>first | rfl | (have:1000<=64:=h; omega)
 | .tup ts,u,h1,h=>by
  cases u with
  | tup us=>exact fm ts us (by have:M.dps ts+1<=64:=h1; omega) (by have:M.dps us+1<=64:=h; omega)
  | _=>first | rfl | (have:1000<=64:=h; omega)
 | .lst ts,u,h1,h=>by
  cases u with
  | lst us=>exact fm ts us (by have:M.dps ts+1<=64:=h1; omega) (by have:M.dps us+1<=64:=h; omega)
  | _=>first | rfl | (have:1000<=64:=h; omega)
theorem fm:∀ (ts us:List M.T),M.dps ts<=64->M.dps us<=64->PyData.eqvAll (de (ths ts)) (de (ths us))=M.eqTs ts us
 | [],[],_,_=>rfl
 | [],_::_,_,_=>rfl
 | _::_,[],_,_=>rfl
 | t::ts,u::us,h1,h2=>by
  have h1':max (M.dp t) (M.dps ts)<=64:=h1
  have h2':max (M.dp u) (M.dps us)<=64:=h2
  show (PyData.eqv (toD (th t)) (toD (th u))&&PyData.eqvAll (de (ths ts)) (de (ths us)))=(M.eqT t u&&M.eqTs ts us)
  rw [ia t u (by omega) (by omega),fm ts us (by omega) (by omega)]
end
theorem eT {K:a0a}{Z:Fp}{H:Hp}{t:M.T}{m:M.Md}{v:V}{G:Fp}(hd:M.dp t<=64)(r:Rep K Z H m t v G):Has K H (th t) v/\eY (th t):=by
 obtain ⟨h1,h2,h3⟩:=iT hd (a0k _) r
 refine ⟨h1,?_⟩
 show ((toD (th t)).canLay0&&decide ((toD (th t)).depth<=64))=true
 rw [h2,decide_eq_true h3]; rfl
theorem nq {K:a0a}:Loc K 2 .eq h fun xs H Q=>∀ x y,xs=[x,y]->∃ t t',Has K H t x/\Has K H t' y/\eY t/\eY t'/\Q (.bl (PyData.eqv (toD t) (toD t'))) H:=by
 intro ws w xs Z H G Q hn e r ow za k x y hx
 subst hx
 obtain ⟨⟨m,a⟩,⟨n,b⟩,rfl⟩:=cS r.length.symm
 obtain ⟨G1,G2,w1,w2,d,r1,r2⟩:=bL r
 have e':(if decide (M.dp a<=64)&&decide (M.dp b<=64) then some ((.d,.bl (M.eqT a b)):M.W) else none)=some w:=e
 split at e'
 ·rename_i hc
  rw [a0c,decide_eq_true_eq,decide_eq_true_eq] at hc
  cases e'
  obtain ⟨h1,o1⟩:=eT hc.1 r1
  obtain ⟨h2,o2⟩:=eT hc.2 r2
  refine ⟨th a,th b,h1,h2,o1,o2,?_⟩
  rw [ia a b hc.1 hc.2]
  exact aZ k
 ·cases e'
theorem tY {K:a0a}:Loc K 2 .ne h fun xs H Q=>∀ x y,xs=[x,y]->∃ t t',Has K H t x/\Has K H t' y/\eY t/\eY t'/\Q (.bl (!PyData.eqv (toD t) (toD t'))) H:=by
 intro ws w xs Z H G Q hn e r ow za k x y hx
 subst hx
 obtain ⟨⟨m,a⟩,⟨n,b⟩,rfl⟩:=cS r.length.symm
 obtain ⟨G1,G2,w1,w2,d,r1,r2⟩:=bL r
 have e':(if decide (M.dp a<=64)&&decide (M.dp b<=64) then some ((.d,.bl (!M.eqT a b)):M.W) else none)=some w:=e
 split at e'
 ·rename_i hc
  rw [a0c,decide_eq_true_eq,decide_eq_true_eq] at hc
  cases e'
  obtain ⟨h1,o1⟩:=eT hc.1 r1
  obtain ⟨h2,o2⟩:=eT hc.2 r2
  refine ⟨th a,th b,h1,h2,o1,o2,?_⟩
  rw [ia a b hc.1 hc.2]
  exact aZ k
 ·cases e'
theorem sEq (hr:Room n X.A)(ha:SE X sf C ea a)(hb:SE X sf C eb b):SE X sf C (.Compare ea [.Eq] [eb] pos) (.op .eq h [a,b]):=ak (cF (ja hr.units) ha hb (bP _)) (aE nq)
theorem ifN {α:Type}{b:Bool}{x:Option α}{y:α}(h:(if b=true then none else x)=some y):b=false/\x=some y:=by cases b<;>first | exact ⟨rfl,h⟩ | cases h
theorem jg {K:a0a}{Z:Fp}{H:Hp}{G:Fp}{m:M.Md}{ts:List M.T}{xs:List V}(lo hi:Option Int)(r:RepL K Z H m ts xs G):RepL K Z H m (M.cut ts lo hi) (cy xs lo hi) G:=by
 have e:=r.length
 have hs:∀ n d o,HT.sIx n d o=M.sIx n d o:=fun n d o=>by cases o<;>rfl
 have hc:cy xs lo hi=(xs.drop (M.sIx ts.length 0 lo)).take (M.sIx ts.length ts.length hi-M.sIx ts.length 0 lo):=by
  unfold cy
  rw [hs,hs,e]
 rw [hc]
 exact (r.drop _).take _
theorem mw (ns:List Int)(lo hi:Option Int):cy (ns.map V.int) lo hi=(M.cut ns lo hi).map V.int:=by
 have hs:∀ n d o,HT.sIx n d o=M.sIx n d o:=fun n d o=>by cases o<;>rfl
 unfold cy M.cut
 rw [hs,hs,a0f,List.map_take,List.map_drop]
theorem uO {α:Type}(xs:List α)(lo hi:Option Int):(M.cut xs lo hi).length<=xs.length:=by
 unfold M.cut
 rw [a1w,a1i]; omega
theorem lI {K:a0a}{Z:Fp}{H:Hp}{G G1:Fp}{Q:VK}{m:M.Md}{a:M.T}{x:V}{w:M.W}{lo hi:Option Int}(hg:∀ b,G1 b->G b)(ow:Own Z H G)(za:∀ a,Z a->H a≠none)(r:Rep K Z H m a x G1)
  (e:(match a with | .lst ts=>M.newL h m.kid (M.cut ts lo hi) | .tup ts=>some ((.s,.tup (M.cut ts lo hi)):M.W) | .scr ns=>some (.d,.lst ((M.cut ns lo hi).map M.T.int)) | _=>none)=some w) (k:Out K Z H G w Q):oe K x lo hi H Q\/qr K x lo hi H Q:=by
 cases a with
 | lst ts =>
  obtain ⟨p,xs,rfl,hs,hl,q⟩:=bB r
  refine .inl ⟨p,xs,rfl,.inl (.inl hs),fun l hl'=>?_⟩
  exact bZ ow za (a0r (bD xs lo hi) hl) ⟨G1,hg,(jg lo hi q).zmono fun _ z=>.inl z⟩ e k hl'
 | tup ts =>
  obtain ⟨p,xs,rfl,hs,hl,q⟩:=bH r
  cases e
  refine .inr ⟨p,xs,rfl,hs,fun v H' same hv=>?_⟩
  exact gk (m:=.s) (G':=no) ow (fun _ z=>z.elim) (a0r (bD xs lo hi) hl) ((RepL.sh (jg lo hi q)).zmono fun b hb=>hb.imp id fun z=>⟨hg b z,fun q=>q⟩) k same hv
 | scr ns =>
  obtain ⟨p,rfl,hL,hs⟩:=r
  cases e
  refine .inl ⟨p,_,rfl,hs.sq,fun l hl'=>?_⟩
  rw [mw]
  exact bG (m:=.d) (G':=no) ow za (fun _ z=>z.elim) (by rw [a0f]; exact a0r (uO ns lo hi) hL) (gZ _) (by simp) k hl'
 | _=>cases e
theorem qF {p3:Pos}(ha:SE X sf C ea a)(hb:SE X sf C eb b):SE X sf C (.Subscript ea (.Slice none (some eb) none p3) pos) (.op .sl2 h [a,b]) :=
 ak (fY (sl_list.or i0) ha iV (iU hb)) (fun σ H Q hw=>aE (r:=fun x y H Q=>∃ i,y=.int i/\(oe X.K x none (some i) H Q\/qr X.K x none (some i) H Q)) (by
  intro ws w xs Z H G Q hn e r ow za k x y hx
  subst hx
  obtain ⟨⟨m,a⟩,⟨n,b⟩,rfl⟩:=cS r.length.symm
  obtain ⟨G1,G2,w1,w2,d,r1,r2⟩:=bL r
  cases b with
  | int i=>exact ⟨i,r2,lI (h:=h) (lo:=none) (hi:=some i) w1 ow za r1 (by cases a<;>exact e) k⟩
  | _=>cases a<;>cases e) σ H Q hw)
theorem gN {p3:Pos}(ha:SE X sf C ea a)(hb:SE X sf C eb b):SE X sf C (.Subscript ea (.Slice (some eb) none none p3) pos) (.op .sl1 h [a,b]) :=
 ak (fY (sl_list.or i0) ha (iU hb) iV) (fun σ H Q hw=>aE (r:=fun x y H Q=>∃ i,y=.int i/\(oe X.K x (some i) none H Q\/qr X.K x (some i) none H Q)) (by
  intro ws w xs Z H G Q hn e r ow za k x y hx
  subst hx
  obtain ⟨⟨m,a⟩,⟨n,b⟩,rfl⟩:=cS r.length.symm
  obtain ⟨G1,G2,w1,w2,d,r1,r2⟩:=bL r
  cases b with
  | int i=>exact ⟨i,r2,lI (h:=h) (lo:=some i) (hi:=none) w1 ow za r1 (by cases a<;>exact e) k⟩
  | _=>cases a<;>cases e) σ H Q hw)
theorem gh {K:a0a}:Loc K 1 .len h fun xs H Q=>∃ x n,xs=[x]/\w9 K x H n/\Q (.int n) H:=by
 intro ws w xs Z H G Q hn e r ow za k
 obtain ⟨x,n,hx,hm,q⟩:=ot (h:=h) ws w xs Z H G Q hn e r ow za k
 exact ⟨x,n,hx,by cases x<;>exact hm,q⟩
section
variable {p:Pos}{x1:Str}
theorem bR (hm:X.mg "len"=none)(hg:Gl X "len":=by rfl)(ha:SE X sf C ea a)(hs:starEach [ea] X.env=(false,eval ea X.env)::starEach [] X.env:=by rfl)(hpl:(backTo pos (starEach [] X.env)).any (·.1)=false:=by rfl):SE X sf C (.Call (.Name "len" p) [ea] [] pos) (.op .len h [a]) :=
 ak (cu gm hg hm a2u (slc ha sl0 hs) (by decide) (by decide) hs hpl) (iP gh rfl)
theorem kc (hc:X.calm=true:=by rfl)(hm:X.mg "all"=none)(hg:Gl X "all":=by rfl)(ha:SE X sf C ea a)(hs:starEach [ea] X.env=(false,eval ea X.env)::starEach [] X.env:=by rfl)(hpl:(backTo pos (starEach [] X.env)).any (·.1)=false:=by rfl):SE X sf C (.Call (.Name "all" p) [ea] [] pos) (.op .all h [a]) :=
 ak (cu (jV hc) hg hm (by rfl) (slc ha sl0 hs) (by decide) (by decide) hs hpl) (iP oE rfl)
theorem rj (hm:X.mg "list"=none)(hg:Gl X "list":=by rfl)(ha:SE X sf C ea a)(hs:starEach [ea] X.env=(false,eval ea X.env)::starEach [] X.env:=by rfl)(hpl:(backTo pos (starEach [] X.env)).any (·.1)=false:=by rfl):SE X sf C (.Call (.Name "list" p) [ea] [] pos) (.op .list h [a]) :=
 ak (eD fv hg hm a2C (slc ha sl0 hs) (by decide) (by decide) hs hpl) (iP lu rfl)
end
theorem fH {K:a0a}{x:V}{H:Hp}{k:Bool}(h:TrV K x H k):nh K x H k:=by
 cases x with
 | ref p=>exact h.imp id .inl
 | byt _=>exact h.elim
 | _=>exact h
theorem tB (ha:SE X sf C ea a)(he:∀ whole,isTrue ea X.env whole=(do let v <- whole; standAt ea.pos; holding [v] (truthy v)):=by intro _; rfl):SB X sf C ea a :=
 eA (ny ha he) fun σ H Q h=>by
  obtain ⟨pv,Z,Fs,η,w,η',b,A,ev,ht,k⟩:=h
  exact ⟨pv,Z,Fs,η,w,η',A,ev,fun v Z' H' Fs' G B r s=>⟨b,fH (cM ht r),k Z' H' Fs' B.bare (s.mono (fun _ z=>z) fun _ z=>.inl z)⟩⟩
theorem bz (ha:SB X sf C ea a):SB X sf C (.UnaryOp .Not ea pos) (.not a):=eA (uK ha) vA
theorem rf {σ:L2.St}{H:Hp}{Q:Bool->Hp->Prop}(hb:∀ η w η',M.evE C a η=.ok (w,η')->∃ b,w.2=.bl b)(h:wT X.K sf C a σ H Q):kx (wE X.K sf C a) σ H Q:=by
 obtain ⟨pv,Z,Fs,η,w,η',b,A,ev,ht,k⟩:=h
 refine ⟨pv,Z,Fs,η,w,η',A,ev,fun v Z' H' Fs' G B r s=>⟨b,?_,k Z' H' Fs' B.bare (s.mono (fun _ z=>z) fun _ z=>.inl z)⟩⟩
 obtain ⟨b',hb'⟩:=hb _ _ _ ev
 rw [hb'] at ht r
 cases ht
 exact r
theorem wW {o:M.Op}(ho:∀ u v w,M.oSem o h [u,v]=some w->∃ b,w.2=.bl b):∀ η w η',M.evE C (.op o h [a,b]) η=.ok (w,η')->∃ b,w.2=.bl b:=fun η w η' e=>by
 obtain ⟨ws,h1,h2⟩:=cc e
 obtain ⟨u,η1,us,_,e2,rfl⟩:=aL h1
 obtain ⟨v,η2,us,_,e4,rfl⟩:=aL e2
 cases e4
 exact ho u v w h2
theorem bo {op:CmpOp}{r:R2}{o:M.Op}(ho:OpR X (compareOp op) r)(ha:SE X sf C ea a)(hb:SE X sf C eb b)(hm:behindInMarks op eb=false)(hl:∀ σ H Q,wE X.K sf C (.op o h [a,b]) σ H Q->tOp r (wE X.K sf C a) (wE X.K sf C b) σ H Q)
  (hbl:∀ u v w,M.oSem o h [u,v]=some w->∃ b,w.2=.bl b):SB X sf C (.Compare ea [op] [eb] pos) (.op o h [a,b]) :=
 eA (fF ho ha hb hm) fun σ H Q hw=>hl σ H _ (rf (wW hbl) hw)
theorem ya {u v w:M.W}(e:M.oSem .eq h [u,v]=some w):∃ b,w.2=.bl b:=by
 obtain ⟨m,a⟩:=u; obtain ⟨n,b⟩:=v
 have e':(if decide (M.dp a<=64)&&decide (M.dp b<=64) then some ((.d,.bl (M.eqT a b)):M.W) else none)=some w:=e
 split at e'
 ·cases e'; exact ⟨_,rfl⟩
 ·cases e'
theorem v7 {u v w:M.W}(e:M.oSem .ne h [u,v]=some w):∃ b,w.2=.bl b:=by
 obtain ⟨m,a⟩:=u; obtain ⟨n,b⟩:=v
 have e':(if decide (M.dp a<=64)&&decide (M.dp b<=64) then some ((.d,.bl (!M.eqT a b)):M.W) else none)=some w:=e
 split at e'
 ·cases e'; exact ⟨_,rfl⟩
 ·cases e'
theorem qq (ha:SE X sf C ea a)(hb:SE X sf C eb b):SB X sf C (.Compare ea [.Lt] [eb] pos) (.op .lt h [a,b]):=bo xX ha hb (bP _) (aE uV) fun u v w e=>by obtain ⟨_,_,_,_,_,_,rfl⟩:=lY e; exact ⟨_,rfl⟩
theorem jr (ha:SE X sf C ea a)(hb:SE X sf C eb b):SB X sf C (.Compare ea [.Gt] [eb] pos) (.op .gt h [a,b]):=bo rm ha hb (bP _) (aE kP) fun u v w e=>by obtain ⟨_,_,_,_,_,_,rfl⟩:=mB e; exact ⟨_,rfl⟩
theorem bI (hr:Room n X.A)(ha:SE X sf C ea a)(hb:SE X sf C eb b):SB X sf C (.Compare ea [.Eq] [eb] pos) (.op .eq h [a,b]):=bo (ja hr.units) ha hb (bP _) (aE nq) fun u v w e=>ya e
theorem gO (hr:Room n X.A)(ha:SE X sf C ea a)(hb:SE X sf C eb b):SB X sf C (.Compare ea [.NotEq] [eb] pos) (.op .ne h [a,b]):=bo (qd hr.units) ha hb (bP _) (aE tY) fun u v w e=>v7 e
noncomputable abbrev SW (X:Cx)(sf:Nat->Option Nat)(C:M.Call)(me:Expr)(e:M.E):Prop:=PW X me (wT X.K sf C e)
theorem wA1 (ha:SB X sf C ea a):SW X sf C (.BoolOp .And [ea] pos) a:=pO ha
theorem wO1 (ha:SB X sf C ea a):SW X sf C (.BoolOp .Or [ea] pos) a:=t5 ha
theorem sW {rest:List Expr}(ha:SB X sf C ea a)(hb:SW X sf C (.BoolOp .And (eb::rest) pos) b):SW X sf C (.BoolOp .And (ea::eb::rest) pos) (.and a b):=ri (rK ha hb) u5
theorem wOr {rest:List Expr}(ha:SB X sf C ea a)(hb:SW X sf C (.BoolOp .Or (eb::rest) pos) b):SW X sf C (.BoolOp .Or (ea::eb::rest) pos) (.or a b):=ri (v5 ha hb) xA
theorem tW (h:SW X sf C ea a):SB X sf C ea a:=h.pt
theorem pb {ta:TE}(ha:PE X ea ta):PE X (.UnaryOp .Not ea pos) (fun σ H Q=>ta σ H fun x H1=>∃ k,nh X.K x H1 k/\Q (.bl (!k)) H1):=by
 intro pins s σ H Q I h
 refine UnaryOp_ (thn (ha pins s σ H _ I h) fun v s1 ⟨x,H1,I1,r1,q1⟩=>?_)
 refine not_of (thn (ig pins s1 σ H1 x v (fun k H2=>Q (.bl (!k)) H2) I1 r1 q1) fun k s2 ⟨H2,I2,q2⟩=>⟨.bl (!k),H2,I2,rfl,q2⟩)
theorem zJ (ha:SE X sf C ea a):SE X sf C (.UnaryOp .Not ea pos) (.not a):=ak (pb ha) fun σ H Q h=>by
 obtain ⟨pv,Z,Fs,η,w,η',A,ev,k⟩:=tO σ H Q h
 exact ⟨pv,Z,Fs,η,w,η',A,ev,fun v Z' H' Fs' G B r s=>let ⟨c,t,q⟩:=k v Z' H' Fs' G B r s; ⟨c,fH t,q⟩⟩
theorem sIf (hc:SB X sf C ec c)(ha:SE X sf C ea a)(hb:SE X sf C eb b):SE X sf C (.IfExp ec ea eb pos) (.ifx c a b):=ak (nu hc ha hb) vT
theorem iG {tg:Expr}(ha:SE X sf C ea a):PI X tg ea (wI X.K sf C 1 .seq [a]):=ly (yC (pU ha) (rW ha)) u0
theorem yT {tg:Expr}{p:Pos}(hm:X.mg "range"=none)(hg:Gl X "range":=by rfl)(ha:SE X sf C ea a)(hs:starEach [ea] X.env=[(false,eval ea X.env)]:=by rfl):PI X tg (.Call (.Name "range" p) [ea] [] pos) (wI X.K sf C 1 .rng [a]):=ly (kb hg hm (slc ha sl0 hs) hs) pq
noncomputable def lkN:List Nat->Nat->Nat->Option Nat
 | [],_,_=>none
 | t::ts,n,i=>if i=t then some n else lkN ts (n+1) i
theorem iL:∀ {l:List Nat} {n i j:Nat},lkN l n i=some j->∃ k,l[k]?=some i/\j=n+k/\i ∉ l.take k
 | [],_,_,_,h=>by cases h
 | t::ts,n,i,j,h=>by
  have h':(if i=t then some n else lkN ts (n+1) i)=some j:=h
  split at h'
  ·rename_i e; cases h'; exact ⟨0,by rw [e]; rfl,rfl,by simp⟩
  ·rename_i e
   obtain ⟨k,h1,h2,h3⟩:=iL h'
   exact ⟨k+1,h1,by omega,by rw [a0z,a0E]; exact fun z=>z.elim e h3⟩
noncomputable def inF (tg ls:List Nat):Nat->Option Nat:=lkN (tg++ls) 0
theorem f7 {tg ls is:List Nat}(h:ls.map sf=is.map some):dE sf (inF tg ls) tg is:=fun i j hj=>by
 obtain ⟨k,h1,h2,h3⟩:=iL (show lkN (tg++ls) 0 i=some j from hj)
 rw [a2d] at h2
 subst h2
 by_cases hk:j < tg.length
 ·rw [a0T hk] at h1
  exact .inl ⟨j,h1,rfl⟩
 ·have hk':tg.length<=j:=a2i hk
  rw [a0K hk'] at h1
  refine .inr ⟨fun hi=>h3 ?_,?_⟩
  ·rw [List.take_append,a1b hk']
   exact a0V _ hi
  ·have e1:(ls.map sf)[j-tg.length]?=some (sf i):=by rw [a0t,h1]; rfl
   rw [h,a0t] at e1
   cases e2:is[j-tg.length]? with
   | none=>rw [e2] at e1; cases e1
   | some j0 =>
    rw [e2] at e1
    exact ⟨j-tg.length,j0,by omega,e2,(a0s e1).symm⟩
theorem yh {x:Str}{px:Pos}{ys:List Str}{scope:Scope}{cl:List (Str×Addr)}(S:aO [x] ys scope)(Ca:Addr)(s:Shared)(H:Hp)(fp:List Addr):PG (av X ([x]++ys) scope cl Ca s H fp) (.Name x px) (gT X.K 1) :=
 je (X:=av X ([x]++ys) scope cl Ca s H fp) (i:=0) (x:=x) (pos:=px) S.nd rfl (.inl (lookup_relabel_local (S.loc x (by simp)))) (.inr (lookup_relabel_local (S.loc x (by simp))))
end
end MR

namespace MR
open PySem PySem.Spec PyProof.Rows L2 L3
section
variable {X:Cx}{sf sg:Nat->Option Nat}{C:M.Call}{pos p2:Pos}{ea eb ec:Expr}{a b c:M.E}{h:Bool}{n:Nat}{io:List Nat}
section
variable {elt iter cnd:Expr}{x y:Str}{px py pt:Pos}{kt:Nat}{scope:Scope}{cl:List (Str×Addr)}{ys:List Str}{tg ls is:List Nat}{k:M.Ik}{src:List M.E}{e cd:M.E}
theorem sC1 (ls:List Nat)(is:List Nat)(cl:List (Str×Addr))(ys:List Str){t:Nat}(hi:PI X (.Name x px) iter (wI X.K sf C 1 k src))(he:∀ Ca s H fp,SE (av X ([x]++ys) scope cl Ca s H fp) (inF [t] ls) C elt e)
  (S:aO [x] ys scope) (hcl:Clo X cl) (fr:Frees X scope cl ys is) (hc:X.calm=true:=by rfl) (hl:ls.map sf=is.map some:=by rfl)
  (hclos:closureFor scope X.env=pure cl:=by with_unfolding_all rfl) (hfr:(scope.names.all fun p=>p.2 != .free || (cl.lookup p.1).isSome)=true:=by rfl)
  (hs:∀ v,foldedSetIterable iter X.env v=pure v:=by intro _; rfl):SE X sf C (.ListComp elt [⟨.Name x px,iter,[],0⟩] scope pos) (.comp h k src [t] none e) :=
 ak (jS (pre:=[x]) hc hi (yh S) (fun Ca s H fp=>he Ca s H fp) hclos S hcl hfr fr hs) (mS rfl (by simp) (f7 hl))
theorem zp (ls:List Nat)(is:List Nat)(cl:List (Str×Addr))(ys:List Str){t:Nat}(hi:PI X (.Name x px) iter (wI X.K sf C 1 k src))(hcd:∀ Ca s H fp,SB (av X ([x]++ys) scope cl Ca s H fp) (inF [t] ls) C cnd cd)(he:∀ Ca s H fp,SE (av X ([x]++ys) scope cl Ca s H fp) (inF [t] ls) C elt e)
  (S:aO [x] ys scope) (hcl:Clo X cl) (fr:Frees X scope cl ys is) (hc:X.calm=true:=by rfl) (hl:ls.map sf=is.map some:=by rfl)
  (hclos:closureFor scope X.env=pure cl:=by with_unfolding_all rfl) (hfr:(scope.names.all fun p=>p.2 != .free || (cl.lookup p.1).isSome)=true:=by rfl)
  (hs:∀ v,foldedSetIterable iter X.env v=pure v:=by intro _; rfl):SE X sf C (.ListComp elt [⟨.Name x px,iter,[cnd],0⟩] scope pos) (.comp h k src [t] (some cd) e) :=
 ak (jA (pre:=[x]) hc hi (yh S) (fun Ca s H fp=>he Ca s H fp) (fun Ca s H fp=>hcd Ca s H fp) hclos S hcl hfr fr hs) (kh rfl (by simp) (f7 hl))
end
noncomputable def spS (K:a0a)(C:M.Call)(f:Nat)(io:List Nat):Sp:=fun vs H Q _=>spC K C f io vs H Q
theorem sa0:SA X sf C [] []:=f9 fI uu
theorem sac {es:List Expr}{bs:List M.E}(ha:SE X sf C ea a)(hb:SA X sf C es bs)(he:∀ i,a≠.io i:=by intro _ z; cases z)(hs:starEach (ea::es) X.env=(false,eval ea X.env)::starEach es X.env:=by rfl):SA X sf C (ea::es) (a::bs):=f9 (b8 ha hb hs) (lR he)
theorem sai (j:Nat){i:Nat}{x:Str}{es:List Expr}{bs:List M.E}(hb:SA X sf C es bs)(hs:sf i=some j:=by rfl)(hN:X.N[j]?=some x:=by rfl)(hv:Vis X.env.scope x:=by first | exact a0I rfl | exact a0C (a0I rfl) | exact a0C (a0C rfl))(hd:(x==("__debug__":Str))=false:=by decide)
  (hcd:(x==("__classdict__":Str))=false:=by decide) (hst:starEach (.Name x pos::es) X.env=(false,eval (.Name x pos) X.env)::starEach es X.env:=by rfl):SA X sf C (.Name x pos::es) (.io i::bs):=f9 (b8 (cR hN hv hd hcd) hb hst) (jB hs)
noncomputable def ae (P:Program)(w:World)(K:a0a)(mg:Str->Option Value)(base:Heap)(n:Nat)(C:M.Call)(x:Str)(f:Nat)(io:List Nat):Prop :=
 ∃ fa fd ps,cx P w K mg base CX0 n fa fd ps (spS K C f io)/\mg x=some (.ref fa)/\a1t K (.ref fa)=true/\Binds K fd ps []
theorem aF {x:Str}{p:Pos}{f:Nat}{es:List Expr}{bs:List M.E}(c:ae X.prog X.w X.K X.mg X.base n C x f io)(hr:Room n X.A)(ha:SA X sf C (ea::es) bs)(hio:dZ bs 0=io\/M.ios bs=[]:=by first | exact .inl rfl | exact .inr rfl)(hg:Gl X x:=by rfl)(hdb:(x==("__debug__":Str))=false:=by decide)
  (he:starEach (ea::es) X.env=(false,eval ea X.env)::starEach es X.env:=by rfl) (hpl:(backTo pos (starEach es X.env)).any (·.1)=false:=by rfl):SE X sf C (.Call (.Name x p) (ea::es) [] pos) (.call f bs):=by
 obtain ⟨fa,fd,ps,F,hm,hk,hb⟩:=c
 refine ak (o9 (E:=E0) F hr hg hm hk hb .nil yu ha hdb he hpl) fun σ H Q hw=>?_
 have h2:=nT hio σ H Q hw
 obtain ⟨pv,Z,Fs,η,ws,η',A,ev,k⟩:=h2
 exact ⟨pv,Z,Fs,η,ws,η',A,ev,fun vs Z' H' Fs' G B r s hv=>by show spS X.K C f io (vs++[]) H' Q E0; rw [a0L]; exact k vs Z' H' Fs' G B r s hv⟩
theorem ss0:SSs X sf io C [] []:=iw nP qh
theorem ss1 {s:Stmt}{t:M.S}(hs:SS X sf io C s t):SSs X sf io C [s] [t]:=iw (qg hs) oC
theorem ssc {s:Stmt}{t:M.S}{r:List Stmt}{u:List M.S}(hs:SS X sf io C s t)(hr:SSs X sf io C r u):SSs X sf io C (s::r) (t::u):=iw (nG hs hr) mH
theorem a5 (j:Nat){i:Nat}{x:Str}{xx:M.X}{pos':Pos}(hN:X.N.Nodup)(ha:SE X sf C ea a)(hi:i ∉ io:=by decide)(hs:sf i=some j:=by rfl)(hj:X.N[j]?=some x:=by rfl)(hx:L2.Loc X.env.scope x:=by first | exact a0I rfl | exact a0C rfl)
  (hsw:swapsWith ea (some (.Name x pos')) pos.line X.env=pure false:=by rfl) (hf:X.fn x=true\/X.env.scope.names.lookup x=some .local:=by first | exact .inl rfl | exact .inr rfl):SS X sf io C (.Assign [.Name x pos'] ea pos) (.asg xx i a):=iW (uB (i:=j) hN hj hx ha hsw hf) (vc hi hs)
theorem ax {vs:List Nat}(ha:SE X sf C ea a):SS X sf io C (.Return (some ea) pos) (.ret vs a):=iW (rG ha) rM
theorem zIf {xx:M.X}{r u:List Stmt}{s t:List M.S}(hc:SB X sf C ec c)(ha:SSs X sf io C r s)(hb:SSs X sf io C u t):SS X sf io C (.If ec r u pos) (.ite xx c s t):=iW (wC hc ha hb) tm
theorem mF (j:Nat){t:Nat}{x:Str}{px:Pos}{iter:Expr}{r:List Stmt}{s:List M.S}{vs ls:List Nat}{k:M.Ik}{src:List M.E}(hN:X.N.Nodup)(hi:PI X (.Name x px) iter (wI X.K sf C 1 k src))(ha:SSs X sf io C r s)(hio:∀ u∈[t],u ∉ io:=by decide)(hjs:[t].map sf=[j].map some:=by rfl)(hj:X.N[j]?=some x:=by rfl)(hx:L2.Loc X.env.scope x:=by first | exact a0I rfl | exact a0C rfl)
  (hc:X.calm=true:=by rfl) (hp:PassesOwn (model X.prog X.w) X.A X.env X.xe:=by exact PassesOwn.never) (hf:X.fn x=true\/X.env.scope.names.lookup x=some .local:=by first | exact .inl rfl | exact .inr rfl) (hs:∀ x,foldedSetIterable iter X.env x=pure x:=by intro _; rfl):SS X sf io C (.For (.Name x px) iter r [] pos) (.forS vs ls k src [t] s) :=
 iW (ud hp hc hi (je (i:=j) hN hj hx hf) ha hs) (vH rfl (by simp) hio hjs)
end
end MR

namespace MR
open PySem PySem.Spec PyProof.Rows L2 L3
section
variable {K:a0a}{Z:Fp}{H:Hp}
theorem fL:∀ {ws:List M.W} {n i:Nat} {w:M.W},M.rd (ws.map some++a0g n none) i=some w->ws[i]?=some w
 | [],0,i,w,h=>by simp [M.rd] at h
 | [],n+1,0,w,h=>by simp [a0O,M.rd] at h
 | [],n+1,i+1,w,h=>by
  have:M.rd (([]:List M.W).map some++a0g n none) i=some w:=by simpa [a0O,M.rd] using h
  have:=fL this
  simp at this
 | u::ws,n,0,w,h=>by simpa [M.rd] using h
 | u::ws,n,i+1,w,h=>by
  have:M.rd (ws.map some++a0g n none) i=some w:=by simpa [M.rd] using h
  simpa using fL this
theorem kB:∀ {ws:List M.W} {vs:List V} {G:Fp},RepW K Z H ws vs G->∃ Fs:Fps,(∀ i a,Fs i a->G a)/\(∀ i j a,Fs i a->Fs j a->i=j)/\∀ i w,ws[i]?=some w->∃ v,vs[i]?=some v/\Rep K Z H w.1 w.2 v (Fs i)
 | [],vs,G,_=>⟨fun _=>no,fun _ _ h=>h.elim,fun _ _ _ h=>h.elim,fun i w h=>by simp at h⟩
 | w::ws,vs,G,⟨x,r,G1,G2,e,h1,h2,hd,p,q⟩=>by
  obtain ⟨Fs,f1,f2,f3⟩:=kB q
  subst e
  refine ⟨fun i=>match i with | 0=>G1 | i+1=>Fs i,fun i a h=>?_,fun i j a hi hj=>?_,fun i u h=>?_⟩
  ·cases i with
   | zero=>exact h1 a h
   | succ i=>exact h2 a (f1 i a h)
  ·cases i with
   | zero =>
    cases j with
    | zero=>rfl
    | succ j=>exact absurd (f1 j a hj) (hd a hi)
   | succ i =>
    cases j with
    | zero=>exact absurd (f1 i a hi) (hd a hj)
    | succ j=>exact congrArg (·+1) (f2 i j a hi hj)
  ·cases i with
   | zero=>simp only [a1o,a1L] at h; subst h; exact ⟨x,rfl,p⟩
   | succ i=>simpa using f3 i u (by simpa using h)
noncomputable def slN (n:Nat):Nat->Option Nat:=fun i=>if i < n then some i else none
theorem cP {sl:Cf}{σ:L2.St}{Fs:Fps}{η:M.Env}{G:Fp}{vs:List V}(A:At K sl σ Z H Fs η G):∀ {io:List Nat} {bs:List M.W},io.Nodup->(∀ i∈io,sl.pv i=vs[i]?/\i < vs.length)->M.backs io η=some bs->RepW K Z H bs (atV io vs) (fun a=>∃ i∈io,Fs i a)
 | [],bs,_,_,h=>by
  simp only [M.backs,a1L] at h; subst h; rfl
 | i::io,bs,nd,hv,h=>by
  simp only [M.backs] at h
  cases e:M.rd η i with
  | none=>rw [e] at h; cases h
  | some w =>
   rw [e] at h
   simp only [a2l] at h
   cases e2:M.backs io η with
   | none=>rw [e2] at h; cases h
   | some ws =>
    rw [e2] at h
    simp only [a2l,a1L] at h
    subst h
    obtain ⟨v,r,_,hp⟩:=A.env i w.1 w.2 e
    have hi:=hv i a0o
    obtain ⟨u,hu⟩:∃ u,vs[i]?=some u:=⟨vs[i]'hi.2,a0m hi.2⟩
    have:=hp u (hi.1.trans hu)
    subst this
    refine ⟨v,atV io vs,Fs i,fun a=>∃ j∈io,Fs j a,?_,fun a h=>⟨i,a0o,h⟩,fun a ⟨j,hj,h⟩=>⟨j,a0n _ hj,h⟩,fun a h ⟨j,hj,h'⟩=>?_,r,cP A (a1d.mp nd).2 (fun j hj=>hv j (a0n _ hj)) e2⟩
    ·rw [atV,a0N,hu]; rfl
    ·exact (a1d.mp nd).1 (A.gd.dis i j a h h' ▸ hj)
end
section
variable {P:Program}{w:World}{K:a0a}{mg:Str->Option Value}{base:Heap}
theorem ni {Z:Fp}{H:Hp}{ws:List M.W}{vs:List V}{G:Fp}{N:List Str}{n:Nat}{io:List Nat}(r:RepW K Z H ws vs G)(o:Own Z H G)(z:∀ a,Z a->H a≠none)(hl:vs.length<=N.length) :
  ∃ Fs,(∀ a,tot Fs a->G a)/\At K ⟨slN N.length,fun i=>if i∈io then vs[i]? else none⟩ (L2.start N vs) Z H Fs (ws.map some++a0g n none) no:=by
 obtain ⟨Fs,f1,f2,f3⟩:=kB r
 have st:∀ i v,vs[i]?=some v->(L2.start N vs)[i]?=some (some v):=fun i v h=>by
  have hi:=(a0p.mp h).1
  rw [L2.start,a0T (by simpa using hi),a0t,h]; rfl
 refine ⟨Fs,fun a ⟨i,h⟩=>f1 i a h,⟨⟨fun a ⟨i,h⟩=>o a (f1 i a h),f2,z⟩,fun i m t e=>?_,fun a h=>h.elim,fun a h=>h.elim,fun i u j hu hj=>?_,fun i j hj=>?_⟩⟩
 ·obtain ⟨v,hv,rp⟩:=f3 i (m,t) (fL e)
  refine ⟨v,rp,fun j hj=>?_,fun u hu=>?_⟩
  ·simp only [slN] at hj
   split at hj
   ·cases hj; exact st i v hv
   ·cases hj
  ·simp only at hu
   split at hu
   ·rw [hv] at hu; cases hu; rfl
   ·cases hu
 ·simp only at hu
  simp only [slN] at hj
  split at hj
  ·cases hj
   split at hu
   ·exact st i u hu
   ·cases hu
  ·cases hj
 ·simp only [slN] at hj
  split at hj
  ·cases hj
   rename_i h
   rw [L2.start,a0d,a0f,a0H]; omega
  ·cases hj
theorem Fun.okM {x qual:Str}{st:Stmt}{f:Addr}{fd:FuncData}{N ps:List Str}{k:Nat}{C:M.Call}{d:M.Fn}(F:L2.Fun K x qual st f fd)(S:aw N ps (defScope st))(hps:d.ps=ps.length)(hle:ps.length<=N.length)(nd:d.io.Nodup)(hio:∀ i∈d.io,i < ps.length)
  (hbody:∀ (cdv:Value) (A:Around) (outer:List Env) (s:Shared) (H:Hp) (E:XK),Room k (A.deeper (envOfC qual (defScope st) s.heap.objs.size f cdv)) ->
   SSs (fD CX0 P w K mg base N qual (defScope st) f cdv A outer s H E).nox (slN N.length) d.io C (defBody st) d.body) {g:Nat} {C':M.Call} (hC:∀ ws,C' g ws=M.runF C d ws):cx P w K mg base CX0 (k+1) f fd ps (spS K C' g d.io):=by
 have len:∀ vs H Q E,spS K C' g d.io vs H Q E->vs.length=ps.length:=fun vs H Q E ⟨Z,ws,G,w,bs,r,_,_,hr,_⟩=>by
  rw [hC] at hr
  unfold M.runF at hr
  split at hr
  ·rename_i h; rw [r.length,h,hps]
  ·cases hr
 refine F.ok S len fun cdv A outer s H vs Q E hr h=>⟨_,hbody cdv A outer s H E hr,?_⟩
 have hlen:=len vs H Q E h
 obtain ⟨Z,ws,G,w,bs,r,o,z,hc,q⟩:=h
 rw [hC] at hc
 have hwl:ws.length=d.ps:=by rw [<- r.length,hlen,hps]
 rw [M.x_run _ _ _ hwl] at hc
 obtain ⟨Fs,ft,A0⟩:=ni (n:=d.ns) (io:=d.io) r o z (N:=N) (by omega)
 refine ⟨_,Z,Fs,_,⟨fun i i' j h h'=>?_,fun i h=>if_neg h⟩,A0,?_⟩
 ·simp only [slN] at h h'
  split at h
  ·split at h'
   ·cases h; cases h'; rfl
   ·cases h'
  ·cases h
 have hv:∀ i∈d.io,(if i∈d.io then vs[i]? else none)=vs[i]?/\i < vs.length:=fun i hi=>⟨if_pos hi,hlen ▸ hio i hi⟩
 cases e:M.evSs C d.body (ws.map some++a0g d.ns none) with
 | nx η =>
  rw [e] at hc
  intro σ' Z' H' Fs' A' t
  simp only [M.Fl.out] at hc
  cases e2:M.backs d.io η with
  | none=>rw [e2] at hc; cases hc
  | some cs =>
   rw [e2] at hc
   cases hc
   refine q .non Z' H' no _ rfl (cP A' nd hv e2) (fun _ h=>h.elim) (fun a h=>h.elim (fun z=>z.elim) fun ⟨i,_,z⟩=>A'.gd.own a ⟨i,z⟩) (t.mono ft fun a h=>h.elim (fun z=>z.elim) fun ⟨i,_,z⟩=>⟨i,z⟩)
 | rt u η =>
  rw [e] at hc
  intro v σ' Z' H' Fs' G' A' rp t
  simp only [M.Fl.out] at hc
  cases e2:M.backs d.io η with
  | none=>rw [e2] at hc; cases hc
  | some cs =>
   rw [e2] at hc
   cases hc
   exact q v Z' H' G' _ rp (cP A' nd hv e2) (fun a h ⟨i,_,z⟩=>A'.dis a h ⟨i,z⟩) (fun a h=>h.elim (A'.own a) fun ⟨i,_,z⟩=>A'.gd.own a ⟨i,z⟩) (t.mono ft fun a h=>h.elim .inr fun ⟨i,_,z⟩=>.inl ⟨i,z⟩)
 | bk η=>rw [e] at hc; cases hc
 | ex c x η=>rw [e] at hc; cases hc
 | no=>rw [e] at hc; cases hc
end
end MR

namespace MR
open PySem PySem.Spec PyProof.Rows L2 L3
noncomputable def wc (K:a0a)(H:Hp):Th->V->Prop
 | .tup _,x=>∃ a vs,x=.ref a/\SqT K H a vs
 | .lst _,x=>∃ a vs,x=.ref a/\SqL K H a vs
 | .non,x=>x=.non
 | .bl b,x=>x=.bl b
 | .int i,x=>x=.int i
 | .str z,x=>x=.str z
theorem km {X:Cx}{c:String}(hc:c∈["tuple","str","bool","int","list"]):dX X (.builtin "isinstance") (fun xs H Q=>∃ x t,xs=[x,.ty c]/\wc X.K H t x/\Q (.bl (isI c t)) H):=by
 intro pins s σ H xs us Q I r h
 obtain ⟨x,t,rfl,ht,q⟩:=h
 obtain ⟨u,w',rfl,ru,rw'⟩:=wU r
 cases rw'
 have e:a09 X.K (.type t.ty) (.type c)=some (isI c t):=kit_type.trans (vE hc t)
 have fin:∀ tk,EP X pins σ Q (.bool (isI c t)) { s with toks:=tk }:=fun tk=>⟨.bl (isI c t),H,I.tok tk,rfl,q⟩
 cases t with
 | non =>
  obtain rfl:x=.non:=ht
  exact b6 I ru .non e fin
 | bl b =>
  obtain rfl:x=.bl b:=ht
  exact b6 I ru (.bl b) e fin
 | int i =>
  obtain rfl:x=.int i:=ht
  exact b6 I ru (.int i) e fin
 | str z =>
  obtain rfl:x=.str z:=ht
  exact b6 I ru (.str z) e fin
 | tup ts =>
  obtain ⟨a,vs,rfl,hS⟩:=ht
  cases ru
  obtain ⟨its,_,p,_⟩:=I.tuple hS
  obtain ⟨o,h1,h2,_⟩:=p
  exact a0F a17 I.kIn ⟨o,h1,h2⟩ e (fun z=>nomatch z) fin
 | lst ts =>
  obtain ⟨a,vs,rfl,hS⟩:=ht
  cases ru
  obtain ⟨its,_,p,_⟩:=I.list hS
  obtain ⟨o,n,h1,h2,_⟩:=p
  exact a0F a1I I.kIn ⟨o,h1,h2⟩ e (fun z=>nomatch z) fin
noncomputable def thT:M.T->Th
 | .non=>.non | .bl b=>.bl b | .int i=>.int i | .str x=>.str x | .tup _=>.tup [] | .lst _=>.lst [] | .scr _=>.lst [] | .dct _ _=>.non | .ins _ _ _=>.non | .gone=>.non
theorem pB {K:a0a}{Z:Fp}{H:Hp}{t:M.T}{m:M.Md}{x:V}{G:Fp}(hg:t.isG=false)(r:Rep K Z H m t x G):wc K H (thT t) x/\(thT t).ty=t.ty:=by
 cases t with
 | non=>exact ⟨r,rfl⟩
 | bl _=>exact ⟨r,rfl⟩
 | int _=>exact ⟨r,rfl⟩
 | str _=>exact ⟨r.1,rfl⟩
 | tup _=>obtain ⟨p,xs,e,q,_⟩:=r; exact ⟨⟨p,xs,e,q⟩,rfl⟩
 | lst _=>obtain ⟨p,xs,e,_,q,_⟩:=r; exact ⟨⟨p,xs,e,.inl (.inl (by cases m<;>exact q.2))⟩,rfl⟩
 | scr _=>obtain ⟨p,e,_,q⟩:=r; exact ⟨⟨p,_,e,q.sq⟩,rfl⟩
 | dct _ _=>exact r.elim
 | ins _ _ _=>exact r.elim
 | gone=>cases hg
theorem p8 {t:Th}{u:M.T}{c:String}(h:t.ty=u.ty):isI c t=M.isOne c u:=by unfold isI M.isOne; rw [h]
section
variable {X:Cx}{sf sg:Nat->Option Nat}{C:M.Call}{pos p2 p3:Pos}{ea eb ec:Expr}{a b c:M.E}{h:Bool}{n:Nat}{io:List Nat}
theorem bj {c:String}{k:Str}(hc:c∈["tuple","str","bool","int","list"])(hv:bootBuiltins k=some (.type c))(hm:X.mg "isinstance"=none)(hm2:X.mg k=none)(ha:SE X sf C ea a)(hg:Gl X "isinstance":=by rfl)(hg2:Gl X k:=by rfl)(hn:k≠"__name__":=by decide)(hd:(k==("__debug__":Str))=false:=by decide)
  (hs:starEach [ea,.Name k p2] X.env=(false,eval ea X.env)::starEach [.Name k p2] X.env:=by rfl) (hs2:starEach [.Name k p2] X.env=(false,eval (.Name k p2) X.env)::starEach [] X.env:=by rfl) (hpl:(backTo pos (starEach [.Name k p2] X.env)).any (·.1)=false:=by rfl) :
  SE X sf C (.Call (.Name "isinstance" p3) [ea,.Name k p2] [] pos) (.op (.isI [c]) h [a]) :=
 ak (cu (km hc) hg hm a2n (b8 ha (b8 (xG hg2 hm2 hv hn hd) fI hs2) hs) (by decide) (by decide) hs hpl) fun σ H Q hw=>by
  obtain ⟨pv,Z,Fs,η,w,η',A,ev,k⟩:=hw
  obtain ⟨ws,h1,h2⟩:=cc ev
  obtain ⟨⟨m,u⟩,η1,us,e1,e2,rfl⟩:=aL h1
  cases e2
  obtain ⟨hug,h2⟩:=ifN (show (if u.isG=true then none else some _)=_ from h2)
  cases h2
  refine ⟨pv,Z,Fs,η,(m,u),η',A,e1,fun x Z' H' Fs' G B r s=>?_⟩
  obtain ⟨t1,t2⟩:=pB hug r
  refine ⟨x,thT u,rfl,t1,?_⟩
  have:=aZ (bX B s k)
  rw [p8 t2]
  rw [show ([c].any fun c=>M.isOne c u)=M.isOne c u by simp] at this
  exact this
theorem ym (j:Nat){i:Nat}{x:Str}{apos cpos px:Pos}(hs:sf i=some j:=by rfl)(hN:X.N[j]?=some x:=by rfl)(hv:Vis X.env.scope x:=by first | exact a0I rfl | exact a0C (a0I rfl) | exact a0C (a0C rfl))(hd:(x==("__debug__":Str))=false:=by decide)(hcd:(x==("__classdict__":Str))=false:=by decide)
  (hbase:attributeBase (.Name x px) "pop" X.env (eval (.Name x px) X.env)=eval (.Name x px) X.env:=by rfl) (hline:(apos.endLine==cpos.line)=true:=by rfl) :
  SE X sf C (.Call (.Attribute (.Name x px) "pop" apos) [] [] cpos) (.pop i []) :=
 ak (m9 PySem.F.plainAttrs_list PySem.F.slot_list_pop PySem.F.type_list_pop rP (cR hN hv hd hcd) hbase hline) fun σ H Q hw=>by
  obtain ⟨a,xs,y,hj,hp,hy,q⟩:=oS hs σ H Q hw
  exact ⟨.ref a,hj,.inl ⟨rfl,xs,.inl (.inl hp)⟩,a,xs,y,rfl,rfl,hp,hy,q⟩
end
end MR

namespace MR
open PySem PySem.Spec PyProof.Rows L2 L3
structure Txt (mg:Str->Option Value):Prop where
 isin:mg "isinstance"=none
 int:mg "int"=none
 tup:mg "tuple"=none
 list:mg "list"=none
 bool:mg "bool"=none
 sum:mg "sum"=none
 len:mg "len"=none
 all:mg "all"=none
 zip:mg "zip"=none
 range:mg "range"=none
 enum:mg "enumerate"=none
 any:mg "any"=none
 max:mg "max"=none
 min:mg "min"=none
 sorted:mg "sorted"=none
 str:mg "str"=none
 repr:mg "repr"=none
 abs:mg "abs"=none
 dict:mg "dict"=none
 set:mg "set"=none
 rev:mg "reversed"=none
theorem frc {X:Cx}{scope:Scope}{cl:List (Str×Addr)}{y:Str}{ys:List Str}{i:Nat}{is:List Nat}{c:Addr}(r:Frees X scope cl ys is)(h1:X.N[i]?=some y:=by rfl)(h2:Vis X.env.scope y:=by first | exact a0I rfl | exact a0C (a0I rfl) | exact a0C (a0C rfl))(h3:X.env.kindOf y=some .cell\/X.env.kindOf y=some .free:=by first | exact a0I rfl | exact a0C rfl)
  (h4:X.env.cells.lookup y=some c:=by rfl) (h5:cl.lookup y=some c:=by rfl) (h6:(relabel scope X.env).names.lookup y=some .cell\/(relabel scope X.env).names.lookup y=some .free:=by first | exact a0I rfl | exact a0C rfl):Frees X scope cl (y::ys) (i::is):=.cons h1 h2 h3 h4 h5 h6 r
theorem yK {X:Cx}{y:Str}{c:Addr}{cl:List (Str×Addr)}(r:Clo X cl)(h:X.env.cells.lookup y=some c:=by rfl):Clo X ((y,c)::cl):=.cons h r
end MR

namespace MR
open PySem PySem.Spec PyProof.Rows L2 L3
section
variable {P:Program}{w:World}{K:a0a}{mg:Str->Option Value}{base:Heap}
theorem fV {C:M.Call}{g:Nat}{io:List Nat}{vs:List V}{H:Hp}{Q:VK}{E:XK}(hC:∀ ws,C g ws=.no)(h:spS K C g io vs H Q E):False:=by
 obtain ⟨Z,ws,G,w,bs,_,_,_,e,_⟩:=h
 rw [hC] at e
 cases e
theorem fn0 {f:Addr}{fd:FuncData}{ps:List Str}{k g:Nat}{io:List Nat}{C:M.Call}(hC:∀ ws,C g ws=.no):cx P w K mg base CX0 k f fd ps (spS K C g io) :=
 ⟨fun _ _ _ _ h=>(fV hC h).elim,fun _ _ _ _ _ _ _ _ _ _ _ _ _ h=>(fV hC h).elim⟩
theorem ic {Z:Fp}{H:Hp}{a:Addr}{ns:List Int}(hO:lA H)(hl:ns.length<=63)(h:SqL K H a (ns.map V.int)):Rep K Z H .d (.scr ns) (.ref a) no:=by
 refine ⟨a,rfl,a0r hl (by decide),?_⟩
 rcases h with (z | ⟨o,z⟩) | z
 ·rcases hO a with y | ⟨o,xs,y⟩<;>rw [y] at z<;>cases z
 ·exact .inl ⟨o,z⟩
 ·exact .inr (.inr z)
theorem vB {H:Hp}{a:Addr}{ns:List Int}{C:M.Call}{ix:Nat}(hp:∃ m bs,C ix [(.d,.scr ns)]=.ok ((m,.bl true),bs))(hl:ns.length<=63)(hO:lA H)(h:SqL K H a (ns.map V.int)):spS K C ix [] [.ref a] H (fun v _=>v=.bl true) fun _ _ _=>False:=by
 obtain ⟨m,bs,e⟩:=hp
 exact ⟨no,[(.d,.scr ns)],no,(m,.bl true),bs,RepW.one (ic hO hl h),bg,fun _ z=>z.elim,e,fun v Z' H' G1 G2 r _ _ _ _=>r⟩
end
end MR

namespace MR
open PySem PySem.Spec PyProof.Rows L2 L3
structure SBs (as:List Addr)(H H':Hp):Prop where
 keep:∀ b u,b ∉ as->H b=some u->H' b=some u
 al:∀ b,H b≠none->H' b≠none
instance {as:List Addr} {H H':Hp}:CoeFun (SBs as H H') (fun _=>∀ b u,b ∉ as->H b=some u->H' b=some u):=⟨fun s=>s.keep⟩
theorem le2:2<=sizeLine:=by decide
end MR

namespace MR
open PySem PySem.Spec PyProof.Rows L2 L3
section
variable {X:Cx}{sf sg:Nat->Option Nat}{io:List Nat}{C:M.Call}{pos p2:Pos}{ea eb ec:Expr}{a b c:M.E}{h:Bool}{n:Nat}
theorem oZ {rest:List Expr}{ta tb:TE}(ha:PE X ea ta)(hb:PE X (.BoolOp .And (eb::rest) pos) tb):PE X (.BoolOp .And (ea::eb::rest) pos) (fun σ H Q=>ta σ H fun x H1=>∃ k,nh X.K x H1 k/\if k=true then tb σ H1 Q else Q x H1):=by
 intro pins s σ H Q I h
 refine BoolOp_and (thn (ha pins s σ H _ I h) fun v s1 ⟨x,H1,I1,r1,q1⟩=>?_)
 refine thn (ig pins s1 σ H1 x v (fun k H2=>if k=true then tb σ H2 Q else Q x H2) I1 r1 q1) fun k s2 ⟨H2,I2,q2⟩=>?_
 cases k with
 | true=>exact hb pins s2 σ H2 Q I2 (by rw [if_pos rfl] at q2; exact q2)
 | false=>exact ⟨x,H2,I2,r1,by rw [if_neg a0e] at q2; exact q2⟩
theorem vA1 (ha:SE X sf C ea a):SE X sf C (.BoolOp .And [ea] pos) a:=vK ha
theorem iq {rest:List Expr}(ha:SE X sf C ea a)(hb:SE X sf C (.BoolOp .And (eb::rest) pos) b):SE X sf C (.BoolOp .And (ea::eb::rest) pos) (.and a b):=ak (oZ ha hb) fun σ H Q h=>by
 obtain ⟨pv,Z,Fs,η,w,η',A,ev,k⟩:=t4 σ H Q h
 exact ⟨pv,Z,Fs,η,w,η',A,ev,fun v Z' H' Fs' G B r s=>let ⟨c,t,q⟩:=k v Z' H' Fs' G B r s; ⟨c,fH t,q⟩⟩
theorem sBW (h:SE X sf C ea a):SE X sf C ea a:=h
end
end MR

namespace MR
open PySem PySem.Spec PyProof.Rows L2 L3
end MR

namespace MR
open PySem PySem.Spec PyProof.Rows L2 L3
section
variable {X:Cx}{sf sg:Nat->Option Nat}{io:List Nat}{C:M.Call}{pos p2:Pos}{ea eb ec:Expr}{a b c:M.E}{h:Bool}{n:Nat}
theorem eh {K:a0a}{o p:M.Op}{g g':Int->Int->Bool}(inv:∀ {u v w:M.W},M.oSem o false [u,v]=some w->∃ m n i j,u=(m,.int i)/\v=(n,.int j)/\w=(.d,.bl (g i j)))(inv':∀ {u v w:M.W},M.oSem p false [u,v]=some w->∃ m n i j,u=(m,.int i)/\v=(n,.int j)/\w=(.d,.bl (g' i j)))
  (σ:L2.St) (H:Hp) (Q:VK) (hw:wE K sf C (.chain o p a b c) σ H Q):eU (rI0 fun i j=>.bl (g i j)) (rI0 fun i j=>.bl (g' i j)) (wE K sf C a) (wE K sf C b) (wE K sf C c) σ H Q:=by
 obtain ⟨pv,Z,Fs,η,w,η',A,ev,k⟩:=hw
 obtain ⟨⟨x,η1⟩,h1,h2⟩:=aa (show (M.evE C a η).bind (M.kC1 o p (M.evE C b) (M.evE C c))=_ from ev)
 obtain ⟨⟨y,η2⟩,h3,h4⟩:=aa (show (M.evE C b η1).bind (M.kC2 o p (M.evE C c) x)=_ from h2)
 obtain ⟨⟨kk,η3⟩,h5,h6⟩:=aa (show (M.ret η2 (M.oSem o false [x,y])).bind (fun k=>M.onB k.1.2 (M.then' (M.evE C c) (M.kC3 p y)) (M.okW (.d,.bl false)) k.2)=_ from h4)
 obtain ⟨k',e5,e5'⟩:=ai h5
 cases e5'
 obtain ⟨m1,m2,i,j,rfl,rfl,rfl⟩:=inv e5
 have dr:∀ {Z:Fp} {H:Hp} {F Z1:Fp} {H1:Hp} {Fs1:Fps} {G1:Fp},Step Z H F Z1 H1 (fun a=>tot Fs1 a\/G1 a)->Step Z H F Z1 H1 (tot Fs1):=fun s=>s.mono (fun _ z=>z) fun _ z=>.inl z
 refine c9 A h1 fun vx Z1 H1 Fs1 G1 A1 r1 _ s1 _=>?_
 have A1':=A1.bare
 refine c9 A1' h3 fun vy Z2 H2 Fs2 G2 A2 r2 _ s2 _=>⟨i,j,r1,r2,g i j,rfl,?_⟩
 have A2':=A2.bare
 have s12:=(dr s1).trans (dr s2)
 have h6':M.onB (.bl (g i j)) (M.then' (M.evE C c) (M.kC3 p (m2,.int j))) (M.okW (.d,.bl false)) η2=.ok (w,η'):=h6
 cases hg:g i j with
 | true =>
  rw [hg] at h6'
  rw [if_pos rfl]
  obtain ⟨⟨z,η4⟩,h7,h8⟩:=aa (show (M.evE C c η2).bind (M.kC3 p (m2,.int j))=_ from h6')
  obtain ⟨z',e8,e8'⟩:=ai (show M.ret η4 (M.oSem p false [(m2,.int j),z])=_ from h8)
  cases e8'
  obtain ⟨n1,n2,i',j',e9,rfl,rfl⟩:=inv' e8
  cases e9
  refine c9 A2' h7 fun vz Z3 H3 Fs3 G3 A3 r3 _ s3 _=>⟨j,j',r2,r3,?_⟩
  exact k _ Z3 H3 Fs3 no A3.bare rfl ((s12.trans (dr s3)).mono (fun _ z=>z) fun _ z=>z.elim id fun q=>q.elim)
 | false =>
  rw [hg] at h6'
  rw [if_neg a0e]
  cases h6'
  exact k _ Z2 H2 Fs2 no A2' rfl (s12.mono (fun _ z=>z) fun _ z=>z.elim id fun q=>q.elim)
theorem mE {o p:M.Op}{g g':Int->Int->Bool}(inv:∀ {u v w:M.W},M.oSem o false [u,v]=some w->∃ m n i j,u=(m,.int i)/\v=(n,.int j)/\w=(.d,.bl (g i j)))(inv':∀ {u v w:M.W},M.oSem p false [u,v]=some w->∃ m n i j,u=(m,.int i)/\v=(n,.int j)/\w=(.d,.bl (g' i j))) :
  ∀ η w η',M.evE C (.chain o p a b c) η=.ok (w,η')->∃ b,w.2=.bl b:=fun η w η' ev=>by
 obtain ⟨⟨x,η1⟩,h1,h2⟩:=aa (show (M.evE C a η).bind (M.kC1 o p (M.evE C b) (M.evE C c))=_ from ev)
 obtain ⟨⟨y,η2⟩,h3,h4⟩:=aa (show (M.evE C b η1).bind (M.kC2 o p (M.evE C c) x)=_ from h2)
 obtain ⟨⟨kk,η3⟩,h5,h6⟩:=aa (show (M.ret η2 (M.oSem o false [x,y])).bind (fun k=>M.onB k.1.2 (M.then' (M.evE C c) (M.kC3 p y)) (M.okW (.d,.bl false)) k.2)=_ from h4)
 obtain ⟨k',e5,e5'⟩:=ai h5
 cases e5'
 obtain ⟨m1,m2,i,j,rfl,rfl,rfl⟩:=inv e5
 have h6':M.onB (.bl (g i j)) (M.then' (M.evE C c) (M.kC3 p (m2,.int j))) (M.okW (.d,.bl false)) η2=.ok (w,η'):=h6
 cases hg:g i j with
 | true =>
  rw [hg] at h6'
  obtain ⟨⟨z,η4⟩,h7,h8⟩:=aa (show (M.evE C c η2).bind (M.kC3 p (m2,.int j))=_ from h6')
  obtain ⟨z',e8,e8'⟩:=ai (show M.ret η4 (M.oSem p false [(m2,.int j),z])=_ from h8)
  cases e8'
  obtain ⟨n1,n2,i',j',e9,rfl,rfl⟩:=inv' e8
  exact ⟨_,rfl⟩
 | false =>
  rw [hg] at h6'
  cases h6'
  exact ⟨_,rfl⟩
theorem qJ (ha:SE X sf C ea a)(hb:SE X sf C eb b)(hc:SE X sf C ec c)(hm:lastMarks [.LtE,.LtE] [eb,ec]=false:=by with_unfolding_all rfl):SE X sf C (.Compare ea [.LtE,.LtE] [eb,ec] pos) (.chain .le .le a b c) :=
 ak (gE fQ fQ ha hb hc hm) (eh cf cf)
theorem pD (ha:SE X sf C ea a)(hb:SE X sf C eb b)(hc:SE X sf C ec c)(hm:lastMarks [.LtE,.LtE] [eb,ec]=false:=by with_unfolding_all rfl):SB X sf C (.Compare ea [.LtE,.LtE] [eb,ec] pos) (.chain .le .le a b c) :=
 eA (mX fQ fQ ha hb hc hm) fun σ H Q hw=>eh cf cf σ H _ (rf (mE cf cf) hw)
theorem ki:OpR X (compareOp .IsNot) (fun x y H Q=>∃ a b,x=.bl a/\y=.bl b/\Q (.bl (!(a==b))) H):=by
 intro pins s σ H x y v u Q I rx ry h
 obtain ⟨a,b,rfl,rfl,q⟩:=h
 cases rx
 cases ry
 cases a<;>cases b<;>exact wpAny_pure (kn I q rfl)
theorem gu {u v w:M.W}(e:M.oSem .isnB h [u,v]=some w):∃ m n a b,u=(m,.bl a)/\v=(n,.bl b)/\w=(.d,.bl (!(a==b))):=by
 obtain ⟨m,a⟩:=u; obtain ⟨n,b⟩:=v
 cases a with
 | bl a =>
  cases b with
  | bl b=>cases e; exact ⟨_,_,_,_,rfl,rfl,rfl⟩
  | _=>cases e
 | _=>cases b<;>cases e
theorem lM {K:a0a}:Loc K 2 .isnB h fun xs H Q=>∀ x y,xs=[x,y]->∃ a b,x=.bl a/\y=.bl b/\Q (.bl (!(a==b))) H:=by
 intro ws w xs Z H G Q hn e r ow za k x y hx
 subst hx
 obtain ⟨u,v,rfl⟩:=cS r.length.symm
 obtain ⟨G1,G2,w1,w2,d,r1,r2⟩:=bL r
 obtain ⟨m,n,a,b,rfl,rfl,rfl⟩:=gu e
 exact ⟨a,b,r1,r2,aZ k⟩
theorem rQ (ha:SE X sf C ea a)(hb:SE X sf C eb b):SB X sf C (.Compare ea [.IsNot] [eb] pos) (.op .isnB h [a,b]):=bo ki ha hb (bP _) (aE lM) fun u v w e=>by obtain ⟨_,_,_,_,_,_,rfl⟩:=gu e; exact ⟨_,rfl⟩
theorem nW {u w:M.W}(e:M.oSem .len false [u]=some w):∃ n:Nat,w=(.d,.int n):=by
 obtain ⟨m,a⟩:=u
 cases a<;>first | (cases e; exact ⟨_,rfl⟩) | (cases e; done)
theorem xE (j:Nat){i:Nat}{x:Str}{p px:Pos}(hm:X.mg "len"=none)(hg:Gl X "len":=by rfl)(hs:sf i=some j:=by rfl)(hN:X.N[j]?=some x:=by rfl)(hv:Vis X.env.scope x:=by first | exact a0I rfl | exact a0C (a0I rfl) | exact a0C (a0C rfl))(hd:(x==("__debug__":Str))=false:=by decide)
  (hcd:(x==("__classdict__":Str))=false:=by decide) (hst:starEach [.Name x px] X.env=(false,eval (.Name x px) X.env)::starEach [] X.env:=by rfl) (hpl:(backTo pos (starEach [] X.env)).any (·.1)=false:=by rfl):SE X sf C (.Call (.Name "len" p) [.Name x px] [] pos) (.lenV i) :=
 ak (cu gm hg hm a2u (b8 (cR hN hv hd hcd) fI hst) (by decide) (by decide) hst hpl) fun σ H Q hw=>by
  obtain ⟨pv,Z,Fs,η,w,η',A,ev,k⟩:=hw
  obtain ⟨w',e1,e2⟩:=ai (show M.ret η ((M.rd η i).bind fun w=>M.oSem .len false [w])=_ from ev)
  cases e2
  cases e0:M.rd η i with
  | none=>rw [e0] at e1; cases e1
  | some w0 =>
   rw [e0] at e1
   have e1':M.oSem .len false [w0]=some w:=e1
   obtain ⟨n,rfl⟩:=nW e1'
   obtain ⟨v,r,hv'⟩:=A.env i w0.1 w0.2 e0
   obtain ⟨x',n',hx,hl,hq⟩:=gh (K:=X.K) (h:=false) [w0] (.d,.int n) [v] Z H (Fs i) (fun v' _=>v'=.int n) rfl e1' (RepW.one r) (fun a ha=>A.gd.own a ⟨i,ha⟩) A.gd.zal (fun _ _ _ _ r _ _=>r)
   cases hx
   cases hq
   exact ⟨v,hv'.1 j hs,v,n,rfl,hl,k _ Z H Fs no A rfl ((Step.refl _ _ _).mono (fun _ z=>z) fun a ha=>ha.elim id fun z=>z.elim)⟩
end
end MR

namespace MR
open PySem PySem.Spec PyProof.Rows L2 L3
section
variable {X:Cx}{sf sg:Nat->Option Nat}{C:M.Call}{pos p2 p3:Pos}{ea eb ec:Expr}{a b c:M.E}{h:Bool}{n:Nat}{io:List Nat}
theorem sGc {x:Str}{i:Int}(hm:∃ t,X.mg x=some (.int i t))(hg:Gl X x:=by rfl)(hd:(x==("__debug__":Str))=false:=by decide):SE X sf C (.Name x pos) (.cst (.int i)):=by
 obtain ⟨t,hm⟩:=hm
 exact ak (jf (v:=.int i) hg hm ⟨t,rfl⟩ hd) (dW rfl)
noncomputable def rq (K:a0a)(H:Hp):List Nat->V->V->Prop
 | [],v,u=>u=v
 | j::p,v,u=>∃ a xs x,v=.ref a/\(SqL K H a xs\/SqT K H a xs)/\xs[j]?=some x/\rq K H p x u
noncomputable def wP (K:a0a)(sf:Nat->Option Nat)(i:Nat)(p:List Nat):TE:=fun σ H Q=>∃ j v u,sf i=some j/\σ[j]?=some (some v)/\rq K H p v u/\Q u H
noncomputable abbrev SP (X:Cx)(sf:Nat->Option Nat)(me:Expr)(i:Nat)(p:List Nat):Prop:=PE X me (wP X.K sf i p)
noncomputable def wK (Fs:Fps)(i:Nat)(G:Fp):Fps:=fun l a=>(l=i/\G a)\/(l≠i/\Fs l a)
noncomputable def CstR (K:a0a)(t:M.T)(v:V):Prop:=∀ (Z:Fp) (H:Hp),Rep K Z H .s t v no
theorem cst_int {K:a0a}(i:Int):CstR K (.int i) (.int i):=fun _ _=>rfl
theorem cst_non {K:a0a}:CstR K .non .non:=fun _ _=>rfl
theorem cst_bl {K:a0a}(b:Bool):CstR K (.bl b) (.bl b):=fun _ _=>rfl
theorem cst_str {K:a0a}{x:Str}(h:M.sOk x=true):CstR K (.str x) (.str x):=fun _ _=>⟨rfl,h⟩
noncomputable def kR (K:a0a)(w:World)(mg:Str->Option Value)(x:Str)(tab:List (Str×M.T)):Prop :=
 ∃ a T,mg x=some (.ref a)/\DTab K w a T/\∀ z,match tab.lookup z with
  | some t=>∃ v,T.lookup z=some v/\CstR K t v
  | none=>T.lookup z=none
theorem sP {K:a0a}{w:World}{ad:Addr}{T:List (Str×V)}{tab:List (Str×M.T)}{e:M.E}(D:DTab K w ad T)(ht:∀ z,match tab.lookup z with
  | some t=>∃ v,T.lookup z=some v/\CstR K t v
  | none=>T.lookup z=none) (σ:L2.St) (H:Hp) (Q:VK) (h:wE K sf C (.ixT tab e) σ H Q):tOp (fun x y H Q=>∃ a z T v,x=.ref a/\y=.str z/\DTab K w a T/\T.lookup z=some v/\Q v H) (tC (.ref ad)) (wE K sf C e) σ H Q:=by
 obtain ⟨pv,Z,Fs,η,w',η',A,ev,k⟩:=h
 obtain ⟨⟨u,η1⟩,h1,h2⟩:=aa (show (M.evE C e η).bind (M.kTab tab M.okS)=_ from ev)
 obtain ⟨z,t,e1,e2,h3⟩:=cn h2
 cases h3
 refine ⟨pv,Z,Fs,η,u,η1,A,h1,fun y Z' H' Fs' G B r s=>?_⟩
 obtain ⟨m,t0⟩:=u
 cases (show t0=_ from e1)
 have q:=ht z
 rw [e2] at q
 obtain ⟨v,q1,q2⟩:=q
 exact ⟨ad,z,T,v,rfl,r.1,D,q1,k v Z' H' Fs' no B.bare (q2 Z' H') (s.mono (fun _ z=>z) fun a ha=>ha.elim .inl fun z=>z.elim)⟩
theorem uo {x:Str}{tab:List (Str×M.T)}(T:kR X.K X.w X.mg x tab)(ha:SE X sf C ea a)(hg:Gl X x:=by rfl)(hd:(x==("__debug__":Str))=false:=by decide)(hs:dt ea:=by intro _ _; rfl):SE X sf C (.Subscript (.Name x p2) ea pos) (.ixT tab a):=by
 obtain ⟨ad,T',hm,D,ht⟩:=T
 exact ak (qZ sZ (iA hg hm hd) ha hs) (sP D ht)
noncomputable def ju (K:a0a)(w:World)(mg:Str->Option Value)(x:Str)(ks:List Str):Prop:=∃ a T,mg x=some (.ref a)/\DTab K w a T/\∀ z,(T.lookup z).isSome=ks.contains z
theorem mh {K:a0a}{w:World}{ad:Addr}{T:List (Str×V)}{ks:List Str}{e:M.E}{neg:Bool}(D:DTab K w ad T)(ht:∀ z,(T.lookup z).isSome=ks.contains z)(σ:L2.St)(H:Hp)(Q:VK)(h:wE K sf C (.inT neg ks e) σ H Q) :
  wE K sf C e σ H fun x H1=>∃ z a T',x=.str z/\V.ref ad=.ref a/\DTab K w a T'/\Q (.bl ((T'.lookup z).isSome != neg)) H1:=by
 obtain ⟨pv,Z,Fs,η,w',η',A,ev,k⟩:=h
 obtain ⟨⟨u,η1⟩,h1,h2⟩:=aa (show (M.evE C e η).bind (M.kIn neg ks)=_ from ev)
 obtain ⟨z,e1,e2,e3⟩:=fE h2
 cases e2
 refine ⟨pv,Z,Fs,η,u,_,A,h1,fun y Z' H' Fs' G B r s=>?_⟩
 obtain ⟨m,t0⟩:=u
 cases (show t0=_ from e1)
 refine ⟨z,ad,T,r.1,rfl,D,?_⟩
 rw [ht z]
 refine k _ Z' H' Fs' no B.bare ?_ (s.mono (fun _ z=>z) fun a ha=>ha.elim .inl fun z=>z.elim)
 rw [show w'=_ from e3]; rfl
end
end MR

namespace MR
open PySem PySem.Spec PyProof.Rows L2 L3
section
variable {X:Cx}{sf:Nat->Option Nat}{C:M.Call}{me:Expr}{f:Nat}{bs:List M.E}
theorem yi (h:∀ ws,C f ws=.no):SE X sf C me (.call f bs):=fun pins s σ H Q I ⟨pv,Z,Fs,η,w,η',A,ev,k⟩=>by
 obtain ⟨⟨ws,η1⟩,h1,h2⟩:=aa (show (M.evA C bs η).bind (M.kCall C f (M.ios bs))=_ from ev)
 rw [show M.kCall C f (M.ios bs) (ws,η1)=(C f ws).bind (M.kBack (M.ios bs) η1) from rfl,h] at h2
 cases h2
end
theorem fsc {N P:List Str}{sc:Scope}(h1:sc.kind=.function:=by rfl)(h2:sc.isCoroutine=false:=by rfl)(h3:sc.isGenerator=false:=by rfl)(h4:N.Nodup:=by decide +kernel)(h5:N.take P.length=P:=by rfl)(h6:∀ x∈P,sc.names.lookup x=some .local\/sc.names.lookup x=some .cell:=by decide +kernel)(h7:∀ y∈sc.names,y.2≠.free:=by decide +kernel):aw N P sc:=⟨h1,h2,h3,h4,h5,h6,h7⟩
theorem csc {pre ys:List Str}{scope:Scope}(h1:scope.kind=.function:=by rfl)(h2:∀ y∈scope.names,y.2≠.cell:=by decide +kernel)(h3:∀ y∈scope.names,y.2=.local->scope.names.lookup y.1=some .local:=by decide +kernel)(h4:∀ x∈pre,scope.names.lookup x=some .local:=by decide +kernel)(h5:(pre++ys).Nodup:=by decide +kernel):aO pre ys scope:=⟨h1,h2,h3,h4,h5⟩
section
variable {P:Program}{w:World}{K:a0a}{mg:Str->Option Value}{base:Heap}{x:Str}{st:Stmt}{ps N:List Str}{n g:Nat}{io:List Nat}{C C':M.Call}{d:Value}{t:M.T}
structure Df (K:a0a)(mg:Str->Option Value)(x:Str)(st:Stmt)(ps:List Str):Prop where
 ex:∃ f fd,Fun K x x st f fd/\Binds K fd ps []/\mg x=some (.ref f)
theorem Df.ok (e:Df K mg x st ps)(h:∀ f fd,Fun K x x st f fd->cx P w K mg base CX0 n f fd ps (spS K C g io)):ae P w K mg base n C x g io:=by
 obtain ⟨f,fd,F,b,m⟩:=e.ex
 exact ⟨f,fd,ps,h f fd F,m,F.kp,b⟩
theorem Df.z (e:Df K mg x st ps)(hC:∀ ws,C g ws=.no:=by intro _; rfl):ae P w K mg base n C x g io:=e.ok fun _ _ _=>fn0 hC
theorem Df.s (fn:M.Fn)(e:Df K mg x st ps)(S:aw N ps (defScope st))
  (hb:∀ {f:Addr} {cdv:Value} {A:Around} {outer:List Env} {s:Shared} {H:Hp} {E:XK},Room n (A.deeper (envOfC x (defScope st) s.heap.objs.size f cdv))->SSs (fD CX0 P w K mg base N x (defScope st) f cdv A outer s H E).nox (slN N.length) fn.io C (defBody st) fn.body)
  (hC:∀ ws,C' g ws=M.runF C fn ws:=by intro _; rfl) (hps:fn.ps=ps.length:=by rfl) (hle:ps.length<=N.length:=by decide) (nd:fn.io.Nodup:=by decide) (hio:∀ i∈fn.io,i < ps.length:=by decide):ae P w K mg base (n+1) C' x g fn.io :=
 e.ok fun _ _ F=>Fun.okM F S hps hle nd hio (fun _ _ _ _ _ _ h=>hb h) hC
noncomputable def Raw (K:a0a)(x:Str)(st:Stmt)(dV:Value):Prop:=∃ f oc od sl kV dc pm an cd ct,a1l K mainGlobals x=some (some (.ref f))/\K.lookup f=some ⟨oc,od,.func (a04 x x (defArgs st) (defBody st) (defScope st) dV kV dc pm an cd ct),sl⟩/\a1F K cd x=true/\a1t K (.ref f)=true
theorem bq {h:Heap}(X:K.In h)(G:h.Ns mainGlobals mg)(r:Raw K x st .none)(hb:∀ (kV doc pm:Value) (an:Option Addr) (cdv ct:Value) (us:List Value),us.length=ps.length->bindArgs (a04 x x (defArgs st) (defBody st) (defScope st) .none kV doc pm an cdv ct) ⟨us,[]⟩=pure (ps.zip us)):Df K mg x st ps:=by
 obtain ⟨f,oc,od,sl,kV,dc,pm,an,cd,ct,h1,h2,h3,h4⟩:=r
 have F:=nE (st:=st) h2 h3 h4
 exact ⟨f,_,F,F.binds hb,a1p X G h1⟩
noncomputable def ux (K:a0a):List Str->Prop
 | []=>True
 | x::r=>a1l K mainGlobals x=some none/\ux K r
theorem uI {h:Heap}(X:K.In h)(G:h.Ns mainGlobals mg)(r:ux K ["isinstance","int","tuple","list","bool","sum","len","all","zip","range","enumerate","any","max","min","sorted","str","repr","abs","dict","set","reversed"]):Txt mg:=by
 obtain ⟨z1,z2,z3,z4,z5,z6,z7,z8,z9,z10,z11,z12,z13,z14,z15,z16,z17,z18,z19,z20,z21,_⟩:=r
 have m:=fun {x:Str} (z:a1l K mainGlobals x=some none)=>PySem.W.mg_none_of X G z
 exact ⟨m z1,m z2,m z3,m z4,m z5,m z6,m z7,m z8,m z9,m z10,m z11,m z12,m z13,m z14,m z15,m z16,m z17,m z18,m z19,m z20,m z21⟩
noncomputable def TabRaw (K:a0a)(w:World)(x:Str)(T:List (Str×V)):Prop:=∃ a es n,a1l K mainGlobals x=some (some (.ref a))/\K.lookup a=some ⟨.type "dict",none,.dict es n,#[]⟩/\a2q w.params es.toList/\Paired (fun (p:Str×V) (e:DictEntry)=>(∃ t,e.key=.str p.1 t)/\RelV p.2 e.val) T es.toList/\(a==sysModules)=false
theorem TabRaw.tab {h:Heap}{T:List (Str×V)}(X:K.In h)(G:h.Ns mainGlobals mg)(r:TabRaw K w x T):∃ a,mg x=some (.ref a)/\DTab K w a T:=by
 obtain ⟨a,es,n,h1,h2,h3,h4,h5⟩:=r
 exact ⟨a,a1p X G h1,⟨es,n,h2,h3,h4⟩,h5⟩
theorem et (z:Str):∀ T:List (Str×V),(T.lookup z).isSome=(T.map a1N).contains z
 | []=>rfl
 | (k,v)::T=>by
  rw [a0Z,a0x,List.contains_cons]
  cases z==k with
  | true=>rfl
  | false=>rw [et z T]; rfl
theorem fj {h:Heap}{T:List (Str×V)}{ks:List Str}(X:K.In h)(G:h.Ns mainGlobals mg)(r:TabRaw K w x T)(hk:T.map a1N=ks):ju K w mg x ks:=by
 obtain ⟨a,h1,h2⟩:=r.tab X G
 exact ⟨a,T,h1,h2,fun z=>by rw [et,hk]⟩
noncomputable def CstL (K:a0a):List (Str×M.T)->List (Str×V)->Prop
 | [],[]=>True
 | e::r,p::T=>(p.1=e.1/\CstR K e.2 p.2)/\CstL K r T
 | _,_=>False
theorem ee (z:Str):∀ {tab:List (Str×M.T)} {T:List (Str×V)},CstL K tab T->match tab.lookup z with
  | some t=>∃ v,T.lookup z=some v/\CstR K t v
  | none=>T.lookup z=none
 | [],[],_=>rfl
 | (k,t)::r,(k',v)::T,⟨⟨e,c⟩,q⟩=>by
  have e':k'=k:=e
  subst e'
  have ih:=ee z q
  rw [a0Z,a0Z]
  cases z==k' with
  | true=>exact ⟨v,rfl,c⟩
  | false=>exact ih
 | [],_::_,h=>h.elim
 | _::_,[],h=>h.elim
theorem fq {h:Heap}{T:List (Str×V)}{tab:List (Str×M.T)}(X:K.In h)(G:h.Ns mainGlobals mg)(r:TabRaw K w x T)(hc:CstL K tab T):kR K w mg x tab:=by
 obtain ⟨a,h1,h2⟩:=r.tab X G
 exact ⟨a,T,h1,h2,fun z=>ee z hc⟩
end
end MR

namespace MR
open PySem PySem.Spec PyProof.Rows L2 L3
section
variable {X:Cx}{sf sg:Nat->Option Nat}{C:M.Call}{pos p p2 p3:Pos}{ea eb ec:Expr}{a b c:M.E}{h:Bool}{n:Nat}{io:List Nat}{K:a0a}
theorem nO:Loc K 1 .int h fun xs H Q=>(∃ i,xs=[.int i]/\Q (.int i) H)\/∃ k,xs=[.bl k]/\Q (.int (if k then 1 else 0)) H:=by
 intro ws w xs Z H G Q hn e r ow za k
 match ws,hn with
 | [(m,a)],_ =>
  obtain ⟨x,rfl,r1⟩:=cA rfl r
  cases a with
  | int i=>cases e; exact .inl ⟨i,by rw [show x=_ from r1],aR k⟩
  | bl b=>cases e; exact .inr ⟨b,by rw [show x=_ from r1],by cases b<;>exact aR k⟩
  | _=>cases e
theorem hZ (hm:X.mg "int"=none)(hg:Gl X "int":=by rfl)(ha:SE X sf C ea a)(hs:starEach [ea] X.env=(false,eval ea X.env)::starEach [] X.env:=by rfl)(hpl:(backTo pos (starEach [] X.env)).any (·.1)=false:=by rfl):SE X sf C (.Call (.Name "int" p) [ea] [] pos) (.op .int h [a]) :=
 ak (eD j1 hg hm a1u (slc ha sl0 hs) (by decide) (by decide) hs hpl) (iP nO rfl)
theorem bW {Z:Fp}{H:Hp}{G:Fp}{m:M.Md}{t:M.T}{x:V}(hf:M.flatT t=true)(r:Rep K Z H m t x G):bT x=true/\∀ (u:M.T) (y:V) {m':M.Md} {G':Fp},M.flatT u=true->Rep K Z H m' u y G'->eqV y x=M.eqT u t:=by
 cases t with
 | non=>cases r; refine ⟨rfl,fun u y m' G' hu ru=>?_⟩; cases u<;>first | (cases ru; rfl) | (obtain ⟨e,_⟩:=ru; cases e; rfl) | cases hu
 | bl b=>cases r; refine ⟨rfl,fun u y m' G' hu ru=>?_⟩; cases u<;>first | (cases ru; rfl) | (cases ru; cases b<;>rfl) | (obtain ⟨e,_⟩:=ru; cases e; rfl) | cases hu
 | int i=>cases r; refine ⟨rfl,fun u y m' G' hu ru=>?_⟩; cases u with
  | bl c=>cases ru; cases c<;>rfl
  | _=>first | (cases ru; rfl) | (obtain ⟨e,_⟩:=ru; cases e; rfl) | cases hu
 | str z=>obtain ⟨e,_⟩:=r; cases e; refine ⟨rfl,fun u y m' G' hu ru=>?_⟩; cases u<;>first | (cases ru; rfl) | (obtain ⟨e,_⟩:=ru; cases e; rfl) | cases hu
 | _=>cases hf
theorem fK {Z:Fp}{H:Hp}{G:Fp}{m:M.Md}{t:M.T}{x:V}(hf:M.flatT t=true)(r:Rep K Z H m t x G):∀ {ts:List M.T} {xs:List V} {m':M.Md} {G':Fp},ts.all M.flatT=true->RepL K Z H m' ts xs G'->xs.all bT=true/\L2.inV x xs=ts.any fun u=>M.eqT u t
 | [],_,_,_,_,h=>by cases h; exact ⟨rfl,rfl⟩
 | u::ts,_,m',_,hl,⟨y,ys,G1,G2,e,_,_,_,q,qs⟩=>by
  cases e
  rw [a00,a0c] at hl
  obtain ⟨h1,h2⟩:=fK hf r hl.2 qs
  refine ⟨by rw [a00,(bW hl.1 q).1,h1]; rfl,?_⟩
  show (eqV y x || L2.inV x ys)=_
  rw [a1y,h2,(bW hf r).2 u y hl.1 q]
theorem hG {neg:Bool}{u v w:M.W}{o:M.Op}(ho:o=if neg then .notin else .isin)(e:M.oSem o h [u,v]=some w):∃ ts,M.elems v=some ts/\M.flatT u.2=true/\ts.all M.flatT=true/\w=(.d,.bl (if neg then !ts.any (fun t=>M.eqT t u.2) else ts.any fun t=>M.eqT t u.2)):=by
 obtain ⟨m,a⟩:=u; obtain ⟨n,b⟩:=v
 subst ho
 cases neg with
 | true =>
  obtain ⟨ts,h1,h2⟩:=a1O.mp (show (M.elems (n,b)).bind (fun ts=>if (M.flatT a&&ts.all M.flatT)=true then some ((.d,.bl (!ts.any fun t=>M.eqT t a)):M.W) else none)=some w from e)
  split at h2
  ·rename_i hh; rw [a0c] at hh; cases h2; exact ⟨ts,h1,hh.1,hh.2,rfl⟩
  ·cases h2
 | false =>
  obtain ⟨ts,h1,h2⟩:=a1O.mp (show (M.elems (n,b)).bind (fun ts=>if (M.flatT a&&ts.all M.flatT)=true then some ((.d,.bl (ts.any fun t=>M.eqT t a)):M.W) else none)=some w from e)
  split at h2
  ·rename_i hh; rw [a0c] at hh; cases h2; exact ⟨ts,h1,hh.1,hh.2,rfl⟩
  ·cases h2
theorem iz (neg:Bool){o:M.Op}(ho:o=if neg then .notin else .isin):Loc K 2 o h fun xs H Q=>∀ x y,xs=[x,y]->rIn K neg x y H Q:=by
 intro ws w xs Z H G Q hn e r ow za k x y hx
 subst hx
 obtain ⟨⟨m,a⟩,⟨n,b⟩,rfl⟩:=cS r.length.symm
 obtain ⟨G1,G2,w1,w2,d,r1,r2⟩:=bL r
 obtain ⟨ts,e1,e2,e3,rfl⟩:=hG ho e
 cases b with
 | lst us =>
  cases e1
  obtain ⟨p,xs,rfl,hs,hl,q⟩:=bB r2
  obtain ⟨f1,f2⟩:=fK e2 r1 e3 q
  refine ⟨p,xs,rfl,.inl (.inl (.inl hs)),(bW e2 r1).1,f1,?_⟩
  rw [f2]
  exact aZ k
 | tup us =>
  cases e1
  obtain ⟨p,xs,rfl,hs,hl,q⟩:=bH r2
  obtain ⟨f1,f2⟩:=fK e2 r1 e3 q
  refine ⟨p,xs,rfl,.inr hs,(bW e2 r1).1,f1,?_⟩
  rw [f2]
  exact aZ k
 | _=>cases e1
theorem iI (ha:SE X sf C ea a)(hb:SE X sf C eb b)(hm:behindInMarks .In eb=false:=by rfl):SE X sf C (.Compare ea [.In] [eb] pos) (.op .isin h [a,b]):=ak (cF eu ha hb hm) (aE (iz false rfl))
theorem cQ (ha:SE X sf C ea a)(hb:SE X sf C eb b)(hm:behindInMarks .In eb=false:=by rfl):SB X sf C (.Compare ea [.In] [eb] pos) (.op .isin h [a,b]):=bo eu ha hb hm (aE (iz false rfl)) fun u v w e=>by obtain ⟨_,_,_,_,rfl⟩:=hG (neg:=false) rfl e; exact ⟨_,rfl⟩
theorem oo (ha:SE X sf C ea a)(hb:SE X sf C eb b)(hm:behindInMarks .NotIn eb=false:=by rfl):SB X sf C (.Compare ea [.NotIn] [eb] pos) (.op .notin h [a,b]):=bo cz ha hb hm (aE (iz true rfl)) fun u v w e=>by obtain ⟨_,_,_,_,rfl⟩:=hG (neg:=true) rfl e; exact ⟨_,rfl⟩
end
end MR
namespace MR
open PySem PySem.Spec PyProof.Rows L2 L3
end MR
namespace MR
open PySem PySem.Spec PyProof.Rows L2 L3
end MR
namespace MR
open PySem PySem.Spec PyProof.Rows L2 L3
end MR
namespace MR
open PySem PySem.Spec PyProof.Rows L2 L3
section
variable {X:Cx}{sf sg:Nat->Option Nat}{C:M.Call}{pos p p2 p3:Pos}{ea eb ec:Expr}{a b c:M.E}{h:Bool}{io:List Nat}{K:a0a}
theorem lQ {neg:Bool}{ks:List Str}{σ:L2.St}{H:Hp}{Q:Bool->Hp->Prop}(hw:wT K sf C (.inT neg ks a) σ H Q):wE K sf C (.inT neg ks a) σ H fun x H'=>∃ k,x=.bl k/\Q k H':=by
 obtain ⟨pv,Z,Fs,η,w,η',b,A,ev,ht,k⟩:=hw
 refine ⟨pv,Z,Fs,η,w,η',A,ev,fun v Z' H' Fs' G B r s=>?_⟩
 obtain ⟨⟨u,η1⟩,h1,h2⟩:=aa (show (M.evE C a η).bind (M.kIn neg ks)=_ from ev)
 obtain ⟨z,e1,e2,e3⟩:=fE h2
 rw [show w=_ from e3] at ht r
 cases ht
 exact ⟨_,r,k Z' H' Fs' B.bare (s.mono (fun _ z=>z) fun _ z=>.inl z)⟩
theorem wM {x:Str}{ks:List Str}(T:ju X.K X.w X.mg x ks)(ha:SE X sf C ea a)(hg:Gl X x:=by rfl)(hd:(x==("__debug__":Str))=false:=by decide)(hb:behindInMarks .In (.Name x p2)=false:=by rfl):SB X sf C (.Compare ea [.In] [.Name x p2] pos) (.inT false ks a):=by
 obtain ⟨ad,T',hm,D,ht⟩:=T
 refine eA (fF lj ha (iA hg hm hd) hb) fun σ H Q hw=>?_
 obtain ⟨pv,Z,Fs,η,w',η',A,ev,k⟩:=mh D ht σ H _ (lQ hw)
 refine ⟨pv,Z,Fs,η,w',η',A,ev,fun v Z' H' Fs' G B r s=>?_⟩
 obtain ⟨z,a,T2,e1,e2,e3,q⟩:=k v Z' H' Fs' G B r s
 rw [a1h] at q
 exact ⟨z,a,T2,e1,e2,e3,q⟩
theorem i4 {x:Str}{ks:List Str}(T:ju X.K X.w X.mg x ks)(ha:SE X sf C ea a)(hg:Gl X x:=by rfl)(hd:(x==("__debug__":Str))=false:=by decide)(hb:behindInMarks .NotIn (.Name x p2)=false:=by rfl):SB X sf C (.Compare ea [.NotIn] [.Name x p2] pos) (.inT true ks a):=by
 obtain ⟨ad,T',hm,D,ht⟩:=T
 refine eA (fF gM ha (iA hg hm hd) hb) fun σ H Q hw=>?_
 obtain ⟨pv,Z,Fs,η,w',η',A,ev,k⟩:=mh D ht σ H _ (lQ hw)
 refine ⟨pv,Z,Fs,η,w',η',A,ev,fun v Z' H' Fs' G B r s=>?_⟩
 obtain ⟨z,a,T2,e1,e2,e3,q⟩:=k v Z' H' Fs' G B r s
 rw [Bool.bne_true] at q
 exact ⟨z,a,T2,e1,e2,e3,q⟩
end
end MR

namespace MR
open PySem PySem.W L2 M
noncomputable def CstRs (K:a0a)(ts:List M.T)(xs:List V):Prop:=∀ (Z:Fp) (H:Hp),RepL K Z H .s ts xs no
theorem cst_nil {K:a0a}:CstRs K [] []:=fun _ _=>rfl
theorem cst_cons {K:a0a}{t:M.T}{ts:List M.T}{x:V}{xs:List V}(h:CstR K t x)(r:CstRs K ts xs):CstRs K (t::ts) (x::xs):=fun Z H=>⟨x,xs,no,no,rfl,fun _ h=>h,fun _ h=>h,fun _ h=>h.elim,h Z H,r Z H⟩
theorem cst_tup {K:a0a}{ts:List M.T}{xs:List V}{a:Addr}{o:Obj}{its:Array Value}{n:Nat}(h:K.lookup a=some o)(hc:o.cls=.type "tuple")(hd:o.data=.seq its n)(hs:its.size<=sizeLine)(hv:Vals xs its.toList)(hl:xs.length<=LIM)(r:CstRs K ts xs):CstR K (.tup ts) (.ref a):=fun Z H=>⟨a,xs,rfl,.inr ⟨o,its,n,h,hc,hd,hs,hv⟩,hl,r Z H⟩
end MR

namespace MR
open PySem PySem.Spec PyProof.Rows L2 L3 M
end MR

namespace L3
open PySem PySem.Spec PyProof.Rows L2
end L3
namespace MR
open PySem PySem.Spec PyProof.Rows L2 L3
end MR

namespace L3
open PySem PySem.Spec PyProof.Rows L2
end L3
namespace MR
open PySem PySem.Spec PyProof.Rows L2 L3
end MR

namespace L3
open PySem PySem.Spec PySem.NumText PyProof.Rows L2
end L3
namespace MR
open PySem PySem.Spec PyProof.Rows L2 L3
end MR

namespace L3
open PySem PySem.Spec PyProof.Rows L2
end L3
namespace MR
open PySem PySem.Spec PyProof.Rows L2 L3
section
variable {X:Cx}{sf sg:Nat->Option Nat}{C:M.Call}{pos p p2 p3:Pos}{ea eb ec:Expr}{a b c:M.E}{h:Bool}{n:Nat}{io:List Nat}{K:a0a}
theorem pX {x:Str}(hx:M.sOk x=true){l:List Nat}(hl:∀ c∈l,c∈x.cps.toList)(hs:l.length<=M.LIM):M.sOk ⟨l.toArray⟩=true:=by
 unfold M.sOk at hx ⊢
 rw [a0c] at hx ⊢
 refine ⟨?_,decide_eq_true (by rw [a0i]; exact hs)⟩
 rw [a1c] at hx ⊢
 intro c hc
 exact hx.1 c (by have:=hl c (by simpa using hc); simpa using this)
end
theorem slx {X:Cx}{sf:Nat->Option Nat}{C:M.Call}{ea:Expr}{a:M.E}{es:List Expr}{bs:List M.E}(ha:SE X sf C ea a)(hb:SL X sf C es bs)(hs:starEach (ea::es) X.env=(false,eval ea X.env)::starEach es X.env):SL X sf C (ea::es) (a::bs):=slc ha hb hs
theorem sTx {X:Cx}{sf:Nat->Option Nat}{C:M.Call}{pos:Pos}{es:List Expr}{bs:List M.E}{x1:Nat}(hn:bs.length<=M.LIM)(h:SL X sf C es bs):SE X sf C (.Tuple es x1 pos) (.tup bs):=sT h hn
theorem sLx {X:Cx}{sf:Nat->Option Nat}{C:M.Call}{pos:Pos}{h:Bool}{es:List Expr}{bs:List M.E}(hn:bs.length<=M.LIM)(hh:SL X sf C es bs):SE X sf C (.List es pos) (.lst h bs):=sLs hh hn
theorem aA {X:Cx}{sf:Nat->Option Nat}{C:M.Call}{pos:Pos}{h:Bool}{ea eb:Expr}{a b:M.E}(ha:SE X sf C ea a)(hb:SE X sf C eb b)(hs:dt eb):SE X sf C (.Subscript ea eb pos) (.op .ix h [a,b]):=sIx ha hb hs
theorem aI {X:Cx}{sf:Nat->Option Nat}{C:M.Call}{ea:Expr}{a:M.E}{es:List Expr}{bs:List M.E}(ha:SE X sf C ea a)(hb:SA X sf C es bs)(he:∀ i,a≠.io i)(hs:starEach (ea::es) X.env=(false,eval ea X.env)::starEach es X.env):SA X sf C (ea::es) (a::bs):=sac ha hb he hs
end MR

namespace MR
open PySem PySem.Spec PyProof.Rows L2 L3
theorem walkX {sx:Str}{C:M.Call}{ix k:Nat}{l:a1Y}{q:Program}{loose:List Str}{XP:(Str->Option Value)->Heap->Prop}{YP:World->Heap->Prop}{d:DefRec}{K:Params->a0a}(hp:∀ ns:List Int,ns.length<=63->∃ m bs,C ix [(.d,.scr ns)]=.ok ((m,.bl true),bs))(hn:l.most=some 63)(hdf:d.params.defaults=[])(hr:Room k callerA)
  (hY:∀ (w:World) (h:Heap),YP w h->(K w.params).In h)
  (F:∀ (w:World) (mg:Str->Option Value) (fa:Addr) (h:Heap),(K w.params).In h->h.Ns mainGlobals mg->mg d.name=some (.ref fa) ->
   ∃ fd:FuncData,(∀ (s:Shared) (u:Value),BindsTo s fd ⟨[u],[]⟩ [(sx,u)])/\∀ base:Heap,(K w.params).In base->base.Ns mainGlobals mg->cx l.prog w (K w.params) mg base CX0 k fa fd [sx] (spS (K w.params) C ix [])) :
  a2y q loose XP YP l.row.toRowW d [] (fun f vs=>a2x f vs) :=
 L2.walk_of (n:=63) (k:=k) (x:=sx) (CX:=fun _=>CX0) (sp:=fun w=>spS (K w.params) C ix []) hn (by decide) hdf hr hY F (fun _ _ a ns hl hO hS=>vB (hp ns hl) hl hO hS) fun _ _ _ _ _ z=>z
theorem n8 {sx:Str}{w:World}{K:a0a}{mg:Str->Option Value}{st:Stmt}{h:Heap}{fa:Addr}{pr:Program}{k:Nat}{sp:Sp}(X:K.In h)(G:h.Ns mainGlobals mg)(hfa:mg "law"=some (.ref fa))(r:Raw K "law" st .none)(hb:∀ (kV dc pm:Value) (an:Option Addr) (cd ct:Value) (s:Shared) (v:Value),BindsTo s (a04 "law" "law" (defArgs st) (defBody st) (defScope st) .none kV dc pm an cd ct) ⟨[v],[]⟩ [(sx,v)])
  (ok:∀ f fd,Fun K "law" "law" st f fd->∀ base,cx pr w K mg base CX0 k f fd [sx] sp):∃ fd:FuncData,(∀ (s:Shared) (v:Value),BindsTo s fd ⟨[v],[]⟩ [(sx,v)])/\∀ base:Heap,K.In base->base.Ns mainGlobals mg->cx pr w K mg base CX0 k fa fd [sx] sp:=by
 obtain ⟨f,oc,od,sl,kV,dc,pm,an,cd,ct,h1,h2,h3,h4⟩:=r
 have e:=hfa.symm.trans (a1p X G h1)
 cases e
 exact ⟨_,hb kV dc pm an cd ct,fun base _ _=>ok _ _ (nE (st:=st) h2 h3 h4) base⟩
end MR

namespace L3
open PySem PySem.Spec PyProof.Rows L2
noncomputable def Its (x:Str):It:=⟨fun i _=>i < x.cps.size,fun i H v H'=>H'=H/\∃ c,x.cps.toList[i]?=some c/\v=.str ⟨#[c]⟩,fun i _=>x.cps.size<=i⟩
theorem kE {P:Program}{w:World}{K:a0a}{tg:Expr}(x:Str)(t:Tok)(it:Addr)(ty:String)(hty:ty="str_ascii_iterator"\/ty="str_iterator"):mC P w K tg (Its x) [it] it (fun i h=>h.IsStrIter it ty x t i) where
 mem:=by simp
 obj:=fun i h st b hb=>by
  have e:b=it:=by simpa using hb
  subst e
  obtain ⟨o,e,c,d⟩:=st
  exact ⟨o,e,fun v z=>by rw [d] at z; cases z⟩
 keep:=fun i h h' st k=>by
  obtain ⟨o,e,c,d⟩:=st
  exact ⟨o,k it (by simp) o e,c,d⟩
 item:=by
  intro X hP hw hK hc i pins s σ H E I hf st hg
  subst hP hw hK
  obtain ⟨f0,f1,f2,f3,f4,f5⟩:=hf it (by simp)
  have hg':i < x.cps.size:=hg
  have hx:x.cps[i]?=some x.cps[i]:=Array.getElem?_eq_getElem hg'
  have hx2:x.cps.toList[i]?=some x.cps[i]:=by simpa using hx
  rcases hty with rfl | rfl
  ·refine wpAny_pyNext_ascii_item st hx fun h' st' sb=>?_
   have I1:Inv X pins σ H { s with heap:=h',toks:=s.toks+1 }:=I.turned (t':=s.toks+1) (fun b o hb e=>(sb.2 b hb).trans e) f0 f1 f3 f4 f5
   obtain ⟨o,e,c,d⟩:=id st'
   exact ⟨_,rfl,gB (s:={ s with heap:=h',toks:=s.toks+1 }) e c d (by decide) ⟨.str ⟨#[x.cps[i]]⟩,H,I1,⟨_,rfl⟩,⟨rfl,_,hx2,rfl⟩,st',fun b hb=>(hf b hb).1⟩⟩
  ·refine wpAny_pyNext_wide_item st hx fun h' st' sb=>?_
   have I1:Inv X pins σ H { s with heap:=h',toks:=s.toks+1 }:=I.turned (t':=s.toks+1) (fun b o hb e=>(sb.2 b hb).trans e) f0 f1 f3 f4 f5
   obtain ⟨o,e,c,d⟩:=id st'
   exact ⟨_,rfl,gB (s:={ s with heap:=h',toks:=s.toks+1 }) e c d (by decide) ⟨.str ⟨#[x.cps[i]]⟩,H,I1,⟨_,rfl⟩,⟨rfl,_,hx2,rfl⟩,st',fun b hb=>(hf b hb).1⟩⟩
 done:=by
  intro X hP hw hK hc i pins s σ H E I hf st hg
  subst hP hw hK
  obtain ⟨f0,f1,f2,f3,f4,f5⟩:=hf it (by simp)
  have hg':x.cps.size<=i:=hg
  have hx:x.cps[i]?=none:=Array.getElem?_eq_none hg'
  rcases hty with rfl | rfl
  ·exact wpAny_pyNext_ascii_end (I.ok.hd hc) st hx fun h' eb=>⟨rfl,I.turned (t':=s.toks) (fun b o hb e=>eb b o hb e) f0 f1 f3 f4 f5⟩
  ·exact wpAny_pyNext_wide_end (I.ok.hd hc) st hx fun h' eb=>⟨rfl,I.turned (t':=s.toks) (fun b o hb e=>eb b o hb e) f0 f1 f3 f4 f5⟩
 self:=by
  intro A i s Q E st h
  rcases hty with rfl | rfl
  ·exact wpAny_pyIter_striter_ascii st h
  ·exact wpAny_pyIter_striter_wide st h
noncomputable def yg (tl:TE):TI:=fun σ H R=>tl σ H fun v H1=>∃ x,v=.str x/\R (Its x) H1
theorem vh {X:Cx}{tg l:Expr}{tl:TE}(hl:PE X l tl):PI X tg l (yg tl):=by
 intro pins s σ H R I h
 refine thn (hl pins s σ H _ I h) fun v s1 ⟨y,H1,I1,r1,x,e,q⟩=>?_
 subst e
 obtain ⟨t,rfl⟩:=r1
 have fin:∀ ty,ty="str_ascii_iterator"\/ty="str_iterator"->PIE X pins σ tg R (.ref s1.heap.objs.size) { s1 with heap:=s1.heap.push { cls:=.type ty,data:=.fields #[.str x t,.int 0 0] } }:=fun ty hty=>by
  refine ⟨s1.heap.objs.size,[s1.heap.objs.size],_,_,H1,rfl,I1.kept (t':=s1.toks) fun b o e=>Heap.get?_push_of_some _ e,kE x t _ ty hty,⟨_,Heap.get?_push_size _ rfl,rfl,rfl⟩,fun b hb=>?_,q⟩
  have e:b=s1.heap.objs.size:=by simpa using hb
  subst e
  exact I1.fpOk (a0k _) (I1.hok.fresh (a0k _))
 cases ha:x.cps.all (fun x=>decide (x < 128)) with
 | true=>exact wpAny_pyIter_ascii ha (fin _ (.inl rfl))
 | false=>exact wpAny_pyIter_wide ha (fin _ (.inr rfl))
noncomputable def rS0 (f:Str->Str->V):R2:=fun x y H Q=>∃ i j,x=.str i/\y=.str j/\Q (f i j) H
theorem kD {X:Cx}:OpR X (compareOp .LtE) (rS0 fun i j=>.bl (!decide (j.cps.toList < i.cps.toList))):=by
 intro pins s σ H x y v u Q I rx ry h
 obtain ⟨i,j,rfl,rfl,q⟩:=h
 obtain ⟨t,rfl⟩:=rx
 obtain ⟨t',rfl⟩:=ry
 exact PySem.P.le_str ⟨.bl _,H,I,rfl,q⟩
noncomputable def yj:V->List V->Hp->VK->Prop:=fun x xs H Q=>∃ z,x=.str z/\xs=[]/\(∀ c∈z.cps.toList,c < 128)/\z.cps.size<=M.LIM/\Q (.str ⟨z.cps.map M.lowN⟩) H
theorem mW {X:Cx}:MtR X "str.lower" yj:=by
 intro pins s σ H x xs v us Q I rx rs h
 obtain ⟨z,rfl,rfl,hz,hl,q⟩:=h
 obtain ⟨t,rfl⟩:=rx
 cases rs
 have e:=lower_ascii hz
 have hf:lo1=M.lowN:=rfl
 rw [hf] at e
 refine PySem.SC.lower ?_ ⟨.str _,H,I.tok _,⟨_,rfl⟩,by rw [e]; exact q⟩
 rw [e]
 unfold Builtin.Str.tooLong
 refine decide_eq_false ?_
 show ¬ (z.cps.map M.lowN).size > sizeLine
 rw [a2v]
 have:=MR.LIM_le hl
 omega
noncomputable def fk:V->Bool
 | .str _=>true
 | _=>false
theorem jO {xs:List V}(h:xs.all fk=true):xs.all bT=true:=by
 rw [a0J] at h ⊢
 intro x hx
 have:=h x hx
 cases x<;>first | rfl | cases this
noncomputable def yk (K:a0a)(neg:Bool):R2:=fun x y H Q=>∃ p xs,y=.ref p/\SqT K H p xs/\xs.all fk=true/\((bT x=true/\Q (.bl (if neg then !L2.inV x xs else L2.inV x xs)) H)\/(∃ a zs,x=.ref a/\(SqL K H a zs\/SqT K H a zs)/\Q (.bl neg) H))
theorem eqX {X:Cx}{pins:List (Addr×Obj)}{s:Shared}{σ:L2.St}{H:Hp}{a:Addr}{zs:List V}(hu:X.A.units+64 < cLine)(I:Inv X pins σ H s)(hq:SqL X.K H a zs\/SqT X.K H a zs):∀ {xs:List V} {us:List Value},Vals xs us->xs.all fk=true->∀ u∈us,SeqAt.EqAt X.A.in1 s u (.ref a) false
 | _,_,.nil,_=>fun u hu=>by cases hu
 | y::xs,u::us,.cons r t,f=>fun u' hu'=>by
  rw [a00,a0c] at f
  rcases a0E.mp hu' with rfl | hu'
  ·cases y with
   | str z =>
    obtain ⟨t',rfl⟩:=r
    have hb:X.A.in1.units < cLine:=by
     show X.A.units+1 < cLine
     omega
    rcases hq with hq | hq
    ·obtain ⟨its,rv,p,hz⟩:=I.list hq
     exact SeqAt.EqAt.str_list z t' p.isList hb
    ·obtain ⟨its,rv,p,hz⟩:=I.tuple hq
     exact SeqAt.EqAt.str_tuple z t' (show s.heap.IsTuple a its.toArray from p) hb
   | _=>cases f.1
  ·exact eqX hu I hq t f.2 u' hu'
theorem pJ {X:Cx}(hu:X.A.units+64 < cLine):OpR X (compareOp .NotIn) (yk X.K true):=by
 intro pins s σ H x y v u Q I rx ry h
 obtain ⟨p,xs,rfl,hq,fs,h⟩:=h
 rcases h with ⟨fx,q⟩ | ⟨a,zs,rfl,hz,q⟩
 ·exact cz pins s σ H x (.ref p) v u Q I rx ry ⟨p,xs,rfl,.inr hq,fx,jO fs,q⟩
 ·cases ry
  obtain rfl:v=.ref a:=rx
  obtain ⟨its,r,pl,_⟩:=I.tuple hq
  refine SeqAt.notIn_tupleAt (fun _=>false) pl (fun w hw=>eqX hu I hz r fs w (by simpa using hw)) ⟨.bl _,H,I,rfl,?_⟩
  rw [show its.toArray.any (fun _=>false)=false by simp]
  exact q
theorem cX {σ:L2.St}{H:Hp}:∀ (kvs:List (Key×V)) (Q:List (V×V)->Hp->Prop),Q (kvs.map fun kv=>(kV kv.1,kv.2)) H->fg (kvs.map fun kv=>(tC (kV kv.1),tC kv.2)) σ H Q
 | [],_,h=>h
 | p::r,Q,h=>cX r (fun ps H3=>Q ((kV p.1,p.2)::ps) H3) h
end L3
namespace MR
open PySem PySem.Spec PyProof.Rows L2 L3
section
variable {X:Cx}{sf sg:Nat->Option Nat}{C:M.Call}{pos p p2 p3:Pos}{ea eb ec:Expr}{a b c:M.E}{h:Bool}{n:Nat}{io:List Nat}{K:a0a}
theorem vQ {Z:Fp}{H:Hp}{x:Str}(hx:M.sOk x=true):Wk K (Its x) Z H (x.cps.toList.map fun c=>[(.d,.str ⟨#[c]⟩)])/\ka K (Its x) Z H (x.cps.toList.map fun c=>[(.d,.str ⟨#[c]⟩)]):=by
 have hsz:x.cps.size<=M.LIM:=by
  have:=hx
  unfold M.sOk at this
  rw [a0c] at this
  exact of_decide_eq_true this.2
 refine ⟨⟨fun H' i s hi=>?_,fun H' i s hi=>?_,by rw [a0f,a0P]; exact hsz⟩,fun H' i v H'' s hi y=>?_⟩
 ·rw [a0f,a0P] at hi; exact hi
 ·rw [a0f,a0P] at hi; exact hi
 ·obtain ⟨rfl,c,hc,rfl⟩:=y
  refine ⟨rfl,(.d,.str ⟨#[c]⟩),by rw [a0t,hc]; rfl,rfl,?_⟩
  exact pX (l:=[c]) hx (fun d hd=>by rw [a0G.mp hd]; exact a02 hc) (by show 1<=16777215; decide)
theorem uF {e:M.E}(σ:L2.St)(H:Hp)(R:It->Hp->Prop)(h:wI K sf C 1 .chr [e] σ H R):yg (wE K sf C e) σ H R:=by
 obtain ⟨pv,Z,Fs,η,ws,η',ts,A,ev,ht,k⟩:=h
 obtain ⟨⟨m,a⟩,η1,us,e1,e2,rfl⟩:=aL ev
 cases e2
 cases a with
 | str x =>
  cases ht
  refine ⟨pv,Z,Fs,η,_,_,A,e1,fun v Z' H' Fs' G B r s=>?_⟩
  obtain ⟨rfl,hx⟩:=(show v=.str x/\M.sOk x=true from r)
  obtain ⟨w1,w2⟩:=vQ (K:=K) (Z:=fun a=>Z' a\/G a) (H:=H') hx
  exact ⟨x,rfl,k _ _ H' Fs' B.freeze (bb B.own s) w1 w2⟩
 | _=>cases ht
theorem wG {tg:Expr}(ha:SE X sf C ea a):PI X tg ea (wI X.K sf C 1 .chr [a]):=ly (vh ha) uF
theorem kd {K:a0a}{o p:M.Op}{g g':Str->Str->Bool}(inv:∀ {u v w:M.W},M.oSem o false [u,v]=some w->∃ m n i j,u=(m,.str i)/\v=(n,.str j)/\w=(.d,.bl (g i j)))(inv':∀ {u v w:M.W},M.oSem p false [u,v]=some w->∃ m n i j,u=(m,.str i)/\v=(n,.str j)/\w=(.d,.bl (g' i j)))
  (σ:L2.St) (H:Hp) (Q:VK) (hw:wE K sf C (.chain o p a b c) σ H Q):eU (rS0 fun i j=>.bl (g i j)) (rS0 fun i j=>.bl (g' i j)) (wE K sf C a) (wE K sf C b) (wE K sf C c) σ H Q:=by
 obtain ⟨pv,Z,Fs,η,w,η',A,ev,k⟩:=hw
 obtain ⟨⟨x,η1⟩,h1,h2⟩:=aa (show (M.evE C a η).bind (M.kC1 o p (M.evE C b) (M.evE C c))=_ from ev)
 obtain ⟨⟨y,η2⟩,h3,h4⟩:=aa (show (M.evE C b η1).bind (M.kC2 o p (M.evE C c) x)=_ from h2)
 obtain ⟨⟨kk,η3⟩,h5,h6⟩:=aa (show (M.ret η2 (M.oSem o false [x,y])).bind (fun k=>M.onB k.1.2 (M.then' (M.evE C c) (M.kC3 p y)) (M.okW (.d,.bl false)) k.2)=_ from h4)
 obtain ⟨k',e5,e5'⟩:=ai h5
 cases e5'
 obtain ⟨m1,m2,i,j,rfl,rfl,rfl⟩:=inv e5
 have dr:∀ {Z:Fp} {H:Hp} {F Z1:Fp} {H1:Hp} {Fs1:Fps} {G1:Fp},Step Z H F Z1 H1 (fun a=>tot Fs1 a\/G1 a)->Step Z H F Z1 H1 (tot Fs1):=fun s=>s.mono (fun _ z=>z) fun _ z=>.inl z
 refine c9 A h1 fun vx Z1 H1 Fs1 G1 A1 r1 _ s1 _=>?_
 have A1':=A1.bare
 refine c9 A1' h3 fun vy Z2 H2 Fs2 G2 A2 r2 _ s2 _=>⟨i,j,r1.1,r2.1,g i j,rfl,?_⟩
 have A2':=A2.bare
 have s12:=(dr s1).trans (dr s2)
 have h6':M.onB (.bl (g i j)) (M.then' (M.evE C c) (M.kC3 p (m2,.str j))) (M.okW (.d,.bl false)) η2=.ok (w,η'):=h6
 cases hg:g i j with
 | true =>
  rw [hg] at h6'
  rw [if_pos rfl]
  obtain ⟨⟨z,η4⟩,h7,h8⟩:=aa (show (M.evE C c η2).bind (M.kC3 p (m2,.str j))=_ from h6')
  obtain ⟨z',e8,e8'⟩:=ai (show M.ret η4 (M.oSem p false [(m2,.str j),z])=_ from h8)
  cases e8'
  obtain ⟨n1,n2,i',j',e9,rfl,rfl⟩:=inv' e8
  cases e9
  refine c9 A2' h7 fun vz Z3 H3 Fs3 G3 A3 r3 _ s3 _=>⟨j,j',r2.1,r3.1,?_⟩
  exact k _ Z3 H3 Fs3 no A3.bare rfl ((s12.trans (dr s3)).mono (fun _ z=>z) fun _ z=>z.elim id fun q=>q.elim)
 | false =>
  rw [hg] at h6'
  rw [if_neg a0e]
  cases h6'
  exact k _ Z2 H2 Fs2 no A2' rfl (s12.mono (fun _ z=>z) fun _ z=>z.elim id fun q=>q.elim)
theorem iX {u v w:M.W}(e:M.oSem .leS false [u,v]=some w):∃ m n i j,u=(m,.str i)/\v=(n,.str j)/\w=(.d,.bl (!decide (j.cps.toList < i.cps.toList))):=by
 obtain ⟨m,a⟩:=u; obtain ⟨n,b⟩:=v
 cases a with
 | str i=>cases b with
  | str j=>cases e; exact ⟨m,n,i,j,rfl,rfl,rfl⟩
  | _=>cases e
 | _=>cases e
theorem jl (ha:SE X sf C ea a)(hb:SE X sf C eb b)(hc:SE X sf C ec c)(hm:lastMarks [.LtE,.LtE] [eb,ec]=false:=by with_unfolding_all rfl):SE X sf C (.Compare ea [.LtE,.LtE] [eb,ec] pos) (.chain .leS .leS a b c) :=
 ak (gE kD kD ha hb hc hm) (kd iX iX)
theorem kJ:Loc K 2 .ninS h fun xs H Q=>∀ x y,xs=[x,y]->∃ i j,x=.str i/\y=.str j/\Q (.bl (!(!(Builtin.Str.occurrences j i 0 j.length 1).isEmpty))) H:=by
 intro ws w xs Z H G Q hn e r ow za k x y hx
 subst hx
 obtain ⟨⟨m,a⟩,⟨n,b⟩,rfl⟩:=cS r.length.symm
 obtain ⟨G1,G2,w1,w2,d,r1,r2⟩:=bL r
 cases a with
 | str i=>cases b with
  | str j=>cases e; exact ⟨i,j,r1.1,r2.1,aZ k⟩
  | _=>cases e
 | _=>cases e
theorem zL {o:M.Op}(ho:o=.inS\/o=.ninS){u v w:M.W}(e:M.oSem o h [u,v]=some w):∃ b,w.2=.bl b:=by
 obtain ⟨m,a⟩:=u; obtain ⟨n,b⟩:=v
 rcases ho with rfl | rfl
 ·cases a<;>cases b<;>cases e<;>exact ⟨_,rfl⟩
 ·cases a<;>cases b<;>cases e<;>exact ⟨_,rfl⟩
theorem uH (ha:SE X sf C ea a)(hb:SE X sf C eb b)(hm:behindInMarks .NotIn eb=false:=by rfl):SB X sf C (.Compare ea [.NotIn] [eb] pos) (.op .ninS h [a,b]):=bo fh ha hb hm (aE kJ) fun u v w e=>zL (.inr rfl) e
theorem iM {neg:Bool}{u v w:M.W}{o:M.Op}(ho:o=if neg then .ninX else .inX)(e:M.oSem o h [u,v]=some w):∃ n ts,v=(n,.tup ts)/\ts.all M.isStr=true/\M.inXok u.2=true/\w=(.d,.bl (if neg then !ts.any (fun t=>M.eqT t u.2) else ts.any fun t=>M.eqT t u.2)):=by
 obtain ⟨m,a⟩:=u; obtain ⟨n,b⟩:=v
 subst ho
 cases neg with
 | true =>
  cases b with
  | tup ts =>
   have e2:(if (ts.all M.isStr&&M.inXok a)=true then some ((.d,.bl (!ts.any fun t=>M.eqT t a)):M.W) else none)=some w:=by cases a<;>exact e
   split at e2
   ·rename_i hh; rw [a0c] at hh; cases e2; exact ⟨n,ts,rfl,hh.1,hh.2,rfl⟩
   ·cases e2
  | _=>cases a<;>cases e
 | false =>
  cases b with
  | tup ts =>
   have e2:(if (ts.all M.isStr&&M.inXok a)=true then some ((.d,.bl (ts.any fun t=>M.eqT t a)):M.W) else none)=some w:=by cases a<;>exact e
   split at e2
   ·rename_i hh; rw [a0c] at hh; cases e2; exact ⟨n,ts,rfl,hh.1,hh.2,rfl⟩
   ·cases e2
  | _=>cases a<;>cases e
theorem jN {ts:List M.T}(h:ts.all M.isStr=true):ts.all M.flatT=true:=by
 rw [a0J] at h ⊢
 intro x hx
 have:=h x hx
 cases x<;>first | rfl | cases this
theorem kI {Z:Fp}{H:Hp}:∀ {ts:List M.T} {xs:List V} {m:M.Md} {G:Fp},ts.all M.isStr=true->RepL K Z H m ts xs G->xs.all fk=true
 | [],_,_,_,_,r=>by cases r; rfl
 | t::ts,_,m,_,hl,⟨y,ys,G1,G2,e,_,_,_,q,qs⟩=>by
  cases e
  rw [a00,a0c] at hl
  rw [a00,kI hl.2 qs]
  cases t with
  | str z=>rw [show y=.str z from q.1]; rfl
  | _=>cases hl.1
theorem xw {ts:List M.T}{a:M.T}(h:ts.all M.isStr=true)(ha:(∃ us,a=.lst us)\/∃ us,a=.tup us):(ts.any fun t=>M.eqT t a)=false:=by
 rw [a2a]
 rw [a0J] at h
 intro t ht
 have:=h t ht
 rcases ha with ⟨us,rfl⟩ | ⟨us,rfl⟩<;>cases t<;>first | (cases this; done) | (intro z; unfold M.eqT at z; cases z)
theorem pV (neg:Bool){o:M.Op}(ho:o=if neg then .ninX else .inX):Loc K 2 o h fun xs H Q=>∀ x y,xs=[x,y]->yk K neg x y H Q:=by
 intro ws w xs Z H G Q hn e r ow za k x y hx
 subst hx
 obtain ⟨⟨m,a⟩,⟨n,b⟩,rfl⟩:=cS r.length.symm
 obtain ⟨G1,G2,w1,w2,d,r1,r2⟩:=bL r
 obtain ⟨n',ts,e1,e2,e3,rfl⟩:=iM ho e
 cases e1
 obtain ⟨p,xs,rfl,hs,hl,q⟩:=bH r2
 refine ⟨p,xs,rfl,hs,kI e2 q,?_⟩
 by_cases hf:M.flatT a=true
 ·obtain ⟨f1,f2⟩:=fK hf r1 (jN e2) q
  refine .inl ⟨(bW hf r1).1,?_⟩
  rw [f2]
  exact aZ k
 ·refine .inr ?_
  cases a with
  | lst us =>
   obtain ⟨p',xs',rfl,hs',hl',q'⟩:=bB r1
   refine ⟨p',xs',rfl,.inl (.inl (.inl hs')),?_⟩
   have hk:=k
   rw [xw e2 (.inl ⟨us,rfl⟩)] at hk
   cases neg<;>exact aZ hk
  | tup us =>
   obtain ⟨p',xs',rfl,hs',hl',q'⟩:=bH r1
   refine ⟨p',xs',rfl,.inr hs',?_⟩
   have hk:=k
   rw [xw e2 (.inr ⟨us,rfl⟩)] at hk
   cases neg<;>exact aZ hk
  | non=>exact absurd rfl hf
  | bl _=>exact absurd rfl hf
  | int _=>exact absurd rfl hf
  | str _=>exact absurd rfl hf
  | _=>cases e3
theorem uS (hr:Room n X.A)(ha:SE X sf C ea a)(hb:SE X sf C eb b)(hm:behindInMarks .NotIn eb=false:=by rfl):SB X sf C (.Compare ea [.NotIn] [eb] pos) (.op .ninX h [a,b]):=bo (pJ hr.units) ha hb hm (aE (pV true rfl)) fun u v w e=>by obtain ⟨_,_,_,_,_,rfl⟩:=iM (neg:=true) rfl e; exact ⟨_,rfl⟩
theorem j6 {m:M.Md}{t:M.T}{w:M.W}(e:M.oSem .lower h [(m,t)]=some w):∃ x,t=.str x/\(∀ c∈x.cps.toList,c < 128)/\w=(.d,.str ⟨x.cps.map M.lowN⟩):=by
 cases t with
 | str x =>
  have e2:(if (x.cps.toList.all fun c=>decide (c < 128))=true then some ((.d,.str ⟨x.cps.map M.lowN⟩):M.W) else none)=some w:=e
  split at e2
  ·rename_i hb
   cases e2
   rw [a0J] at hb
   exact ⟨x,rfl,fun c hc=>of_decide_eq_true (hb c hc),rfl⟩
  ·cases e2
 | _=>cases e
theorem ub {x:Str}(hx:M.sOk x=true)(h:∀ c∈x.cps.toList,c < 128):M.sOk ⟨x.cps.map M.lowN⟩=true:=by
 unfold M.sOk at hx ⊢
 rw [a0c] at hx ⊢
 refine ⟨?_,?_⟩
 ·rw [a1c]
  intro c hc
  obtain ⟨d,hd,rfl⟩:=Array.mem_map.mp hc
  have:=h d (by simpa using hd)
  refine decide_eq_true ?_
  unfold M.lowN
  split<;>omega
 ·have:=of_decide_eq_true hx.2
  refine decide_eq_true ?_
  show (x.cps.map M.lowN).size<=_
  rw [a2v]; exact this
theorem mP (σ:L2.St)(H:Hp)(Q:VK)(hw:wE K sf C (.op .lower h [a]) σ H Q):xo K "str" yj (wE K sf C a) σ H Q:=by
 obtain ⟨pv,Z,Fs,η,w,η',A,ev,k⟩:=hw
 obtain ⟨ws,h1,h2⟩:=cc ev
 obtain ⟨⟨m,t⟩,η1,us,g1,g2,rfl⟩:=aL h1
 cases g2
 obtain ⟨x,rfl,hx,rfl⟩:=j6 h2
 refine ⟨pv,Z,Fs,η,_,_,A,g1,fun v Z' H' Fs' G B r s=>?_⟩
 obtain ⟨rfl,ok⟩:=(show v=.str x/\M.sOk x=true from r)
 have hsz:x.cps.size<=M.LIM:=by
  have:=ok
  unfold M.sOk at this
  rw [a0c] at this
  exact of_decide_eq_true this.2
 exact ⟨rfl,x,rfl,rfl,hx,hsz,k _ Z' H' Fs' no B.bare ⟨rfl,ub ok hx⟩ (s.mono (fun _ z=>z) fun a ha=>ha.elim .inl fun z=>z.elim)⟩
theorem vD (ha:SE X sf C ea a)(hb:attributeBase ea "lower" X.env (eval ea X.env)=eval ea X.env:=by rfl)(hl:(p.endLine==pos.line)=true:=by rfl):SE X sf C (.Call (.Attribute ea "lower" p) [] [] pos) (.op .lower h [a]) :=
 ak (m9 PySem.F.plainAttrs_str PySem.F.slot_str_lower PySem.F.type_str_lower mW ha hb hl) mP
noncomputable def bS (tab:List (Str×Int)):List (Key×V):=tab.map fun p=>(.inr p.1,.int p.2)
noncomputable def gi (tab:List (Str×Int)):List (Str×M.T):=tab.map fun p=>(p.1,.int p.2)
theorem i8:∀ (tab:List (Str×Int)) (z:Str) (t:M.T),(gi tab).lookup z=some t->∃ i,t=.int i/\c6 (bS tab) (.inr z)=some (.int i)
 | [],_,_,h=>by cases h
 | (x,i)::r,z,t,h=>by
  have h':(match z==x with | true=>some (M.T.int i) | false=>(gi r).lookup z)=some t:=h
  by_cases hx:z=x
  ·subst hx
   rw [beq_self_eq_true] at h'
   cases h'
   exact ⟨i,rfl,by simp [c6,bS]⟩
  ·rw [beq_eq_false_iff_ne.mpr hx] at h'
   obtain ⟨j,e,q⟩:=i8 r z t h'
   refine ⟨j,e,?_⟩
   have hne:¬ (a1S x:Key)=a1S z:=fun q=>hx (a2K q).symm
   unfold c6 bS at q ⊢
   rw [a0x,List.find?_cons_of_neg (by simpa using hne)]
   exact q
theorem uU {tab:List (Str×Int)}(hn:ck [] (bS tab)=bS tab)(h15:tab.length<=15)(σ:L2.St)(H:Hp)(Q:VK)(h:wE K sf C (.ixT (gi tab) a) σ H Q):q9 (rD ((bS tab).map fun kv=>(tC (kV kv.1),tC kv.2))) (wE K sf C a) σ H Q:=by
 obtain ⟨pv,Z,Fs,η,w',η',A,ev,k⟩:=h
 obtain ⟨⟨u,η1⟩,h1,h2⟩:=aa (show (M.evE C a η).bind (M.kTab (gi tab) M.okS)=_ from ev)
 obtain ⟨z,t,e1,e2,h3⟩:=cn h2
 cases h3
 intro p hp
 refine cX _ _ ⟨ay,bS tab,rfl,by unfold bS; rw [a0f]; exact h15,?_⟩
 rw [hn]
 have eH:upd (upd H p (.dK [])) p (.dK (bS tab))=upd H p (.dK (bS tab)):=by
  funext q
  by_cases e:q=p
  ·rw [e,ay,ay]
  ·rw [ah e,ah e,ah e]
 rw [eH]
 have st:Step Z H no Z (upd H p (.dK (bS tab))) no:=dy hp bg (fun _ q=>q.elim) Z (fun _ q=>q) fun _ q=>.inl q
 obtain ⟨A',s0⟩:=A.op bg st
 refine ⟨pv,Z,Fs,η,u,η1,A',h1,fun y Z' H' Fs' G B r s=>?_⟩
 obtain ⟨m,t0⟩:=u
 cases (show t0=_ from e1)
 obtain ⟨i,rfl,hv⟩:=i8 tab z t e2
 have np:¬ tot Fs p:=fun q=>by
  obtain ⟨_,xs,e⟩:=A.gd.own p q
  rw [hp] at e; cases e
 have hk:=s.keep p _ ay np
 refine ⟨p,.int i,rfl,.inl ⟨bS tab,.inr z,.inl hk,r.1,hv.symm⟩,k _ Z' H' Fs' no B.bare rfl ?_⟩
 have s1:Step Z H (tot Fs) Z (upd H p (.dK (bS tab))) (tot Fs):=s0.mono (fun _ q=>q.elim id fun q=>q.elim) fun _ q=>.inl q
 exact (s1.trans s).mono (fun _ z=>z) fun a ha=>ha.elim .inl fun z=>z.elim
theorem zg {tab:List (Str×Int)}{keys:List (Option Expr)}{values:List Expr}(hp:PPs X p2 keys values ((bS tab).map fun kv=>(tC (kV kv.1),tC kv.2)))(hr:Room n X.A)(ha:SE X sf C ea a)(hn:ck [] (bS tab)=bS tab)(h15:tab.length<=15)(hall:keys.all (·.isSome)=true)(hl:keys.length=values.length)(h0:keys≠[])(hk:keys.length<=15)(hs:u9 ea:=by intro _ _; rfl):SE X sf C (.Subscript (.Dict keys values p2) ea pos) (.ixT (gi tab) a) :=
 ak (o8 (w8 hr) (pI hp hall hl h0 hk) ha hs) (uU hn h15)
theorem pd0 {X:Cx}:PPs X p2 [] [] ((bS []).map fun kv=>(tC (kV kv.1),tC kv.2)):=qz
theorem pd1 {X:Cx}{x:Str}{i:Int}{tab:List (Str×Int)}{k:Expr}{v:Expr}{ks:List (Option Expr)}{vs:List Expr}(h1:PE X k (tC (.str x)))(h2:PE X v (tC (.int i)))(h:PPs X p2 ks vs ((bS tab).map fun kv=>(tC (kV kv.1),tC kv.2))):PPs X p2 (some k::ks) (v::vs) ((bS ((x,i)::tab)).map fun kv=>(tC (kV kv.1),tC kv.2)):=lU h1 h2 h
end
end MR

namespace TP
open PySem PySem.W
noncomputable def en (P:Params)(k:Str)(t:Nat)(v:Value):DictEntry:=⟨PyData.keyHash P k,.str k t,v⟩
noncomputable def tu (xs:List Value):Obj:=⟨.type "tuple",none,.seq xs.toArray 0,#[]⟩
noncomputable def fe (xs:List Value):Obj:=⟨.none,none,.fields xs.toArray,#[]⟩
noncomputable def di (es:List DictEntry)(n:Nat):Obj:=⟨.type "dict",none,.dict es.toArray n,#[]⟩
noncomputable abbrev fl:Str:="/claim/cut.py"
noncomputable def iv (i:Int):Value:=.int i 0
noncomputable def cdo (n q:Str)(t t2:Nat)(ln ac:Nat)(f:Nat)(a:Nat)(b:Bool)(x y z:Value):Obj :=
 ⟨.type "code",none,.fields #[.str n t,.str q (t+1),.str fl (t+2),iv ln,iv ac,iv 0,iv 0,iv f,.ref a,.bool b,iv 181,.ref (a+1),.none,x,y,z,iv t2,iv ln,.str fl (t2+1)],#[]⟩
noncomputable def ofn (c:Value)(st:Stmt)(q:Str)(g:Nat)(d m:Value)(cd:Value):Obj:=match st with
 | .FunctionDef n ar b _ _ _ sc _ _ _=>⟨c,none,.func { name:=n,qualname:=q,params:=ar,body:=.stmts b,scope:=sc,globals:=g,closure:=[],defaults:=d,kwdefaults:=.none,pyModule:=m,code:=cd },#[]⟩
 | _=>default
noncomputable def tks:List Str->Nat->List Value
 | [],_=>[]
 | x::r,t=>.str x t::tks r (t+1)
structure R where
 os:List Obj
 ns:List DictEntry
 tb:List Value
 n:Nat
 tk:Nat
 md:Value
inductive Rc where
 | d | m | c
 | x (k:Str) (kt:Nat) (v:Value) (os:Params->List Obj) (tb:List Value) (n tk:Nat)
noncomputable def cv:Expr->Value
 | .Constant (.bool b) _ _=>.bool b
 | _=>.none
noncomputable def dO (P:Params)(n tk:Nat)(md:Value)(st:Stmt):R:=match st with
 | .FunctionDef nm ar b _ _ _ sc _ _ pos =>
  let pr:List Obj×Value×Nat:=match ar.defaults with
   | []=>([],.none,n)
   | ds=>([tu (ds.map cv)],.ref n,n+1)
  let a:=pr.2.2
  match localNames ar sc (.stmts b) with
  | none=>⟨pr.1++[tu [],fe [],ofn .none st nm 0 .none .none .none,cdo nm nm tk (tk+3) pos.line ar.args.length 3 a true .none .none (.ref (a+2)),ofn (.type "function") st nm 3 pr.2.1 md (.ref (a+3))],
    [en P nm (tk+5) (.ref (a+4))],[iv pos.line,iv pos.col,.ref (a+3)],a+5,tk+6,md⟩
  | some l =>
   let k:=l.1.length
   let j:=l.2.length
   ⟨pr.1++[tu [],fe [],tu (tks l.1 (tk+3)),tu (tks l.2 (tk+3+k)),ofn .none st nm 0 .none .none .none,cdo nm nm tk (tk+3+k+j) pos.line ar.args.length 3 a true (.ref (a+2)) (.ref (a+3)) (.ref (a+4)),ofn (.type "function") st nm 3 pr.2.1 md (.ref (a+5))],
    [en P nm (tk+5+k+j) (.ref (a+6))],[iv pos.line,iv pos.col,.ref (a+5)],a+7,tk+6+k+j,md⟩
 | _=>⟨[],[],[],n,tk,md⟩
noncomputable def one (P:Params)(n tk:Nat)(md:Value)(st:Stmt):Rc->R
 | .d=>dO P n tk md st
 | .m=>match st with
  | .Assign _ (.Constant (.str s) _ _) _=>⟨[],[],[],n,tk+2,.str s tk⟩
  | _=>⟨[],[],[],n,tk,md⟩
 | .c=>match st with
  | .Assign (.Name x _::_) (.Constant (.str s) _ _) _=>⟨[],[en P x (tk+1) (.str s tk)],[],n,tk+2,md⟩
  | .Assign (.Name x _::_) (.Constant (.int i) _ _) _=>⟨[],[en P x (tk+1) (.int i tk)],[],n,tk+2,md⟩
  | _=>⟨[],[],[],n,tk,md⟩
 | .x k kt v os tb n' tk'=>⟨os P,[en P k kt v],tb,n',tk',md⟩
noncomputable def go (P:Params):List (Stmt×Rc)->Nat->Nat->Value->List R
 | [],_,_,_=>[]
 | (st,r)::l,n,tk,md=>let x:=one P n tk md st r
  x::go P l x.n x.tk x.md
noncomputable def xI (x:R):List R->R
 | []=>x
 | y::l=>xI y l
noncomputable def ds:Data->List DictEntry
 | .dict es _=>es.toList
 | _=>[]
noncomputable def ep:Data->Nat
 | .dict _ n=>n
 | _=>0
noncomputable def r0:R:=⟨[],[],[],15,187,.str "__main__" 164⟩
noncomputable def rs (P:Params)(l:List (Stmt×Rc)):List R:=go P l 15 187 (.str "__main__" 164)
noncomputable def o3 (P:Params)(l:List R):Obj:=di (en P "__name__" 165 (xI r0 l).md::((ds (boot_o_3 P).data).tail++l.flatMap R.ns)) (ep (boot_o_3 P).data+(l.flatMap R.ns).length)
noncomputable def os (P:Params)(l:List R):List Obj :=
 boot_o_0 P::boot_o_1 P::boot_o_2 P::o3 P l::boot_o_4 P::boot_o_5 P::boot_o_6 P::boot_o_7 P::boot_o_8 P::boot_o_9 P::boot_o_10 P ::
 tu []::fe (l.flatMap R.tb)::cdo "<module>" "<module>" 182 185 1 0 0 11 false .none .none .none ::
 ⟨.type "frame",none,.plain,#[some (.ref 13),some (.ref 3),some (.ref 3),none,some (.str "__main__" 164),none,some (.ref 0)]⟩::l.flatMap R.os
noncomputable def odd {α:Type}:List α->List α×List α
 | []=>([],[])
 | x::l=>(x::(odd l).2,(odd l).1)
noncomputable def bt:Nat->List Obj->BT
 | 0,_=>.nil
 | _+1,[]=>.nil
 | k+1,x::l=>.node x (bt k (odd l).1) (bt k (odd l).2)
noncomputable abbrev p0:Pos:=⟨0,0,0,0⟩
noncomputable abbrev B0:List Frame:=[topFrame p0]
noncomputable abbrev an:Option Value:=some (.ref 6)
noncomputable def ev (p:Program):Env:={ scope:=p.main.scope,locals:=mainNs,globals:=mainNs,cells:=[],code:=.ref 13,frame:=some 14 }
noncomputable def cE (p:Program):Code:=.body (behindTheImports p) (ev p)
noncomputable def sT (p:Program)(rc:List Rc)(P:Params)(m n tk:Nat)(o:OsState):SharedT:=⟨bt 12 (os P (rs P ((p.main.body.zip rc).take m))),n,{},#[],{},tk,o⟩
noncomputable def hp (p:Program)(rc:List Rc)(m n:Nat)(P:Params):Heap:=absHeap (bt 12 (os P (rs P ((p.main.body.zip rc).take m)))) n {}
noncomputable def Cut (p:Program)(rc:List Rc)(i n t:Nat)(ps:Pos)(k N n' t':Nat)(ps':Pos)(w:World):Prop:=∀ o,segRunT treeTable p w 11 an 1 N (sT p rc w.params i n t o) (piecesOf ((p.main.body.drop i).take k) (ev p) (cE p) ps B0)=some (.next,sT p rc w.params (i+k) n' t' o,cE p,ps')
noncomputable def Ch (p:Program)(rc:List Rc)(m n1 t1:Nat)(i n t:Nat)(ps:Pos)(M:Nat):Prop:=∀ w o,topRun treeTable p w 11 an M (sT p rc w.params i n t o).abs (restOf (p.main.body.drop i) (ev p) (cE p) ps B0)=some (sT p rc w.params m n1 t1 o).abs
theorem b4 {p:Program}{rc:List Rc}{m n1 t1 i n t k N n' t' M:Nat}{ps ps':Pos}(c:∀ w,Cut p rc i n t ps k N n' t' ps' w)(h:Ch p rc m n1 t1 (i+k) n' t' ps' M):Ch p rc m n1 t1 i n t ps (N+M):=fun w o=>by
 have x:=piece_app (segRun_of (c w o)) (h w o)
 rw [<- List.drop_drop,List.take_append_drop] at x
 exact x
theorem uf {p:Program}{rc:List Rc}{m n1 t1:Nat}{ps:Pos}(hd:p.main.body.drop m=[]):Ch p rc m n1 t1 m n1 t1 ps 2:=fun w o=>by
 rw [hd]
 exact piece_nil rfl
theorem oU (w:World):((boot_heap w.params).isNs mainGlobals&&(a2B []:Array GenState).size==0,(boot_heap w.params).objs.size,(boot_heap w.params).nsMap mainGlobals "__annotations__")=(true,11,an):=by kernel_rfl
theorem nX {p q:Program}{loose:List Str}{Xt:Shared->Bool}{α:Type}{Yf:Shared->α}{Ya:World->α}{N M m n1 t1:Nat}{rc:List Rc}
  (e:opening p=plainProg p.main.scope.names) (hN:Nat.ble 600 N=true) (f:∀ s,fenceModules? p s=some s) (hb:behindTheImports p=p.main.body)
  (size:∀ w:World,((boot_heap w.params).isNs mainGlobals&&(a2B []:Array GenState).size==0,(boot_heap w.params).objs.size,(boot_heap w.params).nsMap mainGlobals "__annotations__")=(true,11,an))
  (pre:∀ (w:World) (o:OsState),topGo treeTable p w 11 an 12 ⟨boot_heap w.params,a2B [],boot_drawn,boot_toks,o⟩ (topStub p)=some ((sT p rc w.params 0 15 187 o).abs,⟨denote treeTable (cE p),cE p,p0,B0⟩))
  (blk:∀ (w:World) (o:OsState),segRun treeTable p w 11 an 1 1 (sT p rc w.params 0 15 187 o).abs (blockOf (behindTheImports p) (ev p) (cE p) p0 B0)=some (.next,(sT p rc w.params 0 15 187 o).abs,cE p,p0))
  (ch:Ch p rc m n1 t1 0 15 187 p0 M) (le:Nat.ble (12+(1+M)) N=true)
  (looks:∀ w:World,(fun o=>((staticsOk (importedModules p.main.body) (boot_heap w.params) (hp p rc m n1 w.params)&&namesBound p (hp p rc m n1 w.params)&&gensDone ⟨hp p rc m n1 w.params,#[],{},t1,o⟩&&laidKept (boot_heap w.params) (hp p rc m n1 w.params)),
    openSeen q loose (importedModules p.main.body) Xt true ⟨hp p rc m n1 w.params,#[],{},t1,o⟩,Yf ⟨hp p rc m n1 w.params,#[],{},t1,o⟩))=fun _=>(true,openGood q loose,Ya w)):LeftO p q loose Xt Yf Ya N :=
 LeftO.of_pieces (H₀:=boot_heap) (H₁:=hp p rc m n1) (gs₁:=#[]) (d₁:={}) (k₁:=t1) (boot_open e hN f) size
  (fun w o=>go_top (pre w o) (piece_block (blk w o) (by have x:=ch w o; rw [a0q,<- hb] at x; exact x))) le looks
noncomputable def drec (st:Stmt):PySem.DefRec:=match st with
 | .FunctionDef n a b _ _ _ sc _ _ pos=>⟨n,a,b,sc,pos⟩
 | _=>⟨default,default,[],default,default⟩
theorem dn {α:Type}:∀ (l:List α) (i:Nat),(odd l).1[i]?=l[2 * i]?/\(odd l).2[i]?=l[2 * i+1]?
 | [],i=>by simp [odd]
 | x::l,i=>by
  refine ⟨?_,?_⟩
  ·cases i with
   | zero=>simp [odd]
   | succ j=>rw [show 2 * (j+1)=2 * j+1+1 by omega]; simp only [odd,a0v]; exact (dn l j).2
  ·simp only [odd,a0v]; exact (dn l i).1
theorem iK {α:Type}:∀ (l:List α),(odd l).1.length=(l.length+1) / 2/\(odd l).2.length=l.length / 2
 | []=>by simp [odd]
 | x::l=>by
  have h:=iK l
  simp only [odd,a0b,h.1,h.2]
  exact ⟨by omega,trivial⟩
theorem hX:∀ (k:Nat) (l:List Obj) (a:Nat),l.length < 2 ^ k->(bt k l).get a=l[a]?
 | 0,l,a,h=>by
  have:l=[]:=List.length_eq_zero_iff.mp (by simpa using h)
  subst this; simp [bt,BT.get]
 | k+1,[],a,h=>by simp [bt,BT.get]
 | k+1,x::l,a,h=>by
  have e:2 ^ (k+1)=2 * 2 ^ k:=by rw [Nat.pow_succ]; omega
  have hl:=iK l
  simp only [a0b] at h
  unfold bt
  rw [BT.get_node]
  by_cases h0:a=0
  ·simp [h0]
  ·rw [if_neg h0]
   by_cases h1:a % 2=1
   ·rw [if_pos h1,hX k _ _ (by omega),(dn l (a / 2)).1]
    obtain ⟨b,rfl⟩:∃ b,a=b+1:=⟨a-1,by omega⟩
    rw [a0v]; congr 1; omega
   ·rw [if_neg h1,hX k _ _ (by omega),(dn l (a / 2-1)).2]
    obtain ⟨b,rfl⟩:∃ b,a=b+1:=⟨a-1,by omega⟩
    rw [a0v]; congr 1; omega
noncomputable def lL (p:Program)(rc:List Rc)(m:Nat)(P:Params):List Obj:=os P (rs P ((p.main.body.zip rc).take m))
noncomputable def kK (p:Program)(rc:List Rc)(m:Nat)(as:List Addr)(P:Params):Frag:=as.map fun a=>(a,(lL p rc m P).getD a default)
noncomputable def okO:Option Obj->Bool
 | some ⟨_,_,.freed,_⟩=>false
 | some _=>true
 | none=>false
theorem iZ {p:Program}{rc:List Rc}{m:Nat}{P:Params}{a:Addr}{o:Obj}:∀ {as:List Addr},(kK p rc m as P).lookup a=some o->a∈as/\o=(lL p rc m P).getD a default
 | [],h=>by simp [kK] at h
 | b::as,h=>by
  unfold kK at h
  rw [a0x,a0Z] at h
  by_cases e:a=b
  ·subst e
   rw [beq_self_eq_true] at h
   exact ⟨a0o ..,(a0s h).symm⟩
  ·rw [beq_false_of_ne e] at h
   have x:=iZ (as:=as) h
   exact ⟨a0n _ x.1,x.2⟩
noncomputable def hkk (p:Program)(rc:List Rc)(m n:Nat):Hook where
 α:=Array Obj
 obs s:=s.heap.objs
 val w:=(hp p rc m n w.params).objs
 says w h:=∀ a o,(hp p rc m n w.params).get? a=some o->h.get? a=some o
 of w s e a o x:=by unfold Heap.get? at *; rw [e]; exact x
 keeps w h h' X k a o x:=k _ _ (X a o x)
theorem zd {p:Program}{rc:List Rc}{m n:Nat}{as:List Addr}{w:World}{h:Heap}(hl:Nat.blt (lL p rc m w.params).length 4096=true)(hc:(as.all fun a=>Nat.blt a n&&okO (lL p rc m w.params)[a]?)=true)
  (Y:(hkk p rc m n).says w h):(kK p rc m as w.params).In h:=fun a o e=>by
 obtain ⟨e1,e2⟩:=iZ e
 obtain ⟨c1,c2⟩:=a0w.mp (a0J.mp hc a e1)
 refine Y a o ?_
 have c3:a < n:=a1v c1
 have c4:(lL p rc m w.params).length < 2 ^ 12:=a1v hl
 have g:=hX 12 (lL p rc m w.params) a c4
 unfold hp Heap.get?
 rw [absHeap_at,if_pos c3]
 show (match some (((bt 12 (lL p rc m w.params)).get a).getD default) with | some ⟨_,_,.freed,_⟩=>none | o=>o)=some o
 rw [g]
 rw [a0u] at e2
 rw [<- e2]
 cases q:(lL p rc m w.params)[a]? with
 | none=>rw [q] at c2; cases c2
 | some x =>
  rw [q] at c2 e2
  have e3:o=x:=e2
  subst e3
  obtain ⟨_,_,d,_⟩:=o
  cases d<;>first | rfl | cases c2
noncomputable def pmO:Option Obj->Value
 | some ⟨_,_,.func f,_⟩=>f.pyModule
 | _=>.none
noncomputable def rfO:Option (Option Value)->Nat
 | some (some (.ref a))=>a
 | _=>0
noncomputable def tkO:Option (Option Value)->Nat
 | some (some (.int _ t))=>t
 | some (some (.str _ t))=>t
 | _=>0
theorem raw_mk {K:Frag}{x:Str}{st:Stmt}{dV:Value}(h1:nsIn K mainGlobals x=some (some (.ref (rfO (nsIn K mainGlobals x)))))
  (h2:K.lookup (rfO (nsIn K mainGlobals x))=some ⟨.type "function",none,.func (fnOf x x (L2.defArgs st) (L2.defBody st) (L2.defScope st) dV .none .none (pmO (K.lookup (rfO (nsIn K mainGlobals x)))) none (.ref (rfO (nsIn K mainGlobals x)-1)) .none),#[]⟩)
  (h3:codeIn K (.ref (rfO (nsIn K mainGlobals x)-1)) x=true) (h4:keepIn K (.ref (rfO (nsIn K mainGlobals x)))=true):MR.Raw K x st dV:=⟨_,_,_,_,_,_,_,_,_,_,h1,h2,h3,h4⟩
noncomputable def toV:Value->L2.V
 | .bool b=>.bl b
 | .int i _=>.int i
 | .str s _=>.str s
 | .ref a=>.ref a
 | _=>.non
noncomputable def okV:Value->Bool
 | .none=>true
 | .bool _=>true
 | .int _ _=>true
 | .str _ _=>true
 | .ref _=>true
 | _=>false
theorem i5:∀ {v:Value},okV v=true->L2.RelV (toV v) v
 | .none,_=>rfl
 | .bool _,_=>rfl
 | .int _ _,_=>⟨_,rfl⟩
 | .str _ _,_=>⟨_,rfl⟩
 | .ref _,_=>rfl
 | .ellipsis,h=>by cases h
 | .notImplemented,h=>by cases h
 | .float _ _,h=>by cases h
 | .bytes _ _,h=>by cases h
 | .type _,h=>by cases h
 | .builtin _,h=>by cases h
theorem gD:∀ {l:List Value},l.all okV=true->L2.Vals (l.map toV) l
 | [],_=>.nil
 | v::l,h=>by
  rw [a00,a0w] at h
  exact .cons (i5 h.1) (gD h.2)
noncomputable def eK (e:DictEntry):Str×Nat×Value:=match e.key with
 | .str k t=>(k,t,e.val)
 | _=>("",0,e.val)
noncomputable def tE:Option Obj->List (Str×Nat×Value)
 | some o=>(ds o.data).map eK
 | none=>[]
noncomputable def tN:Option Obj->Nat
 | some o=>ep o.data
 | none=>0
noncomputable def enL (P:Params)(l:List (Str×Nat×Value)):List DictEntry:=l.map fun e=>en P e.1 e.2.1 e.2.2
noncomputable def tL (l:List (Str×Nat×Value)):List (Str×L2.V):=l.map fun e=>(e.1,toV e.2.2)
theorem fZ {P:Params}:∀ l:List (Str×Nat×Value),KeysLit P (enL P l)
 | []=>trivial
 | e::l=>⟨⟨_,_,rfl,rfl⟩,fZ l⟩
theorem fO {P:Params}:∀ {l:List (Str×Nat×Value)},(l.all fun e=>okV e.2.2)=true->PySem.Paired (fun (p:Str×L2.V) (e:DictEntry)=>(∃ t,e.key=.str p.1 t)/\L2.RelV p.2 e.val) (tL l) (enL P l)
 | [],_=>.nil
 | e::l,h=>by
  rw [a00,a0w] at h
  exact .cons ⟨⟨_,rfl⟩,i5 h.1⟩ (fO h.2)
theorem tab_mk {K:Frag}{w:World}{x:Str}(h1:nsIn K mainGlobals x=some (some (.ref (rfO (nsIn K mainGlobals x)))))
  (h2:K.lookup (rfO (nsIn K mainGlobals x))=some (di (enL w.params (tE (K.lookup (rfO (nsIn K mainGlobals x))))) (tN (K.lookup (rfO (nsIn K mainGlobals x))))))
  (h3:((tE (K.lookup (rfO (nsIn K mainGlobals x)))).all fun e=>okV e.2.2)=true) (h4:(rfO (nsIn K mainGlobals x)==sysModules)=false):MR.TabRaw K w x (tL (tE (K.lookup (rfO (nsIn K mainGlobals x))))) :=
 ⟨_,_,_,h1,h2,fZ _,fO h3,h4⟩
noncomputable def jx {α β:Type}(f:α->β->Bool):List α->List β->Bool
 | [],[]=>true
 | a::l,b::r=>f a b&&jx f l r
 | _,_=>false
noncomputable def hV (K:Frag):Nat->M.T->L2.V->Bool
 | _+1,.int i,.int j=>decide (i=j)
 | _+1,.non,.non=>true
 | _+1,.bl a,.bl b=>decide (a=b)
 | _+1,.str x,.str y=>decide (x=y)&&M.sOk x
 | n+1,.tup ts,.ref a=>match K.lookup a with
  | some ⟨.type "tuple",_,.seq its _,_⟩=>Nat.ble its.size 1000&&(its.toList.all okV&&jx (hV K n) ts (its.toList.map toV))
  | _=>false
 | _,_,_=>false
theorem iY {K:Frag}{n:Nat}(ih:∀ t v,hV K n t v=true->MR.CstR K t v):∀ {ts:List M.T} {xs:List L2.V},jx (hV K n) ts xs=true->MR.CstRs K ts xs
 | [],[],_=>MR.cst_nil
 | t::ts,x::xs,h=>by
  unfold jx at h
  rw [a0w] at h
  exact MR.cst_cons (ih _ _ h.1) (iY ih h.2)
 | [],_::_,h=>by cases h
 | _::_,[],h=>by cases h
theorem pd {K:Frag}:∀ n t v,hV K n t v=true->MR.CstR K t v:=by
 intro n
 induction n with
 | zero=>intro t v h; simp [hV] at h
 | succ n ih =>
  intro t v h
  unfold hV at h
  split at h
  ·rename_i q; cases q; have e:=of_decide_eq_true h; subst e; exact MR.cst_int _
  ·exact MR.cst_non
  ·have e:=of_decide_eq_true h; subst e; exact MR.cst_bl _
  ·rw [a0w] at h; have e:=of_decide_eq_true h.1; subst e; exact MR.cst_str h.2
  ·rename_i q
   cases q
   split at h
   ·rename_i its k sl q
    rw [a0w,a0w] at h
    have hs:=a1v h.1
    exact MR.cst_tup q rfl rfl (a0r hs (by decide)) (gD h.2.1) (by rw [a0f,a0P]; exact a0r hs (by decide)) (iY ih h.2.2)
   ·cases h
  ·cases h
theorem cst_of {K:Frag}{n:Nat}:∀ {tab:List (Str×M.T)} {T:List (Str×L2.V)},jx (fun (e:Str×M.T) (p:Str×L2.V)=>decide (p.1=e.1)&&hV K n e.2 p.2) tab T=true->MR.CstL K tab T
 | [],[],_=>trivial
 | e::tab,p::T,h=>by
  unfold jx at h
  rw [a0w,a0w] at h
  exact ⟨⟨of_decide_eq_true h.1.1,pd n _ _ h.1.2⟩,cst_of h.2⟩
 | [],_::_,h=>by cases h
 | _::_,[],h=>by cases h
end TP

namespace A08
open M
open PySem (Str)
noncomputable abbrev q:=Str.ofString
noncomputable def keys_AHEAD:List Str:=[q "num",q "name",q "none",q "let",q "each",q "times"]
noncomputable def tab_AHEAD:List (Str×T):=[(q "num",.str (q "number")),(q "name",.str (q "name")),(q "none",.str (q "kind")),(q "let",.str (q "name")),(q "each",.str (q "name")),(q "times",.str (q "name"))]
noncomputable def keys_PARTS:List Str:=[q "num",q "yes",q "no",q "name",q "none",q "not",q "first",q "second",q "one",q "upto",q "long",q "sum",q "sums",q "most",q "flat",q "add",q "sub",q "mul",q "div",q "rest",q "less",q "same",q "both",q "pair",q "pick",q "join",q "keep",q "cut",q "let",q "if",q "each",q "times"]
noncomputable def tab_PARTS:List (Str×T):=[(q "num",.int 0),(q "yes",.int 0),(q "no",.int 0),(q "name",.int 0),(q "none",.int 0),(q "not",.int 1),(q "first",.int 1),(q "second",.int 1),(q "one",.int 1),(q "upto",.int 1),(q "long",.int 1),(q "sum",.int 1),(q "sums",.int 1),(q "most",.int 1),(q "flat",.int 1),(q "add",.int 2),(q "sub",.int 2),(q "mul",.int 2),(q "div",.int 2),(q "rest",.int 2),(q "less",.int 2),(q "same",.int 2),(q "both",.int 2),(q "pair",.int 2),(q "pick",.int 2),(q "join",.int 2),(q "keep",.int 2),(q "cut",.int 2),(q "let",.int 2),(q "if",.int 3),(q "each",.int 2),(q "times",.int 3)]
noncomputable def keys_WITHIN:List Str:=[q "num",q "truth",q "pair",q "row"]
noncomputable def tab_WITHIN:List (Str×T):=[(q "num",.int 0),(q "truth",.int 0),(q "pair",.int 2),(q "row",.int 1)]
noncomputable def bM:Fn:={ ps:=1,ns:=0,io:=[],body:=[
  .ret [] (.call 216 [.mv 0,.cst (.int 5)])] }
noncomputable def aM:Fn:={ ps:=2,ns:=1,io:=[],body:=[
  .ite (.q [0,1] []) (.or (.op .eq false [.var 1,.cst (.int 0)]) (.or (.not (.op (.isI ["tuple"]) false [.var 0])) (.op .eq false [.op .len false [.var 0],.cst (.int 0)]))) [
   .ret [] (.cst (.bl false))] [],
  .ite (.q [0] []) (.or (.not (.op (.isI ["str"]) false [.op .ix false [.var 0,.cst (.int 0)]])) (.inT true keys_WITHIN (.op .ix false [.var 0,.cst (.int 0)]))) [
   .ret [] (.cst (.bl false))] [],
  .ite (.q [0] []) (.op .ne false [.op .len false [.var 0],.op .add false [.cst (.int 1),.ixT tab_WITHIN (.op .ix false [.var 0,.cst (.int 0)])]]) [
   .ret [] (.cst (.bl false))] [],
  .ret [1] (.op .all false [.comp false .seq [.op .sl1 false [.mv 0,.cst (.int 1)]] [2] none (.call 216 [.var 2,.op .sub false [.var 1,.cst (.int 1)]])])] }
noncomputable def bp:Fn:={ ps:=2,ns:=0,io:=[],body:=[
  .ite (.q [0] []) (.op .eq false [.op .ix false [.var 0,.cst (.int 0)],.cst (.str (q "num"))]) [
   .ret [] (.call 3 [.mv 1])] [],
  .ite (.q [0] []) (.op .eq false [.op .ix false [.var 0,.cst (.int 0)],.cst (.str (q "truth"))]) [
   .ret [] (.op (.isI ["bool"]) false [.mv 1])] [],
  .ite (.q [0] []) (.op .eq false [.op .ix false [.var 0,.cst (.int 0)],.cst (.str (q "pair"))]) [
   .ret [] (.call 4 [.mv 0,.mv 1])] [],
  .ret [] (.call 5 [.mv 0,.mv 1])] }
noncomputable def bc:Fn:={ ps:=1,ns:=0,io:=[],body:=[
  .ite (.q [0] []) (.or (.not (.op (.isI ["int"]) false [.var 0])) (.op (.isI ["bool"]) false [.var 0])) [
   .ret [] (.cst (.bl false))] [],
  .ret [] (.chain .le .le (.op .neg false [.cst (.int 1000000000000000000)]) (.mv 0) (.cst (.int 1000000000000000000)))] }
noncomputable def aV:Fn:={ ps:=1,ns:=1,io:=[],body:=[
  .ite (.q [0] []) (.or (.not (.op (.isI ["str"]) false [.var 0])) (.not (.chain .le .le (.cst (.int 1)) (.op .len false [.var 0]) (.cst (.int 8))))) [
   .ret [] (.cst (.bl false))] [],
  .ite (.q [0] []) (.or (.inT false keys_PARTS (.var 0)) (.op .isin false [.var 0,.tup [.cst (.str (q "truth")),.cst (.str (q "row"))]])) [
   .ret [] (.cst (.bl false))] [],
  .ret [] (.op .all false [.comp false .chr [.mv 0] [1] none (.chain .leS .leS (.cst (.str (q "a"))) (.var 1) (.cst (.str (q "z"))))])] }
noncomputable def aD:Fn:={ ps:=1,ns:=2,io:=[],body:=[
  .ite (.q [0] []) (.or (.not (.op (.isI ["tuple"]) false [.var 0])) (.op .eq false [.op .len false [.var 0],.cst (.int 0)])) [
   .ret [] (.cst (.bl false))] [],
  .ite (.q [0] []) (.or (.not (.op (.isI ["str"]) false [.op .ix false [.var 0,.cst (.int 0)]])) (.inT true keys_PARTS (.op .ix false [.var 0,.cst (.int 0)]))) [
   .ret [] (.cst (.bl false))] [],
  .asg (.q [0] []) 1 (.call 175 [.op .ix false [.var 0,.cst (.int 0)]]),
  .ite (.q [0] [1]) (.op .ne false [.op .len false [.var 0],.op .add false [.var 1,.ixT tab_PARTS (.op .ix false [.var 0,.cst (.int 0)])]]) [
   .ret [] (.cst (.bl false))] [],
  .ite (.q [0] [1]) (.and (.op .eq false [.var 1,.cst (.int 2)]) (.not (.call 228 [.ixT tab_AHEAD (.op .ix false [.var 0,.cst (.int 0)]),.op .ix false [.var 0,.cst (.int 1)]]))) [
   .ret [] (.cst (.bl false))] [],
  .ret [] (.op .all false [.comp false .seq [.op .sl1 false [.mv 0,.mv 1]] [2] none (.call 227 [.var 2])])] }
noncomputable def au:Fn:={ ps:=2,ns:=0,io:=[],body:=[
  .ite (.q [0] []) (.op .eq false [.var 0,.cst (.str (q "number"))]) [
   .ret [1] (.and (.call 2 [.tup [.cst (.str (q "num"))],.var 1]) (.op .ge false [.var 1,.cst (.int 0)]))] [],
  .ite (.q [0] []) (.op .eq false [.var 0,.cst (.str (q "kind"))]) [
   .ret [] (.call 215 [.mv 1])] [],
  .ret [] (.call 226 [.mv 1])] }
noncomputable def aQ:Fn:={ ps:=1,ns:=0,io:=[],body:=[
  .ret [] (.ifx (.inT false keys_AHEAD (.mv 0)) (.cst (.int 2)) (.cst (.int 1)))] }
noncomputable def aJ:Fn:={ ps:=2,ns:=1,io:=[],body:=[
  .asg (.q [] [0]) 2 (.op .mod false [.var 0,.cst (.int 6)]),
  .ite (.q [] [1,2]) (.or (.op .eq false [.var 1,.cst (.int 0)]) (.op .lt false [.var 2,.cst (.int 2)])) [
   .ret [] (.op .ix false [.lst false [.tup [.cst (.str (q "num"))],.tup [.cst (.str (q "truth"))]],.op .mod false [.mv 0,.cst (.int 2)]])] [],
  .ite (.q [] [2]) (.op .eq false [.var 2,.cst (.int 2)]) [
   .ret [] (.tup [.cst (.str (q "pair")),.call 171 [.op .fdiv false [.var 0,.cst (.int 6)],.op .sub false [.var 1,.cst (.int 1)]],.call 171 [.op .fdiv false [.var 0,.cst (.int 216)],.op .sub false [.var 1,.cst (.int 1)]]])] [],
  .ret [] (.tup [.cst (.str (q "row")),.call 171 [.op .fdiv false [.mv 0,.cst (.int 6)],.op .sub false [.mv 1,.cst (.int 1)]]])] }
noncomputable def bw:Fn:={ ps:=1,ns:=3,io:=[],body:=[
  .asg (.q [] [0]) 1 (.op .ix false [.lst false [.cst (.str (q "x")),.cst (.str (q "addx")),.cst (.str (q "rowe")),.cst (.str (q "numb")),.cst (.str (q "ab")),.cst (.str (q "z")),.cst (.str (q "abcdefgh")),.cst (.str (q "nots")),.cst (.str (q "truths")),.cst (.str (q "y"))],.op .mod false [.op .fdiv false [.var 0,.cst (.int 5)],.cst (.int 10)]]),
  .asg (.q [] [0]) 2 (.op .ix false [.lst false [.cst (.int 0),.cst (.int 1),.op .pow false [.cst (.int 10),.cst (.int 18)],.cst (.int 5),.op .mod false [.var 0,.op .add false [.op .pow false [.cst (.int 10),.cst (.int 18)],.cst (.int 1)]]],.op .mod false [.op .fdiv false [.var 0,.cst (.int 5)],.cst (.int 5)]]),
  .asg (.q [1] [0,2]) 3 (.lst false [.tup [.cst (.str (q "num")),.var 2],.tup [.cst (.str (q "yes"))],.tup [.cst (.str (q "no"))],.tup [.cst (.str (q "name")),.var 1],.tup [.cst (.str (q "none")),.call 171 [.op .fdiv false [.var 0,.cst (.int 5)],.cst (.int 4)]]]),
  .ret [] (.op .ix false [.mv 3,.op .mod false [.mv 0,.cst (.int 5)]])] }
noncomputable def f_law_tree:Fn:={ ps:=2,ns:=6,io:=[0],body:=[
  .asg (.l []) 2 (.ifx (.op .gt false [.lenV 0,.cst (.int 0)]) (.pop 0 []) (.cst (.int 0))),
  .ite (.q [] [1,2]) (.or (.op .eq false [.var 1,.cst (.int 0)]) (.op .eq false [.op .mod false [.var 2,.cst (.int 5)],.cst (.int 0)])) [
   .ret [] (.call 220 [.op .fdiv false [.mv 2,.cst (.int 5)]])] [],
  .asg (.q [] []) 3 (.lst false [.cst (.str (q "not")),.cst (.str (q "first")),.cst (.str (q "second")),.cst (.str (q "one")),.cst (.str (q "upto")),.cst (.str (q "long")),.cst (.str (q "sum")),.cst (.str (q "sums")),.cst (.str (q "most")),.cst (.str (q "flat")),.cst (.str (q "add")),.cst (.str (q "sub")),.cst (.str (q "mul")),.cst (.str (q "div"))]),
  .asg (.q [3] []) 3 (.op .add false [.var 3,.lst false [.cst (.str (q "rest")),.cst (.str (q "less")),.cst (.str (q "same")),.cst (.str (q "both")),.cst (.str (q "pair")),.cst (.str (q "pick")),.cst (.str (q "join")),.cst (.str (q "keep")),.cst (.str (q "cut")),.cst (.str (q "let")),.cst (.str (q "if")),.cst (.str (q "each")),.cst (.str (q "times"))]]),
  .asg (.q [] [2]) 4 (.op .mod false [.op .fdiv false [.var 2,.cst (.int 5)],.cst (.int 27)]),
  .asg (.q [3] [4]) 5 (.op .add false [.op .add false [.cst (.int 1),.op .int false [.op .gt false [.var 4,.cst (.int 9)]]],.op .int false [.op .isin false [.op .ix false [.var 3,.var 4],.tup [.cst (.str (q "if")),.cst (.str (q "times"))]]]]),
  .asg (.q [3] [4]) 6 (.tup [.op .ix false [.var 3,.var 4]]),
  .ite (.q [3] [4]) (.op .isin false [.op .ix false [.var 3,.var 4],.tup [.cst (.str (q "let")),.cst (.str (q "each")),.cst (.str (q "times"))]]) [
   .asg (.q [6] [2]) 6 (.op .add false [.var 6,.tup [.op .ix false [.lst false [.cst (.str (q "x")),.cst (.str (q "rowy")),.cst (.str (q "addx")),.cst (.str (q "b")),.cst (.str (q "numbs"))],.op .mod false [.op .fdiv false [.var 2,.cst (.int 135)],.cst (.int 5)]]]])] [],
  .forS [] [5] .rng [.var 5] [7] [
   .asg (.l [6]) 6 (.op .add false [.var 6,.tup [.call 229 [.io 0,.op .sub false [.var 1,.cst (.int 1)]]]])],
  .ret [] (.mv 6)] }
noncomputable def f_law_bent:Fn:={ ps:=2,ns:=5,io:=[],body:=[
  .asg (.q [0] []) 2 (.op .add false [.cst (.int 1),.op .int false [.op .isin false [.op .ix false [.var 0,.cst (.int 0)],.tup [.cst (.str (q "let")),.cst (.str (q "each")),.cst (.str (q "times"))]]]]),
  .ite (.q [0] [1,2]) (.and (.op .notin false [.op .ix false [.var 0,.cst (.int 0)],.tup [.cst (.str (q "num")),.cst (.str (q "name")),.cst (.str (q "none"))]]) (.and (.op .gt false [.op .len false [.var 0],.var 2]) (.op .gt false [.op .mod false [.var 1,.cst (.int 3)],.cst (.int 0)]))) [
   .asg (.q [0] [1,2]) 3 (.op .add false [.var 2,.op .mod false [.op .fdiv false [.var 1,.cst (.int 3)],.op .sub false [.op .len false [.var 0],.var 2]]]),
   .ret [0] (.op .add false [.op .add false [.op .sl2 false [.var 0,.var 3],.tup [.call 222 [.op .ix false [.var 0,.var 3],.op .fdiv false [.mv 1,.cst (.int 7)]]]],.op .sl1 false [.var 0,.op .add false [.var 3,.cst (.int 1)]]])] [],
  .asg (.q [] [1]) 4 (.op .mod false [.op .fdiv false [.var 1,.cst (.int 3)],.cst (.int 30)]),
  .ite (.q [] [4]) (.op .lt false [.var 4,.cst (.int 6)]) [
   .ret [0] (.op .ix false [.lst false [.op .list false [.var 0],.op .add false [.var 0,.tup [.tup [.cst (.str (q "yes"))]]],.op .sl2 false [.var 0,.op .neg false [.cst (.int 1)]],.op .add false [.tup [.cst (.str (q "adds"))],.op .sl1 false [.var 0,.cst (.int 1)]],.op .add false [.tup [.cst (.str (q "Add"))],.op .sl1 false [.var 0,.cst (.int 1)]],.op .ix false [.var 0,.cst (.int 0)]],.mv 4])] [],
  .ite (.q [] [4]) (.op .lt false [.var 4,.cst (.int 12)]) [
   .ret [] (.op .ix false [.lst false [.cst (.non),.cst (.bl true),.cst (.int 7),.tup [],.tup [.cst (.str (q "name")),.cst (.str (q "add"))],.tup [.cst (.str (q "num")),.op .neg false [.cst (.int 1)]]],.op .sub false [.mv 4,.cst (.int 6)]])] [],
  .ite (.q [] [4]) (.op .lt false [.var 4,.cst (.int 18)]) [
   .ret [] (.op .ix false [.lst false [.tup [.cst (.str (q "num")),.cst (.bl true)],.tup [.cst (.str (q "num")),.op .add false [.op .pow false [.cst (.int 10),.cst (.int 18)],.cst (.int 1)]],.tup [.cst (.str (q "name")),.cst (.str (q "row"))],.tup [.cst (.str (q "name")),.cst (.str (q ""))],.tup [.cst (.str (q "name")),.cst (.str (q "abcdefghi"))],.tup [.cst (.str (q "let")),.cst (.str (q "num")),.tup [.cst (.str (q "yes"))],.tup [.cst (.str (q "no"))]]],.op .sub false [.mv 4,.cst (.int 12)]])] [],
  .ite (.q [] [4]) (.op .gt false [.var 4,.cst (.int 23)]) [
   .asg (.q [] []) 5 (.tup [.cst (.str (q "row")),.tup [.cst (.str (q "row")),.tup [.cst (.str (q "row")),.tup [.cst (.str (q "row")),.tup [.cst (.str (q "row")),.tup [.cst (.str (q "num"))]]]]]]),
   .asg (.q [5] []) 6 (.lst false [.tup [.cst (.str (q "none")),.tup [.cst (.str (q "row")),.tup [.cst (.str (q "nums"))]]],.tup [.cst (.str (q "none")),.var 5],.tup [.cst (.str (q "none")),.lst false [.cst (.str (q "num"))]]]),
   .ret [] (.op .ix false [.op .add false [.mv 6,.lst false [.tup [.lst false []],.tup [.cst (.non)],.tup [.cst (.int 7),.tup [.cst (.str (q "yes"))]]]],.op .sub false [.mv 4,.cst (.int 24)]])] [],
  .asg (.q [] []) 6 (.lst false [.tup [.cst (.str (q "none")),.tup [.lst false [.cst (.str (q "row"))]]],.tup [.cst (.str (q "yes")),.cst (.int 1)],.tup [.lst false [.cst (.str (q "yes"))]],.tup [.cst (.str (q "each")),.lst false [.cst (.str (q "x"))],.tup [.cst (.str (q "yes"))],.tup [.cst (.str (q "no"))]]]),
  .ret [] (.op .ix false [.op .add false [.mv 6,.lst false [.tup [.cst (.str (q "not")),.tup [.cst (.str (q "yes"))],.tup [.cst (.str (q "no"))]],.tup [.cst (.str (q "times")),.cst (.str (q "x")),.tup [.cst (.str (q "yes"))],.tup [.cst (.str (q "no"))]]]],.op .sub false [.mv 4,.cst (.int 18)]])] }
noncomputable def aB:Fn:={ ps:=1,ns:=2,io:=[],body:=[
  .asg (.q [] []) 1 (.lst false [.cst (.str (q "num")),.cst (.str (q "yes")),.cst (.str (q "no")),.cst (.str (q "name")),.cst (.str (q "none")),.cst (.str (q "not")),.cst (.str (q "first")),.cst (.str (q "second")),.cst (.str (q "one")),.cst (.str (q "upto")),.cst (.str (q "long")),.cst (.str (q "sum")),.cst (.str (q "sums")),.cst (.str (q "most"))]),
  .asg (.q [1] []) 1 (.op .add false [.var 1,.lst false [.cst (.str (q "flat")),.cst (.str (q "add")),.cst (.str (q "sub")),.cst (.str (q "mul")),.cst (.str (q "div")),.cst (.str (q "rest")),.cst (.str (q "less")),.cst (.str (q "same")),.cst (.str (q "both")),.cst (.str (q "pair")),.cst (.str (q "pick")),.cst (.str (q "join")),.cst (.str (q "keep"))]]),
  .asg (.q [1] []) 1 (.op .add false [.var 1,.lst false [.cst (.str (q "cut")),.cst (.str (q "let")),.cst (.str (q "if")),.cst (.str (q "each")),.cst (.str (q "times")),.cst (.str (q "truth")),.cst (.str (q "row"))]]),
  .ite (.q [0,1] []) (.or (.not (.op (.isI ["str"]) false [.var 0])) (.or (.op .isin false [.var 0,.var 1]) (.or (.op .eq false [.op .len false [.var 0],.cst (.int 0)]) (.op .gt false [.op .len false [.var 0],.cst (.int 8)])))) [
   .ret [] (.cst (.bl false))] [],
  .ret [] (.op .eq false [.op .len false [.comp false .chr [.mv 0] [2] (some (.op .ninS false [.var 2,.cst (.str (q "abcdefghijklmnopqrstuvwxyz"))])) (.var 2)],.cst (.int 0)])] }
noncomputable def aW:Fn:={ ps:=2,ns:=1,io:=[],body:=[
  .ite (.q [0] [1]) (.or (.op .eq false [.var 1,.cst (.int 0)]) (.or (.not (.op (.isI ["tuple"]) false [.var 0])) (.op .eq false [.op .len false [.var 0],.cst (.int 0)]))) [
   .ret [] (.cst (.bl false))] [],
  .ite (.q [0] []) (.op .ninX false [.op .ix false [.var 0,.cst (.int 0)],.tup [.cst (.str (q "num")),.cst (.str (q "truth")),.cst (.str (q "row")),.cst (.str (q "pair"))]]) [
   .ret [] (.cst (.bl false))] [],
  .ite (.q [0] []) (.op .ne false [.op .len false [.var 0],.ixT [(q "num",.int 1),(q "truth",.int 1),(q "row",.int 2),(q "pair",.int 3)] (.op .ix false [.var 0,.cst (.int 0)])]) [
   .ret [] (.cst (.bl false))] [],
  .ret [] (.op .all false [.comp false .seq [.op .sl1 false [.mv 0,.cst (.int 1)]] [2] none (.call 231 [.var 2,.op .sub false [.var 1,.cst (.int 1)]])])] }
noncomputable def af:Fn:={ ps:=1,ns:=5,io:=[],body:=[
  .ite (.q [0] []) (.or (.not (.op (.isI ["tuple"]) false [.var 0])) (.or (.op .eq false [.op .len false [.var 0],.cst (.int 0)]) (.not (.op (.isI ["str"]) false [.op .ix false [.var 0,.cst (.int 0)]])))) [
   .ret [] (.cst (.bl false))] [],
  .ite (.q [0] []) (.op .eq false [.op .ix false [.var 0,.cst (.int 0)],.cst (.str (q "num"))]) [
   .asg (.q [0] []) 1 (.and (.op .eq false [.op .len false [.var 0],.cst (.int 2)]) (.and (.op (.isI ["int"]) false [.op .ix false [.var 0,.cst (.int 1)]]) (.not (.op (.isI ["bool"]) false [.op .ix false [.var 0,.cst (.int 1)]])))),
   .ret [0] (.and (.mv 1) (.and (.op .ge false [.op .ix false [.var 0,.cst (.int 1)],.cst (.int 0)]) (.op .le false [.op .ix false [.var 0,.cst (.int 1)],.op .pow false [.cst (.int 10),.cst (.int 18)]])))] [],
  .ite (.q [0] []) (.op .eq false [.op .ix false [.var 0,.cst (.int 0)],.cst (.str (q "name"))]) [
   .ret [0] (.and (.op .eq false [.op .len false [.var 0],.cst (.int 2)]) (.call 230 [.op .ix false [.var 0,.cst (.int 1)]]))] [],
  .ite (.q [0] []) (.op .eq false [.op .ix false [.var 0,.cst (.int 0)],.cst (.str (q "none"))]) [
   .ret [0] (.and (.op .eq false [.op .len false [.var 0],.cst (.int 2)]) (.call 231 [.op .ix false [.var 0,.cst (.int 1)],.cst (.int 5)]))] [],
  .ite (.q [0] []) (.op .isin false [.op .ix false [.var 0,.cst (.int 0)],.tup [.cst (.str (q "let")),.cst (.str (q "each")),.cst (.str (q "times"))]]) [
   .ite (.q [0] []) (.or (.op .ne false [.op .len false [.var 0],.op .add false [.cst (.int 4),.op .int false [.op .eq false [.op .ix false [.var 0,.cst (.int 0)],.cst (.str (q "times"))]]]]) (.not (.call 230 [.op .ix false [.var 0,.cst (.int 1)]]))) [
    .ret [] (.cst (.bl false))] [],
   .ret [] (.op .all false [.comp false .seq [.op .sl1 false [.mv 0,.cst (.int 2)]] [4] none (.call 232 [.var 4])])] [],
  .ite (.q [0] []) (.or (.call 230 [.op .ix false [.var 0,.cst (.int 0)]]) (.op .isin false [.op .ix false [.var 0,.cst (.int 0)],.tup [.cst (.str (q "truth")),.cst (.str (q "row"))]])) [
   .ret [] (.cst (.bl false))] [],
  .asg (.q [] []) 2 (.lst false [.cst (.str (q "add")),.cst (.str (q "sub")),.cst (.str (q "mul")),.cst (.str (q "div")),.cst (.str (q "rest")),.cst (.str (q "less")),.cst (.str (q "same")),.cst (.str (q "both")),.cst (.str (q "pair")),.cst (.str (q "pick")),.cst (.str (q "join")),.cst (.str (q "keep")),.cst (.str (q "cut"))]),
  .asg (.q [0,2] []) 3 (.op .sub false [.op .add false [.op .add false [.cst (.int 1),.op .int false [.op .isin false [.op .ix false [.var 0,.cst (.int 0)],.var 2]]],.op .mul false [.cst (.int 2),.op .int false [.op .eq false [.op .ix false [.var 0,.cst (.int 0)],.cst (.str (q "if"))]]]],.op .int false [.op .isin false [.op .ix false [.var 0,.cst (.int 0)],.tup [.cst (.str (q "yes")),.cst (.str (q "no"))]]]]),
  .ite (.q [0] [3]) (.or (.op .ne false [.op .ix false [.var 0,.cst (.int 0)],.op .lower false [.op .ix false [.var 0,.cst (.int 0)]]]) (.or (.op .isin false [.op .ix false [.var 0,.cst (.int 0)],.tup [.cst (.str (q "")),.cst (.str (q "adds"))]]) (.op .ne false [.op .len false [.var 0],.op .add false [.var 3,.cst (.int 1)]]))) [
   .ret [] (.cst (.bl false))] [],
  .ret [] (.op .all false [.comp false .seq [.op .sl1 false [.mv 0,.cst (.int 1)]] [5] none (.call 232 [.var 5])])] }
noncomputable def f_law:Fn:={ ps:=1,ns:=5,io:=[],body:=[
  .asg (.q [0] []) 1 (.call 229 [.op .list false [.op .sl2 false [.var 0,.cst (.int 40)]],.cst (.int 6)]),
  .ite (.q [1] []) (.op .isnB false [.call 227 [.var 1],.cst (.bl true)]) [
   .ret [] (.cst (.bl false))] [],
  .asg (.q [] []) 2 (.lst false [.cst (.str (q "x")),.cst (.str (q "add")),.cst (.str (q "adds")),.cst (.str (q "row")),.cst (.str (q "rows")),.cst (.str (q "truth")),.cst (.str (q "truthy")),.cst (.str (q "abcdefgh")),.cst (.str (q "abcdefghi")),.cst (.str (q "")),.cst (.str (q "a b")),.cst (.str (q "A")),.cst (.str (q "a1")),.cst (.str (q "num"))]),
  .forS [2] [] .seq [.op .add false [.var 2,.lst false [.cst (.str (q "numb")),.cst (.str (q "none")),.cst (.str (q "name")),.cst (.str (q "namer")),.cst (.str (q "yes")),.cst (.non),.cst (.int 5),.cst (.bl true),.tup [.cst (.str (q "x"))],.lst false [.cst (.str (q "x"))]]]] [3] [
   .asg (.q [3] []) 4 (.call 226 [.var 3]),
   .ite (.q [3,4] []) (.or (.not (.op (.isI ["bool"]) false [.var 4])) (.op .ne false [.var 4,.call 230 [.var 3]])) [
    .ret [] (.cst (.bl false))] []],
  .forS [0] [] .seq [.ifx (.op .gt false [.op .len false [.var 0],.cst (.int 0)]) (.op .sl2 false [.var 0,.cst (.int 8)]) (.lst false [.cst (.int 0)])] [5] [
   .asg (.q [1] [5]) 3 (.call 222 [.var 1,.var 5]),
   .asg (.q [3] []) 4 (.call 227 [.var 3]),
   .ite (.q [3,4] []) (.or (.not (.op (.isI ["bool"]) false [.var 4])) (.op .ne false [.var 4,.call 232 [.var 3]])) [
    .ret [] (.cst (.bl false))] []],
  .ret [] (.cst (.bl true))] }
noncomputable def prog:List Fn:=[f_law,zf,bp,bc,zf,zf,zf,zf,zf,zf,zf,zf,zf,zf,zf,zf,zf,zf,zf,zf,zf,zf,zf,zf,zf,zf,zf,zf,zf,zf,zf,zf,zf,zf,zf,zf,zf,zf,zf,zf,zf,zf,zf,zf,zf,zf,zf,zf,zf,zf,zf,zf,zf,zf,zf,zf,zf,zf,zf,zf,zf,zf,zf,zf,zf,zf,zf,zf,zf,zf,zf,zf,zf,zf,zf,zf,zf,zf,zf,zf,zf,zf,zf,zf,zf,zf,zf,zf,zf,zf,zf,zf,zf,zf,zf,zf,zf,zf,zf,zf,zf,zf,zf,zf,zf,zf,zf,zf,zf,zf,zf,zf,zf,zf,zf,zf,zf,zf,zf,zf,zf,zf,zf,zf,zf,zf,zf,zf,zf,zf,zf,zf,zf,zf,zf,zf,zf,zf,zf,zf,zf,zf,zf,zf,zf,zf,zf,zf,zf,zf,zf,zf,zf,zf,zf,zf,zf,zf,zf,zf,zf,zf,zf,zf,zf,zf,zf,zf,zf,zf,zf,aJ,zf,zf,zf,aQ,zf,zf,zf,zf,zf,zf,zf,zf,zf,zf,zf,zf,zf,zf,zf,zf,zf,zf,zf,zf,zf,zf,zf,zf,zf,zf,zf,zf,zf,zf,zf,zf,zf,zf,zf,zf,zf,zf,zf,bM,aM,zf,zf,zf,bw,zf,f_law_bent,zf,zf,zf,aV,aD,au,f_law_tree,aB,aW,af]
end A08

set_option compiler.extract_closed false
namespace P08
noncomputable section
open M A08
open PySem (Str)
local macro_rules
 | `(tactic| simp_all only [$ls,*])=>`(tactic| simp only [sR,ua,uC,vp,sC,rF,rX,pR,pN,n9,oi,nS,nM,qu,qM,qI,nI,oA,pL,oG,qH,oF,qt,oh,oj,qj,qp,nV,pE,oO,qo,ll,ng,pQ,oN,ox,pG,il,kL,kOp,jW,kOr,jP,kC3,kC2,kC1,kBack,kCall,cZ,b0,gb,fW,cG,gR,kf,iO,aU,kX,kT,kT2,kIf,om,ue,uj,qU,u6,mD,kNx,kRt,iS,ql,kq,okW,then',rg,dH,aX,aj,ios,putAll,tf,zD,va,uA,s8,oK,qP,oB,uQ,r9,uz,uY,um,ve,sL,xa,xb,xi,wJ,xV,vY,qk,nY,qN,oW,vU,vR,k8,kz,mr,kA,sG,ou,qB,nA,lN,xR,yr,yG,wQ,ko,lX,lV,rJ,uR,vg,vF,uy,rS,uW,rH,pM,pk,oP,vj,mI,lT,nB,xO,ky,mK,ro,wd,vw,tp,tF,vf,tw,u7,zK,zF,yZ,zo,xy,wg,sE,sQ,sX,yA,xh,ur,yc,pT,vC,yB,nR,qv,xm,rZ,rR,se,uh,mQ,lb,lZ,x9,kO,m8,qK,nL,qO,qC,tJ,vI,ui,lG,cH,j2,j5,jX,sY,t6,uM,vJ,uN,ti,u1,tQ,x8,la,kQ,rL,tI,at0,at1,at2,at3,at4,List.cons_append,a1n,a0L,a0x,a05,a0O,List.replicate_zero,reduceIte,if_true,if_false,String.reduceBEq,Bool.not_true,Bool.not_false,Bool.false_eq_true,Bool.and_self,Bool.true_and,Bool.and_true,qG,kIo,sj,rY,jo,mf,jI,jq,jD,kH,jU,my,jJ,ke,gA,gX,hE,jm,g8,iu,jF,jK,jn,j8,okS,vn,zt,vG,ug,tP,uT,oM,pK,kC,oR,wV,uL,wm,t7,vW,wx,uv,t8,vO,v3,ze,xC,xZ,wz,xN,yw,xP,zh,xk,xt,wF,wH,yd,wq,yH,xH,yU,zG,zN,tq,pC,vi,$ls,*])
noncomputable abbrev C (n:Nat):Call:=callR prog 1000000 1000001 n
theorem gI (n:Nat)(ws:List W):C (n+1) 2 ws=runF (C n) bp ws:=rfl
theorem eQ (n:Nat)(ws:List W):C (n+1) 3 ws=runF (C n) bc ws:=rfl
theorem bE (n:Nat)(ws:List W):C (n+1) 171 ws=runF (C n) aJ ws:=rfl
theorem dR (n:Nat)(ws:List W):C (n+1) 175 ws=runF (C n) aQ ws:=rfl
theorem iB (n:Nat)(ws:List W):C (n+1) 215 ws=runF (C n) bM ws:=rfl
theorem cJ (n:Nat)(ws:List W):C (n+1) 216 ws=runF (C n) aM ws:=rfl
theorem gp (n:Nat)(ws:List W):C (n+1) 220 ws=runF (C n) bw ws:=rfl
theorem cY (n:Nat)(ws:List W):C (n+1) 222 ws=runF (C n) f_law_bent ws:=rfl
theorem ib (n:Nat)(ws:List W):C (n+1) 226 ws=runF (C n) aV ws:=rfl
theorem aP (n:Nat)(ws:List W):C (n+1) 227 ws=runF (C n) aD ws:=rfl
theorem a0 (n:Nat)(ws:List W):C (n+1) 228 ws=runF (C n) au ws:=rfl
theorem cW (n:Nat)(ws:List W):C (n+1) 229 ws=runF (C n) f_law_tree ws:=rfl
theorem dD (n:Nat)(ws:List W):C (n+1) 230 ws=runF (C n) aB ws:=rfl
theorem dC (n:Nat)(ws:List W):C (n+1) 231 ws=runF (C n) aW ws:=rfl
theorem aq (n:Nat)(ws:List W):C (n+1) 232 ws=runF (C n) af ws:=rfl
theorem qeq (a b:String):(q a==q b)=(a==b):=by
 by_cases h:a=b
 ·subst h; simp
 ·have h2:q a≠q b:=fun z=>h (by
   have:=congrArg (fun s:Str=>s.cps.toList) z
   rw [q,Str.ofString_eq_toList,Str.ofString_eq_toList] at this
   simp only at this
   have h3:a.toList=b.toList:=by
    have inj:∀ l1 l2:List Char,l1.map Char.toNat=l2.map Char.toNat->l1=l2:=by
     intro l1
     induction l1 with
     | nil=>intro l2 h; cases l2 with
      | nil=>rfl
      | cons=>cases h
     | cons c cs ih=>intro l2 h; cases l2 with
      | nil=>cases h
      | cons d ds =>
       rw [a0x,a0x] at h
       injection h with h1 h2
       rw [ih ds h2,Char.toNat_inj.mp h1]
    exact inj _ _ (by simpa using this)
   exact String.toList_inj.mp h3)
  rw [beq_eq_false_iff_ne.mpr h2,beq_eq_false_iff_ne.mpr h]
theorem eB {α:Type}{tg:List Nat}{f:Env->Res (Option W×Env)}{η:Env}{g:α->List W}(w:α->Option W):∀ (ts:List α) (acc:List W),(∀ x∈ts,∃ η1 η2,aT tg (g x) η=some η1/\f η1=.ok (w x,η2)/\aj tg η2=η) ->
  aG tg f (ts.map g) η acc=.ok (acc++ts.filterMap w,η)
 | [],acc,_=>by rw [a05,List.filterMap_nil,a0L]; rfl
 | x::ts,acc,h=>by
  obtain ⟨η1,η2,h1,h2,h3⟩:=h x a0o
  rw [a0x]
  show (ofO (aT tg (g x) η)).bind _=_
  rw [h1]
  show (f η1).bind _=_
  rw [h2]
  show aG tg f (ts.map g) (aj tg η2) (acc++(w x).toList)=_
  rw [h3,eB w ts _ fun y hy=>h y (a0n _ hy),a0R,a0N]
  cases w x<;>rfl
theorem cB {α:Type}{tg:List Nat}{f:Env->Fl}{g:α->List W}(I:List α->Env->Prop):∀ (ts pre:List α) (η:Env),I pre η->(∀ p x r η,pre++ts=p++x::r->I p η->∃ η1 η2,aT tg (g x) η=some η1/\f η1=.nx η2/\I (p++[x]) η2) ->
  ∃ η',dA tg f (ts.map g) η=.nx η'/\I (pre++ts) η'
 | [],pre,η,h,_=>⟨η,rfl,by rw [a0L]; exact h⟩
 | x::ts,pre,η,h,k=>by
  obtain ⟨η1,η2,h1,h2,h3⟩:=k pre x ts η rfl h
  obtain ⟨η',e,hi⟩:=cB I ts (pre++[x]) η2 h3 fun p y r η e=>k p y r η (by rw [<- e,a0R]; rfl)
  refine ⟨η',?_,by rw [a0R] at hi; exact hi⟩
  rw [a0x]
  show Fl.of _ (ofO (aT tg (g x) η)) _=_
  rw [h1]
  show Fl.turn (f η1) _=_
  rw [h2]
  exact e
theorem sH {α:Type}(a:α)(r:List α):cut (a::r) (some 1) none=r:=by
 have e:sIx (a::r).length 0 (some 1)=1:=by
  show (if (1:Int) < 0 then ((1:Int)+((a::r).length:Int)).toNat else min (1:Int).toNat (a::r).length)=1
  rw [if_neg (by decide),a0b]
  show min 1 (r.length+1)=1
  omega
 have e2:sIx (a::r).length (a::r).length none=(a::r).length:=rfl
 rw [cut,e,e2]
 exact a1b (by rw [a1i]; omega)
theorem o6 {α:Type}(a b:α)(r:List α):cut (a::b::r) (some 2) none=r:=by
 have e:sIx (a::b::r).length 0 (some 2)=2:=by
  show (if (2:Int) < 0 then ((2:Int)+((a::b::r).length:Int)).toNat else min (2:Int).toNat (a::b::r).length)=2
  rw [if_neg (by decide),a0b,a0b]
  show min 2 (r.length+1+1)=2
  omega
 have e2:sIx (a::b::r).length (a::b::r).length none=(a::b::r).length:=rfl
 rw [cut,e,e2]
 exact a1b (by rw [a1i]; omega)
theorem bu (h:Bool)(m n:Md)(ts:List T)(i:Int):oSem .sl1 h [(m,.tup ts),(n,.int i)]=some (.s,.tup (cut ts (some i) none)):=rfl
theorem cO (n:Nat)(s:Str)(m:Md):C (n+1) 175 [(m,.str s)]=.ok ((.d,.int (if keys_AHEAD.contains s then 2 else 1)),[]):=by
 rw [dR,x_run _ _ _ rfl]
 cases h:keys_AHEAD.contains s with
 | true=>simp_all only [aQ,h,a1h]
 | false=>simp_all only [aQ,h,a1h]
theorem br:∀ bs:List Bool,aK (bs.map T.bl)=some bs
 | []=>rfl
 | b::bs=>by show (aK (bs.map T.bl)).map (b::·)=_; rw [br bs]; rfl
theorem bA {α:Type}(f:α->Md)(g:α->T):∀ ts:List α,aX (ts.map fun x=>(f x,g x))=ts.map g
 | []=>rfl
 | x::ts=>by show g x::aX _=g x::ts.map g; rw [bA f g ts]
noncomputable def j9:Res (W×List W)->Option Bool
 | .ok ((.d,.bl b),[])=>some b
 | _=>none
theorem dj {r:Res (W×List W)}{b:Bool}(h:j9 r=some b):r=.ok ((.d,.bl b),[]):=by
 unfold j9 at h
 split at h
 ·cases h; rfl
 ·cases h
theorem aY (x:Str):(["str"].any fun c=>isOne c (T.str x))=true:=rfl
theorem bx (ts:List T):(["tuple"].any fun c=>isOne c (T.tup ts))=true:=rfl
theorem rl (i:Int):(["int"].any fun c=>isOne c (T.int i))=true:=rfl
theorem rE (i:Int):(["bool"].any fun c=>isOne c (T.int i))=false:=rfl
theorem qW (i:Bool):(["bool"].any fun c=>isOne c (T.bl i))=true:=rfl
noncomputable def le2 (c:Nat):Bool:=!decide ([c] < (q "a").cps.toList)&&!decide ((q "z").cps.toList < [c])
noncomputable def nmA (x:Str):Bool:=decide (1<=(x.cps.size:Int))&&decide ((x.cps.size:Int)<=8)&&!(keys_PARTS.contains x)&&!([T.str (q "truth"),.str (q "row")].any fun t=>eqT t (.str x))&&(x.cps.toList.map le2).all id
theorem fl2 (x a b:Str):(M.flatT (.str x)&&[T.str a,.str b].all M.flatT)=true:=rfl
theorem kY (n:Nat)(x:Str)(m:Md):C (n+1) 226 [(m,.str x)]=.ok ((.d,.bl (nmA x)),[]):=by
 rw [ib,x_run _ _ _ rfl]
 have c1:∀ w0,aG [1] (b0 (evE (C n) (.chain .leS .leS (.cst (.str (q "a"))) (.var 1) (.cst (.str (q "z")))))) (x.cps.toList.map fun c=>[((.d,.str ⟨#[c]⟩):W)]) [w0,none] []=.ok ([]++x.cps.toList.map (fun c=>((.d,.bl (le2 c)):W)),[w0,none]):=fun w0=>a4 _ _ [] fun c hc=>by
  cases h1:decide ([c] < (q "a").cps.toList) with
  | true =>
   have e:le2 c=false:=by unfold le2; rw [h1]; rfl
   rw [e]
   exact ⟨_,[w0,some (.d,.str ⟨#[c]⟩)],rfl,by simp_all only [h1],rfl⟩
  | false =>
   have e:le2 c=!decide ((q "z").cps.toList < [c]):=by unfold le2; rw [h1]; rfl
   rw [e]
   exact ⟨_,[w0,some (.d,.str ⟨#[c]⟩)],rfl,by simp_all only [h1],rfl⟩
 have t1:aX (x.cps.toList.map (fun c=>((.d,.bl (le2 c)):W)))=(x.cps.toList.map le2).map T.bl:=by rw [bA (fun _=>Md.d) (fun u=>T.bl (le2 u)),a1E]; rfl
 unfold nmA
 cases h1:decide (1<=(x.cps.size:Int)) with
 | false=>simp_all only [aV,h1,a0S,aY]
 | true =>
  cases h2:decide ((x.cps.size:Int)<=8) with
  | false=>simp_all only [aV,h1,h2,a0S,a1a,aY]
  | true =>
   cases h3:keys_PARTS.contains x with
   | true=>simp_all only [aV,h1,h2,h3,a0S,a1a,aY,a1h]
   | false =>
    cases h4:[T.str (q "truth"),.str (q "row")].any fun t=>eqT t (.str x) with
    | true=>simp_all only [aV,h1,h2,h3,h4,fl2,a0S,a1a,aY,a1h]
    | false=>simp_all only [aV,h1,h2,h3,h4,fl2,c1,t1,br,a0S,a1a,aY,a1h]
noncomputable def W34:List T:=[T.str (q "num"),T.str (q "yes"),T.str (q "no"),T.str (q "name"),T.str (q "none"),T.str (q "not"),T.str (q "first"),T.str (q "second"),T.str (q "one"),T.str (q "upto"),T.str (q "long"),T.str (q "sum"),T.str (q "sums"),T.str (q "most"),T.str (q "flat"),T.str (q "add"),T.str (q "sub"),T.str (q "mul"),T.str (q "div"),T.str (q "rest"),T.str (q "less"),T.str (q "same"),T.str (q "both"),T.str (q "pair"),T.str (q "pick"),T.str (q "join"),T.str (q "keep"),T.str (q "cut"),T.str (q "let"),T.str (q "if"),T.str (q "each"),T.str (q "times"),T.str (q "truth"),T.str (q "row")]
theorem eW:[T.str (q "num"),T.str (q "yes"),T.str (q "no"),T.str (q "name"),T.str (q "none"),T.str (q "not"),T.str (q "first"),T.str (q "second"),T.str (q "one"),T.str (q "upto"),T.str (q "long"),T.str (q "sum"),T.str (q "sums"),T.str (q "most"),T.str (q "flat"),T.str (q "add"),T.str (q "sub"),T.str (q "mul"),T.str (q "div"),T.str (q "rest"),T.str (q "less"),T.str (q "same"),T.str (q "both"),T.str (q "pair"),T.str (q "pick"),T.str (q "join"),T.str (q "keep"),T.str (q "cut"),T.str (q "let"),T.str (q "if"),T.str (q "each"),T.str (q "times"),T.str (q "truth"),T.str (q "row")]=W34:=rfl
noncomputable abbrev az:Str:=q "abcdefghijklmnopqrstuvwxyz"
noncomputable def occ (c:Nat):Bool:=(a0M az ⟨#[c]⟩ 0 az.length 1).isEmpty
noncomputable def nmB (x:Str):Bool:=!(W34.any fun t=>eqT t (.str x))&&!((x.cps.size:Int)==0)&&!(decide (8 < (x.cps.size:Int)))&&(((x.cps.toList.filterMap fun c=>if occ c then some ((.d,.str ⟨#[c]⟩):W) else none).length:Int)==0)
theorem flW (x:Str):(M.flatT (.str x)&&W34.all M.flatT)=true:=rfl
theorem f27:a6 27=true:=rfl
theorem f34:a6 34=true:=rfl
theorem jG (ws:List W):(aX ws).length=ws.length:=by
 induction ws with
 | nil=>rfl
 | cons w ws ih=>show (aX ws).length+1=_; rw [ih]; rfl
theorem cw (n:Nat)(x:Str)(m:Md):C (n+1) 230 [(m,.str x)]=.ok ((.d,.bl (nmB x)),[]):=by
 rw [dD,x_run _ _ _ rfl]
 have c1:∀ w0 w1,aG [2] (gb (evE (C n) (.op .ninS false [.var 2,.cst (.str az)])) (evE (C n) (.var 2))) (x.cps.toList.map fun c=>[((.d,.str ⟨#[c]⟩):W)]) [w0,w1,none] []=.ok ([]++x.cps.toList.filterMap (fun c=>if occ c then some ((.d,.str ⟨#[c]⟩):W) else none),[w0,w1,none]):=fun w0 w1=>eB _ _ [] fun c hc=>by
  cases h1:occ c with
  | true =>
   rw [if_pos rfl]
   unfold occ at h1
   exact ⟨_,[w0,w1,some (.d,.str ⟨#[c]⟩)],rfl,by simp_all only [h1],rfl⟩
  | false =>
   rw [if_neg a0e]
   unfold occ at h1
   exact ⟨_,[w0,w1,some (.d,.str ⟨#[c]⟩)],rfl,by simp_all only [h1],rfl⟩
 unfold nmB
 cases h1:W34.any fun t=>eqT t (.str x) with
 | true=>simp_all only [aB,a0b,a0y,a07,f27,f34,aY,eW,flW,h1,a0S]
 | false =>
  cases h2:(x.cps.size:Int)==0 with
  | true=>simp_all only [aB,a0b,a0y,a07,f27,f34,aY,eW,flW,h1,h2,a0S,a1a]
  | false =>
   cases h3:decide (8 < (x.cps.size:Int)) with
   | true=>simp_all only [aB,a0b,a0y,a07,f27,f34,aY,eW,flW,h1,h2,h3,a0S,a1a]
   | false=>simp_all only [aB,a0b,a0y,a07,f27,f34,aY,eW,flW,h1,h2,h3,c1,a0S,a1a,jG]
inductive KK:Nat->T->Prop
 | num {j:Nat}:KK (j+1) (.tup [.str (q "num")])
 | truth {j:Nat}:KK (j+1) (.tup [.str (q "truth")])
 | row {j:Nat} {t:T}:KK j t->KK (j+1) (.tup [.str (q "row"),t])
 | pair {j:Nat} {t u:T}:KK j t->KK j u->KK (j+1) (.tup [.str (q "pair"),t,u])
noncomputable abbrev k4:List T:=[.str (q "num"),.str (q "truth"),.str (q "row"),.str (q "pair")]
noncomputable abbrev kt4:List (Str×T):=[(q "num",.int 1),(q "truth",.int 1),(q "row",.int 2),(q "pair",.int 3)]
theorem in4 (s:Str):(k4.all M.isStr&&inXok (.str s))=true:=rfl
theorem u3 {α:Type}(f:α->Bool)(ps:List α)(h:∀ u∈ps,f u=true):(ps.map f).all id=true:=by
 rw [a0J]
 intro b hb
 obtain ⟨u,hu,rfl⟩:=a1B.mp hb
 exact h u hu
theorem dm (n:Nat)(e:Int)(he:(e==0)=false)(s:String)(k:Nat)(hk:keys_WITHIN.contains (q s)=true)(ht:tab_WITHIN.lookup (q s)=some (.int k))(h4:(k4.any fun t=>eqT t (.str (q s)))=true)(ht4:kt4.lookup (q s)=some (.int (k+1)))(ps:List T)(hl:ps.length=k)
  (hp:∀ u∈ps,∀ m m',C n 216 [(m,u),(m',.int (e-1))]=.ok ((.d,.bl true),[])/\C n 231 [(m,u),(m',.int (e-1))]=.ok ((.d,.bl true),[])) (m m':Md) :
  C (n+1) 216 [(m,.tup (.str (q s)::ps)),(m',.int e)]=.ok ((.d,.bl true),[])/\C (n+1) 231 [(m,.tup (.str (q s)::ps)),(m',.int e)]=.ok ((.d,.bl true),[]):=by
 have c1:∀ w0 m1,aG [2] (b0 (evE (C n) (.call 216 [.var 2,.op .sub false [.var 1,.cst (.int 1)]]))) (ps.map fun t=>[((.s,t):W)]) [w0,some (m1,.int e),none] []=.ok ([]++ps.map (fun u=>((.d,.bl true):W)),[w0,some (m1,.int e),none]):=fun w0 m1=>a4 _ _ [] fun u hu=>⟨_,[w0,some (m1,.int e),some (.s,u)],rfl,by
  have h:=fun m m'=>(hp u hu m m').1
  simp_all only [h],rfl⟩
 have c2:∀ w0 m1,aG [2] (b0 (evE (C n) (.call 231 [.var 2,.op .sub false [.var 1,.cst (.int 1)]]))) (ps.map fun t=>[((.s,t):W)]) [w0,some (m1,.int e),none] []=.ok ([]++ps.map (fun u=>((.d,.bl true):W)),[w0,some (m1,.int e),none]):=fun w0 m1=>a4 _ _ [] fun u hu=>⟨_,[w0,some (m1,.int e),some (.s,u)],rfl,by
  have h:=fun m m'=>(hp u hu m m').2
  simp_all only [h],rfl⟩
 have t1:aX (ps.map (fun u=>((.d,.bl true):W)))=(ps.map fun _=>true).map T.bl:=by rw [bA (fun _=>Md.d) (fun u=>T.bl true),a1E]; rfl
 have a1:(ps.map fun _=>true).all id=true:=u3 _ _ fun _ _=>rfl
 have g1:=sH (T.str (q s)) ps
 have l0:(((T.str (q s)::ps).length:Int)==0)=false:=by rw [a0b]; exact beq_eq_false_iff_ne.mpr (by omega)
 have l1:(!(((T.str (q s)::ps).length:Int)==1+(k:Int)))=false:=by rw [a0b,hl]; simp; omega
 have l2:(!(((T.str (q s)::ps).length:Int)==(k:Int)+1))=false:=by rw [a0b,hl]; simp
 have ef:(keys_WITHIN.contains (q s) != true)=false:=by rw [hk]; rfl
 refine ⟨?_,?_⟩
 ·rw [cJ,x_run _ _ _ rfl]
  simp_all only [aM,aY,bx,he,l0,l1,ef,ht,bu,g1,c1,t1,a1,br]
 ·rw [dC,x_run _ _ _ rfl]
  simp_all only [aW,aY,bx,he,l0,l2,in4,h4,ht4,bu,g1,c2,t1,a1,br]
theorem k7:∀ (j:Nat) (t:T),KK j t->∀ (n:Nat) (e:Int),(j:Int)<=e->∀ m m',C (n+j) 216 [(m,t),(m',.int e)]=.ok ((.d,.bl true),[])/\C (n+j) 231 [(m,t),(m',.int e)]=.ok ((.d,.bl true),[])
 | 0,_,h,_,_,_,_,_=>nomatch h
 | j+1,_,h,n,e,he,m,m'=>by
  have h0:(e==0)=false:=beq_eq_false_iff_ne.mpr (by omega)
  have ih:=fun (u:T) (hu:KK j u) m m'=>k7 j u hu n (e-1) (by omega) m m'
  cases h with
  | num=>exact dm (n+j) e h0 "num" 0 (by decide +kernel) (by kernel_rfl) (by decide +kernel) (by kernel_rfl) [] rfl (fun u hu=>nomatch hu) m m'
  | truth=>exact dm (n+j) e h0 "truth" 0 (by decide +kernel) (by kernel_rfl) (by decide +kernel) (by kernel_rfl) [] rfl (fun u hu=>nomatch hu) m m'
  | row h1=>exact dm (n+j) e h0 "row" 1 (by decide +kernel) (by kernel_rfl) (by decide +kernel) (by kernel_rfl) _ rfl (fun u hu m m'=>by rw [a0G.mp hu]; exact ih _ h1 m m') m m'
  | pair h1 h2=>exact dm (n+j) e h0 "pair" 2 (by decide +kernel) (by kernel_rfl) (by decide +kernel) (by kernel_rfl) _ rfl (fun u hu m m'=>by
    rcases a0E.mp hu with rfl | hu
    ·exact ih _ h1 m m'
    ·rw [a0G.mp hu]; exact ih _ h2 m m') m m'
theorem md2 (i:Int)(n:Int)(hn:0 < n):∃ j:Nat,(j:Int) < n/\i % n=(j:Int):=⟨(i % n).toNat,by have:=a1Z i (by omega:n≠0); have:=a18 i hn; omega,by have:=a1Z i (by omega:n≠0); omega⟩
theorem dk:∀ (k:Nat) (n:Nat) (c:Int),∃ md t,(∀ m m',C (n+k+1) 171 [(m,.int c),(m',.int (k:Int))]=.ok ((md,t),[]))/\KK (k+1) t
 | k,n,c=>by
  obtain ⟨j,hj,ej⟩:=md2 c 6 (by decide)
  obtain ⟨i,hi,ei⟩:=md2 c 2 (by decide)
  have leafc:∀ b:Bool,((((k:Int)==0)=true/\b=true)\/(((k:Int)==0)=false/\decide ((j:Int) < 2)=true/\b=false))->∃ md t,(∀ m m',C (n+k+1) 171 [(m,.int c),(m',.int (k:Int))]=.ok ((md,t),[]))/\KK (k+1) t:=fun b hb=>by
   have hi':i=0\/i=1:=by omega
   have p2:decide ((0:Int) < 2)=true:=rfl
   have p6:decide ((0:Int) < 6)=true:=rfl
   rcases hi' with rfl | rfl
   ·refine ⟨.s,.tup [.str (q "num")],fun m m'=>?_,.num⟩
    rw [bE,x_run _ _ _ rfl]
    have e1:atI [T.tup [.str (q "num")],.tup [.str (q "truth")]] ((0:Nat):Int)=some (.tup [.str (q "num")]):=rfl
    rcases hb with ⟨h1,_⟩ | ⟨h1,h2,_⟩
    ·simp_all only [aJ,p2,p6,ej,ei,h1,e1]
    ·simp_all only [aJ,p2,p6,ej,ei,h1,h2,e1]
   ·refine ⟨.s,.tup [.str (q "truth")],fun m m'=>?_,.truth⟩
    rw [bE,x_run _ _ _ rfl]
    have e1:atI [T.tup [.str (q "num")],.tup [.str (q "truth")]] ((1:Nat):Int)=some (.tup [.str (q "truth")]):=rfl
    rcases hb with ⟨h1,_⟩ | ⟨h1,h2,_⟩
    ·simp_all only [aJ,p2,p6,ej,ei,h1,e1]
    ·simp_all only [aJ,p2,p6,ej,ei,h1,h2,e1]
  cases k with
  | zero=>exact leafc true (.inl ⟨rfl,rfl⟩)
  | succ k =>
   have h0:(((k+1:Nat):Int)==0)=false:=beq_eq_false_iff_ne.mpr (by omega)
   by_cases hj2:(j:Int) < 2
   ·exact leafc false (.inr ⟨h0,decide_eq_true hj2,rfl⟩)
   ·have d2:decide ((j:Int) < 2)=false:=decide_eq_false hj2
    have p6:decide ((0:Int) < 6)=true:=rfl
    have p6':decide ((6:Int) < 1073741824)=true:=rfl
    have p216:decide ((216:Int) < 1073741824)=true:=rfl
    have p217:decide ((0:Int) < 216)=true:=rfl
    have ek:((k+1:Nat):Int)-1=(k:Int):=by omega
    by_cases hj3:j=2
    ·subst hj3
     obtain ⟨m1,t1,e1,k1⟩:=dk k n (c / 6)
     obtain ⟨m2,t2,e2,k2⟩:=dk k n (c / 216)
     have b2:(((2:Nat):Int)==2)=true:=rfl
     exact ⟨_,.tup [.str (q "pair"),t1,t2],fun m m'=>by rw [show n+(k+1)+1=(n+k+1)+1 by omega,bE,x_run _ _ _ rfl]; simp_all only [aJ,p6,p6',p216,p217,ej,h0,d2,b2,ek,e1,e2]; rfl,.pair k1 k2⟩
    ·obtain ⟨m1,t1,e1,k1⟩:=dk k n (c / 6)
     have b2:((j:Int)==2)=false:=beq_eq_false_iff_ne.mpr (by omega)
     exact ⟨_,.tup [.str (q "row"),t1],fun m m'=>by rw [show n+(k+1)+1=(n+k+1)+1 by omega,bE,x_run _ _ _ rfl]; simp_all only [aJ,p6,p6',ej,h0,d2,b2,ek,e1]; rfl,.row k1⟩
noncomputable abbrev LF:List String:=["num","name","none"]
noncomputable abbrev BF:List String:=["let","each","times"]
noncomputable abbrev NF:List String:=["yes","no","not","first","second","one","upto","long","sum","sums","most","flat","add","sub","mul","div","rest","less","same","both","pair","pick","join","keep","cut","if"]
noncomputable abbrev two:List T:=[.str (q "add"),.str (q "sub"),.str (q "mul"),.str (q "div"),.str (q "rest"),.str (q "less"),.str (q "same"),.str (q "both"),.str (q "pair"),.str (q "pick"),.str (q "join"),.str (q "keep"),.str (q "cut")]
noncomputable def ar (s:String):Nat:=if s∈["yes","no"] then 0 else if s="if" then 3 else if s∈["add","sub","mul","div","rest","less","same","both","pair","pick","join","keep","cut"] then 2 else 1
noncomputable def arB (s:String):Nat:=if s="times" then 3 else 2
noncomputable def iOf:Option T->Option Int
 | some (.int i)=>some i
 | _=>none
theorem cU {o:Option T}{i:Int}(h:iOf o=some i):o=some (.int i):=by
 unfold iOf at h
 split at h
 ·cases h; rfl
 ·cases h
noncomputable def sOf:Option T->Option Str
 | some (.str i)=>some i
 | _=>none
theorem fC {o:Option T}{i:Str}(h:sOf o=some i):o=some (.str i):=by
 unfold sOf at h
 split at h
 ·cases h; rfl
 ·cases h
noncomputable abbrev b3:List T:=[.str (q "let"),.str (q "each"),.str (q "times")]
noncomputable abbrev tr2:List T:=[.str (q "truth"),.str (q "row")]
noncomputable abbrev yn2:List T:=[.str (q "yes"),.str (q "no")]
noncomputable abbrev ea2:List T:=[.str (q ""),.str (q "adds")]
theorem fl3 (x a b c:Str):(M.flatT (.str x)&&[T.str a,.str b,.str c].all M.flatT)=true:=rfl
theorem rV (x:Str):(M.flatT (.str x)&&two.all M.flatT)=true:=rfl
theorem inP:∀ s∈NF,(keys_PARTS.contains (q s) != true)=false/\keys_AHEAD.contains (q s)=false/\iOf (tab_PARTS.lookup (q s))=some (ar s:Int):=by decide +kernel
theorem inL:∀ s∈NF,(q s==q "num")=false/\(q s==q "name")=false/\(q s==q "none")=false/\(b3.any fun t=>eqT t (.str (q s)))=false/\nmB (q s)=false/\(tr2.any fun t=>eqT t (.str (q s)))=false /\
  (q s).cps.toList.all (fun c=>decide (c < 128))=true/\(q s==⟨(q s).cps.map lowN⟩)=true/\(ea2.any fun t=>eqT t (.str (q s)))=false/\1+b2i (two.any fun t=>eqT t (.str (q s)))+2 * b2i (q s==q "if")-b2i (yn2.any fun t=>eqT t (.str (q s)))=(ar s:Int):=by decide +kernel
theorem m2:decide ((2:Int).natAbs < 18446744073709551616)=true:=rfl
theorem bU (x:T)(ps:List T):(((x::ps).length:Nat):Int)=(ps.length:Int)+1:=by rw [a0b]; omega
theorem lr (n:Nat)(s:String)(hs:s∈NF)(ps:List T) :
  (ps.length≠ar s->∀ m,C (n+2) 227 [(m,.tup (.str (q s)::ps))]=.ok ((.d,.bl false),[])/\C (n+2) 232 [(m,.tup (.str (q s)::ps))]=.ok ((.d,.bl false),[])) /\
  (ps.length=ar s->∀ β:T->Bool,(∀ u∈ps,∀ m,C (n+1) 227 [(m,u)]=.ok ((.d,.bl (β u)),[])/\C (n+1) 232 [(m,u)]=.ok ((.d,.bl (β u)),[]))->∀ m,C (n+2) 227 [(m,.tup (.str (q s)::ps))]=.ok ((.d,.bl ((ps.map β).all id)),[])/\C (n+2) 232 [(m,.tup (.str (q s)::ps))]=.ok ((.d,.bl ((ps.map β).all id)),[])):=by
 obtain ⟨p1,p2,p3⟩:=inP s hs
 obtain ⟨l1,l2,l3,l4,l5,l6,l7,l8,l9,l10⟩:=inL s hs
 have p3:=cU p3
 have ps1:=fun m=>cO n (q s) m
 rw [p2,if_neg a0e] at ps1
 have ln:=fun m=>cw n (q s) m
 rw [l5] at ln
 have c0:((((T.str (q s)::ps).length:Nat):Int)==0)=false:=by rw [bU]; exact beq_eq_false_iff_ne.mpr (by omega)
 have s12:((1:Int)==2)=false:=rfl
 refine ⟨fun hl m=>?_,fun hl β hβ m=>?_⟩
 ·have c1:((((T.str (q s)::ps).length:Nat):Int)==1+(ar s:Int))=false:=by rw [bU]; exact beq_eq_false_iff_ne.mpr (by omega)
  have c2:((((T.str (q s)::ps).length:Nat):Int)==(ar s:Int)+1)=false:=by rw [bU]; exact beq_eq_false_iff_ne.mpr (by omega)
  refine ⟨?_,?_⟩
  ·rw [aP,x_run _ _ _ rfl]
   simp_all only [aD,aY,bx,c0,c1,p1,p3,ps1]
  ·rw [aq,x_run _ _ _ rfl]
   simp_all only [af,aY,bx,c0,c2,l1,l2,l3,l4,l6,l7,l8,l9,l10,ln,fl2,fl3,rV,m2,a2e]
 ·have c1:((((T.str (q s)::ps).length:Nat):Int)==1+(ar s:Int))=true:=by rw [bU,hl]; simp; omega
  have c2:((((T.str (q s)::ps).length:Nat):Int)==(ar s:Int)+1)=true:=by rw [bU,hl]; simp
  have g1:=sH (T.str (q s)) ps
  have d1:∀ w0 w1,aG [2] (b0 (evE (C (n+1)) (.call 227 [.var 2]))) (ps.map fun t=>[((.s,t):W)]) [w0,w1,none] []=.ok ([]++ps.map (fun u=>((.d,.bl (β u)):W)),[w0,w1,none]):=fun w0 w1=>a4 _ _ [] fun u hu=>⟨_,[w0,w1,some (.s,u)],rfl,by
   have h:=fun m=>(hβ u hu m).1
   simp_all only [h],rfl⟩
  have d2:∀ w0 w1 w2 w3 w4,aG [5] (b0 (evE (C (n+1)) (.call 232 [.var 5]))) (ps.map fun t=>[((.s,t):W)]) [w0,w1,w2,w3,w4,none] []=.ok ([]++ps.map (fun u=>((.d,.bl (β u)):W)),[w0,w1,w2,w3,w4,none]):=fun w0 w1 w2 w3 w4=>a4 _ _ [] fun u hu=>⟨_,[w0,w1,w2,w3,w4,some (.s,u)],rfl,by
   have h:=fun m=>(hβ u hu m).2
   simp_all only [h],rfl⟩
  have t1:aX (ps.map (fun u=>((.d,.bl (β u)):W)))=(ps.map β).map T.bl:=by rw [bA (fun _=>Md.d) (fun u=>T.bl (β u)),a1E]; rfl
  refine ⟨?_,?_⟩
  ·rw [aP,x_run _ _ _ rfl]
   simp_all only [aD,aY,bx,c0,c1,p1,p3,ps1,s12,bu,g1,d1,t1,br]
  ·rw [aq,x_run _ _ _ rfl]
   simp_all only [af,aY,bx,c0,c2,l1,l2,l3,l4,l6,l7,l8,l9,l10,ln,fl2,fl3,rV,m2,a2e,bu,g1,d2,t1,br]
theorem zI:∀ s∈BF,(keys_PARTS.contains (q s) != true)=false/\keys_AHEAD.contains (q s)=true/\iOf (tab_PARTS.lookup (q s))=some (arB s:Int)/\sOf (tab_AHEAD.lookup (q s))=some (q "name"):=by decide +kernel
theorem y6:∀ s∈BF,(q s==q "num")=false/\(q s==q "name")=false/\(q s==q "none")=false/\(b3.any fun t=>eqT t (.str (q s)))=true/\4+b2i (q s==q "times")=(arB s:Int)+2:=by decide +kernel
theorem gS (n:Nat)(y:Str)(m m':Md):C (n+2) 228 [(m,.str (q "name")),(m',.str y)]=.ok ((.d,.bl (nmA y)),[]):=by
 have e:=fun m=>kY n y m
 have e1:(q "name"==q "number")=false:=by decide +kernel
 have e2:(q "name"==q "kind")=false:=by decide +kernel
 rw [a0,x_run _ _ _ rfl]
 simp_all only [au,e,e1,e2]
theorem lH (n:Nat)(s:String)(hs:s∈BF)(y:Str)(ps:List T) :
  (ps.length≠arB s->∀ m,C (n+3) 227 [(m,.tup (.str (q s)::.str y::ps))]=.ok ((.d,.bl false),[])/\C (n+3) 232 [(m,.tup (.str (q s)::.str y::ps))]=.ok ((.d,.bl false),[])) /\
  (ps.length=arB s->nmA y=true->nmB y=true->∀ β:T->Bool,(∀ u∈ps,∀ m,C (n+2) 227 [(m,u)]=.ok ((.d,.bl (β u)),[])/\C (n+2) 232 [(m,u)]=.ok ((.d,.bl (β u)),[]))->∀ m,C (n+3) 227 [(m,.tup (.str (q s)::.str y::ps))]=.ok ((.d,.bl ((ps.map β).all id)),[])/\C (n+3) 232 [(m,.tup (.str (q s)::.str y::ps))]=.ok ((.d,.bl ((ps.map β).all id)),[])):=by
 obtain ⟨p1,p2,p3,p4⟩:=zI s hs
 obtain ⟨l1,l2,l3,l4,l5⟩:=y6 s hs
 have p3:=cU p3
 have p4:=fC p4
 have ps1:=fun m=>cO (n+1) (q s) m
 rw [p2,if_pos rfl] at ps1
 have ln:=fun m=>cw (n+1) y m
 have ma:=fun m m'=>gS n y m m'
 have c0:((((T.str (q s)::.str y::ps).length:Nat):Int)==0)=false:=by rw [bU]; exact beq_eq_false_iff_ne.mpr (by omega)
 have s22:((2:Int)==2)=true:=rfl
 refine ⟨fun hl m=>?_,fun hl ha hb β hβ m=>?_⟩
 ·have c1:((((T.str (q s)::.str y::ps).length:Nat):Int)==2+(arB s:Int))=false:=by rw [bU,bU]; exact beq_eq_false_iff_ne.mpr (by omega)
  have c2:((((T.str (q s)::.str y::ps).length:Nat):Int)==(arB s:Int)+2)=false:=by rw [bU,bU]; exact beq_eq_false_iff_ne.mpr (by omega)
  refine ⟨?_,?_⟩
  ·rw [aP,x_run _ _ _ rfl]
   simp_all only [aD,aY,bx,c0,c1,p1,p3,ps1]
  ·rw [aq,x_run _ _ _ rfl]
   simp_all only [af,aY,bx,c0,c2,l1,l2,l3,l4,l5,fl2,fl3]
 ·have c1:((((T.str (q s)::.str y::ps).length:Nat):Int)==2+(arB s:Int))=true:=by rw [bU,bU,hl]; simp; omega
  have c2:((((T.str (q s)::.str y::ps).length:Nat):Int)==(arB s:Int)+2)=true:=by rw [bU,bU,hl]; simp; omega
  rw [ha] at ma
  rw [hb] at ln
  have g1:=o6 (T.str (q s)) (.str y) ps
  have d1:∀ w0 w1,aG [2] (b0 (evE (C (n+2)) (.call 227 [.var 2]))) (ps.map fun t=>[((.s,t):W)]) [w0,w1,none] []=.ok ([]++ps.map (fun u=>((.d,.bl (β u)):W)),[w0,w1,none]):=fun w0 w1=>a4 _ _ [] fun u hu=>⟨_,[w0,w1,some (.s,u)],rfl,by
   have h:=fun m=>(hβ u hu m).1
   simp_all only [h],rfl⟩
  have d2:∀ w0 w1 w2 w3 w5,aG [4] (b0 (evE (C (n+2)) (.call 232 [.var 4]))) (ps.map fun t=>[((.s,t):W)]) [w0,w1,w2,w3,none,w5] []=.ok ([]++ps.map (fun u=>((.d,.bl (β u)):W)),[w0,w1,w2,w3,none,w5]):=fun w0 w1 w2 w3 w5=>a4 _ _ [] fun u hu=>⟨_,[w0,w1,w2,w3,some (.s,u),w5],rfl,by
   have h:=fun m=>(hβ u hu m).2
   simp_all only [h],rfl⟩
  have t1:aX (ps.map (fun u=>((.d,.bl (β u)):W)))=(ps.map β).map T.bl:=by rw [bA (fun _=>Md.d) (fun u=>T.bl (β u)),a1E]; rfl
  refine ⟨?_,?_⟩
  ·rw [aP,x_run _ _ _ rfl]
   simp_all only [aD,aY,bx,c0,c1,p1,p3,p4,ma,ps1,s22,bu,g1,d1,t1,br]
  ·rw [aq,x_run _ _ _ rfl]
   simp_all only [af,aY,bx,c0,c2,l1,l2,l3,l4,l5,ln,fl2,fl3,bu,g1,d2,t1,br]
theorem qe:∀ s∈LF,(keys_PARTS.contains (q s) != true)=false/\keys_AHEAD.contains (q s)=true/\iOf (tab_PARTS.lookup (q s))=some 0:=by decide +kernel
theorem eL (n:Nat)(s:String)(hs:s∈LF)(ps:List T)(hl:ps.length≠1):∀ m,C (n+3) 227 [(m,.tup (.str (q s)::ps))]=.ok ((.d,.bl false),[])/\C (n+3) 232 [(m,.tup (.str (q s)::ps))]=.ok ((.d,.bl false),[]):=fun m=>by
 obtain ⟨p1,p2,p3⟩:=qe s hs
 have p3:=cU p3
 have ps1:=fun m=>cO (n+1) (q s) m
 rw [p2,if_pos rfl] at ps1
 have c0:((((T.str (q s)::ps).length:Nat):Int)==0)=false:=by rw [bU]; exact beq_eq_false_iff_ne.mpr (by omega)
 have c1:((((T.str (q s)::ps).length:Nat):Int)==2+0)=false:=by rw [bU]; exact beq_eq_false_iff_ne.mpr (by omega)
 have c2:((((T.str (q s)::ps).length:Nat):Int)==2)=false:=by rw [bU]; exact beq_eq_false_iff_ne.mpr (by omega)
 refine ⟨?_,?_⟩
 ·rw [aP,x_run _ _ _ rfl]
  simp_all only [aD,aY,bx,c0,c1,p1,p3,ps1]
 ·rw [aq,x_run _ _ _ rfl]
  have e1:(q "name"==q "num")=false:=by decide +kernel
  have e2:(q "none"==q "num")=false:=by decide +kernel
  have e3:(q "none"==q "name")=false:=by decide +kernel
  have e4:(q "num"==q "num")=true:=by decide +kernel
  have e5:(q "name"==q "name")=true:=by decide +kernel
  have e6:(q "none"==q "none")=true:=by decide +kernel
  simp only [LF,a0E,a2m,or_false] at hs
  rcases hs with rfl | rfl | rfl
  ·simp_all only [af,aY,bx,c0,c2,e4]
  ·simp_all only [af,aY,bx,c0,c2,e1,e5]
  ·simp_all only [af,aY,bx,c0,c2,e2,e3,e6]
theorem tj (a b:T):atI [a,b] 1=some b:=rfl
theorem oJ (n:Nat)(i:Int)(h0:0<=i)(h1:i<=1000000000000000000):∀ m,C (n+5) 227 [(m,.tup [.str (q "num"),.int i])]=.ok ((.d,.bl true),[])/\C (n+5) 232 [(m,.tup [.str (q "num"),.int i])]=.ok ((.d,.bl true),[]):=fun m=>by
 obtain ⟨p1,p2,p3⟩:=qe "num" (by decide)
 have p3:=cU p3
 have ps1:=fun m=>cO (n+3) (q "num") m
 rw [p2,if_pos rfl] at ps1
 have p4:tab_AHEAD.lookup (q "num")=some (.str (q "number")):=fC (by decide +kernel)
 have e4:(q "num"==q "num")=true:=by decide +kernel
 have e5:(q "number"==q "number")=true:=by decide +kernel
 have i1:decide (-1000000000000000000<=i)=true:=decide_eq_true (by omega)
 have i2:decide (i<=1000000000000000000)=true:=decide_eq_true h1
 have i3:decide (0<=i)=true:=decide_eq_true h0
 have w1:∀ m,C (n+2) 3 [(m,.int i)]=.ok ((.d,.bl true),[]):=fun m=>by
  rw [eQ,x_run _ _ _ rfl]
  simp_all only [bc,rl,rE,i1,i2]
 have w2:∀ m m',C (n+3) 2 [(m,.tup [.str (q "num")]),(m',.int i)]=.ok ((.d,.bl true),[]):=fun m m'=>by
  rw [gI,x_run _ _ _ rfl]
  simp_all only [bp,e4,w1]
 have w3:∀ m m',C (n+4) 228 [(m,.str (q "number")),(m',.int i)]=.ok ((.d,.bl true),[]):=fun m m'=>by
  rw [a0,x_run _ _ _ rfl]
  simp_all only [au,e5,w2,i3]
 have c0:((([T.str (q "num"),.int i].length:Nat):Int)==0)=false:=rfl
 have c1:((([T.str (q "num"),.int i].length:Nat):Int)==2+0)=true:=rfl
 have c2:((([T.str (q "num"),.int i].length:Nat):Int)==2)=true:=rfl
 have s22:((2:Int)==2)=true:=rfl
 have g1:=o6 (T.str (q "num")) (.int i) []
 have pw:(decide ((0:Int)<=18)&&decide ((18:Int)<=1000000)&&decide ((10:Int).natAbs < 18446744073709551616))=true:=rfl
 have pe:(10:Int) ^ (18:Int).toNat=1000000000000000000:=by decide +kernel
 refine ⟨?_,?_⟩
 ·rw [aP,x_run _ _ _ rfl]
  simp_all only [aD,aY,bx,c0,c1,p1,p3,p4,w3,ps1,s22,bu,g1,aG,br,aK,a2f]
 ·rw [aq,x_run _ _ _ rfl]
  simp_all only [af,aY,bx,rl,rE,c0,c2,e4,tj,i3,ji,pw,pe,i2]
theorem lq (n:Nat)(y:Str)(ha:nmA y=true)(hb:nmB y=true):∀ m,C (n+5) 227 [(m,.tup [.str (q "name"),.str y])]=.ok ((.d,.bl true),[])/\C (n+5) 232 [(m,.tup [.str (q "name"),.str y])]=.ok ((.d,.bl true),[]):=fun m=>by
 obtain ⟨p1,p2,p3⟩:=qe "name" (by decide)
 have p3:=cU p3
 have ps1:=fun m=>cO (n+3) (q "name") m
 rw [p2,if_pos rfl] at ps1
 have p4:tab_AHEAD.lookup (q "name")=some (.str (q "name")):=fC (by decide +kernel)
 have e1:(q "name"==q "num")=false:=by decide +kernel
 have e5:(q "name"==q "name")=true:=by decide +kernel
 have ln:=fun m=>cw (n+3) y m
 rw [hb] at ln
 have ma:=fun m m'=>gS (n+2) y m m'
 rw [ha] at ma
 have c0:((([T.str (q "name"),.str y].length:Nat):Int)==0)=false:=rfl
 have c1:((([T.str (q "name"),.str y].length:Nat):Int)==2+0)=true:=rfl
 have c2:((([T.str (q "name"),.str y].length:Nat):Int)==2)=true:=rfl
 have s22:((2:Int)==2)=true:=rfl
 have g1:=o6 (T.str (q "name")) (.str y) []
 refine ⟨?_,?_⟩
 ·rw [aP,x_run _ _ _ rfl]
  simp_all only [aD,aY,bx,c0,c1,p1,p3,p4,ma,ps1,s22,bu,g1,aG,br,aK,a2f]
 ·rw [aq,x_run _ _ _ rfl]
  simp_all only [af,aY,bx,c0,c2,e1,e5,tj,ln]
theorem nC (n:Nat)(k:T)(hk:KK 5 k):∀ m,C (n+9) 227 [(m,.tup [.str (q "none"),k])]=.ok ((.d,.bl true),[])/\C (n+9) 232 [(m,.tup [.str (q "none"),k])]=.ok ((.d,.bl true),[]):=fun m=>by
 obtain ⟨p1,p2,p3⟩:=qe "none" (by decide)
 have p3:=cU p3
 have ps1:=fun m=>cO (n+7) (q "none") m
 rw [p2,if_pos rfl] at ps1
 have p4:tab_AHEAD.lookup (q "none")=some (.str (q "kind")):=fC (by decide +kernel)
 have e1:(q "none"==q "num")=false:=by decide +kernel
 have e2:(q "none"==q "name")=false:=by decide +kernel
 have e3:(q "none"==q "none")=true:=by decide +kernel
 have e4:(q "kind"==q "number")=false:=by decide +kernel
 have e5:(q "kind"==q "kind")=true:=by decide +kernel
 have k1:=fun m m'=>(k7 5 k hk (n+1) 5 (by decide) m m').1
 have k2:=fun m m'=>(k7 5 k hk (n+3) 5 (by decide) m m').2
 have w2:∀ m,C (n+7) 215 [(m,k)]=.ok ((.d,.bl true),[]):=fun m=>by
  rw [iB,x_run _ _ _ rfl]
  simp_all only [bM,k1]
 have w3:∀ m m',C (n+8) 228 [(m,.str (q "kind")),(m',k)]=.ok ((.d,.bl true),[]):=fun m m'=>by
  rw [a0,x_run _ _ _ rfl]
  simp_all only [au,e4,e5,w2]
 have c0:((([T.str (q "none"),k].length:Nat):Int)==0)=false:=rfl
 have c1:((([T.str (q "none"),k].length:Nat):Int)==2+0)=true:=rfl
 have c2:((([T.str (q "none"),k].length:Nat):Int)==2)=true:=rfl
 have s22:((2:Int)==2)=true:=rfl
 have g1:=o6 (T.str (q "none")) k []
 refine ⟨?_,?_⟩
 ·rw [aP,x_run _ _ _ rfl]
  simp_all only [aD,aY,bx,c0,c1,p1,p3,p4,w3,ps1,s22,bu,g1,aG,br,aK,a2f]
 ·rw [aq,x_run _ _ _ rfl]
  simp_all only [af,aY,bx,c0,c2,e1,e2,e3,tj,k2]
noncomputable abbrev NL:List String:=["x","addx","rowe","numb","ab","z","abcdefgh","nots","truths","y"]
noncomputable abbrev NB:List String:=["x","rowy","addx","b","numbs"]
theorem nlA:∀ s∈NL,nmA (q s)=true/\nmB (q s)=true:=by decide +kernel
theorem nbA:∀ s∈NB,nmA (q s)=true/\nmB (q s)=true:=by decide +kernel
inductive WT:Nat->T->Prop
 | num {d:Nat} {i:Int}:0<=i->i<=1000000000000000000->WT (d+1) (.tup [.str (q "num"),.int i])
 | name {d:Nat} {s:String}:s∈NL->WT (d+1) (.tup [.str (q "name"),.str (q s)])
 | none {d:Nat} {k:T}:KK 5 k->WT (d+1) (.tup [.str (q "none"),k])
 | node {d:Nat} {s:String} {ps:List T}:s∈NF->ps.length=ar s->(∀ p∈ps,WT d p)->WT (d+1) (.tup (.str (q s)::ps))
 | bind {d:Nat} {s x:String} {ps:List T}:s∈BF->x∈NB->ps.length=arB s->(∀ p∈ps,WT d p)->WT (d+1) (.tup (.str (q s)::.str (q x)::ps))
noncomputable def Ag (d:Nat)(t:T)(b:Bool):Prop:=∀ n m,C (n+d+12) 227 [(m,t)]=.ok ((.d,.bl b),[])/\C (n+d+12) 232 [(m,t)]=.ok ((.d,.bl b),[])
theorem Ag.up {d d':Nat}{t:T}{b:Bool}(h:Ag d t b)(hd:d<=d'):Ag d' t b:=fun n m=>by
 have:=h (n+(d'-d)) m
 rw [show n+(d'-d)+d+12=n+d'+12 by omega] at this
 exact this
theorem jj {d:Nat}{s:String}{ps:List T}(hs:s∈NF)(hl:ps.length=ar s)(β:T->Bool)(h:∀ p∈ps,Ag d p (β p)):Ag (d+1) (.tup (.str (q s)::ps)) ((ps.map β).all id):=fun n m=>by
 have:=(lr (n+d+11) s hs ps).2 hl β (fun u hu m=>h u hu n m) m
 exact this
theorem jk {d:Nat}{s x:String}{ps:List T}(hs:s∈BF)(hx:x∈NB)(hl:ps.length=arB s)(β:T->Bool)(h:∀ p∈ps,Ag d p (β p)):Ag (d+1) (.tup (.str (q s)::.str (q x)::ps)) ((ps.map β).all id):=fun n m=>by
 have:=(lH (n+d+10) s hs (q x) ps).2 hl (nbA x hx).1 (nbA x hx).2 β (fun u hu m=>h u hu n m) m
 exact this
theorem gC:∀ {d:Nat} {t:T},WT d t->Ag d t true
 | 0,_,h=>nomatch h
 | d+1,_,h=>by
  cases h with
  | num h0 h1=>exact fun n m=>oJ (n+d+8) _ h0 h1 m
  | name hs=>exact fun n m=>lq (n+d+8) _ (nlA _ hs).1 (nlA _ hs).2 m
  | none hk=>exact fun n m=>nC (n+d+4) _ hk m
  | node hs hl hp =>
   have:=jj (d:=d) hs hl (fun _=>true) fun p h=>gC (hp p h)
   rw [u3 _ _ fun _ _=>rfl] at this
   exact this
  | bind hs hx hl hp =>
   have:=jk (d:=d) hs hx hl (fun _=>true) fun p h=>gC (hp p h)
   rw [u3 _ _ fun _ _=>rfl] at this
   exact this
theorem WT.sg {d:Nat}{t:T}(h:WT d t):∃ s r,t=.tup (.str (q s)::r)/\(s∈LF\/s∈BF\/s∈NF):=by
 cases h with
 | num _ _=>exact ⟨_,_,rfl,.inl (by decide)⟩
 | name _=>exact ⟨_,_,rfl,.inl (by decide)⟩
 | none _=>exact ⟨_,_,rfl,.inl (by decide)⟩
 | node hs _ _=>exact ⟨_,_,rfl,.inr (.inr hs)⟩
 | bind hs _ _ _=>exact ⟨_,_,rfl,.inr (.inl hs)⟩
theorem mdj (i:Int)(n:Nat)(hn:0 < n):∃ j:Nat,j < n/\i % (n:Int)=(j:Int):=by
 obtain ⟨j,h1,h2⟩:=md2 i n (by omega)
 exact ⟨j,by omega,h2⟩
noncomputable abbrev ye:List T:=[.str (q "x"),.str (q "addx"),.str (q "rowe"),.str (q "numb"),.str (q "ab"),.str (q "z"),.str (q "abcdefgh"),.str (q "nots"),.str (q "truths"),.str (q "y")]
theorem oQ (n d:Nat)(c:Int):∃ md t,(∀ m,C (n+6) 220 [(m,.int c)]=.ok ((md,t),[]))/\WT (d+1) t:=by
 obtain ⟨j,hj,ej⟩:=mdj (c / 5) 10 (by decide)
 obtain ⟨i,hi,ei⟩:=mdj (c / 5) 5 (by decide)
 obtain ⟨k,hk,ek⟩:=mdj c 5 (by decide)
 obtain ⟨mk,tk,e1,kk⟩:=dk 4 n (c / 5)
 have a1:∃ s,s∈NL/\atI ye (j:Int)=some (.str (q s)):=by
  have hm:NL.getD j ""∈NL:=by
   rw [a0u,a0m (show j < NL.length from hj)]
   exact a1P _
  refine ⟨NL.getD j "",hm,atN rfl ?_⟩
  have:ye=NL.map fun s=>T.str (q s):=rfl
  rw [this,a0t,a0m (show j < NL.length from hj),a0u,a0m (show j < NL.length from hj)]
  rfl
 obtain ⟨s,hs,a1⟩:=a1
 have e1':∀ m m',C (n+5) 171 [(m,.int (c / 5)),(m',.int 4)]=.ok ((mk,tk),[]):=e1
 have a2:∃ v,0<=v/\v<=1000000000000000000/\atI [T.int 0,.int 1,.int 1000000000000000000,.int 5,.int (c % (1000000000000000000+1))] (i:Int)=some (.int v):=by
  have h5:i=0\/i=1\/i=2\/i=3\/i=4:=by omega
  rcases h5 with rfl | rfl | rfl | rfl | rfl
  ·exact ⟨0,by decide,by decide,rfl⟩
  ·exact ⟨1,by decide,by decide,rfl⟩
  ·exact ⟨1000000000000000000,by decide,by decide,rfl⟩
  ·exact ⟨5,by decide,by decide,rfl⟩
  ·exact ⟨c % (1000000000000000000+1),a1Z _ (by decide),by have:=a18 c (show (0:Int) < 1000000000000000000+1 by decide); omega,rfl⟩
 obtain ⟨v,v0,v1,a2⟩:=a2
 have p5:decide ((0:Int) < 5)=true:=rfl
 have p5':decide ((5:Int) < 1073741824)=true:=rfl
 have p10:decide ((0:Int) < 10)=true:=rfl
 have p18:decide ((0:Int) < 1000000000000000000+1)=true:=rfl
 have pw:(decide ((0:Int)<=18)&&decide ((18:Int)<=1000000)&&decide ((10:Int).natAbs < 18446744073709551616))=true:=rfl
 have pe:(10:Int) ^ (18:Int).toNat=1000000000000000000:=by decide +kernel
 have ej':c / 5 % 10=(j:Int):=ej
 have ei':c / 5 % 5=(i:Int):=ei
 have ek':c % 5=(k:Int):=ek
 have a3:∃ t,WT (d+1) t/\atI [T.tup [.str (q "num"),.int v],.tup [.str (q "yes")],.tup [.str (q "no")],.tup [.str (q "name"),.str (q s)],.tup [.str (q "none"),tk]] (k:Int)=some t:=by
  have h5:k=0\/k=1\/k=2\/k=3\/k=4:=by omega
  rcases h5 with rfl | rfl | rfl | rfl | rfl
  ·exact ⟨_,.num v0 v1,rfl⟩
  ·exact ⟨_,.node (s:="yes") (ps:=[]) (by decide) rfl (by intro p hp; cases hp),rfl⟩
  ·exact ⟨_,.node (s:="no") (ps:=[]) (by decide) rfl (by intro p hp; cases hp),rfl⟩
  ·exact ⟨_,.name hs,rfl⟩
  ·exact ⟨_,.none kk,rfl⟩
 obtain ⟨t,wt,a3⟩:=a3
 exact ⟨_,t,fun m=>by rw [gp,x_run _ _ _ rfl]; simp_all only [bw,p5,p5',p10,p18,ji,pw,pe,ej',ei',ek',a1,a2,a3,e1']; rfl,wt⟩
theorem zO (ns:List Int)(c:Int):fB (.d,.lst ((ns++[c]).map T.int)) []=some ((.d,.int c),(.d,.lst (ns.map T.int))):=by
 rw [List.map_append]
 simp [fB,Md.kid]
theorem pf (n:Nat)(ns:List Int)(w1 w3 w4 w5 w6 w7:Option W):∃ (c:Int) (ns':List Int),evS (C n) (.asg (.l []) 2 (.ifx (.op .gt false [.lenV 0,.cst (.int 0)]) (.pop 0 []) (.cst (.int 0)))) [some (.d,.lst (ns.map T.int)),w1,none,w3,w4,w5,w6,w7]=.nx [some (.d,.lst (ns'.map T.int)),w1,some (.d,.int c),w3,w4,w5,w6,w7]:=by
 rcases List.eq_nil_or_concat ns with rfl | ⟨ns0,c,rfl⟩
 ·have e:decide ((0:Int) < (([]:List Int).map T.int).length)=false:=rfl
  exact ⟨0,[],by simp_all only [a05,a0y,e]; rfl⟩
 ·have e:decide ((0:Int) < ((((ns0.concat c).map T.int).length:Nat):Int))=true:=decide_eq_true (by rw [a0f,a10,a0d,a0D]; omega)
  have e2:=zO ns0 c
  rw [<- a10] at e2
  refine ⟨c,ns0,?_⟩
  generalize hl:(ns0.concat c).map T.int=l at e e2
  simp_all only [e,e2]
theorem jh (C:Call):∀ (a b:List S) (η:Env),evSs C (a++b) η=(evSs C a η).seq (evSs C b)
 | [],b,η=>rfl
 | s::a,b,η=>by
  show (evS C s η).seq (evSs C (a++b))=((evS C s η).seq (evSs C a)).seq (evSs C b)
  cases evS C s η<;>first | rfl | exact jh C a b _
theorem go1 {C:Call}{a b:List S}{η η':Env}(h:evSs C a η=.nx η'):evSs C (a++b) η=evSs C b η':=by rw [jh,h]; rfl
noncomputable abbrev Bk (f:Fn)(i j:Nat):List S:=(f.body.drop i).take j
noncomputable abbrev g27:List String:=["not","first","second","one","upto","long","sum","sums","most","flat","add","sub","mul","div","rest","less","same","both","pair","pick","join","keep","cut","let","if","each","times"]
noncomputable def S27:List T:=[T.str (q "not"),T.str (q "first"),T.str (q "second"),T.str (q "one"),T.str (q "upto"),T.str (q "long"),T.str (q "sum"),T.str (q "sums"),T.str (q "most"),T.str (q "flat"),T.str (q "add"),T.str (q "sub"),T.str (q "mul"),T.str (q "div"),T.str (q "rest"),T.str (q "less"),T.str (q "same"),T.str (q "both"),T.str (q "pair"),T.str (q "pick"),T.str (q "join"),T.str (q "keep"),T.str (q "cut"),T.str (q "let"),T.str (q "if"),T.str (q "each"),T.str (q "times")]
theorem eS:[T.str (q "not"),T.str (q "first"),T.str (q "second"),T.str (q "one"),T.str (q "upto"),T.str (q "long"),T.str (q "sum"),T.str (q "sums"),T.str (q "most"),T.str (q "flat"),T.str (q "add"),T.str (q "sub"),T.str (q "mul"),T.str (q "div"),T.str (q "rest"),T.str (q "less"),T.str (q "same"),T.str (q "both"),T.str (q "pair"),T.str (q "pick"),T.str (q "join"),T.str (q "keep"),T.str (q "cut"),T.str (q "let"),T.str (q "if"),T.str (q "each"),T.str (q "times")]=S27:=rfl
theorem y7:∀ j < 27,(g27.getD j ""∈NF/\(b3.any fun t=>eqT t (.str (q (g27.getD j ""))))=false/\1+b2i (decide ((9:Int) < (j:Int)))+b2i ([T.str (q "if"),.str (q "times")].any fun t=>eqT t (.str (q (g27.getD j ""))))=(ar (g27.getD j ""):Int)) \/
  (g27.getD j ""∈BF/\(b3.any fun t=>eqT t (.str (q (g27.getD j ""))))=true/\1+b2i (decide ((9:Int) < (j:Int)))+b2i ([T.str (q "if"),.str (q "times")].any fun t=>eqT t (.str (q (g27.getD j ""))))=(arB (g27.getD j ""):Int)):=by decide +kernel
theorem zk (j:Nat)(hj:j < 27):atI S27 (j:Int)=some (.str (q (g27.getD j ""))):=by
 refine atN rfl ?_
 have:S27=g27.map fun s=>T.str (q s):=rfl
 rw [this,a0t,a0m (show j < g27.length from hj),a0u,a0m (show j < g27.length from hj)]
 rfl
noncomputable abbrev nb5:List T:=[.str (q "x"),.str (q "rowy"),.str (q "addx"),.str (q "b"),.str (q "numbs")]
theorem at5 (j:Nat)(hj:j < 5):atI nb5 (j:Int)=some (.str (q (NB.getD j ""))):=by
 refine atN rfl ?_
 have:nb5=NB.map fun s=>T.str (q s):=rfl
 rw [this,a0t,a0m (show j < NB.length from hj),a0u,a0m (show j < NB.length from hj)]
 rfl
theorem kM (n:Nat)(w0 w1:Option W)(c:Int)(j:Nat)(s:String)(mn:Int)(b:Bool)(ej:c / 5 % 27=(j:Int))(a1:atI S27 (j:Int)=some (.str (q s)))(hb:(b3.any fun t=>eqT t (.str (q s)))=b)(hm:1+b2i (decide ((9:Int) < (j:Int)))+b2i ([T.str (q "if"),.str (q "times")].any fun t=>eqT t (.str (q s)))=mn):evSs (C n) (Bk f_law_tree 2 5) [w0,w1,some (.d,.int c),none,none,none,none,none]=.nx [w0,w1,some (.d,.int c),some (.o .s,.lst S27),some (.d,.int j),some (.d,.int mn),some (.d,.tup [.str (q s)]),none]:=by
 have p5:decide ((0:Int) < 5)=true:=rfl
 have p5':decide ((5:Int) < 1073741824)=true:=rfl
 have p27:decide ((0:Int) < 27)=true:=rfl
 simp_all only [Bk,f_law_tree,a0l,a0q,a0z,a0U,a0b,a0y,a07,f27,eS,p5,p5',p27,ej,a1,fl2,fl3,hb,hm]
theorem oq (n:Nat)(w0 w1 w5:Option W)(c:Int)(j:Nat)(s:String)(a1:atI S27 (j:Int)=some (.str (q s))):(b3.any fun t=>eqT t (.str (q s)))=true->∃ x∈NB,∃ m3 m6,evSs (C n) (Bk f_law_tree 7 1) [w0,w1,some (.d,.int c),some (.o .s,.lst S27),some (.d,.int j),w5,some (.d,.tup [.str (q s)]),none]=.nx [w0,w1,some (.d,.int c),some (m3,.lst S27),some (.d,.int j),w5,some (m6,.tup [.str (q s),.str (q x)]),none]:=fun hb=>by
 obtain ⟨k,hk,ek⟩:=mdj (c / 135) 5 (by decide)
 have ek':c / 135 % 5=(k:Int):=ek
 have a2:=at5 k hk
 have hm:NB.getD k ""∈NB:=by
  rw [a0u,a0m (show k < NB.length from hk)]
  exact a1P _
 have p5:decide ((0:Int) < 5)=true:=rfl
 have p135:decide ((0:Int) < 135)=true:=rfl
 have p135':decide ((135:Int) < 1073741824)=true:=rfl
 have f2:(a6 (1+1)&&!([T.str (q s)]:List T).isEmpty)=true:=rfl
 generalize NB.getD k ""=x at a2 hm
 exact ⟨x,hm,_,_,by simp_all only [Bk,f_law_tree,a0l,a0q,a0z,a0U,a0b,a0y,a2d,p5,p135,p135',ek',a1,a2,fl3,hb,f2]; rfl⟩
theorem vt (n:Nat)(w0 w1 w2 w5 w6:Option W)(j:Nat)(s:String)(a1:atI S27 (j:Int)=some (.str (q s))):(b3.any fun t=>eqT t (.str (q s)))=false->∃ m3,evSs (C n) (Bk f_law_tree 7 1) [w0,w1,w2,some (.o .s,.lst S27),some (.d,.int j),w5,w6,none]=.nx [w0,w1,w2,some (m3,.lst S27),some (.d,.int j),w5,w6,none]:=fun hb=>by
 exact ⟨_,by simp_all only [Bk,f_law_tree,a0l,a0q,a0z,a0U,a1,fl3,hb]; rfl⟩
noncomputable abbrev TB:List S:=[.asg (.l [6]) 6 (.op .add false [.var 6,.tup [.call 229 [.io 0,.op .sub false [.var 1,.cst (.int 1)]]]])]
noncomputable def Dr (L l:Nat):Prop:=∀ ns:List Int,∃ md t ns',C L 229 [(.d,.lst (ns.map T.int)),(.d,.int (l:Int))]=.ok ((md,t),[(.d,.lst ((ns':List Int).map T.int))])/\WT (l+1) t
theorem iJ (L l:Nat)(ih:Dr L l)(w2 w3 w4 w5:Option W)(p0:List T)(h0:p0.isEmpty=false)(hp:p0.length<=2)(mn:Nat)(hn:mn<=3)(ns:List Int)(m6:Md):∃ ns' m7 rs o7,rs.length=mn/\(∀ p∈rs,WT (l+1) p) /\
  dA [7] (evSs (C L) TB) ((a0Y mn).map fun (k:Nat)=>[((.d,.int k):W)]) [some (.d,.lst (ns.map T.int)),some (.d,.int ((l+1:Nat):Int)),w2,w3,w4,w5,some (m6,.tup p0),none]=.nx [some (.d,.lst ((ns':List Int).map T.int)),some (.d,.int ((l+1:Nat):Int)),w2,w3,w4,w5,some (m7,.tup (p0++rs)),o7]:=by
 obtain ⟨η',lp,ns',m7,rs,o7,hl,hw,rfl⟩:=cB (tg:=[7]) (f:=evSs (C L) TB) (g:=fun (k:Nat)=>[((.d,.int k):W)])
  (fun pre η=>∃ (ns':List Int) (m7:Md) (rs:List T) (o7:Option W),rs.length=pre.length/\(∀ p∈rs,WT (l+1) p)/\η=[some (.d,.lst (ns'.map T.int)),some (.d,.int ((l+1:Nat):Int)),w2,w3,w4,w5,some (m7,.tup (p0++rs)),o7])
  (a0Y mn) [] [some (.d,.lst (ns.map T.int)),some (.d,.int ((l+1:Nat):Int)),w2,w3,w4,w5,some (m6,.tup p0),none] ⟨ns,m6,[],none,rfl,(by intro p hp; cases hp),by rw [a0L]⟩ (fun p k r η hp' ⟨ns',m7,rs,o7,hl,hw,he⟩=>by
   subst he
   have hpl:=congrArg a2p hp'
   simp only [a1n,a1K,a0d,a0b] at hpl
   obtain ⟨md,t,ns2,e2,wt⟩:=ih ns'
   have es:((l+1:Nat):Int)-1=(l:Int):=by omega
   have f3:(a6 ((p0++rs).length+[t].length)&&!(p0++rs).isEmpty)=true:=by
    rw [a0c]
    refine ⟨decide_eq_true ?_,?_⟩
    ·rw [a0d,a0D]
     show _<=16777215
     omega
    ·cases p0 with
     | nil=>cases h0
     | cons=>rfl
   refine ⟨_,_,rfl,?_,ns2,.s,rs++[t],some (.d,.int (k:Int)),by rw [a0d,a0d,hl]; rfl,?_,rfl⟩
   ·have ea:p0++rs++[t]=p0++(rs++[t]):=a0R _ _ _
    simp_all only [es,e2,f3,ea]
   ·intro p hp
    rcases a0W.mp hp with hp | hp
    ·exact hw p hp
    ·rw [a0G.mp hp]; exact wt)
 rw [a1n,a1K] at hl
 exact ⟨ns',m7,rs,o7,hl,hw,lp⟩
theorem uX {mn:Nat}(h:mn<=3):(decide ((mn:Int).natAbs < 4611686018427387904)&&a6 mn)=true/\(mn:Int).toNat=mn:=by
 have e:(mn:Int).toNat=mn:=by omega
 refine ⟨?_,e⟩
 rw [a0c]
 exact ⟨decide_eq_true (by omega),decide_eq_true (by show _<=16777215; omega)⟩
theorem ar3 (s:String):ar s<=3:=by
 unfold ar
 repeat' split
 all_goals omega
theorem nU (s:String):arB s<=3:=by
 unfold arB
 split<;>omega
theorem iH (n:Nat)(w0 w1 w2 w3 w4 w6:Option W)(mn:Nat)(hn:mn<=3){ns':List Int}{w1' w2' w3' w4' w5' o7:Option W}{m7:Md}{ts:List T}(lp:dA [7] (evSs (C n) TB) ((a0Y mn).map fun (k:Nat)=>[((.d,.int k):W)]) [w0,w1,w2,w3,w4,some (.d,.int mn),w6,none]=.nx [some (.d,.lst (ns'.map T.int)),w1',w2',w3',w4',w5',some (m7,.tup ts),o7]):∃ md η,evSs (C n) (f_law_tree.body.drop 8) [w0,w1,w2,w3,w4,some (.d,.int mn),w6,none]=.rt (md,.tup ts) (some (.d,.lst (ns'.map T.int))::η):=by
 obtain ⟨r1,r2⟩:=uX hn
 exact ⟨_,_,by simp_all only [f_law_tree,a0l,a0q,r1,r2,lp]; rfl⟩
theorem xq (w:W)(w0:W)(η:Env):Fl.out [0] (.rt w (some w0::η))=.ok (w,[w0]):=rfl
theorem jc:∀ (l n:Nat),Dr (n+l+8) l
 | l,n,ns=>by
  obtain ⟨c,ns1,h1⟩:=pf (n+l+7) ns (some (.d,.int (l:Int))) none none none none none
  have p5:decide ((0:Int) < 5)=true:=rfl
  have p5':decide ((5:Int) < 1073741824)=true:=rfl
  have leafc:((((l:Int)==0)=true)\/((((l:Int)==0)=false)/\((c % 5==0)=true)))->∃ md t ns',C (n+l+8) 229 [(.d,.lst (ns.map T.int)),(.d,.int (l:Int))]=.ok ((md,t),[(.d,.lst ((ns':List Int).map T.int))])/\WT (l+1) t:=fun hb=>by
   obtain ⟨md,t,e,wt⟩:=oQ (n+l+1) l (c / 5)
   rw [cW,x_run _ _ _ rfl]
   rcases hb with h2 | ⟨h2,h3⟩
   ·exact ⟨_,t,ns1,by simp_all only [f_law_tree,h1,h2,p5,p5',e]; rfl,wt⟩
   ·exact ⟨_,t,ns1,by simp_all only [f_law_tree,h1,h2,h3,p5,p5',e]; rfl,wt⟩
  cases l with
  | zero=>exact leafc (.inl rfl)
  | succ l =>
   have h2:(((l+1:Nat):Int)==0)=false:=beq_eq_false_iff_ne.mpr (by omega)
   cases h3:c % 5==0 with
   | true=>exact leafc (.inr ⟨h2,h3⟩)
   | false =>
    have ih:Dr (n+l+8) l:=fun ns=>jc l n ns
    obtain ⟨j,hj,ej⟩:=mdj (c / 5) 27 (by decide)
    have a1:=zk j hj
    have hs:=y7 j hj
    generalize g27.getD j ""=s at a1 hs
    rw [show n+(l+1)+7=n+l+8 by omega] at h1
    have hA:evSs (C (n+l+8)) (Bk f_law_tree 0 2) [some (.d,.lst (ns.map T.int)),some (.d,.int ((l+1:Nat):Int)),none,none,none,none,none,none]=.nx [some (.d,.lst (ns1.map T.int)),some (.d,.int ((l+1:Nat):Int)),some (.d,.int c),none,none,none,none,none]:=by
     simp_all only [Bk,f_law_tree,a0l,a0q,a0z,a0U,h1,h2,h3,p5]
    rw [show n+(l+1)+8=(n+l+8)+1 by omega,cW,x_run _ _ _ rfl]
    rw [show f_law_tree.body=Bk f_law_tree 0 2++(Bk f_law_tree 2 5++(Bk f_law_tree 7 1++f_law_tree.body.drop 8)) from rfl]
    show ∃ md t ns',Fl.out [0] (evSs (C (n+l+8)) (Bk f_law_tree 0 2++(Bk f_law_tree 2 5++(Bk f_law_tree 7 1++f_law_tree.body.drop 8))) [some (.d,.lst (ns.map T.int)),some (.d,.int ((l+1:Nat):Int)),none,none,none,none,none,none])=.ok ((md,t),[(.d,.lst ((ns':List Int).map T.int))])/\WT (l+1+1) t
    rw [go1 hA]
    rcases hs with ⟨hs,hb,hm⟩ | ⟨hs,hb,hm⟩
    ·rw [go1 (kM (n+l+8) _ _ c j s (ar s:Int) false ej a1 hb hm)]
     obtain ⟨m3,hB⟩:=vt (n+l+8) (some (.d,.lst (ns1.map T.int))) (some (.d,.int ((l+1:Nat):Int))) (some (.d,.int c)) (some (.d,.int (ar s:Int))) (some (.d,.tup [.str (q s)])) j s a1 hb
     rw [go1 hB]
     obtain ⟨ns',m7,rs,o7,hl,hw,lp⟩:=iJ (n+l+8) l ih (some (.d,.int c)) (some (m3,.lst S27)) (some (.d,.int j)) (some (.d,.int (ar s:Int))) [.str (q s)] rfl (by show 1<=2; omega) (ar s) (ar3 s) ns1 .d
     obtain ⟨md,η,e⟩:=iH (n+l+8) _ _ _ _ _ _ (ar s) (ar3 s) lp
     rw [e,xq]
     exact ⟨md,_,ns',rfl,.node hs hl hw⟩
    ·rw [go1 (kM (n+l+8) _ _ c j s (arB s:Int) true ej a1 hb hm)]
     obtain ⟨x,hx,m3,m6,hB⟩:=oq (n+l+8) (some (.d,.lst (ns1.map T.int))) (some (.d,.int ((l+1:Nat):Int))) (some (.d,.int (arB s:Int))) c j s a1 hb
     rw [go1 hB]
     obtain ⟨ns',m7,rs,o7,hl,hw,lp⟩:=iJ (n+l+8) l ih (some (.d,.int c)) (some (m3,.lst S27)) (some (.d,.int j)) (some (.d,.int (arB s:Int))) [.str (q s),.str (q x)] rfl (by show 2<=2; omega) (arB s) (nU s) ns1 m6
     obtain ⟨md,η,e⟩:=iH (n+l+8) _ _ _ _ _ _ (arB s) (nU s) lp
     rw [e,xq]
     exact ⟨md,_,ns',rfl,.bind hs hx hl hw⟩
theorem zE {α:Type}(a b:List α):cut (a++b) none (some (a.length:Int))=a:=by
 have e:sIx (a++b).length (a++b).length (some (a.length:Int))=a.length:=by
  show (if (a.length:Int) < 0 then ((a.length:Int)+((a++b).length:Int)).toNat else min (a.length:Int).toNat (a++b).length)=_
  rw [if_neg (by omega),a0d]
  omega
 rw [cut,e]
 show ((a++b).drop 0).take (a.length-0)=a
 rw [a0q,a2J,List.take_left]
theorem yR {α:Type}(a b:List α):cut (a++b) (some (a.length:Int)) none=b:=by
 have e:sIx (a++b).length 0 (some (a.length:Int))=a.length:=by
  show (if (a.length:Int) < 0 then ((a.length:Int)+((a++b).length:Int)).toNat else min (a.length:Int).toNat (a++b).length)=_
  rw [if_neg (by omega),a0d]
  omega
 have e2:sIx (a++b).length (a++b).length none=(a++b).length:=rfl
 rw [cut,e,e2,List.drop_left]
 exact a1b (by rw [a0d]; omega)
theorem yL {α:Type}(x:α)(a:List α):cut (x::a) none (some (-1))=(x::a).dropLast:=by
 have e:sIx (x::a).length (x::a).length (some (-1))=a.length:=by
  show (if (-1:Int) < 0 then ((-1:Int)+((x::a).length:Int)).toNat else min (-1:Int).toNat (x::a).length)=_
  rw [if_pos (by decide),a0b]
  omega
 rw [cut,e]
 show ((x::a).drop 0).take (a.length-0)=_
 rw [a0q,a2J,List.dropLast_eq_take]
 rfl
theorem lO (h:Bool)(m n:Md)(ts:List T)(i:Int):oSem .sl2 h [(m,.tup ts),(n,.int i)]=some (.s,.tup (cut ts none (some i))):=rfl
noncomputable abbrev l3:List T:=[.str (q "num"),.str (q "name"),.str (q "none")]
theorem dQ {α:Type}:∀ (ps:List α) (i:Nat),i < ps.length->∃ a u b,ps=a++u::b/\a.length=i
 | [],_,h=>absurd h (Nat.not_lt_zero _)
 | x::ps,0,_=>⟨[],x,ps,rfl,rfl⟩
 | x::ps,i+1,h=>by
  obtain ⟨a,u,b,e,hl⟩:=dQ ps i (by rw [a0b] at h; omega)
  exact ⟨x::a,u,b,by rw [e]; rfl,by rw [a0b,hl]⟩
theorem iR (n:Nat)(s:String)(r pre a b:List T)(u bt:T)(mb:Md)(c:Int)(st:Nat)(hl3:(l3.any fun t=>eqT t (.str (q s)))=false)(hst:1+b2i (b3.any fun t=>eqT t (.str (q s)))=(st:Int))(er:T.str (q s)::r=pre++(a++u::b))(hpre:pre.length=st)(h1:1<=st)(hb:r.length<=1000)(hc:decide (0 < c % 3)=true)
  (hi:c / 3 % ((((T.str (q s)::r).length:Nat):Int)-st)=(a.length:Int)) (e:C n 222 [(.s,u),(.d,.int (c / 7))]=.ok ((mb,bt),[])):∃ md,C (n+1) 222 [(.s,.tup (.str (q s)::r)),(.d,.int c)]=.ok ((md,.tup (pre++(a++bt::b))),[]):=by
 have ln:r.length+1=pre.length+(a.length+(b.length+1)):=by
  have:=congrArg a2p er
  simpa only [a0d,a0b] using this
 have g0:decide ((st:Int) < (((T.str (q s)::r).length:Nat):Int))=true:=decide_eq_true (by rw [a0b]; omega)
 have g1:decide (0 < (((T.str (q s)::r).length:Nat):Int)-st)=true:=decide_eq_true (by rw [a0b]; omega)
 have k1:cut (T.str (q s)::r) none (some ((st:Int)+(a.length:Int)))=pre++a:=by
  rw [er,<- a0R,show (st:Int)+(a.length:Int)=((pre++a).length:Int) by rw [a0d]; omega,zE]
 have k2:cut (T.str (q s)::r) (some ((st:Int)+(a.length:Int)+1)) none=b:=by
  rw [er,show pre++(a++u::b)=(pre++a++[u])++b by simp,show (st:Int)+(a.length:Int)+1=((pre++a++[u]).length:Int) by rw [a0d,a0d]; simp; omega,yR]
 have k3:atI (T.str (q s)::r) ((st:Int)+(a.length:Int))=some u:=by
  refine atN (n:=st+a.length) (by omega) ?_
  rw [er,<- a0R,a0K (by rw [a0d]; omega),a0d,hpre,Nat.sub_self]
  rfl
 have f1:(a6 ((pre++a).length+[bt].length)&&!(pre++a).isEmpty)=true:=by
  rw [a0c]
  refine ⟨decide_eq_true (by rw [a0d,a0D]; show _<=16777215; omega),?_⟩
  cases pre with
  | nil=>rw [a0y] at hpre; omega
  | cons=>rfl
 have f2:(a6 ((pre++a++[bt]).length+b.length)&&!(pre++a++[bt]).isEmpty)=true:=by
  rw [a0c]
  refine ⟨decide_eq_true (by rw [a0d,a0d,a0D]; show _<=16777215; omega),?_⟩
  cases pre with
  | nil=>rw [a0y] at hpre; omega
  | cons=>rfl
 have ea:pre++a++[bt]++b=pre++(a++bt::b):=by simp
 have p3:decide ((0:Int) < 3)=true:=rfl
 have p3':decide ((3:Int) < 1073741824)=true:=rfl
 have p7:decide ((0:Int) < 7)=true:=rfl
 have p7':decide ((7:Int) < 1073741824)=true:=rfl
 rw [cY,x_run _ _ _ rfl]
 exact ⟨_,by simp_all only [f_law_bent,fl3,hl3,hst,g0,g1,hc,p3,p3',p7,p7',hi,bu,lO,k1,k2,k3,e,f1,f2,ea]; rfl⟩
theorem a8 {d:Nat}{t:T}{b:Bool}(h1:∀ n m,j9 (C (n+d+12) 227 [(m,t)])=some b)(h2:∀ n m,j9 (C (n+d+12) 232 [(m,t)])=some b):Ag d t b:=fun n m=>⟨dj (h1 n m),dj (h2 n m)⟩
theorem uw (d:Nat)(ts:List T):Ag d (.lst ts) false:=a8 (fun n m=>by kernel_rfl) (fun n m=>by kernel_rfl)
theorem sr (d:Nat)(x:Str):Ag d (.str x) false:=a8 (fun n m=>by kernel_rfl) (fun n m=>by kernel_rfl)
theorem tU (d:Nat):Ag d (.tup []) false:=a8 (fun n m=>by kernel_rfl) (fun n m=>by kernel_rfl)
theorem qV (d:Nat)(s:String)(r:List T)(hs:s="adds"\/s="Add"):Ag d (.tup (.str (q s)::r)) false:=fun n m=>by
 have c0:((((T.str (q s)::r).length:Nat):Int)==0)=false:=by rw [bU]; exact beq_eq_false_iff_ne.mpr (by omega)
 have p1:(keys_PARTS.contains (q s) != true)=true:=by rcases hs with rfl | rfl<;>decide +kernel
 have l1:(q s==q "num")=false:=by rcases hs with rfl | rfl<;>decide +kernel
 have l2:(q s==q "name")=false:=by rcases hs with rfl | rfl<;>decide +kernel
 have l3:(q s==q "none")=false:=by rcases hs with rfl | rfl<;>decide +kernel
 have l4:(b3.any fun t=>eqT t (.str (q s)))=false:=by rcases hs with rfl | rfl<;>decide +kernel
 have l6:(tr2.any fun t=>eqT t (.str (q s)))=false:=by rcases hs with rfl | rfl<;>decide +kernel
 have ln:=fun m=>cw (n+d+10) (q s) m
 refine ⟨?_,?_⟩
 ·rw [aP,x_run _ _ _ rfl]
  simp_all only [aD,aY,bx,c0,p1]
 ·rw [aq,x_run _ _ _ rfl]
  rcases hs with rfl | rfl
  ·have l5:nmB (q "adds")=true:=by decide +kernel
   rw [l5] at ln
   simp_all only [af,aY,bx,c0,l1,l2,l3,l4,ln,fl3]
  ·have l5:nmB (q "Add")=false:=by decide +kernel
   rw [l5] at ln
   have l7:(q "Add").cps.toList.all (fun c=>decide (c < 128))=true:=by decide +kernel
   have l8:(q "Add"==⟨(q "Add").cps.map lowN⟩)=false:=by decide +kernel
   simp_all only [af,aY,bx,c0,l1,l2,l3,l4,l6,l7,l8,ln,fl2,fl3,rV,m2,a2e]
theorem pF {d:Nat}{t:T}(h:WT d t):∃ s r r2,t=.tup (.str (q s)::r)/\r.length<=4/\Ag d (.tup (.str (q s)::(r++[.tup [.str (q "yes")]]))) false/\(T.str (q s)::r).dropLast=r2/\Ag d (.tup r2) false:=by
 cases h with
 | num h0 h1 =>
  rename_i d i
  exact ⟨"num",[.int i],[.str (q "num")],rfl,by show 1<=4; omega,fun n m=>(by have h:=eL (n+d+10) "num" (by decide) ([.int i]++[.tup [.str (q "yes")]]) (by show 2≠1; omega) m; exact h),rfl,fun n m=>(by have h:=eL (n+d+10) "num" (by decide) [] (by show 0≠1; omega) m; exact h)⟩
 | name hs =>
  rename_i d i
  exact ⟨"name",[.str (q i)],[.str (q "name")],rfl,by show 1<=4; omega,fun n m=>(by have h:=eL (n+d+10) "name" (by decide) ([.str (q i)]++[.tup [.str (q "yes")]]) (by show 2≠1; omega) m; exact h),rfl,fun n m=>(by have h:=eL (n+d+10) "name" (by decide) [] (by show 0≠1; omega) m; exact h)⟩
 | none hk =>
  rename_i d i
  exact ⟨"none",[i],[.str (q "none")],rfl,by show 1<=4; omega,fun n m=>(by have h:=eL (n+d+10) "none" (by decide) ([i]++[.tup [.str (q "yes")]]) (by show 2≠1; omega) m; exact h),rfl,fun n m=>(by have h:=eL (n+d+10) "none" (by decide) [] (by show 0≠1; omega) m; exact h)⟩
 | node hs hl hp =>
  rename_i d s ps
  have h1:Ag (d+1) (.tup (.str (q s)::(ps++[.tup [.str (q "yes")]]))) false:=fun n m=>(by have h:=(lr (n+d+11) s hs (ps++[.tup [.str (q "yes")]])).1 (by rw [a0d,hl,a0D]; omega) m; exact h)
  cases ps with
  | nil=>exact ⟨s,[],[],rfl,by show 0<=4; omega,h1,rfl,tU _⟩
  | cons p ps =>
   have h2:Ag (d+1) (.tup (.str (q s)::(p::ps).dropLast)) false:=fun n m=>(by have h:=(lr (n+d+11) s hs (p::ps).dropLast).1 (by rw [a1x,hl]; rw [a0b] at hl; omega) m; exact h)
   exact ⟨s,p::ps,.str (q s)::(p::ps).dropLast,rfl,by have:=ar3 s; omega,h1,rfl,h2⟩
 | bind hs hx hl hp =>
  rename_i d s x ps
  have h1:Ag (d+1) (.tup (.str (q s)::(.str (q x)::(ps++[.tup [.str (q "yes")]])))) false:=fun n m=>(by have h:=(lH (n+d+10) s hs (q x) (ps++[.tup [.str (q "yes")]])).1 (by rw [a0d,hl,a0D]; omega) m; exact h)
  have h2:2<=arB s:=by unfold arB; split<;>omega
  cases ps with
  | nil=>rw [a0y] at hl; omega
  | cons p ps =>
   have h2:Ag (d+1) (.tup (.str (q s)::.str (q x)::(p::ps).dropLast)) false:=fun n m=>(by have h:=(lH (n+d+10) s hs (q x) (p::ps).dropLast).1 (by rw [a1x,hl]; omega) m; exact h)
   exact ⟨s,.str (q x)::p::ps,.str (q s)::.str (q x)::(p::ps).dropLast,rfl,by have:=nU s; rw [a0b]; omega,h1,rfl,h2⟩
noncomputable abbrev mZ:T:=.tup [.str (q "yes")]
noncomputable abbrev noT:T:=.tup [.str (q "no")]
noncomputable abbrev j7 (t:T):T:=.tup [.str (q "row"),t]
noncomputable abbrev w12:List T:=[.non,.bl true,.int 7,.tup [],.tup [.str (q "name"),.str (q "add")],.tup [.str (q "num"),.int (-1)]]
noncomputable abbrev w18:List T:=[.tup [.str (q "num"),.bl true],.tup [.str (q "num"),.int (1000000000000000000+1)],.tup [.str (q "name"),.str (q "row")],.tup [.str (q "name"),.str (q "")],.tup [.str (q "name"),.str (q "abcdefghi")],.tup [.str (q "let"),.str (q "num"),mZ,noT]]
noncomputable abbrev w24:List T:=[.tup [.str (q "none"),.tup [.lst [.str (q "row")]]],.tup [.str (q "yes"),.int 1],.tup [.lst [.str (q "yes")]],.tup [.str (q "each"),.lst [.str (q "x")],mZ,noT],.tup [.str (q "not"),mZ,noT],.tup [.str (q "times"),.str (q "x"),mZ,noT]]
noncomputable abbrev w30:List T:=[.tup [.str (q "none"),j7 (.tup [.str (q "nums")])],.tup [.str (q "none"),j7 (j7 (j7 (j7 (j7 (.tup [.str (q "num")])))))],.tup [.str (q "none"),.lst [.str (q "num")]],.tup [.lst []],.tup [.non],.tup [.int 7,mZ]]
theorem six {P:T->Prop}{x0 x1 x2 x3 x4 x5:T}(h0:P x0)(h1:P x1)(h2:P x2)(h3:P x3)(h4:P x4)(h5:P x5)(w k:Int)(hw:k<=w)(hw':w < k+6):∃ t,atI [x0,x1,x2,x3,x4,x5] (w-k)=some t/\P t:=by
 have h:w-k=0\/w-k=1\/w-k=2\/w-k=3\/w-k=4\/w-k=5:=by omega
 rcases h with h | h | h | h | h | h<;>rw [h]
 ·exact ⟨x0,rfl,h0⟩
 ·exact ⟨x1,rfl,h1⟩
 ·exact ⟨x2,rfl,h2⟩
 ·exact ⟨x3,rfl,h3⟩
 ·exact ⟨x4,rfl,h4⟩
 ·exact ⟨x5,rfl,h5⟩
theorem c12 (d:Nat)(w:Int)(h:6<=w)(h':w < 12):∃ t,atI w12 (w-6)=some t/\∃ b,Ag d t b:=six (P:=fun t=>∃ b,Ag d t b)
 ⟨false,a8 (fun n m=>by kernel_rfl) (fun n m=>by kernel_rfl)⟩ ⟨false,a8 (fun n m=>by kernel_rfl) (fun n m=>by kernel_rfl)⟩ ⟨false,a8 (fun n m=>by kernel_rfl) (fun n m=>by kernel_rfl)⟩ ⟨false,a8 (fun n m=>by kernel_rfl) (fun n m=>by kernel_rfl)⟩ ⟨false,a8 (fun n m=>by kernel_rfl) (fun n m=>by kernel_rfl)⟩ ⟨false,a8 (fun n m=>by kernel_rfl) (fun n m=>by kernel_rfl)⟩ w 6 h h'
theorem c18 (d:Nat)(w:Int)(h:12<=w)(h':w < 18):∃ t,atI w18 (w-12)=some t/\∃ b,Ag d t b:=six (P:=fun t=>∃ b,Ag d t b)
 ⟨false,a8 (fun n m=>by kernel_rfl) (fun n m=>by kernel_rfl)⟩ ⟨false,a8 (fun n m=>by kernel_rfl) (fun n m=>by kernel_rfl)⟩ ⟨false,a8 (fun n m=>by kernel_rfl) (fun n m=>by kernel_rfl)⟩ ⟨false,a8 (fun n m=>by kernel_rfl) (fun n m=>by kernel_rfl)⟩ ⟨false,a8 (fun n m=>by kernel_rfl) (fun n m=>by kernel_rfl)⟩ ⟨false,a8 (fun n m=>by kernel_rfl) (fun n m=>by kernel_rfl)⟩ w 12 h h'
theorem c24 (d:Nat)(w:Int)(h:18<=w)(h':w < 24):∃ t,atI w24 (w-18)=some t/\∃ b,Ag d t b:=six (P:=fun t=>∃ b,Ag d t b)
 ⟨false,a8 (fun n m=>by kernel_rfl) (fun n m=>by kernel_rfl)⟩ ⟨false,a8 (fun n m=>by kernel_rfl) (fun n m=>by kernel_rfl)⟩ ⟨false,a8 (fun n m=>by kernel_rfl) (fun n m=>by kernel_rfl)⟩ ⟨false,a8 (fun n m=>by kernel_rfl) (fun n m=>by kernel_rfl)⟩ ⟨false,a8 (fun n m=>by kernel_rfl) (fun n m=>by kernel_rfl)⟩ ⟨false,a8 (fun n m=>by kernel_rfl) (fun n m=>by kernel_rfl)⟩ w 18 h h'
theorem c30 (d:Nat)(w:Int)(h:24<=w)(h':w < 30):∃ t,atI w30 (w-24)=some t/\∃ b,Ag d t b:=six (P:=fun t=>∃ b,Ag d t b)
 ⟨false,a8 (fun n m=>by kernel_rfl) (fun n m=>by kernel_rfl)⟩ ⟨false,a8 (fun n m=>by kernel_rfl) (fun n m=>by kernel_rfl)⟩ ⟨false,a8 (fun n m=>by kernel_rfl) (fun n m=>by kernel_rfl)⟩ ⟨false,a8 (fun n m=>by kernel_rfl) (fun n m=>by kernel_rfl)⟩ ⟨false,a8 (fun n m=>by kernel_rfl) (fun n m=>by kernel_rfl)⟩ ⟨false,a8 (fun n m=>by kernel_rfl) (fun n m=>by kernel_rfl)⟩ w 24 h h'
theorem iQ (n d:Nat)(t:T)(h:WT d t)(c:Int)(hg:∀ s r,t=.tup (.str (q s)::r)->((l3.any fun t=>eqT t (.str (q s)))=true\/((l3.any fun t=>eqT t (.str (q s)))=false/\(decide (1+b2i (b3.any fun t=>eqT t (.str (q s))) < (((T.str (q s)::r).length:Nat):Int))=false\/(decide (1+b2i (b3.any fun t=>eqT t (.str (q s))) < (((T.str (q s)::r).length:Nat):Int))=true/\decide (0 < c % 3)=false))))) :
  ∃ md bt b,C (n+1) 222 [(.s,t),(.d,.int c)]=.ok ((md,bt),[])/\Ag d bt b:=by
 obtain ⟨s,r,r2,rfl,hr,g1,e2,g2⟩:=pF h
 have hg:=hg s r rfl
 obtain ⟨w,hw,ew⟩:=mdj (c / 3) 30 (by decide)
 have ew':c / 3 % 30=(w:Int):=ew
 have p3:decide ((0:Int) < 3)=true:=rfl
 have p3':decide ((3:Int) < 1073741824)=true:=rfl
 have p30:decide ((0:Int) < 30)=true:=rfl
 have pw:(decide ((0:Int)<=18)&&decide ((18:Int)<=1000000)&&decide ((10:Int).natAbs < 18446744073709551616))=true:=rfl
 have pe:(10:Int) ^ (18:Int).toNat=1000000000000000000:=by decide +kernel
 have f3:a6 3=true:=rfl
 have f6:a6 (4+2)=true:=rfl
 have hA:∃ m0 m2,evSs (C n) (Bk f_law_bent 0 3) [some (.s,.tup (.str (q s)::r)),some (.d,.int c),none,none,none,none,none]=.nx [some (m0,.tup (.str (q s)::r)),some (.d,.int c),some (.d,.int m2),none,some (.d,.int w),none,none]:=by
  rcases hg with h1 | ⟨h1,h2 | ⟨h2,h3⟩⟩
  ·exact ⟨_,_,by simp_all only [Bk,f_law_bent,a0l,a0q,a0z,a0U,fl3,h1,p3,p3',p30,ew']; rfl⟩
  ·exact ⟨_,_,by simp_all only [Bk,f_law_bent,a0l,a0q,a0z,a0U,fl3,h1,h2,p3,p3',p30,ew']; rfl⟩
  ·exact ⟨_,_,by simp_all only [Bk,f_law_bent,a0l,a0q,a0z,a0U,fl3,h1,h2,h3,p3,p3',p30,ew']; rfl⟩
 obtain ⟨m0,m2,hA⟩:=hA
 rw [cY,x_run _ _ _ rfl,show f_law_bent.body=Bk f_law_bent 0 3++f_law_bent.body.drop 3 from rfl]
 show ∃ md bt b,Fl.out [] (evSs (C n) (Bk f_law_bent 0 3++f_law_bent.body.drop 3) [some (.s,.tup (.str (q s)::r)),some (.d,.int c),none,none,none,none,none])=.ok ((md,bt),[])/\Ag d bt b
 rw [go1 hA]
 by_cases h6:(w:Int) < 6
 ·have d6:decide ((w:Int) < 6)=true:=decide_eq_true h6
  have k1:=sH (T.str (q s)) r
  have k2:=yL (T.str (q s)) r
  rw [e2] at k2
  have fa:(a6 ((T.str (q s)::r).length+[T.tup [.str (q "yes")]].length)&&!(T.str (q s)::r).isEmpty)=true:=by
   rw [a0c]
   exact ⟨decide_eq_true (by rw [a0b,a0D]; show _<=16777215; omega),rfl⟩
  have fb:∀ x:T,(a6 ([x].length+r.length)&&!([x]:List T).isEmpty)=true:=fun x=>by
   rw [a0c]
   exact ⟨decide_eq_true (by rw [a0D]; show _<=16777215; omega),rfl⟩
  have n0:∃ b,Ag d (.lst (.str (q s)::r)) b:=⟨false,uw d (.str (q s)::r)⟩
  have n3:∃ b,Ag d (.tup (.str (q "adds")::r)) b:=⟨false,qV d "adds" r (.inl rfl)⟩
  have n4:∃ b,Ag d (.tup (.str (q "Add")::r)) b:=⟨false,qV d "Add" r (.inr rfl)⟩
  have n5:∃ b,Ag d (.str (q s)) b:=⟨false,sr d (q s)⟩
  have g1':∃ b,Ag d (.tup (.str (q s)::(r++[.tup [.str (q "yes")]]))) b:=⟨false,g1⟩
  have g2':∃ b,Ag d (.tup r2) b:=⟨false,g2⟩
  obtain ⟨t,ea,b,ag⟩:=six (P:=fun t=>∃ b,Ag d t b) n0 g1' g2' n3 n4 n5 w 0 (by omega) (by omega)
  rw [Int.sub_zero] at ea
  exact ⟨_,t,b,by simp_all only [f_law_bent,a0l,a0q,d6,bu,lO,k1,k2,fa,fb,ea]; rfl,ag⟩
 ·have d6:decide ((w:Int) < 6)=false:=decide_eq_false h6
  by_cases h12:(w:Int) < 12
  ·have d12:decide ((w:Int) < 12)=true:=decide_eq_true h12
   obtain ⟨t,ea,b,ag⟩:=c12 d w (by omega) h12
   exact ⟨_,t,b,by simp_all only [f_law_bent,a0l,a0q,d6,d12,ea]; rfl,ag⟩
  ·have d12:decide ((w:Int) < 12)=false:=decide_eq_false h12
   by_cases h18:(w:Int) < 18
   ·have d18:decide ((w:Int) < 18)=true:=decide_eq_true h18
    obtain ⟨t,ea,b,ag⟩:=c18 d w (by omega) h18
    exact ⟨_,t,b,by simp_all only [f_law_bent,a0l,a0q,d6,d12,d18,ji,pw,pe,ea]; rfl,ag⟩
   ·have d18:decide ((w:Int) < 18)=false:=decide_eq_false h18
    by_cases h24:23 < (w:Int)
    ·have d24:decide (23 < (w:Int))=true:=decide_eq_true h24
     obtain ⟨t,ea,b,ag⟩:=c30 d w (by omega) (by omega)
     exact ⟨_,t,b,by simp_all only [f_law_bent,a0l,a0q,a0b,a0y,a07,d6,d12,d18,d24,show a6 6=true from rfl,ea]; rfl,ag⟩
    ·have d24:decide (23 < (w:Int))=false:=decide_eq_false h24
     obtain ⟨t,ea,b,ag⟩:=c24 d w (by omega) (by omega)
     exact ⟨_,t,b,by simp_all only [f_law_bent,a0l,a0q,a0b,a0y,a07,d6,d12,d18,d24,show a6 6=true from rfl,ea]; rfl,ag⟩
theorem l3N:∀ s∈NF,(l3.any fun t=>eqT t (.str (q s)))=false/\(b3.any fun t=>eqT t (.str (q s)))=false:=by decide +kernel
theorem l3B:∀ s∈BF,(l3.any fun t=>eqT t (.str (q s)))=false/\(b3.any fun t=>eqT t (.str (q s)))=true:=by decide +kernel
theorem wR {a b:String}(h:q a=q b):a=b:=by
 have:=qeq a b
 rw [h] at this
 rw [beq_self_eq_true] at this
 exact eq_of_beq this.symm
theorem mi {a b:String}{r r':List T}(h:T.tup (.str (q a)::r)=T.tup (.str (q b)::r')):a=b/\r=r':=by
 injection h with h
 injection h with h1 h2
 injection h1 with h1
 exact ⟨wR h1,h2⟩
open Classical in
theorem xT {d:Nat}{a b:List T}{bt:T}{x:Bool}(ha:∀ p∈a,WT d p)(hb:∀ p∈b,WT d p)(hx:Ag d bt x):∃ β:T->Bool,∀ p∈a++bt::b,Ag d p (β p):=by
 refine ⟨fun p=>if Ag d p true then true else x,fun p hp=>?_⟩
 by_cases h:Ag d p true
 ·show Ag d p (if Ag d p true then true else x)
  rw [if_pos h]; exact h
 ·show Ag d p (if Ag d p true then true else x)
  rw [if_neg h]
  rcases a0W.mp hp with hp | hp
  ·exact absurd (gC (ha p hp)) h
  ·rcases a0E.mp hp with rfl | hp
   ·exact hx
   ·exact absurd (gC (hb p hp)) h
theorem eV:∀ (d n:Nat) (t:T),WT d t->∀ c:Int,∃ md bt b,C (n+d) 222 [(.s,t),(.d,.int c)]=.ok ((md,bt),[])/\Ag d bt b
 | 0,_,_,h,_=>nomatch h
 | d+1,n,t,h,c=>by
  have leafc:∀ s r,t=.tup (.str (q s)::r)->(l3.any fun t=>eqT t (.str (q s)))=true->∃ md bt b,C (n+(d+1)) 222 [(.s,t),(.d,.int c)]=.ok ((md,bt),[])/\Ag (d+1) bt b:=fun s r e hl=>by
   have:=iQ (n+d) (d+1) t h c fun s' r' e'=>.inl (by
    rw [e] at e'
    rw [<- (mi e').1]; exact hl)
   exact this
  have away:∀ s r,t=.tup (.str (q s)::r)->(l3.any fun t=>eqT t (.str (q s)))=false->(decide (1+b2i (b3.any fun t=>eqT t (.str (q s))) < (((T.str (q s)::r).length:Nat):Int))=false\/decide (0 < c % 3)=false)->∃ md bt b,C (n+(d+1)) 222 [(.s,t),(.d,.int c)]=.ok ((md,bt),[])/\Ag (d+1) bt b:=fun s r e hl hd=>by
   have:=iQ (n+d) (d+1) t h c fun s' r' e'=>.inr (by
    rw [e] at e'
    obtain ⟨e1,e2⟩:=mi e'
    subst e1 e2
    refine ⟨hl,?_⟩
    cases hq:decide (1+b2i (b3.any fun t=>eqT t (.str (q s))) < (((T.str (q s)::r).length:Nat):Int)) with
    | false=>exact .inl rfl
    | true=>exact .inr ⟨rfl,hd.elim (fun z=>by rw [hq] at z; cases z) id⟩)
   exact this
  cases h with
  | num h0 h1=>exact leafc "num" _ rfl (by decide +kernel)
  | name hs=>exact leafc "name" _ rfl (by decide +kernel)
  | none hk=>exact leafc "none" _ rfl (by decide +kernel)
  | node hs hl hp =>
   rename_i s ps
   obtain ⟨e1,e2⟩:=l3N s hs
   by_cases h3:0 < c % 3
   ·by_cases h4:ps.length=0
    ·refine away s ps rfl e1 (.inl ?_)
     rw [e2,a0b,h4]; rfl
    ·have hpos:0 < ps.length:=by omega
     obtain ⟨i,hi,ei⟩:=mdj (c / 3) ps.length hpos
     obtain ⟨a,u,b,e,ha⟩:=dQ ps i hi
     obtain ⟨mb,bt,x,eb,ag⟩:=eV d n u (hp u (by rw [e]; simp)) (c / 7)
     obtain ⟨md,eq⟩:=iR (n+d) s ps [.str (q s)] a b u bt mb c 1 e1 (by rw [e2]; rfl) (by rw [e]; rfl) rfl (a0k _) (by have:=ar3 s; omega) (decide_eq_true h3) (by rw [show ((((T.str (q s)::ps).length:Nat):Int)-((1:Nat):Int))=(ps.length:Int) by rw [a0b]; omega,ei,ha]) eb
     obtain ⟨β,hβ⟩:=xT (a:=a) (b:=b) (fun p h=>hp p (by rw [e]; simp [h])) (fun p h=>hp p (by rw [e]; simp [h])) ag
     have:=jj hs (ps:=a++bt::b) (by rw [<- hl,e]; simp) β hβ
     exact ⟨md,.tup (.str (q s)::(a++bt::b)),_,eq,this⟩
   ·exact away s ps rfl e1 (.inr (decide_eq_false h3))
  | bind hs hx hl hp =>
   rename_i s y ps
   obtain ⟨e1,e2⟩:=l3B s hs
   have h2:2<=arB s:=by unfold arB; split<;>omega
   by_cases h3:0 < c % 3
   ·have hpos:0 < ps.length:=by omega
    obtain ⟨i,hi,ei⟩:=mdj (c / 3) ps.length hpos
    obtain ⟨a,u,b,e,ha⟩:=dQ ps i hi
    obtain ⟨mb,bt,x,eb,ag⟩:=eV d n u (hp u (by rw [e]; simp)) (c / 7)
    obtain ⟨md,eq⟩:=iR (n+d) s (.str (q y)::ps) [.str (q s),.str (q y)] a b u bt mb c 2 e1 (by rw [e2]; rfl) (by rw [e]; rfl) rfl (by omega) (by have:=nU s; rw [a0b]; omega) (decide_eq_true h3) (by rw [show ((((T.str (q s)::.str (q y)::ps).length:Nat):Int)-((2:Nat):Int))=(ps.length:Int) by rw [a0b,a0b]; omega,ei,ha]) eb
    obtain ⟨β,hβ⟩:=xT (a:=a) (b:=b) (fun p h=>hp p (by rw [e]; simp [h])) (fun p h=>hp p (by rw [e]; simp [h])) ag
    have:=jk hs hx (ps:=a++bt::b) (by rw [<- hl,e]; simp) β hβ
    exact ⟨md,.tup (.str (q s)::.str (q y)::(a++bt::b)),_,eq,this⟩
   ·exact away s (.str (q y)::ps) rfl e1 (.inr (decide_eq_false h3))
noncomputable abbrev N19:List String:=["x","add","adds","row","rows","truth","truthy","abcdefgh","abcdefghi","","a b","A","a1","num","numb","none","name","namer","yes"]
noncomputable def L24:List T:=N19.map (fun s=>T.str (q s))++[.non,.int 5,.bl true,.tup [.str (q "x")],.lst [.str (q "x")]]
theorem n19:∀ s∈N19,nmB (q s)=nmA (q s):=by decide +kernel
noncomputable def gf (t:T):Prop:=∃ b,∀ m,C 39 226 [(m,t)]=.ok ((.d,.bl b),[])/\C 39 230 [(m,t)]=.ok ((.d,.bl b),[])
theorem k5 {t:T}(h1:∀ m,j9 (C 39 226 [(m,t)])=some false)(h2:∀ m,j9 (C 39 230 [(m,t)])=some false):gf t:=⟨false,fun m=>⟨dj (h1 m),dj (h2 m)⟩⟩
theorem yV (t:T)(h:t∈L24):gf t:=by
 rcases a0W.mp h with h | h
 ·obtain ⟨s,hs,rfl⟩:=a1B.mp h
  refine ⟨nmA (q s),fun m=>⟨kY 38 (q s) m,?_⟩⟩
  have:=cw 38 (q s) m
  rw [n19 s hs] at this
  exact this
 ·simp only [a0E,a2m,or_false] at h
  rcases h with rfl | rfl | rfl | rfl | rfl
  ·exact k5 (fun m=>by kernel_rfl) (fun m=>by kernel_rfl)
  ·exact k5 (fun m=>by kernel_rfl) (fun m=>by kernel_rfl)
  ·exact k5 (fun m=>by kernel_rfl) (fun m=>by kernel_rfl)
  ·exact k5 (fun m=>by kernel_rfl) (fun m=>by kernel_rfl)
  ·exact k5 (fun m=>by kernel_rfl) (fun m=>by kernel_rfl)
noncomputable def n14:List T:=[.str (q "x"),.str (q "add"),.str (q "adds"),.str (q "row"),.str (q "rows"),.str (q "truth"),.str (q "truthy"),.str (q "abcdefgh"),.str (q "abcdefghi"),.str (q ""),.str (q "a b"),.str (q "A"),.str (q "a1"),.str (q "num")]
theorem e14:[T.str (q "x"),T.str (q "add"),T.str (q "adds"),T.str (q "row"),T.str (q "rows"),T.str (q "truth"),T.str (q "truthy"),T.str (q "abcdefgh"),T.str (q "abcdefghi"),T.str (q ""),T.str (q "a b"),T.str (q "A"),T.str (q "a1"),T.str (q "num")]=n14:=rfl
theorem l14:n14.length=14:=rfl
theorem e24:n14++[T.str (q "numb"),T.str (q "none"),T.str (q "name"),T.str (q "namer"),T.str (q "yes"),T.non,T.int 5,T.bl true,T.tup [T.str (q "x")],T.lst [T.str (q "x")]]=L24:=rfl
noncomputable abbrev NBd:List S:=[
   .asg (.q [3] []) 4 (.call 226 [.var 3]),
   .ite (.q [3,4] []) (.or (.not (.op (.isI ["bool"]) false [.var 4])) (.op .ne false [.var 4,.call 230 [.var 3]])) [
    .ret [] (.cst (.bl false))] []]
noncomputable abbrev TBd:List S:=[
   .asg (.q [1] [5]) 3 (.call 222 [.var 1,.var 5]),
   .asg (.q [3] []) 4 (.call 227 [.var 3]),
   .ite (.q [3,4] []) (.or (.not (.op (.isI ["bool"]) false [.var 4])) (.op .ne false [.var 4,.call 232 [.var 3]])) [
    .ret [] (.cst (.bl false))] []]
theorem mq (b:Bool):(b==b)=true:=by cases b<;>rfl
theorem lp1 (w0 w1 w2:Option W):∃ o3 o4,dA [3] (evSs (C 39) NBd) (L24.map fun t=>[((.s,t):W)]) [w0,w1,w2,none,none,none]=.nx [w0,w1,w2,o3,o4,none]:=by
 obtain ⟨η',lp,o3,o4,rfl⟩:=cB (tg:=[3]) (f:=evSs (C 39) NBd) (g:=fun (t:T)=>[((.s,t):W)])
  (fun _ η=>∃ (o3 o4:Option W),η=[w0,w1,w2,o3,o4,none]) L24 [] [w0,w1,w2,none,none,none] ⟨none,none,rfl⟩ (fun p x r η hp ⟨o3,o4,he⟩=>by
   subst he
   have hx:x∈L24:=by rw [a1n] at hp; rw [hp]; exact a0h _ a0o
   obtain ⟨b,hb⟩:=yV x hx
   have h1:=fun m=>(hb m).1
   have h2:=fun m=>(hb m).2
   exact ⟨_,_,rfl,by simp_all only [h1,h2,qW,mq]; rfl,_,_,rfl⟩)
 exact ⟨o3,o4,lp⟩
theorem lp2 (w0 w2:Option W)(t:T)(h:WT 7 t)(m1:Md)(o3 o4:Option W)(L:List Int):∃ η',dA [5] (evSs (C 39) TBd) ((L.map T.int).map fun t=>[((.s,t):W)]) [w0,some (m1,t),w2,o3,o4,none]=.nx η':=by
 have e:(L.map T.int).map (fun t=>[((.s,t):W)])=L.map fun i=>[((.s,.int i):W)]:=by rw [a1E]; rfl
 rw [e]
 obtain ⟨η',lp,_⟩:=cB (tg:=[5]) (f:=evSs (C 39) TBd) (g:=fun (i:Int)=>[((.s,.int i):W)])
  (fun _ η=>∃ (m1:Md) (o3 o4 o5:Option W),η=[w0,some (m1,t),w2,o3,o4,o5]) L [] [w0,some (m1,t),w2,o3,o4,none] ⟨m1,o3,o4,none,rfl⟩ (fun p c r η hp ⟨m1,o3,o4,o5,he⟩=>by
   subst he
   obtain ⟨md,bt,b,e1,ag⟩:=eV 7 32 t h c
   have h1:=fun m=>(ag 20 m).1
   have h2:=fun m=>(ag 20 m).2
   rw [show 32+7=39 from rfl] at e1
   rw [show 20+7+12=39 from rfl] at h1 h2
   have hA:∃ m1' m3,evSs (C 39) [.asg (.q [1] [5]) 3 (.call 222 [.var 1,.var 5])] [w0,some (m1,t),w2,o3,o4,some (.s,.int c)]=.nx [w0,some (m1',t),w2,some (m3,bt),o4,some (.s,.int c)]:=by
    have hz:∃ x,evSs (C 39) [.asg (.q [1] [5]) 3 (.call 222 [.var 1,.var 5])] [w0,some (m1,t),w2,o3,o4,some (.s,.int c)]=.nx (put (after x [1] [w0,some (m1,t),w2,o3,o4,some (.s,.int c)]) 3 (x,bt)):=⟨lf md bt,by simp_all only [e1]⟩
    obtain ⟨x,hz⟩:=hz
    rw [hz]
    cases x with
    | s=>exact ⟨_,_,rfl⟩
    | d=>exact ⟨_,_,rfl⟩
    | o y=>exact ⟨_,_,rfl⟩
   obtain ⟨m1',m3,hA⟩:=hA
   have hB:∃ m4 m5,evSs (C 39) (TBd.drop 1) [w0,some (m1',t),w2,some (m3,bt),o4,some (.s,.int c)]=.nx [w0,some (m1',t),w2,some (m4,bt),some (m5,.bl b),some (.s,.int c)]:=⟨_,_,by simp_all only [a0l,a0q,h1,h2,qW,mq]; rfl⟩
   obtain ⟨m4,m5,hB⟩:=hB
   refine ⟨_,_,rfl,?_,m1',some (m4,bt),some (m5,.bl b),some (.s,.int c),rfl⟩
   show evSs (C 39) ([.asg (.q [1] [5]) 3 (.call 222 [.var 1,.var 5])]++TBd.drop 1) _=_
   exact (go1 hA).trans hB)
 exact ⟨η',lp⟩
theorem f24:a6 24=true:=rfl
theorem xn (w0 w1:Option W)(m2:Md)(nn LL:List T)(hl:nn.length=14)(he:nn++[T.str (q "numb"),T.str (q "none"),T.str (q "name"),T.str (q "namer"),T.str (q "yes"),T.non,T.int 5,T.bl true,T.tup [T.str (q "x")],T.lst [T.str (q "x")]]=LL)(o3 o4:Option W)(p1:dA [3] (evSs (C 39) NBd) (LL.map fun t=>[((.s,t):W)]) [w0,w1,some (.s,.lst nn),none,none,none]=.nx [w0,w1,some (.s,.lst nn),o3,o4,none]):evSs (C 39) (Bk f_law 3 1) [w0,w1,some (m2,.lst nn),none,none,none]=.nx [w0,w1,some (.s,.lst nn),o3,o4,none]:=by
 simp_all only [Bk,f_law,a0l,a0q,a0z,a0U,hl,a0b,a0y,a07,f24,he,p1]
theorem pure_law (ns:List Int):∃ m bs,C 40 0 [(.d,.scr ns)]=.ok ((m,.bl true),bs):=by
 obtain ⟨md,t,ns',e1,wt⟩:=jc 6 25 (cut ns none (some 40))
 rw [show 25+6+8=39 from rfl,show ((6:Nat):Int)=6 from rfl] at e1
 have i1:=fun m=>(gC wt 20 m).1
 rw [show 20+(6+1)+12=39 from rfl] at i1
 have hA:∃ m0 m1,evSs (C 39) (Bk f_law 0 1) [some (.d,.scr ns),none,none,none,none,none]=.nx [some (m0,.scr ns),some (m1,t),none,none,none,none]:=by
  have hz:∃ x,evSs (C 39) (Bk f_law 0 1) [some (.d,.scr ns),none,none,none,none,none]=.nx (put (after x [0] [some (.d,.scr ns),none,none,none,none,none]) 1 (x,t)):=⟨lf md t,by simp_all only [Bk,f_law,a0q,a0z,a0U,e1]⟩
  obtain ⟨x,hz⟩:=hz
  rw [hz]
  cases x with
  | s=>exact ⟨_,_,rfl⟩
  | d=>exact ⟨_,_,rfl⟩
  | o y=>exact ⟨_,_,rfl⟩
 obtain ⟨m0,m1,hA⟩:=hA
 have hB:∃ m2,evSs (C 39) (Bk f_law 1 2) [some (m0,.scr ns),some (m1,t),none,none,none,none]=.nx [some (m0,.scr ns),some (m1,t),some (m2,.lst n14),none,none,none]:=⟨_,by simp_all only [Bk,f_law,a0l,a0q,a0z,a0U,i1,mq,e14]; rfl⟩
 obtain ⟨m2,hB⟩:=hB
 obtain ⟨o3,o4,p1⟩:=lp1 (some (m0,.scr ns)) (some (m1,t)) (some (.s,.lst n14))
 have hC:=xn _ _ m2 n14 L24 l14 e24 o3 o4 p1
 have hD:∃ η,evSs (C 39) (f_law.body.drop 4) [some (m0,.scr ns),some (m1,t),some (.s,.lst n14),o3,o4,none]=.rt (.d,.bl true) η:=by
  cases h:decide (0 < ((ns.length:Nat):Int)) with
  | true =>
   obtain ⟨η',lp⟩:=lp2 (some (.s,.scr ns)) (some (.s,.lst n14)) t wt m1 o3 o4 (cut ns none (some 8))
   exact ⟨η',by simp_all only [f_law,a0l,a0q,h,lp]⟩
  | false =>
   obtain ⟨η',lp⟩:=lp2 (some (.s,.scr ns)) (some (.s,.lst n14)) t wt m1 o3 o4 [0]
   rw [show [(0:Int)].map T.int=[T.int 0] from rfl,a0x,a05] at lp
   exact ⟨η',by simp_all only [f_law,a0l,a0q,h,lp]⟩
 obtain ⟨η,hD⟩:=hD
 rw [show C 40 0 [(.d,.scr ns)]=runF (C 39) f_law [(.d,.scr ns)] from rfl,x_run _ _ _ rfl,show f_law.body=Bk f_law 0 1++(Bk f_law 1 2++(Bk f_law 3 1++f_law.body.drop 4)) from rfl]
 refine ⟨.d,[],?_⟩
 show Fl.out [] (evSs (C 39) (Bk f_law 0 1++(Bk f_law 1 2++(Bk f_law 3 1++f_law.body.drop 4))) [some (.d,.scr ns),none,none,none,none,none])=_
 rw [go1 hA,go1 hB,go1 hC,hD]
 rfl
end
end P08

namespace A08
open PySem PySem.Spec PyProof.Rows L2 L3 MR
noncomputable def top (i:Nat):Stmt:=PySem.Challenge.pw_broadrow_k08_trees_known.main.body.getD i (.Pass ⟨0,0,0,0⟩)
noncomputable abbrev lg:Stmt:=top 3
noncomputable abbrev mU:Stmt:=top 4
noncomputable abbrev s2:Stmt:=top 8
noncomputable abbrev s3:Stmt:=top 9
noncomputable abbrev kW:Stmt:=top 16
noncomputable abbrev mO:Stmt:=top 17
noncomputable abbrev mm:Stmt:=top 18
noncomputable abbrev mL:Stmt:=top 19
noncomputable abbrev nD:Stmt:=top 21
noncomputable abbrev mY:Stmt:=top 22
noncomputable abbrev nv:Stmt:=top 23
noncomputable abbrev kr:Stmt:=top 24
noncomputable abbrev kF:Stmt:=top 25
noncomputable abbrev kZ:Stmt:=top 26
noncomputable abbrev ml:Stmt:=top 27
noncomputable abbrev s0:Stmt:=top 28
structure Glb (K:a0a)(w:World)(mg:Str->Option Value):Prop where
 DEEPEST:∃ t,mg "DEEPEST"=some (.int 5 t)
 GREATEST:∃ t,mg "GREATEST"=some (.int 1000000000000000000 t)
 LONGEST_NAME:∃ t,mg "LONGEST_NAME"=some (.int 8 t)
 k_AHEAD:ju K w mg "AHEAD" keys_AHEAD
 c_AHEAD:kR K w mg "AHEAD" tab_AHEAD
 k_PARTS:ju K w mg "PARTS" keys_PARTS
 c_PARTS:kR K w mg "PARTS" tab_PARTS
 k_WITHIN:ju K w mg "WITHIN" keys_WITHIN
 c_WITHIN:kR K w mg "WITHIN" tab_WITHIN
structure Calls (P:Program)(w:World)(K:a0a)(mg:Str->Option Value)(base:Heap)(n:Nat)(C:M.Call):Prop where
 c215:ae P w K mg base n C "is_kind" 215 []
 c216:ae P w K mg base n C "is_kind_within" 216 []
 c2:ae P w K mg base n C "is_worth" 2 []
 c3:ae P w K mg base n C "is_number" 3 []
 c226:ae P w K mg base n C "is_name" 226 []
 c227:ae P w K mg base n C "is_tree" 227 []
 c228:ae P w K mg base n C "may_stand_ahead" 228 []
 c175:ae P w K mg base n C "parts_start" 175 []
 c171:ae P w K mg base n C "_law_kind" 171 []
 c220:ae P w K mg base n C "_law_leaf" 220 []
 c229:ae P w K mg base n C "_law_tree" 229 [0]
 c222:ae P w K mg base n C "_law_bent" 222 []
 c230:ae P w K mg base n C "_law_is_name" 230 []
 c231:ae P w K mg base n C "_law_is_kind" 231 []
 c232:ae P w K mg base n C "_law_is_tree" 232 []
 c4:∀ ws,C 4 ws=.no
 c5:∀ ws,C 5 ws=.no
noncomputable abbrev DD (x:Str)(st:Stmt)(N:List Str)(fn:M.Fn):Prop:=∀ {P:Program} {w:World} {K:a0a} {mg:Str->Option Value} {base:Heap} {n:Nat} {C:M.Call} {f:Addr} {cdv:Value} {A:Around} {outer:List Env} {s:Shared} {H:Hp} {E:XK},Calls P w K mg base n C->Txt mg->Glb K w mg->Room n (A.deeper (envOfC x (defScope st) s.heap.objs.size f cdv))->SSs (fD CX0 P w K mg base N x (defScope st) f cdv A outer s H E).nox (slN N.length) fn.io C (defBody st) fn.body
theorem yf:aw ["thing"] ["thing"] (defScope lg):=fsc
theorem zH:DD "is_kind" lg ["thing"] bM:=fun {_ _ _ _ _ _ _ _ _ _ _ s _ _} cs T G hr =>
 have S:=yf
 (@ss1 _ _ _ _ _ _ (@ax _ _ _ _ _ _ _ _ (aF cs.c216 hr (@aI _ _ _ _ _ _ _ (sM 0) (@aI _ _ _ _ _ _ _ (sGc G.DEEPEST) sa0 (by intro _ z; cases z) (by rfl)) (by intro _ z; cases z) (by rfl)))))
theorem wN:aw ["thing","depth"] ["thing","depth"] (defScope mU):=fsc
theorem zx:DD "is_kind_within" mU ["thing","depth"] aM:=fun {_ _ _ _ _ _ _ _ _ _ _ s _ _} cs T G hr =>
 have S:=wN
 (@ssc _ _ _ _ _ _ _ _ (@zIf _ _ _ _ _ _ _ _ _ _ _ _ (tW (wOr (bI hr (sV 1) sI) (wOr (bz (tB (bj (by decide) a08 T.isin T.tup (sV 0)))) (wO1 (bI hr (bR (hm:=T.len) (ha:=(sV 0))) sI))))) (@ss1 _ _ _ _ _ _ (@ax _ _ _ _ _ _ _ _ sO)) ss0)
    (@ssc _ _ _ _ _ _ _ _ (@zIf _ _ _ _ _ _ _ _ _ _ _ _ (tW (wOr (bz (tB (bj (by decide) a01 T.isin T.str (@aA _ _ _ _ _ _ _ _ _ (sV 0) sI (by intro _ _; rfl))))) (wO1 (i4 G.k_WITHIN (@aA _ _ _ _ _ _ _ _ _ (sV 0) sI (by intro _ _; rfl)))))) (@ss1 _ _ _ _ _ _ (@ax _ _ _ _ _ _ _ _ sO)) ss0)
    (@ssc _ _ _ _ _ _ _ _ (@zIf _ _ _ _ _ _ _ _ _ _ _ _ (gO hr (bR (hm:=T.len) (ha:=(sV 0))) (bf sI (uo G.c_WITHIN (@aA _ _ _ _ _ _ _ _ _ (sV 0) sI (by intro _ _; rfl))))) (@ss1 _ _ _ _ _ _ (@ax _ _ _ _ _ _ _ _ sO)) ss0)
    (@ss1 _ _ _ _ _ _ (@ax _ _ _ _ _ _ _ _ (kc (hm:=T.all) (ha:=(sC1 [1] [1] [("depth",s.heap.objs.size+1)] ["depth"] (iG (gN (sM 0) sI)) (fun _ _ _ _=>(aF cs.c216 hr (@aI _ _ _ _ _ _ _ (sV 0) (@aI _ _ _ _ _ _ _ (dg (sV 1) sI) sa0 (by intro _ z; cases z) (by rfl)) (by intro _ z; cases z) (by rfl)))) csc (yK .nil) (frc .nil)))))))))
theorem S2:aw ["kind","thing"] ["kind","thing"] (defScope s2):=fsc
theorem D2:DD "is_worth" s2 ["kind","thing"] bp:=fun {_ _ _ _ _ _ _ _ _ _ _ s _ _} cs T G hr =>
 have S:=S2
 (@ssc _ _ _ _ _ _ _ _ (@zIf _ _ _ _ _ _ _ _ _ _ _ _ (bI hr (@aA _ _ _ _ _ _ _ _ _ (sV 0) sI (by intro _ _; rfl)) sS) (@ss1 _ _ _ _ _ _ (@ax _ _ _ _ _ _ _ _ (aF cs.c3 hr (@aI _ _ _ _ _ _ _ (sM 1) sa0 (by intro _ z; cases z) (by rfl))))) ss0)
    (@ssc _ _ _ _ _ _ _ _ (@zIf _ _ _ _ _ _ _ _ _ _ _ _ (bI hr (@aA _ _ _ _ _ _ _ _ _ (sV 0) sI (by intro _ _; rfl)) sS) (@ss1 _ _ _ _ _ _ (@ax _ _ _ _ _ _ _ _ (bj (by decide) a0X T.isin T.bool (sM 1)))) ss0)
    (@ssc _ _ _ _ _ _ _ _ (@zIf _ _ _ _ _ _ _ _ _ _ _ _ (bI hr (@aA _ _ _ _ _ _ _ _ _ (sV 0) sI (by intro _ _; rfl)) sS) (@ss1 _ _ _ _ _ _ (@ax _ _ _ _ _ _ _ _ (yi cs.c4))) ss0)
    (@ss1 _ _ _ _ _ _ (@ax _ _ _ _ _ _ _ _ (yi cs.c5))))))
theorem S3:aw ["thing"] ["thing"] (defScope s3):=fsc
theorem D3:DD "is_number" s3 ["thing"] bc:=fun {_ _ _ _ _ _ _ _ _ _ _ s _ _} cs T G hr =>
 have S:=S3
 (@ssc _ _ _ _ _ _ _ _ (@zIf _ _ _ _ _ _ _ _ _ _ _ _ (tW (wOr (bz (tB (bj (by decide) a1u T.isin T.int (sV 0)))) (wO1 (tB (bj (by decide) a0X T.isin T.bool (sV 0)))))) (@ss1 _ _ _ _ _ _ (@ax _ _ _ _ _ _ _ _ sO)) ss0)
    (@ss1 _ _ _ _ _ _ (@ax _ _ _ _ _ _ _ _ (qJ (uG (sGc G.GREATEST)) (sM 0) (sGc G.GREATEST)))))
theorem we:aw ["thing"] ["thing"] (defScope kW):=fsc
theorem yY:DD "is_name" kW ["thing"] aV:=fun {_ _ _ _ _ _ _ _ _ _ _ s _ _} cs T G hr =>
 have S:=we
 (@ssc _ _ _ _ _ _ _ _ (@zIf _ _ _ _ _ _ _ _ _ _ _ _ (tW (wOr (bz (tB (bj (by decide) a01 T.isin T.str (sV 0)))) (wO1 (bz (pD sI (bR (hm:=T.len) (ha:=(sV 0))) (sGc G.LONGEST_NAME)))))) (@ss1 _ _ _ _ _ _ (@ax _ _ _ _ _ _ _ _ sO)) ss0)
    (@ssc _ _ _ _ _ _ _ _ (@zIf _ _ _ _ _ _ _ _ _ _ _ _ (tW (wOr (wM G.k_PARTS (sV 0)) (wO1 (cQ (sV 0) (@sTx _ _ _ _ _ _ _ (by decide) (@slx _ _ _ _ _ _ _ sS (@slx _ _ _ _ _ _ _ sS sl0 (by rfl)) (by rfl))))))) (@ss1 _ _ _ _ _ _ (@ax _ _ _ _ _ _ _ _ sO)) ss0)
    (@ss1 _ _ _ _ _ _ (@ax _ _ _ _ _ _ _ _ (kc (hm:=T.all) (ha:=(sC1 [] [] [] [] (wG (sM 0)) (fun _ _ _ _=>(jl sS (sV 0) sS)) csc .nil .nil)))))))
theorem wj:aw ["thing","start"] ["thing"] (defScope mO):=fsc
theorem y8:DD "is_tree" mO ["thing","start"] aD:=fun {_ _ _ _ _ _ _ _ _ _ _ s _ _} cs T G hr =>
 have S:=wj
 (@ssc _ _ _ _ _ _ _ _ (@zIf _ _ _ _ _ _ _ _ _ _ _ _ (tW (wOr (bz (tB (bj (by decide) a08 T.isin T.tup (sV 0)))) (wO1 (bI hr (bR (hm:=T.len) (ha:=(sV 0))) sI)))) (@ss1 _ _ _ _ _ _ (@ax _ _ _ _ _ _ _ _ sO)) ss0)
    (@ssc _ _ _ _ _ _ _ _ (@zIf _ _ _ _ _ _ _ _ _ _ _ _ (tW (wOr (bz (tB (bj (by decide) a01 T.isin T.str (@aA _ _ _ _ _ _ _ _ _ (sV 0) sI (by intro _ _; rfl))))) (wO1 (i4 G.k_PARTS (@aA _ _ _ _ _ _ _ _ _ (sV 0) sI (by intro _ _; rfl)))))) (@ss1 _ _ _ _ _ _ (@ax _ _ _ _ _ _ _ _ sO)) ss0)
    (@ssc _ _ _ _ _ _ _ _ (@a5 _ _ _ _ _ _ _ 1 _ _ _ _ S.nd (aF cs.c175 hr (@aI _ _ _ _ _ _ _ (@aA _ _ _ _ _ _ _ _ _ (sV 0) sI (by intro _ _; rfl)) sa0 (by intro _ z; cases z) (by rfl))) (by decide) (by rfl) (by rfl) (by first | exact a0I rfl | exact a0C rfl) (by rfl) (by first | exact .inl rfl | exact .inr rfl))
    (@ssc _ _ _ _ _ _ _ _ (@zIf _ _ _ _ _ _ _ _ _ _ _ _ (gO hr (bR (hm:=T.len) (ha:=(sV 0))) (bf (sV 1) (uo G.c_PARTS (@aA _ _ _ _ _ _ _ _ _ (sV 0) sI (by intro _ _; rfl))))) (@ss1 _ _ _ _ _ _ (@ax _ _ _ _ _ _ _ _ sO)) ss0)
    (@ssc _ _ _ _ _ _ _ _ (@zIf _ _ _ _ _ _ _ _ _ _ _ _ (tW (sW (bI hr (sV 1) sI) (wA1 (bz (tB (aF cs.c228 hr (@aI _ _ _ _ _ _ _ (uo G.c_AHEAD (@aA _ _ _ _ _ _ _ _ _ (sV 0) sI (by intro _ _; rfl))) (@aI _ _ _ _ _ _ _ (@aA _ _ _ _ _ _ _ _ _ (sV 0) sI (by intro _ _; rfl)) sa0 (by intro _ z; cases z) (by rfl)) (by intro _ z; cases z) (by rfl)))))))) (@ss1 _ _ _ _ _ _ (@ax _ _ _ _ _ _ _ _ sO)) ss0)
    (@ss1 _ _ _ _ _ _ (@ax _ _ _ _ _ _ _ _ (kc (hm:=T.all) (ha:=(sC1 [] [] [] [] (iG (gN (sM 0) (sM 1))) (fun _ _ _ _=>(aF cs.c227 hr (@aI _ _ _ _ _ _ _ (sV 0) sa0 (by intro _ z; cases z) (by rfl)))) csc .nil .nil))))))))))
theorem xu:aw ["what","thing"] ["what","thing"] (defScope mm):=fsc
theorem yM:DD "may_stand_ahead" mm ["what","thing"] au:=fun {_ _ _ _ _ _ _ _ _ _ _ s _ _} cs T G hr =>
 have S:=xu
 (@ssc _ _ _ _ _ _ _ _ (@zIf _ _ _ _ _ _ _ _ _ _ _ _ (bI hr (sV 0) sS) (@ss1 _ _ _ _ _ _ (@ax _ _ _ _ _ _ _ _ (sBW (iq (aF cs.c2 hr (@aI _ _ _ _ _ _ _ (@sTx _ _ _ _ _ _ _ (by decide) (@slx _ _ _ _ _ _ _ sS sl0 (by rfl))) (@aI _ _ _ _ _ _ _ (sV 1) sa0 (by intro _ z; cases z) (by rfl)) (by intro _ z; cases z) (by rfl))) (vA1 (sGe (sV 1) sI)))))) ss0)
    (@ssc _ _ _ _ _ _ _ _ (@zIf _ _ _ _ _ _ _ _ _ _ _ _ (bI hr (sV 0) sS) (@ss1 _ _ _ _ _ _ (@ax _ _ _ _ _ _ _ _ (aF cs.c215 hr (@aI _ _ _ _ _ _ _ (sM 1) sa0 (by intro _ z; cases z) (by rfl))))) ss0)
    (@ss1 _ _ _ _ _ _ (@ax _ _ _ _ _ _ _ _ (aF cs.c226 hr (@aI _ _ _ _ _ _ _ (sM 1) sa0 (by intro _ z; cases z) (by rfl)))))))
theorem yF:aw ["sign"] ["sign"] (defScope mL):=fsc
theorem yP:DD "parts_start" mL ["sign"] aQ:=fun {_ _ _ _ _ _ _ _ _ _ _ s _ _} cs T G hr =>
 have S:=yF
 (@ss1 _ _ _ _ _ _ (@ax _ _ _ _ _ _ _ _ (sIf (wM G.k_AHEAD (sM 0)) sI sI)))
theorem xK:aw ["cell","left","way"] ["cell","left"] (defScope nD):=fsc
theorem zy:DD "_law_kind" nD ["cell","left","way"] aJ:=fun {_ _ _ _ _ _ _ _ _ _ _ s _ _} cs T G hr =>
 have S:=xK
 (@ssc _ _ _ _ _ _ _ _ (@a5 _ _ _ _ _ _ _ 2 _ _ _ _ S.nd (c7 (sV 0) sI) (by decide) (by rfl) (by rfl) (by first | exact a0I rfl | exact a0C rfl) (by rfl) (by first | exact .inl rfl | exact .inr rfl))
    (@ssc _ _ _ _ _ _ _ _ (@zIf _ _ _ _ _ _ _ _ _ _ _ _ (tW (wOr (bI hr (sV 1) sI) (wO1 (qq (sV 2) sI)))) (@ss1 _ _ _ _ _ _ (@ax _ _ _ _ _ _ _ _ (@aA _ _ _ _ _ _ _ _ _ (@sLx _ _ _ _ _ _ _ (by decide) (@slx _ _ _ _ _ _ _ (@sTx _ _ _ _ _ _ _ (by decide) (@slx _ _ _ _ _ _ _ sS sl0 (by rfl))) (@slx _ _ _ _ _ _ _ (@sTx _ _ _ _ _ _ _ (by decide) (@slx _ _ _ _ _ _ _ sS sl0 (by rfl))) sl0 (by rfl)) (by rfl))) (c7 (sM 0) sI) (by intro _ _; rfl)))) ss0)
    (@ssc _ _ _ _ _ _ _ _ (@zIf _ _ _ _ _ _ _ _ _ _ _ _ (bI hr (sV 2) sI) (@ss1 _ _ _ _ _ _ (@ax _ _ _ _ _ _ _ _ (@sTx _ _ _ _ _ _ _ (by decide) (@slx _ _ _ _ _ _ _ sS (@slx _ _ _ _ _ _ _ (aF cs.c171 hr (@aI _ _ _ _ _ _ _ (dh (sV 0) sI) (@aI _ _ _ _ _ _ _ (dg (sV 1) sI) sa0 (by intro _ z; cases z) (by rfl)) (by intro _ z; cases z) (by rfl))) (@slx _ _ _ _ _ _ _ (aF cs.c171 hr (@aI _ _ _ _ _ _ _ (dh (sV 0) sI) (@aI _ _ _ _ _ _ _ (dg (sV 1) sI) sa0 (by intro _ z; cases z) (by rfl)) (by intro _ z; cases z) (by rfl))) sl0 (by rfl)) (by rfl)) (by rfl))))) ss0)
    (@ss1 _ _ _ _ _ _ (@ax _ _ _ _ _ _ _ _ (@sTx _ _ _ _ _ _ _ (by decide) (@slx _ _ _ _ _ _ _ sS (@slx _ _ _ _ _ _ _ (aF cs.c171 hr (@aI _ _ _ _ _ _ _ (dh (sM 0) sI) (@aI _ _ _ _ _ _ _ (dg (sM 1) sI) sa0 (by intro _ z; cases z) (by rfl)) (by intro _ z; cases z) (by rfl))) sl0 (by rfl)) (by rfl))))))))
theorem wX:aw ["cell","name","number","some"] ["cell"] (defScope mY):=fsc
theorem zv:DD "_law_leaf" mY ["cell","name","number","some"] bw:=fun {_ _ _ _ _ _ _ _ _ _ _ s _ _} cs T G hr =>
 have S:=wX
 (@ssc _ _ _ _ _ _ _ _ (@a5 _ _ _ _ _ _ _ 1 _ _ _ _ S.nd (@aA _ _ _ _ _ _ _ _ _ (@sLx _ _ _ _ _ _ _ (by decide) (@slx _ _ _ _ _ _ _ sS (@slx _ _ _ _ _ _ _ sS (@slx _ _ _ _ _ _ _ sS (@slx _ _ _ _ _ _ _ sS (@slx _ _ _ _ _ _ _ sS (@slx _ _ _ _ _ _ _ sS (@slx _ _ _ _ _ _ _ sS (@slx _ _ _ _ _ _ _ sS (@slx _ _ _ _ _ _ _ sS (@slx _ _ _ _ _ _ _ sS sl0 (by rfl)) (by rfl)) (by rfl)) (by rfl)) (by rfl)) (by rfl)) (by rfl)) (by rfl)) (by rfl)) (by rfl))) (c7 (dh (sV 0) sI) sI) (by intro _ _; rfl)) (by decide) (by rfl) (by rfl) (by first | exact a0I rfl | exact a0C rfl) (by rfl) (by first | exact .inl rfl | exact .inr rfl))
    (@ssc _ _ _ _ _ _ _ _ (@a5 _ _ _ _ _ _ _ 2 _ _ _ _ S.nd (@aA _ _ _ _ _ _ _ _ _ (@sLx _ _ _ _ _ _ _ (by decide) (@slx _ _ _ _ _ _ _ sI (@slx _ _ _ _ _ _ _ sI (@slx _ _ _ _ _ _ _ (qL sI sI) (@slx _ _ _ _ _ _ _ sI (@slx _ _ _ _ _ _ _ (c7 (sV 0) (bf (qL sI sI) sI)) sl0 (by rfl)) (by rfl)) (by rfl)) (by rfl)) (by rfl))) (c7 (dh (sV 0) sI) sI) (by intro _ _; rfl)) (by decide) (by rfl) (by rfl) (by first | exact a0I rfl | exact a0C rfl) (by rfl) (by first | exact .inl rfl | exact .inr rfl))
    (@ssc _ _ _ _ _ _ _ _ (@a5 _ _ _ _ _ _ _ 3 _ _ _ _ S.nd (@sLx _ _ _ _ _ _ _ (by decide) (@slx _ _ _ _ _ _ _ (@sTx _ _ _ _ _ _ _ (by decide) (@slx _ _ _ _ _ _ _ sS (@slx _ _ _ _ _ _ _ (sV 2) sl0 (by rfl)) (by rfl))) (@slx _ _ _ _ _ _ _ (@sTx _ _ _ _ _ _ _ (by decide) (@slx _ _ _ _ _ _ _ sS sl0 (by rfl))) (@slx _ _ _ _ _ _ _ (@sTx _ _ _ _ _ _ _ (by decide) (@slx _ _ _ _ _ _ _ sS sl0 (by rfl))) (@slx _ _ _ _ _ _ _ (@sTx _ _ _ _ _ _ _ (by decide) (@slx _ _ _ _ _ _ _ sS (@slx _ _ _ _ _ _ _ (sV 1) sl0 (by rfl)) (by rfl))) (@slx _ _ _ _ _ _ _ (@sTx _ _ _ _ _ _ _ (by decide) (@slx _ _ _ _ _ _ _ sS (@slx _ _ _ _ _ _ _ (aF cs.c171 hr (@aI _ _ _ _ _ _ _ (dh (sV 0) sI) (@aI _ _ _ _ _ _ _ sI sa0 (by intro _ z; cases z) (by rfl)) (by intro _ z; cases z) (by rfl))) sl0 (by rfl)) (by rfl))) sl0 (by rfl)) (by rfl)) (by rfl)) (by rfl)) (by rfl))) (by decide) (by rfl) (by rfl) (by first | exact a0I rfl | exact a0C rfl) (by rfl) (by first | exact .inl rfl | exact .inr rfl))
    (@ss1 _ _ _ _ _ _ (@ax _ _ _ _ _ _ _ _ (@aA _ _ _ _ _ _ _ _ _ (sM 3) (c7 (sM 0) sI) (by intro _ _; rfl)))))))
theorem wD:aw ["cells","left","cell","some","at","many","made","k"] ["cells","left"] (defScope nv):=fsc
theorem zq:DD "_law_tree" nv ["cells","left","cell","some","at","many","made","k"] f_law_tree:=fun {_ _ _ _ _ _ _ _ _ _ _ s _ _} cs T G hr =>
 have S:=wD
 (@ssc _ _ _ _ _ _ _ _ (@a5 _ _ _ _ _ _ _ 2 _ _ _ _ S.nd (sIf (jr (xE 0 T.len) sI) (ym 0) sI) (by decide) (by rfl) (by rfl) (by first | exact a0I rfl | exact a0C rfl) (by rfl) (by first | exact .inl rfl | exact .inr rfl))
    (@ssc _ _ _ _ _ _ _ _ (@zIf _ _ _ _ _ _ _ _ _ _ _ _ (tW (wOr (bI hr (sV 1) sI) (wO1 (bI hr (c7 (sV 2) sI) sI)))) (@ss1 _ _ _ _ _ _ (@ax _ _ _ _ _ _ _ _ (aF cs.c220 hr (@aI _ _ _ _ _ _ _ (dh (sM 2) sI) sa0 (by intro _ z; cases z) (by rfl))))) ss0)
    (@ssc _ _ _ _ _ _ _ _ (@a5 _ _ _ _ _ _ _ 3 _ _ _ _ S.nd (@sLx _ _ _ _ _ _ _ (by decide) (@slx _ _ _ _ _ _ _ sS (@slx _ _ _ _ _ _ _ sS (@slx _ _ _ _ _ _ _ sS (@slx _ _ _ _ _ _ _ sS (@slx _ _ _ _ _ _ _ sS (@slx _ _ _ _ _ _ _ sS (@slx _ _ _ _ _ _ _ sS (@slx _ _ _ _ _ _ _ sS (@slx _ _ _ _ _ _ _ sS (@slx _ _ _ _ _ _ _ sS (@slx _ _ _ _ _ _ _ sS (@slx _ _ _ _ _ _ _ sS (@slx _ _ _ _ _ _ _ sS (@slx _ _ _ _ _ _ _ sS sl0 (by rfl)) (by rfl)) (by rfl)) (by rfl)) (by rfl)) (by rfl)) (by rfl)) (by rfl)) (by rfl)) (by rfl)) (by rfl)) (by rfl)) (by rfl)) (by rfl))) (by decide) (by rfl) (by rfl) (by first | exact a0I rfl | exact a0C rfl) (by rfl) (by first | exact .inl rfl | exact .inr rfl))
    (@ssc _ _ _ _ _ _ _ _ (@a5 _ _ _ _ _ _ _ 3 _ _ _ _ S.nd (bf (sV 3) (@sLx _ _ _ _ _ _ _ (by decide) (@slx _ _ _ _ _ _ _ sS (@slx _ _ _ _ _ _ _ sS (@slx _ _ _ _ _ _ _ sS (@slx _ _ _ _ _ _ _ sS (@slx _ _ _ _ _ _ _ sS (@slx _ _ _ _ _ _ _ sS (@slx _ _ _ _ _ _ _ sS (@slx _ _ _ _ _ _ _ sS (@slx _ _ _ _ _ _ _ sS (@slx _ _ _ _ _ _ _ sS (@slx _ _ _ _ _ _ _ sS (@slx _ _ _ _ _ _ _ sS (@slx _ _ _ _ _ _ _ sS sl0 (by rfl)) (by rfl)) (by rfl)) (by rfl)) (by rfl)) (by rfl)) (by rfl)) (by rfl)) (by rfl)) (by rfl)) (by rfl)) (by rfl)) (by rfl)))) (by decide) (by rfl) (by rfl) (by first | exact a0I rfl | exact a0C rfl) (by rfl) (by first | exact .inl rfl | exact .inr rfl))
    (@ssc _ _ _ _ _ _ _ _ (@a5 _ _ _ _ _ _ _ 4 _ _ _ _ S.nd (c7 (dh (sV 2) sI) sI) (by decide) (by rfl) (by rfl) (by first | exact a0I rfl | exact a0C rfl) (by rfl) (by first | exact .inl rfl | exact .inr rfl))
    (@ssc _ _ _ _ _ _ _ _ (@a5 _ _ _ _ _ _ _ 5 _ _ _ _ S.nd (bf (bf sI (hZ (hm:=T.int) (ha:=(sGt (sV 4) sI)))) (hZ (hm:=T.int) (ha:=(iI (@aA _ _ _ _ _ _ _ _ _ (sV 3) (sV 4) (by intro _ _; rfl)) (@sTx _ _ _ _ _ _ _ (by decide) (@slx _ _ _ _ _ _ _ sS (@slx _ _ _ _ _ _ _ sS sl0 (by rfl)) (by rfl))))))) (by decide) (by rfl) (by rfl) (by first | exact a0I rfl | exact a0C rfl) (by rfl) (by first | exact .inl rfl | exact .inr rfl))
    (@ssc _ _ _ _ _ _ _ _ (@a5 _ _ _ _ _ _ _ 6 _ _ _ _ S.nd (@sTx _ _ _ _ _ _ _ (by decide) (@slx _ _ _ _ _ _ _ (@aA _ _ _ _ _ _ _ _ _ (sV 3) (sV 4) (by intro _ _; rfl)) sl0 (by rfl))) (by decide) (by rfl) (by rfl) (by first | exact a0I rfl | exact a0C rfl) (by rfl) (by first | exact .inl rfl | exact .inr rfl))
    (@ssc _ _ _ _ _ _ _ _ (@zIf _ _ _ _ _ _ _ _ _ _ _ _ (cQ (@aA _ _ _ _ _ _ _ _ _ (sV 3) (sV 4) (by intro _ _; rfl)) (@sTx _ _ _ _ _ _ _ (by decide) (@slx _ _ _ _ _ _ _ sS (@slx _ _ _ _ _ _ _ sS (@slx _ _ _ _ _ _ _ sS sl0 (by rfl)) (by rfl)) (by rfl)))) (@ss1 _ _ _ _ _ _ (@a5 _ _ _ _ _ _ _ 6 _ _ _ _ S.nd (bf (sV 6) (@sTx _ _ _ _ _ _ _ (by decide) (@slx _ _ _ _ _ _ _ (@aA _ _ _ _ _ _ _ _ _ (@sLx _ _ _ _ _ _ _ (by decide) (@slx _ _ _ _ _ _ _ sS (@slx _ _ _ _ _ _ _ sS (@slx _ _ _ _ _ _ _ sS (@slx _ _ _ _ _ _ _ sS (@slx _ _ _ _ _ _ _ sS sl0 (by rfl)) (by rfl)) (by rfl)) (by rfl)) (by rfl))) (c7 (dh (sV 2) sI) sI) (by intro _ _; rfl)) sl0 (by rfl)))) (by decide) (by rfl) (by rfl) (by first | exact a0I rfl | exact a0C rfl) (by rfl) (by first | exact .inl rfl | exact .inr rfl))) ss0)
    (@ssc _ _ _ _ _ _ _ _ (mF 7 S.nd (yT (hm:=T.range) (ha:=(sV 5))) (@ss1 _ _ _ _ _ _ (@a5 _ _ _ _ _ _ _ 6 _ _ _ _ S.nd (bf (sV 6) (@sTx _ _ _ _ _ _ _ (by decide) (@slx _ _ _ _ _ _ _ (aF cs.c229 hr (sai 0 (@aI _ _ _ _ _ _ _ (dg (sV 1) sI) sa0 (by intro _ z; cases z) (by rfl)))) sl0 (by rfl)))) (by decide) (by rfl) (by rfl) (by first | exact a0I rfl | exact a0C rfl) (by rfl) (by first | exact .inl rfl | exact .inr rfl))))
    (@ss1 _ _ _ _ _ _ (@ax _ _ _ _ _ _ _ _ (sM 6))))))))))))
theorem wZ:aw ["tree","cell","start","at","way","deep","some"] ["tree","cell"] (defScope kr):=fsc
theorem zC:DD "_law_bent" kr ["tree","cell","start","at","way","deep","some"] f_law_bent:=fun {_ _ _ _ _ _ _ _ _ _ _ s _ _} cs T G hr =>
 have S:=wZ
 (@ssc _ _ _ _ _ _ _ _ (@a5 _ _ _ _ _ _ _ 2 _ _ _ _ S.nd (bf sI (hZ (hm:=T.int) (ha:=(iI (@aA _ _ _ _ _ _ _ _ _ (sV 0) sI (by intro _ _; rfl)) (@sTx _ _ _ _ _ _ _ (by decide) (@slx _ _ _ _ _ _ _ sS (@slx _ _ _ _ _ _ _ sS (@slx _ _ _ _ _ _ _ sS sl0 (by rfl)) (by rfl)) (by rfl))))))) (by decide) (by rfl) (by rfl) (by first | exact a0I rfl | exact a0C rfl) (by rfl) (by first | exact .inl rfl | exact .inr rfl))
    (@ssc _ _ _ _ _ _ _ _ (@zIf _ _ _ _ _ _ _ _ _ _ _ _ (tW (sW (oo (@aA _ _ _ _ _ _ _ _ _ (sV 0) sI (by intro _ _; rfl)) (@sTx _ _ _ _ _ _ _ (by decide) (@slx _ _ _ _ _ _ _ sS (@slx _ _ _ _ _ _ _ sS (@slx _ _ _ _ _ _ _ sS sl0 (by rfl)) (by rfl)) (by rfl)))) (sW (jr (bR (hm:=T.len) (ha:=(sV 0))) (sV 2)) (wA1 (jr (c7 (sV 1) sI) sI))))) (@ssc _ _ _ _ _ _ _ _ (@a5 _ _ _ _ _ _ _ 3 _ _ _ _ S.nd (bf (sV 2) (c7 (dh (sV 1) sI) (dg (bR (hm:=T.len) (ha:=(sV 0))) (sV 2)))) (by decide) (by rfl) (by rfl) (by first | exact a0I rfl | exact a0C rfl) (by rfl) (by first | exact .inl rfl | exact .inr rfl))
     (@ss1 _ _ _ _ _ _ (@ax _ _ _ _ _ _ _ _ (bf (bf (qF (sV 0) (sV 3)) (@sTx _ _ _ _ _ _ _ (by decide) (@slx _ _ _ _ _ _ _ (aF cs.c222 hr (@aI _ _ _ _ _ _ _ (@aA _ _ _ _ _ _ _ _ _ (sV 0) (sV 3) (by intro _ _; rfl)) (@aI _ _ _ _ _ _ _ (dh (sM 1) sI) sa0 (by intro _ z; cases z) (by rfl)) (by intro _ z; cases z) (by rfl))) sl0 (by rfl)))) (gN (sV 0) (bf (sV 3) sI)))))) ss0)
    (@ssc _ _ _ _ _ _ _ _ (@a5 _ _ _ _ _ _ _ 4 _ _ _ _ S.nd (c7 (dh (sV 1) sI) sI) (by decide) (by rfl) (by rfl) (by first | exact a0I rfl | exact a0C rfl) (by rfl) (by first | exact .inl rfl | exact .inr rfl))
    (@ssc _ _ _ _ _ _ _ _ (@zIf _ _ _ _ _ _ _ _ _ _ _ _ (qq (sV 4) sI) (@ss1 _ _ _ _ _ _ (@ax _ _ _ _ _ _ _ _ (@aA _ _ _ _ _ _ _ _ _ (@sLx _ _ _ _ _ _ _ (by decide) (@slx _ _ _ _ _ _ _ (rj (hm:=T.list) (ha:=(sV 0))) (@slx _ _ _ _ _ _ _ (bf (sV 0) (@sTx _ _ _ _ _ _ _ (by decide) (@slx _ _ _ _ _ _ _ (@sTx _ _ _ _ _ _ _ (by decide) (@slx _ _ _ _ _ _ _ sS sl0 (by rfl))) sl0 (by rfl)))) (@slx _ _ _ _ _ _ _ (qF (sV 0) (uG sI)) (@slx _ _ _ _ _ _ _ (bf (@sTx _ _ _ _ _ _ _ (by decide) (@slx _ _ _ _ _ _ _ sS sl0 (by rfl))) (gN (sV 0) sI)) (@slx _ _ _ _ _ _ _ (bf (@sTx _ _ _ _ _ _ _ (by decide) (@slx _ _ _ _ _ _ _ sS sl0 (by rfl))) (gN (sV 0) sI)) (@slx _ _ _ _ _ _ _ (@aA _ _ _ _ _ _ _ _ _ (sV 0) sI (by intro _ _; rfl)) sl0 (by rfl)) (by rfl)) (by rfl)) (by rfl)) (by rfl)) (by rfl))) (sM 4) (by intro _ _; rfl)))) ss0)
    (@ssc _ _ _ _ _ _ _ _ (@zIf _ _ _ _ _ _ _ _ _ _ _ _ (qq (sV 4) sI) (@ss1 _ _ _ _ _ _ (@ax _ _ _ _ _ _ _ _ (@aA _ _ _ _ _ _ _ _ _ (@sLx _ _ _ _ _ _ _ (by decide) (@slx _ _ _ _ _ _ _ sN (@slx _ _ _ _ _ _ _ sO (@slx _ _ _ _ _ _ _ sI (@slx _ _ _ _ _ _ _ (@sTx _ _ _ _ _ _ _ (by decide) sl0) (@slx _ _ _ _ _ _ _ (@sTx _ _ _ _ _ _ _ (by decide) (@slx _ _ _ _ _ _ _ sS (@slx _ _ _ _ _ _ _ sS sl0 (by rfl)) (by rfl))) (@slx _ _ _ _ _ _ _ (@sTx _ _ _ _ _ _ _ (by decide) (@slx _ _ _ _ _ _ _ sS (@slx _ _ _ _ _ _ _ (uG sI) sl0 (by rfl)) (by rfl))) sl0 (by rfl)) (by rfl)) (by rfl)) (by rfl)) (by rfl)) (by rfl))) (dg (sM 4) sI) (by intro _ _; rfl)))) ss0)
    (@ssc _ _ _ _ _ _ _ _ (@zIf _ _ _ _ _ _ _ _ _ _ _ _ (qq (sV 4) sI) (@ss1 _ _ _ _ _ _ (@ax _ _ _ _ _ _ _ _ (@aA _ _ _ _ _ _ _ _ _ (@sLx _ _ _ _ _ _ _ (by decide) (@slx _ _ _ _ _ _ _ (@sTx _ _ _ _ _ _ _ (by decide) (@slx _ _ _ _ _ _ _ sS (@slx _ _ _ _ _ _ _ sO sl0 (by rfl)) (by rfl))) (@slx _ _ _ _ _ _ _ (@sTx _ _ _ _ _ _ _ (by decide) (@slx _ _ _ _ _ _ _ sS (@slx _ _ _ _ _ _ _ (bf (qL sI sI) sI) sl0 (by rfl)) (by rfl))) (@slx _ _ _ _ _ _ _ (@sTx _ _ _ _ _ _ _ (by decide) (@slx _ _ _ _ _ _ _ sS (@slx _ _ _ _ _ _ _ sS sl0 (by rfl)) (by rfl))) (@slx _ _ _ _ _ _ _ (@sTx _ _ _ _ _ _ _ (by decide) (@slx _ _ _ _ _ _ _ sS (@slx _ _ _ _ _ _ _ sS sl0 (by rfl)) (by rfl))) (@slx _ _ _ _ _ _ _ (@sTx _ _ _ _ _ _ _ (by decide) (@slx _ _ _ _ _ _ _ sS (@slx _ _ _ _ _ _ _ sS sl0 (by rfl)) (by rfl))) (@slx _ _ _ _ _ _ _ (@sTx _ _ _ _ _ _ _ (by decide) (@slx _ _ _ _ _ _ _ sS (@slx _ _ _ _ _ _ _ sS (@slx _ _ _ _ _ _ _ (@sTx _ _ _ _ _ _ _ (by decide) (@slx _ _ _ _ _ _ _ sS sl0 (by rfl))) (@slx _ _ _ _ _ _ _ (@sTx _ _ _ _ _ _ _ (by decide) (@slx _ _ _ _ _ _ _ sS sl0 (by rfl))) sl0 (by rfl)) (by rfl)) (by rfl)) (by rfl))) sl0 (by rfl)) (by rfl)) (by rfl)) (by rfl)) (by rfl)) (by rfl))) (dg (sM 4) sI) (by intro _ _; rfl)))) ss0)
    (@ssc _ _ _ _ _ _ _ _ (@zIf _ _ _ _ _ _ _ _ _ _ _ _ (jr (sV 4) sI) (@ssc _ _ _ _ _ _ _ _ (@a5 _ _ _ _ _ _ _ 5 _ _ _ _ S.nd (@sTx _ _ _ _ _ _ _ (by decide) (@slx _ _ _ _ _ _ _ sS (@slx _ _ _ _ _ _ _ (@sTx _ _ _ _ _ _ _ (by decide) (@slx _ _ _ _ _ _ _ sS (@slx _ _ _ _ _ _ _ (@sTx _ _ _ _ _ _ _ (by decide) (@slx _ _ _ _ _ _ _ sS (@slx _ _ _ _ _ _ _ (@sTx _ _ _ _ _ _ _ (by decide) (@slx _ _ _ _ _ _ _ sS (@slx _ _ _ _ _ _ _ (@sTx _ _ _ _ _ _ _ (by decide) (@slx _ _ _ _ _ _ _ sS (@slx _ _ _ _ _ _ _ (@sTx _ _ _ _ _ _ _ (by decide) (@slx _ _ _ _ _ _ _ sS sl0 (by rfl))) sl0 (by rfl)) (by rfl))) sl0 (by rfl)) (by rfl))) sl0 (by rfl)) (by rfl))) sl0 (by rfl)) (by rfl))) sl0 (by rfl)) (by rfl))) (by decide) (by rfl) (by rfl) (by first | exact a0I rfl | exact a0C rfl) (by rfl) (by first | exact .inl rfl | exact .inr rfl))
     (@ssc _ _ _ _ _ _ _ _ (@a5 _ _ _ _ _ _ _ 6 _ _ _ _ S.nd (@sLx _ _ _ _ _ _ _ (by decide) (@slx _ _ _ _ _ _ _ (@sTx _ _ _ _ _ _ _ (by decide) (@slx _ _ _ _ _ _ _ sS (@slx _ _ _ _ _ _ _ (@sTx _ _ _ _ _ _ _ (by decide) (@slx _ _ _ _ _ _ _ sS (@slx _ _ _ _ _ _ _ (@sTx _ _ _ _ _ _ _ (by decide) (@slx _ _ _ _ _ _ _ sS sl0 (by rfl))) sl0 (by rfl)) (by rfl))) sl0 (by rfl)) (by rfl))) (@slx _ _ _ _ _ _ _ (@sTx _ _ _ _ _ _ _ (by decide) (@slx _ _ _ _ _ _ _ sS (@slx _ _ _ _ _ _ _ (sV 5) sl0 (by rfl)) (by rfl))) (@slx _ _ _ _ _ _ _ (@sTx _ _ _ _ _ _ _ (by decide) (@slx _ _ _ _ _ _ _ sS (@slx _ _ _ _ _ _ _ (@sLx _ _ _ _ _ _ _ (by decide) (@slx _ _ _ _ _ _ _ sS sl0 (by rfl))) sl0 (by rfl)) (by rfl))) sl0 (by rfl)) (by rfl)) (by rfl))) (by decide) (by rfl) (by rfl) (by first | exact a0I rfl | exact a0C rfl) (by rfl) (by first | exact .inl rfl | exact .inr rfl))
     (@ss1 _ _ _ _ _ _ (@ax _ _ _ _ _ _ _ _ (@aA _ _ _ _ _ _ _ _ _ (bf (sM 6) (@sLx _ _ _ _ _ _ _ (by decide) (@slx _ _ _ _ _ _ _ (@sTx _ _ _ _ _ _ _ (by decide) (@slx _ _ _ _ _ _ _ (@sLx _ _ _ _ _ _ _ (by decide) sl0) sl0 (by rfl))) (@slx _ _ _ _ _ _ _ (@sTx _ _ _ _ _ _ _ (by decide) (@slx _ _ _ _ _ _ _ sN sl0 (by rfl))) (@slx _ _ _ _ _ _ _ (@sTx _ _ _ _ _ _ _ (by decide) (@slx _ _ _ _ _ _ _ sI (@slx _ _ _ _ _ _ _ (@sTx _ _ _ _ _ _ _ (by decide) (@slx _ _ _ _ _ _ _ sS sl0 (by rfl))) sl0 (by rfl)) (by rfl))) sl0 (by rfl)) (by rfl)) (by rfl)))) (dg (sM 4) sI) (by intro _ _; rfl)))))) ss0)
    (@ssc _ _ _ _ _ _ _ _ (@a5 _ _ _ _ _ _ _ 6 _ _ _ _ S.nd (@sLx _ _ _ _ _ _ _ (by decide) (@slx _ _ _ _ _ _ _ (@sTx _ _ _ _ _ _ _ (by decide) (@slx _ _ _ _ _ _ _ sS (@slx _ _ _ _ _ _ _ (@sTx _ _ _ _ _ _ _ (by decide) (@slx _ _ _ _ _ _ _ (@sLx _ _ _ _ _ _ _ (by decide) (@slx _ _ _ _ _ _ _ sS sl0 (by rfl))) sl0 (by rfl))) sl0 (by rfl)) (by rfl))) (@slx _ _ _ _ _ _ _ (@sTx _ _ _ _ _ _ _ (by decide) (@slx _ _ _ _ _ _ _ sS (@slx _ _ _ _ _ _ _ sI sl0 (by rfl)) (by rfl))) (@slx _ _ _ _ _ _ _ (@sTx _ _ _ _ _ _ _ (by decide) (@slx _ _ _ _ _ _ _ (@sLx _ _ _ _ _ _ _ (by decide) (@slx _ _ _ _ _ _ _ sS sl0 (by rfl))) sl0 (by rfl))) (@slx _ _ _ _ _ _ _ (@sTx _ _ _ _ _ _ _ (by decide) (@slx _ _ _ _ _ _ _ sS (@slx _ _ _ _ _ _ _ (@sLx _ _ _ _ _ _ _ (by decide) (@slx _ _ _ _ _ _ _ sS sl0 (by rfl))) (@slx _ _ _ _ _ _ _ (@sTx _ _ _ _ _ _ _ (by decide) (@slx _ _ _ _ _ _ _ sS sl0 (by rfl))) (@slx _ _ _ _ _ _ _ (@sTx _ _ _ _ _ _ _ (by decide) (@slx _ _ _ _ _ _ _ sS sl0 (by rfl))) sl0 (by rfl)) (by rfl)) (by rfl)) (by rfl))) sl0 (by rfl)) (by rfl)) (by rfl)) (by rfl))) (by decide) (by rfl) (by rfl) (by first | exact a0I rfl | exact a0C rfl) (by rfl) (by first | exact .inl rfl | exact .inr rfl))
    (@ss1 _ _ _ _ _ _ (@ax _ _ _ _ _ _ _ _ (@aA _ _ _ _ _ _ _ _ _ (bf (sM 6) (@sLx _ _ _ _ _ _ _ (by decide) (@slx _ _ _ _ _ _ _ (@sTx _ _ _ _ _ _ _ (by decide) (@slx _ _ _ _ _ _ _ sS (@slx _ _ _ _ _ _ _ (@sTx _ _ _ _ _ _ _ (by decide) (@slx _ _ _ _ _ _ _ sS sl0 (by rfl))) (@slx _ _ _ _ _ _ _ (@sTx _ _ _ _ _ _ _ (by decide) (@slx _ _ _ _ _ _ _ sS sl0 (by rfl))) sl0 (by rfl)) (by rfl)) (by rfl))) (@slx _ _ _ _ _ _ _ (@sTx _ _ _ _ _ _ _ (by decide) (@slx _ _ _ _ _ _ _ sS (@slx _ _ _ _ _ _ _ sS (@slx _ _ _ _ _ _ _ (@sTx _ _ _ _ _ _ _ (by decide) (@slx _ _ _ _ _ _ _ sS sl0 (by rfl))) (@slx _ _ _ _ _ _ _ (@sTx _ _ _ _ _ _ _ (by decide) (@slx _ _ _ _ _ _ _ sS sl0 (by rfl))) sl0 (by rfl)) (by rfl)) (by rfl)) (by rfl))) sl0 (by rfl)) (by rfl)))) (dg (sM 4) sI) (by intro _ _; rfl))))))))))))
theorem wO:aw ["thing","words"] ["thing"] (defScope kF):=fsc
theorem yO:DD "_law_is_name" kF ["thing","words"] aB:=fun {_ _ _ _ _ _ _ _ _ _ _ s _ _} cs T G hr =>
 have S:=wO
 (@ssc _ _ _ _ _ _ _ _ (@a5 _ _ _ _ _ _ _ 1 _ _ _ _ S.nd (@sLx _ _ _ _ _ _ _ (by decide) (@slx _ _ _ _ _ _ _ sS (@slx _ _ _ _ _ _ _ sS (@slx _ _ _ _ _ _ _ sS (@slx _ _ _ _ _ _ _ sS (@slx _ _ _ _ _ _ _ sS (@slx _ _ _ _ _ _ _ sS (@slx _ _ _ _ _ _ _ sS (@slx _ _ _ _ _ _ _ sS (@slx _ _ _ _ _ _ _ sS (@slx _ _ _ _ _ _ _ sS (@slx _ _ _ _ _ _ _ sS (@slx _ _ _ _ _ _ _ sS (@slx _ _ _ _ _ _ _ sS (@slx _ _ _ _ _ _ _ sS sl0 (by rfl)) (by rfl)) (by rfl)) (by rfl)) (by rfl)) (by rfl)) (by rfl)) (by rfl)) (by rfl)) (by rfl)) (by rfl)) (by rfl)) (by rfl)) (by rfl))) (by decide) (by rfl) (by rfl) (by first | exact a0I rfl | exact a0C rfl) (by rfl) (by first | exact .inl rfl | exact .inr rfl))
    (@ssc _ _ _ _ _ _ _ _ (@a5 _ _ _ _ _ _ _ 1 _ _ _ _ S.nd (bf (sV 1) (@sLx _ _ _ _ _ _ _ (by decide) (@slx _ _ _ _ _ _ _ sS (@slx _ _ _ _ _ _ _ sS (@slx _ _ _ _ _ _ _ sS (@slx _ _ _ _ _ _ _ sS (@slx _ _ _ _ _ _ _ sS (@slx _ _ _ _ _ _ _ sS (@slx _ _ _ _ _ _ _ sS (@slx _ _ _ _ _ _ _ sS (@slx _ _ _ _ _ _ _ sS (@slx _ _ _ _ _ _ _ sS (@slx _ _ _ _ _ _ _ sS (@slx _ _ _ _ _ _ _ sS (@slx _ _ _ _ _ _ _ sS sl0 (by rfl)) (by rfl)) (by rfl)) (by rfl)) (by rfl)) (by rfl)) (by rfl)) (by rfl)) (by rfl)) (by rfl)) (by rfl)) (by rfl)) (by rfl)))) (by decide) (by rfl) (by rfl) (by first | exact a0I rfl | exact a0C rfl) (by rfl) (by first | exact .inl rfl | exact .inr rfl))
    (@ssc _ _ _ _ _ _ _ _ (@a5 _ _ _ _ _ _ _ 1 _ _ _ _ S.nd (bf (sV 1) (@sLx _ _ _ _ _ _ _ (by decide) (@slx _ _ _ _ _ _ _ sS (@slx _ _ _ _ _ _ _ sS (@slx _ _ _ _ _ _ _ sS (@slx _ _ _ _ _ _ _ sS (@slx _ _ _ _ _ _ _ sS (@slx _ _ _ _ _ _ _ sS (@slx _ _ _ _ _ _ _ sS sl0 (by rfl)) (by rfl)) (by rfl)) (by rfl)) (by rfl)) (by rfl)) (by rfl)))) (by decide) (by rfl) (by rfl) (by first | exact a0I rfl | exact a0C rfl) (by rfl) (by first | exact .inl rfl | exact .inr rfl))
    (@ssc _ _ _ _ _ _ _ _ (@zIf _ _ _ _ _ _ _ _ _ _ _ _ (tW (wOr (bz (tB (bj (by decide) a01 T.isin T.str (sV 0)))) (wOr (cQ (sV 0) (sV 1)) (wOr (bI hr (bR (hm:=T.len) (ha:=(sV 0))) sI) (wO1 (jr (bR (hm:=T.len) (ha:=(sV 0))) sI)))))) (@ss1 _ _ _ _ _ _ (@ax _ _ _ _ _ _ _ _ sO)) ss0)
    (@ss1 _ _ _ _ _ _ (@ax _ _ _ _ _ _ _ _ (sEq hr (bR (hm:=T.len) (ha:=(zp [] [] [] [] (wG (sM 0)) (fun _ _ _ _=>(uH (sV 0) sS)) (fun _ _ _ _=>(sV 0)) csc .nil .nil))) sI)))))))
theorem yp:aw ["thing","left"] ["thing","left"] (defScope kZ):=fsc
theorem y9:DD "_law_is_kind" kZ ["thing","left"] aW:=fun {_ _ _ _ _ _ _ _ _ _ _ s _ _} cs T G hr =>
 have S:=yp
 (@ssc _ _ _ _ _ _ _ _ (@zIf _ _ _ _ _ _ _ _ _ _ _ _ (tW (wOr (bI hr (sV 1) sI) (wOr (bz (tB (bj (by decide) a08 T.isin T.tup (sV 0)))) (wO1 (bI hr (bR (hm:=T.len) (ha:=(sV 0))) sI))))) (@ss1 _ _ _ _ _ _ (@ax _ _ _ _ _ _ _ _ sO)) ss0)
    (@ssc _ _ _ _ _ _ _ _ (@zIf _ _ _ _ _ _ _ _ _ _ _ _ (uS hr (@aA _ _ _ _ _ _ _ _ _ (sV 0) sI (by intro _ _; rfl)) (@sTx _ _ _ _ _ _ _ (by decide) (@slx _ _ _ _ _ _ _ sS (@slx _ _ _ _ _ _ _ sS (@slx _ _ _ _ _ _ _ sS (@slx _ _ _ _ _ _ _ sS sl0 (by rfl)) (by rfl)) (by rfl)) (by rfl)))) (@ss1 _ _ _ _ _ _ (@ax _ _ _ _ _ _ _ _ sO)) ss0)
    (@ssc _ _ _ _ _ _ _ _ (@zIf _ _ _ _ _ _ _ _ _ _ _ _ (gO hr (bR (hm:=T.len) (ha:=(sV 0))) (zg (tab:=[(a1q "num",1),(a1q "truth",1),(a1q "row",2),(a1q "pair",3)]) (pd1 d5 dB (pd1 d5 dB (pd1 d5 dB (pd1 d5 dB pd0)))) hr (@aA _ _ _ _ _ _ _ _ _ (sV 0) sI (by intro _ _; rfl)) (by rfl) (by decide) (by rfl) (by rfl) (by intro z; cases z) (by decide))) (@ss1 _ _ _ _ _ _ (@ax _ _ _ _ _ _ _ _ sO)) ss0)
    (@ss1 _ _ _ _ _ _ (@ax _ _ _ _ _ _ _ _ (kc (hm:=T.all) (ha:=(sC1 [1] [1] [("left",s.heap.objs.size+1)] ["left"] (iG (gN (sM 0) sI)) (fun _ _ _ _=>(aF cs.c231 hr (@aI _ _ _ _ _ _ _ (sV 0) (@aI _ _ _ _ _ _ _ (dg (sV 1) sI) sa0 (by intro _ z; cases z) (by rfl)) (by intro _ z; cases z) (by rfl)))) csc (yK .nil) (frc .nil)))))))))
theorem xl:aw ["thing","whole","two","many"] ["thing"] (defScope ml):=fsc
theorem zM:DD "_law_is_tree" ml ["thing","whole","two","many"] af:=fun {_ _ _ _ _ _ _ _ _ _ _ s _ _} cs T G hr =>
 have S:=xl
 (@ssc _ _ _ _ _ _ _ _ (@zIf _ _ _ _ _ _ _ _ _ _ _ _ (tW (wOr (bz (tB (bj (by decide) a08 T.isin T.tup (sV 0)))) (wOr (bI hr (bR (hm:=T.len) (ha:=(sV 0))) sI) (wO1 (bz (tB (bj (by decide) a01 T.isin T.str (@aA _ _ _ _ _ _ _ _ _ (sV 0) sI (by intro _ _; rfl))))))))) (@ss1 _ _ _ _ _ _ (@ax _ _ _ _ _ _ _ _ sO)) ss0)
    (@ssc _ _ _ _ _ _ _ _ (@zIf _ _ _ _ _ _ _ _ _ _ _ _ (bI hr (@aA _ _ _ _ _ _ _ _ _ (sV 0) sI (by intro _ _; rfl)) sS) (@ssc _ _ _ _ _ _ _ _ (@a5 _ _ _ _ _ _ _ 1 _ _ _ _ S.nd (sBW (iq (sEq hr (bR (hm:=T.len) (ha:=(sV 0))) sI) (iq (bj (by decide) a1u T.isin T.int (@aA _ _ _ _ _ _ _ _ _ (sV 0) sI (by intro _ _; rfl))) (vA1 (zJ (bj (by decide) a0X T.isin T.bool (@aA _ _ _ _ _ _ _ _ _ (sV 0) sI (by intro _ _; rfl)))))))) (by decide) (by rfl) (by rfl) (by first | exact a0I rfl | exact a0C rfl) (by rfl) (by first | exact .inl rfl | exact .inr rfl))
     (@ss1 _ _ _ _ _ _ (@ax _ _ _ _ _ _ _ _ (sBW (iq (sM 1) (iq (sGe (@aA _ _ _ _ _ _ _ _ _ (sV 0) sI (by intro _ _; rfl)) sI) (vA1 (sLe (@aA _ _ _ _ _ _ _ _ _ (sV 0) sI (by intro _ _; rfl)) (qL sI sI))))))))) ss0)
    (@ssc _ _ _ _ _ _ _ _ (@zIf _ _ _ _ _ _ _ _ _ _ _ _ (bI hr (@aA _ _ _ _ _ _ _ _ _ (sV 0) sI (by intro _ _; rfl)) sS) (@ss1 _ _ _ _ _ _ (@ax _ _ _ _ _ _ _ _ (sBW (iq (sEq hr (bR (hm:=T.len) (ha:=(sV 0))) sI) (vA1 (aF cs.c230 hr (@aI _ _ _ _ _ _ _ (@aA _ _ _ _ _ _ _ _ _ (sV 0) sI (by intro _ _; rfl)) sa0 (by intro _ z; cases z) (by rfl)))))))) ss0)
    (@ssc _ _ _ _ _ _ _ _ (@zIf _ _ _ _ _ _ _ _ _ _ _ _ (bI hr (@aA _ _ _ _ _ _ _ _ _ (sV 0) sI (by intro _ _; rfl)) sS) (@ss1 _ _ _ _ _ _ (@ax _ _ _ _ _ _ _ _ (sBW (iq (sEq hr (bR (hm:=T.len) (ha:=(sV 0))) sI) (vA1 (aF cs.c231 hr (@aI _ _ _ _ _ _ _ (@aA _ _ _ _ _ _ _ _ _ (sV 0) sI (by intro _ _; rfl)) (@aI _ _ _ _ _ _ _ sI sa0 (by intro _ z; cases z) (by rfl)) (by intro _ z; cases z) (by rfl)))))))) ss0)
    (@ssc _ _ _ _ _ _ _ _ (@zIf _ _ _ _ _ _ _ _ _ _ _ _ (cQ (@aA _ _ _ _ _ _ _ _ _ (sV 0) sI (by intro _ _; rfl)) (@sTx _ _ _ _ _ _ _ (by decide) (@slx _ _ _ _ _ _ _ sS (@slx _ _ _ _ _ _ _ sS (@slx _ _ _ _ _ _ _ sS sl0 (by rfl)) (by rfl)) (by rfl)))) (@ssc _ _ _ _ _ _ _ _ (@zIf _ _ _ _ _ _ _ _ _ _ _ _ (tW (wOr (gO hr (bR (hm:=T.len) (ha:=(sV 0))) (bf sI (hZ (hm:=T.int) (ha:=(sEq hr (@aA _ _ _ _ _ _ _ _ _ (sV 0) sI (by intro _ _; rfl)) sS))))) (wO1 (bz (tB (aF cs.c230 hr (@aI _ _ _ _ _ _ _ (@aA _ _ _ _ _ _ _ _ _ (sV 0) sI (by intro _ _; rfl)) sa0 (by intro _ z; cases z) (by rfl)))))))) (@ss1 _ _ _ _ _ _ (@ax _ _ _ _ _ _ _ _ sO)) ss0)
     (@ss1 _ _ _ _ _ _ (@ax _ _ _ _ _ _ _ _ (kc (hm:=T.all) (ha:=(sC1 [] [] [] [] (iG (gN (sM 0) sI)) (fun _ _ _ _=>(aF cs.c232 hr (@aI _ _ _ _ _ _ _ (sV 0) sa0 (by intro _ z; cases z) (by rfl)))) csc .nil .nil)))))) ss0)
    (@ssc _ _ _ _ _ _ _ _ (@zIf _ _ _ _ _ _ _ _ _ _ _ _ (tW (wOr (tB (aF cs.c230 hr (@aI _ _ _ _ _ _ _ (@aA _ _ _ _ _ _ _ _ _ (sV 0) sI (by intro _ _; rfl)) sa0 (by intro _ z; cases z) (by rfl)))) (wO1 (cQ (@aA _ _ _ _ _ _ _ _ _ (sV 0) sI (by intro _ _; rfl)) (@sTx _ _ _ _ _ _ _ (by decide) (@slx _ _ _ _ _ _ _ sS (@slx _ _ _ _ _ _ _ sS sl0 (by rfl)) (by rfl))))))) (@ss1 _ _ _ _ _ _ (@ax _ _ _ _ _ _ _ _ sO)) ss0)
    (@ssc _ _ _ _ _ _ _ _ (@a5 _ _ _ _ _ _ _ 2 _ _ _ _ S.nd (@sLx _ _ _ _ _ _ _ (by decide) (@slx _ _ _ _ _ _ _ sS (@slx _ _ _ _ _ _ _ sS (@slx _ _ _ _ _ _ _ sS (@slx _ _ _ _ _ _ _ sS (@slx _ _ _ _ _ _ _ sS (@slx _ _ _ _ _ _ _ sS (@slx _ _ _ _ _ _ _ sS (@slx _ _ _ _ _ _ _ sS (@slx _ _ _ _ _ _ _ sS (@slx _ _ _ _ _ _ _ sS (@slx _ _ _ _ _ _ _ sS (@slx _ _ _ _ _ _ _ sS (@slx _ _ _ _ _ _ _ sS sl0 (by rfl)) (by rfl)) (by rfl)) (by rfl)) (by rfl)) (by rfl)) (by rfl)) (by rfl)) (by rfl)) (by rfl)) (by rfl)) (by rfl)) (by rfl))) (by decide) (by rfl) (by rfl) (by first | exact a0I rfl | exact a0C rfl) (by rfl) (by first | exact .inl rfl | exact .inr rfl))
    (@ssc _ _ _ _ _ _ _ _ (@a5 _ _ _ _ _ _ _ 3 _ _ _ _ S.nd (dg (bf (bf sI (hZ (hm:=T.int) (ha:=(iI (@aA _ _ _ _ _ _ _ _ _ (sV 0) sI (by intro _ _; rfl)) (sV 2))))) (yW sI (hZ (hm:=T.int) (ha:=(sEq hr (@aA _ _ _ _ _ _ _ _ _ (sV 0) sI (by intro _ _; rfl)) sS))))) (hZ (hm:=T.int) (ha:=(iI (@aA _ _ _ _ _ _ _ _ _ (sV 0) sI (by intro _ _; rfl)) (@sTx _ _ _ _ _ _ _ (by decide) (@slx _ _ _ _ _ _ _ sS (@slx _ _ _ _ _ _ _ sS sl0 (by rfl)) (by rfl))))))) (by decide) (by rfl) (by rfl) (by first | exact a0I rfl | exact a0C rfl) (by rfl) (by first | exact .inl rfl | exact .inr rfl))
    (@ssc _ _ _ _ _ _ _ _ (@zIf _ _ _ _ _ _ _ _ _ _ _ _ (tW (wOr (gO hr (@aA _ _ _ _ _ _ _ _ _ (sV 0) sI (by intro _ _; rfl)) (vD (@aA _ _ _ _ _ _ _ _ _ (sV 0) sI (by intro _ _; rfl)))) (wOr (cQ (@aA _ _ _ _ _ _ _ _ _ (sV 0) sI (by intro _ _; rfl)) (@sTx _ _ _ _ _ _ _ (by decide) (@slx _ _ _ _ _ _ _ sS (@slx _ _ _ _ _ _ _ sS sl0 (by rfl)) (by rfl)))) (wO1 (gO hr (bR (hm:=T.len) (ha:=(sV 0))) (bf (sV 3) sI)))))) (@ss1 _ _ _ _ _ _ (@ax _ _ _ _ _ _ _ _ sO)) ss0)
    (@ss1 _ _ _ _ _ _ (@ax _ _ _ _ _ _ _ _ (kc (hm:=T.all) (ha:=(sC1 [] [] [] [] (iG (gN (sM 0) sI)) (fun _ _ _ _=>(aF cs.c232 hr (@aI _ _ _ _ _ _ _ (sV 0) sa0 (by intro _ z; cases z) (by rfl)))) csc .nil .nil))))))))))))))
theorem S0:aw ["script","tree","names","thing","told","cell"] ["script"] (defScope s0):=fsc
theorem D0:DD "law" s0 ["script","tree","names","thing","told","cell"] f_law:=fun {_ _ _ _ _ _ _ _ _ _ _ s _ _} cs T G hr =>
 have S:=S0
 (@ssc _ _ _ _ _ _ _ _ (@a5 _ _ _ _ _ _ _ 1 _ _ _ _ S.nd (aF cs.c229 hr (@aI _ _ _ _ _ _ _ (rj (hm:=T.list) (ha:=(qF (sV 0) sI))) (@aI _ _ _ _ _ _ _ sI sa0 (by intro _ z; cases z) (by rfl)) (by intro _ z; cases z) (by rfl))) (by decide) (by rfl) (by rfl) (by first | exact a0I rfl | exact a0C rfl) (by rfl) (by first | exact .inl rfl | exact .inr rfl))
    (@ssc _ _ _ _ _ _ _ _ (@zIf _ _ _ _ _ _ _ _ _ _ _ _ (rQ (aF cs.c227 hr (@aI _ _ _ _ _ _ _ (sV 1) sa0 (by intro _ z; cases z) (by rfl))) sO) (@ss1 _ _ _ _ _ _ (@ax _ _ _ _ _ _ _ _ sO)) ss0)
    (@ssc _ _ _ _ _ _ _ _ (@a5 _ _ _ _ _ _ _ 2 _ _ _ _ S.nd (@sLx _ _ _ _ _ _ _ (by decide) (@slx _ _ _ _ _ _ _ sS (@slx _ _ _ _ _ _ _ sS (@slx _ _ _ _ _ _ _ sS (@slx _ _ _ _ _ _ _ sS (@slx _ _ _ _ _ _ _ sS (@slx _ _ _ _ _ _ _ sS (@slx _ _ _ _ _ _ _ sS (@slx _ _ _ _ _ _ _ sS (@slx _ _ _ _ _ _ _ sS (@slx _ _ _ _ _ _ _ sS (@slx _ _ _ _ _ _ _ sS (@slx _ _ _ _ _ _ _ sS (@slx _ _ _ _ _ _ _ sS (@slx _ _ _ _ _ _ _ sS sl0 (by rfl)) (by rfl)) (by rfl)) (by rfl)) (by rfl)) (by rfl)) (by rfl)) (by rfl)) (by rfl)) (by rfl)) (by rfl)) (by rfl)) (by rfl)) (by rfl))) (by decide) (by rfl) (by rfl) (by first | exact a0I rfl | exact a0C rfl) (by rfl) (by first | exact .inl rfl | exact .inr rfl))
    (@ssc _ _ _ _ _ _ _ _ (mF 3 S.nd (iG (bf (sV 2) (@sLx _ _ _ _ _ _ _ (by decide) (@slx _ _ _ _ _ _ _ sS (@slx _ _ _ _ _ _ _ sS (@slx _ _ _ _ _ _ _ sS (@slx _ _ _ _ _ _ _ sS (@slx _ _ _ _ _ _ _ sS (@slx _ _ _ _ _ _ _ sN (@slx _ _ _ _ _ _ _ sI (@slx _ _ _ _ _ _ _ sO (@slx _ _ _ _ _ _ _ (@sTx _ _ _ _ _ _ _ (by decide) (@slx _ _ _ _ _ _ _ sS sl0 (by rfl))) (@slx _ _ _ _ _ _ _ (@sLx _ _ _ _ _ _ _ (by decide) (@slx _ _ _ _ _ _ _ sS sl0 (by rfl))) sl0 (by rfl)) (by rfl)) (by rfl)) (by rfl)) (by rfl)) (by rfl)) (by rfl)) (by rfl)) (by rfl)) (by rfl))))) (@ssc _ _ _ _ _ _ _ _ (@a5 _ _ _ _ _ _ _ 4 _ _ _ _ S.nd (aF cs.c226 hr (@aI _ _ _ _ _ _ _ (sV 3) sa0 (by intro _ z; cases z) (by rfl))) (by decide) (by rfl) (by rfl) (by first | exact a0I rfl | exact a0C rfl) (by rfl) (by first | exact .inl rfl | exact .inr rfl))
     (@ss1 _ _ _ _ _ _ (@zIf _ _ _ _ _ _ _ _ _ _ _ _ (tW (wOr (bz (tB (bj (by decide) a0X T.isin T.bool (sV 4)))) (wO1 (gO hr (sV 4) (aF cs.c230 hr (@aI _ _ _ _ _ _ _ (sV 3) sa0 (by intro _ z; cases z) (by rfl))))))) (@ss1 _ _ _ _ _ _ (@ax _ _ _ _ _ _ _ _ sO)) ss0))))
    (@ssc _ _ _ _ _ _ _ _ (mF 5 S.nd (iG (sIf (jr (bR (hm:=T.len) (ha:=(sV 0))) sI) (qF (sV 0) sI) (@sLx _ _ _ _ _ _ _ (by decide) (@slx _ _ _ _ _ _ _ sI sl0 (by rfl))))) (@ssc _ _ _ _ _ _ _ _ (@a5 _ _ _ _ _ _ _ 3 _ _ _ _ S.nd (aF cs.c222 hr (@aI _ _ _ _ _ _ _ (sV 1) (@aI _ _ _ _ _ _ _ (sV 5) sa0 (by intro _ z; cases z) (by rfl)) (by intro _ z; cases z) (by rfl))) (by decide) (by rfl) (by rfl) (by first | exact a0I rfl | exact a0C rfl) (by rfl) (by first | exact .inl rfl | exact .inr rfl))
     (@ssc _ _ _ _ _ _ _ _ (@a5 _ _ _ _ _ _ _ 4 _ _ _ _ S.nd (aF cs.c227 hr (@aI _ _ _ _ _ _ _ (sV 3) sa0 (by intro _ z; cases z) (by rfl))) (by decide) (by rfl) (by rfl) (by first | exact a0I rfl | exact a0C rfl) (by rfl) (by first | exact .inl rfl | exact .inr rfl))
     (@ss1 _ _ _ _ _ _ (@zIf _ _ _ _ _ _ _ _ _ _ _ _ (tW (wOr (bz (tB (bj (by decide) a0X T.isin T.bool (sV 4)))) (wO1 (gO hr (sV 4) (aF cs.c232 hr (@aI _ _ _ _ _ _ _ (sV 3) sa0 (by intro _ z; cases z) (by rfl))))))) (@ss1 _ _ _ _ _ _ (@ax _ _ _ _ _ _ _ _ sO)) ss0)))))
    (@ss1 _ _ _ _ _ _ (@ax _ _ _ _ _ _ _ _ sO)))))))
end A08

namespace A08
open PySem PySem.Spec PyProof.Rows L2 L3 MR
noncomputable abbrev Cl (n:Nat):M.Call:=M.callR prog 1000000 1000001 n
section
variable {P:Program}{w:World}{K:a0a}{mg:Str->Option Value}{base:Heap}
theorem all (d215:Df K mg "is_kind" lg ["thing"])(d216:Df K mg "is_kind_within" mU ["thing","depth"])(d2:Df K mg "is_worth" s2 ["kind","thing"])(d3:Df K mg "is_number" s3 ["thing"])(d226:Df K mg "is_name" kW ["thing"])(d227:Df K mg "is_tree" mO ["thing"])(d228:Df K mg "may_stand_ahead" mm ["what","thing"])(d175:Df K mg "parts_start" mL ["sign"])(d171:Df K mg "_law_kind" nD ["cell","left"])(d220:Df K mg "_law_leaf" mY ["cell"])(d229:Df K mg "_law_tree" nv ["cells","left"])(d222:Df K mg "_law_bent" kr ["tree","cell"])(d230:Df K mg "_law_is_name" kF ["thing"])(d231:Df K mg "_law_is_kind" kZ ["thing","left"])(d232:Df K mg "_law_is_tree" ml ["thing"])  (T:Txt mg)(G:Glb K w mg):∀ n,Calls P w K mg base n (Cl n)
 | 0 =>
  have c215:ae P w K mg base 0 (Cl 0) "is_kind" 215 []:=d215.z
  have c216:ae P w K mg base 0 (Cl 0) "is_kind_within" 216 []:=d216.z
  have c2:ae P w K mg base 0 (Cl 0) "is_worth" 2 []:=d2.z
  have c3:ae P w K mg base 0 (Cl 0) "is_number" 3 []:=d3.z
  have c226:ae P w K mg base 0 (Cl 0) "is_name" 226 []:=d226.z
  have c227:ae P w K mg base 0 (Cl 0) "is_tree" 227 []:=d227.z
  have c228:ae P w K mg base 0 (Cl 0) "may_stand_ahead" 228 []:=d228.z
  have c175:ae P w K mg base 0 (Cl 0) "parts_start" 175 []:=d175.z
  have c171:ae P w K mg base 0 (Cl 0) "_law_kind" 171 []:=d171.z
  have c220:ae P w K mg base 0 (Cl 0) "_law_leaf" 220 []:=d220.z
  have c229:ae P w K mg base 0 (Cl 0) "_law_tree" 229 [0]:=d229.z
  have c222:ae P w K mg base 0 (Cl 0) "_law_bent" 222 []:=d222.z
  have c230:ae P w K mg base 0 (Cl 0) "_law_is_name" 230 []:=d230.z
  have c231:ae P w K mg base 0 (Cl 0) "_law_is_kind" 231 []:=d231.z
  have c232:ae P w K mg base 0 (Cl 0) "_law_is_tree" 232 []:=d232.z
  ⟨c215,c216,c2,c3,c226,c227,c228,c175,c171,c220,c229,c222,c230,c231,c232,fun _=>rfl,fun _=>rfl⟩
 | n+1 =>
  have c:=all d215 d216 d2 d3 d226 d227 d228 d175 d171 d220 d229 d222 d230 d231 d232  T G n
  have c215:ae P w K mg base (n+1) (Cl (n+1)) "is_kind" 215 []:=d215.s bM yf (C:=Cl n) (by intro f cdv A outer s H E h; exact @zH P w K mg base n (Cl n) f cdv A outer s H E c T G h)
  have c216:ae P w K mg base (n+1) (Cl (n+1)) "is_kind_within" 216 []:=d216.s aM wN (C:=Cl n) (by intro f cdv A outer s H E h; exact @zx P w K mg base n (Cl n) f cdv A outer s H E c T G h)
  have c2:ae P w K mg base (n+1) (Cl (n+1)) "is_worth" 2 []:=d2.s bp S2 (C:=Cl n) (by intro f cdv A outer s H E h; exact @D2 P w K mg base n (Cl n) f cdv A outer s H E c T G h)
  have c3:ae P w K mg base (n+1) (Cl (n+1)) "is_number" 3 []:=d3.s bc S3 (C:=Cl n) (by intro f cdv A outer s H E h; exact @D3 P w K mg base n (Cl n) f cdv A outer s H E c T G h)
  have c226:ae P w K mg base (n+1) (Cl (n+1)) "is_name" 226 []:=d226.s aV we (C:=Cl n) (by intro f cdv A outer s H E h; exact @yY P w K mg base n (Cl n) f cdv A outer s H E c T G h)
  have c227:ae P w K mg base (n+1) (Cl (n+1)) "is_tree" 227 []:=d227.s aD wj (C:=Cl n) (by intro f cdv A outer s H E h; exact @y8 P w K mg base n (Cl n) f cdv A outer s H E c T G h)
  have c228:ae P w K mg base (n+1) (Cl (n+1)) "may_stand_ahead" 228 []:=d228.s au xu (C:=Cl n) (by intro f cdv A outer s H E h; exact @yM P w K mg base n (Cl n) f cdv A outer s H E c T G h)
  have c175:ae P w K mg base (n+1) (Cl (n+1)) "parts_start" 175 []:=d175.s aQ yF (C:=Cl n) (by intro f cdv A outer s H E h; exact @yP P w K mg base n (Cl n) f cdv A outer s H E c T G h)
  have c171:ae P w K mg base (n+1) (Cl (n+1)) "_law_kind" 171 []:=d171.s aJ xK (C:=Cl n) (by intro f cdv A outer s H E h; exact @zy P w K mg base n (Cl n) f cdv A outer s H E c T G h)
  have c220:ae P w K mg base (n+1) (Cl (n+1)) "_law_leaf" 220 []:=d220.s bw wX (C:=Cl n) (by intro f cdv A outer s H E h; exact @zv P w K mg base n (Cl n) f cdv A outer s H E c T G h)
  have c229:ae P w K mg base (n+1) (Cl (n+1)) "_law_tree" 229 [0]:=d229.s f_law_tree wD (C:=Cl n) (by intro f cdv A outer s H E h; exact @zq P w K mg base n (Cl n) f cdv A outer s H E c T G h)
  have c222:ae P w K mg base (n+1) (Cl (n+1)) "_law_bent" 222 []:=d222.s f_law_bent wZ (C:=Cl n) (by intro f cdv A outer s H E h; exact @zC P w K mg base n (Cl n) f cdv A outer s H E c T G h)
  have c230:ae P w K mg base (n+1) (Cl (n+1)) "_law_is_name" 230 []:=d230.s aB wO (C:=Cl n) (by intro f cdv A outer s H E h; exact @yO P w K mg base n (Cl n) f cdv A outer s H E c T G h)
  have c231:ae P w K mg base (n+1) (Cl (n+1)) "_law_is_kind" 231 []:=d231.s aW yp (C:=Cl n) (by intro f cdv A outer s H E h; exact @y9 P w K mg base n (Cl n) f cdv A outer s H E c T G h)
  have c232:ae P w K mg base (n+1) (Cl (n+1)) "_law_is_tree" 232 []:=d232.s af xl (C:=Cl n) (by intro f cdv A outer s H E h; exact @zM P w K mg base n (Cl n) f cdv A outer s H E c T G h)
  ⟨c215,c216,c2,c3,c226,c227,c228,c175,c171,c220,c229,c222,c230,c231,c232,fun ws=>M.zf_no _ ws,fun ws=>M.zf_no _ ws⟩
end
theorem pure_law:∀ ns:List Int,ns.length<=63->∃ m bs,Cl 40 0 [(.d,.scr ns)]=.ok ((m,.bl true),bs):=fun ns _=>P08.pure_law ns
theorem all_mk {l:a1Y}{w:World}{K:a0a}{h:Heap}{mg:Str->Option Value}{fa:Addr}(X:K.In h)(G:h.Ns mainGlobals mg)(hfa:mg "law"=some (.ref fa))(r215:Raw K "is_kind" lg .none)(r216:Raw K "is_kind_within" mU .none)(r2:Raw K "is_worth" s2 .none)(r3:Raw K "is_number" s3 .none)(r226:Raw K "is_name" kW .none)(r227:Raw K "is_tree" mO .none)(r228:Raw K "may_stand_ahead" mm .none)(r175:Raw K "parts_start" mL .none)(r171:Raw K "_law_kind" nD .none)(r220:Raw K "_law_leaf" mY .none)(r229:Raw K "_law_tree" nv .none)(r222:Raw K "_law_bent" kr .none)(r230:Raw K "_law_is_name" kF .none)(r231:Raw K "_law_is_kind" kZ .none)(r232:Raw K "_law_is_tree" ml .none)(r0:Raw K "law" s0 .none)(g0:∃ t,a1l K mainGlobals "DEEPEST"=some (some (.int 5 t)))(g1:∃ t,a1l K mainGlobals "GREATEST"=some (some (.int 1000000000000000000 t)))(g2:∃ t,a1l K mainGlobals "LONGEST_NAME"=some (some (.int 8 t)))(q_AHEAD:∃ T,TabRaw K w "AHEAD" T/\T.map a1N=keys_AHEAD/\CstL K tab_AHEAD T)(q_PARTS:∃ T,TabRaw K w "PARTS" T/\T.map a1N=keys_PARTS/\CstL K tab_PARTS T)(q_WITHIN:∃ T,TabRaw K w "WITHIN" T/\T.map a1N=keys_WITHIN/\CstL K tab_WITHIN T)(tx:ux K ["isinstance","int","tuple","list","bool","sum","len","all","zip","range","enumerate","any","max","min","sorted","str","repr","abs","dict","set","reversed"]) :
  ∃ fd:FuncData,(∀ (s:Shared) (v:Value),BindsTo s fd ⟨[v],[]⟩ [("script",v)])/\∀ base:Heap,K.In base->base.Ns mainGlobals mg->cx l.prog w K mg base CX0 40 fa fd ["script"] (spS K (Cl 40) 0 []):=by
 have d215:Df K mg "is_kind" lg ["thing"]:=bq X G r215 fun _ _ _ _ _ _ us hl=>match us,hl with | [_],_=>rfl
 have d216:Df K mg "is_kind_within" mU ["thing","depth"]:=bq X G r216 fun _ _ _ _ _ _ us hl=>match us,hl with | [_,_],_=>rfl
 have d2:Df K mg "is_worth" s2 ["kind","thing"]:=bq X G r2 fun _ _ _ _ _ _ us hl=>match us,hl with | [_,_],_=>rfl
 have d3:Df K mg "is_number" s3 ["thing"]:=bq X G r3 fun _ _ _ _ _ _ us hl=>match us,hl with | [_],_=>rfl
 have d226:Df K mg "is_name" kW ["thing"]:=bq X G r226 fun _ _ _ _ _ _ us hl=>match us,hl with | [_],_=>rfl
 have d227:Df K mg "is_tree" mO ["thing"]:=bq X G r227 fun _ _ _ _ _ _ us hl=>match us,hl with | [_],_=>rfl
 have d228:Df K mg "may_stand_ahead" mm ["what","thing"]:=bq X G r228 fun _ _ _ _ _ _ us hl=>match us,hl with | [_,_],_=>rfl
 have d175:Df K mg "parts_start" mL ["sign"]:=bq X G r175 fun _ _ _ _ _ _ us hl=>match us,hl with | [_],_=>rfl
 have d171:Df K mg "_law_kind" nD ["cell","left"]:=bq X G r171 fun _ _ _ _ _ _ us hl=>match us,hl with | [_,_],_=>rfl
 have d220:Df K mg "_law_leaf" mY ["cell"]:=bq X G r220 fun _ _ _ _ _ _ us hl=>match us,hl with | [_],_=>rfl
 have d229:Df K mg "_law_tree" nv ["cells","left"]:=bq X G r229 fun _ _ _ _ _ _ us hl=>match us,hl with | [_,_],_=>rfl
 have d222:Df K mg "_law_bent" kr ["tree","cell"]:=bq X G r222 fun _ _ _ _ _ _ us hl=>match us,hl with | [_,_],_=>rfl
 have d230:Df K mg "_law_is_name" kF ["thing"]:=bq X G r230 fun _ _ _ _ _ _ us hl=>match us,hl with | [_],_=>rfl
 have d231:Df K mg "_law_is_kind" kZ ["thing","left"]:=bq X G r231 fun _ _ _ _ _ _ us hl=>match us,hl with | [_,_],_=>rfl
 have d232:Df K mg "_law_is_tree" ml ["thing"]:=bq X G r232 fun _ _ _ _ _ _ us hl=>match us,hl with | [_],_=>rfl
 have T:=uI X G tx
 obtain ⟨_,q_AHEAD,qk_AHEAD,qc_AHEAD⟩:=q_AHEAD
 obtain ⟨_,q_PARTS,qk_PARTS,qc_PARTS⟩:=q_PARTS
 obtain ⟨_,q_WITHIN,qk_WITHIN,qc_WITHIN⟩:=q_WITHIN
 have Gm:Glb K w mg:=⟨(let ⟨t,z⟩:=g0; ⟨t,a1p X G z⟩),(let ⟨t,z⟩:=g1; ⟨t,a1p X G z⟩),(let ⟨t,z⟩:=g2; ⟨t,a1p X G z⟩),(fj X G q_AHEAD qk_AHEAD),(fq X G q_AHEAD qc_AHEAD),(fj X G q_PARTS qk_PARTS),(fq X G q_PARTS qc_PARTS),(fj X G q_WITHIN qk_WITHIN),(fq X G q_WITHIN qc_WITHIN)⟩
 exact n8 X G hfa r0 (fun _ _ _ _ _ _ _ _=>.of_eq rfl) fun f fd F base=>Fun.okM F S0 rfl (by decide) (by decide) (by decide) (fun _ _ _ _ _ _ h=>D0 (all d215 d216 d2 d3 d226 d227 d228 d175 d171 d220 d229 d222 d230 d231 d232  T Gm 39) T Gm h) fun _=>rfl
end A08

set_option maxHeartbeats 0
namespace H08
open PySem PySem.W TP
noncomputable abbrev pr:Program:=PySem.Challenge.pw_broadrow_k08_trees_known
noncomputable def tn (i:Nat):Stmt:=pr.main.body.getD i (.Pass p0)
noncomputable def rc:List Rc:=[.m,
.c,
.x "WITHIN" 203 (.ref 15) (fun P=>[di [en P "num" 191 (.int (0) 192),en P "truth" 193 (.int (0) 194),en P "pair" 195 (.int (2) 196),en P "row" 197 (.int (1) 198)] 4]) [] 16 204,
.d,
.d,
.m,
.c,
.c,
.d,
.d,
.d,
.d,
.m,
.x "PARTS" 350 (.ref 54) (fun P=>[di [en P "num" 254 (.int (0) 255),en P "yes" 257 (.int (0) 258),en P "no" 260 (.int (0) 261),en P "name" 263 (.int (0) 264),en P "none" 266 (.int (0) 267),en P "not" 269 (.int (1) 270),en P "first" 272 (.int (1) 273),en P "second" 275 (.int (1) 276),en P "one" 278 (.int (1) 279),en P "upto" 281 (.int (1) 282),en P "long" 284 (.int (1) 285),en P "sum" 287 (.int (1) 288),en P "sums" 290 (.int (1) 291),en P "most" 293 (.int (1) 294),en P "flat" 296 (.int (1) 297),en P "add" 299 (.int (2) 300),en P "sub" 302 (.int (2) 303),en P "mul" 305 (.int (2) 306),en P "div" 307 (.int (2) 308),en P "rest" 309 (.int (2) 310),en P "less" 311 (.int (2) 312),en P "same" 313 (.int (2) 314),en P "both" 315 (.int (2) 316),en P "pair" 317 (.int (2) 318),en P "pick" 319 (.int (2) 320),en P "join" 321 (.int (2) 322),en P "keep" 323 (.int (2) 324),en P "cut" 325 (.int (2) 326),en P "let" 327 (.int (2) 328),en P "if" 329 (.int (3) 330),en P "each" 331 (.int (2) 332),en P "times" 333 (.int (3) 334)] 32,di [en P "mul" 305 (.int (2) 306),en P "div" 307 (.int (2) 308),en P "rest" 309 (.int (2) 310),en P "less" 311 (.int (2) 312),en P "same" 313 (.int (2) 314),en P "both" 315 (.int (2) 316),en P "pair" 317 (.int (2) 318),en P "pick" 319 (.int (2) 320),en P "join" 321 (.int (2) 322),en P "keep" 323 (.int (2) 324),en P "cut" 325 (.int (2) 326),en P "let" 327 (.int (2) 328),en P "if" 329 (.int (3) 330),en P "each" 331 (.int (2) 332),en P "times" 333 (.int (3) 334)] 15]) [] 56 351,
.x "AHEAD" 369 (.ref 56) (fun P=>[di [en P "num" 351 (.str "number" 352),en P "name" 353 (.str "name" 354),en P "none" 355 (.str "kind" 356),en P "let" 357 (.str "name" 358),en P "each" 359 (.str "name" 360),en P "times" 361 (.str "name" 362)] 6]) [] 57 370,
.c,
.d,
.d,
.d,
.d,
.m,
.d,
.d,
.d,
.d,
.d,
.d,
.d,
.d]
theorem c0 (w:World):Cut pr rc 0 15 187 p0 2 19 15 191 ⟨2,0,2,7⟩ w:=fun o=>by kernel_rfl
theorem c2 (w:World):Cut pr rc 2 15 191 ⟨2,0,2,7⟩ 1 71 16 204 ⟨3,0,3,6⟩ w:=byRow2 (P:=Cut pr rc 2 15 191 ⟨2,0,2,7⟩ 1 71 16 204 ⟨3,0,3,6⟩) "special-get-raises" (fun w o=>by kernel_rfl) (fun w o=>by kernel_rfl) w
theorem c3 (w:World):Cut pr rc 3 16 204 ⟨3,0,3,6⟩ 10 207 54 254 ⟨37,0,37,8⟩ w:=fun o=>by kernel_rfl
theorem c13 (w:World):Cut pr rc 13 54 254 ⟨37,0,37,8⟩ 1 588 56 351 ⟨38,0,38,5⟩ w:=byRow2 (P:=Cut pr rc 13 54 254 ⟨37,0,37,8⟩ 1 588 56 351 ⟨38,0,38,5⟩) "special-get-raises" (fun w o=>by kernel_rfl) (fun w o=>by kernel_rfl) w
theorem c14 (w:World):Cut pr rc 14 56 351 ⟨38,0,38,5⟩ 1 101 57 370 ⟨39,0,39,5⟩ w:=byRow2 (P:=Cut pr rc 14 56 351 ⟨38,0,38,5⟩ 1 101 57 370 ⟨39,0,39,5⟩) "special-get-raises" (fun w o=>by kernel_rfl) (fun w o=>by kernel_rfl) w
theorem c15 (w:World):Cut pr rc 15 57 370 ⟨39,0,39,5⟩ 14 376 131 477 ⟨147,0,161,15⟩ w:=fun o=>by kernel_rfl
theorem ch:Ch pr rc 29 131 477 0 15 187 p0 (19+(71+(207+(588+(101+(376+(2))))))):=b4 c0 ( b4 c2 ( b4 c3 ( b4 c13 ( b4 c14 ( b4 c15 (uf (by kernel_rfl)))))))
noncomputable def q:Program:=view pr [28]
noncomputable def lo:List Str:=(["DEEPEST","WITHIN","is_kind","is_kind_within","GREATEST","LONGEST","is_worth","is_number","is_pair","is_row","PARTS","AHEAD","LONGEST_NAME","is_name","is_tree","may_stand_ahead","parts_start","_law_kind","_law_leaf","_law_tree","_law_bent","_law_is_name","_law_is_kind","_law_is_tree"]:List String).map Str.ofString
noncomputable def as:List Addr:=[3,15,21,22,26,27,33,34,40,41,47,48,52,53,54,56,60,61,65,66,72,73,79,80,86,87,93,94,100,101,107,108,112,113,117,118,122,123,129,130]
noncomputable def K:Params->Frag:=kK pr rc 29 as
noncomputable def hk:Hook:=hkk pr rc 29 131
noncomputable abbrev Xt (s:Shared):Bool:=xlAt q [] s&&recOk (RowW.records (OpenRow.toRowW (OpenLaw.row PySem.Challenge.rw_broadrow_k08_trees_known))) s
theorem kin (w:World)(h:Heap)(Y:hk.says w h):(K w.params).In h:=zd (by kernel_rfl) (by kernel_rfl) Y
theorem lk (w:World):(fun o=>((staticsOk (importedModules pr.main.body) (boot_heap w.params) (hp pr rc 29 131 w.params)&&namesBound pr (hp pr rc 29 131 w.params)&&gensDone ⟨hp pr rc 29 131 w.params,#[],{},477,o⟩&&laidKept (boot_heap w.params) (hp pr rc 29 131 w.params)),openSeen q lo (importedModules pr.main.body) Xt true ⟨hp pr rc 29 131 w.params,#[],{},477,o⟩,Hook.obs hk ⟨hp pr rc 29 131 w.params,#[],{},477,o⟩))=fun _=>(true,openGood q lo,Hook.val hk w):=by kernel_rfl
theorem e1:opening pr=plainProg pr.main.scope.names:=by kernel_rfl
theorem e2:behindTheImports pr=pr.main.body:=by kernel_rfl
theorem e3 (s:Shared):fenceModules? pr s=some s:=by kernel_rfl
theorem pre (w:World)(o:OsState):topGo treeTable pr w 11 an 12 ⟨boot_heap w.params,a2B [],boot_drawn,boot_toks,o⟩ (topStub pr)=some ((sT pr rc w.params 0 15 187 o).abs,⟨denote treeTable (cE pr),cE pr,p0,B0⟩):=by kernel_rfl
theorem blk (w:World)(o:OsState):segRun treeTable pr w 11 an 1 1 (sT pr rc w.params 0 15 187 o).abs (blockOf (behindTheImports pr) (ev pr) (cE pr) p0 B0)=some (.next,(sT pr rc w.params 0 15 187 o).abs,cE pr,p0):=by kernel_rfl
theorem left:LeftO pr q lo Xt (Hook.obs hk) (Hook.val hk) 2838:=nX e1 (by kernel_rfl) e3 e2 oU pre blk ch (by kernel_rfl) lk
end H08

set_option maxHeartbeats 4000000
open PySem PySem.W PyProof.Rows
set_option maxRecDepth 100000 in
set_option maxHeartbeats 0 in
theorem PySem.Challenge.cw_broadrow_k08_trees_known_holds : PySem.Challenge.rw_broadrow_k08_trees_known.Holds := by
 w_on; o_law
 refine holds_open (q:=H08.q) (loose:=H08.lo) (Xt:=H08.Xt) (XP:=XL H08.q []) (Yf:=Hook.obs H08.hk) (Ya:=Hook.val H08.hk) (YP:=Hook.says H08.hk) (N:=2838) (d:=TP.drec (H08.tn 28)) (kwd:=[]) H08.left (Hook.of H08.hk) (Hook.keeps H08.hk) (fun s e=>xl_of s (a0w.mp e).1) XL.keeps (by kernel_rfl) (by kernel_rfl) (by kernel_rfl) (fun s e=>recFacts_of (a0w.mp e).2) (by rfl) (by first | assumption | decide +kernel) (by decide +kernel) ⟨rfl,rfl,rfl,rfl,rfl,by decide +kernel⟩ ?hw ?hc
 case hw=>w_witness2
 refine MR.walkX (sx:="script") (l:=PySem.Challenge.rw_broadrow_k08_trees_known) (k:=40) (C:=A08.Cl 40) (ix:=0) (K:=H08.K) A08.pure_law rfl (by kernel_rfl) ⟨rfl,by decide,by decide⟩ H08.kin ?F
 case F =>
  intro w mg fa h KX G hmg
  refine' A08.all_mk KX G hmg ?zr215 ?zr216 ?zr2 ?zr3 ?zr226 ?zr227 ?zr228 ?zr175 ?zr171 ?zr220 ?zr229 ?zr222 ?zr230 ?zr231 ?zr232 ?zr0 ?zg0 ?zg1 ?zg2 ?zq_AHEAD ?zq_PARTS ?zq_WITHIN ?ztx
  case zg0=>exact ⟨TP.tkO (nsIn (H08.K w.params) mainGlobals "DEEPEST"),by kernel_rfl⟩
  case zg1=>exact ⟨TP.tkO (nsIn (H08.K w.params) mainGlobals "GREATEST"),by kernel_rfl⟩
  case zg2=>exact ⟨TP.tkO (nsIn (H08.K w.params) mainGlobals "LONGEST_NAME"),by kernel_rfl⟩
  case zq_AHEAD=>exact ⟨_,TP.tab_mk (by kernel_rfl) (by kernel_rfl) (by kernel_rfl) (by kernel_rfl),by kernel_rfl,TP.cst_of (n:=9) (by kernel_rfl)⟩
  case zq_PARTS=>exact ⟨_,TP.tab_mk (by kernel_rfl) (by kernel_rfl) (by kernel_rfl) (by kernel_rfl),by kernel_rfl,TP.cst_of (n:=9) (by kernel_rfl)⟩
  case zq_WITHIN=>exact ⟨_,TP.tab_mk (by kernel_rfl) (by kernel_rfl) (by kernel_rfl) (by kernel_rfl),by kernel_rfl,TP.cst_of (n:=9) (by kernel_rfl)⟩
  case ztx=>refine' ⟨?_,?_,?_,?_,?_,?_,?_,?_,?_,?_,?_,?_,?_,?_,?_,?_,?_,?_,?_,?_,?_,trivial⟩<;>kernel_rfl
  all_goals exact TP.raw_mk (by kernel_rfl) (by kernel_rfl) (by kernel_rfl) (by kernel_rfl)
