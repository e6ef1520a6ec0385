import PyProof.Rows.All
import Wide.All
import OpenK.AllK
import Wide.FinOn
import Lean
import PyProof.EqAt
import PyProof.EqKinds
import PyProof.TupleCall
import PySem.Challenge.RW_broadrow_k11_programs_known
open PySem.W renaming Frag → a0a, kia_one → a0L, nsIn → a1d, mg_of → a1e, fnOf → a1j, kitOne → a1o, keepIn → a1P, codeIn → a12, methodObj → a14, kitx_list → a16, cellsFrom_some → a2e, instObj → a2g, OpenLaw → a2k, lookIn → a2r, kitx_tuple → a2x, kitx_dict → a2E, plainGet → a2I, KeysLit → a2Q, findIn → a2T, WalkO → a2Y
open List renaming length_map → a0b, length_cons → a0c, length_append → a0e, mem_cons_self → a0f, mem_cons_of_mem → a0g, getElem?_eq_getElem → a0h, replicate → a0i, size_toArray → a0k, mem_append_right → a0l, map_cons → a0m, drop_succ_cons → a0o, getD_eq_getElem?_getD → a0p, take_succ_cons → a0q, mem_cons → a0s, mem_singleton → a0t, getElem?_cons_succ → a0u, length_singleton → a0v, getElem?_eq_some_iff → a0w, drop_zero → a0x, getElem?_map → a0A, take_zero → a0D, length_replicate → a0F, range → a0M, map_map → a0N, filterMap_cons → a0O, append_nil → a0P, replicate_succ → a0Q, mem_append → a0S, nil_append → a0T, length → a0V, append_assoc → a0W, map_append → a0Z, length_nil → a00, mem_append_left → a01, getElem?_append_right → a02, getElem?_append_left → a04, map_nil → a05, all_eq_true → a06, not_mem_nil → a08, length_drop → a1a, lookup_cons → a1b, mem_of_getElem? → a1g, nodup_cons → a1h, length_range → a1i, mem_map → a1k, getElem?_cons_zero → a1l, sum_cons → a1m, cons_append → a1n, take_of_length_le → a1p, all_cons → a1s, getElem?_set_ne → a1u, getElem_mem → a1y, map_congr_left → a1A, getElem?_replicate → a1D, getElem?_set_self → a1I, flatten_cons → a1L, mem_range → a1O, length_take → a1U, drop_eq_getElem_cons → a13, any_cons → a17, length_eq_zero_iff → a2b, countP_cons → a2d, range_succ_eq_map → a2f, of_mem_zip → a2i, foldl_cons → a2j, concat_eq_append → a2p, mem_filterMap → a2v, contains_cons → a2z, all_nil → a2H, drop_length → a2L, mem_filter → a2P, length_set → a2S, foldl → a2V, take_nil → a2Z, drop_nil → a20
open Bool renaming false_ne_true → a0d, and_eq_true → a0j, false_and → a0B, and_eq_true_iff → a0H, true_and → a0J, and_false → a0R, not_false → a0U, bne_false → a1v, not_true → a1V, true_or → a11, eq_iff_iff → a2l, false_eq_true → a2A, or_eq_true → a2R, or_false → a2X
open Nat renaming lt_of_lt_of_le → a0n, le_refl → a0r, ne_of_lt → a0y, le_trans → a0z, zero_add → a09, lt_irrefl → a1c, zero_le → a1f, lt_succ_of_lt → a1M, le_of_ble_eq_true → a1R, ne_of_gt → a1W, add_comm → a1X, lt_succ_self → a2c, le_of_lt → a2h, lt_of_le_of_lt → a2y, reduceAdd → a2C, pow_succ → a2G, le_of_not_lt → a2K, succ_le_succ → a2M, succ_mul → a25, mul_comm → a26, zero_max → a3c
open Option.some renaming inj → a0C, injEq → a1N
open Or renaming inr → a0E, inl → a0G
open Array renaming length_toList → a0I, getElem?_eq_none → a1q, getElem?_eq_getElem → a1w, all_eq_true' → a1F, find?_toList → a2w, mk → a21, toList → a24
open PyProof.Rows renaming slot_tuple_getitem → a0K, callWith_type1 → a0X, boot_tuple → a0Y, boot_bool → a1K, callWith_builtin1 → a1Q, boot_str → a1S, boot_int → a2m, boot_isinstance → a2O, boot_list → a22, eq_dataH → a27, ne_dataH → a28, boot_set → a3b
open PySem renaming mem_of_lookup → a03, strKind → a1t, boot_len → a2s, reprText → a2U, call → a2W, Within → a23, PyData → a29
open PySem.Builtin.Str renaming occurrences → a07
open False renaming elim → a1r
open PyProof.Rows.F renaming entry_set_update_loop → a1x
open Option renaming bind_some → a1z, isSome_iff_exists → a1B, isSome_none → a1H, toList_none → a1Z, isSome_some → a10, bind_eq_some_iff → a2a, map_some → a2q, getD_none → a2J
open PySem.F renaming args_tuple_add_2 → a1C, entry_tuple_add → a1E, plainAttrs_list → a1G, slot_tuple_add → a1J, slot_list_count → a18, slot_dict_get → a2n
open Ne renaming symm → a1T
open Prod renaming snd → a1Y, fst → a19
open True renaming intro → a15
open Int renaming emod_nonneg → a2o, emod_lt_of_pos → a2B, toNat_natCast → a2F
open Sum renaming inr → a2t, inl → a2D
open Prod.mk renaming inj → a2u
open And renaming left → a2N
open Classical renaming em → a3a
open List.Pairwise renaming nil → a3d
set_option genSizeOf false
set_option genInjectivity false
set_option Elab.async false
set_option linter.all false
set_option maxRecDepth 100000
namespace L2
open PySem PySem.Spec PyProof.Rows
noncomputable abbrev Key:=Sum Int Str
noncomputable def vA:Key->Value->Bool
 | .inl k,v=>Value.isInt k v
 | .inr x,v=>Value.isStrOf x v
noncomputable def Dw (w:World):Key->Int
 | .inl k=>hashInt k
 | .inr x=>hashStr w x
theorem aP:∀ {k:Key} {v:Value},vA k v=true->(∃ i t,k=a2D i/\v=Value.int i t)\/(∃ x t,k=a2t x/\v=Value.str x t)
 | .inl i,v,h=>by
  obtain ⟨t,e⟩:=Value.isInt_shape (k:=i) (v:=v) h
  exact .inl ⟨i,t,rfl,e⟩
 | .inr x,v,h=>by
  obtain ⟨t,e⟩:=Value.isStrOf_shape (x:=x) (v:=v) h
  exact .inr ⟨x,t,rfl,e⟩
theorem zS (a b:Int):decide ((a2D a:Key)=a2D b)=(a==b):=by
 by_cases e:a=b
 ·subst e; simp
 ·have h:¬ (a2D a:Key)=a2D b:=fun q=>e (Sum.inl.inj q)
  rw [decide_eq_false h]
  exact (beq_eq_false_iff_ne.mpr e).symm
theorem yE (a b:Str):decide ((a2t a:Key)=a2t b)=decide (a=b):=by
 by_cases e:a=b
 ·subst e; simp
 ·have h:¬ (a2t a:Key)=a2t b:=fun q=>e (Sum.inr.inj q)
  rw [decide_eq_false h,decide_eq_false e]
theorem yN (a:Int)(b:Str):decide ((a2D a:Key)=a2t b)=false:=decide_eq_false (fun q=>nomatch q)
theorem x9 (a:Str)(b:Int):decide ((a2t a:Key)=a2D b)=false:=decide_eq_false (fun q=>nomatch q)
noncomputable def gS (prog:Program)(w:World):PySem.KeyKind prog w Key where
 is:=vA
 hash:=Dw w
 inj:=fun v a b ha hb=>by
  rcases aP ha with ⟨i,t,rfl,rfl⟩ | ⟨x,t,rfl,rfl⟩
  ·rcases aP hb with ⟨j,u,rfl,e⟩ | ⟨y,u,rfl,e⟩
   ·injection e with e1 _; rw [e1]
   ·exact nomatch e
  ·rcases aP hb with ⟨j,u,rfl,e⟩ | ⟨y,u,rfl,e⟩
   ·exact nomatch e
   ·injection e with e1 _; rw [e1]
 byValue:=fun k v h=>by
  rcases aP h with ⟨i,t,rfl,rfl⟩ | ⟨x,t,rfl,rfl⟩<;>rfl
 pyHash:=fun hv h=>by
  rcases aP hv with ⟨i,t,rfl,rfl⟩ | ⟨x,t,rfl,rfl⟩
  ·exact wpAny_pyHash_int h
  ·exact wpAny_pyHash_str h
 eqBool:=fun hu hv h=>by
  rcases aP hu with ⟨i,t,rfl,rfl⟩ | ⟨x,t,rfl,rfl⟩
  ·rcases aP hv with ⟨j,u,rfl,rfl⟩ | ⟨y,u,rfl,rfl⟩
   ·rw [zS] at h; exact wpAny_eqBool_int h
   ·rw [yN] at h; exact SeqAt.EqAt.int_str i t y u _ _ _ _ h
  ·rcases aP hv with ⟨j,u,rfl,rfl⟩ | ⟨y,u,rfl,rfl⟩
   ·rw [x9] at h; exact SeqAt.EqAt.str_int x t j u _ _ _ _ h
   ·rw [yE] at h; exact wpAny_eqBool_str h
 «strs»:=fun k x t v h=>by
  rcases aP h with ⟨i,u,rfl,e⟩ | ⟨y,u,rfl,e⟩
  ·exact nomatch e
  ·injection e with e1 _
   subst e1
   cases v<;>rfl
end L2
namespace L2
open PySem PySem.Spec PyProof.Rows
set_option genInjectivity true
inductive V where
 | non | bl (b:Bool) | int (i:Int) | str (x:Str) | byt (b:Array UInt8) | flt (b:UInt64) | ref (a:Addr) | ty (n:String)
 deriving DecidableEq
set_option genInjectivity false
noncomputable def RelV:V->Value->Prop
 | .non,u=>u=Value.none
 | .bl b,u=>u=Value.bool b
 | .int i,u=>∃ t,u=Value.int i t
 | .str x,u=>∃ t,u=Value.str x t
 | .byt b,u=>∃ t,u=Value.bytes b t
 | .flt b,u=>∃ t,u=Value.float b t
 | .ref a,u=>u=Value.ref a
 | .ty n,u=>u=Value.type n
noncomputable abbrev Vals:List V->List Value->Prop:=Paired RelV
theorem Vals.length {xs:List V}{us:List Value}(r:Vals xs us):xs.length=us.length:=Paired.length r
theorem Vals.get:∀ {xs:List V} {us:List Value} {i:Nat} {x:V},Vals xs us->xs[i]?=some x->∃ u,us[i]?=some u/\RelV x u
 | _,_,_,_,.nil,e=>by simp at e
 | _,_,0,_,.cons r _,e=>by simp at e; subst e; exact ⟨_,rfl,r⟩
 | _,_,i+1,x,.cons _ t,e=>by
  obtain ⟨u,h1,h2⟩:=Vals.get (i:=i) (x:=x) t (by simpa using e)
  exact ⟨u,by simpa using h1,h2⟩
theorem Vals.append:∀ {xs ys:List V} {us ws:List Value},Vals xs us->Vals ys ws->Vals (xs++ys) (us++ws)
 | _,_,_,_,.nil,s=>s
 | _,_,_,_,.cons r t,s=>.cons r (Vals.append t s)
theorem Vals.take:∀ {xs:List V} {us:List Value} (n:Nat),Vals xs us->Vals (xs.take n) (us.take n)
 | _,_,0,_=>.nil
 | _,_,_+1,.nil=>.nil
 | _,_,n+1,.cons r t=>.cons r (Vals.take n t)
theorem Vals.drop:∀ {xs:List V} {us:List Value} (n:Nat),Vals xs us->Vals (xs.drop n) (us.drop n)
 | _,_,0,r=>r
 | _,_,_+1,.nil=>.nil
 | _,_,n+1,.cons _ t=>Vals.drop n t
noncomputable def RelO:Option V->Option Value->Prop
 | some v,some u=>RelV v u
 | none,none=>True
 | _,_=>False
noncomputable def KV {κ:Type}:List (κ×V)->List (κ×Value)->Prop:=Paired fun (p:κ×V) (q:κ×Value)=>p.1=q.1/\RelV p.2 q.2
noncomputable def kV:Key->V
 | .inl i=>.int i
 | .inr x=>.str x
inductive HO where
 | lst (xs:List V)
 | tup (xs:List V)
 | dK (kvs:List (Key×V)) | dT (kvs:List (List Key×V))
 | set (S:Int->Bool) (n:Nat)
 | ins (C dx:Addr) (fs:List (Str×V))
 | own (x:Addr)
 | xd (fs:List (Str×V))
 | met (f x:Addr)
 | rng (lo hi:Int)
 | frz (o:Obj) (u:HO)
 | tbl (ps:Array Value)
 | ext (φ:Heap->Prop)
noncomputable abbrev Hp:=Addr->Option HO
noncomputable def upd (H:Hp)(a:Addr)(o:HO):Hp:=fun b=>if b=a then some o else H b
theorem aQ {H:Hp}{a:Addr}{o:HO}:upd H a o a=some o:=by unfold upd; rw [if_pos rfl]
theorem af {H:Hp}{a b:Addr}{o:HO}(h:b≠a):upd H a o b=H b:=by unfold upd; rw [if_neg h]
theorem aO {H:Hp}{a b:Addr}{o:HO}(h:H a=some o)(h':H b=none):a≠b:=by
 intro e; subst e; rw [h] at h'; cases h'
section
variable (P:Program)(w:World)
noncomputable def ObjOk (H:Hp)(h:Heap)(a:Addr):HO->Prop
 | .lst xs=>xs.length<=sizeLine/\∃ (its:List Value) (n:Nat),Vals xs its/\h.get? a=some { cls:=.type "list",data:=.seq its.toArray n }
 | .tup xs=>xs.length<=sizeLine/\∃ its:List Value,Vals xs its/\IsTup h a its.toArray
 | .dK kvs=>kvs.length<=sizeLine/\(a==sysModules)=false/\∃ vs,KV kvs vs/\h.DictOf (gS P w) a vs
 | .dT kvs=>kvs.length<=sizeLine/\(a==sysModules)=false/\∃ xs:List (List Key×Addr×Value),
   Paired (fun (p:List Key×V) (q:List Key×Addr×Value)=>p.1=q.1/\H q.2.1=some (.tup (p.1.map kV))/\RelV p.2 q.2.2) kvs xs /\
   ∃ o es ep,h.get? a=some o/\o.ExactDict/\o.data=.dict es ep/\es.toList=xs.map (entryOfKey (tupleKind (gS P w)))/\(xs.map (·.1)).Nodup
 | .set S n=>h.SetOf (intKind P w) a S n
 | .ins C dx fs=>H dx=some (.own a)/\fs.length<=1000/\dx≠a/\h.get? a=some (a2g C dx) /\
   ∃ mA,h.Ns1 dx mA/\(∀ f,RelO (fs.lookup f) (mA f))/\a23 mA (fs.map (·.1))
 | .own _=>∃ o,h.get? a=some o
 | .xd fs=>∃ mA,h.Ns1 a mA/\∀ f,RelO (fs.lookup f) (mA f)
 | .rng lo hi=>∃ t u v,h.get? a=some { cls:=.type "range",data:=.fields #[.int lo t,.int hi u,.int 1 v] }
 | .frz o u=>h.get? a=some o/\ObjOk H h a u
 | .tbl ps=>h.get? a=some { cls:=.none,data:=.fields ps }
 | .met f x=>h.get? a=some (a14 (.ref f) (.ref x))
 | .ext φ=>φ h/\(∃ o,h.get? a=some o)/\∀ h1 h2:Heap,φ h1->(∀ o,h1.get? a=some o->h2.get? a=some o)->φ h2
noncomputable def HOk (H:Hp)(h:Heap):Prop:=∀ a o,H a=some o->ObjOk P w H h a o
end
section
variable {P:Program}{w:World}{H H':Hp}{h h':Heap}{a:Addr}{o:HO}
theorem ObjOk.lt (x:ObjOk P w H h a o):a < h.objs.size:=by
 cases o with
 | lst xs=>obtain ⟨_,_,_,_,e⟩:=x; exact Heap.lt_size e
 | tup xs=>obtain ⟨_,_,_,p⟩:=x; exact p.lt
 | dK kvs=>obtain ⟨_,_,_,_,o,_,_,e,_⟩:=x; exact Heap.lt_size e
 | dT kvs=>obtain ⟨_,_,_,_,o,_,_,e,_⟩:=x; exact Heap.lt_size e
 | set S n=>obtain ⟨o,_,_,_,e,_⟩:=x; exact Heap.lt_size e
 | ins C dx fs=>obtain ⟨_,_,_,e,_⟩:=x; exact Heap.lt_size e
 | own y=>obtain ⟨_,e⟩:=x; exact Heap.lt_size e
 | xd fs=>obtain ⟨_,⟨_,_,_,e,_⟩,_⟩:=x; exact Heap.lt_size e
 | rng lo hi=>obtain ⟨_,_,_,e⟩:=x; exact Heap.lt_size e
 | frz ob u=>obtain ⟨e,_⟩:=x; exact Heap.lt_size e
 | tbl ps=>exact Heap.lt_size (show h.get? a=some _ from x)
 | met f y=>exact Heap.lt_size (show h.get? a=some _ from x)
 | ext φ=>obtain ⟨_,⟨_,e⟩,_⟩:=x; exact Heap.lt_size e
theorem Paired.mapP {α β:Type}{F G:α->β->Prop}:∀ {l₁:List α} {l₂:List β},Paired F l₁ l₂->(∀ a b,F a b->G a b)->Paired G l₁ l₂
 | _,_,.nil,_=>.nil
 | _,_,.cons r t,f=>.cons (f _ _ r) (Paired.mapP t f)
theorem ObjOk.stay (x:ObjOk P w H h a o)(k:∀ b u,(b=a\/H b=some (.own a))->h.get? b=some u->h'.get? b=some u)
  (ho:∀ b,H b=some (.own a)->H' b=some (.own a)) (ht:∀ b xs,H b=some (.tup xs)->H' b=some (.tup xs)):ObjOk P w H' h' a o:=by
 induction o with
 | lst xs=>obtain ⟨z,its,n,r,e⟩:=x; exact ⟨z,its,n,r,k _ _ (.inl rfl) e⟩
 | tup xs=>obtain ⟨z,its,r,ob,e,c⟩:=x; exact ⟨z,its,r,ob,k _ _ (.inl rfl) e,c⟩
 | dK kvs=>obtain ⟨z,y,vs,r,ob,es,ep,e,c⟩:=x; exact ⟨z,y,vs,r,ob,es,ep,k _ _ (.inl rfl) e,c⟩
 | dT kvs =>
  obtain ⟨z,y,xs,r,ob,es,ep,e,c⟩:=x
  exact ⟨z,y,xs,Paired.mapP r fun p q z=>⟨z.1,ht _ _ z.2.1,z.2.2⟩,ob,es,ep,k _ _ (.inl rfl) e,c⟩
 | set S n=>obtain ⟨ob,es,ep,t,e,c⟩:=x; exact ⟨ob,es,ep,t,k _ _ (.inl rfl) e,c⟩
 | ins C dx fs =>
  obtain ⟨d,z,ne,e,mA,⟨od,es,ep,e2,c⟩,r⟩:=x
  exact ⟨ho _ d,z,ne,k _ _ (.inl rfl) e,mA,⟨od,es,ep,k _ _ (.inr d) e2,c⟩,r⟩
 | own y=>obtain ⟨ob,e⟩:=x; exact ⟨ob,k _ _ (.inl rfl) e⟩
 | xd fs=>obtain ⟨mA,⟨od,es,ep,e,c⟩,r⟩:=x; exact ⟨mA,⟨od,es,ep,k _ _ (.inl rfl) e,c⟩,r⟩
 | rng lo hi=>obtain ⟨t,u,v,e⟩:=x; exact ⟨t,u,v,k _ _ (.inl rfl) e⟩
 | frz ob u ih=>obtain ⟨e,q⟩:=x; exact ⟨k _ _ (.inl rfl) e,ih q⟩
 | tbl ps =>
  have e:h.get? a=some { cls:=.none,data:=.fields ps }:=x
  show h'.get? a=some { cls:=.none,data:=.fields ps }
  exact k a _ (.inl rfl) e
 | met f y =>
  have e:h.get? a=some (a14 (.ref f) (.ref y)):=x
  show h'.get? a=some (a14 (.ref f) (.ref y))
  exact k a _ (.inl rfl) e
 | ext φ=>obtain ⟨p,⟨o,e⟩,st⟩:=x; exact ⟨st _ _ p fun o q=>k _ _ (.inl rfl) q,⟨o,k _ _ (.inl rfl) e⟩,st⟩
theorem HOk.lt (x:HOk P w H h)(e:H a=some o):a < h.objs.size:=(x a o e).lt
theorem HOk.fresh (x:HOk P w H h)(e:h.objs.size<=a):H a=none:=by
 cases q:H a with
 | none=>rfl
 | some u=>exact absurd (a0n (x.lt q) e) (a1c _)
theorem HOk.kept (x:HOk P w H h)(k:∀ b u,h.get? b=some u->h'.get? b=some u):HOk P w H h':=fun a o e =>
 (x a o e).stay (fun b u _ q=>k b u q) (fun _ q=>q) fun _ _ q=>q
theorem HOk.laid (x:HOk P w H h)(k:∀ b u,h.get? b=some u->h'.get? b=some u)(hp:h.objs.size<=a)(new:ObjOk P w (upd H a o) h' a o):HOk P w (upd H a o) h':=fun b u e=>by
 have hn:=x.fresh hp
 by_cases hb:b=a
 ·subst hb; rw [aQ] at e; cases e; exact new
 ·rw [af hb] at e
  exact (x b u e).stay (fun c v _ q=>k c v q) (fun c q=>by rw [af (aO q hn)]; exact q) fun c xs q=>by rw [af (aO q hn)]; exact q
end
noncomputable def Rd (H:Hp)(a:Addr)(u:HO):Prop:=H a=some u\/∃ o,H a=some (.frz o u)
theorem Rd.ok {P:Program}{w:World}{H:Hp}{h:Heap}{a:Addr}{u:HO}(r:Rd H a u)(x:HOk P w H h):ObjOk P w H h a u:=by
 rcases r with r | ⟨o,r⟩
 ·exact x a u r
 ·obtain ⟨_,q⟩:=x a _ r
  exact q
noncomputable def Mut:Option HO->Prop
 | some (.lst _)=>True
 | some (.dK _)=>True
 | some (.dT _)=>True
 | some (.set _ _)=>True
 | some (.ins _ _ _)=>True
 | some (.ext _)=>True
 | _=>False
section
variable {P:Program}{w:World}{H:Hp}{h h':Heap}{x e:Addr}{o':HO}
theorem HOk.write (ok:HOk P w H h)(mu:Mut (H x))(he:e=x\/H e=some (.own x))(k:∀ b u,b≠e->h.get? b=some u->h'.get? b=some u)(heo:∃ u,h'.get? e=some u)
  (new:ObjOk P w (upd H x o') h' x o'):HOk P w (upd H x o') h':=fun b u q=>by
 have nown:∀ c y,H c=some (.own y)->c≠x:=fun c y r z=>by subst z; rw [r] at mu; exact mu
 have ntup:∀ c xs,H c=some (.tup xs)->c≠x:=fun c xs r z=>by subst z; rw [r] at mu; exact mu
 by_cases hb:b=x
 ·subst hb; rw [aQ] at q; cases q; exact new
 ·rw [af hb] at q
  by_cases hbe:b=e
  ·have q':H b=some (.own x):=by
    rcases he with z | z
    ·exact absurd (hbe.trans z) hb
    ·rw [hbe]; exact z
   rw [q] at q'; cases q'
   obtain ⟨v,hv⟩:=heo
   exact ⟨v,by rw [hbe]; exact hv⟩
  ·refine (ok b u q).stay (fun c v hc r=>k c v ?_ r) (fun c r=>by rw [af (nown c b r)]; exact r) fun c xs r=>by rw [af (ntup c xs r)]; exact r
   rcases hc with rfl | hc
   ·exact hbe
   ·rintro rfl
    rcases he with z | z
    ·exact nown c b hc z
    ·rw [hc] at z; cases z; exact hb rfl
end
structure Un (fs ex:List Addr)(H H':Hp)(h h':Heap):Prop where
 keep:∀ b o,h.get? b=some o->H b=none->b ∉ fs->b ∉ ex->h'.get? b=some o
 slot:∀ b o,h.get? b=some o->H b=none->b∈fs->b ∉ ex->∃ sl,h'.get? b=some { o with slots:=sl }
 free:∀ b o,h.get? b=some o->H b=none->b ∉ ex->H' b=none
 there:∀ b o,h.get? b=some o->b ∉ ex->∃ o',h'.get? b=some o'
 tups:∀ b xs,H b=some (.tup xs)->H' b=some (.tup xs)
 frzs:∀ b o u,H b=some (.frz o u)->H' b=some (.frz o u)
 tbls:∀ b ps,H b=some (.tbl ps)->∃ more,H' b=some (.tbl (ps++more))
section
variable {fs fs' ex ex':List Addr}{H H1 H2:Hp}{h h1 h2 h':Heap}{a x e:Addr}{o:HO}
theorem Un.any (u:Un fs ex H H1 h h1){b:Addr}{ob:Obj}(q:h.get? b=some ob)(n:H b=none)(hx:b ∉ ex):∃ sl,h1.get? b=some { ob with slots:=sl }:=by
 by_cases hb:b∈fs
 ·exact u.slot b ob q n hb hx
 ·exact ⟨ob.slots,u.keep b ob q n hb hx⟩
theorem Un.kept (k:∀ b u,h.get? b=some u->h'.get? b=some u):Un fs ex H H h h' :=
 ⟨fun b ob q _ _ _=>k b ob q,fun b ob q _ _ _=>⟨ob.slots,k b ob q⟩,fun _ _ _ n _=>n,fun b ob q _=>⟨ob,k b ob q⟩,fun _ _ q=>q,fun _ _ _ q=>q,fun _ ps q=>⟨#[],by rw [q]; simp⟩⟩
theorem Un.refl:Un fs ex H H h h:=Un.kept fun _ _ q=>q
theorem Un.laid (k:∀ b u,h.get? b=some u->h'.get? b=some u)(hp:h.objs.size<=a)(hn:H a=none):Un fs ex H (upd H a o) h h' where
 keep:=fun b u q _ _ _=>k b u q
 slot:=fun b u q _ _ _=>⟨u.slots,k b u q⟩
 free:=fun b u q n _=>by rw [af (a0y (a0n (Heap.lt_size q) hp))]; exact n
 there:=fun b u q _=>⟨u,k b u q⟩
 tups:=fun b xs q=>by rw [af (aO q hn)]; exact q
 frzs:=fun b u xs q=>by rw [af (aO q hn)]; exact q
 tbls:=fun b ps q=>⟨#[],by rw [af (aO q hn),q]; simp⟩
theorem Un.write (mu:Mut (H x))(he:e=x\/H e=some (.own x))(k:∀ b u,b≠e->h.get? b=some u->h'.get? b=some u)(heo:∃ u,h'.get? e=some u):Un fs ex H (upd H x o) h h':=by
 have hx:∀ b,H b=none->b≠x:=fun b n z=>by subst z; rw [n] at mu; exact mu
 have hb:∀ b,H b=none->b≠e:=fun b n z=>by
  subst z
  rcases he with r | r
  ·exact hx b n r
  ·rw [n] at r; cases r
 have hm:∀ b u,H b=some u->¬ Mut (some u)->b≠x:=fun b u q nm z=>by subst z; rw [q] at mu; exact nm mu
 refine ⟨fun b u q n _ _=>k b u (hb b n) q,fun b u q n _ _=>⟨u.slots,k b u (hb b n) q⟩,fun b u q n _=>by rw [af (hx b n)]; exact n,fun b u q _=>?_,
  fun b xs q=>by rw [af (hm b _ q fun z=>z)]; exact q,fun b u xs q=>by rw [af (hm b _ q fun z=>z)]; exact q,fun b ps q=>⟨#[],by rw [af (hm b _ q fun z=>z),q]; simp⟩⟩
 by_cases hbe:b=e
 ·subst hbe; exact heo
 ·exact ⟨u,k b u hbe q⟩
end
noncomputable def trk (h:Heap)(H:Hp):List Addr:=(a0M h.objs.size).filter fun a=>(H a).isSome
noncomputable def gI (h:Heap)(H:Hp):Heap:=PySem.W.hideAll h (trk h H)
theorem lY (h:Heap)(H:Hp):(gI h H).objs.size=h.objs.size:=PySem.W.hideAll_size _ _
theorem qL {h:Heap}{H:Hp}{b:Addr}{o:Obj}(e:h.get? b=some o)(n:H b=none):(gI h H).get? b=some o :=
 PySem.W.hideAll_get _ e fun hm=>by
  have q:(H b).isSome=true:=(a2P.mp hm).2
  rw [n] at q; simp at q
theorem ue {h:Heap}{H:Hp}{b:Addr}{o:Obj}(e:(gI h H).get? b=some o):h.get? b=some o/\H b=none:=by
 have e':h.get? b=some o:=PySem.W.of_hideAll (trk h H) e
 refine ⟨e',?_⟩
 cases q:H b with
 | none=>rfl
 | some x =>
  have hm:b∈trk h H:=a2P.mpr ⟨a1O.mpr (Heap.lt_size e'),by simp [q]⟩
  have z:(gI h H).get? b=none:=PySem.W.hideAll_none (trk h H) hm
  rw [z] at e; cases e
noncomputable def ub (g h:Heap)(L:Addr):List (Addr×Obj):=(a0M h.objs.size).filterMap fun a=>if a=L\/(g.get? a).isSome=true then none else (h.get? a).map fun o=>(a,o)
noncomputable def rest (g h:Heap)(L d:Addr):List (Addr×Obj):=(ub g h L).filter fun p=>decide (p.1≠d)
end L2
namespace L2
open PySem PySem.Spec PyProof.Rows
structure Mod (K:a0a)(mg:Str->Option Value)(base:Heap):Prop where
 kin:K.In base
 glob:base.Ns mainGlobals mg
 blt:∃ mb,base.Ns builtinsNs mb/\∀ x:Str,x≠"__name__"->mb x=bootBuiltins x
 nolimit:base.NoLimit
structure Cx where
 prog:Program
 w:World
 K:a0a
 mg:Str->Option Value
 base:Heap
 A:Around
 N:List Str
 s₀:Shared
 H₀:Hp
 env:Env
 outer:List Env
 stack:List Env
 ex:List Addr
 fn:Str->Bool
 calm:Bool
 pn:List (Addr×Obj)
 xe:Value->Shared->Prop
noncomputable def frs (l:List Env):List Addr:=l.filterMap (·.frame)
noncomputable abbrev Cx.fs (X:Cx):List Addr:=frs X.outer
noncomputable def Vis (sc:Scope)(x:Str):Prop:=sc.names.lookup x=some .local\/sc.names.lookup x=some .cell\/sc.names.lookup x=some .free
noncomputable def Loc (sc:Scope)(x:Str):Prop:=sc.names.lookup x=some .local\/sc.names.lookup x=some .cell
noncomputable def D4 (env:Env)(h:Heap)(m:Str->Option Value)(x:Str)(u:Value):Prop :=
 (env.kindOf x=some .local/\m x=some u)\/((env.kindOf x=some .cell\/env.kindOf x=some .free)/\∃ c,env.cells.lookup x=some c/\h.IsCell c (some u))
structure Cx.Ok (X:Cx):Prop where
 mod:Mod X.K X.mg X.base
 kind:X.env.scope.kind=.function
 glob:X.env.globals=mainGlobals
 blt:X.env.builtins=builtinsNs
 above:X.s₀.heap.objs.size<=X.env.locals
 inj:∀ x y c,X.env.cells.lookup x=some c->X.env.cells.lookup y=some c->x=y
 has:∀ x,(X.env.kindOf x=some .cell\/X.env.kindOf x=some .free)->∃ c,X.env.cells.lookup x=some c
 cab:∀ x c,X.fn x=true->X.env.cells.lookup x=some c->X.s₀.heap.objs.size<=c
 hd:X.calm=true->X.A.handled=none
 frames:X.A.frames=some X.stack
 stk:X.stack=X.outer\/(X.stack=X.env::X.outer/\X.env.frame=some X.env.locals)
 exf:∀ b∈X.ex,b≠X.env.locals/\∀ x c,X.env.cells.lookup x=some c->c≠b
 bs:∀ b o,X.base.get? b=some o->X.s₀.heap.get? b=some o/\X.H₀ b=none
 bsz:X.base.objs.size<=X.s₀.heap.objs.size
 noex:∀ b o,X.base.get? b=some o->b ∉ X.ex
 exfs:∀ b∈X.ex,b ∉ X.fs
 funs:X.s₀.heap.FunFrames X.base X.outer
 frf:∀ b∈X.fs,X.H₀ b=none
structure Inv (X:Cx)(pins:List (Addr×Obj))(σ:List (Option V))(H:Hp)(s:Shared):Prop where
 ok:X.Ok
 os:s.os=X.s₀.os
 bare:AllBare s.gens
 base:Un X.fs X.ex X.H₀ H X.s₀.heap s.heap
 loc:∃ m,s.heap.Ns X.env.locals m/\∀ (i:Nat) (x:Str) (v:V),X.N[i]?=some x->σ[i]?=some (some v)->Vis X.env.scope x->∃ u,RelV v u/\D4 X.env s.heap m x u
 cell:∀ x c,X.env.cells.lookup x=some c->∃ v,s.heap.IsCell c v
 free:H X.env.locals=none
 freeC:∀ x c,X.env.cells.lookup x=some c->H c=none
 pin:∀ p∈X.pn++pins,s.heap.get? p.1=some p.2/\H p.1=none/\p.1≠X.env.locals/\p.1 ∉ X.fs/\∀ v,p.2.data≠.cell v
 hok:HOk X.prog X.w H s.heap
 len:σ.length=X.N.length
section
variable {X:Cx}{pins:List (Addr×Obj)}{σ:List (Option V)}{H H':Hp}{s:Shared}{h':Heap}
theorem Cx.Ok.nofr (ok:X.Ok){b:Addr}{o:Obj}(e:X.base.get? b=some o):b ∉ X.fs:=fun hb=>by
 have:=(ok.funs.mem hb).1
 rw [e] at this; cases this
theorem Inv.bs (I:Inv X pins σ H s):∀ b o,X.base.get? b=some o->s.heap.get? b=some o/\H b=none:=fun b o e =>
 ⟨I.base.keep b o (I.ok.bs b o e).1 (I.ok.bs b o e).2 (I.ok.nofr e) (I.ok.noex b o e),I.base.free b o (I.ok.bs b o e).1 (I.ok.bs b o e).2 (I.ok.noex b o e)⟩
theorem Inv.bk (I:Inv X pins σ H s):∀ b o,X.base.get? b=some o->s.heap.get? b=some o:=fun b o e=>(I.bs b o e).1
theorem Inv.mod (I:Inv X pins σ H s):Mod X.K X.mg X.base:=I.ok.mod
theorem Inv.kIn (I:Inv X pins σ H s):X.K.In s.heap:=I.ok.mod.kin.keeps I.bk
theorem Inv.fr (I:Inv X pins σ H s):∃ m,Fr X.base X.env.locals s.heap m :=
 let ⟨m,hn,_⟩:=I.loc
 ⟨m,hn,I.bk,a0z I.ok.bsz I.ok.above⟩
theorem Inv.lt (I:Inv X pins σ H s):X.env.locals < s.heap.objs.size:=let ⟨_,hn,_⟩:=I.loc; hn.lt
theorem Inv.sz (I:Inv X pins σ H s):X.s₀.heap.objs.size<=s.heap.objs.size:=a0z I.ok.above (a2h I.lt)
theorem Inv.nofs (I:Inv X pins σ H s){a:Addr}(h:s.heap.objs.size<=a):a ∉ X.fs:=fun hb=>by
 obtain ⟨_,o,ho,_⟩:=I.ok.funs.mem hb
 exact absurd (a0n (Heap.lt_size ho) (a0z I.sz h)) (a1c _)
theorem Inv.cne (I:Inv X pins σ H s):∀ x c,X.env.cells.lookup x=some c->c≠X.env.locals:=fun x c e z=>by
 obtain ⟨v,o,ho,hd⟩:=I.cell x c e
 obtain ⟨m,⟨o',es,ep,ho',hd',_⟩,_⟩:=I.loc
 rw [z,ho'] at ho; cases ho; rw [hd'] at hd; cases hd
theorem Inv.funs (I:Inv X pins σ H s):s.heap.FunFrames X.base X.outer:=by
 have all:∀ (l:List Env),(∀ b∈frs l,b∈X.fs)->X.s₀.heap.FunFrames X.base l->s.heap.FunFrames X.base l:=by
  intro l
  induction l with
  | nil=>intro _ _; trivial
  | cons env r ih =>
   intro hs hl
   obtain ⟨hk,⟨L,o,hf,hn,ho,hd⟩,hr⟩:=hl
   have hL:L∈X.fs:=hs L (by unfold frs; rw [a0O,hf]; exact a0f)
   obtain ⟨sl,e⟩:=I.base.slot L o ho (I.ok.frf L hL) hL fun z=>I.ok.exfs L z hL
   exact ⟨hk,⟨L,_,hf,hn,e,hd⟩,ih (fun b hb=>hs b (by unfold frs; rw [a0O,hf]; exact a0g _ hb)) hr⟩
 exact all X.outer (fun _ hb=>hb) I.ok.funs
theorem Inv.stack (I:Inv X pins σ H s):s.heap.FunFrames X.base X.stack:=by
 rcases I.ok.stk with e | ⟨e,hf⟩
 ·rw [e]; exact I.funs
 ·rw [e]
  obtain ⟨m,hn,_⟩:=I.loc
  refine .cons (by rw [I.ok.kind]; decide) hf hn ?_ I.funs
  exact Heap.get?_none_of_le (a0z I.ok.bsz I.ok.above)
theorem Inv.stkSub (I:Inv X pins σ H s):∀ b∈frs X.stack,b∈X.env.locals::X.fs:=fun b hb=>by
 rcases I.ok.stk with e | ⟨e,hf⟩
 ·rw [e] at hb; exact a0g _ hb
 ·rw [e] at hb
  unfold frs at hb
  rw [a0O,hf] at hb
  exact hb
theorem Inv.stkFree (I:Inv X pins σ H s):∀ b∈frs X.stack,H b=none:=fun b hb=>by
 rcases a0s.mp (I.stkSub b hb) with e | hb
 ·rw [e]; exact I.free
 ·obtain ⟨_,o,ho,_⟩:=I.ok.funs.mem hb
  exact I.base.free b o ho (I.ok.frf b hb) fun z=>I.ok.exfs b z hb
theorem Inv.step {g':Array GenState}{t':Nat}{d':Drawn}{ch:List Addr}(I:Inv X pins σ H s)
  (hch:∀ b∈ch,(b∈X.ex\/X.s₀.heap.objs.size<=b)/\b≠X.env.locals/\(∀ x c,X.env.cells.lookup x=some c->c≠b)/\∀ p∈X.pn++pins,p.1≠b)
  (keep:∀ b o,b≠X.env.locals->b ∉ X.fs->b ∉ ch->s.heap.get? b=some o->H b=none->h'.get? b=some o)
  (slot:∀ b o,b≠X.env.locals->b∈X.fs->b ∉ ch->s.heap.get? b=some o->H b=none->∃ sl,h'.get? b=some { o with slots:=sl }) (free:∀ b o,b ∉ ch->s.heap.get? b=some o->H b=none->H' b=none)
  (there:∀ b o,b ∉ ch->s.heap.get? b=some o->∃ o',h'.get? b=some o')
  (tups:∀ b xs,H b=some (.tup xs)->H' b=some (.tup xs)) (frzs:∀ b o u,H b=some (.frz o u)->H' b=some (.frz o u)) (tbls:∀ b ps,H b=some (.tbl ps)->∃ more,H' b=some (.tbl (ps++more)))
  (ns:∀ m,s.heap.Ns X.env.locals m->h'.Ns X.env.locals m) (hok:HOk X.prog X.w H' h') (hg:AllBare g') :
  Inv X pins σ H' { s with heap:=h',gens:=g',drawn:=d',toks:=t' }:=by
 have neL:∀ b o,X.s₀.heap.get? b=some o->b≠X.env.locals:=fun b o e=>a0y (a0n (Heap.lt_size e) I.ok.above)
 have neC:∀ b o,X.s₀.heap.get? b=some o->b ∉ X.ex->b ∉ ch:=fun b o e hx hb=>by
  rcases (hch b hb).1 with z | z
  ·exact hx z
  ·exact absurd (a0n (Heap.lt_size e) z) (a1c _)
 have cellK:∀ x c,X.env.cells.lookup x=some c->∀ v,s.heap.IsCell c v->h'.IsCell c v:=fun x c e v ⟨o,ho,hd⟩=>by
  have nch:c ∉ ch:=fun z=>(hch c z).2.2.1 x c e rfl
  by_cases hc:c∈X.fs
  ·obtain ⟨sl,q⟩:=slot c o (I.cne x c e) hc nch ho (I.freeC x c e)
   exact ⟨_,q,hd⟩
  ·exact ⟨o,keep c o (I.cne x c e) hc nch ho (I.freeC x c e),hd⟩
 refine ⟨I.ok,I.os,hg,⟨fun b o e n hb hx=>?_,fun b o e n hb hx=>?_,fun b o e n hx=>?_,fun b o e hx=>?_,fun b xs e=>tups b xs (I.base.tups b xs e),fun b o xs e=>frzs b o xs (I.base.frzs b o xs e),fun b ps e=>?_⟩,?_,fun x c e=>?_,?_,fun x c e=>?_,fun p hp=>?_,hok,I.len⟩
 ·exact keep b o (neL b o e) hb (neC b o e hx) (I.base.keep b o e n hb hx) (I.base.free b o e n hx)
 ·obtain ⟨sl,e1⟩:=I.base.slot b o e n hb hx
  obtain ⟨sl',e2⟩:=slot b _ (neL b o e) hb (neC b o e hx) e1 (I.base.free b o e n hx)
  exact ⟨sl',e2⟩
 ·obtain ⟨o',e1⟩:=I.base.there b o e hx
  exact free b o' (neC b o e hx) e1 (I.base.free b o e n hx)
 ·obtain ⟨o',e1⟩:=I.base.there b o e hx
  exact there b o' (neC b o e hx) e1
 ·obtain ⟨m1,e1⟩:=I.base.tbls b ps e
  obtain ⟨m2,e2⟩:=tbls b _ e1
  exact ⟨m1++m2,by rw [e2,Array.append_assoc]⟩
 ·obtain ⟨m,hn,hl⟩:=I.loc
  refine ⟨m,ns m hn,fun i x v e1 e2 e3=>?_⟩
  obtain ⟨u,r,l⟩:=hl i x v e1 e2 e3
  refine ⟨u,r,?_⟩
  rcases l with l | ⟨k,c,e,z⟩
  ·exact .inl l
  ·exact .inr ⟨k,c,e,cellK x c e _ z⟩
 ·obtain ⟨v,z⟩:=I.cell x c e
  exact ⟨v,cellK x c e v z⟩
 ·obtain ⟨m,⟨o,_,_,ho,_⟩,_⟩:=I.loc
  exact free _ o (fun z=>(hch _ z).2.1 rfl) ho I.free
 ·obtain ⟨v,o,ho,hd⟩:=I.cell x c e
  exact free c o (fun z=>(hch c z).2.2.1 x c e rfl) ho (I.freeC x c e)
 ·obtain ⟨e,n,ne,nf,d⟩:=I.pin p hp
  have nch:p.1 ∉ ch:=fun z=>(hch p.1 z).2.2.2 p hp rfl
  exact ⟨keep p.1 p.2 ne nf nch e n,free p.1 p.2 nch e n,ne,nf,d⟩
theorem Inv.un {t':Nat}(I:Inv X pins σ H s)(u:Un X.fs [] H H' s.heap h')(hok:HOk X.prog X.w H' h'):Inv X pins σ H' { s with heap:=h',toks:=t' }:=by
 obtain ⟨m,⟨o,es,ep,ho,r⟩,_⟩:=id I.loc
 obtain ⟨sl,hL⟩:=u.any ho I.free (by simp)
 exact I.step (g':=s.gens) (d':=s.drawn) (ch:=[]) (fun _ z=>nomatch z) (fun b o _ hb _ e n=>u.keep b o e n hb (by simp)) (fun b o _ hb _ e n=>u.slot b o e n hb (by simp)) (fun b o _ e n=>u.free b o e n (by simp)) (fun b o _ e=>u.there b o e (by simp)) u.tups u.frzs u.tbls (fun m' hm=>by
  obtain ⟨o',es',ep',ho',r'⟩:=hm
  rw [ho] at ho'; cases ho'
  exact ⟨_,es',ep',hL,r'⟩) hok I.bare
theorem Inv.call {g':Array GenState}{t':Nat}{d':Drawn}{ch:List Addr}(I:Inv X pins σ H s)(u:Un (frs X.stack) ch H H' s.heap h')(hok:HOk X.prog X.w H' h')(hg:AllBare g')
  (hch:∀ b∈ch,(b∈X.ex\/X.s₀.heap.objs.size<=b)/\b≠X.env.locals/\(∀ x c,X.env.cells.lookup x=some c->c≠b)/\∀ p∈X.pn++pins,p.1≠b) :
  Inv X pins σ H' { s with heap:=h',gens:=g',drawn:=d',toks:=t' }:=by
 obtain ⟨m,⟨o,es,ep,ho,r⟩,_⟩:=id I.loc
 obtain ⟨sl,hL⟩:=u.any ho I.free fun z=>(hch _ z).2.1 rfl
 exact I.step (ch:=ch) hch (fun b o hL hb hc e n=>u.keep b o e n (fun z=>(a0s.mp (I.stkSub b z)).elim hL hb) hc) (fun b o _ _ hc e n=>u.any e n hc) (fun b o hc e n=>u.free b o e n hc) (fun b o hc e=>u.there b o e hc) u.tups u.frzs u.tbls (fun m' hm=>by
  obtain ⟨o',es',ep',ho',r'⟩:=hm
  rw [ho] at ho'; cases ho'
  exact ⟨_,es',ep',hL,r'⟩) hok hg
theorem Inv.turned {t':Nat}{it:Addr}(I:Inv X pins σ H s)(k:∀ b o,b≠it->s.heap.get? b=some o->h'.get? b=some o)(hn:H it=none)(hL:it≠X.env.locals)
  (h1:it∈X.ex\/X.s₀.heap.objs.size<=it) (h2:∀ x c,X.env.cells.lookup x=some c->c≠it) (h3:∀ p∈X.pn++pins,p.1≠it):Inv X pins σ H { s with heap:=h',toks:=t' }:=by
 have nit:∀ b u,H b=some u->b≠it:=fun b u e z=>by rw [z,hn] at e; cases e
 refine I.step (g':=s.gens) (d':=s.drawn) (ch:=[it]) (fun b hb=>?_) (fun b o _ _ hc e _=>k b o (fun z=>hc (by simp [z])) e) (fun b o _ _ hc e _=>⟨o.slots,k b o (fun z=>hc (by simp [z])) e⟩) (fun _ _ _ _ n=>n)
  (fun b o hc e=>⟨o,k b o (fun z=>hc (by simp [z])) e⟩) (fun _ _ e=>e) (fun _ _ _ e=>e) (fun b ps e=>⟨#[],by rw [e]; simp⟩) (fun m hm=>?_) (fun b u e=>?_) I.bare
 ·have e:b=it:=by simpa using hb
  subst e
  exact ⟨h1,hL,h2,h3⟩
 ·obtain ⟨o,es,ep,ho,r⟩:=hm
  exact ⟨o,es,ep,k _ o (a1T hL) ho,r⟩
 ·refine (I.hok b u e).stay (fun c v hc q=>k c v ?_ q) (fun _ q=>q) fun _ _ q=>q
  rcases hc with z | z
  ·rw [z]; exact nit b u e
  ·exact nit c _ z
theorem Inv.tok (I:Inv X pins σ H s)(t:Nat):Inv X pins σ H { s with toks:=t }:=I.un (h':=s.heap) (t':=t) Un.refl I.hok
theorem Inv.kept {t':Nat}(I:Inv X pins σ H s)(k:∀ b u,s.heap.get? b=some u->h'.get? b=some u):Inv X pins σ H { s with heap:=h',toks:=t' }:=I.un (Un.kept k) (I.hok.kept k)
theorem Inv.laid {a:Addr}{o:HO}{t':Nat}(I:Inv X pins σ H s)(k:∀ b u,s.heap.get? b=some u->h'.get? b=some u)(hp:s.heap.objs.size<=a)(new:ObjOk X.prog X.w (upd H a o) h' a o) :
  Inv X pins σ (upd H a o) { s with heap:=h',toks:=t' }:=I.un (Un.laid k hp (I.hok.fresh hp)) (I.hok.laid k hp new)
theorem Inv.write {x e:Addr}{o:HO}{t':Nat}(I:Inv X pins σ H s)(mu:Mut (H x))(he:e=x\/H e=some (.own x))(k:∀ b u,b≠e->s.heap.get? b=some u->h'.get? b=some u)(heo:∃ u,h'.get? e=some u)
  (new:ObjOk X.prog X.w (upd H x o) h' x o):Inv X pins σ (upd H x o) { s with heap:=h',toks:=t' }:=I.un (Un.write mu he k heo) (I.hok.write mu he k heo new)
theorem Inv.weak {σ':List (Option V)}(I:Inv X pins σ H s)(hl:σ'.length=σ.length)(w:∀ (i:Nat) v,σ'[i]?=some (some v)->σ[i]?=some (some v)):Inv X pins σ' H s :=
 ⟨I.ok,I.os,I.bare,I.base,let ⟨m,hn,hl'⟩:=I.loc; ⟨m,hn,fun i x v e1 e2 e3=>hl' i x v e1 (w i v e2) e3⟩,I.cell,I.free,I.freeC,I.pin,I.hok,hl.trans I.len⟩
theorem Inv.pins_of {pins':List (Addr×Obj)}(I:Inv X pins σ H s)(h:∀ p∈pins',s.heap.get? p.1=some p.2/\H p.1=none/\p.1≠X.env.locals/\p.1 ∉ X.fs/\∀ v,p.2.data≠.cell v):Inv X pins' σ H s :=
 ⟨I.ok,I.os,I.bare,I.base,I.loc,I.cell,I.free,I.freeC,fun p hp=>(a0S.mp hp).elim (fun z=>I.pin p (a01 _ z)) (h p),I.hok,I.len⟩
theorem i7 {N:List Str}(hN:N.Nodup){i j:Nat}{x:Str}(a:N[i]?=some x)(b:N[j]?=some x):i=j:=by
 obtain ⟨h1,e1⟩:=a0w.mp a
 obtain ⟨h2,e2⟩:=a0w.mp b
 exact (List.getElem_inj hN).mp (e1.trans e2.symm)
theorem fU {M:Model}{A:Around}{E:Value->Shared->Prop}{i:Nat}{x:Str}{v:V}{u:Value}{Q:Unit->Shared->Prop}(I:Inv X pins σ H s)(hN:X.N.Nodup)(hi:X.N[i]?=some x)(hx:Loc X.env.scope x)(r:RelV v u)
  (h:∀ s',Inv X pins (σ.set i (some v)) H s'->(∃ a,Heap.SameBut a s.heap s'.heap/\(a=X.env.locals\/X.env.cells.lookup x=some a))->Q () s') (hf:X.fn x=true\/X.env.scope.names.lookup x=some .local:=by first | exact .inl rfl | exact .inr rfl | assumption):wpAny M A (storeName X.env x u) Q E s:=by
 obtain ⟨m,hn,hl⟩:=id I.loc
 have hcls:(X.env.scope.kind==.class || (X.env.scope.kind==.module&&X.env.locals != X.env.globals))=false:=by rw [I.ok.kind]; rfl
 have hiσ:i < σ.length:=by rw [I.len]; exact (a0w.mp hi).1
 have cne:=I.cne
 have tracked:∀ {a:Addr} {h':Heap},(∃ o,s.heap.get? a=some o/\H a=none)->Heap.SameBut a s.heap h'->HOk X.prog X.w H h':=fun {a h'} ha hs b ob e=>by
  obtain ⟨_,_,hfree⟩:=ha
  refine (I.hok b ob e).stay (fun c w' hc q=>(hs.2 c ?_).trans q) (fun _ q=>q) fun _ _ q=>q
  rintro rfl
  rcases hc with rfl | hc
  ·rw [hfree] at e; cases e
  ·rw [hfree] at hc; cases hc
 rcases hx with hk | hk
 ·refine wpAny_storeName_local hk hn (fun h' hn' hs=>?_) hcls
  obtain ⟨oL,_,_,hoL,_⟩:=id hn
  refine h _ ⟨I.ok,I.os,I.bare,⟨fun b o e n hb hx=>?_,fun b o e n hb hx=>?_,I.base.free,fun b o e hx=>?_,I.base.tups,I.base.frzs,I.base.tbls⟩,⟨_,hn',fun j y v' e1 e2 e3=>?_⟩,fun y c e=>?_,I.free,I.freeC,fun p hp=>?_,tracked ⟨oL,hoL,I.free⟩ hs,by simpa using I.len⟩ ⟨_,hs,.inl rfl⟩
  ·exact (hs.2 b (a0y (a0n (Heap.lt_size e) I.ok.above))).trans (I.base.keep b o e n hb hx)
  ·obtain ⟨sl,e1⟩:=I.base.slot b o e n hb hx
   exact ⟨sl,(hs.2 b (a0y (a0n (Heap.lt_size e) I.ok.above))).trans e1⟩
  ·obtain ⟨o',e1⟩:=I.base.there b o e hx
   exact ⟨o',(hs.2 b (a0y (a0n (Heap.lt_size e) I.ok.above))).trans e1⟩
  ·by_cases hj:j=i
   ·subst hj
    rw [hi] at e1; cases e1
    rw [a1I hiσ] at e2
    cases e2
    exact ⟨u,r,.inl ⟨hk,by simp⟩⟩
   ·rw [a1u (a1T hj)] at e2
    obtain ⟨u',r',q⟩:=hl j y v' e1 e2 e3
    refine ⟨u',r',?_⟩
    rcases q with ⟨k,e⟩ | ⟨k,c,e,z⟩
    ·refine .inl ⟨k,?_⟩
     have:y≠x:=fun e=>hj (i7 hN e1 (e ▸ hi))
     simp [this,e]
    ·exact .inr ⟨k,c,e,z.sameBut hs (cne y c e)⟩
  ·obtain ⟨w',z⟩:=I.cell y c e
   exact ⟨w',z.sameBut hs (cne y c e)⟩
  ·obtain ⟨e,n,ne,nf,d⟩:=I.pin p hp
   exact ⟨(hs.2 p.1 ne).trans e,n,ne,nf,d⟩
 ·have hfn:X.fn x=true:=by
   rcases hf with z | z
   ·exact z
   ·rw [z] at hk; cases hk
  obtain ⟨c,hc⟩:=I.ok.has x (.inl hk)
  obtain ⟨w',z⟩:=I.cell x c hc
  refine wpAny_storeName_cell I.ok.kind hk hc z (fun h' hc' hs=>?_)
  obtain ⟨oc,hoc,hocd⟩:=id z
  refine h { s with heap:=h' } ⟨I.ok,I.os,I.bare,⟨fun b o e n hb hx=>?_,fun b o e n hb hx=>?_,I.base.free,fun b o e hx=>?_,I.base.tups,I.base.frzs,I.base.tbls⟩,⟨m,hn.sameBut hs (a1T (cne x c hc)),fun j y v' e1 e2 e3=>?_⟩,fun y c' e=>?_,I.free,I.freeC,fun p hp=>?_,tracked ⟨oc,hoc,I.freeC x c hc⟩ hs,by simpa using I.len⟩ ⟨c,hs,.inr hc⟩
  ·exact (hs.2 b (a0y (a0n (Heap.lt_size e) (I.ok.cab x c hfn hc)))).trans (I.base.keep b o e n hb hx)
  ·obtain ⟨sl,e1⟩:=I.base.slot b o e n hb hx
   exact ⟨sl,(hs.2 b (a0y (a0n (Heap.lt_size e) (I.ok.cab x c hfn hc)))).trans e1⟩
  ·obtain ⟨o',e1⟩:=I.base.there b o e hx
   exact ⟨o',(hs.2 b (a0y (a0n (Heap.lt_size e) (I.ok.cab x c hfn hc)))).trans e1⟩
  ·by_cases hj:j=i
   ·subst hj
    rw [hi] at e1; cases e1
    rw [a1I hiσ] at e2
    cases e2
    exact ⟨u,r,.inr ⟨.inl hk,c,hc,hc'⟩⟩
   ·rw [a1u (a1T hj)] at e2
    obtain ⟨u',r',q⟩:=hl j y v' e1 e2 e3
    refine ⟨u',r',?_⟩
    rcases q with q | ⟨k,c',e,z'⟩
    ·exact .inl q
    ·refine .inr ⟨k,c',e,z'.sameBut hs ?_⟩
     rintro rfl
     exact hj (i7 hN e1 (I.ok.inj _ _ _ e hc ▸ hi))
  ·by_cases hcc:c'=c
   ·subst hcc; exact ⟨_,hc'⟩
   ·obtain ⟨w2,z2⟩:=I.cell y c' e
    exact ⟨w2,z2.sameBut hs hcc⟩
  ·obtain ⟨e,n,ne,nf,d⟩:=I.pin p hp
   refine ⟨(hs.2 p.1 ?_).trans e,n,ne,nf,d⟩
   intro q
   rw [q,hoc] at e
   have q':oc=p.2:=a0C e
   exact d w' (by rw [<- q']; exact hocd)
theorem i5 {M:Model}{A:Around}{E:Value->Shared->Prop}{i:Nat}{x:Str}{v:V}{u:Value}{Q:Unit->Shared->Prop}(I:Inv X pins σ H s)(hN:X.N.Nodup)(hi:X.N[i]?=some x)(hx:Loc X.env.scope x)(r:RelV v u)
  (h:∀ s',Inv X pins (σ.set i (some v)) H s'->Q () s') (hf:X.fn x=true\/X.env.scope.names.lookup x=some .local:=by first | exact .inl rfl | exact .inr rfl | assumption):wpAny M A (storeName X.env x u) Q E s :=
 fU I hN hi hx r (fun s' I' _=>h s' I') hf
theorem Inv.call' {s':Shared}{ch:List Addr}(I:Inv X pins σ H s)(ho:s'.os=s.os)(u:Un (frs X.stack) ch H H' s.heap s'.heap)(hok:HOk X.prog X.w H' s'.heap)(hg:AllBare s'.gens)
  (hch:∀ b∈ch,(b∈X.ex\/X.s₀.heap.objs.size<=b)/\b≠X.env.locals/\(∀ x c,X.env.cells.lookup x=some c->c≠b)/\∀ p∈X.pn++pins,p.1≠b):Inv X pins σ H' s':=by
 obtain ⟨h',g',d',t',o'⟩:=s'
 have e:o'=s.os:=ho
 subst e
 exact I.call (g':=g') (t':=t') (d':=d') u hok hg hch
end
noncomputable abbrev XK:=Value->Option Addr->Hp->Prop
noncomputable abbrev St:=List (Option V)
noncomputable abbrev VK:=V->Hp->Prop
noncomputable abbrev TE:=St->Hp->VK->Prop
noncomputable abbrev TT:=St->Hp->(Bool->Hp->Prop)->Prop
noncomputable abbrev TA:=St->Hp->(List V->Hp->Prop)->Prop
structure cx where
 nx:St->Hp->Prop
 rt:VK
 bk:St->Hp->Prop:=fun _ _=>False
 ct:St->Hp->Prop:=fun _ _=>False
noncomputable abbrev TS:=cx->St->Hp->Prop
noncomputable def EP (X:Cx)(pins:List (Addr×Obj))(σ:St)(Q:VK)(u:Value)(s':Shared):Prop:=∃ v H',Inv X pins σ H' s'/\RelV v u/\Q v H'
noncomputable def TP (X:Cx)(pins:List (Addr×Obj))(σ:St)(Q:Bool->Hp->Prop)(b:Bool)(s':Shared):Prop:=∃ H',Inv X pins σ H' s'/\Q b H'
noncomputable def AP (X:Cx)(pins:List (Addr×Obj))(σ:St)(Q:List V->Hp->Prop)(us:List Value)(s':Shared):Prop:=∃ vs H',Inv X pins σ H' s'/\Vals vs us/\Q vs H'
noncomputable def SP (X:Cx)(pins:List (Addr×Obj))(D:cx)(f:Flow)(s':Shared):Prop :=
 match f with
 | .next=>∃ σ' H',Inv X pins σ' H' s'/\D.nx σ' H'
 | .brk=>∃ σ' H',Inv X pins σ' H' s'/\D.bk σ' H'
 | .cont=>∃ σ' H',Inv X pins σ' H' s'/\D.ct σ' H'
 | .ret u=>∃ v σ' H',Inv X pins σ' H' s'/\RelV v u/\D.rt v H'
noncomputable def PE (X:Cx)(e:Expr)(t:TE):Prop :=
 ∀ (pins:List (Addr×Obj)) (s:Shared) (σ:St) (H:Hp) (Q:VK),Inv X pins σ H s->t σ H Q->wpAny (model X.prog X.w) X.A (eval e X.env) (EP X pins σ Q) X.xe s
noncomputable def PT (X:Cx)(e:Expr)(t:TT):Prop :=
 ∀ (pins:List (Addr×Obj)) (s:Shared) (σ:St) (H:Hp) (Q:Bool->Hp->Prop),Inv X pins σ H s->t σ H Q->wpAny (model X.prog X.w) X.A (isTrue e X.env (eval e X.env)) (TP X pins σ Q) X.xe s
noncomputable def PW (X:Cx)(e:Expr)(t:TT):Prop :=
 ∀ (whole:Sem Value) (pins:List (Addr×Obj)) (s:Shared) (σ:St) (H:Hp) (Q:Bool->Hp->Prop),Inv X pins σ H s->t σ H Q->wpAny (model X.prog X.w) X.A (isTrue e X.env whole) (TP X pins σ Q) X.xe s
theorem PW.pt {X:Cx}{e:Expr}{t:TT}(h:PW X e t):PT X e t:=h _
noncomputable def PA (X:Cx)(es:List Expr)(t:TA):Prop :=
 ∀ (pos:Pos) (pins:List (Addr×Obj)) (s:Shared) (σ:St) (H:Hp) (Q:List V->Hp->Prop),Inv X pins σ H s->t σ H Q->wpAny (model X.prog X.w) X.A (spliced (backTo pos (starEach es X.env))) (AP X pins σ Q) X.xe s
noncomputable def PS (X:Cx)(st:Stmt)(t:TS):Prop :=
 ∀ (pins:List (Addr×Obj)) (s:Shared) (σ:St) (H:Hp) (D:cx),Inv X pins σ H s->t D σ H->wpAny (model X.prog X.w) X.A (exec st X.env) (SP X pins D) X.xe s
noncomputable def PSs (X:Cx)(st:List Stmt)(t:TS):Prop :=
 ∀ (pins:List (Addr×Obj)) (s:Shared) (σ:St) (H:Hp) (D:cx),Inv X pins σ H s->t D σ H->wpAny (model X.prog X.w) X.A (execs st X.env) (SP X pins D) X.xe s
theorem thn {α:Type}{t:Sem α}{Q Q':α->Shared->Prop}{M:Model}{A:Around}{E:Value->Shared->Prop}{s:Shared}(h:wpAny M A t Q E s)(hQ:∀ a s,Q a s->Q' a s):wpAny M A t Q' E s:=wpAny_mono h hQ fun _ _ x=>x
end L2
namespace L2
open PySem PySem.Spec PyProof.Rows
section
variable {X:Cx}
noncomputable def qD (i:Nat):TE:=fun σ H Q=>∃ v,σ[i]?=some (some v)/\Q v H
noncomputable def tC (v:V):TE:=fun _ H Q=>Q v H
theorem de {i:Nat}{x:Str}{pos:Pos}(hN:X.N[i]?=some x)(hv:Vis X.env.scope x)(hd:(x==("__debug__":Str))=false:=by decide)(hcd:(x==("__classdict__":Str))=false:=by decide):PE X (.Name x pos) (qD i):=by
 intro pins s σ H Q I h
 obtain ⟨v,e,h⟩:=h
 obtain ⟨m,hn,hl⟩:=I.loc
 obtain ⟨u,r,l⟩:=hl i x v hN e hv
 have fin:EP X pins σ Q u s:=⟨v,H,I,r,h⟩
 rcases l with ⟨hk,hm⟩ | ⟨hk,c,hc,hcell⟩
 ·exact wpAny_Name (wpAny_loadName_local I.ok.kind hk hn hm fin) hd
 ·rcases hk with hk | hk
  ·exact wpAny_Name (wpAny_loadName_cell I.ok.kind hk hc hcell fin) hd
  ·exact wpAny_Name (wpAny_loadName_free I.ok.kind hk hc hcell fin hcd) hd
theorem xh {i j pos}:PE X (.Constant (.int i) j pos) (tC (.int i)):=fun _ _ _ H _ I h=>wpAny_Constant_int ⟨.int i,H,I.tok _,⟨_,rfl⟩,h⟩
theorem Ce {b j pos}:PE X (.Constant (.bool b) j pos) (tC (.bl b)):=fun _ _ _ H _ I h=>Constant_bool ⟨.bl b,H,I,rfl,h⟩
theorem xu {j pos}:PE X (.Constant .none j pos) (tC .non):=fun _ _ _ H _ I h=>Constant_none ⟨.non,H,I,rfl,h⟩
theorem xH {x j pos}:PE X (.Constant (.str x) j pos) (tC (.str x)):=fun _ _ _ H _ I h=>Calls.Constant_str ⟨.str x,H,I.tok _,⟨_,rfl⟩,h⟩
noncomputable def Gl (X:Cx)(x:Str):Prop:=X.env.kindOf x=some .globalImplicit
theorem kn {E:Value->Shared->Prop}{pins:List (Addr×Obj)}{s:Shared}{σ:St}{H:Hp}{x:Str}{u:Value}{pos:Pos}{Q:Value->Shared->Prop}(I:Inv X pins σ H s)(hg:Gl X x)(hm:X.mg x=some u)(h:Q u s)
  (hd:(x==("__debug__":Str))=false:=by decide):wpAny (model X.prog X.w) X.A (eval (.Name x pos) X.env) Q E s :=
 Calls.Name_function_global I.ok.kind hg (Calls.loadGlobal_global (by rw [I.ok.glob]; exact I.mod.glob.keeps I.bk) hm h) hd
theorem cW {E:Value->Shared->Prop}{pins:List (Addr×Obj)}{s:Shared}{σ:St}{H:Hp}{x:Str}{u:Value}{pos:Pos}{Q:Value->Shared->Prop}(I:Inv X pins σ H s)(hg:Gl X x)(hm:X.mg x=none)(hv:bootBuiltins x=some u)(h:Q u s)
  (hn:x≠"__name__":=by decide) (hd:(x==("__debug__":Str))=false:=by decide):wpAny (model X.prog X.w) X.A (eval (.Name x pos) X.env) Q E s:=by
 obtain ⟨mb,h1,h2⟩:=I.mod.blt
 exact Calls.Name_function_global I.ok.kind hg (Calls.loadGlobal_builtin (by rw [I.ok.glob]; exact I.mod.glob.keeps I.bk) hm (by rw [I.ok.blt]; exact h1.keeps I.bk) ((h2 x hn).trans hv) h) hd
theorem kx {x:Str}{v:V}{u:Value}{pos:Pos}(hg:Gl X x)(hm:X.mg x=some u)(r:RelV v u)(hd:(x==("__debug__":Str))=false:=by decide):PE X (.Name x pos) (tC v) :=
 fun _ _ _ H _ I h=>kn I hg hm ⟨v,H,I,r,h⟩ hd
theorem rP {x:Str}{v:V}{u:Value}{pos:Pos}(hg:Gl X x)(hm:X.mg x=none)(hv:bootBuiltins x=some u)(r:RelV v u)(hn:x≠"__name__":=by decide)(hd:(x==("__debug__":Str))=false:=by decide):PE X (.Name x pos) (tC v) :=
 fun _ _ _ H _ I h=>cW I hg hm hv ⟨v,H,I,r,h⟩ hn hd
variable {a b:Expr}{ta tb:TE}{pos:Pos}
noncomputable def PC (X:Cx)(op:CmpOp)(a b:Expr)(t:TE):Prop :=
 ∀ (pins:List (Addr×Obj)) (s:Shared) (σ:St) (H:Hp) (Q:VK),Inv X pins σ H s->t σ H Q ->
  wpAny (model X.prog X.w) X.A (eval a X.env) (fun v s₁=>wpAny (model X.prog X.w) X.A (eval b X.env) (fun u s₂=>wpAny (model X.prog X.w) X.A (compareOp op v u) (EP X pins σ Q) X.xe s₂) X.xe s₁) X.xe s
noncomputable def tB (t:TE):TT:=fun σ H Q=>t σ H fun x H1=>∃ c,x=.bl c/\Q c H1
variable {tA tB':TT}{rest:List Expr}
noncomputable def BB (t u:TT):TT:=fun σ H Q=>t σ H fun c H1=>if c=true then u σ H1 Q else Q false H1
noncomputable def tOr (t u:TT):TT:=fun σ H Q=>t σ H fun c H1=>if c=true then Q true H1 else u σ H1 Q
noncomputable def Aa (t:TT):TT:=fun σ H Q=>t σ H fun c H1=>Q (!c) H1
theorem vn (ha:PT X a tA):PW X (.BoolOp .And [a] pos) tA:=by
 intro wh pins s σ H Q I h
 refine isTrue_and (thn (ha pins s σ H Q I h) fun c s1 e=>?_)
 cases c with
 | true=>exact isTrue_and_nil e
 | false=>exact e
theorem yF (ha:PT X a tA):PW X (.BoolOp .Or [a] pos) tA:=by
 intro wh pins s σ H Q I h
 refine isTrue_or (thn (ha pins s σ H Q I h) fun c s1 e=>?_)
 cases c with
 | false=>exact isTrue_or_nil e
 | true=>exact e
theorem xM (ha:PT X a tA)(hb:PW X (.BoolOp .And (b::rest) pos) tB'):PW X (.BoolOp .And (a::b::rest) pos) (BB tA tB'):=by
 intro wh pins s σ H Q I h
 refine isTrue_and (thn (ha pins s σ H _ I h) fun c s1 ⟨H1,I1,q1⟩=>?_)
 cases c with
 | true=>exact hb wh pins s1 σ H1 Q I1 q1
 | false=>exact ⟨H1,I1,q1⟩
theorem Bn (ha:PT X a tA)(hb:PW X (.BoolOp .Or (b::rest) pos) tB'):PW X (.BoolOp .Or (a::b::rest) pos) (tOr tA tB'):=by
 intro wh pins s σ H Q I h
 refine isTrue_or (thn (ha pins s σ H _ I h) fun c s1 ⟨H1,I1,q1⟩=>?_)
 cases c with
 | true=>exact ⟨H1,I1,q1⟩
 | false=>exact hb wh pins s1 σ H1 Q I1 q1
theorem ye (ha:PT X a tA):PT X (.UnaryOp .Not a pos) (Aa tA):=by
 intro pins s σ H Q I h
 exact isTrue_not (ha pins s σ H (fun c H1=>Q (!c) H1) I h)
theorem zd {op}{t:TE}(h:PE X a t):PE X (.BoolOp op [a] pos) t:=fun pins s σ H Q I hw=>BoolOp_one (h pins s σ H Q I hw)
noncomputable def tIf (t:TT)(ta tb:TE):TE:=fun σ H Q=>t σ H fun c H1=>if c=true then ta σ H1 Q else tb σ H1 Q
theorem n6 {c:Expr}(hc:PT X c tA)(ha:PE X a ta)(hb:PE X b tb):PE X (.IfExp c a b pos) (tIf tA ta tb):=by
 intro pins s σ H Q I h
 refine wpAny_IfExp (thn (hc pins s σ H _ I h) fun d s1 ⟨H1,I1,q1⟩=>?_)
 cases d with
 | true=>exact ha pins s1 σ H1 Q I1 q1
 | false=>exact hb pins s1 σ H1 Q I1 q1
end
end L2
namespace L2
open PySem PySem.Spec PyProof.Rows
noncomputable def SqL (K:a0a)(H:Hp)(a:Addr)(xs:List V):Prop :=
 Rd H a (.lst xs) \/
  ∃ (o:Obj) (its:Array Value) (n:Nat),K.lookup a=some o/\o.cls=.type "list"/\o.dict=none/\o.data=.seq its n/\its.size<=sizeLine/\Vals xs its.toList
noncomputable def SqT (K:a0a)(H:Hp)(a:Addr)(xs:List V):Prop :=
 Rd H a (.tup xs) \/
  ∃ (o:Obj) (its:Array Value) (n:Nat),K.lookup a=some o/\o.cls=.type "tuple"/\o.data=.seq its n/\its.size<=sizeLine/\Vals xs its.toList
noncomputable def C4:Value->Option V
 | .none=>some .non
 | .bool b=>some (.bl b)
 | .int i _=>some (.int i)
 | .str x _=>some (.str x)
 | .bytes b _=>some (.byt b)
 | .float b _=>some (.flt b)
 | .ref a=>some (.ref a)
 | .type n=>some (.ty n)
 | _=>none
theorem RelV.abs {x:V}{u:Value}(r:RelV x u):C4 u=some x:=by
 cases x with
 | non=>cases r; rfl
 | bl _=>cases r; rfl
 | int _=>obtain ⟨t,rfl⟩:=r; rfl
 | str _=>obtain ⟨t,rfl⟩:=r; rfl
 | byt _=>obtain ⟨t,rfl⟩:=r; rfl
 | flt _=>obtain ⟨t,rfl⟩:=r; rfl
 | ref _=>cases r; rfl
 | ty _=>cases r; rfl
theorem RelV.inj {x y:V}{u:Value}(r:RelV x u)(q:RelV y u):x=y:=a0C (r.abs.symm.trans q.abs)
theorem Vals.inj:∀ {xs ys:List V} {us:List Value},Vals xs us->Vals ys us->xs=ys
 | _,_,_,.nil,.nil=>rfl
 | _,_,_,.cons r t,.cons r' t'=>by rw [r.inj r',Vals.inj t t']
section
variable {X:Cx}{pins:List (Addr×Obj)}{σ:St}{H:Hp}{s:Shared}{a:Addr}{xs ys:List V}
theorem SqL.of {K:a0a}(h:H a=some (.lst xs)):SqL K H a xs:=.inl (.inl h)
theorem SqT.of {K:a0a}(h:H a=some (.tup xs)):SqT K H a xs:=.inl (.inl h)
theorem Inv.list (I:Inv X pins σ H s)(h:SqL X.K H a xs):∃ its:List Value,Vals xs its/\PlainL s.heap a its.toArray/\xs.length<=sizeLine:=by
 rcases h with h | ⟨o,its,n,hk,hc,hd,hs,hz,r⟩
 ·obtain ⟨z,its,n,r,e⟩:=h.ok I.hok
  exact ⟨its,r,⟨_,n,e,rfl,rfl,rfl⟩,z⟩
 ·refine ⟨its.toList,r,⟨o,n,I.kIn a o hk,hc,hd,by simpa using hs⟩,?_⟩
  have e:=r.length
  simp only [a0I] at e
  omega
theorem Inv.tuple (I:Inv X pins σ H s)(h:SqT X.K H a xs):∃ its:List Value,Vals xs its/\IsTup s.heap a its.toArray/\xs.length<=sizeLine:=by
 rcases h with h | ⟨o,its,n,hk,hc,hs,hz,r⟩
 ·obtain ⟨z,its,r,p⟩:=h.ok I.hok
  exact ⟨its,r,p,z⟩
 ·refine ⟨its.toList,r,⟨o,I.kIn a o hk,hc,n,by simpa using hs⟩,?_⟩
  have e:=r.length
  simp only [a0I] at e
  omega
theorem Inv.list_inj (I:Inv X pins σ H s)(h:SqL X.K H a xs)(h':SqL X.K H a ys):xs=ys:=by
 obtain ⟨its,r,⟨o,n,e,_,_,d⟩,_⟩:=I.list h
 obtain ⟨its',r',⟨o',n',e',_,_,d'⟩,_⟩:=I.list h'
 rw [e] at e'; cases e'
 rw [d] at d'
 injection d' with d1 _
 have:its=its':=by simpa using congrArg a24 d1
 subst this
 exact r.inj r'
theorem Inv.tuple_inj (I:Inv X pins σ H s)(h:SqT X.K H a xs)(h':SqT X.K H a ys):xs=ys:=by
 obtain ⟨its,r,⟨o,e,_,n,d⟩,_⟩:=I.tuple h
 obtain ⟨its',r',⟨o',e',_,n',d'⟩,_⟩:=I.tuple h'
 rw [e] at e'; cases e'
 rw [d] at d'
 injection d' with d1 _
 have:its=its':=by simpa using congrArg a24 d1
 subst this
 exact r.inj r'
end
noncomputable abbrev Cx.wish (X:Cx)(E:Value->Shared->Prop):Cx:={ X with xe:=E }
noncomputable abbrev Cx.nox (X:Cx):Cx:=X.wish fun _ _=>False
theorem Cx.Ok.wish {X:Cx}(ok:X.Ok)(E:Value->Shared->Prop):(X.wish E).Ok :=
 ⟨ok.mod,ok.kind,ok.glob,ok.blt,ok.above,ok.inj,ok.has,ok.cab,ok.hd,ok.frames,ok.stk,ok.exf,ok.bs,ok.bsz,ok.noex,ok.exfs,ok.funs,ok.frf⟩
theorem Cx.Ok.unwish {X:Cx}{E:Value->Shared->Prop}(ok:(X.wish E).Ok):X.Ok :=
 ⟨ok.mod,ok.kind,ok.glob,ok.blt,ok.above,ok.inj,ok.has,ok.cab,ok.hd,ok.frames,ok.stk,ok.exf,ok.bs,ok.bsz,ok.noex,ok.exfs,ok.funs,ok.frf⟩
section
variable {X:Cx}{pins:List (Addr×Obj)}{σ:St}{H:Hp}{s:Shared}{E:Value->Shared->Prop}
theorem Inv.wish (I:Inv X pins σ H s)(E:Value->Shared->Prop):Inv (X.wish E) pins σ H s:=⟨I.ok.wish E,I.os,I.bare,I.base,I.loc,I.cell,I.free,I.freeC,I.pin,I.hok,I.len⟩
theorem Inv.unwish (I:Inv (X.wish E) pins σ H s):Inv X pins σ H s:=⟨I.ok.unwish,I.os,I.bare,I.base,I.loc,I.cell,I.free,I.freeC,I.pin,I.hok,I.len⟩
theorem SP.unwish {D:cx}{f:Flow}{s':Shared}(h:SP (X.wish E) pins D f s'):SP X pins D f s':=by
 cases f with
 | next=>obtain ⟨σ',H',I,q⟩:=h; exact ⟨σ',H',I.unwish,q⟩
 | brk=>obtain ⟨σ',H',I,q⟩:=h; exact ⟨σ',H',I.unwish,q⟩
 | cont=>obtain ⟨σ',H',I,q⟩:=h; exact ⟨σ',H',I.unwish,q⟩
 | ret u=>obtain ⟨v,σ',H',I,r,q⟩:=h; exact ⟨v,σ',H',I.unwish,r,q⟩
theorem PSs.nox {st:List Stmt}{t:TS}(h:PSs X.nox st t):PSs X st t:=fun pins s σ H D I hw =>
 wpAny_mono (h pins s σ H D (I.wish _) hw) (fun _ _ q=>q.unwish) fun _ _ z=>a1r z
end
section
variable {X:Cx}{st:Stmt}{rest:List Stmt}{t u:TS}{e:Expr}{te:TE}{pos:Pos}
noncomputable def vX:TS:=fun D σ H=>D.nx σ H
noncomputable def Ao (t u:TS):TS:=fun D σ H=>t { D with nx:=u D } σ H
theorem rV:PSs X [] vX:=fun _ _ σ H _ I h=>wpAny_execs_nil ⟨σ,H,I,h⟩
theorem pf (h1:PS X st t)(h2:PSs X rest u):PSs X (st::rest) (Ao t u):=by
 intro pins s σ H D I h
 refine wpAny_execs_cons (thn (h1 pins s σ H { D with nx:=u D } I h) fun f s1 q=>?_)
 cases f with
 | next =>
  obtain ⟨σ',H',I',q⟩:=q
  exact h2 pins s1 σ' H' D I' q
 | ret v=>exact q
 | brk=>exact q
 | cont=>exact q
theorem rN (h1:PS X st t):PSs X [st] t:=by
 intro pins s σ H D I h
 refine wpAny_execs_cons (thn (h1 pins s σ H D I h) fun f s1 q=>?_)
 cases f with
 | next=>exact wpAny_execs_nil q
 | ret v=>exact q
 | brk=>exact q
 | cont=>exact q
theorem Inv.quiet {pins:List (Addr×Obj)}{σ:St}{H:Hp}{s:Shared}(I:Inv X pins σ H s):interactive X.env=false:=by simp [interactive,I.ok.kind]
noncomputable def vK (te:TE):TS:=fun D σ H=>te σ H fun _ H1=>D.nx σ H1
theorem lq (he:PE X e te)(hs:swapsWith e none pos.line X.env=pure false:=by rfl):PS X (.Expr e pos) (vK te):=by
 intro pins s σ H D I h
 exact wpAny_Expr_any (thn (he pins s σ H _ I h) fun v s1 ⟨x,H1,I1,r1,q1⟩=>⟨σ,H1,I1,q1⟩) I.quiet hs
noncomputable def BV (te:TE):TS:=fun D σ H=>te σ H D.rt
theorem yz (he:PE X e te):PS X (.Return (some e) pos) (BV te):=by
 intro pins s σ H D I h
 exact wpAny_Return_some (thn (he pins s σ H _ I h) fun v s1 ⟨x,H1,I1,r1,q1⟩=>⟨x,σ,H1,I1,r1,q1⟩)
noncomputable def Cu (c:TT)(t u:TS):TS:=fun D σ H=>c σ H fun b H1=>if b=true then t D σ H1 else u D σ H1
theorem Ad {c:Expr}{a b:List Stmt}{tc:TT}(hc:PT X c tc)(ha:PSs X a t)(hb:PSs X b u):PS X (.If c a b pos) (Cu tc t u):=by
 intro pins s σ H D I h
 refine wpAny_If (thn (hc pins s σ H _ I h) fun d s1 ⟨H1,I1,q1⟩=>?_)
 cases d with
 | true=>exact ha pins s1 σ H1 D I1 q1
 | false=>exact hb pins s1 σ H1 D I1 q1
end
noncomputable abbrev TG:=V->St->Hp->(St->Hp->Prop)->Prop
noncomputable abbrev TGs:=List V->St->Hp->(St->Hp->Prop)->Prop
noncomputable def PG (X:Cx)(target:Expr)(t:TG):Prop :=
 ∀ (pins:List (Addr×Obj)) (s:Shared) (σ:St) (H:Hp) (v:V) (u:Value) (Q:St->Hp->Prop),Inv X pins σ H s->RelV v u->t v σ H Q ->
  wpAny (model X.prog X.w) X.A (assign target X.env u) (fun _ s'=>∃ σ' H',Inv X pins σ' H' s'/\Q σ' H') X.xe s
noncomputable def PGs (X:Cx)(ts:List Expr)(t:TGs):Prop :=
 ∀ (pins:List (Addr×Obj)) (s:Shared) (σ:St) (H:Hp) (vs:List V) (us:List Value) (Q:St->Hp->Prop),Inv X pins σ H s->Vals vs us->t vs σ H Q ->
  wpAny (model X.prog X.w) X.A (assignInOrder ((assignEach ts X.env).map (·.2)) us) (fun _ s'=>∃ σ' H',Inv X pins σ' H' s'/\Q σ' H') X.xe s
section
variable {X:Cx}{pos:Pos}
noncomputable def cy (i:Nat):TG:=fun v σ H Q=>Q (σ.set i (some v)) H
theorem c7 {i:Nat}{x:Str}(hN:X.N.Nodup)(hi:X.N[i]?=some x)(hx:Loc X.env.scope x)(hf:X.fn x=true\/X.env.scope.names.lookup x=some .local:=by first | exact .inl rfl | exact .inr rfl | assumption):PG X (.Name x pos) (cy i):=by
 intro pins s σ H v u Q I r h
 exact wpAny_assign_Name (i5 I hN hi hx r (fun s' I'=>⟨_,H,I',h⟩) hf)
noncomputable def sd:TGs:=fun vs σ H Q=>vs=[]/\Q σ H
noncomputable def fC (t:TG)(u:TGs):TGs:=fun vs σ H Q=>∃ v r,vs=v::r/\t v σ H fun σ' H'=>u r σ' H' Q
theorem kO:PGs X [] sd:=by
 intro pins s σ H vs us Q I r h
 obtain ⟨e,h⟩:=h
 subst e
 cases r
 exact assignInOrder_nil ⟨σ,H,I,h⟩
theorem dA {e:Expr}{es:List Expr}{t:TG}{u:TGs}(h1:PG X e t)(h2:PGs X es u)
  (hs:(assignEach (e::es) X.env).map (·.2)=assign e X.env::(assignEach es X.env).map (·.2):=by rfl):PGs X (e::es) (fC t u):=by
 intro pins s σ H vs us Q I r h
 obtain ⟨v,vr,e1,h⟩:=h
 subst e1
 cases r with
 | cons r rr =>
  rw [hs]
  refine assignInOrder_cons (thn (h1 pins s σ H _ _ _ I r h) fun _ s1 ⟨σ1,H1,I1,q1⟩=>?_)
  exact h2 pins s1 σ1 H1 _ _ Q I1 rr q1
noncomputable def uR (K:a0a)(n:Nat)(t:TGs):TG:=fun v σ H Q=>∃ a xs,v=.ref a/\SqT K H a xs/\xs.length=n/\t xs σ H Q
theorem oV {es:List Expr}{k:Nat}{t:TGs}{n:Nat}(hc:X.calm=true)(h:PGs X es t)
  (hn:(assignEach es X.env).length=n:=by rfl) (hst:(assignEach es X.env).findIdx? (·.1)=none:=by rfl):PG X (.Tuple es k pos) (uR X.K n t):=by
 intro pins s σ H v u Q I r hw
 obtain ⟨a,xs,e1,hq,hl,hw⟩:=hw
 subst e1
 cases r
 obtain ⟨its,rv,ht,hz⟩:=I.tuple hq
 refine assign_Tuple_tuple (I.ok.hd hc) ht (by simp [hn,<- hl,rv.length]) hst fun h' hx=>?_
 have I1:Inv X pins σ H { s with heap:=h' }:=I.kept (t':=s.toks) fun b o e=>hx b o (a0y (Heap.lt_size e)) e
 exact h pins _ σ H xs _ Q I1 (by simpa using rv) hw
noncomputable def mj (te:TE)(g:TG):TS:=fun D σ H=>te σ H fun x H1=>g x σ H1 D.nx
theorem w9 {tg e:Expr}{te:TE}{g:TG}(he:PE X e te)(hg:PG X tg g)(hs:swapsWithSole [tg] e pos.line X.env=pure false:=by rfl)(hw:swappedStores [tg] e X.env=pure none:=by rfl)
  (h1:(assignEach [tg] X.env).map (·.2)=[assign tg X.env]:=by rfl):PS X (.Assign [tg] e pos) (mj te g):=by
 intro pins s σ H D I h
 refine wpAny_Assign_stores (thn (he pins s σ H _ I h) fun v s1 ⟨x,H1,I1,r1,q1⟩=>?_) hs hw
 rw [h1]
 exact thn (hg pins s1 σ H1 x v _ I1 r1 q1) fun _ s2 q=>q
theorem wO {i:Nat}{x:Str}{e:Expr}{te:TE}{pos':Pos}(hN:X.N.Nodup)(hi:X.N[i]?=some x)(hx:Loc X.env.scope x)(he:PE X e te)(hs:swapsWith e (some (.Name x pos')) pos.line X.env=pure false:=by rfl)(hf:X.fn x=true\/X.env.scope.names.lookup x=some .local:=by first | exact .inl rfl | exact .inr rfl | assumption) :
  PS X (.Assign [.Name x pos'] e pos) (mj te (cy i)):=by
 intro pins s σ H D I h
 refine wpAny_Assign_Name (thn (he pins s σ H _ I h) fun v s1 ⟨y,H1,I1,r1,q1⟩=>?_) hs
 exact i5 I1 hN hi hx r1 (fun s2 I2=>⟨_,H1,I2,q1⟩) hf
end
section
variable {X:Cx}{pos:Pos}
noncomputable def pd (c:TT)(tb:TS):TS:=fun D σ H=>∃ W:Nat->St->Hp->Prop,(∃ m,W m σ H)/\∀ m σ H,W m σ H ->
 c σ H fun b H1=>if b=true then ∃ N:St->Hp->Prop,(∀ σ' H',N σ' H'->∃ m',m' < m/\W m' σ' H')/\tb { D with nx:=N,ct:=N,bk:=D.nx } σ H1 else D.nx σ H1
theorem ot {c:Expr}{body:List Stmt}{tc:TT}{tb:TS}(hp:PassesOwn (model X.prog X.w) X.A X.env X.xe)(hc:PT X c tc)(hb:PSs X body tb):PS X (.While c body [] pos) (pd tc tb):=by
 intro pins s σ H D I h
 obtain ⟨W,⟨m0,w0⟩,turn⟩:=h
 refine wpAny_While (codeAny_whileLoop (fun n s'=>∃ σ' H',Inv X pins σ' H' s'/\W n σ' H') ?_ m0 ⟨σ,H,I,w0⟩)
 rintro n s1 ⟨σ1,H1,I1,w1⟩
 refine wpAny_passesOwn hp (thn (hc pins s1 σ1 H1 _ I1 (turn n σ1 H1 w1)) fun b s2 ⟨H2,I2,q2⟩=>?_)
 cases b with
 | true =>
  obtain ⟨N,hN,q2⟩:=q2
  rw [if_pos rfl]
  refine wpAny_passesOwn hp (thn (hb pins s2 σ1 H2 _ I2 q2) fun f s3 q3=>?_)
  cases f with
  | next =>
   obtain ⟨σ3,H3,I3,n3⟩:=q3
   obtain ⟨m',hm,w3⟩:=hN σ3 H3 n3
   exact ⟨m',hm,σ3,H3,I3,w3⟩
  | cont =>
   obtain ⟨σ3,H3,I3,n3⟩:=q3
   obtain ⟨m',hm,w3⟩:=hN σ3 H3 n3
   exact ⟨m',hm,σ3,H3,I3,w3⟩
  | brk=>exact q3
  | ret v=>exact q3
 | false =>
  rw [if_neg a0d]
  exact wpAny_execs_nil ⟨σ1,H2,I2,q2⟩
end
structure It where
 go:Nat->Hp->Prop
 yld:Nat->Hp->V->Hp->Prop
 stop:Nat->Hp->Prop
noncomputable def fh (X:Cx)(pins:List (Addr×Obj))(H:Hp)(b:Addr):Prop :=
 H b=none/\b≠X.env.locals/\b ∉ X.fs/\(b∈X.ex\/X.s₀.heap.objs.size<=b)/\(∀ x c,X.env.cells.lookup x=some c->c≠b)/\∀ p∈X.pn++pins,p.1≠b
theorem Inv.fpOk {X:Cx}{pins:List (Addr×Obj)}{σ:St}{H H':Hp}{s:Shared}{b:Addr}(I:Inv X pins σ H s)(hb:s.heap.objs.size<=b)(hn:H' b=none):fh X pins H' b:=by
 refine ⟨hn,a1W (a0n I.lt hb),I.nofs hb,.inr (a0z I.sz hb),fun x c e z=>?_,fun p hp z=>?_⟩
 ·obtain ⟨v,q⟩:=I.cell x c e
  exact absurd (a0n q.lt (by rw [z]; exact hb)) (a1c _)
 ·exact absurd (a0n (Heap.lt_size (I.pin p hp).1) (by rw [z]; exact hb)) (a1c _)
structure lS (P:Program)(w:World)(K:a0a)(tg:Expr)(J:It)(fp:List Addr)(it:Addr)(tn:Nat->Heap->Prop):Prop where
 mem:it∈fp
 obj:∀ i h,tn i h->∀ b∈fp,∃ o,h.get? b=some o/\∀ v,o.data≠.cell v
 keep:∀ i h h',tn i h->(∀ b∈fp,∀ o,h.get? b=some o->h'.get? b=some o)->tn i h'
 item:∀ (X:Cx),X.prog=P->X.w=w->X.K=K->X.calm=true->∀ (i:Nat) (pins:List (Addr×Obj)) (s:Shared) (σ:St) (H:Hp) (E:Value->Shared->Prop),Inv X pins σ H s->(∀ b∈fp,fh X pins H b)->tn i s.heap->J.go i H ->
  wpAny (model P w) X.A (pyNext (.ref it)) (fun r s1=>∃ u,r=some u /\
   wpAny (model P w) X.A (letOwnedTupleGo tg (.ref it) u) (fun _ s2=>∃ x H',Inv X pins σ H' s2/\RelV x u/\J.yld i H x H'/\tn (i+1) s2.heap/\∀ b∈fp,H' b=none) E s1) E s
 done:∀ (X:Cx),X.prog=P->X.w=w->X.K=K->X.calm=true->∀ (i:Nat) (pins:List (Addr×Obj)) (s:Shared) (σ:St) (H:Hp) (E:Value->Shared->Prop),Inv X pins σ H s->(∀ b∈fp,fh X pins H b)->tn i s.heap->J.stop i H ->
  wpAny (model P w) X.A (pyNext (.ref it)) (fun r s1=>r=none/\Inv X pins σ H s1) E s
 self:∀ (A:Around) (i:Nat) (s:Shared) (Q:Value->Shared->Prop) (E:Value->Shared->Prop),tn i s.heap->Q (.ref it) s->wpAny (model P w) A (pyIter (.ref it)) Q E s
noncomputable abbrev TI:=St->Hp->(It->Hp->Prop)->Prop
noncomputable def PIE (X:Cx)(pins:List (Addr×Obj))(σ:St)(tg:Expr)(R:It->Hp->Prop)(itv:Value)(s2:Shared):Prop :=
 ∃ (it:Addr) (fp:List Addr) (tn:Nat->Heap->Prop) (J:It) (H':Hp),itv=.ref it/\Inv X pins σ H' s2/\lS X.prog X.w X.K tg J fp it tn/\tn 0 s2.heap/\(∀ b∈fp,fh X pins H' b)/\R J H'
noncomputable def PI (X:Cx)(tg iter:Expr)(wi:TI):Prop :=
 ∀ (pins:List (Addr×Obj)) (s:Shared) (σ:St) (H:Hp) (R:It->Hp->Prop),Inv X pins σ H s->wi σ H R ->
  wpAny (model X.prog X.w) X.A (eval iter X.env) (fun v s1=>wpAny (model X.prog X.w) X.A (pyIter v) (PIE X pins σ tg R) X.xe s1) X.xe s
theorem iu {M:Model}{A:Around}{E:Value->Shared->Prop}{s:Shared}{tg:Expr}{it:Addr}{u:Value}{o:Obj}{n:String}{vs:Array Value}{Q:Unit->Shared->Prop}(ho:s.heap.get? it=some o)(hc:o.cls=.type n)(hd:o.data=.fields vs)
  (hn:["enumerate","zip","dict_itemiterator","dict_reverseitemiterator","odict_iterator","itertools.zip_longest","itertools.pairwise"].contains n=false) (hQ:Q () s):wpAny M A (letOwnedTupleGo tg (.ref it) u) Q E s:=by
 unfold letOwnedTupleGo
 cases tg<;>first
  | exact wpAny_pure hQ
  | (cases u<;>first
    | exact wpAny_pure hQ
    | (refine wpAny_bind (wpAny_load ho ?_)
       rw [hc,hd]
       show wpAny M A (if (["enumerate","zip","dict_itemiterator","dict_reverseitemiterator","odict_iterator","itertools.zip_longest","itertools.pairwise"].contains n&&vs[0]?==some (rawInt _))=true then _ else _) Q E s
       rw [if_neg (by intro h; rw [hn,a0B] at h; cases h)]
       exact wpAny_pure hQ))
noncomputable def Itl (K:a0a)(a:Addr):It :=
 ⟨fun i H=>∃ xs x,SqL K H a xs/\xs[i]?=some x,fun i H x H'=>H'=H/\∀ xs,SqL K H a xs->xs[i]?=some x,fun i H=>∃ xs,SqL K H a xs/\xs.length<=i⟩
noncomputable def Itt (K:a0a)(a:Addr):It :=
 ⟨fun i H=>∃ xs x,SqT K H a xs/\xs[i]?=some x,fun i H x H'=>H'=H/\∀ xs,SqT K H a xs->xs[i]?=some x,fun i H=>∃ xs,SqT K H a xs/\xs.length<=i⟩
noncomputable def Itr (lo:Int)(n:Nat):It:=⟨fun i _=>i < n,fun i H x H'=>H'=H/\x=.int (lo+i),fun i _=>n<=i⟩
theorem mD {P:Program}{w:World}{K:a0a}{tg:Expr}(a it:Addr):lS P w K tg (Itl K a) [it] it (fun i h=>h.IsListIter it a i) where
 mem:=by simp
 obj:=fun i h st b hb=>by
  have e:b=it:=by simpa using hb
  subst e
  obtain ⟨o,e,c,d⟩:=st
  exact ⟨o,e,fun v z=>by rw [d] at z; cases z⟩
 keep:=fun i h h' st k=>st.at fun o e=>k it (by simp) o e
 item:=by
  intro X hP hw hK hc i pins s σ H E I hf st hg
  subst hP hw hK
  obtain ⟨xs,x,hq,hx⟩:=hg
  obtain ⟨its,rv,p,hz⟩:=I.list hq
  obtain ⟨u,hu,ru⟩:=rv.get hx
  obtain ⟨f0,f1,f2,f3,f4,f5⟩:=hf it (by simp)
  refine wpAny_pyNext_list_item st p.isList (x:=u) (by simpa using hu) fun h' st' sb=>?_
  have I1:Inv X pins σ H { s with heap:=h' }:=I.turned (t':=s.toks) (fun b o hb e=>(sb.2 b hb).trans e) f0 f1 f3 f4 f5
  obtain ⟨o,e,c,d⟩:=id st'
  exact ⟨u,rfl,iu (s:={ s with heap:=h' }) e c d (by decide) ⟨x,H,I1,ru,⟨rfl,fun ys hy=>by rw [I.list_inj hy hq]; exact hx⟩,st',fun b hb=>(hf b hb).1⟩⟩
 done:=by
  intro X hP hw hK hc i pins s σ H E I hf st hg
  subst hP hw hK
  obtain ⟨xs,hq,hx⟩:=hg
  obtain ⟨its,rv,p,hz⟩:=I.list hq
  obtain ⟨f0,f1,f2,f3,f4,f5⟩:=hf it (by simp)
  have hl:=rv.length
  exact wpAny_pyNext_list_end (I.ok.hd hc) st p.isList (by simp; omega) fun h' eb=>⟨rfl,I.turned (t':=s.toks) (fun b o hb e=>eb b o hb e) f0 f1 f3 f4 f5⟩
 self:=fun _ _ _ _ _ st h=>wpAny_pyIter_listiter st h
theorem jq {P:Program}{w:World}{K:a0a}{tg:Expr}(a it:Addr):lS P w K tg (Itt K a) [it] it (fun i h=>h.IsTupleIter it a i) where
 mem:=by simp
 obj:=fun i h st b hb=>by
  have e:b=it:=by simpa using hb
  subst e
  obtain ⟨o,e,c,d⟩:=st
  exact ⟨o,e,fun v z=>by rw [d] at z; cases z⟩
 keep:=fun i h h' st k=>st.at fun o e=>k it (by simp) o e
 item:=by
  intro X hP hw hK hc i pins s σ H E I hf st hg
  subst hP hw hK
  obtain ⟨xs,x,hq,hx⟩:=hg
  obtain ⟨its,rv,p,hz⟩:=I.tuple hq
  obtain ⟨u,hu,ru⟩:=rv.get hx
  obtain ⟨f0,f1,f2,f3,f4,f5⟩:=hf it (by simp)
  refine wpAny_pyNext_tuple_item st (show s.heap.IsTuple a its.toArray from p) (x:=u) (by simpa using hu) fun h' st' sb=>?_
  have I1:Inv X pins σ H { s with heap:=h' }:=I.turned (t':=s.toks) (fun b o hb e=>(sb.2 b hb).trans e) f0 f1 f3 f4 f5
  obtain ⟨o,e,c,d⟩:=id st'
  exact ⟨u,rfl,iu (s:={ s with heap:=h' }) e c d (by decide) ⟨x,H,I1,ru,⟨rfl,fun ys hy=>by rw [I.tuple_inj hy hq]; exact hx⟩,st',fun b hb=>(hf b hb).1⟩⟩
 done:=by
  intro X hP hw hK hc i pins s σ H E I hf st hg
  subst hP hw hK
  obtain ⟨xs,hq,hx⟩:=hg
  obtain ⟨its,rv,p,hz⟩:=I.tuple hq
  obtain ⟨f0,f1,f2,f3,f4,f5⟩:=hf it (by simp)
  have hl:=rv.length
  exact wpAny_pyNext_tuple_end (I.ok.hd hc) st (show s.heap.IsTuple a its.toArray from p) (by simp; omega) fun h' eb=>⟨rfl,I.turned (t':=s.toks) (fun b o hb e=>eb b o hb e) f0 f1 f3 f4 f5⟩
 self:=fun _ _ _ _ _ st h=>wpAny_pyIter_tupleiter st h
theorem j1 {P:Program}{w:World}{K:a0a}{tg:Expr}(it:Addr)(lo:Int)(n:Nat):lS P w K tg (Itr lo n) [it] it (fun i h=>IsRangeIter h it (lo+(i:Nat) * 1) ((n:Int)-(i:Nat)) 1) where
 mem:=by simp
 obj:=fun i h st b hb=>by
  have e:b=it:=by simpa using hb
  subst e
  exact ⟨_,st,fun v z=>by
   have z':Data.fields _=Data.cell v:=z
   cases z'⟩
 keep:=fun i h h' st k=>k it (by simp) _ st
 item:=by
  intro X hP hw hK hc i pins s σ H E I hf st hg
  subst hP hw hK
  obtain ⟨f0,f1,f2,f3,f4,f5⟩:=hf it (by simp)
  have W:=Walks.range (prog:=X.prog) (w:=X.w) (I.ok.hd hc) it lo 1 n
  refine W.item i s _ _ hg st fun v h' tk hv st' kk=>?_
  obtain ⟨t,rfl⟩:=hv
  have I1:Inv X pins σ H { s with heap:=h',toks:=tk }:=I.turned (fun b o hb e=>kk b o (by simpa using hb) e) f0 f1 f3 f4 f5
  refine ⟨_,rfl,iu (s:={ s with heap:=h',toks:=tk }) (n:="range_iterator") st' rfl rfl (by decide) ⟨.int (lo+i),H,I1,⟨t,?_⟩,⟨rfl,rfl⟩,st',fun b hb=>(hf b hb).1⟩⟩
  rw [Int.mul_one]
 done:=by
  intro X hP hw hK hc i pins s σ H E I hf st hg
  subst hP hw hK
  obtain ⟨f0,f1,f2,f3,f4,f5⟩:=hf it (by simp)
  exact wpAny_pyNext_range_end (I.ok.hd hc) st (by have:n<=i:=hg; omega) fun h' eb=>⟨rfl,I.turned (t':=s.toks) (fun b o hb e=>eb b o hb e) f0 f1 f3 f4 f5⟩
 self:=fun _ _ _ _ _ st h=>wpAny_pyIter_rangeiter st h
end L2
namespace L2
open PySem PySem.Spec PyProof.Rows
section
variable {X:Cx}{tg:Expr}
noncomputable def v3 (K:a0a)(tl:TE):TI:=fun σ H R=>tl σ H fun x H1=>∃ a,x=.ref a/\(∃ xs,SqL K H1 a xs)/\R (Itl K a) H1
noncomputable def CG (K:a0a)(tl:TE):TI:=fun σ H R=>tl σ H fun x H1=>∃ a,x=.ref a/\(∃ xs,SqT K H1 a xs)/\R (Itt K a) H1
theorem rR {l:Expr}{tl:TE}(hl:PE X l tl):PI X tg l (v3 X.K tl):=by
 intro pins s σ H R I h
 refine thn (hl pins s σ H _ I h) fun v s1 ⟨x,H1,I1,r1,q1⟩=>?_
 obtain ⟨a,e,⟨xs,hq⟩,q⟩:=q1
 subst e
 cases r1
 obtain ⟨its,rv,p,hz⟩:=I1.list hq
 refine wpAny_pyIter_list p.isList ?_
 refine ⟨s1.heap.objs.size,[s1.heap.objs.size],_,_,H1,rfl,I1.kept (t':=s1.toks) fun b o e=>Heap.get?_push_of_some _ e,mD a _,⟨_,Heap.get?_push_size _ rfl,rfl,rfl⟩,fun b hb=>?_,q⟩
 have e:b=s1.heap.objs.size:=by simpa using hb
 subst e
 exact I1.fpOk (a0r _) (I1.hok.fresh (a0r _))
theorem y7 {l:Expr}{tl:TE}(hl:PE X l tl):PI X tg l (CG X.K tl):=by
 intro pins s σ H R I h
 refine thn (hl pins s σ H _ I h) fun v s1 ⟨x,H1,I1,r1,q1⟩=>?_
 obtain ⟨a,e,⟨xs,hq⟩,q⟩:=q1
 subst e
 cases r1
 obtain ⟨its,rv,p,hz⟩:=I1.tuple hq
 refine wpAny_pyIter_tuple (show s1.heap.IsTuple a its.toArray from p) ?_
 refine ⟨s1.heap.objs.size,[s1.heap.objs.size],_,_,H1,rfl,I1.kept (t':=s1.toks) fun b o e=>Heap.get?_push_of_some _ e,jq a _,⟨_,Heap.get?_push_size _ rfl,rfl,rfl⟩,fun b hb=>?_,q⟩
 have e:b=s1.heap.objs.size:=by simpa using hb
 subst e
 exact I1.fpOk (a0r _) (I1.hok.fresh (a0r _))
theorem iV {pins:List (Addr×Obj)}{σ:St}{H:Hp}{s:Shared}{R:It->Hp->Prop}{E:Value->Shared->Prop}{lo hi:Int}{t u v:Tok}{tk:Nat}(I:Inv X pins σ H s)(h1:-(2 ^ 62)<=lo)(h2:lo < 2 ^ 62)(h3:-(2 ^ 62)<=hi)(h4:hi < 2 ^ 62)
  (q:R (Itr lo (hi-lo).toNat) H):wpAny (model X.prog X.w) X.A (pyIter (.ref s.heap.objs.size)) (PIE X pins σ tg R) E { s with heap:=s.heap.push { cls:=.type "range",data:=.fields #[.int lo t,.int hi u,.int 1 v] },toks:=tk }:=by
 refine wpAny_pyIter_range (IsRange.new ..) (small_one h1 h2 h3 h4) ?_
 have I1:Inv X pins σ H { s with heap:=s.heap.push { cls:=.type "range",data:=.fields #[.int lo t,.int hi u,.int 1 v] },toks:=tk }:=I.kept fun b o e=>Heap.get?_push_of_some _ e
 refine ⟨(s.heap.push { cls:=.type "range",data:=.fields #[.int lo t,.int hi u,.int 1 v] }).objs.size,[(s.heap.push { cls:=.type "range",data:=.fields #[.int lo t,.int hi u,.int 1 v] }).objs.size],_,_,H,rfl,
  I1.kept (t':=tk) fun b o e=>Heap.get?_push_of_some _ e,j1 _ lo (hi-lo).toNat,?_,fun b hb=>?_,q⟩
 ·have e1:lo+((0:Nat):Int) * 1=lo:=by simp
  have e2:(((hi-lo).toNat:Nat):Int)-((0:Nat):Int)=Builtin.Range.rangeSize lo hi 1:=by rw [rangeSize_one]; split<;>omega
  show IsRangeIter _ _ (lo+((0:Nat):Int) * 1) ((((hi-lo).toNat:Nat):Int)-((0:Nat):Int)) 1
  rw [e1,e2]
  exact Heap.get?_push_size _ rfl
 ·have e:b=(s.heap.push { cls:=.type "range",data:=.fields #[.int lo t,.int hi u,.int 1 v] }).objs.size:=by simpa using hb
  subst e
  exact I1.fpOk (a0r _) (I1.hok.fresh (a0r _))
noncomputable def wc (ta:TA):TI:=fun σ H R=>ta σ H fun vs H1=>∃ j:Int,vs=[.int j]/\-(2 ^ 62)<=j/\j < 2 ^ 62/\R (Itr 0 j.toNat) H1
noncomputable def vV (ta:TA):TI:=fun σ H R=>ta σ H fun vs H1=>∃ i j:Int,vs=[.int i,.int j]/\(-(2 ^ 62)<=i/\i < 2 ^ 62/\-(2 ^ 62)<=j/\j < 2 ^ 62)/\R (Itr i (j-i).toNat) H1
theorem lB {a:Expr}{ta:TA}{p pos:Pos}(hg:Gl X "range")(hm:X.mg "range"=none)(ha:PA X [a] ta)(hs:starEach [a] X.env=[(false,eval a X.env)]:=by rfl):PI X tg (.Call (.Name "range" p) [a] [] pos) (wc ta):=by
 intro pins s σ H R I h
 refine Call_ (cW I hg hm boot_range (a0X (thn (ha pos pins s σ H _ I h) fun us s1 ⟨vs,H1,I1,r1,q1⟩=>?_) hs rfl))
 obtain ⟨j,e,q1,q2,q⟩:=q1
 subst e
 cases r1 with
 | cons r rr =>
  cases rr
  obtain ⟨t,rfl⟩:=r
  exact call_range_1 (iV I1 (by omega) (by omega) q1 q2 (by simpa using q))
theorem mU {a b:Expr}{ta:TA}{p pos:Pos}(hg:Gl X "range")(hm:X.mg "range"=none)(ha:PA X [a,b] ta)(hs:starEach [a,b] X.env=[(false,eval a X.env),(false,eval b X.env)]:=by rfl)(hs2:starEach [b] X.env=[(false,eval b X.env)]:=by rfl) :
  PI X tg (.Call (.Name "range" p) [a,b] [] pos) (vV ta):=by
 intro pins s σ H R I h
 refine Call_ (cW I hg hm boot_range (a0X (thn (ha pos pins s σ H _ I h) fun us s1 ⟨vs,H1,I1,r1,q1⟩=>?_) (by rw [hs,hs2]) (by rw [hs2]; rfl)))
 obtain ⟨i,j,e,⟨q1,q2,q3,q4⟩,q⟩:=q1
 subst e
 cases r1 with
 | cons r rr =>
  cases rr with
  | cons r' rr =>
   cases rr
   obtain ⟨t,rfl⟩:=r
   obtain ⟨t',rfl⟩:=r'
   exact call_range_2 (iV I1 q1 q2 q3 q4 q)
noncomputable def Ab (wi:TI)(g:TG)(tb:TS):TS:=fun D σ H=>wi σ H fun J H1=>∃ W:Nat->Nat->St->Hp->Prop,(∃ m,W 0 m σ H1)/\∀ i m σ H,W i m σ H ->
 (J.stop i H/\D.nx σ H)\/(J.go i H/\∃ N:St->Hp->Prop,(∀ σ' H',N σ' H'->∃ m',m' < m/\W (i+1) m' σ' H')/\∀ x H',J.yld i H x H'->g x σ H' fun σ2 H2=>tb { D with nx:=N,ct:=N,bk:=D.nx } σ2 H2)
noncomputable def fD (fp:List Addr)(h:Heap):List (Addr×Obj):=fp.filterMap fun b=>(h.get? b).map fun o=>(b,o)
theorem bx {fp:List Addr}{h:Heap}{b:Addr}{o:Obj}(hb:b∈fp)(e:h.get? b=some o):(b,o)∈fD fp h:=a2v.mpr ⟨b,hb,by rw [e]; rfl⟩
theorem l7 {fp:List Addr}{h:Heap}{p:Addr×Obj}(hp:p∈fD fp h):p.1∈fp/\h.get? p.1=some p.2:=by
 obtain ⟨b,hb,e⟩:=a2v.mp hp
 cases q:h.get? b with
 | none=>rw [q] at e; cases e
 | some o =>
  rw [q] at e
  have e':(b,o)=p:=a0C e
  subst e'
  exact ⟨hb,q⟩
theorem Inv.pinned {pins:List (Addr×Obj)}{σ:St}{H:Hp}{s:Shared}{fp:List Addr}(I:Inv X pins σ H s)(hf:∀ b∈fp,fh X pins H b)(ho:∀ b∈fp,∃ o,s.heap.get? b=some o/\∀ v,o.data≠.cell v):Inv X (pins++fD fp s.heap) σ H s :=
 I.pins_of fun p hp=>(a0S.mp hp).elim (fun z=>I.pin p (a0l _ z)) fun z=>by
  obtain ⟨hb,e⟩:=l7 z
  obtain ⟨f0,f1,f2,_⟩:=hf p.1 hb
  obtain ⟨o,e',d⟩:=ho p.1 hb
  rw [e] at e'; cases e'
  exact ⟨e,f0,f1,f2,d⟩
theorem Inv.unpinned {pins pl:List (Addr×Obj)}{σ:St}{H:Hp}{s:Shared}(I:Inv X (pins++pl) σ H s):Inv X pins σ H s:=I.pins_of fun p hp=>I.pin p (a0l _ (a01 _ hp))
theorem rj {iter:Expr}{body:List Stmt}{wi:TI}{g:TG}{tb:TS}{pos:Pos}(hp:PassesOwn (model X.prog X.w) X.A X.env X.xe)(hc:X.calm=true)(hi:PI X tg iter wi)(hg:PG X tg g)(hb:PSs X body tb)
  (hs:∀ x,foldedSetIterable iter X.env x=pure x:=by intro _; rfl):PS X (.For tg iter body [] pos) (Ab wi g tb):=by
 intro pins s σ H D I h
 refine wpAny_For (thn (hi pins s σ H _ I h) fun v s1 h1=>thn h1 fun itv s2 h2=>?_) hs
 obtain ⟨it,fp,tn,J,H2,e,I2,T,st2,f2,W,⟨m0,w0⟩,turn⟩:=h2
 subst e
 -- what stays true of the iterator's objects through the loop
 have stat:∀ {H':Hp},(∀ b∈fp,H' b=none)->∀ b∈fp,fh X pins H' b:=fun hn b hb=>⟨hn b hb,(f2 b hb).2⟩
 refine codeAny_forLoop_any (fun n s'=>∃ i σ' H',Inv X pins σ' H' s'/\tn i s'.heap/\(∀ b∈fp,H' b=none)/\W i n σ' H') ?_ m0 ⟨0,σ,H2,I2,st2,fun b hb=>(f2 b hb).1,w0⟩
 rintro n s3 ⟨i,σ3,H3,I3,st3,fr3,w3⟩
 rcases turn i n σ3 H3 w3 with ⟨stop,qn⟩ | ⟨go,N,hN,step⟩
 ·refine wpAny_passesOwn hp (thn (T.done X rfl rfl rfl hc i pins s3 σ3 H3 X.xe I3 (stat fr3) st3 stop) fun r s4 ⟨hr,I4⟩=>?_)
  subst hr
  exact wpAny_execs_nil ⟨σ3,H3,I4,qn⟩
 ·refine wpAny_passesOwn hp (thn (T.item X rfl rfl rfl hc i pins s3 σ3 H3 X.xe I3 (stat fr3) st3 go) fun r s4 ⟨u,hr,h4⟩=>?_)
  subst hr
  refine wpAny_passesOwn hp (thn h4 fun _ s5 ⟨x,H5,I5,r5,y5,st5,fr5⟩=>?_)
  have I5':=I5.pinned (stat fr5) (T.obj _ _ st5)
  refine wpAny_passesOwn hp (thn (hg _ s5 σ3 H5 x u _ I5' r5 (step x H5 y5)) fun _ s6 ⟨σ6,H6,I6,q6⟩=>?_)
  refine wpAny_passesOwn hp (thn (hb _ s6 σ6 H6 _ I6 q6) fun f s7 q7=>?_)
  have again:∀ {σ7:St} {H7:Hp},Inv X (pins++fD fp s5.heap) σ7 H7 s7->N σ7 H7->∃ m,m < n/\∃ i σ' H',Inv X pins σ' H' s7/\tn i s7.heap/\(∀ b∈fp,H' b=none)/\W i m σ' H':=fun {σ7 H7} I7 n7=>by
   obtain ⟨m',hm,w7⟩:=hN σ7 H7 n7
   refine ⟨m',hm,i+1,σ7,H7,I7.unpinned,T.keep _ _ _ st5 fun b hb o e=>(I7.pin (b,o) (a0l _ (a0l _ (bx hb e)))).1,fun b hb=>?_,w7⟩
   obtain ⟨o,e,d⟩:=T.obj _ _ st5 b hb
   exact (I7.pin (b,o) (a0l _ (a0l _ (bx hb e)))).2.1
  cases f with
  | next=>obtain ⟨σ7,H7,I7,n7⟩:=q7; exact again I7 n7
  | cont=>obtain ⟨σ7,H7,I7,n7⟩:=q7; exact again I7 n7
  | brk=>obtain ⟨σ7,H7,I7,q7⟩:=q7; exact ⟨σ7,H7,I7.unpinned,q7⟩
  | ret v=>obtain ⟨x7,σ7,H7,I7,r7,q7⟩:=q7; exact ⟨x7,σ7,H7,I7.unpinned,r7,q7⟩
end
end L2
namespace L2
open PySem PySem.Spec PyProof.Rows
noncomputable abbrev R2:=V->V->Hp->VK->Prop
noncomputable def OpR (X:Cx)(f:Value->Value->Sem Value)(r:R2):Prop :=
 ∀ (pins:List (Addr×Obj)) (s:Shared) (σ:St) (H:Hp) (x y:V) (v u:Value) (Q:VK),Inv X pins σ H s->RelV x v->RelV y u->r x y H Q ->
  wpAny (model X.prog X.w) X.A (f v u) (EP X pins σ Q) X.xe s
noncomputable def UnR (X:Cx)(f:Value->Sem Value)(r:V->Hp->VK->Prop):Prop :=
 ∀ (pins:List (Addr×Obj)) (s:Shared) (σ:St) (H:Hp) (x:V) (v:Value) (Q:VK),Inv X pins σ H s->RelV x v->r x H Q ->
  wpAny (model X.prog X.w) X.A (f v) (EP X pins σ Q) X.xe s
noncomputable def cX (X:Cx)(f:Value)(r:List V->Hp->VK->Prop):Prop :=
 ∀ (pins:List (Addr×Obj)) (s:Shared) (σ:St) (H:Hp) (xs:List V) (us:List Value) (Q:VK),Inv X pins σ H s->Vals xs us->r xs H Q ->
  wpAny (model X.prog X.w) X.A (call f us) (EP X pins σ Q) X.xe s
noncomputable def Ei (X:Cx)(r:V->Hp->(Bool->Hp->Prop)->Prop):Prop :=
 ∀ (pins:List (Addr×Obj)) (s:Shared) (σ:St) (H:Hp) (x:V) (v:Value) (Q:Bool->Hp->Prop),Inv X pins σ H s->RelV x v->r x H Q ->
  wpAny (model X.prog X.w) X.A (truthy v) (TP X pins σ Q) X.xe s
noncomputable def tOp (r:R2)(ta tb:TE):TE:=fun σ H Q=>ta σ H fun x H1=>tb σ H1 fun y H2=>r x y H2 Q
noncomputable def tUn (r:V->Hp->VK->Prop)(ta:TE):TE:=fun σ H Q=>ta σ H fun x H1=>r x H1 Q
noncomputable def rI (C:Int->Int->Prop)(g:Int->Int->V):R2:=fun x y H Q=>∃ i j,x=.int i/\y=.int j/\C i j/\Q (g i j) H
noncomputable def rI0 (g:Int->Int->V):R2:=fun x y H Q=>∃ i j,x=.int i/\y=.int j/\Q (g i j) H
noncomputable def rU (g:Int->V):V->Hp->VK->Prop:=fun x H Q=>∃ i,x=.int i/\Q (g i) H
section
variable {X:Cx}{a b c:Expr}{ta tb tc:TE}{pos:Pos}
theorem wx (ha:PE X a ta)(hb:PE X b tb){pins:List (Addr×Obj)}{s:Shared}{σ:St}{H:Hp}{R:V->V->Hp->Prop}(I:Inv X pins σ H s)
  (h:ta σ H fun x H1=>tb σ H1 fun y H2=>R x y H2) {Q:Value->Shared->Prop} {f:Value->Value->Sem Value}
  (hf:∀ v u s2 x y H2,Inv X pins σ H2 s2->RelV x v->RelV y u->R x y H2->wpAny (model X.prog X.w) X.A (f v u) Q X.xe s2) :
  wpAny (model X.prog X.w) X.A (eval a X.env) (fun v s₁=>wpAny (model X.prog X.w) X.A (eval b X.env) (fun u s₂=>wpAny (model X.prog X.w) X.A (f v u) Q X.xe s₂) X.xe s₁) X.xe s:=by
 refine thn (ha pins s σ H _ I h) fun v s1 ⟨x,H1,I1,r1,q1⟩=>?_
 refine thn (hb pins s1 σ H1 _ I1 q1) fun u s2 ⟨y,H2,I2,r2,q2⟩=>?_
 exact hf v u s2 x y H2 I2 r1 r2 q2
theorem eQ {op:Operator}{r:R2}(ho:OpR X (binaryOp op) r)(ha:PE X a ta)(hb:PE X b tb):PE X (.BinOp a op b pos) (tOp r ta tb):=by
 intro pins s σ H Q I h
 exact wpAny_BinOp (wx ha hb I h fun v u s2 x y H2 I2 rx ry q=>ho pins s2 σ H2 x y v u Q I2 rx ry q)
theorem CD {op:UnaryOp}{r:V->Hp->VK->Prop}(ho:UnR X (unaryOp op) r)(ha:PE X a ta):PE X (.UnaryOp op a pos) (tUn r ta):=by
 intro pins s σ H Q I h
 exact UnaryOp_ (thn (ha pins s σ H _ I h) fun v s1 ⟨x,H1,I1,r1,q1⟩=>ho pins s1 σ H1 x v Q I1 r1 q1)
theorem opI {f:Value->Value->Sem Value}{C:Int->Int->Prop}{g:Int->Int->Int}
  (rule:∀ (i j:Int) (t u:Tok) (s:Shared) (Q:Value->Shared->Prop) (E:Value->Shared->Prop),C i j->Q (.int (g i j) s.toks) { s with toks:=s.toks+1 }->wpAny (model X.prog X.w) X.A (f (.int i t) (.int j u)) Q E s) :
  OpR X f (rI C fun i j=>.int (g i j)):=by
 intro pins s σ H x y v u Q I rx ry h
 obtain ⟨i,j,rfl,rfl,hc,q⟩:=h
 obtain ⟨t,rfl⟩:=rx
 obtain ⟨t',rfl⟩:=ry
 exact rule i j t t' s _ _ hc ⟨.int (g i j),H,I.tok _,⟨_,rfl⟩,q⟩
theorem Ci {f:Value->Value->Sem Value}{g:Int->Int->Int}
  (rule:∀ (i j:Int) (t u:Tok) (s:Shared) (Q:Value->Shared->Prop) (E:Value->Shared->Prop),Q (.int (g i j) s.toks) { s with toks:=s.toks+1 }->wpAny (model X.prog X.w) X.A (f (.int i t) (.int j u)) Q E s) :
  OpR X f (rI0 fun i j=>.int (g i j)):=by
 intro pins s σ H x y v u Q I rx ry h
 obtain ⟨i,j,rfl,rfl,q⟩:=h
 obtain ⟨t,rfl⟩:=rx
 obtain ⟨t',rfl⟩:=ry
 exact rule i j t t' s _ _ ⟨.int (g i j),H,I.tok _,⟨_,rfl⟩,q⟩
theorem sy {f:Value->Value->Sem Value}{g:Int->Int->Bool}
  (rule:∀ (i j:Int) (t u:Tok) (s:Shared) (Q:Value->Shared->Prop) (E:Value->Shared->Prop),Q (.bool (g i j)) s->wpAny (model X.prog X.w) X.A (f (.int i t) (.int j u)) Q E s) :
  OpR X f (rI0 fun i j=>.bl (g i j)):=by
 intro pins s σ H x y v u Q I rx ry h
 obtain ⟨i,j,rfl,rfl,q⟩:=h
 obtain ⟨t,rfl⟩:=rx
 obtain ⟨t',rfl⟩:=ry
 exact rule i j t t' s _ _ ⟨.bl (g i j),H,I,rfl,q⟩
noncomputable def yQ (i j:Int):Prop:=0 < j/\j < 1073741824
noncomputable def xT (i j:Int):Prop:=0<=j/\j<=1000000/\i.natAbs < 2 ^ 64
noncomputable def CMul (i j:Int):Prop:=(-(2 ^ 64) < i/\i < 2 ^ 64)\/(-(2 ^ 64) < j/\j < 2 ^ 64)
theorem CMul.ok {i j:Int}(h:CMul i j):IntMulOk i j:=by
 rcases h with ⟨h1,h2⟩ | ⟨h1,h2⟩
 ·exact .of_left (intBits_le_64 h1 h2)
 ·exact .of_right (intBits_le_64 h1 h2)
theorem op_add:OpR X (binaryOp .Add) (rI0 fun i j=>.int (i+j)):=Ci fun _ _ _ _ _ _ _ q=>add_int q
theorem xR:OpR X (binaryOp .Sub) (rI0 fun i j=>.int (i-j)):=Ci fun _ _ _ _ _ _ _ q=>sub_int q
theorem op_mul:OpR X (binaryOp .Mult) (rI CMul fun i j=>.int (i * j)):=opI fun _ _ _ _ _ _ _ hc q=>mul_int q hc.ok
theorem uZ:OpR X (binaryOp .FloorDiv) (rI yQ fun i j=>.int (i / j)):=opI fun i j _ _ _ _ _ hc q=>by
 have h1:(0:Int) < j:=hc.1
 have h2:j < 1073741824:=hc.2
 exact floordiv_int (by omega) (by rw [Int.fdiv_eq_ediv_of_nonneg i (by omega)]; exact q) (.inl (PyProof.noPylong_small (by omega)))
theorem zN:OpR X (binaryOp .Mod) (rI (fun _ j=>0 < j) fun i j=>.int (i % j)):=opI fun i j _ _ _ _ _ hc q=>by
 have h1:(0:Int) < j:=hc
 exact mod_int' (by omega) (by rw [Int.fmod_eq_emod_of_nonneg i (by omega)]; exact q)
theorem wN:OpR X (binaryOp .Pow) (rI xT fun i j=>.int (i ^ j.toNat)):=opI fun _ _ _ _ _ _ _ hc q=>pow_int_small hc.1 hc.2.1 hc.2.2 q
theorem unI {f:Value->Sem Value}{g:Int->Int}
  (rule:∀ (i:Int) (t:Tok) (s:Shared) (Q:Value->Shared->Prop) (E:Value->Shared->Prop),Q (.int (g i) s.toks) { s with toks:=s.toks+1 }->wpAny (model X.prog X.w) X.A (f (.int i t)) Q E s) :
  UnR X f (rU fun i=>.int (g i)):=by
 intro pins s σ H x v Q I rx h
 obtain ⟨i,rfl,q⟩:=h
 obtain ⟨t,rfl⟩:=rx
 exact rule i t s _ _ ⟨.int (g i),H,I.tok _,⟨_,rfl⟩,q⟩
theorem wZ:UnR X (unaryOp .USub) (rU fun i=>.int (-i)):=unI fun _ _ _ _ _ q=>neg_int q
end
section
variable {X:Cx}{a b c:Expr}{ta tb tc:TE}{pos:Pos}
theorem oS {pins:List (Addr×Obj)}{σ:St}{H:Hp}{s:Shared}{Q:VK}{k k':Bool}(I:Inv X pins σ H s)(q:Q (.bl k) H)(e:k=k'):EP X pins σ Q (.bool k') s:=by
 subst e
 exact ⟨.bl k,H,I,rfl,q⟩
theorem Co:OpR X (compareOp .Lt) (rI0 fun i j=>.bl (decide (i < j))):=sy fun _ _ _ _ _ _ _ q=>lt_int q
theorem jf:OpR X (compareOp .LtE) (rI0 fun i j=>.bl (decide (i<=j))):=sy fun _ _ _ _ _ _ _ q=>le_int q
theorem vR:OpR X (compareOp .Gt) (rI0 fun i j=>.bl (decide (j < i))):=sy fun _ _ _ _ _ _ _ q=>gt_int q
theorem wg:OpR X (compareOp .GtE) (rI0 fun i j=>.bl (decide (j<=i))):=sy fun _ _ _ _ _ _ _ q=>ge_int q
theorem sA:OpR X (compareOp .IsNot) (fun x y H Q=>y=.non/\Q (.bl (!decide (x=.non))) H):=by
 intro pins s σ H x y v u Q I rx ry h
 obtain ⟨rfl,q⟩:=h
 cases ry
 refine isnot_none_gen (oS I q ?_)
 cases x<;>first
  | (cases rx; rfl)
  | (obtain ⟨t,rfl⟩:=rx; rfl)
theorem OpR.or {f:Value->Value->Sem Value}{r r':R2}(h:OpR X f r)(h':OpR X f r'):OpR X f (fun x y H Q=>r x y H Q\/r' x y H Q):=by
 intro pins s σ H x y v u Q I rx ry q
 rcases q with q | q
 ·exact h pins s σ H x y v u Q I rx ry q
 ·exact h' pins s σ H x y v u Q I rx ry q
theorem bN (b:Expr){op:CmpOp}(h:op≠.In:=by decide)(h2:op≠.NotIn:=by decide):behindInMarks op b=false:=by
 have e1:(op==CmpOp.In)=false:=by cases op<;>first | rfl | exact absurd rfl h
 have e2:(op==CmpOp.NotIn)=false:=by cases op<;>first | rfl | exact absurd rfl h2
 cases b<;>simp [behindInMarks,e1,e2]
theorem dB {op:CmpOp}{r:R2}(ho:OpR X (compareOp op) r)(ha:PE X a ta)(hb:PE X b tb)(hm:behindInMarks op b=false):PE X (.Compare a [op] [b] pos) (tOp r ta tb):=by
 intro pins s σ H Q I h
 exact wpAny_Compare1 (wx ha hb I h fun v u s2 x y H2 I2 rx ry q=>ho pins s2 σ H2 x y v u Q I2 rx ry q) hm
noncomputable def pk (t:TE):TT:=fun σ H Q=>t σ H fun x H'=>∃ k,x=.bl k/\Q k H'
theorem gA {op:CmpOp}{r:R2}(ho:OpR X (compareOp op) r)(ha:PE X a ta)(hb:PE X b tb)(hm:behindInMarks op b=false):PT X (.Compare a [op] [b] pos) (pk (tOp r ta tb)):=by
 intro pins s σ H Q I h
 refine wpAny_isTrue_Compare1 (thn (ha pins s σ H _ I h) fun v s1 ⟨x,H1,I1,r1,q1⟩=>thn (hb pins s1 σ H1 _ I1 q1) fun u s2 ⟨y,H2,I2,r2,q2⟩ =>
  thn (ho pins s2 σ H2 x y v u _ I2 r1 r2 q2) fun c s3 ⟨z,H3,I3,r3,k,e,q3⟩=>?_) hm
 subst e
 cases r3
 exact wpAny_truthy_bool ⟨H3,I3,q3⟩
noncomputable def g9 (r r':R2)(ta tb tc:TE):TE:=fun σ H Q=>ta σ H fun x H1=>tb σ H1 fun y H2=>r x y H2 fun z H3=>∃ k,z=.bl k /\
 (if k=true then tc σ H3 fun w' H4=>r' y w' H4 Q else Q (.bl false) H3)
theorem iC {op op':CmpOp}{r r':R2}(ho:OpR X (compareOp op) r)(ho':OpR X (compareOp op') r')(ha:PE X a ta)(hb:PE X b tb)(hc:PE X c tc)
  (hm:lastMarks [op,op'] [b,c]=false:=by with_unfolding_all rfl):PE X (.Compare a [op,op'] [b,c] pos) (g9 r r' ta tb tc):=by
 intro pins s σ H Q I h
 refine Compare_chain (thn (ha pins s σ H _ I h) fun v s1 ⟨x,H1,I1,r1,q1⟩=>chain_link (thn (hb pins s1 σ H1 _ I1 q1) fun u s2 ⟨y,H2,I2,r2,q2⟩ =>
  thn (ho pins s2 σ H2 x y v u _ I2 r1 r2 q2) fun d s3 ⟨z,H3,I3,r3,k,e,q3⟩=>?_)) hm
 subst e
 cases r3
 refine wpAny_truthy_bool ?_
 cases k with
 | false=>exact ite_ff ⟨.bl false,H3,I3,rfl,q3⟩
 | true=>exact ite_tt (chain_last (thn (hc pins s3 σ H3 _ I3 q3) fun w' s4 ⟨z',H4,I4,r4,q4⟩=>ho' pins s4 σ H4 y z' u w' Q I4 r2 r4 q4))
theorem pN {op op':CmpOp}{r r':R2}(ho:OpR X (compareOp op) r)(ho':OpR X (compareOp op') r')(ha:PE X a ta)(hb:PE X b tb)(hc:PE X c tc)
  (hm:lastMarks [op,op'] [b,c]=false:=by with_unfolding_all rfl):PT X (.Compare a [op,op'] [b,c] pos) (pk (g9 r r' ta tb tc)):=by
 intro pins s σ H Q I h
 refine isTrue_chain (thn (ha pins s σ H _ I h) fun v s1 ⟨x,H1,I1,r1,q1⟩=>test_link (thn (hb pins s1 σ H1 _ I1 q1) fun u s2 ⟨y,H2,I2,r2,q2⟩ =>
  thn (ho pins s2 σ H2 x y v u _ I2 r1 r2 q2) fun d s3 ⟨z,H3,I3,r3,k,e,q3⟩=>?_)) hm
 subst e
 cases r3
 refine wpAny_truthy_bool ?_
 cases k with
 | false =>
  obtain ⟨k',e',q'⟩:=q3
  cases e'
  exact ite_ff ⟨H3,I3,q'⟩
 | true =>
  refine ite_tt (test_last (thn (hc pins s3 σ H3 _ I3 q3) fun w' s4 ⟨z',H4,I4,r4,q4⟩=>thn (ho' pins s4 σ H4 y z' u w' _ I4 r2 r4 q4) fun d' s5 ⟨z2,H5,I5,r5,k2,e2,q5⟩=>?_))
  subst e2
  cases r5
  exact wpAny_truthy_bool ⟨H5,I5,q5⟩
noncomputable def uD (K:a0a)(x:V)(H:Hp)(k:Bool):Prop :=
 match x with
 | .non=>k=false
 | .bl b=>k=b
 | .int i=>k=(i != 0)
 | .str y=>y.length<=sizeLine/\k=((y.length:Int) != 0)
 | .byt y=>y.size<=sizeLine/\k=((y.size:Int) != 0)
 | .ref p=>(∃ xs,SqL K H p xs/\k=!xs.isEmpty)\/(∃ xs,SqT K H p xs/\k=!xs.isEmpty)\/∃ kvs,H p=some (.dK kvs)/\k=!kvs.isEmpty
 | _=>False
theorem jQ {κ:Type}{kvs:List (κ×V)}{vs:List (κ×Value)}(r:KV kvs vs):(!vs.isEmpty)=!kvs.isEmpty:=by
 cases r<;>rfl
theorem eU {xs:List V}{its:List Value}(r:Vals xs its):(!its.toArray.isEmpty)=!xs.isEmpty:=by
 cases r<;>simp
theorem eX:(sizeLine:Nat) < 2 ^ 63:=by rw [sizeLine_eq]; decide
theorem ny:Ei X (fun x H Q=>∃ k,uD X.K x H k/\Q k H):=by
 intro pins s σ H x v Q I rx h
 obtain ⟨k,e,q⟩:=h
 have hl:=eX
 have hs:sizeLine=16777216:=sizeLine_eq
 cases x with
 | non =>
  cases rx
  have e':k=false:=e
  subst e'
  exact truthy_none ⟨H,I,q⟩
 | bl b =>
  cases rx
  have e':k=b:=e
  subst e'
  exact wpAny_truthy_bool ⟨H,I,q⟩
 | int i =>
  obtain ⟨t,rfl⟩:=rx
  have e':k=(i != 0):=e
  subst e'
  exact PySem.P.truthy_int ⟨H,I,q⟩
 | str y =>
  obtain ⟨t,rfl⟩:=rx
  obtain ⟨hy,e'⟩:y.length<=sizeLine/\k=((y.length:Int) != 0):=e
  subst e'
  exact PySem.P.truthy_str (by omega) ⟨H,I.tok _,q⟩
 | byt y =>
  obtain ⟨t,rfl⟩:=rx
  obtain ⟨hy,e'⟩:y.size<=sizeLine/\k=((y.size:Int) != 0):=e
  subst e'
  exact PySem.W.truthy_bytes (by omega) ⟨H,I.tok _,q⟩
 | ref p =>
  cases rx
  have e':(∃ xs,SqL X.K H p xs/\k=!xs.isEmpty)\/(∃ xs,SqT X.K H p xs/\k=!xs.isEmpty)\/∃ kvs,H p=some (.dK kvs)/\k=!kvs.isEmpty:=e
  rcases e' with ⟨xs,hx,e'⟩ | ⟨xs,hx,e'⟩ | ⟨kvs,hx,e'⟩
  ·subst e'
   obtain ⟨its,r,pl,hz⟩:=I.list hx
   have hlen:=r.length
   exact wpAny_truthy_list pl.isList (by simp only [a0k]; omega) ⟨H,I.tok _,by rw [eU r]; exact q⟩
  ·subst e'
   obtain ⟨its,r,pl,hz⟩:=I.tuple hx
   have hlen:=r.length
   exact truthy_tuple pl (by simp only [a0k]; omega) ⟨H,I.tok _,by rw [eU r]; exact q⟩
  ·subst e'
   obtain ⟨hz,hS,vs,r,m⟩:kvs.length<=sizeLine/\(p==sysModules)=false/\∃ vs,KV kvs vs/\s.heap.DictOf (gS X.prog X.w) p vs:=I.hok p _ hx
   have hlen:kvs.length=vs.length:=Paired.length r
   exact wpAny_truthy_dict hS m (by omega) ⟨H,I.tok _,by rw [jQ r]; exact q⟩
 | _=>exact (show False from e).elim
theorem qA (ha:PE X a ta)(he:∀ whole,isTrue a X.env whole=(do let v <- whole; standAt a.pos; holding [v] (truthy v))) :
  PT X a (fun σ H Q=>ta σ H fun x H'=>∃ k,uD X.K x H' k/\Q k H'):=by
 intro pins s σ H Q I h
 exact isTrue_plain (thn (ha pins s σ H _ I h) fun v s1 ⟨x,H1,I1,r1,q1⟩=>ny pins s1 σ H1 x v Q I1 r1 q1) (he _)
theorem op_add_str:OpR X (binaryOp .Add) (fun x y H Q=>∃ i j,x=.str i/\y=.str j/\i.length+j.length<=sizeLine/\Q (.str (i++j)) H):=by
 intro pins s σ H x y v u Q I rx ry h
 obtain ⟨i,j,rfl,rfl,hz,q⟩:=h
 obtain ⟨t,rfl⟩:=rx
 obtain ⟨t',rfl⟩:=ry
 exact add_str (fun t' tk=>⟨.str (i++j),H,I.tok _,⟨_,rfl⟩,q⟩) hz
theorem dy {x:V}{us:List Value}(r:Vals [x] us):∃ u,us=[u]/\RelV x u:=by
 cases r with
 | cons r1 r2=>cases r2; exact ⟨_,rfl,r1⟩
theorem vF {x y:V}{us:List Value}(r:Vals [x,y] us):∃ u w',us=[u,w']/\RelV x u/\RelV y w':=by
 cases r with
 | cons r1 r2 =>
  cases r2 with
  | cons r3 r4=>cases r4; exact ⟨_,_,rfl,r1,r3⟩
theorem mY (hc:X.calm=true):cX X (.builtin "max") (fun xs H Q=>∃ i j,xs=[.int i,.int j]/\Q (.int (if j > i then j else i)) H):=by
 intro pins s σ H xs us Q I r h
 obtain ⟨i,j,rfl,q⟩:=h
 obtain ⟨u,w',rfl,⟨t,rfl⟩,⟨t',rfl⟩⟩:=vF r
 refine max_two_ints (I.ok.hd hc) fun h' tk k=>⟨_,H,I.kept k,?_,q⟩
 by_cases hj:j > i
 ·rw [if_pos hj,if_pos hj]; exact ⟨_,rfl⟩
 ·rw [if_neg hj,if_neg hj]; exact ⟨_,rfl⟩
theorem lE:cX X (.type "int") (fun xs H Q=>(∃ i,xs=[.int i]/\Q (.int i) H)\/∃ k,xs=[.bl k]/\Q (.int (if k then 1 else 0)) H):=by
 intro pins s σ H xs us Q I r h
 rcases h with ⟨i,rfl,q⟩ | ⟨k,rfl,q⟩
 ·obtain ⟨u,rfl,t,rfl⟩:=dy r
  exact call_int_int ⟨.int i,H,I,⟨_,rfl⟩,q⟩
 ·obtain ⟨u,rfl,r1⟩:=dy r
  cases r1
  exact call_int_bool ⟨.int (if k then 1 else 0),H,I.tok _,⟨_,rfl⟩,q⟩
noncomputable def AZ (K:a0a)(x:V)(H:Hp)(n:Nat):Prop :=
 match x with
 | .str y=>y.length<=sizeLine/\n=y.length
 | .byt y=>y.size<=sizeLine/\n=y.size
 | .ref p=>(∃ xs,SqL K H p xs/\n=xs.length)\/∃ xs,SqT K H p xs/\n=xs.length
 | _=>False
theorem ia:cX X (.builtin "len") (fun xs H Q=>∃ x n,xs=[x]/\AZ X.K x H n/\Q (.int n) H):=by
 intro pins s σ H xs us Q I r h
 obtain ⟨x,n,rfl,e,q⟩:=h
 obtain ⟨u,rfl,rx⟩:=dy r
 have hl:=eX
 have hs:sizeLine=16777216:=sizeLine_eq
 cases x with
 | str y =>
  obtain ⟨t,rfl⟩:=rx
  obtain ⟨hy,e'⟩:y.length<=sizeLine/\n=y.length:=e
  subst e'
  exact len_str (by omega) ⟨.int _,H,I.tok _,⟨_,rfl⟩,q⟩
 | byt y =>
  obtain ⟨t,rfl⟩:=rx
  obtain ⟨hy,e'⟩:y.size<=sizeLine/\n=y.size:=e
  subst e'
  exact PySem.W.len_bytes (by omega) ⟨.int _,H,I.tok _,⟨_,rfl⟩,q⟩
 | ref p =>
  cases rx
  have e':(∃ xs,SqL X.K H p xs/\n=xs.length)\/∃ xs,SqT X.K H p xs/\n=xs.length:=e
  rcases e' with ⟨xs,hx,e'⟩ | ⟨xs,hx,e'⟩
  ·subst e'
   obtain ⟨its,r',pl,hz⟩:=I.list hx
   have hlen:=r'.length
   exact Calls.call_len_list pl.isList (by simp only [a0k]; omega) ⟨.int xs.length,H,I.tok _,⟨_,by simp only [a0k]; rw [hlen]⟩,q⟩
  ·subst e'
   obtain ⟨its,r',pl,hz⟩:=I.tuple hx
   have hlen:=r'.length
   exact len_tuple pl (by simp only [a0k]; omega) ⟨.int xs.length,H,I.tok _,⟨_,by simp only [a0k]; rw [hlen]⟩,q⟩
 | _=>exact (show False from e).elim
end
end L2
namespace L2
open PySem PySem.Spec PyProof.Rows
structure ObjM (h:Heap)(x dx C:Addr)(mA:Str->Option Value):Prop where
 obj:h.get? x=some (a2g C dx)
 ns:h.Ns1 dx mA
 ne:dx≠x
theorem mm {h:Heap}{dx:Addr}{mA:Str->Option Value}(n:h.Ns1 dx mA):∃ od,h.get? dx=some od/\∀ name,a2r name od=some (mA name):=by
 obtain ⟨o,es,ep,ho,hd,hk,_,hm⟩:=n
 refine ⟨o,ho,fun name=>?_⟩
 have e:=hm name
 unfold nsFind findBy at e
 rw [<- a2w] at e
 unfold a2r
 rw [hd]
 dsimp only
 split
 ·rename_i y q
  rw [q] at e
  exact congrArg some e
 ·rename_i q
  rw [q] at e
  have a:es.toList.any (·.refKey)=false:=by
   rw [List.any_eq_false]
   intro y hy
   obtain ⟨z,t,hkey⟩:=hk y (Array.mem_toList_iff.mp hy)
   simp [DictEntry.refKey,hkey]
  have a':¬ es.toList.any (·.refKey)=true:=by rw [a]; exact a0d
  rw [if_neg a']
  exact congrArg some e
theorem ObjM.look {h:Heap}{x dx C:Addr}{mA:Str->Option Value}(I:ObjM h x dx C mA):∃ od,PySem.W.InstAt h x (a2g C dx) C (some od)/\∀ name,a2r name od=some (mA name) :=
 let ⟨od,ho,hl⟩:=mm I.ns
 ⟨od,⟨I.obj,rfl,rfl,ho⟩,hl⟩
noncomputable def Bl (f:Str)(v:V):List (Str×V)->List (Str×V)
 | []=>[(f,v)]
 | (g,x)::r=>if g=f then (g,v)::r else (g,x)::Bl f v r
section
variable {P:Program}{w:World}{H H':Hp}{h h':Heap}{a C dx:Addr}{fs fs':List (Str×V)}
theorem sD (hok:HOk P w H h)(e:H a=some (.ins C dx fs)):∃ mA,ObjM h a dx C mA/\(∀ f,RelO (fs.lookup f) (mA f))/\a23 mA (fs.map (·.1))/\fs.length<=1000/\H dx=some (.own a):=by
 obtain ⟨d,z,ne,ob,mA,n,r,q⟩:=(show ObjOk P w H h a (.ins C dx fs) from hok a _ e)
 exact ⟨mA,⟨ob,n,ne⟩,r,q,z,d⟩
end
structure Cls (K:a0a)(C:Addr):Prop where
 pg:a2I K C Str.empty=true
 hd:PySem.W.hasDictIn K C=true
 po:PySem.W.plainOver K C=true
 sa:a2T K (.ref C) "__setattr__"=some (some (.builtin "object.__setattr__"))
theorem Cls.get {K:a0a}{C:Addr}(c:Cls K C)(f:Str):a2I K C f=true:=c.pg
section
variable {X:Cx}{pins:List (Addr×Obj)}{σ:St}{H:Hp}{s:Shared}{A:Around}{E:Value->Shared->Prop}{Q:Value->Shared->Prop}{c:Value}{b:Bool}
inductive et (K:a0a)(H:Hp):V->Value->Prop where
 | non:et K H .non (.type "NoneType")
 | bl (x:Bool):et K H (.bl x) (.type "bool")
 | int (i:Int):et K H (.int i) (.type "int")
 | str (x:Str):et K H (.str x) (.type "str")
 | flt (x:UInt64):et K H (.flt x) (.type "float")
 | lst {a:Addr} {xs:List V} (e:H a=some (.lst xs)):et K H (.ref a) (.type "list")
 | frz {a:Addr} {o:Obj} {xs:List V} (e:H a=some (.frz o (.lst xs))):et K H (.ref a) (.type "list")
 | tup {a:Addr} {xs:List V} (e:H a=some (.tup xs)):et K H (.ref a) (.type "tuple")
 | dK {a:Addr} {kvs:List (Key×V)} (e:H a=some (.dK kvs)):et K H (.ref a) (.type "dict")
 | dT {a:Addr} {kvs:List (List Key×V)} (e:H a=some (.dT kvs)):et K H (.ref a) (.type "dict")
 | ins {a C dx:Addr} {fs:List (Str×V)} (e:H a=some (.ins C dx fs)) (cl:Cls K C) (ha:a2T K (.ref C) "__class__"=some (some (.builtin "object.__class__")))
   (hn:PySem.W.specialIn K (.builtin "object.__class__") "__get__"=some (some (.builtin "getset_descriptor.__get__"))) (htk:PySem.W.takesIn K (.builtin "object.__class__")=some true)
   (hm:PySem.W.mroIn K C (.type "object")=some true):et K H (.ref a) (.ref C)
theorem c8 {x:V}{u t:Value}(I:Inv X pins σ H s)(rx:RelV x u)(ty:et X.K H x t)(e:a1o X.K t c=some b)(h:∀ tk,Q (.bool b) { s with toks:=tk }) :
  wpAny (model X.prog X.w) A (call (.builtin "isinstance") [u,c]) Q E s:=by
 cases ty with
 | non=>cases (show u=Value.none from rx); exact a0L PySem.W.kitx_none I.kIn a15 e (fun z=>nomatch z) h
 | bl y=>cases (show u=Value.bool y from rx); exact a0L PySem.W.kitx_bool I.kIn a15 e (fun z=>nomatch z) h
 | int i=>obtain ⟨t,q⟩:=(show ∃ t,u=Value.int i t from rx); cases q; exact a0L PySem.W.kitx_int I.kIn a15 e (fun z=>nomatch z) h
 | str y=>obtain ⟨t,q⟩:=(show ∃ t,u=Value.str y t from rx); cases q; exact a0L PySem.W.kitx_str I.kIn a15 e (fun z=>nomatch z) h
 | flt y=>obtain ⟨t,q⟩:=(show ∃ t,u=Value.float y t from rx); cases q; exact a0L PySem.W.kitx_float I.kIn a15 e (fun z=>nomatch z) h
 | @lst a xs ea =>
  cases (show u=Value.ref a from rx)
  obtain ⟨_,_,n,_,h1⟩:=(show ObjOk X.prog X.w H s.heap a (.lst xs) from I.hok a _ ea)
  exact a0L a16 I.kIn ⟨_,h1,rfl⟩ e (fun z=>nomatch z) h
 | @frz a ob xs ea =>
  cases (show u=Value.ref a from rx)
  obtain ⟨_,_,_,n,_,h1⟩:=(show ObjOk X.prog X.w H s.heap a (.frz ob (.lst xs)) from I.hok a _ ea)
  exact a0L a16 I.kIn ⟨_,h1,rfl⟩ e (fun z=>nomatch z) h
 | @tup a xs ea =>
  cases (show u=Value.ref a from rx)
  obtain ⟨_,_,_,p⟩:=(show ObjOk X.prog X.w H s.heap a (.tup xs) from I.hok a _ ea)
  obtain ⟨o,h1,h2,_⟩:=p
  exact a0L a2x I.kIn ⟨o,h1,h2⟩ e (fun z=>nomatch z) h
 | @dK a kvs ea =>
  cases (show u=Value.ref a from rx)
  obtain ⟨_,_,vs,_,p⟩:=(show ObjOk X.prog X.w H s.heap a (.dK kvs) from I.hok a _ ea)
  obtain ⟨o,es,ep,h1,h2,_⟩:=p
  exact a0L a2E I.kIn ⟨o,h1,h2.1⟩ e (fun z=>nomatch z) h
 | @dT a kvs ea =>
  cases (show u=Value.ref a from rx)
  obtain ⟨_,_,xs,_,o,es,ep,h1,h2,_⟩:=(show ObjOk X.prog X.w H s.heap a (.dT kvs) from I.hok a _ ea)
  exact a0L a2E I.kIn ⟨o,h1,h2.1⟩ e (fun z=>nomatch z) h
 | @ins a C dx fs ea cl ha hn htk hm =>
  cases (show u=Value.ref a from rx)
  obtain ⟨mA,O,_⟩:=sD I.hok ea
  obtain ⟨od,J,_⟩:=O.look
  exact a0L (PySem.W.kitx_own (cl.get _) cl.hd ha hn htk hm) I.kIn J e (fun z=>nomatch z) h
end
end L2
namespace L2
open PySem PySem.Spec PyProof.Rows
structure Room (k:Nat)(A:Around):Prop where
 hd:A.handled=none
 dp:A.depth+3 * k+5 < recursionLimit
 un:A.units+16 * k+200 < cLine
 gu:A.guards=some []
theorem Room.deeper {k:Nat}{A:Around}(r:Room (k+1) A)(env:Env):Room k (A.deeper env) :=
 ⟨r.hd,by have:=r.dp; show A.depth+1+3 * k+5 < _; omega,by have:=r.un; show A.units+3+16 * k+200 < _; omega,r.gu⟩
theorem Room.depth {k:Nat}{A:Around}(r:Room k A):A.depth < recursionLimit:=by have:=r.dp; omega
theorem Room.units {k:Nat}{A:Around}(r:Room k A):A.units+64 < cLine:=by have:=r.un; omega
noncomputable def xX:TA:=fun _ H Q=>Q [] H
noncomputable def kG (ta:TE)(tr:TA):TA:=fun σ H Q=>ta σ H fun x H1=>tr σ H1 fun xs H2=>Q (x::xs) H2
section
variable {X:Cx}{e:Expr}{es:List Expr}{te:TE}{t:TA}{pos:Pos}
theorem fL:PA X [] xX:=fun _ _ _ _ H Q I h=>Calls.spliced_nil ⟨[],H,I,.nil,h⟩
theorem cM (ha:PE X e te)(hr:PA X es t)(hs:starEach (e::es) X.env=(false,eval e X.env)::starEach es X.env:=by rfl):PA X (e::es) (kG te t):=by
 intro pos pins s σ H Q I h
 rw [hs]
 show wpAny _ _ (spliced ((false,eval e X.env)::backTo pos (starEach es X.env))) _ _ s
 refine Calls.spliced_cons (thn (ha pins s σ H _ I h) fun u s1 ⟨x,H1,I1,r1,q1⟩=>?_)
 exact thn (hr pos pins s1 σ H1 _ I1 q1) fun us s2 ⟨xs,H2,I2,r2,q2⟩=>⟨x::xs,H2,I2,.cons r1 r2,q2⟩
noncomputable def BW (t:TA):TE:=fun σ H Q=>t σ H fun xs H1=>xs.length<=sizeLine/\∀ p,H1 p=none->Q (.ref p) (upd H1 p (.tup xs))
noncomputable def Cq (t:TA):TE:=fun σ H Q=>t σ H fun xs H1=>xs.length<=sizeLine/\∀ p,H1 p=none->Q (.ref p) (upd H1 p (.lst xs))
theorem yw {x1}(h:PA X es t):PE X (.Tuple es x1 pos) (BW t):=by
 intro pins s σ H Q I hq
 refine wpAny_Tuple_spliced (thn (h pos pins s σ H _ I hq) fun us s1 ⟨xs,H1,I1,r,z,q⟩=>⟨by rw [<- r.length]; exact z,?_⟩)
 have hf:H1 s1.heap.objs.size=none:=I1.hok.fresh (a0r _)
 refine ⟨.ref s1.heap.objs.size,upd H1 s1.heap.objs.size (.tup xs),I1.laid (t':=s1.toks) (fun b u e=>Heap.get?_push_of_some _ e) (a0r _) ?_,rfl,q _ hf⟩
 exact ⟨z,us,r,⟨_,Heap.get?_push_size _ rfl,rfl,_,rfl⟩⟩
theorem yW (h:PA X es t):PE X (.List es pos) (Cq t):=by
 intro pins s σ H Q I hq
 refine wpAny_List_spliced (thn (h pos pins s σ H _ I hq) fun us s1 ⟨xs,H1,I1,r,z,q⟩=>⟨by rw [<- r.length]; exact z,?_⟩)
 have hf:H1 s1.heap.objs.size=none:=I1.hok.fresh (a0r _)
 refine ⟨.ref s1.heap.objs.size,upd H1 s1.heap.objs.size (.lst xs),I1.laid (t':=s1.toks) (fun b u e=>Heap.get?_push_of_some _ e) (a0r _) ?_,rfl,q _ hf⟩
 exact ⟨z,us,0,r,Heap.get?_push_size _ rfl⟩
end
noncomputable abbrev Sp:=List V->Hp->VK->XK->Prop
noncomputable abbrev CXT:=List Env->Hp->Shared->XK->Value->Shared->Prop
structure uy (P:Program)(w:World)(K:a0a)(mg:Str->Option Value)(base:Heap)(A:Around)(outer:List Env)(s:Shared)(H:Hp):Prop where
 frames:A.frames=some outer
 mod:Mod K mg base
 bs:∀ b o,base.get? b=some o->s.heap.get? b=some o/\H b=none
 bsz:base.objs.size<=s.heap.objs.size
 funs:s.heap.FunFrames base outer
 frf:∀ b∈frs outer,H b=none
 hok:HOk P w H s.heap
 bare:AllBare s.gens
noncomputable def CE (outer:List Env)(P:Program)(w:World)(H:Hp)(s:Shared)(Q:VK)(u:Value)(s':Shared):Prop :=
 ∃ v H',s'.os=s.os/\AllBare s'.gens/\Un (frs outer) [] H H' s.heap s'.heap/\HOk P w H' s'.heap/\RelV v u/\Q v H'
noncomputable def CR (CX:CXT)(outer:List Env)(P:Program)(w:World)(H:Hp)(s:Shared)(Q:VK)(E:XK)(r:Result)(s':Shared):Prop :=
 match r with
 | .ok (.ret u)=>CE outer P w H s Q u s'
 | .ok _=>False
 | .error e=>CX outer H s E e s'
structure dG (P:Program)(w:World)(K:a0a)(mg:Str->Option Value)(base:Heap)(CX:CXT)(k:Nat)(f:Addr)(fd:FuncData)(ps:List Str)(sp:Sp):Prop where
 len:∀ vs H Q E,sp vs H Q E->vs.length=ps.length
 run:∀ (A:Around) (outer:List Env) (s:Shared) (H:Hp) (args:Args) (us:List Value) (vs:List V) (Q:VK) (E:XK),Room k A->uy P w K mg base A outer s H->BindsTo s fd args (ps.zip us)->Vals vs us->sp vs H Q E ->
  codeAny (model P w) A (.call (.ref f) args) (CR CX outer P w H s Q E) s
section
variable {X:Cx}{pins:List (Addr×Obj)}{σ:St}{H:Hp}{s s':Shared}
theorem Inv.env0 (I:Inv X pins σ H s):uy X.prog X.w X.K X.mg X.base X.A X.stack s H :=
 ⟨I.ok.frames,I.ok.mod,I.bs,a0z I.ok.bsz I.sz,I.stack,I.stkFree,I.hok,I.bare⟩
theorem Inv.after {Q:VK}{u:Value}(I:Inv X pins σ H s)(h:CE X.stack X.prog X.w H s Q u s'):EP X pins σ Q u s':=by
 obtain ⟨v,H',os,bare,un,hok,r,q⟩:=h
 obtain ⟨hh,g,d,t,os'⟩:=s'
 obtain rfl:os'=s.os:=os
 exact ⟨v,H',I.call (h':=hh) (g':=g) (d':=d) (t':=t) (ch:=[]) un hok bare (fun b z=>absurd z (by simp)),r,q⟩
end
noncomputable def Ax (sp:Sp)(dvs:List V)(E:XK)(t:TA):TE:=fun σ H Q=>t σ H fun vs H1=>sp (vs++dvs) H1 Q E
noncomputable def Binds (K:a0a)(fd:FuncData)(ps:List Str)(ds:List Value):Prop :=
 ∀ (s:Shared) (us:List Value),K.In s.heap->(us++ds).length=ps.length->BindsTo s fd ⟨us,[]⟩ (ps.zip (us++ds))
theorem Binds.all {K:a0a}{fd:FuncData}{ps:List Str}(h:∀ us:List Value,us.length=ps.length->bindArgs fd ⟨us,[]⟩=pure (ps.zip us)):Binds K fd ps []:=fun s us _ hl=>by
 rw [a0P] at hl ⊢
 exact .of_eq (h us hl)
noncomputable def jv (CX:CXT)(X:Cx)(E:XK):Prop:=∀ (pins:List (Addr×Obj)) (σ:St) (H:Hp) (s:Shared) (e:Value) (s':Shared),Inv X pins σ H s->CX X.stack H s E e s'->X.xe e s'
section
variable {X:Cx}{CX:CXT}{k:Nat}{f C:Addr}{fd:FuncData}{ps:List Str}{sp:Sp}{dvs:List V}{ds:List Value}{E:XK}{x m:Str}{p pos apos:Pos}{e o:Expr}{es:List Expr}{ta:TE}{t:TA}
theorem yB {pins:List (Addr×Obj)}{σ:St}{H:Hp}{s:Shared}{Q:VK}{us:List Value}{vs:List V}(F:dG X.prog X.w X.K X.mg X.base CX k f fd ps sp)(hr:Room k X.A)(hb:Binds X.K fd ps ds)(hd:Vals dvs ds)(hx:jv CX X E)
  (I:Inv X pins σ H s) (r:Vals vs us) (h:sp (vs++dvs) H Q E):wpAny (model X.prog X.w) X.A (call (.ref f) us) (EP X pins σ Q) X.xe s:=by
 have r2:Vals (vs++dvs) (us++ds):=r.append hd
 have hl:(us++ds).length=ps.length:=by rw [<- r2.length]; exact F.len _ _ _ _ h
 refine wpAny_call (codeAny_mono (F.run X.A X.stack s H ⟨us,[]⟩ (us++ds) (vs++dvs) Q E hr I.env0 (hb s us I.kIn hl) r2 h) fun r s' hq=>?_)
 cases r with
 | error e=>exact hx pins σ H s e s' I hq
 | ok fl =>
  cases fl with
  | ret u=>exact I.after hq
  | next=>exact a1r hq
  | brk=>exact a1r hq
  | cont=>exact a1r hq
theorem t7 (F:dG X.prog X.w X.K X.mg X.base CX k f fd ps sp)(hr:Room k X.A)(hg:Gl X x)(hm:X.mg x=some (.ref f))(hk:a1P X.K (.ref f)=true)(hb:Binds X.K fd ps ds)(hd:Vals dvs ds)(hx:jv CX X E)
  (ha:PA X (e::es) t) (hdb:(x==("__debug__":Str))=false:=by decide) (he:starEach (e::es) X.env=(false,eval e X.env)::starEach es X.env:=by rfl) (hpl:(backTo pos (starEach es X.env)).any (·.1)=false:=by rfl) :
  PE X (.Call (.Name x p) (e::es) [] pos) (Ax sp dvs E t):=by
 intro pins s σ H Q I h
 refine wpAny_Call_Name_kw (kn I hg hm ?_ hdb)
 refine PySem.W.callWith_K (h₀:=X.base) I.ok.mod.kin hk (thn (ha pos pins s σ H _ I h) fun us s1 ⟨vs,H1,I1,r,q⟩=>⟨I1.kIn,?_⟩) he hpl
 exact yB F hr hb hd hx I1 r q
end
structure ag (N P:List Str)(sc:Scope):Prop where
 kind:sc.kind=.function
 co:sc.isCoroutine=false
 gen:sc.isGenerator=false
 nd:N.Nodup
 pre:N.take P.length=P
 par:∀ x∈P,sc.names.lookup x=some .local\/sc.names.lookup x=some .cell
 nofree:∀ y∈sc.names,y.2≠.free
theorem gg {kindOf:Str->Option NameKind}{x:Str}:∀ {binds:List (Str×Value)} {m:Str->Option Value},(∀ v,(x,v) ∉ binds)->bindL kindOf binds m x=m x
 | [],_,_=>rfl
 | (n,v)::r,m,h=>by
  unfold bindL
  rw [gg fun w hw=>h w (a0g _ hw)]
  split
  ·have:x≠n:=by rintro rfl; exact h v a0f
   simp [this]
  ·rfl
theorem gn {kindOf:Str->Option NameKind}{x:Str}:∀ {binds:List (Str×Value)} {m:Str->Option Value},(∀ v,(x,v) ∉ binds)->bindC kindOf binds m x=m x
 | [],_,_=>rfl
 | (n,v)::r,m,h=>by
  unfold bindC
  rw [gn fun w hw=>h w (a0g _ hw)]
  split
  ·rfl
  ·have:x≠n:=by rintro rfl; exact h v a0f
   simp [this]
theorem f9 {kindOf:Str->Option NameKind}{x:Str}{v:Value}:∀ {P:List Str} {vs:List Value} {i:Nat} {m:Str->Option Value},P.Nodup->P[i]?=some x->vs[i]?=some v->kindOf x=some .local ->
  bindL kindOf (P.zip vs) m x=some v
 | [],_,_,_,_,h,_,_=>by simp at h
 | _::_,[],_,_,_,_,h,_=>by simp at h
 | p::P,w::vs,0,m,nd,h1,h2,hk=>by
  simp at h1 h2; subst h1; subst h2
  show bindL kindOf ((p,w)::P.zip vs) m p=_
  unfold bindL
  rw [gg fun v hv=>(a1h.mp nd).1 (a2i hv).1,if_pos hk]
  simp
 | p::P,w::vs,i+1,m,nd,h1,h2,hk=>by
  show bindL kindOf ((p,w)::P.zip vs) m x=_
  unfold bindL
  exact f9 (i:=i) (a1h.mp nd).2 (by simpa using h1) (by simpa using h2) hk
theorem gc {kindOf:Str->Option NameKind}{x:Str}{v:Value}:∀ {P:List Str} {vs:List Value} {i:Nat} {m:Str->Option Value},P.Nodup->P[i]?=some x->vs[i]?=some v->kindOf x≠some .local ->
  bindC kindOf (P.zip vs) m x=some v
 | [],_,_,_,_,h,_,_=>by simp at h
 | _::_,[],_,_,_,_,h,_=>by simp at h
 | p::P,w::vs,0,m,nd,h1,h2,hk=>by
  simp at h1 h2; subst h1; subst h2
  show bindC kindOf ((p,w)::P.zip vs) m p=_
  unfold bindC
  rw [gn fun v hv=>(a1h.mp nd).1 (a2i hv).1,if_neg hk]
  simp
 | p::P,w::vs,i+1,m,nd,h1,h2,hk=>by
  show bindC kindOf ((p,w)::P.zip vs) m x=_
  unfold bindC
  exact gc (i:=i) (a1h.mp nd).2 (by simpa using h1) (by simpa using h2) hk
noncomputable def start (N:List Str)(vs:List V):St:=vs.map some++a0i (N.length-vs.length) none
noncomputable def gL (CX:CXT)(P:Program)(w:World)(K:a0a)(mg:Str->Option Value)(base:Heap)(N:List Str)(qual:Str)(scope:Scope)(f:Addr)(cd:Value)(A:Around)(outer:List Env)(s:Shared)(H:Hp)(E:XK):Cx where
 prog:=P
 w:=w
 K:=K
 mg:=mg
 base:=base
 A:=A.deeper (envOfC qual scope s.heap.objs.size f cd)
 N:=N
 s₀:=s
 H₀:=H
 env:=envOfC qual scope s.heap.objs.size f cd
 outer:=outer
 stack:=envOfC qual scope s.heap.objs.size f cd::outer
 ex:=[]
 calm:=true
 fn:=fun _=>true
 pn:=[]
 xe:=fun e s'=>wpAny (model P w) (A.deeper (envOfC qual scope s.heap.objs.size f cd)) (leaving (envOfC qual scope s.heap.objs.size f cd) e) (fun _ s''=>CX outer H s E e s'') (fun e' s''=>CX outer H s E e' s'') s'
theorem iF {sc:Scope}{n:Nat}{x:Str}(h:sc.names.lookup x=some .cell):∃ c,(cellsFrom n sc.names []).lookup x=some c:=by
 have q:=a2e sc.names n [] (.inl h)
 exact a1B.mp q
theorem mi {CX:CXT}{P:Program}{w:World}{K:a0a}{mg:Str->Option Value}{base:Heap}{N ps:List Str}{qual:Str}{scope:Scope}{f:Addr}{cd:Value}{A:Around}{outer:List Env}{s s1:Shared}{H:Hp}{E:XK}{us:List Value}{vs:List V}
  (S:ag N ps scope) (hd:A.handled=none) (e0:uy P w K mg base A outer s H) (hl:vs.length=ps.length) (r:Vals vs us)
  (x:InCallC s s.heap.objs.size (bindL (envOfC qual scope s.heap.objs.size f cd).kindOf (ps.zip us) fun _=>none) (cellsFrom (s.heap.objs.size+1) scope.names []) (bindC (envOfC qual scope s.heap.objs.size f cd).kindOf (ps.zip us) fun _=>none) s1) :
  Inv (gL CX P w K mg base N qual scope f cd A outer s H E) [] (start N vs) H s1:=by
 have hpl:ps.length<=N.length:=by have:=congrArg a0V S.pre; rw [a1U] at this; omega
 obtain ⟨h1,tk,rfl,hk⟩:=x.done
 have noA:∀ b:Addr,b ∉ (gL CX P w K mg base N qual scope f cd A outer s H E).ex:=fun b z=>absurd (show b∈([]:List Addr) from z) (by simp)
 refine ⟨⟨e0.mod,S.kind,rfl,rfl,a0r _,fun y z c h1 h2=>?_,fun y hy=>?_,fun y c _ h=>?_,fun _=>hd,Around.frames_deeper e0.frames,.inr ⟨rfl,rfl⟩,fun b z=>absurd z (noA b),e0.bs,e0.bsz,fun b _ _=>noA b,fun b z=>absurd z (noA b),e0.funs,e0.frf⟩,
  rfl,e0.bare,Un.kept hk,⟨_,x.toInCall.ns,fun i y v h1 h2 h3=>?_⟩,fun y c h=>⟨_,x.cell y c h⟩,e0.hok.fresh (a0r _),fun y c h=>?_,fun p hp=>absurd (show p∈([]:List (Addr×Obj)) from hp) (by simp),e0.hok.kept hk,?_⟩
 ·exact name_of_addr x.apart (a03 h1) (a03 h2)
 ·have hy:scope.names.lookup y=some .cell\/scope.names.lookup y=some .free:=hy
  rcases hy with hy | hy
  ·exact iF hy
  ·exact absurd rfl (S.nofree _ (a03 hy))
 ·exact a2h (x.above y c (a03 h))
 ·have hi:i < vs.length:=by
   unfold start at h2
   by_cases hi:i < vs.length
   ·exact hi
   ·rw [a02 (by simpa using hi)] at h2
    rw [a1D] at h2
    split at h2<;>cases h2
  have ha:vs[i]?=some v:=by
   unfold start at h2
   rw [a04 (by simpa using hi),a0A] at h2
   cases e:vs[i]? with
   | none=>rw [e] at h2; cases h2
   | some a=>rw [e] at h2; cases h2; rfl
  obtain ⟨u,hu,rv⟩:=r.get ha
  have hp:ps[i]?=some y:=by
   rw [<- S.pre,List.getElem?_take_of_lt (by omega)]; exact h1
  have ndP:ps.Nodup:=by rw [<- S.pre]; exact S.nd.sublist (List.take_sublist _ _)
  refine ⟨u,rv,?_⟩
  rcases S.par y (a1g hp) with k | k
  ·exact .inl ⟨k,f9 ndP hp hu k⟩
  ·obtain ⟨c,e⟩:=iF (n:=s.heap.objs.size+1) k
   refine .inr ⟨.inl k,c,e,?_⟩
   have q:=x.cell y c e
   rw [gc ndP hp hu (by show scope.names.lookup y≠_; rw [k]; decide)] at q
   exact q
 ·exact e0.hok.fresh (a2h (x.above y c (a03 h)))
 ·unfold start
  show _=N.length
  rw [a0e,a0b,a0F]
  omega
theorem BZ {CX:CXT}{P:Program}{w:World}{K:a0a}{mg:Str->Option Value}{base:Heap}{k:Nat}{f:Addr}{name qual:Str}{params:Arguments}{body:List Stmt}{scope:Scope}{dV kV doc pm cdv ct oc:Value}{an od:Option Addr}
  {osl:Array (Option Value)} {N ps:List Str} {sp:Sp} (lk:K.lookup f=some ⟨oc,od,.func (a1j name qual params body scope dV kV doc pm an cdv ct),osl⟩) (hcd:a12 K cdv qual=true) (S:ag N ps scope)
  (len:∀ vs H Q E,sp vs H Q E->vs.length=ps.length)
  (hbody:∀ (A:Around) (outer:List Env) (s:Shared) (H:Hp) (vs:List V) (Q:VK) (E:XK),Room k (A.deeper (envOfC qual scope s.heap.objs.size f cdv))->sp vs H Q E ->
   ∃ t,PSs (gL CX P w K mg base N qual scope f cdv A outer s H E) body t/\t { nx:=fun _ H'=>Q .non H',rt:=Q } (start N vs) H) :
  dG P w K mg base CX (k+1) f (a1j name qual params body scope dV kV doc pm an cdv ct) ps sp:=by
 refine ⟨len,fun A outer s H args us vs Q E hr e0 hb r hsp=>?_⟩
 have hl:=len _ _ _ _ hsp
 have KX:K.In s.heap:=e0.mod.kin.keeps fun b o e=>(e0.bs b o e).1
 have lim:s.heap.NoLimit:=e0.mod.nolimit.keeps fun b o e=>(e0.bs b o e).1
 have hkind:∀ y∈ps.zip us,scope.names.lookup y.1=some .local\/(scope.names.lookup y.1=some .cell/\((cellsFrom (s.heap.objs.size+1) scope.names []).lookup y.1).isSome=true):=fun ⟨n,v⟩ hy=>by
  rcases S.par n (a2i hy).1 with q | q
  ·exact .inl q
  ·exact .inr ⟨q,a2e _ _ _ (.inl q)⟩
 refine codeAny_call_function hr.depth (KX _ _ lk) rfl S.co S.gen rfl (PySem.W.codeRec_of KX hcd) (hb _ _ _ _ ?_)
 refine wpAny_newFunctionEnv_cells S.kind hkind fun env he s1 x=>?_
 subst he
 refine ⟨lim.keeps x.toInCall.keep,codeAny_func ?_⟩
 obtain ⟨t,ht,hq⟩:=hbody A outer s H vs Q E (hr.deeper _) hsp
 have I:Inv (gL CX P w K mg base N qual scope f cdv A outer s H E) [] (start N vs) H s1:=mi S hr.hd e0 hl r x
 refine wpAny_mono (ht [] s1 (start N vs) H _ I hq) (fun fl s' hs=>?_) fun e s' hs=>hs
 have fin:∀ {σ':St} {H':Hp} {v:V} {u:Value},Inv (gL CX P w K mg base N qual scope f cdv A outer s H E) [] σ' H' s'->RelV v u->Q v H'->CE outer P w H s Q u s' :=
  fun {σ' H' v u} J rv q=>⟨v,H',J.os,J.bare,J.base,J.hok,rv,q⟩
 cases fl with
 | ret u =>
  obtain ⟨v,σ',H',J,rv,q⟩:=hs
  exact fin J rv q
 | next =>
  obtain ⟨σ',H',J,q⟩:=hs
  exact fin (v:=V.non) (u:=Value.none) J rfl q
 | brk =>
  obtain ⟨_,_,_,q⟩:=hs
  exact a1r q
 | cont =>
  obtain ⟨_,_,_,q⟩:=hs
  exact a1r q
end L2
namespace L2
open PySem PySem.Spec PyProof.Rows
section
variable {X:Cx}{x:Str}{p pos:Pos}{e:Expr}{es:List Expr}{t:TA}{id T:String}{r:List V->Hp->VK->Prop}
noncomputable def tCB (r:List V->Hp->VK->Prop)(t:TA):TE:=fun σ H Q=>t σ H fun vs H1=>r vs H1 Q
theorem b5 (hc:cX X (.builtin id) r)(hg:Gl X x)(hm:X.mg x=none)(hv:bootBuiltins x=some (.builtin id))(ha:PA X (e::es) t)(hn:x≠"__name__":=by decide)(hdb:(x==("__debug__":Str))=false:=by decide)
  (he:starEach (e::es) X.env=(false,eval e X.env)::starEach es X.env:=by rfl) (hpl:(backTo pos (starEach es X.env)).any (·.1)=false:=by rfl):PE X (.Call (.Name x p) (e::es) [] pos) (tCB r t):=by
 intro pins s σ H Q I h
 refine wpAny_Call_Name_kw (cW I hg hm hv ?_ hn hdb)
 exact a1Q (thn (ha pos pins s σ H _ I h) fun us s1 ⟨vs,H1,I1,r1,q1⟩=>hc pins s1 σ H1 vs us Q I1 r1 q1) he hpl
theorem d0 (hc:cX X (.type T) r)(hg:Gl X x)(hm:X.mg x=none)(hv:bootBuiltins x=some (.type T))(ha:PA X (e::es) t)(hn:x≠"__name__":=by decide)(hdb:(x==("__debug__":Str))=false:=by decide)
  (he:starEach (e::es) X.env=(false,eval e X.env)::starEach es X.env:=by rfl) (hpl:(backTo pos (starEach es X.env)).any (·.1)=false:=by rfl):PE X (.Call (.Name x p) (e::es) [] pos) (tCB r t):=by
 intro pins s σ H Q I h
 refine wpAny_Call_Name_kw (cW I hg hm hv ?_ hn hdb)
 exact a0X (thn (ha pos pins s σ H _ I h) fun us s1 ⟨vs,H1,I1,r1,q1⟩=>hc pins s1 σ H1 vs us Q I1 r1 q1) he hpl
end
end L2
namespace HT
open PySem PyProof.Rows
section
variable {prog:Program}{w:World}{A:Around}{E:Value->Shared->Prop}{s:Shared}
theorem cat_tup {t b:Addr}{vs ws:List Value}{Q:Value->Shared->Prop}(ht:IsTup s.heap t vs.toArray)(hb:IsTup s.heap b ws.toArray)(hv:vs≠[])
  (h1:ws=[]->Q (.ref t) s) (h2:ws≠[]->Q (.ref s.heap.objs.size) { s with heap:=s.heap.push { cls:=.type "tuple",data:=.seq (vs++ws).toArray } })
  (hsz:vs.length+ws.length<=sizeLine):wpAny (model prog w) A (binaryOp .Add (.ref t) (.ref b)) Q E s:=by
 obtain ⟨⟨cls,dd,data,sl⟩,ho,hc,n,hd⟩:=id ht
 obtain ⟨⟨cls2,dd2,data2,sl2⟩,ho2,hc2,n2,hd2⟩:=id hb
 simp only at hc hd hc2 hd2
 subst hc hd hc2 hd2
 have e:vs.toArray++ws.toArray=(vs++ws).toArray:=by simp
 by_cases hw:ws=[]
 ·exact concat_meets ⟨_,ho,rfl⟩ ⟨_,ho2,rfl⟩ noFill_tuple_add seq_tuple_add a1J a1E (a1C _ _)
   (tuple_addW1 t b vs.toArray ws.toArray n n2 dd dd2 sl sl2 (by simpa using hv) (by simp [hw])) ⟨ho,ho2,h1 hw⟩
 ·refine concat_meets ⟨_,ho,rfl⟩ ⟨_,ho2,rfl⟩ noFill_tuple_add seq_tuple_add a1J a1E (a1C _ _)
   (tuple_addW2 t b vs.toArray ws.toArray n n2 dd dd2 sl sl2 (by simpa using hv) (by simpa using hw) (by rw [a0k,a0k]; exact hsz)) ⟨ho,ho2,?_⟩
  rw [e]
  exact h2 hw
noncomputable def sIx (n d:Nat):Option Int->Nat
 | none=>d
 | some v=>if v < 0 then (v+(n:Int)).toNat else min v.toNat n
theorem y9 (n d:Nat)(hd:d<=n)(o:Option Int):sIx n d o<=n:=by
 cases o with
 | none=>exact hd
 | some v =>
  show (if v < 0 then (v+(n:Int)).toNat else min v.toNat n)<=n
  by_cases hv:v < 0
  ·rw [if_pos hv]; omega
  ·rw [if_neg hv]; exact Nat.min_le_right _ _
theorem ly (v:Int)(n d:Nat):(if v < 0 then max (v+(n:Int)) 0 else min v (n:Int))=((sIx n d (some v):Nat):Int):=by
 show (if v < 0 then max (v+(n:Int)) 0 else min v (n:Int))=(((if v < 0 then (v+(n:Int)).toNat else min v.toNat n):Nat):Int)
 by_cases hv:v < 0
 ·simp only [if_pos hv]; omega
 ·simp only [if_neg hv]; omega
theorem jx (lo hi:Option Int)(n:Nat):Builtin.Slice.sliceAdjust lo hi 1 (n:Int)=(((sIx n 0 lo:Nat):Int),((sIx n n hi:Nat):Int)):=by
 have h1:¬ ((1:Int) < 0):=by omega
 unfold Builtin.Slice.sliceAdjust
 simp only [h1,if_false]
 refine Prod.ext ?_ ?_
 ·cases lo with
  | none=>rfl
  | some v=>exact ly v n 0
 ·cases hi with
  | none=>rfl
  | some v=>exact ly v n n
theorem jA (i j:Nat):Builtin.Slice.slicePlaces (i:Int) (j:Int) 1=j-i:=by
 unfold Builtin.Slice.slicePlaces
 have h1:(1:Int) > 0:=by omega
 simp only [h1,if_true,Int.ediv_one]
 split<;>omega
theorem fJ {v:Value}{o:Option Int}{Q:Option Int->Shared->Prop}(p:IsPart v o)(h:Q o s):wpAny (model prog w) A (Builtin.Slice.slicePartIndex v) Q E s:=by
 cases p with
 | none=>exact slicePart_none h
 | int i t=>exact slicePart_int h
theorem sliceApplied_gen {sl:Addr}{vl vu:Value}{lo hi:Option Int}{n:Nat}{Q:Int×Int×Nat->Shared->Prop}(hs:s.heap.IsSliceOf sl vl vu .none)(pl:IsPart vl lo)(pu:IsPart vu hi)
  (h:Q (((sIx n 0 lo:Nat):Int),1,sIx n n hi-sIx n 0 lo) s):wpAny (model prog w) A (Builtin.Slice.sliceApplied (.ref sl) (pure (n:Int))) Q E s:=by
 obtain ⟨os,hos,hcs,hds⟩:=id hs
 unfold Builtin.Slice.sliceApplied Builtin.Slice.sliceFields
 refine wpAny_bind (wpAny_bind (wpAny_field hos hds (x:=vl) rfl (wpAny_bind (wpAny_field hos hds (x:=vu) rfl (wpAny_bind (wpAny_field hos hds (x:=.none) rfl (wpAny_pure ?_)))))))
 refine wpAny_bind (slicePart_none ?_)
 show wpAny _ _ (if ((1:Int)==0)=true then _ else _) _ _ s
 rw [if_neg (by decide)]
 refine wpAny_bind (fJ pl (wpAny_bind (fJ pu (wpAny_bind (wpAny_pure ?_)))))
 show wpAny _ _ (match Builtin.Slice.sliceAdjust lo hi 1 (n:Int) with | (lo,hi)=>pure (lo,(1:Int),Builtin.Slice.slicePlaces lo hi 1)) _ _ s
 rw [jx lo hi n]
 show wpAny _ _ (pure (((sIx n 0 lo:Nat):Int),(1:Int),Builtin.Slice.slicePlaces ((sIx n 0 lo:Nat):Int) ((sIx n n hi:Nat):Int) 1)) _ _ s
 rw [jA]
 exact wpAny_pure h
theorem pM (xs:Array Value)(i k:Nat):((a0M k).filterMap fun (m:Nat)=>xs[((i:Int)+(m:Int) * 1).toNat]?).toArray=((xs.toList.drop i).take k).toArray:=by
 have e:(fun (m:Nat)=>xs[((i:Int)+(m:Int) * 1).toNat]?)=fun m=>xs[i+m]?:=by
  funext m
  have:((i:Int)+(m:Int) * 1).toNat=i+m:=by omega
  rw [this]
 rw [e]
 have:=pick_run xs i k
 rw [List.filterMap_map] at this
 have e2:((fun x=>xs[x]?) ∘ fun x=>i+x)=fun m=>xs[i+m]?:=rfl
 rw [e2] at this
 rw [this]
theorem getItem_tuple_cut {t sl:Addr}{items:Array Value}{vl vu:Value}{lo hi:Option Int}{Q:Value->Shared->Prop}(ht:IsTup s.heap t items)(hs:s.heap.IsSliceOf sl vl vu .none)(pl:IsPart vl lo)(pu:IsPart vu hi)
  (hw:¬ (sIx items.size 0 lo=0/\sIx items.size items.size hi=items.size))
  (h:Q (.ref s.heap.objs.size) { s with heap:=s.heap.push { cls:=.type "tuple",data:=.seq ((items.toList.drop (sIx items.size 0 lo)).take (sIx items.size items.size hi-sIx items.size 0 lo)).toArray } })
  (hsz:items.size<=sizeLine):wpAny (model prog w) A (getItem (.ref t) (.ref sl)) Q E s:=by
 have htake:sizeOk (.seq ((items.toList.drop (sIx items.size 0 lo)).take (sIx items.size items.size hi-sIx items.size 0 lo)).toArray):=by
  show ((items.toList.drop (sIx items.size 0 lo)).take (sIx items.size items.size hi-sIx items.size 0 lo)).toArray.size<=sizeLine
  rw [a0k,a1U,a1a,a0I]
  omega
 have hj:sIx items.size items.size hi<=items.size:=y9 _ _ (a0r _) hi
 obtain ⟨os,hos,hcs,hds⟩:=id hs
 have hTs:s.TypeIs (.ref sl) "slice":=⟨os,hos,hcs⟩
 unfold getItem
 try with_reducible refine wpAny_holding ?_
 first | refine wpAny_bind (wpAny_pure ?_) | skip
 refine wpAny_bind (wpAny_sequenceKey ht.typeIs (by decide) ?_)
 refine wpAny_bind (wpAny_callSpecial?_slot (name:=Str.ofString "__getitem__") ht.typeIs a0K
  (wpAny_call_entry a0K ht.typeIs entry_tuple_getitem ?_ (args_tuple_getitem _ _)))
 show wpAny _ _ (Builtin.Tuple.tupleItemsOf (.ref t) >>= _) _ _ s
 refine wpAny_bind (tupleItemsOf_ ht ?_)
 refine wpAny_bind (wpAny_typeOf hTs ?_)
 rw [if_pos (by decide)]
 refine wpAny_bind (sliceApplied_gen hs pl pu ?_)
 have hno:¬ ((((sIx items.size 0 lo:Nat):Int)==0&&(1:Int)==1&&(sIx items.size items.size hi-sIx items.size 0 lo)==items.size)=true):=by
  intro q
  rw [a0j,a0j] at q
  have q1:((sIx items.size 0 lo:Nat):Int)=0:=eq_of_beq q.1.1
  have q2:sIx items.size items.size hi-sIx items.size 0 lo=items.size:=eq_of_beq q.2
  exact hw ⟨by omega,by omega⟩
 show wpAny _ _ (if (((sIx items.size 0 lo:Nat):Int)==0&&(1:Int)==1&&(sIx items.size items.size hi-sIx items.size 0 lo)==items.size)=true then _ else _) _ _ s
 rw [if_neg hno,pM]
 first
  | exact wpAny_bind (m:=Builtin.Tuple.tupleExact _) (wpAny_newObj_type (wpAny_pure ⟨_,rfl,wpAny_pure h⟩) htake)
  | exact wpAny_bind (m:=Builtin.Tuple.tupleExact _) (wpAny_newObj_type (wpAny_bind (wpAny_pure (wpAny_pure ⟨_,rfl,wpAny_pure h⟩))) htake)
  | exact wpAny_bind (wpAny_bind (m:=Builtin.Tuple.tupleExact _) (wpAny_newObj_type (wpAny_pure (wpAny_pure ⟨_,rfl,wpAny_pure h⟩)) htake))
  | exact wpAny_bind (wpAny_bind (m:=Builtin.Tuple.tupleExact _) (wpAny_newObj_type (wpAny_pure ⟨_,rfl,wpAny_pure h⟩) htake))
end
end HT
namespace L2
open PySem PySem.Spec PyProof.Rows
noncomputable abbrev TO:=St->Hp->(Option Int->Hp->Prop)->Prop
noncomputable def PO (X:Cx)(e:Option Expr)(t:TO):Prop :=
 ∀ (pins:List (Addr×Obj)) (s:Shared) (σ:St) (H:Hp) (Q:Option Int->Hp->Prop),Inv X pins σ H s->t σ H Q ->
  wpAny (model X.prog X.w) X.A (evalPart e X.env) (fun u s'=>∃ o H',Inv X pins σ H' s'/\IsPart u o/\Q o H') X.xe s
noncomputable def se:TO:=fun _ H Q=>Q none H
noncomputable def BN (t:TE):TO:=fun σ H Q=>t σ H fun x H1=>∃ i,x=.int i/\Q (some i) H1
section
variable {X:Cx}{e:Expr}{te:TE}{lo hi:Option Expr}{tl th:TO}{pos p2:Pos}
theorem kI:PO X none se:=by
 intro pins s σ H Q I h
 rw [evalPart_none]
 exact wpAny_pure ⟨none,H,I,.none,h⟩
theorem kJ (h:PE X e te):PO X (some e) (BN te):=by
 intro pins s σ H Q I hw
 rw [evalPart_some]
 refine thn (h pins s σ H _ I hw) fun u s1 ⟨x,H1,I1,r1,q1⟩=>?_
 obtain ⟨i,rfl,q⟩:=q1
 obtain ⟨t,rfl⟩:=r1
 exact ⟨some i,H1,I1,.int i t,q⟩
noncomputable def SlR (X:Cx)(r:V->Option Int->Option Int->Hp->VK->Prop):Prop :=
 ∀ (pins:List (Addr×Obj)) (s:Shared) (σ:St) (H:Hp) (x:V) (v vl vu:Value) (lo hi:Option Int) (sl:Addr) (Q:VK),Inv X pins σ H s->RelV x v->s.heap.IsSliceOf sl vl vu .none->IsPart vl lo->IsPart vu hi->r x lo hi H Q ->
  ∃ T id,typeLookup (.type T) "__getitem__"=pure (some (.builtin id))/\s.TypeIs v T/\wpAny (model X.prog X.w) X.A (getItem v (.ref sl)) (EP X pins σ Q) X.xe s
theorem SlR.or {r r':V->Option Int->Option Int->Hp->VK->Prop}(h:SlR X r)(h':SlR X r'):SlR X (fun x lo hi H Q=>r x lo hi H Q\/r' x lo hi H Q):=by
 intro pins s σ H x v vl vu lo hi sl Q I rx hs pl pu q
 rcases q with q | q
 ·exact h pins s σ H x v vl vu lo hi sl Q I rx hs pl pu q
 ·exact h' pins s σ H x v vl vu lo hi sl Q I rx hs pl pu q
noncomputable def tSl (r:V->Option Int->Option Int->Hp->VK->Prop)(te:TE)(tl th:TO):TE:=fun σ H Q=>te σ H fun x H1=>tl σ H1 fun l H2=>th σ H2 fun u H3=>r x l u H3 Q
theorem iM {r:V->Option Int->Option Int->Hp->VK->Prop}(hr:SlR X r)(he:PE X e te)(hl:PO X lo tl)(hu:PO X hi th):PE X (.Subscript e (.Slice lo hi none p2) pos) (tSl r te tl th):=by
 intro pins s σ H Q I h
 refine Subscript_ (thn (he pins s σ H _ I h) fun v s1 ⟨x,H1,I1,r1,q1⟩=>?_)
 refine wpAny_Slice (thn (hl pins s1 σ H1 _ I1 q1) fun vl s2 ⟨l,H2,I2,pl,q2⟩=>thn (hu pins s2 σ H2 _ I2 q2) fun vu s3 ⟨u,H3,I3,pu,q3⟩=>?_)
 rw [evalPart_none]
 refine wpAny_pure ?_
 have I4:Inv X pins σ H3 { s3 with heap:=s3.heap.push { cls:=.type "slice",data:=.fields #[vl,vu,.none] } }:=I3.kept (t':=s3.toks) fun b ob q=>Heap.get?_push_of_some _ q
 obtain ⟨T,id,hT,ht,hg⟩:=hr pins { s3 with heap:=s3.heap.push { cls:=.type "slice",data:=.fields #[vl,vu,.none] } } σ H3 x v vl vu l u s3.heap.objs.size Q I4 r1 (Heap.IsSliceOf.new ..) pl pu q3
 show wpAny (model X.prog X.w) X.A (subscriptTail e (.Slice lo hi none p2) v (.ref s3.heap.objs.size)) (EP X pins σ Q) X.xe { s3 with heap:=s3.heap.push { cls:=.type "slice",data:=.fields #[vl,vu,.none] } }
 exact tail_any (ops:=[.ref s3.heap.objs.size,v]) ht hT hg (by with_unfolding_all rfl)
noncomputable def dQ (xs:List V)(lo hi:Option Int):List V:=(xs.drop (HT.sIx xs.length 0 lo)).take (HT.sIx xs.length xs.length hi-HT.sIx xs.length 0 lo)
theorem b8 (xs:List V)(lo hi:Option Int):(dQ xs lo hi).length<=xs.length:=by
 unfold dQ
 rw [a1U,a1a]
 omega
noncomputable def Ep (K:a0a):V->Option Int->Option Int->Hp->VK->Prop:=fun x lo hi H Q=>∃ a xs,x=.ref a/\SqT K H a xs /\
 ¬ (HT.sIx xs.length 0 lo=0/\HT.sIx xs.length xs.length hi=xs.length)/\∀ p,H p=none->Q (.ref p) (upd H p (.tup (dQ xs lo hi)))
theorem xG:SlR X (Ep X.K):=by
 intro pins s σ H x v vl vu lo hi sl Q I rx hs pl pu h
 obtain ⟨a,xs,rfl,hx,hw,q⟩:=h
 cases rx
 obtain ⟨its,r,ht,hz⟩:=I.tuple hx
 have hlen:its.toArray.size=xs.length:=by rw [a0k]; exact r.length.symm
 refine ⟨"tuple",_,a0K.lookup,ht.typeIs,?_⟩
 refine HT.getItem_tuple_cut ht hs pl pu (by rw [hlen]; exact hw) ?_ (by rw [hlen]; exact hz)
 rw [hlen]
 refine ⟨.ref s.heap.objs.size,_,I.laid (t':=s.toks) (o:=.tup (dQ xs lo hi)) (fun b ob q=>Heap.get?_push_of_some _ q) (a0r _) ?_,rfl,q _ (I.hok.fresh (a0r _))⟩
 exact ⟨a0z (b8 xs lo hi) hz,_,(r.drop (HT.sIx xs.length 0 lo)).take (HT.sIx xs.length xs.length hi-HT.sIx xs.length 0 lo),IsTup.new _ _⟩
noncomputable def AM (K:a0a):R2:=fun x y H Q=>∃ a b xs ys,x=.ref a/\y=.ref b/\SqT K H a xs/\SqT K H b ys/\xs≠[]/\xs.length+ys.length<=sizeLine /\
 (ys=[]->Q (.ref a) H)/\(ys≠[]->∀ p,H p=none->Q (.ref p) (upd H p (.tup (xs++ys))))
theorem Vals.nil_iff {xs:List V}{us:List Value}(r:Vals xs us):us=[] ↔ xs=[]:=by
 cases r with
 | nil=>simp
 | cons _ _=>simp
theorem t9:OpR X (binaryOp .Add) (AM X.K):=by
 intro pins s σ H x y v u Q I rx ry h
 obtain ⟨a,b,xs,ys,rfl,rfl,ha,hb,hx,hz,q1,q2⟩:=h
 cases rx
 cases ry
 obtain ⟨its,r1,p1,_⟩:=I.tuple ha
 obtain ⟨its2,r2,p2,_⟩:=I.tuple hb
 refine HT.cat_tup p1 p2 (fun z=>hx (r1.nil_iff.mp z)) (fun z=>⟨.ref a,H,I,rfl,q1 (r2.nil_iff.mp z)⟩) (fun z=>?_) (by rw [<- r1.length,<- r2.length]; exact hz)
 refine ⟨.ref s.heap.objs.size,_,I.laid (t':=s.toks) (o:=.tup (xs++ys)) (fun b ob q=>Heap.get?_push_of_some _ q) (a0r _) ?_,rfl,q2 (fun w=>z (r2.nil_iff.mpr w)) _ (I.hok.fresh (a0r _))⟩
 exact ⟨by rw [a0e]; exact hz,_,r1.append r2,IsTup.new _ _⟩
end
end L2
namespace L2
open PySem PySem.Spec PyProof.Rows
noncomputable def ixN (n:Nat)(i:Int):Option Nat:=if 0<=i then (if i < n then some i.toNat else none) else if -(n:Int)<=i then some (i+n).toNat else none
noncomputable def atI {α:Type}(xs:List α)(i:Int):Option α:=(ixN xs.length i).bind fun j=>xs[j]?
theorem tP {n:Nat}{i:Int}{j:Nat}(h:ixN n i=some j):seqIndex? i n=some j/\j < n/\-(n:Int)<=i/\i < n:=by
 unfold ixN at h
 by_cases h0:0<=i
 ·rw [if_pos h0] at h
  by_cases h1:i < n
  ·rw [if_pos h1] at h
   have e:i.toNat=j:=a0C h
   exact ⟨by rw [seqIndex_of h0 h1,e],by omega,by omega,h1⟩
  ·rw [if_neg h1] at h; cases h
 ·rw [if_neg h0] at h
  by_cases h1:-(n:Int)<=i
  ·rw [if_pos h1] at h
   have e:(i+n).toNat=j:=a0C h
   exact ⟨by rw [seqIndex_neg (by omega) h1,e],by omega,h1,by omega⟩
  ·rw [if_neg h1] at h; cases h
theorem gE {α:Type}{xs:List α}{i:Int}{v:α}(h:atI xs i=some v):∃ j,seqIndex? i xs.length=some j/\xs[j]?=some v/\j < xs.length/\-(xs.length:Int)<=i/\i < xs.length:=by
 unfold atI at h
 cases e:ixN xs.length i with
 | none=>rw [e] at h; cases h
 | some j =>
  rw [e] at h
  obtain ⟨h1,h2,h3,h4⟩:=tP e
  exact ⟨j,h1,h,h2,h3,h4⟩
noncomputable def eF (b:Expr):Prop:=∀ o i,subscripted b false o i=operate [o,i] (getItem o i)
noncomputable def IxR (X:Cx)(r:R2):Prop :=
 ∀ (value slice:Expr) (pins:List (Addr×Obj)) (s:Shared) (σ:St) (H:Hp) (x y:V) (v u:Value) (Q:VK),Inv X pins σ H s->RelV x v->RelV y u->r x y H Q ->
  subscripted slice false v u=operate [v,u] (getItem v u)->wpAny (model X.prog X.w) X.A (subscriptTail value slice v u) (EP X pins σ Q) X.xe s
noncomputable def MtR (X:Cx)(id:String)(r:V->List V->Hp->VK->Prop):Prop :=
 ∀ (pins:List (Addr×Obj)) (s:Shared) (σ:St) (H:Hp) (x:V) (xs:List V) (v:Value) (us:List Value) (Q:VK),Inv X pins σ H s->RelV x v->Vals xs us->r x xs H Q ->
  wpAny (model X.prog X.w) X.A (call (.builtin id) (v::us)) (EP X pins σ Q) X.xe s
section
variable {X:Cx}{a b:Expr}{ta tb:TE}{pos:Pos}
theorem IxR.or {r r':R2}(h:IxR X r)(h':IxR X r'):IxR X (fun x y H Q=>r x y H Q\/r' x y H Q):=by
 intro value slice pins s σ H x y v u Q I rx ry q hs
 rcases q with q | q
 ·exact h value slice pins s σ H x y v u Q I rx ry q hs
 ·exact h' value slice pins s σ H x y v u Q I rx ry q hs
theorem v9 {r:R2}(hr:IxR X r)(ha:PE X a ta)(hb:PE X b tb)(hs:eF b):PE X (.Subscript a b pos) (tOp r ta tb):=by
 intro pins s σ H Q I h
 exact Subscript_ (wx ha hb I h fun v u s2 x y H2 I2 rx ry q=>hr a b pins s2 σ H2 x y v u Q I2 rx ry q (hs _ _))
noncomputable def Eu (K:a0a):R2:=fun x y H Q=>∃ p xs i v,x=.ref p/\y=.int i/\SqL K H p xs/\atI xs i=some v/\Q v H
noncomputable def Dc (K:a0a):R2:=fun x y H Q=>∃ p xs i v,x=.ref p/\y=.int i/\SqT K H p xs/\atI xs i=some v/\Q v H
noncomputable def Ea:R2:=fun x y H Q=>∃ z i c,x=.str z/\y=.int i/\z.length<=sizeLine/\atI z.cps.toList i=some c/\Q (.str ⟨#[c]⟩) H
theorem vk:IxR X (Eu X.K):=by
 intro value slice pins s σ H x y v u Q I rx ry h hs
 obtain ⟨p,xs,i,z,rfl,rfl,hq,he,q⟩:=h
 cases rx
 obtain ⟨t,rfl⟩:=ry
 obtain ⟨its,r,pl,hz⟩:=I.list hq
 obtain ⟨j,h1,h2,h3,h4,h5⟩:=gE he
 obtain ⟨w,ew,rw'⟩:=r.get h2
 have hl:=r.length
 have hn:=eX
 have fin:EP X pins σ Q w s:=⟨z,H,I,rw',q⟩
 by_cases h0:0<=i
 ·have hj:i.toNat=j:=by
   rw [seqIndex_of h0 h5] at h1
   exact a0C h1
  exact item_listR pl.isList h0 (by omega) (by rw [hj]; simpa using ew) fin hs
 ·have hj:(i+(its.toArray.size:Int)).toNat=j:=by
   rw [seqIndex_neg (by omega) h4] at h1
   rw [a0k,<- hl]
   exact a0C h1
  exact subscriptTail_builtinR (x:=w) pl.isList.typeIs slot_list_getitem.lookup
   (wpAny_getItem_list_neg (Q:=fun r s'=>r=w/\EP X pins σ Q r s') pl.isList (by omega) (by rw [a0k]<;>omega) (by omega) (by rw [hj]; simpa using ew) ⟨rfl,fin⟩) hs
theorem zA:IxR X (Dc X.K):=by
 intro value slice pins s σ H x y v u Q I rx ry h hs
 obtain ⟨p,xs,i,z,rfl,rfl,hq,he,q⟩:=h
 cases rx
 obtain ⟨t,rfl⟩:=ry
 obtain ⟨its,r,pl,hz⟩:=I.tuple hq
 obtain ⟨j,h1,h2,h3,h4,h5⟩:=gE he
 obtain ⟨w,ew,rw'⟩:=r.get h2
 have hl:=r.length
 have hn:=eX
 have fin:EP X pins σ Q w s:=⟨z,H,I,rw',q⟩
 exact subscriptTail_builtinR (x:=w) pl.typeIs slot_tuple_getitem.lookup
  (getItem_tuple (j:=j) (Q:=fun r s'=>r=w/\EP X pins σ Q r s') pl (by omega) (by omega) (by rw [a0k,<- hl]; exact h1) (by simpa using ew) ⟨rfl,fin⟩) hs
theorem xV:IxR X Ea:=by
 intro value slice pins s σ H x y v u Q I rx ry h hs
 obtain ⟨z,i,c,rfl,rfl,hz,he,q⟩:=h
 obtain ⟨t,rfl⟩:=rx
 obtain ⟨t',rfl⟩:=ry
 obtain ⟨j,h1,h2,h3,h4,h5⟩:=gE he
 have hl:z.cps.toList.length=z.length:=by simp [Str.length]
 rw [hl] at h1 h4 h5
 have hn:=eX
 exact tail_any (typeIs_str s z t) slot_str_getitem.lookup (getItem_str (c:=c) (by
  have e1:decide (i < -(2 ^ 63:Int))=false:=decide_eq_false (by omega)
  have e2:decide (i >= 2 ^ 63)=false:=decide_eq_false (by omega)
  rw [e1,e2,a2X]) (by rw [h1]; simpa using h2) ⟨.str ⟨#[c]⟩,H,I.tok _,⟨_,rfl⟩,q⟩) hs
theorem hZ (lo hi:Option Int)(n:Nat):(sliceBounds lo hi none n).1=((HT.sIx n 0 lo:Nat):Int)/\(sliceBounds lo hi none n).2.1=((HT.sIx n n hi:Nat):Int)/\(sliceBounds lo hi none n).2.2=1:=by
 refine ⟨?_,?_,rfl⟩
 ·cases lo with
  | none=>simp [sliceBounds,HT.sIx]
  | some i =>
   simp only [sliceBounds,HT.sIx,a2J,show (1:Int) > 0 by decide,if_true]
   by_cases h:i < 0
   ·simp only [h,if_true]<;>omega
   ·simp only [h,if_false]<;>omega
 ·cases hi with
  | none=>simp [sliceBounds,HT.sIx]
  | some i =>
   simp only [sliceBounds,HT.sIx,a2J,show (1:Int) > 0 by decide,if_true]
   by_cases h:i < 0
   ·simp only [h,if_true]<;>omega
   ·simp only [h,if_false]<;>omega
theorem fP (its:List Value)(lo hi:Option Int):slicePick its.toArray lo hi none=((its.drop (HT.sIx its.length 0 lo)).take (HT.sIx its.length its.length hi-HT.sIx its.length 0 lo)).toArray:=by
 obtain ⟨h1,h2,h3⟩:=hZ lo hi its.toArray.size
 unfold slicePick
 rw [h1,h2,h3]
 simp only [sliceRange_one,pick_run,a0k]<;>rfl
noncomputable def va (K:a0a):V->Option Int->Option Int->Hp->VK->Prop:=fun x lo hi H Q=>∃ a xs,x=.ref a/\SqL K H a xs/\∀ p,H p=none->Q (.ref p) (upd H p (.lst (dQ xs lo hi)))
theorem sl_list:SlR X (va X.K):=by
 intro pins s σ H x v vl vu lo hi sl Q I rx hs pl pu h
 obtain ⟨a,xs,rfl,hx,q⟩:=h
 cases rx
 obtain ⟨its,r,ht,hz⟩:=I.list hx
 have hlen:=r.length
 refine ⟨"list",_,slot_list_getitem.lookup,ht.isList.typeIs,?_⟩
 refine wpAny_getItem_list_slice ht.isList hs pl pu .none (by simp) ?_ (by rw [a0k]<;>omega)
 rw [fP,<- hlen]
 refine ⟨.ref s.heap.objs.size,_,I.laid (t':=s.toks) (o:=.lst (dQ xs lo hi)) (fun b ob q=>Heap.get?_push_of_some _ q) (a0r _) ?_,rfl,q _ (I.hok.fresh (a0r _))⟩
 exact ⟨a0z (b8 xs lo hi) hz,_,0,(r.drop (HT.sIx xs.length 0 lo)).take (HT.sIx xs.length xs.length hi-HT.sIx xs.length 0 lo),Heap.get?_push_size _ rfl⟩
noncomputable def bP:V->Bool
 | .non=>true
 | .bl _=>true
 | .int _=>true
 | .str _=>true
 | _=>false
noncomputable def eqV:V->V->Bool
 | .non,.non=>true
 | .bl a,.bl b=>a==b
 | .bl a,.int b=>(if a then 1 else 0)==b
 | .int a,.bl b=>a==(if b then 1 else 0)
 | .int a,.int b=>a==b
 | .str a,.str b=>a==b
 | _,_=>false
theorem zW {A:Around}{s:Shared}{y x:V}{u v:Value}(ry:RelV y u)(rx:RelV x v)(fy:bP y=true)(fx:bP x=true):SeqAt.EqAt A s u v (eqV y x):=by
 cases y with
 | non =>
  cases ry
  cases x with
  | non=>cases rx; exact SeqAt.EqAt.same _
  | bl b=>cases rx; exact SeqAt.EqAt.none_bool b
  | int b=>obtain ⟨t,rfl⟩:=rx; exact SeqAt.EqAt.none_int b t
  | str b=>obtain ⟨t,rfl⟩:=rx; exact SeqAt.EqAt.none_str b t
  | _=>exact absurd (show false=true from fx) a0d
 | bl a =>
  cases ry
  cases x with
  | non=>cases rx; exact SeqAt.EqAt.bool_none a
  | bl b=>cases rx; exact SeqAt.EqAt.bool_bool a b
  | int b=>obtain ⟨t,rfl⟩:=rx; exact SeqAt.EqAt.bool_int a b t
  | str b=>obtain ⟨t,rfl⟩:=rx; exact SeqAt.EqAt.bool_str a b t
  | _=>exact absurd (show false=true from fx) a0d
 | int a =>
  obtain ⟨t',rfl⟩:=ry
  cases x with
  | non=>cases rx; exact SeqAt.EqAt.int_none a t'
  | bl b=>cases rx; exact SeqAt.EqAt.int_bool a t' b
  | int b=>obtain ⟨t,rfl⟩:=rx; exact SeqAt.EqAt.int_int a t' b t
  | str b=>obtain ⟨t,rfl⟩:=rx; exact SeqAt.EqAt.int_str a t' b t
  | _=>exact absurd (show false=true from fx) a0d
 | str a =>
  obtain ⟨t',rfl⟩:=ry
  cases x with
  | non=>cases rx; exact SeqAt.EqAt.str_none a t'
  | bl b=>cases rx; exact SeqAt.EqAt.str_bool a t' b
  | int b=>obtain ⟨t,rfl⟩:=rx; exact SeqAt.EqAt.str_int a t' b t
  | str b=>obtain ⟨t,rfl⟩:=rx; exact SeqAt.EqAt.str_str a t' b t
  | _=>exact absurd (show false=true from fx) a0d
 | _=>exact absurd (show false=true from fy) a0d
noncomputable def eqU (x:V)(u:Value):Bool:=match u with
 | .none=>eqV .non x
 | .bool b=>eqV (.bl b) x
 | .int i _=>eqV (.int i) x
 | .str z _=>eqV (.str z) x
 | _=>false
theorem jB {x y:V}{u:Value}(r:RelV y u)(f:bP y=true):eqU x u=eqV y x:=by
 cases y with
 | non=>cases r; rfl
 | bl b=>cases r; rfl
 | int i=>obtain ⟨t,rfl⟩:=r; rfl
 | str z=>obtain ⟨t,rfl⟩:=r; rfl
 | _=>exact absurd (show false=true from f) a0d
theorem hX {x:V}:∀ {xs:List V} {us:List Value},Vals xs us->xs.all bP=true->us.any (eqU x)=xs.any fun y=>eqV y x
 | _,_,.nil,_=>rfl
 | y::xs,u::us,.cons r t,f=>by
  rw [a1s,a0j] at f
  rw [a17,a17,jB r f.1,hX t f.2]
theorem dN {A:Around}{s:Shared}{x:V}{v:Value}(rx:RelV x v)(fx:bP x=true):∀ {xs:List V} {us:List Value},Vals xs us->xs.all bP=true->∀ u∈us,SeqAt.EqAt A s u v (eqU x u)
 | _,_,.nil,_=>fun u hu=>by cases hu
 | y::xs,u::us,.cons r t,f=>fun u' hu=>by
  rw [a1s,a0j] at f
  rcases a0s.mp hu with rfl | hu
  ·rw [jB r f.1]; exact zW r rx f.1 fx
  ·exact dN rx fx t f.2 u' hu
noncomputable def inV (x:V)(xs:List V):Bool:=xs.any fun y=>eqV y x
noncomputable def rIn (K:a0a)(neg:Bool):R2:=fun x y H Q=>∃ p xs,y=.ref p/\(SqL K H p xs\/SqT K H p xs)/\bP x=true/\xs.all bP=true/\Q (.bl (if neg then !inV x xs else inV x xs)) H
theorem gj:OpR X (compareOp .In) (rIn X.K false):=by
 intro pins s σ H x y v u Q I rx ry h
 obtain ⟨p,xs,rfl,hq,fx,fs,q⟩:=h
 cases ry
 rcases hq with hq | hq
 ·obtain ⟨its,r,pl,hz⟩:=I.list hq
  refine SeqAt.in_listAt (eqU x) pl.isList (fun w hw=>dN rx fx r fs w (by simpa using hw)) ⟨.bl _,H,I,rfl,?_⟩
  rw [show its.toArray.any (eqU x)=its.any (eqU x) by simp,hX r fs]
  exact q
 ·obtain ⟨its,r,pl,hz⟩:=I.tuple hq
  refine SeqAt.in_tupleAt (eqU x) pl (fun w hw=>dN rx fx r fs w (by simpa using hw)) ⟨.bl _,H,I,rfl,?_⟩
  rw [show its.toArray.any (eqU x)=its.any (eqU x) by simp,hX r fs]
  exact q
theorem gz:cX X (.type "list") (fun xs H Q=>∃ p ys,xs=[.ref p]/\(SqL X.K H p ys\/SqT X.K H p ys)/\∀ l,H l=none->Q (.ref l) (upd H l (.lst ys))):=by
 intro pins s σ H xs us Q I r h
 obtain ⟨p,ys,rfl,hq,q⟩:=h
 obtain ⟨u,rfl,rx⟩:=dy r
 cases rx
 have fin:∀ (its:List Value),Vals ys its->ys.length<=sizeLine->∀ (h':Heap) (c':Nat),(∀ b o',s.heap.get? b=some o'->h'.get? b=some o') ->
   h'.get? s.heap.objs.size=some { cls:=.type "list",dict:=none,data:=.seq its.toArray c',slots:=#[] }->EP X pins σ Q (.ref s.heap.objs.size) { s with heap:=h' }:=fun its r' hz h' c' kp e =>
  ⟨.ref s.heap.objs.size,_,I.laid (t':=s.toks) kp (a0r _) (show ObjOk X.prog X.w _ h' _ (.lst ys) from ⟨hz,its,c',r',e⟩),rfl,q _ (I.hok.fresh (a0r _))⟩
 rcases hq with hq | hq
 ·obtain ⟨its,r',pl,hz⟩:=I.list hq
  have hlen:=r'.length
  obtain ⟨o,ho,hc,n,hd⟩:=pl.isList
  exact call_list_seq p (.inl rfl) ho hc hd (fun h' c' kp e=>fin its r' hz h' c' kp e) (by simp only [a0k]<;>omega)
 ·obtain ⟨its,r',pl,hz⟩:=I.tuple hq
  have hlen:=r'.length
  obtain ⟨o,ho,hc,n,hd⟩:=pl
  exact call_list_seq p (.inr rfl) ho hc hd (fun h' c' kp e=>fin its r' hz h' c' kp e) (by simp only [a0k]<;>omega)
theorem fO:cX X (.type "tuple") (fun xs H Q=>∃ p ys,xs=[.ref p]/\((SqL X.K H p ys/\∀ l,H l=none->Q (.ref l) (upd H l (.tup ys)))\/(SqT X.K H p ys/\Q (.ref p) H))):=by
 intro pins s σ H xs us Q I r h
 obtain ⟨p,ys,rfl,h⟩:=h
 obtain ⟨u,rfl,rx⟩:=dy r
 cases rx
 rcases h with ⟨hq,q⟩ | ⟨hq,q⟩
 ·obtain ⟨its,r',pl,hz⟩:=I.list hq
  have hlen:=r'.length
  refine call_tuple_list pl.isList (fun h' kp=>?_) (by simp only [a0k]<;>omega)
  have I1:Inv X pins σ H { s with heap:=h' }:=I.kept (t':=s.toks) kp
  have I2:Inv X pins σ (upd H h'.objs.size (.tup ys)) { s with heap:=h'.push { cls:=.type "tuple",data:=.seq its.toArray } } :=
   I1.laid (t':=s.toks) (fun b o e=>Heap.get?_push_of_some _ e) (a0r _) (show ObjOk X.prog X.w _ _ _ (.tup ys) from ⟨hz,its,r',IsTup.new _ _⟩)
  exact ⟨.ref h'.objs.size,_,I2,rfl,q _ (I1.hok.fresh (a0r _))⟩
 ·obtain ⟨its,r',pl,hz⟩:=I.tuple hq
  exact call_tuple_same pl ⟨.ref p,H,I,rfl,q⟩
noncomputable def tyV (K:a0a)(T:String)(x:V)(H:Hp):Prop:=match x with
 | .str _=>T="str"
 | .int _=>T="int"
 | .ref p=>(T="list"/\∃ xs,SqL K H p xs)\/(T="tuple"/\∃ o,K.lookup p=some o/\o.cls=.type "tuple"/\o.dict=none) \/
   (T="dict"/\((∃ kvs,H p=some (.dK kvs))\/∃ kvs,H p=some (.dT kvs)))\/(T="set"/\∃ S n,H p=some (.set S n))
 | _=>False
theorem rq {pins:List (Addr×Obj)}{σ:St}{H:Hp}{s:Shared}{T:String}{x:V}{v:Value}(I:Inv X pins σ H s)(r:RelV x v)(ty:tyV X.K T x H) :
  s.TypeIs v T/\∀ a,v=.ref a->∃ ob,s.heap.get? a=some ob/\ob.dict=none:=by
 cases x with
 | str z =>
  obtain ⟨t,rfl⟩:=r
  cases (show T="str" from ty)
  exact ⟨typeIs_str s z t,fun _ e=>nomatch e⟩
 | int i =>
  obtain ⟨t,rfl⟩:=r
  cases (show T="int" from ty)
  exact ⟨typeIs_int s i t,fun _ e=>nomatch e⟩
 | ref p =>
  cases r
  rcases ty with ⟨rfl,xs,hq⟩ | ⟨rfl,o,hk,hc,hd⟩ | ⟨rfl,hk⟩ | ⟨rfl,S,n,hk⟩
  ·obtain ⟨its,_,pl,_⟩:=I.list hq
   refine ⟨pl.isList.typeIs,fun a e=>?_⟩
   cases e
   obtain ⟨o,n,e,c,hd,_⟩:=pl
   exact ⟨o,e,hd⟩
  ·refine ⟨⟨o,I.kIn p o hk,hc⟩,fun a e=>?_⟩
   cases e
   exact ⟨o,I.kIn _ o hk,hd⟩
  ·have z:∃ o,s.heap.get? p=some o/\o.ExactDict:=by
    rcases hk with ⟨kvs,hk⟩ | ⟨kvs,hk⟩
    ·obtain ⟨_,_,_,_,o,_,_,e,ex,_⟩:=I.hok p _ hk
     exact ⟨o,e,ex⟩
    ·obtain ⟨_,_,_,_,o,_,_,e,ex,_⟩:=I.hok p _ hk
     exact ⟨o,e,ex⟩
   obtain ⟨o,e,ex⟩:=z
   refine ⟨⟨o,e,ex.1⟩,fun a e2=>?_⟩
   cases e2
   exact ⟨o,e,ex.2.1⟩
  ·obtain ⟨o,_,_,_,e,ex,_⟩:=I.hok p _ hk
   refine ⟨⟨o,e,ex.1⟩,fun a e2=>?_⟩
   cases e2
   exact ⟨o,e,ex.2.1⟩
 | _=>exact a1r ty
noncomputable def C6 (K:a0a)(T:String)(r:V->List V->Hp->VK->Prop)(to:TE):TE:=fun σ H Q=>to σ H fun x H1=>tyV K T x H1/\r x [] H1 Q
noncomputable def tBM (K:a0a)(T:String)(r:V->List V->Hp->VK->Prop)(to:TE)(t:TA):TE:=fun σ H Q=>to σ H fun x H1=>tyV K T x H1/\t σ H1 fun xs H2=>r x xs H2 Q
variable {o e:Expr}{es:List Expr}{to:TE}{t:TA}{name:Str}{apos cpos:Pos}{T id:String}{r:V->List V->Hp->VK->Prop}
theorem zj (pa:PlainAttrs T)(slot:Slot T name id)(hty:typeOf (.builtin id)=pure (.type "method_descriptor"))(hm:MtR X id r)(ho:PE X o to)
  (hbase:attributeBase o name X.env (eval o X.env)=eval o X.env:=by rfl) (hline:(apos.endLine==cpos.line)=true:=by rfl):PE X (.Call (.Attribute o name apos) [] [] cpos) (C6 X.K T r to):=by
 intro pins s σ H Q I h
 refine wpAny_Call_method0_late hbase hline (thn (ho pins s σ H _ I h) fun v s1 ⟨x,H1,I1,r1,ty,q1⟩=>?_)
 obtain ⟨h1,h2⟩:=rq I1 r1 ty
 exact ⟨T,id,pa,slot,hty,h1,h2,Calls.callWith_builtin rfl (PySem.evalArgs_none (hm pins s1 σ H1 x [] v [] Q I1 r1 .nil q1))⟩
theorem v7 (pa:PlainAttrs T)(slot:Slot T name id)(hty:typeOf (.builtin id)=pure (.type "method_descriptor"))(hm:MtR X id r)(ho:PE X o to)(ha:PA X (e::es) t)
  (hbase:attributeBase o name X.env (eval o X.env)=eval o X.env:=by rfl)
  (hfew:((backTo cpos (starEach (e::es) X.env)).all (fun x=>!x.1)&&(backToKw cpos (keywordEach [] X.env)).all (fun x=>x.1.isSome)
  &&decide ((e::es).length+([]:List Keyword).length+(if ([]:List Keyword).isEmpty then 0 else 1) < 30))=true:=by rfl)
  (hline:(apos.endLine==cpos.line)=true:=by rfl) (hs:starEach (e::es) X.env=(false,eval e X.env)::starEach es X.env:=by rfl) (hplain:(backTo cpos (starEach es X.env)).any (·.1)=false:=by rfl) :
  PE X (.Call (.Attribute o name apos) (e::es) [] cpos) (tBM X.K T r to t):=by
 intro pins s σ H Q I h
 refine wpAny_Call_method_late hbase hfew hline rfl (thn (ho pins s σ H _ I h) fun v s1 ⟨x,H1,I1,r1,ty,q1⟩=>?_)
 obtain ⟨h1,h2⟩:=rq I1 r1 ty
 refine ⟨T,id,pa,slot,hty,h1,h2,?_⟩
 have hA:=ha cpos pins s1 σ H1 _ I1 q1
 rw [hs] at hA ⊢
 refine Calls.callWith_builtin (by show (false || (backTo cpos (starEach es X.env)).any (·.1))=false; rw [hplain]<;>rfl) (Calls.evalArgs_plain ?_)
 exact thn hA fun us s2 ⟨vs,H2,I2,r2,q2⟩=>hm pins s2 σ H2 x vs v us Q I2 r1 r2 q2
end
end L2
namespace L2
open PySem PySem.Spec PyProof.Rows
noncomputable def MtM (X:Cx)(id:String)(r:V->List V->Hp->VK->Prop):Prop :=
 ∀ (pins:List (Addr×Obj)) (s:Shared) (σ:St) (H:Hp) (x:V) (xs:List V) (v:Value) (us:List Value) (Q:VK),Inv X pins σ H s->RelV x v->Vals xs us->r x xs H Q ->
  wpAny (model X.prog X.w) X.A (call (.builtin id) (v::us)) (EP X pins σ Q) X.xe s
theorem Vals.one:∀ {x:V} {us:List Value},Vals [x] us->∃ u,us=[u]/\RelV x u
 | _,_,.cons r .nil=>⟨_,rfl,r⟩
theorem Vals.zero:∀ {us:List Value},Vals [] us->us=[]
 | _,.nil=>rfl
theorem Vals.dropLast {xs:List V}{us:List Value}(h:Vals xs us):Vals xs.dropLast us.dropLast:=by
 induction h with
 | nil=>exact .nil
 | cons r t ih =>
  cases t with
  | nil=>exact .nil
  | cons q t'=>exact .cons r ih
theorem Vals.rep {xs:List V}{us:List Value}(h:Vals xs us):∀ k:Nat,Vals (a0i k xs).flatten (a0i k us).flatten
 | 0=>.nil
 | k+1=>by
  rw [a0Q,a0Q,a1L,a1L]
  exact Vals.append h (Vals.rep h k)
theorem j5 {α:Type}(l:List α):l.eraseIdx (l.length-1)=l.dropLast:=by
 induction l with
 | nil=>rfl
 | cons a r ih =>
  cases r with
  | nil=>rfl
  | cons b r =>
   have e:(a::b::r).length-1=((b::r).length-1)+1:=by
    have h1:(a::b::r).length=r.length+2:=rfl
    have h2:(b::r).length=r.length+1:=rfl
    omega
   rw [e,List.eraseIdx_cons_succ,ih]
   all_goals rfl
theorem gh (its:List Value):∀ (k:Nat) (acc:List Value),
  a2V (fun x1 x2=>x1++x2) acc.toArray (a0i k its.toArray)=(acc++(a0i k its).flatten).toArray
 | 0,acc=>by simp
 | k+1,acc=>by
  have e:acc.toArray++its.toArray=(acc++its).toArray:=by simp
  have e2:(acc++its)++(a0i k its).flatten=acc++(a0i (k+1) its).flatten:=by
   rw [a0Q,a1L,a0W]
  rw [<- e2,<- gh its k (acc++its),<- e,a0Q,a2j]
section
variable {X:Cx}{pins:List (Addr×Obj)}{σ:St}{H:Hp}{s:Shared}{l b:Addr}{xs ys zs:List V}
theorem Inv.lset {its its':List Value}{n:Nat}{f:Array Value->Array Value}{t':Nat}(I:Inv X pins σ H s)(hH:H l=some (.lst xs))
  (e:s.heap.get? l=some { cls:=.type "list",data:=.seq its.toArray n }) (hf:f its.toArray=its'.toArray) (hv:Vals ys its') (hz:ys.length<=sizeLine) :
  Inv X pins σ (upd H l (.lst ys)) { s with heap:=s.heap.update l (Obj.mapSeq f),toks:=t' }:=by
 have q:=PySem.IsL.update e f
 rw [hf] at q
 refine I.write (x:=l) (e:=l) (by rw [hH]; exact trivial) (.inl rfl) (fun b' u hb hu=>(Heap.get?_update_other s.heap (Obj.mapSeq f) (a1T hb)).trans hu) ⟨_,q⟩ ?_
 exact ⟨hz,its',_,hv,q⟩
theorem Inv.lnew {its:List Value}{t':Nat}(I:Inv X pins σ H s)(hv:Vals ys its)(hz:ys.length<=sizeLine) :
  Inv X pins σ (upd H s.heap.objs.size (.lst ys)) { s with heap:=s.heap.push { cls:=.type "list",data:=.seq its.toArray },toks:=t' } :=
 I.laid (fun _ _ q=>Heap.get?_push_of_some _ q) (a0r _) ⟨hz,its,0,hv,Heap.get?_push_size _ rfl⟩
theorem Inv.fresh (I:Inv X pins σ H s):H s.heap.objs.size=none:=I.hok.fresh (a0r _)
theorem Inv.lstM (I:Inv X pins σ H s)(hH:H l=some (.lst xs)):xs.length<=sizeLine/\∃ (its:List Value) (n:Nat),Vals xs its/\xs.length=its.length/\s.heap.get? l=some { cls:=.type "list",data:=.seq its.toArray n }:=by
 obtain ⟨z,its,n,r,e⟩:=I.hok l _ hH
 exact ⟨z,its,n,r,r.length,e⟩
theorem oZ {n:Nat}(h:n<=sizeLine):Builtin.List.listTooLong n=false:=by
 unfold Builtin.List.listTooLong
 exact decide_eq_false (by omega)
end
section
variable {X:Cx}
noncomputable def sG:V->List V->Hp->VK->Prop:=fun x vs H Q=>∃ l xs y,x=.ref l/\vs=[y]/\H l=some (.lst xs)/\xs.length < sizeLine/\Q .non (upd H l (.lst (xs++[y])))
theorem lX:MtM X "list.append" sG:=by
 intro pins s σ H x vs v us Q I rx rv h
 obtain ⟨l,xs,y,rfl,rfl,hH,hz,q⟩:=h
 cases rx
 obtain ⟨u,rfl,ru⟩:=rv.one
 obtain ⟨z,its,n,r,hl,e⟩:=I.lstM hH
 refine call_meets F.slot_list_append ⟨_,e,rfl⟩ F.entry_list_append (F.args_list_append_2 _ _) (PySem.list_append l its.toArray n u (by rw [a0k]; omega)) ⟨e,?_⟩
 refine ⟨.non,_,I.lset (its':=its++[u]) hH e (by simp) (r.append (.cons ru .nil)) ?_,rfl,q⟩
 rw [a0e,a0v]
 omega
noncomputable def Dp:V->List V->Hp->VK->Prop:=fun x vs H Q=>∃ l xs y,x=.ref l/\vs=[]/\H l=some (.lst xs)/\xs[xs.length-1]?=some y/\Q y (upd H l (.lst xs.dropLast))
theorem zv:MtM X "list.pop" Dp:=by
 intro pins s σ H x vs v us Q I rx rv h
 obtain ⟨l,xs,y,rfl,rfl,hH,hy,q⟩:=h
 cases rx
 have hus:=rv.zero
 subst hus
 obtain ⟨z,its,n,r,hl,e⟩:=I.lstM hH
 obtain ⟨u,hu,ru⟩:=r.get hy
 have hy':its.toArray[its.toArray.size-1]?=some u:=by
  show its.toArray[its.length-1]?=some u
  rw [<- Array.getElem?_toList,<- hl]
  exact hu
 refine call_meets F.slot_list_pop ⟨_,e,rfl⟩ F.entry_list_pop (F.args_list_pop_1 _) (MeetsSeq.list_pop_last l its.toArray n u hy' (by rw [a0k]; omega)) ⟨e,?_⟩
 refine ⟨y,_,I.lset (its':=its.dropLast) hH e ?_ r.dropLast ?_,ru,q⟩
 ·show its.toArray.eraseIdxIfInBounds (its.toArray.size-1)=its.dropLast.toArray
  rw [a0k,List.eraseIdxIfInBounds_toArray,j5]
 ·rw [List.length_dropLast]
  omega
noncomputable def AW:R2:=fun x y H Q=>∃ l b xs zs,x=.ref l/\y=.ref b/\H l=some (.lst xs)/\H b=some (.lst zs)/\xs.length+zs.length<=sizeLine/\∀ p,H p=none->Q (.ref p) (upd H p (.lst (xs++zs)))
theorem op_cat:OpR X (binaryOp .Add) AW:=by
 intro pins s σ H x y v u Q I rx ry h
 obtain ⟨l,b,xs,zs,rfl,rfl,hH,hB,hz,q⟩:=h
 cases rx
 cases ry
 obtain ⟨z,its,n,r,hl,e⟩:=I.lstM hH
 obtain ⟨z2,its2,n2,r2,hl2,e2⟩:=I.lstM hB
 refine PySem.P.add_list e e2 ?_ (by rw [a0k,a0k]; omega)
 have ea:its.toArray++its2.toArray=(its++its2).toArray:=by simp
 rw [ea]
 exact ⟨.ref _,_,I.lnew (t':=s.toks) (r.append r2) (by rw [a0e]; omega),rfl,q _ I.fresh⟩
noncomputable def Bu:R2:=fun x y H Q=>∃ l k xs,x=.ref l/\y=.int k/\H l=some (.lst xs)/\-(2 ^ 63)<=k/\k < 2 ^ 63/\xs.length * k.toNat<=sizeLine /\
 ∀ p,H p=none->Q (.ref p) (upd H p (.lst (a0i k.toNat xs).flatten))
theorem rF {α:Type}(xs:List α)(k:Nat):(a0i k xs).flatten.length=k * xs.length:=by
 induction k with
 | zero=>simp
 | succ k ih=>rw [a0Q,a1L,a0e,ih,a25,a1X]
theorem wK:OpR X (binaryOp .Mult) Bu:=by
 intro pins s σ H x y v u Q I rx ry h
 obtain ⟨l,k,xs,rfl,rfl,hH,h1,h2,hz,q⟩:=h
 cases rx
 obtain ⟨t,rfl⟩:=ry
 obtain ⟨z,its,n,r,hl,e⟩:=I.lstM hH
 have hlen:its.toArray.size * k.toNat<=sizeLine:=by rw [a0k,<- hl]; exact hz
 have hcap:¬ its.toArray.size * k.toNat > (2 ^ 63-1) / 8:=by
  have:(sizeLine:Nat)<=(2 ^ 63-1) / 8:=by decide
  omega
 have hfit:¬ (!Builtin.List.listFitsIndex k)=true:=by
  rw [fitsIndex_both h1 h2]
  exact a0d
 have hlong:¬ Builtin.List.listTooLong (its.toArray.size * k.toNat)=true:=by
  rw [oZ hlen]
  exact a0d
 have hnew:a2V (fun x1 x2=>x1++x2) #[] (a0i (if its.toArray.isEmpty=true then 0 else k.toNat) its.toArray)=(a0i k.toNat its).flatten.toArray:=by
  have f0:∀ m:Nat,a2V (fun x1 x2=>x1++x2) #[] (a0i m its.toArray)=(a0i m its).flatten.toArray:=fun m=>by
   have:=gh its m []
   rw [a0T] at this
   exact this
  rw [f0]
  cases its with
  | nil=>simp
  | cons a r'=>rw [if_neg (by simp)]
 refine wpAny_binaryOp_repeat_ref (T:="list") (U:="int") (by decide) ⟨_,e,rfl⟩ (fun s'=>typeIs_int s' k t) noFill_list_mul F.fills_int_mul F.slot_int_rmul repeat_list F.slot_int_index.lookup
  (call_meets F.slot_int_rmul (typeIs_int s k t) F.entry_int_rmul (F.args_int_rmul_2 _ _) (int___rmul___int_list k t l its.toArray n)
   ⟨e,rfl,⟨_,e,rfl⟩,call_meets F.slot_list_mul ⟨_,e,rfl⟩ F.entry_list_mul (F.args_list_mul_2 _ _) (AutoListH.list___mul___list_int_3 l its.toArray n k t hfit hcap hlong) ⟨e,?_⟩⟩)
 rw [hnew]
 exact ⟨.ref _,_,I.lnew (t':=s.toks) (r.rep k.toNat) (by rw [rF,a26]; exact hz),rfl,q _ I.fresh⟩
end
end L2
namespace Att
open PySem PySem.W PySem.Calls PyProof.Rows
theorem eh {P:Params}{h:Heap}:∀ (ns:List Int) (vs:List Value),WellAll P h vs (ns.map WData.int)->IntsAre vs ns:=by
 intro ns
 induction ns with
 | nil =>
  intro vs w
  rw [a05] at w
  cases w
  exact .nil
 | cons n ns ih =>
  intro vs w
  rw [a0m] at w
  cases w with
  | cons a b =>
   cases a
   exact .cons _ _ (ih _ b)
theorem lV {l:OpenLaw}{n:Nat}(hn:l.most=some n){P:Params}{h:Heap}{args:List WData}{vals:List Value}
  (hpre:l.row.toRowW.claim.pre args=true) (hwl:WellAll P h vals args) :
  ∃ a vs ns,vals=[Value.ref a]/\args=[WData.list (ns.map WData.int)]/\h.get? a=some { cls:=.type "list",data:=.seq vs.toArray }/\IntsAre vs ns/\ns.length<=n:=by
 have hsh:WShape.hasAll [] args [.list .int]=true:=(pre_splitW hpre).1
 have hc:l.pre.holds [] { args:=args }=true:=(pre_splitW hpre).2
 obtain ⟨d,r,rfl,h1,h2⟩:=hasAllW_cons hsh
 obtain rfl:=hasAllW_nil h2
 obtain ⟨xs,rfl,h3⟩:=hasW_list h1
 obtain ⟨ns,rfl⟩:=items_int h3
 have hlen:ns.length<=n:=by
  unfold OpenLaw.pre at hc
  have h4:(WTm.not (.lt (.lit (.int (n:Int))) (.len (.arg 0)))).holds [] { args:=[.list (ns.map .int)] }=true:=by
   have h4:=(holds_andW hc).1
   rw [hn] at h4
   exact h4
  have h5:=condW_of h4 (w_not (w_lt w_lit (w_len_list (w_arg rfl))))
  rw [a0b] at h5
  refine a2K fun q=>?_
  have q':(n:Int) < ((ns.length:Nat):Int):=by omega
  first
   | (rw [decide_eq_true q'] at h5; exact absurd h5 (by decide))
   | (simp at h5; omega)
 cases hwl with
 | cons w1 w2 =>
  cases w2
  cases w1 with
  | list ho hall=>exact ⟨_,_,ns,rfl,rfl,ho,eh ns _ hall,hlen⟩
theorem lP (l:OpenLaw)(args:List WData):l.row.toRowW.claim.post args (.bool true) args=true :=
 postW_of (r:=l.row.toRowW) (X:=(true==true))
  (show WShape.has [] (.bool true) .bool=true by first | rfl | decide | simp [WShape.has,WShape.arms,WShape.armsAll])
  (show (WTm.eq .res (.lit (.bool true))).value [] { args:=args,res:=some (.bool true),after:=args }=some (.bool (true==true)) from w_eq_bool (w_res rfl) w_lit) rfl
theorem attach_call {l:OpenLaw}{n:Nat}{q:Program}{loose:List Str}{XP:(Str->Option Value)->Heap->Prop}{YP:World->Heap->Prop}{d:DefRec}
  (hn:l.most=some n) (hdf:d.params.defaults=[])
  (call:∀ (w:World) (s₀ s₁:Shared) (mg mb:Str->Option Value) (fa:Addr) (o:Obj) (pm cd doc:Value) (a:Addr) (vs:List Value) (ns:List Int),
   Ground q loose [] XP w s₀ mg mb s₁.heap->YP w s₁.heap ->
   s₁.heap.get? fa=some o->o.data=.func (docDef d.name d.params d.body d.scope pm cd doc)->s₁.heap.CodeRec cd d.name->mg d.name=some (.ref fa) ->
   s₁.heap.get? a=some { cls:=.type "list",data:=.seq vs.toArray }->IntsAre vs ns->ns.length<=n->s₁.gens=#[] ->
   codeAny (model l.prog w) callerA (.call (.ref fa) ⟨[.ref a],[]⟩) (fun r s'=>r=.ok (.ret (.bool true))/\OldK s₁.heap s'.heap/\s'.os=s₁.os/\AllBare s'.gens) s₁) :
  WalkO q loose XP YP l.row.toRowW d [] (fun f vs=>a2W f vs):=by
 intro w s₀ s₁ mg mb G Y fa o pm cd doc dV kV ho hd hcd hD hmg hg args vals as hpre hlay hrd hwl hlo
 obtain rfl:dV=.none:=Dflts.none hD hdf
 obtain rfl:kV=.none:=Dflts.noKw hD
 obtain ⟨a,vs,ns,rfl,rfl,hobj,hints,hlen⟩:=lV hn hpre hwl
 refine enter_call (codeAny_mono (call w s₀ s₁ mg mb fa o pm cd doc a vs ns G Y ho (fd_plain hd) hcd hmg hobj hints hlen hg) fun r s' hq=>?_)
 obtain ⟨rfl,h2,h3,h4⟩:=hq
 exact ⟨.inl ⟨.bool true,.bool true,[],rfl,fun _=>rfl,.bool true,lP l _,fun _=>⟨a3d,fun _ hm=>(nomatch hm)⟩⟩,h2,h3,h4⟩
end Att
namespace L2
open PySem PySem.Spec PyProof.Rows
theorem cD:∀ {vs:List Value} {ns:List Int},IntsAre vs ns->Vals (ns.map V.int) vs
 | _,_,.nil=>.nil
 | _,_,.cons n t h=>.cons ⟨t,rfl⟩ (cD h)
noncomputable def nO (H:Hp):Prop:=∀ b,H b=none\/∃ o xs,H b=some (.frz o (.lst xs))
theorem oD {P:Program}{w:World}{K:a0a}{mg mb:Str->Option Value}{CX:CXT}{k:Nat}{fa a:Addr}{fd:FuncData}{x:Str}{sp:Sp}{s₁:Shared}{vs:List Value}{ns:List Int}
  (KX:K.In s₁.heap) (hns:s₁.heap.Ns mainGlobals mg) (hb:s₁.heap.Ns builtinsNs mb) (hbb:∀ x:Str,x≠"__name__"->mb x=bootBuiltins x) (hlim:s₁.heap.NoLimit) (hg:s₁.gens=#[])
  (ha:s₁.heap.get? a=some { cls:=.type "list",data:=.seq vs.toArray }) (hi:IntsAre vs ns) (hl:ns.length<=sizeLine) (hr:Room k callerA)
  (F:∀ base:Heap,K.In base->base.Ns mainGlobals mg->dG P w K mg base CX k fa fd [x] sp) (hbind:∀ (s:Shared) (u:Value),BindsTo s fd ⟨[u],[]⟩ [(x,u)])
  (hsp:∀ H:Hp,nO H->SqL K H a (ns.map V.int)->sp [.ref a] H (fun v _=>v=.bl true) fun _ _ _=>False)
  (hCX:∀ H e s',CX [] H s₁ (fun _ _ _=>False) e s'->False) :
  codeAny (model P w) callerA (.call (.ref fa) ⟨[.ref a],[]⟩) (fun r s'=>r=.ok (.ret (.bool true))/\OldK s₁.heap s'.heap/\s'.os=s₁.os/\AllBare s'.gens) s₁:=by
 have rv:=cD hi
 have lenV:=hi.length
 -- from an abstract heap in which nothing but the script may be tracked
 have core:∀ H:Hp,nO H->SqL K H a (ns.map V.int)->HOk P w H s₁.heap->(∀ b,H b≠none->b=a)->(H a≠none->K.lookup a=none) ->
   codeAny (model P w) callerA (.call (.ref fa) ⟨[.ref a],[]⟩) (fun r s'=>r=.ok (.ret (.bool true))/\OldK s₁.heap s'.heap/\s'.os=s₁.os/\AllBare s'.gens) s₁:=by
  intro H hO hS hok hA hK
  have base_of:∀ {b:Addr} {o:Obj},s₁.heap.get? b=some o->H b=none->(gI s₁.heap H).get? b=some o:=fun e n=>qL e n
  have noA:∀ {b:Addr} {o:Obj} {es:Array DictEntry} {ep:Nat},s₁.heap.get? b=some o->o.data=.dict es ep->H b=none:=fun {b o es ep} e d=>by
   cases q:H b with
   | none=>rfl
   | some u =>
    have e':b=a:=hA b (by rw [q]; simp)
    subst e'
    rw [ha] at e; cases e
    have d':Data.seq vs.toArray _=Data.dict es ep:=d
    cases d'
  have nsK:∀ {b:Addr} {m:Str->Option Value},s₁.heap.Ns b m->(gI s₁.heap H).Ns b m:=fun {b m} ⟨o,es,ep,e,d,r⟩=>⟨o,es,ep,base_of e (noA e d),d,r⟩
  have hKb:K.In (gI s₁.heap H):=fun b o e=>base_of (KX b o e) (by
   cases q:H b with
   | none=>rfl
   | some u =>
    have e':b=a:=hA b (by rw [q]; simp)
    subst e'
    rw [hK (by rw [q]; simp)] at e; cases e)
  have hM:Mod K mg (gI s₁.heap H):=⟨hKb,nsK hns,⟨mb,nsK hb,hbb⟩,let ⟨mc,h1,h2⟩:=hlim; ⟨mc,nsK h1,h2⟩⟩
  have e0:uy P w K mg (gI s₁.heap H) callerA [] s₁ H:=⟨rfl,hM,fun b o e=>ue e,Nat.le_of_eq (lY _ _),trivial,fun b hb=>absurd (show b∈([]:List Addr) from hb) (by simp),hok,.of_eq hg⟩
  refine codeAny_mono ((F _ hKb (nsK hns)).run callerA [] s₁ H ⟨[.ref a],[]⟩ [.ref a] [.ref a] _ _ hr e0 (hbind s₁ (.ref a)) (.cons rfl .nil) (hsp H hO hS)) fun r s' h=>?_
  cases r with
  | error e=>exact (hCX H e s' h).elim
  | ok fl =>
   cases fl with
   | next=>exact a1r h
   | brk=>exact a1r h
   | cont=>exact a1r h
   | ret u =>
    obtain ⟨v,H',os,bare,un,hok',r',q⟩:=h
    have q':v=.bl true:=q
    subst q'
    obtain rfl:u=Value.bool true:=r'
    refine ⟨rfl,OldK.of_keep fun b o e=>?_,os,bare⟩
    cases q:H b with
    | none=>exact un.keep b o e q (by intro z; exact absurd (show b∈([]:List Addr) from z) (by simp)) (by simp)
    | some u =>
     rcases hO b with z | ⟨ob,xs,z⟩
     ·rw [q] at z; cases z
     ·have z2:=un.frzs b ob _ z
      obtain ⟨e1,_⟩:=hok b _ z
      obtain ⟨e2,_⟩:=hok' b _ z2
      rw [e] at e1; cases e1
      exact e2
 cases hk:K.lookup a with
 | some o =>
  -- the script is one of the module's own objects
  have e:=KX a o hk
  rw [ha] at e
  cases e
  refine core (fun _=>none) (fun _=>.inl rfl) (.inr ⟨_,vs.toArray,_,hk,rfl,rfl,rfl,by rw [a0k,lenV]; exact hl,by simpa using rv⟩) (fun b u z=>by have z':(none:Option HO)=some u:=z; cases z') (fun b z=>absurd rfl z) fun z=>absurd rfl z
 | none =>
  refine core (fun b=>if b=a then some (.frz { cls:=.type "list",data:=.seq vs.toArray } (.lst (ns.map V.int))) else none) (fun b=>?_) (.inl (.inr ⟨{ cls:=.type "list",data:=.seq vs.toArray },if_pos rfl⟩)) (fun b u z=>?_) (fun b z=>?_) fun _=>hk
  ·by_cases hb:b=a
   ·exact .inr ⟨_,_,if_pos hb⟩
   ·exact .inl (if_neg hb)
  ·by_cases hb:b=a
   ·have z':=(if_pos hb).symm.trans z
    cases z'
    subst hb
    exact ⟨ha,by rw [a0b]; exact hl,vs,_,rv,ha⟩
   ·have z':=(if_neg hb).symm.trans z
    cases z'
  ·by_cases hb:b=a
   ·exact hb
   ·exact absurd (if_neg hb) z
end L2
namespace L2
open PySem PySem.Spec PyProof.Rows
theorem walk_of {l:a2k}{n k:Nat}{q:Program}{loose:List Str}{XP:(Str->Option Value)->Heap->Prop}{YP:World->Heap->Prop}{d:DefRec}{K:Params->a0a}{CX:World->CXT}{sp:World->Sp}{x:Str}
  (hn:l.most=some n) (hn2:n<=sizeLine) (hdf:d.params.defaults=[]) (hr:Room k callerA)
  (hY:∀ (w:World) (h:Heap),YP w h->(K w.params).In h)
  (F:∀ (w:World) (mg:Str->Option Value) (fa:Addr) (h:Heap),(K w.params).In h->h.Ns mainGlobals mg->mg d.name=some (.ref fa) ->
   ∃ fd:FuncData,(∀ (s:Shared) (u:Value),BindsTo s fd ⟨[u],[]⟩ [(x,u)]) /\
    ∀ base:Heap,(K w.params).In base->base.Ns mainGlobals mg->dG l.prog w (K w.params) mg base (CX w) k fa fd [x] (sp w))
  (hsp:∀ (w:World) (H:Hp) (a:Addr) (ns:List Int),ns.length<=n->nO H->SqL (K w.params) H a (ns.map V.int)->sp w [.ref a] H (fun v _=>v=.bl true) fun _ _ _=>False)
  (hCX:∀ (w:World) (H:Hp) (s:Shared) (e:Value) (s':Shared),CX w [] H s (fun _ _ _=>False) e s'->False) :
  a2Y q loose XP YP l.row.toRowW d [] (fun f vs=>a2W f vs):=by
 refine Att.attach_call hn hdf fun w s₀ s₁ mg mb fa o pm cd doc a vs ns G Y ho hd hcd hmg hobj hints hlen hg=>?_
 have KX:=hY w _ Y
 obtain ⟨fd,hb,hF⟩:=F w mg fa _ KX G.T.g hmg
 exact oD KX G.T.g G.T.b G.T.builtins G.T.nolimit hg hobj hints (a0z hlen hn2) hr hF hb (fun H hO hS=>hsp w H a ns hlen hO hS) fun H e s'=>hCX w H s₁ e s'
end L2
namespace L2
open PySem PySem.Spec PyProof.Rows
noncomputable def defArgs (s:Stmt):Arguments:=match s with
 | .FunctionDef _ a _ _ _ _ _ _ _ _=>a
 | _=>{ posonlyargs:=[],args:=[],vararg:=none,kwonlyargs:=[],kw_defaults:=[],kwarg:=none,defaults:=[] }
noncomputable def defBody (s:Stmt):List Stmt:=match s with
 | .FunctionDef _ _ b _ _ _ _ _ _ _=>b
 | _=>[]
noncomputable def defScope (s:Stmt):Scope:=match s with
 | .FunctionDef _ _ _ _ _ _ sc _ _ _=>sc
 | _=>{ kind:=.function,names:=[],isGenerator:=false,isCoroutine:=false }
noncomputable abbrev CX0:CXT:=fun _ _ _ _ _ _=>False
noncomputable abbrev E0:XK:=fun _ _ _=>False
theorem Am {X:Cx}:jv CX0 X E0:=fun _ _ _ _ _ _ _ h=>h.elim
structure Fun (K:a0a)(x qual:Str)(st:Stmt)(f:Addr)(fd:FuncData):Prop where
 ex:∃ (oc:Value) (od:Option Addr) (kV doc pm:Value) (an:Option Addr) (cdv ct:Value) (osl:Array (Option Value)),
  fd=a1j x qual (defArgs st) (defBody st) (defScope st) .none kV doc pm an cdv ct/\K.lookup f=some ⟨oc,od,.func fd,osl⟩/\a12 K cdv qual=true
 kp:a1P K (.ref f)=true
section
variable {P:Program}{w:World}{K:a0a}{mg:Str->Option Value}{base:Heap}
theorem Fun.ok {x qual:Str}{st:Stmt}{f:Addr}{fd:FuncData}{N ps:List Str}{k:Nat}{sp:Sp}(F:Fun K x qual st f fd)(S:ag N ps (defScope st))(len:∀ vs H Q E,sp vs H Q E->vs.length=ps.length)
  (hbody:∀ (cdv:Value) (A:Around) (outer:List Env) (s:Shared) (H:Hp) (vs:List V) (Q:VK) (E:XK),Room k (A.deeper (envOfC qual (defScope st) s.heap.objs.size f cdv))->sp vs H Q E ->
   ∃ t,PSs (gL CX0 P w K mg base N qual (defScope st) f cdv A outer s H E).nox (defBody st) t/\t { nx:=fun _ H'=>Q .non H',rt:=Q } (start N vs) H):dG P w K mg base CX0 (k+1) f fd ps sp:=by
 obtain ⟨oc,od,kV,doc,pm,an,cdv,ct,osl,rfl,lk,hcd⟩:=F.ex
 refine BZ lk hcd S len fun A outer s H vs Q E hr hsp=>?_
 obtain ⟨t,h,q⟩:=hbody cdv A outer s H vs Q E hr hsp
 exact ⟨t,h.nox,q⟩
theorem Fun.binds {x qual:Str}{st:Stmt}{f:Addr}{fd:FuncData}{ps:List Str}(F:Fun K x qual st f fd)
  (h:∀ (kV doc pm:Value) (an:Option Addr) (cdv ct:Value) (us:List Value),us.length=ps.length->bindArgs (a1j x qual (defArgs st) (defBody st) (defScope st) .none kV doc pm an cdv ct) ⟨us,[]⟩=pure (ps.zip us)):Binds K fd ps []:=by
 obtain ⟨oc,od,kV,doc,pm,an,cdv,ct,osl,rfl,lk,hcd⟩:=F.ex
 exact .all (h kV doc pm an cdv ct)
theorem oJ {x qual:Str}{st:Stmt}{f:Addr}{oc:Value}{od an:Option Addr}{osl:Array (Option Value)}{kV doc pm cdv ct:Value}(l:K.lookup f=some ⟨oc,od,.func (a1j x qual (defArgs st) (defBody st) (defScope st) .none kV doc pm an cdv ct),osl⟩)
  (c:a12 K cdv qual=true) (k:a1P K (.ref f)=true):Fun K x qual st f (a1j x qual (defArgs st) (defBody st) (defScope st) .none kV doc pm an cdv ct):=⟨⟨oc,od,kV,doc,pm,an,cdv,ct,osl,rfl,l,c⟩,k⟩
end
section
variable {X:Cx}
theorem pv (i:Nat){x:Str}{pos:Pos}(hN:X.N[i]?=some x:=by rfl)(hv:Vis X.env.scope x:=by first | exact a0G rfl | exact a0E (a0G rfl) | exact a0E (a0E rfl))(hd:(x==("__debug__":Str))=false:=by decide)
  (hcd:(x==("__classdict__":Str))=false:=by decide):PE X (.Name x pos) (qD i):=de hN hv hd hcd
end
noncomputable def Same (H H':Hp):Prop:=∀ b o,H b=some o->H' b=some o
theorem Same.refl (H:Hp):Same H H:=fun _ _ h=>h
end L2
namespace L2
open PySem PySem.Spec PyProof.Rows
section
variable {κ:Type}[DecidableEq κ]
theorem RelO.getD {o:Option V}{u:Option Value}{d:V}{d':Value}(r:RelO o u)(rd:RelV d d'):RelV (o.getD d) (u.getD d'):=by
 cases o with
 | none=>cases u with
  | none=>exact rd
  | some _=>exact (show False from r).elim
 | some _=>cases u with
  | none=>exact (show False from r).elim
  | some _=>exact r
end
structure M1 (X:Cx)(o:Expr)(m:Str)(apos:Pos)(e:Expr)(cpos:Pos):Prop where
 base:attributeBase o m X.env (eval o X.env)=eval o X.env
 few:((backTo cpos (starEach [e] X.env)).all (fun x=>!x.1)&&(backToKw cpos (keywordEach [] X.env)).all (fun x=>x.1.isSome)
 &&decide (([e]:List Expr).length+([]:List Keyword).length+(if ([]:List Keyword).isEmpty then 0 else 1) < 30))=true
 line:(apos.endLine==cpos.line)=true
 trees:backTo cpos (starEach [e] X.env)=[(false,eval e X.env)]
end L2
namespace L2
open PySem PySem.Spec PyProof.Rows
end L2

set_option maxHeartbeats 4000000
namespace L3
open PySem PySem.Spec PyProof.Rows L2
noncomputable abbrev noX:Value->Shared->Prop:=fun _ _=>False
theorem fV {P:Program}{w:World}{H:Hp}{h:Heap}{a:Addr}{o:HO}(x:HOk P w H h)(hn:H a=none)(new:ObjOk P w (upd H a o) h a o):HOk P w (upd H a o) h:=by
 intro b u e
 by_cases hb:b=a
 ·subst hb
  rw [aQ] at e
  cases e
  exact new
 ·rw [af hb] at e
  refine (x b u e).stay (fun c v _ q=>q) (fun c q=>?_) (fun c xs q=>?_)
  ·rw [af (aO q hn)]; exact q
  ·rw [af (aO q hn)]; exact q
section
variable {prog:Program}{w:World}{A:Around}{R:Result->Shared->Prop}{s:Shared}
theorem kd {elt tg iter:Expr}{scope:Scope}{pos:Pos}{it acc:Value}{env:Env}(J:Nat->Shared->Prop)
  (turn:∀ n s,J n s->wpAny (model prog w) A (pyNext it) (fun r s₁=>match r with
   | none=>R (.ok .next) s₁
   | some v=>wpAny (model prog w) A (letOwnedTupleGo tg it v) (fun _ s₂=>wpAny (model prog w) A (assign tg env v) (fun _ s₃ =>
     wpAny (model prog w) A (eval elt env) (fun y s₄=>wpAny (model prog w) A (call (.builtin "list.append") [acc,y]) (fun _ s₅=>∃ m,m < n/\J m s₅) noX s₄) noX s₃) noX s₂) noX s₁) noX s)
  (n:Nat) (h:J n s):codeAny (model prog w) A (.compLoop (.ListComp elt [⟨tg,iter,[],0⟩] scope pos) 0 it acc env) R s:=by
 refine codeAny_loop rfl J (fun n s hJ=>?_) n h
 show wpAny _ A ((compTurn (.ListComp elt [⟨tg,iter,[],0⟩] scope pos) 0 it acc env).onRaise (fun x=>do noteFrame x env; theTreesLotGoes x)) _ _ s
 refine wpAny_noted ?_
 rw [compTurn_list]
 refine wpAny_bind (wpAny_standAt (wpAny_bind (wpAny_mono (turn n s hJ) (fun r s₁ h₁=>?_) fun _ _ z=>z.elim)))
 cases r with
 | none=>exact wpAny_pure h₁
 | some v =>
  refine wpAny_bind (wpAny_mono h₁ (fun _ s₂ h₂=>?_) fun _ _ z=>z.elim)
  refine wpAny_bind (wpAny_mono h₂ (fun _ s₃ h₃=>?_) fun _ _ z=>z.elim)
  refine wpAny_bind (wpAny_tests_nil ?_)
  exact wpAny_bind (wpAny_bind (wpAny_mono h₃ (fun y s₄ h₄=>wpAny_bind (wpAny_mono h₄ (fun _ s₅ h₅=>wpAny_pure (wpAny_pure ⟨rfl,h₅⟩)) fun _ _ z=>z.elim)) fun _ _ z=>z.elim))
end
noncomputable def au (X:Cx)(N:List Str)(scope:Scope)(cl:List (Str×Addr))(C:Addr)(s:Shared)(H:Hp)(fp:List Addr):Cx where
 prog:=X.prog
 w:=X.w
 K:=X.K
 mg:=X.mg
 base:=X.base
 A:=X.A
 N:=N
 s₀:=s
 H₀:=H
 env:=compEnvC scope cl C X.env
 outer:=X.stack
 stack:=X.stack
 ex:=fp
 fn:=fun _=>false
 calm:=X.calm
 pn:=X.pn
 xe:=noX
structure lN (x:Str)(ys:List Str)(scope:Scope):Prop where
 kind:scope.kind=.function
 cell:∀ y∈scope.names,y.2≠.cell
 nm:∀ y∈scope.names,y.2=.local->scope.names.lookup y.1=some .local
 loc:scope.names.lookup x=some .local
 nd:(x::ys).Nodup
inductive Clo (X:Cx):List (Str×Addr)->Prop
 | nil:Clo X []
 | cons {y:Str} {c:Addr} {cl:List (Str×Addr)}:X.env.cells.lookup y=some c->Clo X cl->Clo X ((y,c)::cl)
theorem Clo.get {X:Cx}{cl:List (Str×Addr)}(h:Clo X cl):∀ {y:Str} {c:Addr},cl.lookup y=some c->X.env.cells.lookup y=some c:=by
 induction h with
 | nil=>intro y c e; cases e
 | @cons z d cl' hz _ ih =>
  intro y c e
  cases q:y==z with
  | true =>
   simp only [a1b,q] at e
   cases e
   rw [eq_of_beq q]; exact hz
  | false =>
   simp only [a1b,q] at e
   exact ih e
inductive Frees (X:Cx)(scope:Scope)(cl:List (Str×Addr)):List Str->List Nat->Prop
 | nil:Frees X scope cl [] []
 | cons {y:Str} {ys:List Str} {i:Nat} {is:List Nat} {c:Addr}:X.N[i]?=some y->Vis X.env.scope y->(X.env.kindOf y=some .cell\/X.env.kindOf y=some .free)->X.env.cells.lookup y=some c->cl.lookup y=some c ->
   ((relabel scope X.env).names.lookup y=some .cell\/(relabel scope X.env).names.lookup y=some .free)->Frees X scope cl ys is->Frees X scope cl (y::ys) (i::is)
theorem Frees.len {X:Cx}{scope:Scope}{cl:List (Str×Addr)}{ys:List Str}{is:List Nat}(F:Frees X scope cl ys is):is.length=ys.length:=by
 induction F with
 | nil=>rfl
 | cons _ _ _ _ _ _ _ ih=>rw [a0c,a0c,ih]
noncomputable def bI (σ:L2.St)(is:List Nat):L2.St:=is.map fun i=>(σ[i]?).join
theorem Frees.get {X:Cx}{scope:Scope}{cl:List (Str×Addr)}{ys:List Str}{is:List Nat}{σ:L2.St}(F:Frees X scope cl ys is):∀ {j:Nat} {y:Str} {v:V},ys[j]?=some y->(bI σ is)[j]?=some (some v) ->
  ∃ (i:Nat) (c:Addr),X.N[i]?=some y/\σ[i]?=some (some v)/\Vis X.env.scope y/\(X.env.kindOf y=some .cell\/X.env.kindOf y=some .free)/\X.env.cells.lookup y=some c/\cl.lookup y=some c /\
   ((relabel scope X.env).names.lookup y=some .cell\/(relabel scope X.env).names.lookup y=some .free):=by
 induction F with
 | nil=>intro j y v e; simp at e
 | @cons z zs i is c h1 h2 h3 h4 h5 h6 _ ih =>
  intro j y v e1 e2
  unfold bI at e2
  rw [a0m] at e2
  cases j with
  | zero =>
   rw [a1l] at e1 e2
   cases e1
   cases q:σ[i]? with
   | none=>rw [q] at e2; cases e2
   | some o =>
    rw [q] at e2
    have e3:o=some v:=a0C e2
    subst e3
    exact ⟨i,c,h1,q,h2,h3,h4,h5,h6⟩
  | succ j =>
   rw [a0u] at e1 e2
   exact ih e1 e2
theorem i8 {X:Cx}{pins:List (Addr×Obj)}{σ:L2.St}{H:Hp}{s:Shared}{x:Str}{ys:List Str}{is:List Nat}{scope:Scope}{cl:List (Str×Addr)}{fp:List Addr}{C:Addr}{h1:Heap}{t1:Nat}{m1:Str->Option Value}
  (I:Inv X pins σ H s) (hf:∀ b∈fp,fh X pins H b) (hfo:∀ b∈fp,b < s.heap.objs.size) (S:lN x ys scope) (hcl:Clo X cl)
  (hfr:(scope.names.all fun p=>p.2 != .free || (cl.lookup p.1).isSome)=true) (fr:Frees X scope cl ys is)
  (hC:s.heap.objs.size<=C) (old:∀ b o,s.heap.get? b=some o->h1.get? b=some o) (hn:h1.Ns C m1) :
  Inv (au X (x::ys) scope cl C s H fp) pins (none::bI σ is) H { s with heap:=h1,toks:=t1 }:=by
 have stk:∀ b,b≠X.env.locals->b ∉ X.fs->b ∉ frs X.stack:=fun b q1 q2 hb=>(a0s.mp (I.stkSub b hb)).elim q1 q2
 have key:∀ a k,(relabel scope X.env).names.lookup a=some k->(k=.cell\/k=.free)->∃ c,cl.lookup a=some c:=fun a k e hk=>by
  have hm:=a03 e
  obtain ⟨⟨n,k0⟩,hp,ep⟩:=a1k.mp hm
  have hk0:k0=.free/\n=a:=by
   dsimp only at ep
   split at ep
   ·rename_i hc
    simp only [a0j] at hc
    exact ⟨eq_of_beq hc.1.1,(a2u ep).1⟩
   ·obtain ⟨e1,e2⟩:=a2u ep
    subst e2
    rcases hk with z | z
    ·exact absurd z (S.cell _ hp)
    ·exact ⟨z,e1⟩
  obtain ⟨z1,z2⟩:=hk0
  subst z1 z2
  have q:=a06.mp hfr _ hp
  have q2:(cl.lookup n).isSome=true:=by simpa using q
  exact a1B.mp q2
 refine ⟨⟨I.ok.mod,S.kind,I.ok.glob,I.ok.blt,hC,fun a b c e1 e2=>I.ok.inj a b c (hcl.get e1) (hcl.get e2),fun a ha=>?_,fun a c e=>absurd e a0d,I.ok.hd,I.ok.frames,.inl rfl,
   fun b hb=>⟨a0y (a0n (hfo b hb) hC),fun a c e=>(hf b hb).2.2.2.2.1 a c (hcl.get e)⟩,I.bs,a0z I.ok.bsz I.sz,fun b o e hb=>?_,fun b hb=>stk b (hf b hb).2.1 (hf b hb).2.2.1,I.stack,I.stkFree⟩,
  rfl,I.bare,Un.kept old,⟨m1,hn,fun j y v e1 e2 e3=>?_⟩,fun a c e=>?_,I.hok.fresh hC,fun a c e=>I.freeC a c (hcl.get e),fun p hp=>?_,I.hok.kept old,?_⟩
 ·rcases ha with e | e
  ·exact key a _ e (.inl rfl)
  ·exact key a _ e (.inr rfl)
 ·rcases (hf b hb).2.2.2.1 with z | z
  ·exact I.ok.noex b o e z
  ·exact absurd (a0n (Heap.lt_size (I.ok.bs b o e).1) z) (a1c _)
 ·cases j with
  | zero =>
   have z:(none:Option V)=some v:=a0C e2
   cases z
  | succ j =>
   obtain ⟨i,c,g1,g2,g3,g4,g5,g6,g7⟩:=fr.get (σ:=σ) (show ys[j]?=some y from e1) (show (bI σ is)[j]?=some (some v) from e2)
   obtain ⟨m0,hn0,hl0⟩:=I.loc
   obtain ⟨u,r,l⟩:=hl0 i y v g1 g2 g3
   rcases l with ⟨k,_⟩ | ⟨_,c',e',z⟩
   ·rcases g4 with q | q
    ·rw [k] at q; cases q
    ·rw [k] at q; cases q
   ·rw [g5] at e'
    cases e'
    obtain ⟨o,ho,hd⟩:=z
    exact ⟨u,r,.inr ⟨g7,c,g6,⟨o,old _ _ ho,hd⟩⟩⟩
 ·obtain ⟨v,o,ho,hd⟩:=I.cell a c (hcl.get e)
  exact ⟨v,o,old _ _ ho,hd⟩
 ·obtain ⟨e,n,ne,nf,d⟩:=I.pin p hp
  exact ⟨old _ _ e,n,a0y (a0n (Heap.lt_size e) hC),stk _ ne nf,d⟩
 ·show (none::bI σ is).length=(x::ys).length
  unfold bI
  rw [a0c,a0c,a0b,fr.len]
noncomputable abbrev gY (its:List Value):Obj:={ cls:=.type "list",data:=.seq its.toArray its.length }
theorem lK {X:Cx}(hc:X.calm=true):cX X (.builtin "all") (fun xs H Q=>∃ (a:Addr) (bs:List Bool),xs=[.ref a]/\SqL X.K H a (bs.map V.bl)/\Q (.bl (bs.all id)) H):=by
 intro pins s σ H xs us Q I r h
 obtain ⟨a,bs,rfl,hS,q⟩:=h
 obtain ⟨u,rfl,ru⟩:=dy r
 cases ru
 obtain ⟨its,rv,p,hz⟩:=I.list hS
 have hlen:its.toArray.size=bs.length:=by rw [a0k,<- rv.length,a0b]
 have hlt:a < s.heap.objs.size:=by obtain ⟨o,e,_⟩:=p.isList; exact Heap.lt_size e
 refine call_all_walk (wpAny_pyIter_list p.isList ?_)
 refine ⟨s.heap.objs.size,_,_,_,_,_,fun i=>bs.getD i true,rfl,Walks.list (A:=X.A.in1) (show X.A.in1.handled=none from I.ok.hd hc) s.heap.objs.size a (a0y hlt) its.toArray,⟨⟨_,Heap.get?_push_size _ rfl,rfl,rfl⟩,p.isList.push _⟩,fun i v s' Q' E' hv hQ=>?_,fun h' tk k=>?_⟩
 ·have hv':its[i]?=some v:=by simpa using hv
  have hi:i < its.length:=(a0w.mp hv').1
  have hib:i < bs.length:=by have:=rv.length; rw [a0b] at this; omega
  obtain ⟨w',e1,e2⟩:=rv.get (i:=i) (x:=.bl bs[i]) (by rw [a0A,a0h hib]; rfl)
  rw [hv'] at e1
  cases e1
  cases e2
  refine wpAny_truthy_bool ?_
  have e3:bs.getD i true=bs[i]:=by rw [a0p,a0h hib]; rfl
  rw [<- e3]; exact hQ
 ·have e:(a0M its.toArray.size).all (fun i=>bs.getD i true)=bs.all id:=by
   rw [hlen,a2l,a06,a06]
   constructor
   ·intro z b hb
    obtain ⟨i,hi,e⟩:=List.getElem_of_mem hb
    have:=z i (a1O.mpr hi)
    rw [a0p,a0h hi] at this
    simpa [e] using this
   ·intro z i hi
    have hi':=a1O.mp hi
    rw [a0p,a0h hi']
    exact z _ (a1y hi')
  rw [e]
  exact ⟨.bl (bs.all id),H,I.kept (fun b o eo=>k b o (fun hm=>by
   have:b=s.heap.objs.size:=by simpa using hm
   exact absurd (this ▸ Heap.lt_size eo) (a1c _)) (Heap.get?_push_of_some _ eo)),rfl,q⟩
inductive Th where
 | non | bl (b:Bool) | int (i:Int) | str (x:Str) | tup (ts:List Th) | lst (ts:List Th)
mutual
noncomputable def Has (K:a0a)(H:Hp):Th->V->Prop
 | .non,v=>v=.non
 | .bl b,v=>v=.bl b
 | .int i,v=>v=.int i
 | .str x,v=>v=.str x
 | .tup ts,v=>∃ a vs,v=.ref a/\SqT K H a vs/\HasL K H ts vs
 | .lst ts,v=>∃ a vs,v=.ref a/\H a=some (.lst vs)/\HasL K H ts vs
noncomputable def HasL (K:a0a)(H:Hp):List Th->List V->Prop
 | [],vs=>vs=[]
 | t::ts,vs=>∃ v r,vs=v::r/\Has K H t v/\HasL K H ts r
end
noncomputable def Th.ty:Th->String
 | .non=>"NoneType" | .bl _=>"bool" | .int _=>"int" | .str _=>"str" | .tup _=>"tuple" | .lst _=>"list"
noncomputable def isI (c:String)(t:Th):Bool:=t.ty==c || (t.ty=="bool"&&c=="int")
theorem kit_type {K:a0a}{A B:String}:a1o K (.type A) (.type B)=a1o [] (.type A) (.type B):=by
 unfold a1o PySem.W.kitCls PySem.W.subIn
 rfl
theorem xo:∀ c∈["tuple","str","bool","int","list"],∀ n∈["NoneType","bool","int","str","tuple","list"],a1o [] (.type n) (.type c)=some (n==c || (n=="bool"&&c=="int")):=by decide +kernel
theorem xJ (t:Th):t.ty∈["NoneType","bool","int","str","tuple","list"]:=by cases t<;>simp [Th.ty]
theorem wj {c:String}(hc:c∈["tuple","str","bool","int","list"])(t:Th):a1o [] (.type t.ty) (.type c)=some (isI c t):=xo c hc t.ty (xJ t)
structure DTab (K:a0a)(w:World)(a:Addr)(T:List (Str×V)):Prop where
 ex:∃ es n,K.lookup a=some ⟨.type "dict",none,.dict es n,#[]⟩/\a2Q w.params es.toList/\Paired (fun (p:Str×V) (e:DictEntry)=>(∃ t,e.key=.str p.1 t)/\RelV p.2 e.val) T es.toList
 lo:(a==sysModules)=false
theorem iq {x:Str}:∀ {T:List (Str×V)} {l:List DictEntry},Paired (fun (p:Str×V) (e:DictEntry)=>(∃ t,e.key=.str p.1 t)/\RelV p.2 e.val) T l->RelO (T.lookup x) ((l.find? fun d=>Value.isStrOf x d.key).map (·.val))
 | _,_,.nil=>trivial
 | (k,v)::T,e::l,.cons ⟨⟨t,h1⟩,h2⟩ r=>by
  have ih:=iq (x:=x) r
  have q:Value.isStrOf x e.key=(x==k):=by
   have h1':e.key=.str k t:=h1
   rw [h1']
   show (k==x)=(x==k)
   by_cases z:x=k
   ·subst z; rfl
   ·rw [beq_false_of_ne z,beq_false_of_ne (a1T z)]
  rw [List.find?_cons,q,a1b]
  cases x==k with
  | true=>exact h2
  | false=>exact ih
theorem DTab.map {K:a0a}{w:World}{a:Addr}{T:List (Str×V)}{P:Program}{h:Heap}(D:DTab K w a T)(X:K.In h):∃ f:Str->Option Value,h.MapOf (strKind P w) a f/\∀ x,RelO (T.lookup x) (f x):=by
 obtain ⟨es,n,h1,h2,h3⟩:=D.ex
 refine ⟨_,PySem.W.mapOf_K (prog:=P) X h1 h2,fun x=>?_⟩
 have q:=iq (x:=x) h3
 have e:findBy Value.isStrOf es x=(es.toList.find? fun d=>Value.isStrOf x d.key).map (·.val):=by
  unfold findBy
  rw [<- a2w]
 rw [e]; exact q
theorem RelO.some_is {v:V}{o:Option Value}(r:RelO (some v) o):∃ u,o=some u/\RelV v u:=by
 cases o with
 | none=>exact r.elim
 | some u=>exact ⟨u,rfl,r⟩
theorem RelO.same_some {o:Option V}{u:Option Value}(r:RelO o u):u.isSome=o.isSome:=by
 cases o with
 | none =>
  cases u with
  | none=>rfl
  | some u=>exact r.elim
 | some v =>
  obtain ⟨u,rfl,_⟩:=RelO.some_is r
  rfl
section
variable {X:Cx}
theorem og:OpR X (compareOp .In) (fun x y H Q=>∃ z a T,x=.str z/\y=.ref a/\DTab X.K X.w a T/\Q (.bl (T.lookup z).isSome) H):=by
 intro pins s σ H x y v u Q I rx ry h
 obtain ⟨z,a,T,rfl,rfl,D,q⟩:=h
 obtain ⟨t,rfl⟩:=rx
 cases ry
 obtain ⟨f,hm,hf⟩:=D.map (P:=X.prog) I.kIn
 refine wpAny_in_of (strKind_is X.prog X.w z t) D.lo hm ?_
 rw [RelO.same_some (hf z)]
 exact ⟨.bl (T.lookup z).isSome,H,I.tok _,rfl,q⟩
theorem iw:OpR X (compareOp .NotIn) (fun x y H Q=>∃ z a T,x=.str z/\y=.ref a/\DTab X.K X.w a T/\Q (.bl (!(T.lookup z).isSome)) H):=by
 intro pins s σ H x y v u Q I rx ry h
 obtain ⟨z,a,T,rfl,rfl,D,q⟩:=h
 obtain ⟨t,rfl⟩:=rx
 cases ry
 obtain ⟨f,hm,hf⟩:=D.map (P:=X.prog) I.kIn
 refine wpAny_notIn_of (strKind_is X.prog X.w z t) D.lo hm ?_
 rw [RelO.same_some (hf z)]
 exact ⟨.bl (!(T.lookup z).isSome),H,I.tok _,rfl,q⟩
theorem xj:IxR X (fun x y H Q=>∃ a z T v,x=.ref a/\y=.str z/\DTab X.K X.w a T/\T.lookup z=some v/\Q v H):=by
 intro value slice pins s σ H x y v u Q I rx ry h hs
 obtain ⟨a,z,T,r,rfl,rfl,D,l,q⟩:=h
 cases rx
 obtain ⟨t,rfl⟩:=ry
 obtain ⟨f,hm,hf⟩:=D.map (P:=X.prog) I.kIn
 have e:=hf z
 rw [l] at e
 obtain ⟨w',e1,e2⟩:=RelO.some_is e
 exact tail_any hm.typeIs PySem.F.slot_dict_getitem.lookup (wpAny_getItem_of (strKind_is X.prog X.w z t) hm e1 ⟨r,H,I.tok _,e2,q⟩) hs
end
theorem iA {H:Hp}{p:Addr}(h:H p=none)(o:HO):Same H (upd H p o):=fun b u q=>by rw [af (aO q h)]; exact q
noncomputable def vE (K:a0a):R2:=fun x y H Q=>∃ a b xs ys,x=.ref a/\y=.ref b/\SqT K H a xs/\SqT K H b ys/\xs≠[]/\xs.length+ys.length<=sizeLine/\∀ v H',Same H H'->(∃ c,v=.ref c/\SqT K H' c (xs++ys))->Q v H'
theorem kB {X:Cx}:OpR X (binaryOp .Add) (vE X.K):=fun pins s σ H x y v u Q I rx ry h=>by
 obtain ⟨a,b,xs,ys,e1,e2,h1,h2,hx,hz,q⟩:=h
 exact t9 pins s σ H x y v u Q I rx ry ⟨a,b,xs,ys,e1,e2,h1,h2,hx,hz,fun z=>q _ _ (Same.refl _) ⟨a,rfl,by rw [z,a0P]; exact h1⟩,fun _ p hp=>q _ _ (iA hp _) ⟨p,rfl,SqT.of aQ⟩⟩
theorem An {X:Cx}{x:Str}{T:String}{pos:Pos}(hg:Gl X x)(hm:X.mg x=none)(hv:bootBuiltins x=some (.type T))(hn:x≠"__name__":=by decide)(hd:(x==("__debug__":Str))=false:=by decide):PE X (.Name x pos) (tC (.ty T)):=rP (v:=.ty T) hg hm hv rfl hn hd
theorem gr {X:Cx}{x:Str}{a:Addr}{pos:Pos}(hg:Gl X x)(hm:X.mg x=some (.ref a))(hd:(x==("__debug__":Str))=false:=by decide):PE X (.Name x pos) (tC (.ref a)):=kx (v:=.ref a) hg hm rfl hd
theorem eg (ns:List Int):∀ k,k<=ns.length->preSum (fun i=>ns.getD i 0) k=(ns.take k).sum
 | 0,_=>rfl
 | k+1,h=>by
  have ih:=eg ns k (by omega)
  show preSum (fun i=>ns.getD i 0) k+ns.getD k 0=_
  rw [ih,List.take_succ,List.sum_append,a0p,a0h (show k < ns.length by omega)]
  simp
theorem mV {X:Cx}(hc:X.calm=true):cX X (.builtin "sum") (fun xs H Q=>∃ (a:Addr) (ns:List Int),xs=[.ref a]/\SqL X.K H a (ns.map V.int)/\Q (.int ns.sum) H):=by
 intro pins s σ H xs us Q I r h
 obtain ⟨a,ns,rfl,hS,q⟩:=h
 obtain ⟨u,rfl,ru⟩:=dy r
 cases ru
 obtain ⟨its,rv,p,hz⟩:=I.list hS
 have hlen:its.toArray.size=ns.length:=by rw [a0k,<- rv.length,a0b]
 have hlt:a < s.heap.objs.size:=by obtain ⟨o,e,_⟩:=p.isList; exact Heap.lt_size e
 refine call_sum_walkG (wpAny_pyIter_list p.isList ?_)
 refine ⟨s.heap.objs.size,_,_,_,_,_,fun i=>ns.getD i 0,rfl,Walks.list (A:=X.A.in1) (show X.A.in1.handled=none from I.ok.hd hc) s.heap.objs.size a (a0y hlt) its.toArray,⟨⟨_,Heap.get?_push_size _ rfl,rfl,rfl⟩,p.isList.push _⟩,fun b hb=>?_,fun i v hv=>?_,fun h' tk t' k=>?_⟩
 ·show b < (s.heap.push _).objs.size
  rw [Heap.size_push]
  rcases a0s.mp hb with rfl | hb
  ·exact a2c _
  ·rw [a0t.mp hb]; exact a1M hlt
 ·have hv':its[i]?=some v:=by simpa using hv
  have hi:i < its.length:=(a0w.mp hv').1
  have hib:i < ns.length:=by have:=rv.length; rw [a0b] at this; omega
  obtain ⟨w',e1,e2⟩:=rv.get (i:=i) (x:=.int ns[i]) (by rw [a0A,a0h hib]; rfl)
  rw [hv'] at e1
  cases e1
  obtain ⟨t,rfl⟩:=e2
  have e3:ns.getD i 0=ns[i]:=by rw [a0p,a0h hib]; rfl
  exact ⟨t,by show Value.int ns[i] t=Value.int (ns.getD i 0) t; rw [e3]⟩
 ·have e:preSum (fun i=>ns.getD i 0) its.toArray.size=ns.sum:=by
   rw [hlen,eg ns _ (a0r _),List.take_length]
  rw [e]
  exact ⟨.int ns.sum,H,I.kept (fun b o eo=>k b o (fun hm=>by
   have:b=s.heap.objs.size:=by simpa using hm
   exact absurd (this ▸ Heap.lt_size eo) (a1c _)) (Heap.get?_push_of_some _ eo)),⟨t',rfl⟩,q⟩
mutual
noncomputable def toD:Th->PyData
 | .non=>.none
 | .bl b=>.bool b
 | .int i=>.int i
 | .str x=>.str x
 | .tup ts=>.tuple (ez ts)
 | .lst ts=>.list (ez ts)
noncomputable def ez:List Th->List PyData
 | []=>[]
 | t::ts=>toD t::ez ts
end
section
variable {X:Cx}{pins:List (Addr×Obj)}{σ:L2.St}{H:Hp}{s:Shared}
mutual
theorem Has.reads (I:Inv X pins σ H s):∀ {t:Th} {v:V} {u:Value},Has X.K H t v->RelV v u->∃ as,Reads s.heap u (toD t) as
 | .non,_,u,h,r=>by
  obtain rfl:_=V.non:=h
  obtain rfl:u=Value.none:=r
  exact ⟨_,.none⟩
 | .bl b,_,u,h,r=>by
  obtain rfl:_=V.bl b:=h
  obtain rfl:u=Value.bool b:=r
  exact ⟨_,.bool b⟩
 | .int i,_,u,h,r=>by
  obtain rfl:_=V.int i:=h
  obtain ⟨t,rfl⟩:∃ t,u=Value.int i t:=r
  exact ⟨_,.int i t⟩
 | .str x,_,u,h,r=>by
  obtain rfl:_=V.str x:=h
  obtain ⟨t,rfl⟩:∃ t,u=Value.str x t:=r
  exact ⟨_,.str x t⟩
 | .tup ts,_,u,⟨a,vs,e,hS,hL⟩,r=>by
  subst e
  obtain rfl:u=Value.ref a:=r
  obtain ⟨its,rv,⟨o,h1,h2,n,h3⟩,_⟩:=I.tuple hS
  obtain ⟨as,ra⟩:=HasL.reads I hL rv
  exact ⟨_,.tuple h1 h2 h3 (by simpa using ra)⟩
 | .lst ts,_,u,⟨a,vs,e,hS,hL⟩,r=>by
  subst e
  obtain rfl:u=Value.ref a:=r
  obtain ⟨its,rv,⟨o,n,h1,h2,_,h3⟩,_⟩:=I.list (SqL.of hS)
  obtain ⟨as,ra⟩:=HasL.reads I hL rv
  exact ⟨_,.list h1 h2 h3 (by simpa using ra)⟩
theorem HasL.reads (I:Inv X pins σ H s):∀ {ts:List Th} {vs:List V} {us:List Value},HasL X.K H ts vs->Vals vs us->∃ as,ReadsAll s.heap us (ez ts) as
 | [],vs,us,h,r=>by
  obtain rfl:vs=[]:=h
  cases r
  exact ⟨_,.nil⟩
 | t::ts,vs,us,⟨v,w',e,h1,h2⟩,r=>by
  subst e
  cases r with
  | cons r1 r2 =>
   obtain ⟨as,ra⟩:=Has.reads I h1 r1
   obtain ⟨bs,rb⟩:=HasL.reads I h2 r2
   exact ⟨_,.cons ra rb⟩
end
end
noncomputable abbrev gC (t:Th):Prop:=SeqAt.shaped (toD t)=true
theorem kq {X:Cx}(hu:X.A.units+64 < cLine):OpR X (compareOp .Eq) (fun x y H Q=>∃ t t',Has X.K H t x/\Has X.K H t' y/\gC t/\gC t'/\Q (.bl (PyData.eqv (toD t) (toD t'))) H):=by
 intro pins s σ H x y v u Q I rx ry h
 obtain ⟨t,t',h1,h2,o1,o2,q⟩:=h
 obtain ⟨as,ra⟩:=Has.reads I h1 rx
 obtain ⟨bs,rb⟩:=Has.reads I h2 ry
 exact a27 ra rb o1 o2 hu ⟨.bl _,H,I,rfl,q⟩
theorem sk {X:Cx}(hu:X.A.units+64 < cLine):OpR X (compareOp .NotEq) (fun x y H Q=>∃ t t',Has X.K H t x/\Has X.K H t' y/\gC t/\gC t'/\Q (.bl (!PyData.eqv (toD t) (toD t'))) H):=by
 intro pins s σ H x y v u Q I rx ry h
 obtain ⟨t,t',h1,h2,o1,o2,q⟩:=h
 obtain ⟨as,ra⟩:=Has.reads I h1 rx
 obtain ⟨bs,rb⟩:=Has.reads I h2 ry
 exact a28 ra rb o1 o2 hu ⟨.bl _,H,I,rfl,q⟩
section
variable {prog:Program}{w:World}{A:Around}{E:Value->Shared->Prop}{s:Shared}
theorem dI {t sl:Addr}{items:Array Value}{vl vu:Value}{lo hi:Option Int}{Q:Value->Shared->Prop}(ht:IsTup s.heap t items)(hs:s.heap.IsSliceOf sl vl vu .none)(pl:IsPart vl lo)(pu:IsPart vu hi)
  (hw:HT.sIx items.size 0 lo=0/\HT.sIx items.size items.size hi=items.size) (h:Q (.ref t) s):wpAny (model prog w) A (getItem (.ref t) (.ref sl)) Q E s:=by
 obtain ⟨os,hos,hcs,hds⟩:=id hs
 have hTs:s.TypeIs (.ref sl) "slice":=⟨os,hos,hcs⟩
 unfold getItem
 try with_reducible refine wpAny_holding ?_
 first | refine wpAny_bind (wpAny_pure ?_) | skip
 refine wpAny_bind (wpAny_sequenceKey ht.typeIs (by decide) ?_)
 refine wpAny_bind (wpAny_callSpecial?_slot (name:=Str.ofString "__getitem__") ht.typeIs a0K
  (wpAny_call_entry a0K ht.typeIs entry_tuple_getitem ?_ (args_tuple_getitem _ _)))
 show wpAny _ _ (Builtin.Tuple.tupleItemsOf (.ref t) >>= _) _ _ s
 refine wpAny_bind (tupleItemsOf_ ht ?_)
 refine wpAny_bind (wpAny_typeOf hTs ?_)
 rw [if_pos (by decide)]
 refine wpAny_bind (HT.sliceApplied_gen hs pl pu ?_)
 have hyes:(((HT.sIx items.size 0 lo:Nat):Int)==0&&(1:Int)==1&&(HT.sIx items.size items.size hi-HT.sIx items.size 0 lo)==items.size)=true:=by
  rw [hw.1,hw.2]
  simp
 show wpAny _ _ (if (((HT.sIx items.size 0 lo:Nat):Int)==0&&(1:Int)==1&&(HT.sIx items.size items.size hi-HT.sIx items.size 0 lo)==items.size)=true then _ else _) _ _ s
 rw [if_pos hyes]
 unfold Builtin.Tuple.tupleIsExact
 refine wpAny_bind (wpAny_bind (wpAny_typeOf ht.typeIs (wpAny_pure ?_)))
 rw [if_pos (by decide)]
 first
  | exact wpAny_bind (wpAny_rule (wpAny_pure ⟨_,rfl,wpAny_pure h⟩))
  | exact wpAny_bind (wpAny_rule (wpAny_bind (wpAny_pure (wpAny_pure ⟨_,rfl,wpAny_pure h⟩))))
end
section
variable {X:Cx}
noncomputable def uM (K:a0a):V->Option Int->Option Int->Hp->VK->Prop:=fun x lo hi H Q=>∃ a xs,x=.ref a/\SqT K H a xs/\∀ v H',Same H H'->(∃ c,v=.ref c/\SqT K H' c (dQ xs lo hi))->Q v H'
theorem kR:SlR X (uM X.K):=by
 intro pins s σ H x v vl vu lo hi sl Q I rx hs pl pu h
 obtain ⟨a,xs,rfl,hx,q⟩:=h
 by_cases hw:HT.sIx xs.length 0 lo=0/\HT.sIx xs.length xs.length hi=xs.length
 ·cases rx
  obtain ⟨its,r,ht,hz⟩:=I.tuple hx
  have hlen:its.toArray.size=xs.length:=by rw [a0k]; exact r.length.symm
  refine ⟨"tuple",_,a0K.lookup,ht.typeIs,?_⟩
  refine dI ht hs pl pu (by rw [hlen]; exact hw) ⟨.ref a,H,I,rfl,q _ _ (Same.refl H) ⟨a,rfl,?_⟩⟩
  have e:dQ xs lo hi=xs:=by
   unfold dQ
   rw [hw.1,hw.2]
   simp
  rw [e]
  exact hx
 ·exact xG pins s σ H _ v vl vu lo hi sl Q I rx hs pl pu ⟨a,xs,rfl,hx,hw,fun p hp=>q _ _ (iA hp _) ⟨p,rfl,SqT.of aQ⟩⟩
end
noncomputable def Dz (K:a0a):R2:=fun x y H Q=>∃ p xs i v,x=.ref p/\y=.int i/\(SqL K H p xs\/SqT K H p xs)/\atI xs i=some v/\Q v H
theorem ix_any {X:Cx}:IxR X (Dz X.K):=fun value slice pins s σ H x y v u Q I rx ry h hs=>by
 obtain ⟨p,xs,i,z,e1,e2,hq,ha,q⟩:=h
 rcases hq with hq | hq
 ·exact vk value slice pins s σ H x y v u Q I rx ry ⟨p,xs,i,z,e1,e2,hq,ha,q⟩ hs
 ·exact zA value slice pins s σ H x y v u Q I rx ry ⟨p,xs,i,z,e1,e2,hq,ha,q⟩ hs
end L3

namespace L3
open PySem PySem.Spec PySem.Builtin PySem.Builtin.Str PyProof.Rows L2
end L3

namespace L3
open PySem PySem.Spec PyProof.Rows L2
noncomputable def ItO (h:Heap):Bool->Addr->Addr->Nat->Prop
 | true,it,a,n=>h.IsTupleIter it a n
 | false,it,a,n=>h.IsListIter it a n
section
variable {prog:Program}{w:World}{A:Around}{E:Value->Shared->Prop}{s:Shared}
theorem jr {it t:Addr}{i:Nat}{xs:Array Value}{x:Value}{Q:Value->Shared->Prop}(hit:s.heap.IsTupleIter it t i)(ht:s.heap.IsTuple t xs)(hx:xs[i]?=some x)
  (q:∀ h',h'.IsTupleIter it t (i+1)->Heap.SameBut it s.heap h'->Q x { s with heap:=h' }):wpAny (model prog w) A (Builtin.SmallTypes.nextOf (.ref it)) Q E s:=by
 obtain ⟨u,hu,cu,du⟩:=id hit; obtain ⟨v,hv,_,nv,dv⟩:=ht
 unfold Builtin.SmallTypes.nextOf
 refine wpAny_bind (wpAny_callSpecial?_slot (name:=Str.ofString "__next__") hit.typeIs F.slot_tuple_iterator_next (wpAny_call_entry F.slot_tuple_iterator_next hit.typeIs F.entry_tuple_iterator_next ?_ (F.args_tuple_iterator_next_1 _)))
 show wpAny _ _ (field (.ref it) 0 >>= _) _ _ _; refine wpAny_bind (wpAny_field hu du (x:=.ref t) rfl ?_)
 show wpAny _ _ (if (Value.ref t==Value.none)=true then _ else _) _ _ _; rw [if_neg (by intro z; cases z)]
 show wpAny _ _ (field (.ref it) 1 >>= _) _ _ _; refine wpAny_bind (wpAny_field hu du (x:=.int i 0) rfl ?_)
 show wpAny _ _ (seqItems? (.ref t) >>= _) _ _ _; refine wpAny_bind (wpAny_seqItems hv dv ?_)
 simp only [hx,a2F]
 exact wpAny_bind (wpAny_setField hu du (by simp) (wpAny_pure ⟨x,rfl,wpAny_pure (q _ ⟨_,Heap.get?_update_self _ hu (Obj.isFreed_of_fields (Obj.data_mapFields du _)),(Obj.cls_mapFields ..).trans cu,by rw [Obj.data_mapFields du]; simp [rawInt]⟩ (Heap.SameBut.update ..))⟩))
theorem fY {it t:Addr}{i:Nat}{xs:Array Value}{Q:Value->Shared->Prop}(hh:A.handled=none)(hit:s.heap.IsTupleIter it t i)(ht:s.heap.IsTuple t xs)(hx:xs[i]?=none)
  (q:∀ h' e,Heap.ExtBut it s.heap h'->(∃ o,h'.get? e=some o/\o.cls=.type "StopIteration")->E (.ref e) { s with heap:=h' }):wpAny (model prog w) A (Builtin.SmallTypes.nextOf (.ref it)) Q E s:=by
 obtain ⟨u,hu,cu,du⟩:=id hit; obtain ⟨v,hv,_,nv,dv⟩:=ht
 unfold Builtin.SmallTypes.nextOf
 refine wpAny_bind (wpAny_callSpecial?_slot (name:=Str.ofString "__next__") hit.typeIs F.slot_tuple_iterator_next (wpAny_call_entry F.slot_tuple_iterator_next hit.typeIs F.entry_tuple_iterator_next ?_ (F.args_tuple_iterator_next_1 _)))
 show wpAny _ _ (field (.ref it) 0 >>= _) _ _ _; refine wpAny_bind (wpAny_field hu du (x:=.ref t) rfl ?_)
 show wpAny _ _ (if (Value.ref t==Value.none)=true then _ else _) _ _ _; rw [if_neg (by intro z; cases z)]
 show wpAny _ _ (field (.ref it) 1 >>= _) _ _ _; refine wpAny_bind (wpAny_field hu du (x:=.int i 0) rfl ?_)
 show wpAny _ _ (seqItems? (.ref t) >>= _) _ _ _; refine wpAny_bind (wpAny_seqItems hv dv ?_)
 simp only [hx,a2F]
 refine wpAny_bind (wpAny_rule (wpAny_bind (wpAny_setField hu du (by simp) ?_))); show wpAny _ _ (newExc (.type "StopIteration") [] >>= _) _ _ _
 refine wpAny_bind ?_; simp only [newTuple,newExc]
 refine wpAny_bind (wpAny_newObj_type ?_ (by size_fits)); refine wpAny_bind (m:=firstArgMember _ _) (wpAny_of_eq (a:=Value.none) (by first | rfl | (simp only [firstArgMember]; rfl)) (wpAny_newObj_type ?_ (by size_fits)))
 simp only [raiseNew]
 refine wpAny_bind (wpAny_handled ?_); first | rw [hh] | rw [show A.in1.handled=none from hh]
 exact wpAny_bind (wpAny_pure (wpAny_throw (q _ _ (((Heap.SameBut.update ..).extBut.push _).push _) ⟨_,Heap.get?_push_size _ rfl,rfl⟩)))
end
end L3
namespace L3
open PySem PySem.Spec PyProof.Rows L2
section
variable {X:Cx}{pins:List (Addr×Obj)}{σ:L2.St}{H:Hp}{s:Shared}
theorem fk {h':Heap}{ch:List Addr}(I:Inv X pins σ H s)(hf:∀ b∈ch,H b=none)(k:∀ b o,b ∉ ch->s.heap.get? b=some o->h'.get? b=some o):HOk X.prog X.w H h':=fun b u e=>by
 have nit:∀ b u,H b=some u->b ∉ ch:=fun b u e z=>by rw [hf b z] at e; cases e
 refine (I.hok b u e).stay (fun c v hc q=>k c v ?_ q) (fun _ q=>q) fun _ _ q=>q
 rcases hc with z | z
 ·rw [z]; exact nit b u e
 ·exact nit c _ z
theorem kb {h':Heap}{t':Nat}{ch:List Addr}(I:Inv X pins σ H s)(hf:∀ b∈ch,fh X pins H b)(k:∀ b o,b ∉ ch->s.heap.get? b=some o->h'.get? b=some o):Inv X pins σ H { s with heap:=h',toks:=t' }:=by
 refine I.step (g':=s.gens) (d':=s.drawn) (ch:=ch) (fun b hb=>⟨(hf b hb).2.2.2.1,(hf b hb).2.1,(hf b hb).2.2.2.2.1,(hf b hb).2.2.2.2.2⟩) (fun b o _ _ hc e _=>k b o hc e) (fun b o _ _ hc e _=>⟨o.slots,k b o hc e⟩) (fun _ _ _ _ n=>n)
  (fun b o hc e=>⟨o,k b o hc e⟩) (fun _ _ e=>e) (fun _ _ _ e=>e) (fun b ps e=>⟨#[],by rw [e]; simp⟩) (fun m hm=>?_) (fk I (fun b hb=>(hf b hb).1) k) I.bare
 obtain ⟨o,es,ep,ho,r⟩:=hm
 exact ⟨o,es,ep,k _ o (fun z=>(hf _ z).2.1 rfl) ho,r⟩
theorem eN {h':Heap}{t':Nat}{ch:List Addr}{a:Addr}{ys:List V}{its:List Value}(I:Inv X pins σ H s)(hf:∀ b∈ch,fh X pins H b)(k:∀ b o,b ∉ ch->s.heap.get? b=some o->h'.get? b=some o)
  (ha:s.heap.objs.size<=a) (hz:ys.length<=sizeLine) (hv:Vals ys its) (ht:IsTup h' a its.toArray):Inv X pins σ (upd H a (.tup ys)) { s with heap:=h',toks:=t' }:=by
 have fr:H a=none:=I.hok.fresh ha
 have na:∀ b o,s.heap.get? b=some o->b≠a:=fun b o e=>a0y (a0n (Heap.lt_size e) ha)
 refine I.step (g':=s.gens) (d':=s.drawn) (ch:=ch) (fun b hb=>⟨(hf b hb).2.2.2.1,(hf b hb).2.1,(hf b hb).2.2.2.2.1,(hf b hb).2.2.2.2.2⟩) (fun b o _ _ hc e _=>k b o hc e) (fun b o _ _ hc e _=>⟨o.slots,k b o hc e⟩) (fun b o _ e n=>by rw [af (na b o e)]; exact n)
  (fun b o hc e=>⟨o,k b o hc e⟩) (fun b u e=>by rw [af (aO e fr)]; exact e) (fun b o u e=>by rw [af (aO e fr)]; exact e) (fun b ps e=>⟨#[],by rw [af (aO e fr),e]; simp⟩) (fun m hm=>?_)
  (fV (fk I (fun b hb=>(hf b hb).1) k) fr ⟨hz,its,hv,ht⟩) I.bare
 obtain ⟨o,es,ep,ho,r⟩:=hm
 exact ⟨o,es,ep,k _ o (fun z=>(hf _ z).2.1 rfl) ho,r⟩
end
structure aH (pre ys:List Str)(scope:Scope):Prop where
 kind:scope.kind=.function
 cell:∀ y∈scope.names,y.2≠.cell
 nm:∀ y∈scope.names,y.2=.local->scope.names.lookup y.1=some .local
 loc:∀ x∈pre,scope.names.lookup x=some .local
 nd:(pre++ys).Nodup
theorem qe {pre:List Str}{τ:L2.St}{j:Nat}{v:V}(e:(a0i pre.length none++τ)[j]?=some (some v)):∃ i,j=pre.length+i/\τ[i]?=some (some v):=by
 by_cases hj:j < pre.length
 ·rw [a04 (by rw [a0F]; exact hj),a1D,if_pos hj] at e
  cases a0C e
 ·refine ⟨j-pre.length,by omega,?_⟩
  rw [a02 (by rw [a0F]; omega),a0F] at e
  exact e
theorem lQ {X:Cx}{pins:List (Addr×Obj)}{σ:L2.St}{H:Hp}{s:Shared}{pre ys:List Str}{is:List Nat}{scope:Scope}{cl:List (Str×Addr)}{fp:List Addr}{C:Addr}{h1:Heap}{t1:Nat}{m1:Str->Option Value}
  (I:Inv X pins σ H s) (hf:∀ b∈fp,fh X pins H b) (hfo:∀ b∈fp,b < s.heap.objs.size) (S:aH pre ys scope) (hcl:Clo X cl)
  (hfr:(scope.names.all fun p=>p.2 != .free || (cl.lookup p.1).isSome)=true) (fr:Frees X scope cl ys is)
  (hC:s.heap.objs.size<=C) (old:∀ b o,s.heap.get? b=some o->h1.get? b=some o) (hn:h1.Ns C m1) :
  Inv (au X (pre++ys) scope cl C s H fp) pins (a0i pre.length none++bI σ is) H { s with heap:=h1,toks:=t1 }:=by
 have stk:∀ b,b≠X.env.locals->b ∉ X.fs->b ∉ frs X.stack:=fun b q1 q2 hb=>(a0s.mp (I.stkSub b hb)).elim q1 q2
 have key:∀ a k,(relabel scope X.env).names.lookup a=some k->(k=.cell\/k=.free)->∃ c,cl.lookup a=some c:=fun a k e hk=>by
  have hm:=a03 e
  obtain ⟨⟨n,k0⟩,hp,ep⟩:=a1k.mp hm
  have hk0:k0=.free/\n=a:=by
   dsimp only at ep
   split at ep
   ·rename_i hc
    simp only [a0j] at hc
    exact ⟨eq_of_beq hc.1.1,(a2u ep).1⟩
   ·obtain ⟨e1,e2⟩:=a2u ep
    subst e2
    rcases hk with z | z
    ·exact absurd z (S.cell _ hp)
    ·exact ⟨z,e1⟩
  obtain ⟨z1,z2⟩:=hk0
  subst z1 z2
  have q:=a06.mp hfr _ hp
  have q2:(cl.lookup n).isSome=true:=by simpa using q
  exact a1B.mp q2
 refine ⟨⟨I.ok.mod,S.kind,I.ok.glob,I.ok.blt,hC,fun a b c e1 e2=>I.ok.inj a b c (hcl.get e1) (hcl.get e2),fun a ha=>?_,fun a c e=>absurd e a0d,I.ok.hd,I.ok.frames,.inl rfl,
   fun b hb=>⟨a0y (a0n (hfo b hb) hC),fun a c e=>(hf b hb).2.2.2.2.1 a c (hcl.get e)⟩,I.bs,a0z I.ok.bsz I.sz,fun b o e hb=>?_,fun b hb=>stk b (hf b hb).2.1 (hf b hb).2.2.1,I.stack,I.stkFree⟩,
  rfl,I.bare,Un.kept old,⟨m1,hn,fun j y v e1 e2 e3=>?_⟩,fun a c e=>?_,I.hok.fresh hC,fun a c e=>I.freeC a c (hcl.get e),fun p hp=>?_,I.hok.kept old,?_⟩
 ·rcases ha with e | e
  ·exact key a _ e (.inl rfl)
  ·exact key a _ e (.inr rfl)
 ·rcases (hf b hb).2.2.2.1 with z | z
  ·exact I.ok.noex b o e z
  ·exact absurd (a0n (Heap.lt_size (I.ok.bs b o e).1) z) (a1c _)
 ·obtain ⟨k,rfl,e2'⟩:=qe e2
  have e1':ys[k]?=some y:=by
   have e1'':(pre++ys)[pre.length+k]?=some y:=e1
   rw [a02 (by omega),Nat.add_sub_cancel_left] at e1''
   exact e1''
  obtain ⟨i,c,g1,g2,g3,g4,g5,g6,g7⟩:=fr.get (σ:=σ) e1' e2'
  obtain ⟨m0,hn0,hl0⟩:=I.loc
  obtain ⟨u,r,l⟩:=hl0 i y v g1 g2 g3
  rcases l with ⟨k,_⟩ | ⟨_,c',e',z⟩
  ·rcases g4 with q | q
   ·rw [k] at q; cases q
   ·rw [k] at q; cases q
  ·rw [g5] at e'
   cases e'
   obtain ⟨o,ho,hd⟩:=z
   exact ⟨u,r,.inr ⟨g7,c,g6,⟨o,old _ _ ho,hd⟩⟩⟩
 ·obtain ⟨v,o,ho,hd⟩:=I.cell a c (hcl.get e)
  exact ⟨v,o,old _ _ ho,hd⟩
 ·obtain ⟨e,n,ne,nf,d⟩:=I.pin p hp
  exact ⟨old _ _ e,n,a0y (a0n (Heap.lt_size e) hC),stk _ ne nf,d⟩
 ·show (a0i pre.length none++bI σ is).length=(pre++ys).length
  unfold bI
  rw [a0e,a0e,a0F,a0b,fr.len]
end L3
namespace L3
open PySem PySem.Spec PyProof.Rows L2
end L3
namespace L3
open PySem PySem.Spec PyProof.Rows L2
end L3
namespace L3
open PySem PySem.Spec PyProof.Rows L2
end L3
namespace L3
open PySem PySem.Spec PyProof.Rows L2
end L3
namespace L3
open PySem PySem.Spec PyProof.Rows L2
section
variable {prog:Program}{w:World}{A:Around}{R:Result->Shared->Prop}{s:Shared}
theorem jc {elt tg iter cnd:Expr}{scope:Scope}{pos:Pos}{it acc:Value}{env:Env}(J:Nat->Shared->Prop)
  (turn:∀ n s,J n s->wpAny (model prog w) A (pyNext it) (fun r s₁=>match r with
   | none=>R (.ok .next) s₁
   | some v=>wpAny (model prog w) A (letOwnedTupleGo tg it v) (fun _ s₂=>wpAny (model prog w) A (assign tg env v) (fun _ s₃=>wpAny (model prog w) A (isTrue cnd env (eval cnd env)) (fun ok s₄=>if ok=true then
     wpAny (model prog w) A (eval elt env) (fun y s₅=>wpAny (model prog w) A (call (.builtin "list.append") [acc,y]) (fun _ s₆=>∃ m,m < n/\J m s₆) noX s₅) noX s₄ else ∃ m,m < n/\J m s₄) noX s₃) noX s₂) noX s₁) noX s)
  (n:Nat) (h:J n s):codeAny (model prog w) A (.compLoop (.ListComp elt [⟨tg,iter,[cnd],0⟩] scope pos) 0 it acc env) R s:=by
 refine codeAny_loop rfl J (fun n s hJ=>?_) n h
 show wpAny _ A ((compTurn (.ListComp elt [⟨tg,iter,[cnd],0⟩] scope pos) 0 it acc env).onRaise (fun x=>do noteFrame x env; theTreesLotGoes x)) _ _ s
 refine wpAny_noted ?_
 rw [compTurn_list]
 refine wpAny_bind (wpAny_standAt (wpAny_bind (wpAny_mono (turn n s hJ) (fun r s₁ h₁=>?_) fun _ _ z=>z.elim)))
 cases r with
 | none=>exact wpAny_pure h₁
 | some v =>
  refine wpAny_bind (wpAny_mono h₁ (fun _ s₂ h₂=>?_) fun _ _ z=>z.elim)
  refine wpAny_bind (wpAny_mono h₂ (fun _ s₃ h₃=>?_) fun _ _ z=>z.elim)
  refine wpAny_bind (wpAny_tests_one (wpAny_mono h₃ (fun ok s₄ h₄=>?_) fun _ _ z=>z.elim))
  cases ok with
  | true=>exact wpAny_bind (wpAny_bind (wpAny_mono h₄ (fun y s₅ h₅=>wpAny_bind (wpAny_mono h₅ (fun _ s₆ h₆=>wpAny_pure (wpAny_pure ⟨rfl,h₆⟩)) fun _ _ z=>z.elim)) fun _ _ z=>z.elim))
  | false=>exact wpAny_bind (wpAny_pure (wpAny_pure ⟨rfl,h₄⟩))
end
end L3

namespace L3
open PySem PySem.Spec PyProof.Rows L2
noncomputable def sQ (n:Nat)(J:It)(g:TG)(tc:TT)(te:TE)(σ':L2.St)(H1:Hp)(Q:VK):Prop:=∃ W:Nat->Nat->List V->Hp->Prop,(∃ m,W 0 m [] H1)/\∀ i m ys H,W i m ys H ->
 (J.stop i H/\ys.length<=sizeLine/\∀ p,H p=none->Q (.ref p) (upd H p (.lst ys))) \/
 (J.go i H/\ys.length < sizeLine/\∀ x H',J.yld i H x H'->g x (a0i n none++σ') H' fun σ2 H2=>(σ2.length=n+σ'.length/\σ2.drop n=σ')/\tc σ2 H2 fun ok H3=>if ok=true then te σ2 H3 fun y H4=>∃ m',m' < m/\W (i+1) m' (ys++[y]) H4 else ∃ m',m' < m/\W (i+1) m' ys H3)
noncomputable def rH (n:Nat)(J:It)(g:TG)(te:TE)(σ':L2.St)(H1:Hp)(Q:VK):Prop:=∃ W:Nat->Nat->List V->Hp->Prop,(∃ m,W 0 m [] H1)/\∀ i m ys H,W i m ys H ->
 (J.stop i H/\ys.length<=sizeLine/\∀ p,H p=none->Q (.ref p) (upd H p (.lst ys))) \/
 (J.go i H/\ys.length < sizeLine/\∀ x H',J.yld i H x H'->g x (a0i n none++σ') H' fun σ2 H2=>(σ2.length=n+σ'.length/\σ2.drop n=σ')/\te σ2 H2 fun y H4=>∃ m',m' < m/\W (i+1) m' (ys++[y]) H4)
noncomputable def dS (n:Nat)(wi:TI)(is:List Nat)(g:TG)(tc:TT)(te:TE):TE:=fun σ H Q=>wi σ H fun J H1=>sQ n J g tc te (bI σ is) H1 Q
noncomputable def gX (n:Nat)(wi:TI)(is:List Nat)(g:TG)(te:TE):TE:=fun σ H Q=>wi σ H fun J H1=>rH n J g te (bI σ is) H1 Q
theorem qu {n:Nat}{σ2 σ':L2.St}(h:σ2.drop n=σ'){j:Nat}{w:V}(e:(a0i n none++σ')[j]?=some (some w)):σ2[j]?=some (some w):=by
 by_cases hj:j < n
 ·rw [a04 (by simpa using hj),a1D,if_pos hj] at e
  cases a0C e
 ·rw [a02 (by simpa using hj),a0F,<- h,List.getElem?_drop,Nat.add_sub_cancel' (by omega)] at e
  exact e
noncomputable def CW (X:Cx)(cs:List Expr)(k:Bool->Shared->Prop)(s:Shared):Prop:=match cs with
 | []=>k true s
 | [c]=>wpAny (model X.prog X.w) X.A (isTrue c X.env (eval c X.env)) k noX s
 | _=>False
noncomputable def PC (X:Cx)(cs:List Expr)(tc:TT):Prop:=∀ (pins:List (Addr×Obj)) (s:Shared) (σ:L2.St) (H:Hp) (Q:Bool->Hp->Prop),Inv X pins σ H s->tc σ H Q->CW X cs (fun ok s'=>∃ H',Inv X pins σ H' s'/\Q ok H') s
theorem CW.mono {X:Cx}{cs:List Expr}{k k':Bool->Shared->Prop}{s:Shared}(h:CW X cs k s)(w:∀ b s,k b s->k' b s):CW X cs k' s:=by
 match cs,h with
 | [],h=>exact w _ _ h
 | [c],h=>exact wpAny_mono h w fun _ _ z=>z
theorem jd {X:Cx}{elt tg iter:Expr}{cs:List Expr}{scope:Scope}{pos:Pos}{it acc:Value}{R:Result->Shared->Prop}{s:Shared}(J:Nat->Shared->Prop)
  (turn:∀ n s,J n s->wpAny (model X.prog X.w) X.A (pyNext it) (fun r s₁=>match r with
   | none=>R (.ok .next) s₁
   | some v=>wpAny (model X.prog X.w) X.A (letOwnedTupleGo tg it v) (fun _ s₂=>wpAny (model X.prog X.w) X.A (assign tg X.env v) (fun _ s₃=>CW X cs (fun ok s₄=>if ok=true then
     wpAny (model X.prog X.w) X.A (eval elt X.env) (fun y s₅=>wpAny (model X.prog X.w) X.A (call (.builtin "list.append") [acc,y]) (fun _ s₆=>∃ m,m < n/\J m s₆) noX s₅) noX s₄ else ∃ m,m < n/\J m s₄) s₃) noX s₂) noX s₁) noX s)
  (n:Nat) (h:J n s) (hcs:cs.length<=1):codeAny (model X.prog X.w) X.A (.compLoop (.ListComp elt [⟨tg,iter,cs,0⟩] scope pos) 0 it acc X.env) R s:=by
 match cs,hcs with
 | [],_=>exact kd J turn n h
 | [c],_=>exact jc J turn n h
theorem ik {X:Cx}{elt iter tg:Expr}{cs:List Expr}{pre:List Str}{pos:Pos}{scope:Scope}{cl:List (Str×Addr)}{ys:List Str}{is:List Nat}{wi:TI}{g:TG}{te:TE}{tc:TT}{use:Option (Value->Sem Unit)}{Q:VK}{Qp:Value->Shared->Prop}{pins:List (Addr×Obj)}{s:Shared}{σ:L2.St}{H:Hp}{ip:Pos}
  (hc:X.calm=true) (hi:PI X tg iter wi) (hg:∀ C s H fp,PG (au X (pre++ys) scope cl C s H fp) tg g) (he:∀ C s H fp,PE (au X (pre++ys) scope cl C s H fp) elt te) (hcd:∀ C s H fp,PC (au X (pre++ys) scope cl C s H fp) cs tc) (hcs:cs.length<=1)
  (hclos:closureFor scope X.env=pure cl) (S:aH pre ys scope) (hcl:Clo X cl) (hfr:(scope.names.all fun p=>p.2 != .free || (cl.lookup p.1).isSome)=true) (fr:Frees X scope cl ys is) (hs:∀ v,foldedSetIterable iter X.env v=pure v)
  (fin:∀ (s4:Shared) (Hn:Hp) (D L:Addr) (m4:Str->Option Value),Inv X pins σ Hn s4->s4.heap.Ns L m4->L≠X.env.locals->(∀ a c,X.env.cells.lookup a=some c->c≠L)->Hn L=none->X.s₀.heap.objs.size<=L->(∀ p∈X.pn++pins,p.1≠L)->Q (.ref D) Hn->compPost (model X.prog X.w) X.A X.xe use Qp (.ref D) L (.ok .next) s4)
  (I:Inv X pins σ H s) (h:dS pre.length wi is g tc te σ H Q) :
  wpAny (model X.prog X.w) X.A (comprehension (.ListComp elt [⟨tg,iter,cs,0⟩] scope pos) scope X.env ip (newList []) false (eval iter X.env) use) Qp X.xe s:=by
 refine wpAny_comprehension_free (use:=use) rfl hs hclos S.kind S.nm (thn (hi pins s σ H _ I h) fun xv s1 h1=>thn h1 fun itv s2 h2=>?_)
 obtain ⟨it,fp,tn,J,H2,rfl,I2,T,st2,f2,W,⟨m0,w0⟩,turn⟩:=h2
 have fpo:∀ b∈fp,b < s2.heap.objs.size:=fun b hb=>by
  obtain ⟨o,e,_⟩:=T.obj _ _ st2 b hb
  exact Heap.lt_size e
 refine wpAny_newObj_type (wpAny_newFunctionEnv S.cell (fun y hy=>by cases hy) (fun g' hns hsb=>?_) S.kind)
 dsimp only at hns hsb ⊢
 generalize hP2:s2.heap.push { cls:=.type "list",dict:=none,data:=.seq ([]:List Value).toArray }=P2 at hns hsb ⊢
 have hCs:P2.objs.size=s2.heap.objs.size+1:=by rw [<- hP2,Heap.size_push]
 have hDC:s2.heap.objs.size≠P2.objs.size:=by omega
 have hle:s2.heap.objs.size<=P2.objs.size:=by omega
 have nc:∀ b o,s2.heap.get? b=some o->b≠P2.objs.size:=fun b o e=>a0y (a0n (Heap.lt_size e) hle)
 have nd:∀ b o,s2.heap.get? b=some o->b≠s2.heap.objs.size:=fun b o e=>a0y (Heap.lt_size e)
 have ndH:∀ b u,H2 b=some u->b≠s2.heap.objs.size:=fun b u e=>a0y (I2.hok.lt e)
 have old:∀ b o,s2.heap.get? b=some o->g'.get? b=some o:=fun b o e=>hsb.extBut b o (nc b o e) (Heap.get?_push_of_some _ (hP2 ▸ Heap.get?_push_of_some _ e))
 have accD:g'.get? s2.heap.objs.size=some (gY []):=hsb.extBut _ _ hDC (Heap.get?_push_of_some _ (hP2 ▸ Heap.get?_push_size _ rfl))
 have stkD:s2.heap.objs.size ∉ frs X.stack:=fun hb=>(a0s.mp (I2.stkSub _ hb)).elim (fun z=>absurd z (a1W I2.lt)) (I2.nofs (a0r _))
 generalize hσ':bI σ is=σ' at turn
 have I3:Inv (au X (pre++ys) scope cl P2.objs.size s2 H2 fp) pins (a0i pre.length none++σ') H2 { s2 with heap:=g',toks:=s2.toks+([]:List (Str×Value)).length }:=by rw [<- hσ']; exact lQ (pre:=pre) I2 f2 fpo S hcl hfr fr hle old hns
 have stat:∀ {H':Hp} {o:Obj},(∀ b∈fp,H' b=none)->∀ b∈fp,fh (au X (pre++ys) scope cl P2.objs.size s2 H2 fp) (pins++[(s2.heap.objs.size,o)]) H' b:=fun {H' o} hn b hb=>by
  refine ⟨hn b hb,a0y (a0n (fpo b hb) hle),fun z=>(a0s.mp (I2.stkSub _ z)).elim (f2 b hb).2.1 (f2 b hb).2.2.1,.inl hb,fun a c e=>(f2 b hb).2.2.2.2.1 a c (hcl.get e),fun p hp=>?_⟩
  rcases a0S.mp hp with z | z
  ·exact (f2 b hb).2.2.2.2.2 p (a01 _ z)
  ·rcases a0S.mp z with z | z
   ·exact (f2 b hb).2.2.2.2.2 p (a0l _ z)
   ·rw [a0t.mp z]
    exact a1W (fpo b hb)
 have loop:codeAny (model X.prog X.w) X.A (.compLoop (.ListComp elt [⟨tg,iter,cs,0⟩] scope pos) 0 (.ref it) (.ref s2.heap.objs.size) (compEnvC scope cl P2.objs.size X.env))
   (compPost (model X.prog X.w) X.A X.xe use Qp (.ref s2.heap.objs.size) P2.objs.size) { s2 with heap:=g',toks:=s2.toks+([]:List (Str×Value)).length }:=by
  refine jd (X:=au X (pre++ys) scope cl P2.objs.size s2 H2 fp) (fun n s'=>∃ i zs its H',Inv (au X (pre++ys) scope cl P2.objs.size s2 H2 fp) pins (a0i pre.length none++σ') H' s'/\tn i s'.heap/\(∀ b∈fp,H' b=none)/\s'.heap.get? s2.heap.objs.size=some (gY its)/\Vals zs its/\H' s2.heap.objs.size=none/\W i n zs H')
   ?_ m0 ⟨0,[],[],H2,I3,T.keep _ _ _ st2 (fun b _ o e=>old b o e),fun b hb=>(f2 b hb).1,accD,.nil,I2.hok.fresh (a0r _),w0⟩ hcs
  rintro n s3 ⟨i,zs,its,H3,J3,st3,fr3,d3,rv3,nd3,w3⟩
  have hzl:=rv3.length
  have J3':Inv (au X (pre++ys) scope cl P2.objs.size s2 H2 fp) (pins++[(s2.heap.objs.size,gY its)]) (a0i pre.length none++σ') H3 s3:=J3.pins_of fun p hp=>by
   rcases a0S.mp hp with z | z
   ·exact J3.pin p (a0l _ z)
   ·rw [a0t.mp z]
    exact ⟨d3,nd3,hDC,stkD,fun v q=>by cases q⟩
  rcases turn i n zs H3 w3 with ⟨stop,hz,q⟩ | ⟨go,hz,step⟩
  ·refine wpAny_mono (T.done (au X (pre++ys) scope cl P2.objs.size s2 H2 fp) rfl rfl rfl hc i _ s3 _ H3 noX J3' (stat fr3) st3 stop) (fun r s4 h4=>?_) fun _ _ z=>z.elim
   obtain ⟨hr,I4⟩:=h4
   subst hr
   obtain ⟨m4,hn4,_⟩:=id I4.loc
   have f4:H3 P2.objs.size=none:=I4.free
   have d4:s4.heap.get? s2.heap.objs.size=some (gY its):=(I4.pin (s2.heap.objs.size,gY its) (a0l _ (a0l _ (a0t.mpr rfl)))).1
   have u4:Un (frs X.stack) fp H2 H3 s2.heap s4.heap:=I4.base
   have un:Un (frs X.stack) fp H2 (upd H3 s2.heap.objs.size (.lst zs)) s2.heap s4.heap :=
    ⟨u4.keep,u4.slot,fun b o e n hx=>by rw [af (nd b o e)]; exact u4.free b o e n hx,u4.there,
     fun b xs q=>by rw [af (ndH b _ q)]; exact u4.tups b xs q,fun b o u q=>by rw [af (ndH b _ q)]; exact u4.frzs b o u q,fun b ps q=>by rw [af (ndH b _ q)]; exact u4.tbls b ps q⟩
   have IX:Inv X pins σ (upd H3 s2.heap.objs.size (.lst zs)) s4:=I2.call' (s':=s4) (ch:=fp) I4.os un (fV I4.hok nd3 ⟨hz,its,its.length,rv3,d4⟩) I4.bare
    (fun b hb=>⟨(f2 b hb).2.2.2.1,(f2 b hb).2.1,(f2 b hb).2.2.2.2.1,(f2 b hb).2.2.2.2.2⟩)
   have cL:P2.objs.size≠X.env.locals:=a1W (a0n I2.lt hle)
   have cC:∀ a c,X.env.cells.lookup a=some c->c≠P2.objs.size:=fun a c e=>by
    obtain ⟨v',o',ho',_⟩:=I2.cell a c e
    exact nc c o' ho'
   exact fin s4 _ s2.heap.objs.size P2.objs.size m4 IX hn4 cL cC (by rw [af (a1T hDC)]; exact f4) (a0z I2.sz hle) (fun p hp=>nc p.1 _ (I2.pin p hp).1) (q _ nd3)
  ·refine wpAny_mono (T.item (au X (pre++ys) scope cl P2.objs.size s2 H2 fp) rfl rfl rfl hc i _ s3 _ H3 noX J3' (stat fr3) st3 go) (fun r s4 h4=>?_) fun _ _ z=>z.elim
   obtain ⟨u,hr,h4⟩:=h4
   subst hr
   refine wpAny_mono h4 (fun _ s5 h5=>?_) fun _ _ z=>z.elim
   obtain ⟨v,H5,I5,r5,y5,st5,fr5⟩:=h5
   have I5':=I5.pinned (stat fr5) (T.obj _ _ st5)
   refine wpAny_mono (hg P2.objs.size s2 H2 fp _ s5 _ H5 v u _ I5' r5 (step v H5 y5)) (fun _ s6 h6=>?_) fun _ _ z=>z.elim
   obtain ⟨σ6,H6,I6,⟨hl6,hd6⟩,step'⟩:=h6
   have back:∀ {H7:Hp} {s7:Shared},Inv (au X (pre++ys) scope cl P2.objs.size s2 H2 fp) ((pins++[(s2.heap.objs.size,gY its)])++fD fp s5.heap) σ6 H7 s7->Inv (au X (pre++ys) scope cl P2.objs.size s2 H2 fp) pins (a0i pre.length none++σ') H7 s7:=fun I7=>I7.unpinned.unpinned.weak (by rw [hl6,a0e,a0F]) fun j w' e=>qu hd6 e
   refine CW.mono (hcd P2.objs.size s2 H2 fp _ s6 _ H6 _ I6 step') fun ok s6' h6'=>?_
   obtain ⟨H6',I6',q6⟩:=h6'
   cases ok with
   | false =>
    rw [if_neg a0d] at q6
    obtain ⟨m',hm',w7⟩:=q6
    have pinD:=I6'.pin (s2.heap.objs.size,gY its) (a0l _ (a01 _ (a0l _ (a0t.mpr rfl))))
    rw [if_neg a0d]
    refine ⟨m',hm',i+1,zs,its,H6',back I6',T.keep _ _ _ st5 fun b hb o e=>?_,fun b hb=>?_,pinD.1,rv3,pinD.2.1,w7⟩
    ·exact (I6'.pin (b,o) (a0l _ (a0l _ (bx hb e)))).1
    ·obtain ⟨o,e,_⟩:=T.obj _ _ st5 b hb
     exact (I6'.pin (b,o) (a0l _ (a0l _ (bx hb e)))).2.1
   | true =>
    rw [if_pos rfl] at q6 ⊢
    refine wpAny_mono (he P2.objs.size s2 H2 fp _ s6' _ H6' _ I6' q6) (fun yv s7 h7=>?_) fun _ _ z=>z.elim
    obtain ⟨y',H7,I7,r7,m',hm',w7⟩:=h7
    have pinD:=I7.pin (s2.heap.objs.size,gY its) (a0l _ (a01 _ (a0l _ (a0t.mpr rfl))))
    refine append_at (hsz:=by show its.toArray.size<=sizeLine; rw [a0k]; omega) pinD.1 fun h8 sb8 hD8=>?_
    have I8:Inv (au X (pre++ys) scope cl P2.objs.size s2 H2 fp) pins (a0i pre.length none++σ') H7 { s7 with heap:=h8 }:=(back I7).turned (t':=s7.toks) (it:=s2.heap.objs.size) (fun b o hb e=>(sb8.2 b hb).trans e) pinD.2.1 hDC (.inr (a0r _))
     (fun a c e z=>by
      obtain ⟨v',o',ho',_⟩:=I2.cell a c (hcl.get e)
      exact nd c o' ho' z)
     (fun p hp=>nd p.1 _ (I2.pin p hp).1)
    refine ⟨m',hm',i+1,zs++[y'],its++[yv],H7,I8,T.keep _ _ _ st5 fun b hb o e=>?_,fun b hb=>?_,?_,rv3.append (.cons r7 .nil),pinD.2.1,w7⟩
    ·exact (sb8.2 b (a0y (fpo b hb))).trans (I7.pin (b,o) (a0l _ (a0l _ (bx hb e)))).1
    ·obtain ⟨o,e,_⟩:=T.obj _ _ st5 b hb
     exact (I7.pin (b,o) (a0l _ (a0l _ (bx hb e)))).2.1
    ·show h8.get? s2.heap.objs.size=_
     rw [hD8]
     simp [gY]
 exact codeAny_compStart_list loop (T.self X.A 0 _ _ _ (T.keep _ _ _ st2 (fun b _ o e=>old b o e)) loop)
section
variable {X:Cx}{elt iter tg cnd:Expr}{pre:List Str}{pos spos pz:Pos}{z:Str}{jz:Nat}{scope:Scope}{cl:List (Str×Addr)}{ys:List Str}{is:List Nat}{wi:TI}{g:TG}{te:TE}{tc:TT}
theorem pcF (h:PT X cnd tc)(hx:∀ v s,X.xe v s->False):PC X [cnd] tc:=fun pins s σ H Q I q=>wpAny_mono (h pins s σ H Q I q) (fun _ _ z=>z) fun v s z=>hx v s z
noncomputable def tT:TT:=fun _ H Q=>Q true H
theorem pcN:PC X [] tT:=fun pins s σ H Q I q=>⟨H,I,q⟩
theorem goN {n:Nat}{σ:L2.St}{H:Hp}{Q:VK}(h:gX n wi is g te σ H Q):dS n wi is g tT te σ H Q:=h
theorem iO {cs:List Expr}(hc:X.calm=true)(hi:PI X tg iter wi)(hg:∀ C s H fp,PG (au X (pre++ys) scope cl C s H fp) tg g)(he:∀ C s H fp,PE (au X (pre++ys) scope cl C s H fp) elt te)(hcd:∀ C s H fp,PC (au X (pre++ys) scope cl C s H fp) cs tc)(hcs:cs.length<=1)
  (hclos:closureFor scope X.env=pure cl) (S:aH pre ys scope) (hcl:Clo X cl) (hfr:(scope.names.all fun p=>p.2 != .free || (cl.lookup p.1).isSome)=true) (fr:Frees X scope cl ys is) (hs:∀ v,foldedSetIterable iter X.env v=pure v) :
  PE X (.ListComp elt [⟨tg,iter,cs,0⟩] scope pos) (dS pre.length wi is g tc te):=by
 intro pins s σ H Q I h
 rw [eval_ListComp]
 show wpAny _ _ (comprehension _ scope X.env _ (newList []) false (eval iter X.env) none) _ _ s
 refine ik hc hi hg he hcd hcs hclos S hcl hfr fr hs (fun s4 Hn D L m4 IX hn cL cC hL hz hp q=>?_) I h
 exact ⟨m4,hn,fun h' sb=>⟨.ref D,_,IX.turned (t':=s4.toks) (it:=L) (fun b o hb e=>(sb.2 b hb).trans e) hL cL (.inr hz) cC hp,rfl,q⟩⟩
theorem nH {cs:List Expr}(hN:X.N.Nodup)(hj:X.N[jz]?=some z)(hzLoc:Loc X.env.scope z)(hsw:swapsWith (.ListComp elt [⟨tg,iter,cs,0⟩] scope pos) (some (.Name z pz)) spos.line X.env=pure true)(hc:X.calm=true)(hi:PI X tg iter wi)(hg:∀ C s H fp,PG (au X (pre++ys) scope cl C s H fp) tg g)(he:∀ C s H fp,PE (au X (pre++ys) scope cl C s H fp) elt te)(hcd:∀ C s H fp,PC (au X (pre++ys) scope cl C s H fp) cs tc)(hcs:cs.length<=1)
  (hclos:closureFor scope X.env=pure cl) (S:aH pre ys scope) (hcl:Clo X cl) (hfr:(scope.names.all fun p=>p.2 != .free || (cl.lookup p.1).isSome)=true) (fr:Frees X scope cl ys is) (hs:∀ v,foldedSetIterable iter X.env v=pure v) (hfn:X.fn z=true\/X.env.scope.names.lookup z=some .local) :
  PS X (.Assign [.Name z pz] (.ListComp elt [⟨tg,iter,cs,0⟩] scope pos) spos) (mj (dS pre.length wi is g tc te) (cy jz)):=by
 intro pins s σ H D I h
 rw [exec_Assign_Name_used _ _ _ _ hsw]
 refine wpAny_bind (wpAny_standAt (wpAny_bind ?_)); show wpAny _ _ (do let _ <- comprehension (.ListComp elt [⟨tg,iter,cs,0⟩] scope pos) scope X.env _ (newList []) false (eval iter X.env) (some (assign (.Name z pz) X.env))) _ _ s
 refine wpAny_bind (thn (ik (use:=some (assign (.Name z pz) X.env)) (Qp:=fun _ s'=>SP X pins D .next s') hc hi hg he hcd hcs hclos S hcl hfr fr hs (fun s4 Hn d L m4 IX hn cL cC hL hz hp q=>?_) I h) fun _ s' hq=>wpAny_pure (wpAny_pure hq))
 show wpAny _ _ (assign (.Name z pz) X.env (.ref d)) _ _ s4
 refine wpAny_assign_Name (fU IX hN hj hzLoc (v:=.ref d) rfl (fun s5 I5 h5=>?_) hfn)
 obtain ⟨a5,sb5,ha5⟩:=h5
 have na:L≠a5:=ha5.elim (fun e=>by rw [e]; exact cL) fun e=>a1T (cC _ _ e)
 exact ⟨m4,hn.sameBut sb5 na,fun h' sb=>⟨_,_,I5.turned (t':=s5.toks) (it:=L) (fun b o hb e=>(sb.2 b hb).trans e) hL cL (.inr hz) cC hp,q⟩⟩
theorem mR (hc:X.calm=true)(hi:PI X tg iter wi)(hg:∀ C s H fp,PG (au X (pre++ys) scope cl C s H fp) tg g)(he:∀ C s H fp,PE (au X (pre++ys) scope cl C s H fp) elt te)
  (hclos:closureFor scope X.env=pure cl) (S:aH pre ys scope) (hcl:Clo X cl) (hfr:(scope.names.all fun p=>p.2 != .free || (cl.lookup p.1).isSome)=true) (fr:Frees X scope cl ys is) (hs:∀ v,foldedSetIterable iter X.env v=pure v:=by intro _; rfl) :
  PE X (.ListComp elt [⟨tg,iter,[],0⟩] scope pos) (gX pre.length wi is g te):=fun pins s σ H Q I h=>iO hc hi hg he (fun _ _ _ _=>pcN) (a1f _) hclos S hcl hfr fr hs pins s σ H Q I (goN h)
theorem mC (hc:X.calm=true)(hi:PI X tg iter wi)(hg:∀ C s H fp,PG (au X (pre++ys) scope cl C s H fp) tg g)(he:∀ C s H fp,PE (au X (pre++ys) scope cl C s H fp) elt te)(hcd:∀ C s H fp,PT (au X (pre++ys) scope cl C s H fp) cnd tc)
  (hclos:closureFor scope X.env=pure cl) (S:aH pre ys scope) (hcl:Clo X cl) (hfr:(scope.names.all fun p=>p.2 != .free || (cl.lookup p.1).isSome)=true) (fr:Frees X scope cl ys is) (hs:∀ v,foldedSetIterable iter X.env v=pure v:=by intro _; rfl) :
  PE X (.ListComp elt [⟨tg,iter,[cnd],0⟩] scope pos) (dS pre.length wi is g tc te):=iO hc hi hg he (fun _ _ _ _=>pcF (hcd _ _ _ _) fun _ _ z=>z) (a0r _) hclos S hcl hfr fr hs
theorem lU (hN:X.N.Nodup)(hj:X.N[jz]?=some z)(hzLoc:Loc X.env.scope z)(hsw:swapsWith (.ListComp elt [⟨tg,iter,[],0⟩] scope pos) (some (.Name z pz)) spos.line X.env=pure true)(hc:X.calm=true)(hi:PI X tg iter wi)(hg:∀ C s H fp,PG (au X (pre++ys) scope cl C s H fp) tg g)(he:∀ C s H fp,PE (au X (pre++ys) scope cl C s H fp) elt te)
  (hclos:closureFor scope X.env=pure cl) (S:aH pre ys scope) (hcl:Clo X cl) (hfr:(scope.names.all fun p=>p.2 != .free || (cl.lookup p.1).isSome)=true) (fr:Frees X scope cl ys is) (hs:∀ v,foldedSetIterable iter X.env v=pure v:=by intro _; rfl) (hfn:X.fn z=true\/X.env.scope.names.lookup z=some .local:=by first | exact .inl rfl | exact .inr rfl | assumption) :
  PS X (.Assign [.Name z pz] (.ListComp elt [⟨tg,iter,[],0⟩] scope pos) spos) (mj (gX pre.length wi is g te) (cy jz)):=fun pins s σ H D I h=>nH hN hj hzLoc hsw hc hi hg he (fun _ _ _ _=>pcN) (a1f _) hclos S hcl hfr fr hs hfn pins s σ H D I (goN h)
end
end L3

namespace L3
open PySem PySem.Spec PyProof.Rows L2
end L3
namespace L3
open PySem PySem.Spec PyProof.Rows L2
end L3
namespace L3
open PySem PySem.Spec PyProof.Rows L2
end L3

namespace L3
open PySem PySem.Spec PyProof.Rows L2
theorem cD:∀ {ns:List Int} {us:List Value},Vals (ns.map V.int) us->IntsAre us ns
 | [],_,.nil=>.nil
 | n::ns,_,.cons ⟨t,e⟩ r=>by cases e; exact .cons n t (cD r)
theorem mH {X:Cx}(hc:X.calm=true):cX X (.builtin "max") (fun xs H Q=>∃ (a:Addr) (ns:List Int),xs=[.ref a]/\SqL X.K H a (ns.map V.int)/\ns≠[]/\∀ M,M∈ns->(∀ n∈ns,n<=M)->Q (.int M) H):=by
 intro pins s σ H xs us Q I r h
 obtain ⟨a,ns,rfl,hS,hne,q⟩:=h
 obtain ⟨u,rfl,ru⟩:=dy r
 cases ru
 obtain ⟨its,rv,p,hz⟩:=I.list hS
 have hi:=cD rv
 obtain ⟨xs,hxs⟩:=hi.allInts.items
 have hnum:numsOf its=ns:=hi.numsOf
 have hl:s.heap.IsList a (intItems xs):=by rw [<- hxs]; exact p.isList
 have hnx:numsOf (intItems xs).toList=ns:=by rw [<- hxs]; exact hnum
 rw [nums_intItems] at hnx
 have hlen:xs.size=ns.length:=by rw [<- hnx,a0b,a0I]
 have hsz:0 < xs.size:=by rw [hlen]; exact List.length_pos_iff.mpr hne
 refine max_intList (show X.A.handled=none from I.ok.hd hc) hl hsz fun v h' tk hv hk=>?_
 obtain ⟨t,rfl⟩:=intItems_at hv
 obtain ⟨h1,h2⟩:=argBest_gt (numAt xs) (xs.size-1)
 refine ⟨.int _,H,I.kept hk,⟨t,rfl⟩,q _ ?_ fun n hn=>?_⟩
 ·rw [<- hnx,numAt_eq]; exact getD_mem (by rw [a0b,a0I]; omega)
 ·rw [<- hnx] at hn
  obtain ⟨j,hj,rfl⟩:=mem_getD hn
  rw [a0b,a0I] at hj
  rw [<- numAt_eq]; exact h2 j (by omega)
theorem gm {y:V}:∀ {xs:List V} {us:List Value},Vals xs us->xs.all bP=true->us.countP (eqU y)=xs.countP fun x=>eqV x y
 | _,_,.nil,_=>rfl
 | x::xs,u::us,.cons r t,f=>by
  rw [a1s,a0j] at f
  rw [a2d,a2d,jB r f.1,gm t f.2]
theorem rD {X:Cx}:MtR X "list.count" (fun x vs H Q=>∃ l xs y,x=.ref l/\vs=[y]/\SqL X.K H l xs/\bP y=true/\xs.all bP=true/\Q (.int ((xs.countP fun x=>eqV x y:Nat):Int)) H):=by
 intro pins s σ H x vs v us Q I rx rv h
 obtain ⟨l,xs,y,rfl,rfl,hS,fy,fs,q⟩:=h
 cases rx
 obtain ⟨u,rfl,ru⟩:=rv.one
 obtain ⟨its,r,p,hz⟩:=I.list hS
 obtain ⟨⟨cls,dd,data,sl⟩,ho,hc,n,hd⟩:=id p.isList
 simp only at hc hd
 subst hc hd
 refine call_meets a18 ⟨_,ho,rfl⟩ PySem.F.entry_list_count (PySem.F.args_list_count_2 _ _) (SeqAt.list_countAt l its.toArray n dd sl u (eqU y)) ⟨ho,fun z hz=>dN ru fy r fs z (by simpa using hz),?_⟩
 rw [show its.toArray.toList=its from rfl,gm r fs]
 exact ⟨.int _,H,I.tok _,⟨_,rfl⟩,q⟩
end L3
namespace L3
open PySem PySem.Spec PyProof.Rows L2
noncomputable abbrev vJ (h:Heap)(T:Addr)(a b c:Value):Prop:=h.get? T=some { cls:=.type "tuple",data:=.seq #[a,b,c] }
end L3
namespace L3
open PySem PySem.Spec PyProof.Rows L2
noncomputable def Z3 (n a1 a2 a3:Nat)(i:Nat)(h:Heap):Prop :=
 IsZip h (n+5) (n+3) (n+4) .none/\vJ h (n+3) (.ref n) (.ref (n+1)) (.ref (n+2))/\(∃ a b c,vJ h (n+4) a b c)/\ItO h false n a1 i/\ItO h false (n+1) a2 i/\ItO h false (n+2) a3 i
end L3

namespace M
open PySem (Str)
inductive T where
 | non | bl (b:Bool) | int (i:Int) | str (x:Str) | tup (ts:List T) | lst (ts:List T) | dct (ks:List Str) (vs:List T) | ins (c:Str) (fs:List Str) (vs:List T)
 | scr (ns:List Int)
 | gone
 deriving Inhabited
inductive Md where
 | s | d | o (m:Md)
 deriving DecidableEq,Inhabited
noncomputable def Md.kid:Md->Md
 | .s=>.s | .d=>.d | .o m=>m
noncomputable def Md.up:Md->Md
 | .d=>.d | m=>.o m
noncomputable def Md.meet:Md->Md->Md
 | .s,_=>.s | .d,m=>m | .o _,.s=>.s | .o a,.d=>.o a | .o a,.o b=>.o (a.meet b)
noncomputable def Md.le:Md->Md->Bool
 | .s,_=>true
 | .o a,.o b=>a.le b
 | .o _,.d=>true
 | .d,.d=>true
 | _,_=>false
noncomputable abbrev W:=Md×T
noncomputable abbrev Env:=List (Option W)
noncomputable def LIM:Nat:=16777215
noncomputable def T.leaf:T->Bool
 | .non | .bl _ | .int _ | .str _ | .scr _=>true
 | _=>false
noncomputable def T.isG:T->Bool
 | .gone=>true
 | .dct _ _=>true
 | _=>false
noncomputable def T.isN:T->Bool
 | .non=>true
 | _=>false
noncomputable def leaves (ts:List T):Bool:=ts.all T.leaf
inductive Op where
 | add | sub | mul | fdiv | mod | pow | neg | eq | ne | lt | le | gt | ge | is | isnot | isin | notin | ix | sl | sl1 | sl2 | sl3
 | len | isI (cs:List String) | max1 | min1 | count | fdivN | modN | intS | apd | mulS | listS | list | tuple | sum | all | any | max | min | int | str | rng | sorted | join | split | abs | dict | get | lzip | isB | isnB | lower | inS | ninS | inX | ninX | leS | catT | dnew | sortedD | sortedS | lenSet | countS | repr
 deriving DecidableEq,Inhabited
inductive Ik where
 | seq | rng | enm | zip | sq2 | zip3 | chr | enmT
 deriving DecidableEq,Inhabited
inductive E where
 | var (i:Nat) | mv (i:Nat) | io (i:Nat) | cst (t:T) | glb (x:Str) (t:T)
 | tup (es:List E) | lst (h:Bool) (es:List E) | op (o:Op) (h:Bool) (es:List E) | wk (m:Md) (e:E)
 | and (a b:E) | or (a b:E) | not (a:E) | ifx (c a b:E) | chain (o p:Op) (a b c:E)
 | call (f:Nat) (es:List E) | comp (h:Bool) (k:Ik) (src:List E) (tg:List Nat) (cnd:Option E) (elt:E)
 | pop (i:Nat) (es:List E) | lenV (i:Nat)
 | tupA (es:List E) | qx (vs ls:List Nat) (e:E) | mvP (i:Nat) (p:List Nat)
 | callT (tab:List (Str×Nat)) (k:E) (es:List E) | inT (neg:Bool) (ks:List Str) (e:E) | ixT (tab:List (Str×T)) (e:E) | getT (tab:List (Str×T)) (e:E)
 deriving Inhabited
inductive X where
 | q (vs ls:List Nat) | l (vs:List Nat)
 deriving Inhabited
inductive S where
 | asg (x:X) (i:Nat) (e:E) | asgT (x:X) (is:List Nat) (e:E) | setI (x:X) (i:Nat) (k e:E) | setK (x:X) (i:Nat) (k e:E)
 | exp (x:X) (e:E) | app (x:X) (i:Nat) (e:E) | ext (x:X) (i:Nat) (e:E)
 | ret (vs:List Nat) (e:E) | retN | ite (x:X) (c:E) (a b:List S)
 | forS (vs ls:List Nat) (k:Ik) (src:List E) (tg:List Nat) (body:List S) | forU (k:Ik) (src:List E) (tg:List Nat) (body:List S) | whl (x:X) (c:E) (body:List S)
 | brk | pas | stop | tri (body:List S)
 deriving Inhabited
structure Fn where
 ps:Nat
 ns:Nat
 io:List Nat
 body:List S
inductive Res (α:Type) where
 | ok (a:α) | ex (c:Str) (x:List T) | no
noncomputable def Res.bind {α β:Type}:Res α->(α->Res β)->Res β
 | .ok a,f=>f a
 | .ex c x,_=>.ex c x
 | .no,_=>.no
noncomputable def ofO {α:Type}:Option α->Res α
 | some a=>.ok a
 | none=>.no
inductive Fl where
 | nx (η:Env) | rt (w:W) (η:Env) | bk (η:Env) | ex (c:Str) (x:List T) (η:Env) | no
noncomputable def truth:T->Option Bool
 | .non=>some false | .bl b=>some b | .int i=>some (i != 0) | .str x=>some (x.cps.size != 0) | .tup ts=>some (!ts.isEmpty) | .lst ts=>some (!ts.isEmpty) | .dct _ _=>none | .ins ..=>none | .scr ns=>some (!ns.isEmpty) | .gone=>none
noncomputable def b2i:Bool->Int
 | true=>1 | false=>0
mutual
noncomputable def eqT:T->T->Bool
 | .non,.non=>true
 | .bl a,.bl b=>a==b
 | .bl a,.int i=>b2i a==i
 | .int i,.bl a=>i==b2i a
 | .int i,.int j=>i==j
 | .str x,.str y=>x==y
 | .tup ts,.tup us=>eqTs ts us
 | .lst ts,.lst us=>eqTs ts us
 | _,_=>false
noncomputable def eqTs:List T->List T->Bool
 | [],[]=>true
 | t::ts,u::us=>eqT t u&&eqTs ts us
 | _,_=>false
end
mutual
noncomputable def dp:T->Nat
 | .tup ts=>dps ts+1
 | .lst ts=>dps ts+1
 | .scr _=>1000
 | .dct _ _=>1000
 | .ins _ _ _=>1000
 | .gone=>1000
 | _=>0
noncomputable def dps:List T->Nat
 | []=>0
 | t::ts=>max (dp t) (dps ts)
end
noncomputable def sOk (x:Str):Bool:=x.cps.all (· < 0x110000)&&decide (x.cps.size<=LIM)
noncomputable def ixN (n:Nat)(i:Int):Option Nat:=if 0<=i then (if i < n then some i.toNat else none) else if -(n:Int)<=i then some (i+n).toNat else none
noncomputable def atI {α:Type}(xs:List α)(i:Int):Option α:=(ixN xs.length i).bind fun j=>xs[j]?
noncomputable def sIx (n d:Nat):Option Int->Nat
 | none=>d
 | some i=>if i < 0 then (i+n).toNat else min i.toNat n
noncomputable def cut {α:Type}(xs:List α)(lo hi:Option Int):List α:=(xs.drop (sIx xs.length 0 lo)).take (sIx xs.length xs.length hi-sIx xs.length 0 lo)
noncomputable def T.ty:T->String
 | .non=>"NoneType" | .bl _=>"bool" | .int _=>"int" | .str _=>"str" | .tup _=>"tuple" | .lst _=>"list" | .dct ..=>"dict" | .ins ..=>"object" | .scr _=>"list" | .gone=>"gone"
noncomputable def isOne (c:String)(t:T):Bool:=t.ty==c || (t.ty=="bool"&&c=="int")
noncomputable def intsOf:List T->Option (List Int)
 | []=>some []
 | .int i::ts=>(intsOf ts).map (i::·)
 | _::_=>none
noncomputable def aS:List T->Option (List Bool)
 | []=>some []
 | .bl b::ts=>(aS ts).map (b::·)
 | _::_=>none
noncomputable def elems:W->Option (List T)
 | (_,.tup ts)=>some ts
 | (_,.lst ts)=>some ts
 | _=>none
noncomputable def flatT:T->Bool
 | .non | .bl _ | .int _ | .str _=>true
 | _=>false
noncomputable def kl:T->Bool
 | .str _=>true
 | _=>false
noncomputable def kZ:T->Bool
 | .non | .bl _ | .int _ | .str _ | .lst _ | .tup _=>true
 | _=>false
noncomputable def Ae (c:Nat):Nat:=if 65<=c/\c<=90 then c+32 else c
noncomputable def maxI:List Int->Int
 | []=>0
 | [n]=>n
 | n::ns=>max n (maxI ns)
noncomputable def Bt:List Int->Int
 | []=>0
 | [n]=>n
 | n::ns=>min n (Bt ns)
noncomputable def zZ (x:Int):List Int->List Int
 | []=>[x]
 | y::ys=>if x<=y then x::y::ys else y::zZ x ys
noncomputable def v5:List Int->List Int
 | []=>[]
 | x::xs=>zZ x (v5 xs)
noncomputable def strsOf:List T->Option (List Str)
 | []=>some []
 | .str x::ts=>(strsOf ts).map (x::·)
 | _::_=>none
noncomputable def addS (ks:List Str)(x:Str):List Str:=if ks.contains x then ks else ks++[x]
noncomputable def distS (l:List Str):List Str:=l.foldl addS []
noncomputable def ltS (x y:Str):Bool:=decide (x.cps.toList < y.cps.toList)
noncomputable def As (x:Str):List Str->List Str
 | []=>[x]
 | y::ys=>if ltS y x then y::As x ys else x::y::ys
noncomputable def iZ:List Str->List Str
 | []=>[]
 | x::xs=>As x (iZ xs)
noncomputable def spl (c:Nat):List Nat->List Nat->List (List Nat)
 | acc,[]=>[acc]
 | acc,x::xs=>if x=c then acc::spl c [] xs else spl c (acc++[x]) xs
noncomputable def AS (x:Str):List Str:=(spl 32 [] x.cps.toList).map fun l=>⟨l.toArray⟩
noncomputable def Az (l:List Nat):Nat:=l.foldl (fun a c=>a * 10+(c-48)) 0
noncomputable def yd (x:Str):Int:=match x.cps.toList with
 | 45::cs=>-((Az cs:Nat):Int)
 | cs=>((Az cs:Nat):Int)
noncomputable def Cv (i:Int):Str:=Str.ofString (toString i)
noncomputable def BK:List T->List T->List T
 | t::ts,u::us=>.tup [t,u]::BK ts us
 | _,_=>[]
noncomputable def newL (h:Bool)(m:Md)(ts:List T):Option W:=if h then (if leaves ts then some (.d,.lst ts) else none) else some (m.up,.lst ts)
noncomputable def fits (n:Nat):Bool:=decide (n<=LIM)
mutual
noncomputable def Af:T->a29
 | .bl b=>.bool b
 | .int i=>.int i
 | .str x=>.str x
 | .tup ts=>.tuple (qb ts)
 | .lst ts=>.list (qb ts)
 | _=>.none
noncomputable def qb:List T->List a29
 | []=>[]
 | t::ts=>Af t::qb ts
end
mutual
noncomputable def rOk:T->Bool
 | .non | .bl _=>true
 | .int i=>decide (i.natAbs < 10000000000000000000)
 | .str x=>decide ((a2U x).length<=100)&&sOk (a2U x)
 | .tup ts=>wq ts
 | .lst ts=>wq ts
 | _=>false
noncomputable def wq:List T->Bool
 | []=>true
 | t::ts=>rOk t&&wq ts
end
mutual
noncomputable def szR:T->Nat
 | .tup ts=>yo ts+4
 | .lst ts=>yo ts+4
 | _=>100
noncomputable def yo:List T->Nat
 | []=>0
 | t::ts=>szR t+2+yo ts
end
noncomputable def oSem:Op->Bool->List W->Option W
 | .add,h,[(m,a),(n,b)]=>match a,b with
  | .int i,.int j=>some (.d,.int (i+j))
  | .str x,.str y=>if fits (x.cps.size+y.cps.size) then some (.d,.str (x++y)) else none
  | .lst ts,.lst us=>if fits (ts.length+us.length) then newL h (m.kid.meet n.kid) (ts++us) else none
  | .tup ts,.tup us=>if fits (ts.length+us.length)&&!ts.isEmpty then some (.s,.tup (ts++us)) else none
  | _,_=>none
 | .sub,_,[(_,.int i),(_,.int j)]=>some (.d,.int (i-j))
 | .mul,h,[(m,a),(_,b)]=>match a,b with
  | .int i,.int j=>if (decide (i.natAbs < 18446744073709551616)) || (decide (j.natAbs < 18446744073709551616)) then some (.d,.int (i * j)) else none
  | .lst ts,.int k=>if decide (k.natAbs < 4611686018427387904)&&fits (ts.length * k.toNat) then newL h .s (a0i k.toNat ts).flatten else none
  | _,_=>none
 | .fdiv,_,[(_,.int i),(_,.int j)]=>if decide (0 < j)&&decide (j < 1073741824) then some (.d,.int (i / j)) else none
 | .mod,_,[(_,.int i),(_,.int j)]=>if decide (0 < j) then some (.d,.int (i % j)) else none
 | .pow,_,[(_,.int i),(_,.int j)]=>if decide (0<=j)&&decide (j<=1000000)&&decide (i.natAbs < 18446744073709551616) then some (.d,.int (i ^ j.toNat)) else none
 | .fdivN,_,[(_,.int i),(_,.int j)]=>if (j != 0)&&decide (j.natAbs < 18446744073709551616) then some (.d,.int (i.fdiv j)) else none
 | .modN,_,[(_,.int i),(_,.int j)]=>if j != 0 then some (.d,.int (i.fmod j)) else none
 | .neg,_,[(_,.int i)]=>some (.d,.int (-i))
 | .eq,_,[(_,a),(_,b)]=>if decide (dp a<=64)&&decide (dp b<=64) then some (.d,.bl (eqT a b)) else none
 | .ne,_,[(_,a),(_,b)]=>if decide (dp a<=64)&&decide (dp b<=64) then some (.d,.bl (!eqT a b)) else none
 | .lt,_,[(_,.int i),(_,.int j)]=>some (.d,.bl (decide (i < j)))
 | .le,_,[(_,.int i),(_,.int j)]=>some (.d,.bl (decide (i<=j)))
 | .gt,_,[(_,.int i),(_,.int j)]=>some (.d,.bl (decide (j < i)))
 | .ge,_,[(_,.int i),(_,.int j)]=>some (.d,.bl (decide (j<=i)))
 | .is,_,[(_,a),(_,.non)]=>if a.isG then none else some (.d,.bl a.isN)
 | .isnot,_,[(_,a),(_,.non)]=>if a.isG then none else some (.d,.bl (!a.isN))
 | .ix,_,[(m,a),(_,.int i)]=>match a with
  | .lst ts=>(atI ts i).map fun t=>(m.kid,t)
  | .tup ts=>(atI ts i).map fun t=>(m.kid,t)
  | .str x=>(atI x.cps.toList i).map fun c=>(.d,.str ⟨#[c]⟩)
  | .scr ns=>(atI ns i).map fun n=>(.d,.int n)
  | _=>none
 | .sl,h,[(m,.lst ts)]=>newL h m.kid ts
 | .sl1,h,[(m,.lst ts),(_,.int i)]=>newL h m.kid (cut ts (some i) none)
 | .sl2,h,[(m,.lst ts),(_,.int i)]=>newL h m.kid (cut ts none (some i))
 | .sl3,h,[(m,.lst ts),(_,.int i),(_,.int j)]=>newL h m.kid (cut ts (some i) (some j))
 | .sl2,_,[(_,.scr ns),(_,.int i)]=>some (.d,.lst ((cut ns none (some i)).map T.int))
 | .sl1,_,[(_,.scr ns),(_,.int i)]=>some (.d,.lst ((cut ns (some i) none).map T.int))
 | .sl,_,[(_,.scr ns)]=>some (.d,.lst (ns.map T.int))
 | .sl1,_,[(_,.tup ts),(_,.int i)]=>some (.s,.tup (cut ts (some i) none))
 | .sl2,_,[(_,.tup ts),(_,.int i)]=>some (.s,.tup (cut ts none (some i)))
 | .sl3,_,[(_,.tup ts),(_,.int i),(_,.int j)]=>some (.s,.tup (cut ts (some i) (some j)))
 | .len,_,[(_,a)]=>match a with
  | .lst ts=>some (.d,.int ts.length)
  | .tup ts=>some (.d,.int ts.length)
  | .str x=>some (.d,.int x.cps.size)
  | .scr ns=>some (.d,.int ns.length)
  | _=>none
 | .isI cs,_,[(_,a)]=>if a.isG then none else some (.d,.bl (cs.any fun c=>isOne c a))
 | .list,h,[(m,a)]=>match a with
  | .lst ts=>newL h m.kid ts
  | .tup ts=>newL h m.kid ts
  | .scr ns=>some (.d,.lst (ns.map T.int))
  | _=>none
 | .tuple,_,[(m,a)]=>match a with
  | .lst ts=>some (m.kid.up,.tup ts)
  | .tup ts=>some (m,.tup ts)
  | _=>none
 | .sum,_,[(_,.lst ts)]=>(intsOf ts).map fun ns=>(.d,.int ns.sum)
 | .all,_,[(_,.lst ts)]=>(aS ts).map fun bs=>(.d,.bl (bs.all id))
 | .any,_,[(_,.lst ts)]=>(aS ts).map fun bs=>(.d,.bl (bs.any id))
 | .max,_,[(_,.int i),(_,.int j)]=>some (.d,.int (if j > i then j else i))
 | .min,_,[(_,.int i),(_,.int j)]=>some (.d,.int (if j < i then j else i))
 | .rng,_,[(_,.int i),(_,.int j)]=>if decide (i.natAbs < 4611686018427387904)&&decide (j.natAbs < 4611686018427387904)&&fits (j-i).toNat then some (.d,.lst ((a0M (j-i).toNat).map fun (k:Nat)=>T.int (i+k))) else none
 | .isin,_,[(_,a),(n,b)]=>(elems (n,b)).bind fun ts=>if flatT a&&ts.all flatT then some (.d,.bl (ts.any fun t=>eqT t a)) else none
 | .notin,_,[(_,a),(n,b)]=>(elems (n,b)).bind fun ts=>if flatT a&&ts.all flatT then some (.d,.bl (!ts.any fun t=>eqT t a)) else none
 | .int,_,[(_,.int i)]=>some (.d,.int i)
 | .int,_,[(_,.bl b)]=>some (.d,.int (b2i b))
 | .abs,_,[(_,.int i)]=>some (.d,.int i.natAbs)
 | .max1,_,[(_,.lst ts)]=>(intsOf ts).bind fun ns=>if ns.isEmpty then none else some (.d,.int (maxI ns))
 | .min1,_,[(_,.lst ts)]=>(intsOf ts).bind fun ns=>if ns.isEmpty then none else some (.d,.int (Bt ns))
 | .sorted,_,[(_,.lst ts)]=>(intsOf ts).bind fun ns=>if decide (ns.length < 64) then some (.d,.lst ((v5 ns).map T.int)) else none
 | .str,_,[(_,.int i)]=>if decide (i.natAbs < 10000000000000000000) then some (.d,.str (Cv i)) else none
 | .intS,_,[(_,.str x)]=>if decide ((yd x).natAbs < 10000000000000000000)&&(Cv (yd x)==x) then some (.d,.int (yd x)) else none
 | .join,_,[(_,.str z),(_,.lst ts)]=>(strsOf ts).bind fun ss=>if sOk (Str.join z ss)&&decide ((ss.map fun s=>s.cps.size+z.cps.size).sum<=LIM) then some (.d,.str (Str.join z ss)) else none
 | .split,_,[(_,.str z),(_,.str y)]=>if (y==Str.ofString " ")&&decide (z.cps.size+2<=LIM)&&(AS z).all sOk then some (.d,.lst ((AS z).map T.str)) else none
 | .mulS,_,[(_,.str x),(_,.int k)]=>if decide (0<=k)&&decide (k<=100)&&decide (x.cps.size<=1000) then some (.d,.str ⟨(a0i k.toNat x.cps.toList).flatten.toArray⟩) else none
 | .listS,_,[(_,.str x)]=>some (.d,.lst (x.cps.toList.map fun c=>T.str ⟨#[c]⟩))
 | .apd,_,[(m,.lst ts),(_,_)]=>if m==.s then none else if decide (ts.length < LIM) then some (.d,.non) else none
 | .count,_,[(_,.lst ts),(_,.bl b)]=>(aS ts).map fun bs=>(.d,.int (bs.count b))
 | .lower,_,[(_,.str x)]=>if x.cps.toList.all (fun c=>decide (c < 128)) then some (.d,.str ⟨x.cps.map Ae⟩) else none
 | .inS,_,[(_,.str x),(_,.str y)]=>some (.d,.bl (!(a07 y x 0 y.length 1).isEmpty))
 | .ninS,_,[(_,.str x),(_,.str y)]=>some (.d,.bl (!(!(a07 y x 0 y.length 1).isEmpty)))
 | .inX,_,[(_,a),(_,.tup ts)]=>if ts.all kl&&kZ a then some (.d,.bl (ts.any fun t=>eqT t a)) else none
 | .ninX,_,[(_,a),(_,.tup ts)]=>if ts.all kl&&kZ a then some (.d,.bl (!ts.any fun t=>eqT t a)) else none
 | .catT,_,[(_,.tup ts),(_,.tup us)]=>if fits (ts.length+us.length) then some (.s,.tup (ts++us)) else none
 | .dnew,_,[]=>some (.d,.dct [] [])
 | .lenSet,_,[(_,.tup ts)]=>(strsOf ts).bind fun ss=>if decide (ss.length < 1000) then some (.d,.int (distS ss).length) else none
 | .countS,_,[(_,.lst ts),(_,.str x)]=>(strsOf ts).bind fun ss=>some (.d,.int (ss.count x))
 | .sortedS,_,[(_,.lst ts)]=>(strsOf ts).bind fun ss=>if decide (ss.length < 64) then some (.d,.lst ((iZ ss).map T.str)) else none
 | .sortedD,_,[(_,.dct ks _)]=>if decide (ks.length < 64) then some (.d,.lst ((iZ ks).map T.str)) else none
 | .repr,_,[(_,t)]=>if decide (dp t<=64)&&rOk t&&fits (szR t) then some (.d,.str (Af t).shown) else none
 | .leS,_,[(_,.str x),(_,.str y)]=>some (.d,.bl (!decide (y.cps.toList < x.cps.toList)))
 | .isB,_,[(_,.bl a),(_,.bl b)]=>some (.d,.bl (a==b))
 | .isnB,_,[(_,.bl a),(_,.bl b)]=>some (.d,.bl (!(a==b)))
 | .lzip,_,[(m,a),(n,b)]=>(elems (m,a)).bind fun ts=>(elems (n,b)).bind fun us=>some ((m.kid.meet n.kid).up.up,.lst (BK ts us))
 | _,_,_=>none
noncomputable def rd:Env->Nat->Option W
 | [],_=>none
 | o::_,0=>o
 | _::η,i+1=>rd η i
noncomputable def wr:Env->Nat->Option W->Env
 | [],_,_=>[]
 | _::η,0,w=>w::η
 | o::η,i+1,w=>o::wr η i w
noncomputable abbrev put (η:Env)(i:Nat)(w:W):Env:=wr η i (some w)
noncomputable abbrev del (η:Env)(i:Nat):Env:=wr η i none
noncomputable def look:W->Option W
 | (.s,t)=>some (.s,t)
 | (_,t)=>if t.leaf=true then some (.d,t) else none
noncomputable def toS:Option W->Option W
 | some (_,t)=>some (.s,t)
 | none=>none
noncomputable def share:List Nat->Env->Env
 | [],η=>η
 | i::is,η=>share is (wr η i (toS (rd η i)))
noncomputable def lfO:Option W->Option W
 | some (_,t)=>if t.leaf=true then some (.d,t) else none
 | none=>none
noncomputable def eT:Env->Env
 | []=>[]
 | _::η=>none::eT η
noncomputable def jw:List Nat->Env->Env->Env
 | [],_,η=>η
 | i::is,η0,η=>jw is η0 (wr η i (toS (rd η0 i)))
noncomputable def fI:List Nat->Env->Env->Env
 | [],_,η=>η
 | i::is,η0,η=>fI is η0 (wr η i (lfO (rd η0 i)))
noncomputable def pick (vs ls:List Nat)(η:Env):Env:=fI ls η (jw vs η (eT η))
noncomputable def after (m:Md)(vs:List Nat)(η:Env):Env:=match m with
 | .d=>η
 | _=>share vs η
noncomputable def a9:List Nat->List W->Env->Option Env
 | [],[],η=>some η
 | i::is,w::ws,η=>a9 is ws (put η i w)
 | _,_,_=>none
noncomputable def cR (m:Md):Nat->List T->List (List W)
 | _,[]=>[]
 | i,t::ts=>[(.d,.int i),(m,t)]::cR m (i+1) ts
noncomputable def Bp (m n:Md):List T->List T->List (List W)
 | t::ts,u::us=>[(m,t),(n,u)]::Bp m n ts us
 | _,_=>[]
noncomputable def rz:List T->Option (List (List W))
 | []=>some []
 | .tup [x,y]::ts=>(rz ts).map ([(.s,x),(.s,y)]::·)
 | _::_=>none
noncomputable def oz:List T->List T->List T->List (List W)
 | t::ts,u::us,v::vs=>[(.s,t),(.s,u),(.s,v)]::oz ts us vs
 | _,_,_=>[]
noncomputable def bC:Ik->List W->Option (List (List W))
 | .seq,[(_,.lst ts)]=>some (ts.map fun t=>[(.s,t)])
 | .seq,[(_,.tup ts)]=>some (ts.map fun t=>[(.s,t)])
 | .seq,[(_,.scr ns)]=>some (ns.map fun n=>[(.d,.int n)])
 | .rng,[(_,.int n)]=>if decide (n.natAbs < 4611686018427387904)&&fits n.toNat then some ((a0M n.toNat).map fun (k:Nat)=>[(.d,.int k)]) else none
 | .rng,[(_,.int i),(_,.int j)]=>if decide (i.natAbs < 4611686018427387904)&&decide (j.natAbs < 4611686018427387904)&&fits (j-i).toNat then some ((a0M (j-i).toNat).map fun (k:Nat)=>[(.d,.int (i+k))]) else none
 | .enm,[(_,.lst ts)]=>some (cR .s 0 ts)
 | .enmT,[(_,.tup ts)]=>some (cR .s 0 ts)
 | .zip,[(m,a),(n,b)]=>(elems (m,a)).bind fun ts=>(elems (n,b)).bind fun us=>some (Bp .s .s ts us)
 | .sq2,[(_,.lst ts)]=>rz ts
 | .zip3,[(_,.lst ts),(_,.lst us),(_,.lst vs)]=>some (oz ts us vs)
 | .chr,[(_,.str x)]=>some (x.cps.toList.map fun c=>[(.d,.str ⟨#[c]⟩)])
 | _,_=>none
noncomputable abbrev Call:=Nat->List W->Res (W×List W)
noncomputable abbrev RE:=Res (W×Env)
noncomputable def lf (m:Md)(t:T):Md:=if t.leaf=true then .d else m
noncomputable def eJ:List W->Md
 | []=>.d
 | w::ws=>(lf w.1 w.2).meet (eJ ws)
noncomputable def trees:List W->List T
 | []=>[]
 | w::ws=>w.2::trees ws
noncomputable def aj:List Nat->Env->Env
 | [],η=>η
 | i::is,η=>aj is (del η i)
noncomputable def ios:List E->List Nat
 | []=>[]
 | .io i::es=>i::ios es
 | _::es=>ios es
noncomputable def putAll:List Nat->List W->Env->Env
 | i::is,w::ws,η=>putAll is ws (put η i w)
 | _,_,η=>η
noncomputable def gx:W->List W->Option (W×W)
 | (.s,_),_=>none
 | (m,.lst ts),[]=>(ts.getLast?).map fun t=>((m.kid,t),(m,.lst ts.dropLast))
 | (m,.lst (t::ts)),[(_,.int 0)]=>some ((m.kid,t),(m,.lst ts))
 | _,_=>none
noncomputable def fv:W->W->Option W
 | (.s,_),_=>none
 | (m,.lst ts),(n,t)=>if ts.length < LIM then some ((m.kid.meet (lf n t)).up,.lst (ts++[t])) else none
 | _,_=>none
noncomputable def wm:W->W->Option W
 | (.s,_),_=>none
 | (m,.lst ts),(n,.lst us)=>if ts.length+us.length<=LIM then some ((m.kid.meet n.kid).up,.lst (ts++us)) else none
 | _,_=>none
noncomputable def r8 (k:Str)(t:T):List Str->List T->List Str×List T
 | [],_=>([k],[t])
 | y::ys,v::vs=>if y=k then (y::ys,t::vs) else ((y::(r8 k t ys vs).1),(v::(r8 k t ys vs).2))
 | y::ys,[]=>(y::ys,[])
noncomputable def BD:W->W->W->Option W
 | (.s,_),_,_=>none
 | (m,.dct ks vs),(_,.str k),(_,t)=>if decide (ks.length < LIM)&&flatT t then some (m,.dct (r8 k t ks vs).1 (r8 k t ks vs).2) else none
 | _,_,_=>none
noncomputable def ir:W->W->W->Option W
 | (.s,_),_,_=>none
 | (m,.lst ts),(_,.int j),(n,t)=>(ixN ts.length j).map fun k=>((m.kid.meet (lf n t)).up,.lst (ts.set k t))
 | _,_,_=>none
noncomputable def eB:Option W->Res Unit
 | some (_,.lst _)=>.ok ()
 | _=>.no
noncomputable def xB:W->Option (List W)
 | (m,.tup ts)=>some (ts.map fun t=>(m.kid,t))
 | _=>none
noncomputable def ret {α:Type}(η:Env)(o:Option α):Res (α×Env):=match o with
 | some a=>.ok (a,η)
 | none=>.no
noncomputable def onB {α:Type}:T->(Env->Res α)->(Env->Res α)->Env->Res α
 | .bl true,f,_,η=>f η
 | .bl false,_,g,η=>g η
 | _,_,_,_=>.no
noncomputable def onT {α:Type}(f g:Env->Res α)(p:W×Env):Res α:=match truth p.1.2 with
 | some true=>f p.2
 | some false=>g p.2
 | none=>.no
noncomputable def okW {α:Type}(a:α)(η:Env):Res (α×Env):=.ok (a,η)
noncomputable def jR (p:List W×Env):RE:=.ok (((eJ p.1).up,.tup (trees p.1)),p.2)
noncomputable def nG (h:Bool)(p:List W×Env):RE:=.ok ((if h then (eJ p.1).up else .o .s,.lst (trees p.1)),p.2)
noncomputable def kWk (m:Md)(p:W×Env):RE:=ret p.2 (if m.le p.1.1 then some (m,p.1.2) else none)
noncomputable def kOp (o:Op)(h:Bool)(p:List W×Env):RE:=ret p.2 (oSem o h p.1)
noncomputable def mF (f:Env->RE)(p:W×Env):RE:=onT f (okW p.1) p
noncomputable def kOr (f:Env->RE)(p:W×Env):RE:=onT (okW p.1) f p
noncomputable def ph (p:W×Env):RE:=ret p.2 ((truth p.1.2).map fun b=>(.d,.bl (!b)))
noncomputable def kC3 (q:Op)(y:W)(z:W×Env):RE:=ret z.2 (oSem q false [y,z.1])
noncomputable def then' {α β:Type}(f:Env->Res (α×Env))(k:α×Env->Res β)(η:Env):Res β:=(f η).bind k
noncomputable def kC2 (o q:Op)(fc:Env->RE)(x:W)(y:W×Env):RE:=(ret y.2 (oSem o false [x,y.1])).bind fun k=>onB k.1.2 (then' fc (kC3 q y.1)) (okW (.d,.bl false)) k.2
noncomputable def kC1 (o q:Op)(fb fc:Env->RE)(x:W×Env):RE:=(fb x.2).bind (kC2 o q fc x.1)
noncomputable def kBack (is:List Nat)(η:Env)(r:W×List W):RE:=.ok (r.1,putAll is r.2 η)
noncomputable def kCall (C:Call)(f:Nat)(is:List Nat)(p:List W×Env):RE:=(C f p.1).bind (kBack is p.2)
noncomputable def ee (p:W×Env):Res (Option W×Env):=.ok (some p.1,p.2)
noncomputable def bZ (f:Env->RE)(η:Env):Res (Option W×Env):=(f η).bind ee
noncomputable def iN (c f:Env->RE)(η:Env):Res (Option W×Env):=(c η).bind (onT (bZ f) (okW none))
noncomputable def aC (tg:List Nat)(f:Env->Res (Option W×Env)):List (List W)->Env->List W->Res (List W×Env)
 | [],η,acc=>.ok (acc,η)
 | ws::r,η,acc=>(ofO (a9 tg ws η)).bind fun η1=>(f η1).bind fun p=>aC tg f r (aj tg p.2) (acc++p.1.toList)
noncomputable def okD (w:W):Bool:=w.1==.d || w.2.leaf
noncomputable def ja (h:Bool)(q:List W×Env):RE:=ret q.2 (if h then (if q.1.all okD then some (.d,.lst (trees q.1)) else none) else some (.o .s,.lst (trees q.1)))
noncomputable def dD (h:Bool)(k:Ik)(tg:List Nat)(f:Env->Res (Option W×Env))(p:List W×Env):RE:=(ret (aj tg p.2) (bC k p.1)).bind fun t=>(aC tg f t.1 t.2 []).bind (ja h)
noncomputable def iX (f:Env->Res (List W×Env))(η:Env)(k:List W×Env->RE)(_:Unit):RE:=(f η).bind k
noncomputable def lI (i:Nat)(p:List W×Env):RE:=(ofO ((rd p.2 i).bind fun w=>gx w p.1)).bind fun r=>.ok (r.1,put p.2 i r.2)
noncomputable def k9 (w:W)(q:List W×Env):Res (List W×Env):=.ok (w::q.1,q.2)
noncomputable def bb (f:Env->Res (List W×Env))(p:W×Env):Res (List W×Env):=(f p.2).bind (k9 p.1)
noncomputable def qg:List Nat->Md->T->Option (W×T)
 | [],m,t=>some ((m,t),.gone)
 | j::p,m,.lst ts=>(ts[j]?).bind fun t=>(qg p m.kid t).map fun r=>(r.1,.lst (ts.set j r.2))
 | j::p,m,.tup ts=>(ts[j]?).bind fun t=>(qg p m.kid t).map fun r=>(r.1,.tup (ts.set j r.2))
 | _::_,_,_=>none
noncomputable def vB (p:List Nat)(w:W):Option (W×W):=(qg p w.1 w.2).map fun r=>(r.1,(w.1,r.2))
noncomputable def Bv (i:Nat)(η:Env)(r:W×W):RE:=.ok (r.1,put η i r.2)
noncomputable def kTab {α:Type}(tab:List (Str×α))(f:α->Env->RE)(p:W×Env):RE:=match p.1.2 with
 | .str x=>match tab.lookup x with
  | some a=>f a p.2
  | none=>.no
 | _=>.no
noncomputable def kCT (C:Call)(fa:Env->Res (List W×Env))(is:List Nat)(j:Nat)(η:Env):RE:=(fa η).bind (kCall C j is)
noncomputable def kIn (neg:Bool)(ks:List Str)(p:W×Env):RE:=match p.1.2 with
 | .str x=>.ok ((.d,.bl (ks.contains x != neg)),p.2)
 | _=>.no
noncomputable def okS (t:T)(η:Env):RE:=.ok ((.s,t),η)
noncomputable def kGet (tab:List (Str×T))(p:W×Env):RE:=match p.1.2 with
 | .str x=>.ok ((.s,(tab.lookup x).getD .non),p.2)
 | _=>.no
noncomputable def kX (vs:List Nat)(η:Env)(p:W×Env):RE:=.ok ((lf p.1.1 p.1.2,p.1.2),after (lf p.1.1 p.1.2) vs η)
noncomputable def kIo (i:Nat)(p:List W×Env):Res (List W×Env):=(ofO (rd p.2 i)).bind fun w=>.ok (w::p.1,del p.2 i)
section
variable (C:Call)
mutual
noncomputable def evE:E->Env->RE
 | .var i,η=>ret η ((rd η i).bind look)
 | .mv i,η=>ret (del η i) (rd η i)
 | .io i,η=>ret (del η i) (rd η i)
 | .cst t,η=>.ok ((.d,t),η)
 | .glb _ t,η=>.ok ((.s,t),η)
 | .tup es,η=>(evL es η).bind jR
 | .lst h es,η=>(evL es η).bind (nG h)
 | .wk m e,η=>(evE e η).bind (kWk m)
 | .op o h es,η=>(evL es η).bind (kOp o h)
 | .and a b,η=>(evE a η).bind (mF (evE b))
 | .or a b,η=>(evE a η).bind (kOr (evE b))
 | .not a,η=>(evE a η).bind ph
 | .ifx c a b,η=>(evE c η).bind (onT (evE a) (evE b))
 | .chain o q a b c,η=>(evE a η).bind (kC1 o q (evE b) (evE c))
 | .call f es,η=>(evA es η).bind (kCall C f (ios es))
 | .comp h k src tg none elt,η=>(evL src η).bind (dD h k tg (bZ (evE elt)))
 | .comp h k src tg (some c) elt,η=>(evL src η).bind (dD h k tg (iN (evE c) (evE elt)))
 | .pop i es,η=>(eB (rd η i)).bind (iX (evL es) η (lI i))
 | .lenV i,η=>ret η ((rd η i).bind fun w=>oSem .len false [w])
 | .tupA es,η=>(evA es η).bind jR
 | .qx vs ls e,η=>(evE e (pick vs ls η)).bind (kX vs η)
 | .mvP i p,η=>(ofO ((rd η i).bind (vB p))).bind (Bv i η)
 | .callT tab k es,η=>(evE k η).bind (kTab tab (kCT C (evA es) (ios es)))
 | .inT neg ks e,η=>(evE e η).bind (kIn neg ks)
 | .ixT tab e,η=>(evE e η).bind (kTab tab okS)
 | .getT tab e,η=>(evE e η).bind (kGet tab)
noncomputable def evL:List E->Env->Res (List W×Env)
 | [],η=>.ok ([],η)
 | e::es,η=>(evE e η).bind (bb (evL es))
noncomputable def evA:List E->Env->Res (List W×Env)
 | [],η=>.ok ([],η)
 | .io i::es,η=>(evA es η).bind (kIo i)
 | e::es,η=>(evE e η).bind (bb (evA es))
end
noncomputable def kT (η:Env)(p:W×Env):Res (Bool×Env):=ret η (truth p.1.2)
noncomputable def kT2 (p:W×Env):Res (Bool×Env):=ret p.2 (truth p.1.2)
noncomputable def evX:X->E->Env->RE
 | .q vs ls,e,η=>(evE C e (pick vs ls η)).bind (kX vs η)
 | .l vs,e,η=>evE C e (share vs η)
noncomputable def evT:X->E->Env->Res (Bool×Env)
 | .q vs ls,e,η=>(evE C e (pick vs ls η)).bind (kT η)
 | .l vs,e,η=>(evE C e (share vs η)).bind kT2
noncomputable def Fl.of {α:Type}(η:Env):Res α->(α->Fl)->Fl
 | .ok a,f=>f a
 | .ex c x,_=>.ex c x η
 | .no,_=>.no
noncomputable def Fl.seq:Fl->(Env->Fl)->Fl
 | .nx η,f=>f η
 | z,_=>z
noncomputable def Fl.turn:Fl->(Env->Fl)->Fl
 | .nx η,f=>f η
 | .bk η,_=>.nx η
 | z,_=>z
noncomputable def onF:Bool->(Env->Fl)->(Env->Fl)->Env->Fl
 | true,f,_,η=>f η
 | false,_,g,η=>g η
noncomputable def dk (tg:List Nat)(f:Env->Fl):List (List W)->Env->Fl
 | [],η=>.nx η
 | ws::r,η=>Fl.of η (ofO (a9 tg ws η)) fun η1=>Fl.turn (f η1) (dk tg f r)
noncomputable def kIf (f g:Env->Fl)(p:Bool×Env):Fl:=onF p.1 f g p.2
noncomputable def qm (f:Env->Fl)(g:Env->Fl)(η:Env):Fl:=Fl.turn (f η) g
noncomputable def fN (c:Env->Res (Bool×Env))(f:Env->Fl):Nat->Env->Fl
 | 0,_=>.no
 | n+1,η=>Fl.of η (c η) (kIf (qm f (fN c f n)) .nx)
noncomputable def ji:Nat:=1000000000000
noncomputable def nxO (η:Env):Option Env->Fl
 | some η=>.nx η
 | none=>.no
noncomputable def tV (i:Nat)(p:W×Env):Fl:=.nx (put p.2 i p.1)
noncomputable def ko (is:List Nat)(p:W×Env):Fl:=nxO p.2 ((xB p.1).bind fun ws=>a9 is ws p.2)
noncomputable def pD (i:Nat)(p:W×Env):Fl:=nxO p.2 (((rd p.2 i).bind fun w=>fv w p.1).map fun w=>put p.2 i w)
noncomputable def wW (i:Nat)(p:W×Env):Fl:=nxO p.2 (((rd p.2 i).bind fun w=>wm w p.1).map fun w=>put p.2 i w)
noncomputable def vY (i:Nat)(x:W)(q:W×Env):Fl:=nxO q.2 (((rd q.2 i).bind fun w=>ir w q.1 x).map fun w=>put q.2 i w)
noncomputable def oK (i:Nat)(x:W)(q:W×Env):Fl:=nxO q.2 (((rd q.2 i).bind fun w=>BD w q.1 x).map fun w=>put q.2 i w)
noncomputable def nr (i:Nat)(f:Env->RE)(η:Env)(p:W×Env):Fl:=Fl.of η (f p.2) (oK i p.1)
noncomputable def x4 (i:Nat)(f:Env->RE)(η:Env)(p:W×Env):Fl:=Fl.of η (f p.2) (vY i p.1)
noncomputable def lT (f:Env->RE)(η:Env)(k:W×Env->Fl)(_:Unit):Fl:=Fl.of η (f η) k
noncomputable def kNx (p:W×Env):Fl:=.nx p.2
noncomputable def kRt (p:W×Env):Fl:=.rt p.1 p.2
noncomputable def kD (tg:List Nat)(f:Env->Fl)(t:List (List W)×Env):Fl:=dk tg f t.1 t.2
noncomputable def uo (vs:List Nat)(k:Ik)(tg:List Nat)(f:Env->Fl)(η:Env)(p:List W×Env):Fl:=Fl.of η (ret (share vs η) (bC k p.1)) (kD tg f)
noncomputable def Bh (k:Ik)(tg:List Nat)(f:Env->Fl)(p:List W×Env):Fl:=Fl.of p.2 (ret p.2 (bC k p.1)) (kD tg f)
mutual
noncomputable def evS:S->Env->Fl
 | .asg x i e,η=>Fl.of η (evX C x e η) (tV i)
 | .asgT x is e,η=>Fl.of η (evX C x e η) (ko is)
 | .setI x i k e,η=>Fl.of η (evX C x e η) (x4 i (evX C x k) η)
 | .setK x i k e,η=>Fl.of η (evX C x e η) (nr i (evX C x k) η)
 | .exp x e,η=>Fl.of η (evX C x e η) kNx
 | .app x i e,η=>Fl.of η (eB (rd η i)) (lT (evX C x e) η (pD i))
 | .ext x i e,η=>Fl.of η (eB (rd η i)) (lT (evX C x e) η (wW i))
 | .ret vs e,η=>Fl.of η (evE C e (share vs η)) kRt
 | .retN,η=>.rt (.d,.non) η
 | .ite x c a b,η=>Fl.of η (evT C x c η) (kIf (evSs a) (evSs b))
 | .forS vs ls k src tg body,η=>Fl.of η (evL C src (pick vs ls η)) (uo vs k tg (evSs body) η)
 | .forU k src tg body,η=>Fl.of η (evL C src η) (Bh k tg (evSs body))
 | .whl x c body,η=>fN (evT C x c) (evSs body) ji η
 | .brk,η=>.bk η
 | .pas,η=>.nx η
 | .stop,_=>.no
 | .tri body,η=>evSs body η
noncomputable def evSs:List S->Env->Fl
 | [],η=>.nx η
 | s::r,η=>Fl.seq (evS s η) (evSs r)
end
end
noncomputable def backs:List Nat->Env->Option (List W)
 | [],_=>some []
 | i::is,η=>(rd η i).bind fun w=>(backs is η).bind fun ws=>some (w::ws)
noncomputable def qq (w:W)(b:List W):Res (W×List W):=.ok (w,b)
noncomputable def Fl.out (io:List Nat):Fl->Res (W×List W)
 | .nx η=>(ofO (backs io η)).bind (qq (.d,.non))
 | .rt w η=>(ofO (backs io η)).bind (qq w)
 | .ex c x _=>.ex c x
 | _=>.no
noncomputable def runF (C:Call)(f:Fn)(ws:List W):Res (W×List W) :=
 if ws.length=f.ps then Fl.out f.io (evSs C f.body (ws.map some++a0i f.ns none)) else .no
noncomputable abbrev Dx:=List Fn
noncomputable def xa (n:Nat):List W->Res (W×List W)
 | [(m,t)]=>if (lf m t==.d&&(decide (dp t<=n)&&decide (dp t<=64)))=true then .ok ((.d,.non),[]) else .no
 | _=>.no
noncomputable def vH:List Nat->List T->List T
 | [],_=>[]
 | n::ns,ts=>.lst (ts.take n)::vH ns (ts.drop n)
noncomputable def oW:List T->Option (List Nat)
 | []=>some []
 | .int (.ofNat n)::ts=>(oW ts).map (n::·)
 | _::_=>none
noncomputable def AV:List W->Res (W×List W)
 | [(_,.lst ls),(m,.lst ts)]=>(ofO (oW ls)).bind fun ns=>.ok ((m.kid.up.up,.lst (vH ns ts)),[])
 | _=>.no
noncomputable def callR (P:Dx)(s r:Nat):Nat->Call
 | 0=>fun _ _=>.no
 | n+1=>fun f ws=>if f=s then xa n ws else if f=r then AV ws else (ofO P[f]?).bind fun d=>runF (callR P s r n) d ws
noncomputable abbrev zf:Fn:={ ps:=0,ns:=0,io:=[],body:=[.stop] }
theorem zf_no (C:Call)(ws:List W):runF C zf ws=.no:=by cases ws<;>rfl
theorem yc (C:Call)(i:Nat)(η:Env):evE C (.var i) η=ret η ((rd η i).bind look):=rfl
theorem xn (C:Call)(i:Nat)(η:Env):evE C (.mv i) η=ret (del η i) (rd η i):=rfl
theorem zG (C:Call)(i:Nat)(η:Env):evE C (.io i) η=ret (del η i) (rd η i):=rfl
theorem zT (C:Call)(t:T)(η:Env):evE C (.cst t) η=.ok ((.d,t),η):=rfl
theorem zk (C:Call)(es:List E)(η:Env):evE C (.tup es) η=(evL C es η).bind jR:=rfl
theorem xm (C:Call)(h:Bool)(es:List E)(η:Env):evE C (.lst h es) η=(evL C es η).bind (nG h):=rfl
theorem xf (C:Call)(o:Op)(h:Bool)(es:List E)(η:Env):evE C (.op o h es) η=(evL C es η).bind (kOp o h):=rfl
theorem sC (C:Call)(a:E)(b:E)(η:Env):evE C (.and a b) η=(evE C a η).bind (mF (evE C b)):=rfl
theorem uL (C:Call)(a:E)(b:E)(η:Env):evE C (.or a b) η=(evE C a η).bind (kOr (evE C b)):=rfl
theorem uj (C:Call)(a:E)(η:Env):evE C (.not a) η=(evE C a η).bind ph:=rfl
theorem sv (C:Call)(c:E)(a:E)(b:E)(η:Env):evE C (.ifx c a b) η=(evE C c η).bind (onT (evE C a) (evE C b)):=rfl
theorem uh (C:Call)(o:Op)(q:Op)(a:E)(b:E)(c:E)(η:Env):evE C (.chain o q a b c) η=(evE C a η).bind (kC1 o q (evE C b) (evE C c)):=rfl
theorem sL (C:Call)(f:Nat)(es:List E)(η:Env):evE C (.call f es) η=(evA C es η).bind (kCall C f (ios es)):=rfl
theorem tK (C:Call)(h:Bool)(k:Ik)(src:List E)(tg:List Nat)(elt:E)(η:Env):evE C (.comp h k src tg none elt) η=(evL C src η).bind (dD h k tg (bZ (evE C elt))):=rfl
theorem uC (C:Call)(h:Bool)(k:Ik)(src:List E)(tg:List Nat)(c:E)(elt:E)(η:Env):evE C (.comp h k src tg (some c) elt) η=(evL C src η).bind (dD h k tg (iN (evE C c) (evE C elt))):=rfl
theorem uE (C:Call)(i:Nat)(es:List E)(η:Env):evE C (.pop i es) η=(eB (rd η i)).bind (iX (evL C es) η (lI i)):=rfl
theorem mN (C:Call)(neg:Bool)(ks:List Str)(e:E)(η:Env):evE C (.inT neg ks e) η=(evE C e η).bind (kIn neg ks):=rfl
theorem l9 (C:Call)(tab:List (Str×T))(e:E)(η:Env):evE C (.ixT tab e) η=(evE C e η).bind (kTab tab okS):=rfl
theorem ka (C:Call)(tab:List (Str×T))(e:E)(η:Env):evE C (.getT tab e) η=(evE C e η).bind (kGet tab):=rfl
theorem ml (C:Call)(neg:Bool)(ks:List Str)(e:E)(es:List E)(η:Env):evA C (.inT neg ks e::es) η=(evE C (.inT neg ks e) η).bind (bb (evA C es)):=rfl
theorem lC (C:Call)(tab:List (Str×T))(e:E)(es:List E)(η:Env):evA C (.ixT tab e::es) η=(evE C (.ixT tab e) η).bind (bb (evA C es)):=rfl
theorem kf (C:Call)(tab:List (Str×T))(e:E)(es:List E)(η:Env):evA C (.getT tab e::es) η=(evE C (.getT tab e) η).bind (bb (evA C es)):=rfl
theorem wB {α:Type}(tab:List (Str×α))(f:α->Env->RE)(m:Md)(x:Str)(η:Env):kTab tab f ((m,.str x),η)=(match tab.lookup x with | some a=>f a η | none=>.no):=rfl
theorem zD (h:Bool)(m n:Md)(ts:List T)(i:Int):oSem .sl2 h [(m,.lst ts),(n,.int i)]=newL h m.kid (cut ts none (some i)):=rfl
theorem pE (h:Bool)(m n:Md)(ts:List T)(i:Int):oSem .sl1 h [(m,.lst ts),(n,.int i)]=newL h m.kid (cut ts (some i) none):=rfl
theorem kg (h:Bool)(m n:Md)(ts:List T)(k:Int):oSem .mul h [(m,.lst ts),(n,.int k)]=if decide (k.natAbs < 4611686018427387904)&&fits (ts.length * k.toNat) then newL h .s (a0i k.toNat ts).flatten else none:=rfl
theorem pU (h:Bool)(m n:Md)(i j:Int):oSem .max h [(m,.int i),(n,.int j)]=some (.d,.int (if j > i then j else i)):=rfl
theorem Bs (m:Md)(ts:List T):bC .enm [(m,.lst ts)]=some (cR .s 0 ts):=rfl
noncomputable def lkM:Md->Md
 | .s=>.s | _=>.d
theorem Dk:lkM .s=.s:=rfl
theorem D1:lkM .d=.d:=rfl
theorem En (m:Md):lkM (.o m)=.d:=rfl
theorem C0 (m:Md)(i:Int):look (m,.int i)=some (lkM m,.int i):=by cases m<;>rfl
theorem CY (m:Md)(b:Bool):look (m,.bl b)=some (lkM m,.bl b):=by cases m<;>rfl
theorem C2 (m:Md)(x:Str):look (m,.str x)=some (lkM m,.str x):=by cases m<;>rfl
theorem AL (m:Md):look (m,.non)=some (lkM m,.non):=by cases m<;>rfl
theorem xN (m n k:Md)(ts us vs:List T):bC .zip3 [(m,.lst ts),(n,.lst us),(k,.lst vs)]=some (oz ts us vs):=rfl
theorem C8 (neg:Bool)(ks:List Str)(m:Md)(x:Str)(η:Env):kIn neg ks ((m,.str x),η)=.ok ((.d,.bl (ks.contains x != neg)),η):=rfl
theorem CI (tab:List (Str×T))(m:Md)(x:Str)(η:Env):kGet tab ((m,.str x),η)=.ok ((.s,(tab.lookup x).getD .non),η):=rfl
theorem j6 (C:Call)(i:Nat)(η:Env):evE C (.lenV i) η=ret η ((rd η i).bind fun w=>oSem .len false [w]):=rfl
theorem jN (C:Call)(i:Nat)(es:List E)(η:Env):evA C (.lenV i::es) η=(evE C (.lenV i) η).bind (bb (evA C es)):=rfl
theorem yY (C:Call)(η:Env):evA C [] η=.ok ([],η):=rfl
theorem yO (C:Call)(i:Nat)(es:List E)(η:Env):evA C (.io i::es) η=(evA C es η).bind (kIo i):=rfl
theorem l6 (C:Call)(i:Nat)(es:List E)(η:Env):evA C (.var i::es) η=(evE C (.var i) η).bind (bb (evA C es)):=rfl
theorem pY (C:Call)(i:Nat)(es:List E)(η:Env):evA C (.mv i::es) η=(evE C (.mv i) η).bind (bb (evA C es)):=rfl
theorem mO (C:Call)(t:T)(es:List E)(η:Env):evA C (.cst t::es) η=(evE C (.cst t) η).bind (bb (evA C es)):=rfl
theorem mf (C:Call)(l:List E)(es:List E)(η:Env):evA C (.tup l::es) η=(evE C (.tup l) η).bind (bb (evA C es)):=rfl
theorem mL (C:Call)(h:Bool)(l:List E)(es:List E)(η:Env):evA C (.lst h l::es) η=(evE C (.lst h l) η).bind (bb (evA C es)):=rfl
theorem nA (C:Call)(o:Op)(h:Bool)(l:List E)(es:List E)(η:Env):evA C (.op o h l::es) η=(evE C (.op o h l) η).bind (bb (evA C es)):=rfl
theorem lF (C:Call)(a b:E)(es:List E)(η:Env):evA C (.and a b::es) η=(evE C (.and a b) η).bind (bb (evA C es)):=rfl
theorem qf (C:Call)(a b:E)(es:List E)(η:Env):evA C (.or a b::es) η=(evE C (.or a b) η).bind (bb (evA C es)):=rfl
theorem mw (C:Call)(a:E)(es:List E)(η:Env):evA C (.not a::es) η=(evE C (.not a) η).bind (bb (evA C es)):=rfl
theorem mS (C:Call)(c a b:E)(es:List E)(η:Env):evA C (.ifx c a b::es) η=(evE C (.ifx c a b) η).bind (bb (evA C es)):=rfl
theorem iT (C:Call)(o p:Op)(a b c:E)(es:List E)(η:Env):evA C (.chain o p a b c::es) η=(evE C (.chain o p a b c) η).bind (bb (evA C es)):=rfl
theorem jy (C:Call)(f:Nat)(l:List E)(es:List E)(η:Env):evA C (.call f l::es) η=(evE C (.call f l) η).bind (bb (evA C es)):=rfl
theorem jF (C:Call)(h:Bool)(k:Ik)(src:List E)(tg:List Nat)(cnd:Option E)(elt:E)(es:List E)(η:Env):evA C (.comp h k src tg cnd elt::es) η=(evE C (.comp h k src tg cnd elt) η).bind (bb (evA C es)):=rfl
theorem lH (C:Call)(i:Nat)(l:List E)(es:List E)(η:Env):evA C (.pop i l::es) η=(evE C (.pop i l) η).bind (bb (evA C es)):=rfl
theorem wD {C:Call}{e:E}{es:List E}{η:Env}(he:∀ i,e≠.io i):evA C (e::es) η=(evE C e η).bind (bb (evA C es)):=by
 cases e with
 | io i=>exact absurd rfl (he i)
 | _=>rfl
theorem vh (C:Call)(η:Env):evL C ([]) η=.ok ([],η):=rfl
theorem ve (C:Call)(e:E)(es:List E)(η:Env):evL C (e::es) η=(evE C e η).bind (bb (evL C es)):=rfl
theorem uP (C:Call)(x:X)(i:Nat)(e:E)(η:Env):evS C (.asg x i e) η=Fl.of η (evX C x e η) (tV i):=rfl
theorem s8 (C:Call)(x:X)(is:List Nat)(e:E)(η:Env):evS C (.asgT x is e) η=Fl.of η (evX C x e η) (ko is):=rfl
theorem ke (C:Call)(x:X)(i:Nat)(k:E)(e:E)(η:Env):evS C (.setK x i k e) η=Fl.of η (evX C x e η) (nr i (evX C x k) η):=rfl
theorem tD (C:Call)(x:X)(i:Nat)(k:E)(e:E)(η:Env):evS C (.setI x i k e) η=Fl.of η (evX C x e η) (x4 i (evX C x k) η):=rfl
theorem uX (C:Call)(x:X)(e:E)(η:Env):evS C (.exp x e) η=Fl.of η (evX C x e η) kNx:=rfl
theorem tM (C:Call)(x:X)(i:Nat)(e:E)(η:Env):evS C (.app x i e) η=Fl.of η (eB (rd η i)) (lT (evX C x e) η (pD i)):=rfl
theorem vc (C:Call)(x:X)(i:Nat)(e:E)(η:Env):evS C (.ext x i e) η=Fl.of η (eB (rd η i)) (lT (evX C x e) η (wW i)):=rfl
theorem u6 (C:Call)(vs:List Nat)(e:E)(η:Env):evS C (.ret vs e) η=Fl.of η (evE C e (share vs η)) kRt:=rfl
theorem sj (C:Call)(η:Env):evS C (.retN) η=.rt (.d,.non) η:=rfl
theorem ur (C:Call)(x:X)(c:E)(a:List S)(b:List S)(η:Env):evS C (.ite x c a b) η=Fl.of η (evT C x c η) (kIf (evSs C a) (evSs C b)):=rfl
theorem sr (C:Call)(vs:List Nat)(ls:List Nat)(k:Ik)(src:List E)(tg:List Nat)(body:List S)(η:Env):evS C (.forS vs ls k src tg body) η=Fl.of η (evL C src (pick vs ls η)) (uo vs k tg (evSs C body) η):=rfl
theorem uA (C:Call)(x:X)(c:E)(body:List S)(η:Env):evS C (.whl x c body) η=fN (evT C x c) (evSs C body) ji η:=rfl
theorem uJ (C:Call)(η:Env):evS C (.brk) η=.bk η:=rfl
theorem sP (C:Call)(η:Env):evS C (.pas) η=.nx η:=rfl
theorem oh (C:Call)(η:Env):evSs C ([]) η=.nx η:=rfl
theorem q9 (C:Call)(s:S)(r:List S)(η:Env):evSs C (s::r) η=Fl.seq (evS C s η) (evSs C r):=rfl
theorem u7 (C:Call)(vs:List Nat)(ls:List Nat)(e:E)(η:Env):evX C (.q vs ls) e η=(evE C e (pick vs ls η)).bind (kX vs η):=rfl
theorem vf (C:Call)(vs:List Nat)(e:E)(η:Env):evX C (.l vs) e η=evE C e (share vs η):=rfl
theorem sH (C:Call)(vs:List Nat)(ls:List Nat)(e:E)(η:Env):evT C (.q vs ls) e η=(evE C e (pick vs ls η)).bind (kT η):=rfl
theorem t8 (C:Call)(vs:List Nat)(e:E)(η:Env):evT C (.l vs) e η=(evE C e (share vs η)).bind kT2:=rfl
theorem yt {α β:Type}(a:α)(f:α->Res β):(Res.ok a).bind f=f a:=rfl
theorem DG {α:Type}(η:Env)(a:α)(f:α->Fl):Fl.of η (.ok a) f=f a:=rfl
theorem y8 (η:Env)(f:Env->Fl):Fl.seq (.nx η) f=f η:=rfl
theorem xQ (w:W)(η:Env)(f:Env->Fl):Fl.seq (.rt w η) f=.rt w η:=rfl
theorem wY (η:Env)(f:Env->Fl):Fl.seq (.bk η) f=.bk η:=rfl
theorem rS (η:Env)(f:Env->Fl):Fl.turn (.nx η) f=f η:=rfl
theorem u3 (w:W)(η:Env)(f:Env->Fl):Fl.turn (.rt w η) f=.rt w η:=rfl
theorem u0 (η:Env)(f:Env->Fl):Fl.turn (.bk η) f=.nx η:=rfl
theorem yh {α:Type}(f g:Env->Res α)(η:Env):onB (.bl true) f g η=f η:=rfl
theorem zV {α:Type}(f g:Env->Res α)(η:Env):onB (.bl false) f g η=g η:=rfl
theorem zl {α:Type}(f g:Env->Res α)(m:Md)(b:Bool)(η:Env):onT f g ((m,.bl b),η)=onB (.bl b) f g η:=by cases b<;>rfl
theorem xP {α:Type}(f g:Env->Res α)(m:Md)(η:Env):onT f g ((m,.bl true),η)=f η:=rfl
theorem zM {α:Type}(f g:Env->Res α)(m:Md)(η:Env):onT f g ((m,.bl false),η)=g η:=rfl
theorem yj (f g:Env->Fl)(η:Env):onF true f g η=f η:=rfl
theorem yL (f g:Env->Fl)(η:Env):onF false f g η=g η:=rfl
theorem CL {α:Type}(a:α):ofO (some a)=.ok a:=rfl
theorem Bj {α:Type}(η:Env)(a:α):ret η (some a)=.ok (a,η):=rfl
theorem AO (o:Option W)(η:Env):rd (o::η) 0=o:=rfl
theorem AK (o:Option W)(η:Env)(i:Nat):rd (o::η) (i+1)=rd η i:=rfl
theorem Cw (o w:Option W)(η:Env):wr (o::η) 0 w=w::η:=rfl
theorem A8 (o w:Option W)(η:Env)(i:Nat):wr (o::η) (i+1) w=o::wr η i w:=rfl
theorem uK (t:T):look (.s,t)=some (.s,t):=rfl
theorem vq (m:Md)(i:Int):(look (.d,.int i))=some (.d,.int i):=rfl
theorem vj (m:Md)(b:Bool):(look (.d,.bl b))=some (.d,.bl b):=rfl
theorem tR (x:Str):(look (.d,.str x))=some (.d,.str x):=rfl
theorem um:(look (.d,.non))=some (.d,.non):=rfl
theorem Cg (m:Md)(t:T):toS (some (m,t))=some (.s,t):=rfl
theorem wo:toS none=none:=rfl
theorem ni (η:Env):share [] η=η:=rfl
theorem nF (i:Nat)(is:List Nat)(η:Env):share (i::is) η=share is (wr η i (toS (rd η i))):=rfl
theorem pF:eT []=[]:=rfl
theorem qX (o:Option W)(η:Env):eT (o::η)=none::eT η:=rfl
theorem xC (vs ls:List Nat)(η:Env):pick vs ls η=fI ls η (jw vs η (eT η)):=rfl
theorem uz (η0 η:Env):jw [] η0 η=η:=rfl
theorem tJ (i:Nat)(is:List Nat)(η0 η:Env):jw (i::is) η0 η=jw is η0 (wr η i (toS (rd η0 i))):=rfl
theorem rA (η0 η:Env):fI [] η0 η=η:=rfl
theorem nU (i:Nat)(is:List Nat)(η0 η:Env):fI (i::is) η0 η=fI is η0 (wr η i (lfO (rd η0 i))):=rfl
theorem Ba (m:Md)(i:Int):lfO (some (m,.int i))=some (.d,.int i):=rfl
theorem AD (m:Md)(b:Bool):lfO (some (m,.bl b))=some (.d,.bl b):=rfl
theorem B9 (m:Md)(x:Str):lfO (some (m,.str x))=some (.d,.str x):=rfl
theorem Au (m:Md):lfO (some (m,.non))=some (.d,.non):=rfl
theorem qv (vs:List Nat)(η:Env):after .d vs η=η:=rfl
theorem qa (vs:List Nat)(η:Env):after .s vs η=share vs η:=rfl
theorem pZ (m:Md)(vs:List Nat)(η:Env):after (.o m) vs η=share vs η:=rfl
theorem zX (m:Md)(i:Int):lf m (.int i)=.d:=rfl
theorem zt (m:Md)(b:Bool):lf m (.bl b)=.d:=rfl
theorem y6 (m:Md)(x:Str):lf m (.str x)=.d:=rfl
theorem x6 (m:Md):lf m .non=.d:=rfl
theorem xA (m:Md)(ts:List T):lf m (.lst ts)=m:=rfl
theorem yq (m:Md)(ts:List T):lf m (.tup ts)=m:=rfl
theorem xD (t:T):lf .d t=.d:=by unfold lf; split<;>rfl
theorem xk (m:Md):Md.s.le m=true:=by cases m<;>rfl
theorem tX:Md.d.le .d=true:=rfl
theorem tZ (m:Md):(Md.o m).le .d=true:=rfl
theorem uw (m n:Md):(Md.o m).le (.o n)=m.le n:=rfl
theorem yG (h:Bool)(m n:Md)(i j:Int):oSem .add h [(m,.int i),(n,.int j)]=some (.d,.int (i+j)):=rfl
theorem pW (h:Bool)(m n:Md)(ts us:List T):oSem .add h [(m,.lst ts),(n,.lst us)]=if fits (ts.length+us.length) then newL h (m.kid.meet n.kid) (ts++us) else none:=rfl
theorem nY (h:Bool)(m n:Md)(x y:Str):oSem .add h [(m,.str x),(n,.str y)]=if fits (x.cps.size+y.cps.size) then some (.d,.str (x++y)) else none:=rfl
theorem oq (h:Bool)(m n:Md)(ts us:List T):oSem .add h [(m,.tup ts),(n,.tup us)]=if fits (ts.length+us.length)&&!ts.isEmpty then some (.s,.tup (ts++us)) else none:=rfl
theorem BQ (h:Bool)(m n:Md)(i j:Int):oSem .sub h [(m,.int i),(n,.int j)]=some (.d,.int (i-j)):=rfl
theorem ng (h:Bool)(m n:Md)(i j:Int):oSem .mul h [(m,.int i),(n,.int j)]=if (decide (i.natAbs < 18446744073709551616)) || (decide (j.natAbs < 18446744073709551616)) then some (.d,.int (i * j)) else none:=rfl
theorem qM (h:Bool)(m n:Md)(i j:Int):oSem .fdiv h [(m,.int i),(n,.int j)]=if decide (0 < j)&&decide (j < 1073741824) then some (.d,.int (i / j)) else none:=rfl
theorem vP (h:Bool)(m n:Md)(i j:Int):oSem .mod h [(m,.int i),(n,.int j)]=if decide (0 < j) then some (.d,.int (i % j)) else none:=rfl
theorem vI (h:Bool)(m n:Md)(i j:Int):oSem .pow h [(m,.int i),(n,.int j)]=if decide (0<=j)&&decide (j<=1000000)&&decide (i.natAbs < 18446744073709551616) then some (.d,.int (i ^ j.toNat)) else none:=rfl
theorem CQ (h:Bool)(m:Md)(i:Int):oSem .neg h [(m,.int i)]=some (.d,.int (-i)):=rfl
theorem yD (h:Bool)(m n:Md)(i j:Int):oSem .eq h [(m,.int i),(n,.int j)]=some (.d,.bl (i==j)):=rfl
theorem wH (h:Bool)(m n:Md)(x y:Str):oSem .eq h [(m,.str x),(n,.str y)]=some (.d,.bl (x==y)):=rfl
theorem xW (h:Bool)(m n:Md)(a b:Bool):oSem .eq h [(m,.bl a),(n,.bl b)]=some (.d,.bl (a==b)):=rfl
theorem zQ (h:Bool)(m n:Md)(i j:Int):oSem .ne h [(m,.int i),(n,.int j)]=some (.d,.bl (!(i==j))):=rfl
theorem wQ (h:Bool)(m n:Md)(x y:Str):oSem .ne h [(m,.str x),(n,.str y)]=some (.d,.bl (!(x==y))):=rfl
theorem yg (h:Bool)(m n:Md)(a b:Bool):oSem .ne h [(m,.bl a),(n,.bl b)]=some (.d,.bl (!(a==b))):=rfl
theorem Dt (h:Bool)(m n:Md)(i j:Int):oSem .lt h [(m,.int i),(n,.int j)]=some (.d,.bl (decide (i < j))):=rfl
theorem DN (h:Bool)(m n:Md)(i j:Int):oSem .le h [(m,.int i),(n,.int j)]=some (.d,.bl (decide (i<=j))):=rfl
theorem Di (h:Bool)(m n:Md)(i j:Int):oSem .gt h [(m,.int i),(n,.int j)]=some (.d,.bl (decide (j < i))):=rfl
theorem DU (h:Bool)(m n:Md)(i j:Int):oSem .ge h [(m,.int i),(n,.int j)]=some (.d,.bl (decide (j<=i))):=rfl
theorem uu (h:Bool)(m n:Md)(a:T):oSem .isnot h [(m,a),(n,.non)]=if a.isG then none else some (.d,.bl (!a.isN)):=rfl
theorem BL (h:Bool)(m n:Md)(ts:List T)(i:Int):oSem .ix h [(m,.lst ts),(n,.int i)]=(atI ts i).map fun t=>(m.kid,t):=rfl
theorem BH (h:Bool)(m n:Md)(ts:List T)(i:Int):oSem .ix h [(m,.tup ts),(n,.int i)]=(atI ts i).map fun t=>(m.kid,t):=rfl
theorem xY (h:Bool)(m:Md)(ts:List T):oSem .len h [(m,.lst ts)]=some (.d,.int ts.length):=rfl
theorem yP (h:Bool)(m:Md)(ts:List T):oSem .len h [(m,.tup ts)]=some (.d,.int ts.length):=rfl
theorem yR (h:Bool)(m:Md)(ns:List Int):oSem .len h [(m,.scr ns)]=some (.d,.int ns.length):=rfl
theorem vL (h:Bool)(m n:Md)(ns:List Int)(i:Int):oSem .ix h [(m,.scr ns),(n,.int i)]=(atI ns i).map fun n=>(.d,.int n):=rfl
theorem Bi (h:Bool)(m n:Md)(ns:List Int)(i:Int):oSem .sl2 h [(m,.scr ns),(n,.int i)]=some (.d,.lst ((cut ns none (some i)).map T.int)):=rfl
theorem yp (m:Md)(ns:List Int):lf m (.scr ns)=.d:=rfl
theorem Bf (m:Md)(ns:List Int):lfO (some (m,.scr ns))=some (.d,.scr ns):=rfl
theorem sZ (ns:List Int):look (.d,.scr ns)=some (.d,.scr ns):=rfl
theorem zB (h:Bool)(m:Md)(x:Str):oSem .len h [(m,.str x)]=some (.d,.int x.cps.size):=rfl
theorem we (cs:List String)(h:Bool)(m:Md)(a:T):oSem (.isI cs) h [(m,a)]=if a.isG then none else some (.d,.bl (cs.any fun c=>isOne c a)):=rfl
theorem Ay:T.isG .non=false:=rfl
theorem Dg (b:Bool):T.isG (.bl b)=false:=rfl
theorem CA (i:Int):T.isG (.int i)=false:=rfl
theorem BX (x:Str):T.isG (.str x)=false:=rfl
theorem Bo (ts:List T):T.isG (.tup ts)=false:=rfl
theorem A9 (ts:List T):T.isG (.lst ts)=false:=rfl
theorem BU (ns:List Int):T.isG (.scr ns)=false:=rfl
theorem Cy:T.isN .non=true:=rfl
theorem DL (b:Bool):T.isN (.bl b)=false:=rfl
theorem BP (i:Int):T.isN (.int i)=false:=rfl
theorem Bw (x:Str):T.isN (.str x)=false:=rfl
theorem z0 (ts:List T):T.isN (.tup ts)=false:=rfl
theorem Cz (ts:List T):T.isN (.lst ts)=false:=rfl
theorem r9 (h:Bool)(m:Md)(ts:List T):oSem .list h [(m,.lst ts)]=newL h m.kid ts:=rfl
theorem k8 (h:Bool)(m:Md)(ts:List T):oSem .list h [(m,.tup ts)]=newL h m.kid ts:=rfl
theorem wR (h:Bool)(m n:Md)(a:T)(ts:List T):oSem .isin h [(m,a),(n,.tup ts)]=if flatT a&&ts.all flatT then some (.d,.bl (ts.any fun t=>eqT t a)) else none:=rfl
theorem uU (h:Bool)(m n:Md)(a:T)(ts:List T):oSem .isin h [(m,a),(n,.lst ts)]=if flatT a&&ts.all flatT then some (.d,.bl (ts.any fun t=>eqT t a)) else none:=rfl
theorem vp (h:Bool)(m:Md)(x:Str):oSem .lower h [(m,.str x)]=if x.cps.toList.all (fun c=>decide (c < 128)) then some (.d,.str ⟨x.cps.map Ae⟩) else none:=rfl
theorem CK (h:Bool)(m n:Md)(x y:Str):oSem .inS h [(m,.str x),(n,.str y)]=some (.d,.bl (!(a07 y x 0 y.length 1).isEmpty)):=rfl
theorem yy (h:Bool)(m n:Md)(x y:Str):oSem .ninS h [(m,.str x),(n,.str y)]=some (.d,.bl (!(!(a07 y x 0 y.length 1).isEmpty))):=rfl
theorem Cn (h:Bool)(m n:Md)(a:T)(ts:List T):oSem .inX h [(m,a),(n,.tup ts)]=if ts.all kl&&kZ a then some (.d,.bl (ts.any fun t=>eqT t a)) else none:=rfl
theorem xF (h:Bool)(m n:Md)(a:T)(ts:List T):oSem .ninX h [(m,a),(n,.tup ts)]=if ts.all kl&&kZ a then some (.d,.bl (!ts.any fun t=>eqT t a)) else none:=rfl
theorem AH (h:Bool)(m n:Md)(x y:Str):oSem .leS h [(m,.str x),(n,.str y)]=some (.d,.bl (!decide (y.cps.toList < x.cps.toList))):=rfl
theorem oO (h:Bool)(m n:Md)(ts us:List T):oSem .catT h [(m,.tup ts),(n,.tup us)]=if fits (ts.length+us.length) then some (.s,.tup (ts++us)) else none:=rfl
theorem pj (h:Bool)(m:Md)(ts:List T):oSem .lenSet h [(m,.tup ts)]=(strsOf ts).bind fun ss=>if decide (ss.length < 1000) then some (.d,.int (distS ss).length) else none:=rfl
theorem eV (h:Bool)(m n:Md)(ts:List T)(x:Str):oSem .countS h [(m,.lst ts),(n,.str x)]=(strsOf ts).bind fun ss=>some (.d,.int (ss.count x)):=rfl
theorem ze (h:Bool):oSem .dnew h []=some (.d,.dct [] []):=rfl
theorem mQ (h:Bool)(m:Md)(ts:List T):oSem .sortedS h [(m,.lst ts)]=(strsOf ts).bind fun ss=>if decide (ss.length < 64) then some (.d,.lst ((iZ ss).map T.str)) else none:=rfl
theorem lW (h:Bool)(m:Md)(ks:List Str)(vs:List T):oSem .sortedD h [(m,.dct ks vs)]=if decide (ks.length < 64) then some (.d,.lst ((iZ ks).map T.str)) else none:=rfl
theorem yr (m:Md)(ts:List T):bC .enmT [(m,.tup ts)]=some (cR .s 0 ts):=rfl
theorem AI (m:Md)(x:Str):bC .chr [(m,.str x)]=some (x.cps.toList.map fun c=>[(.d,.str ⟨#[c]⟩)]):=rfl
theorem yU (h:Bool)(m:Md)(b:Bool):oSem .int h [(m,.bl b)]=some (.d,.int (b2i b)):=rfl
theorem zF (h:Bool)(m:Md)(i:Int):oSem .int h [(m,.int i)]=some (.d,.int i):=rfl
theorem xK (h:Bool)(m:Md)(ts:List T):oSem .max1 h [(m,.lst ts)]=(intsOf ts).bind fun ns=>if ns.isEmpty then none else some (.d,.int (maxI ns)):=rfl
theorem uk (h:Bool)(m n:Md)(ts:List T)(b:Bool):oSem .count h [(m,.lst ts),(n,.bl b)]=(aS ts).map fun bs=>(.d,.int (bs.count b)):=rfl
theorem rM (h:Bool)(m n:Md)(i j:Int):oSem .fdivN h [(m,.int i),(n,.int j)]=if (j != 0)&&decide (j.natAbs < 18446744073709551616) then some (.d,.int (i.fdiv j)) else none:=rfl
theorem w8 (h:Bool)(m n:Md)(i j:Int):oSem .modN h [(m,.int i),(n,.int j)]=if j != 0 then some (.d,.int (i.fmod j)) else none:=rfl
theorem yb (h:Bool)(m n:Md)(a b:Bool):oSem .isnB h [(m,.bl a),(n,.bl b)]=some (.d,.bl (!(a==b))):=rfl
theorem xw (h:Bool)(m:Md)(ts:List T):oSem .tuple h [(m,.lst ts)]=some (m.kid.up,.tup ts):=rfl
theorem AR (h:Bool)(m:Md)(ts:List T):oSem .sum h [(m,.lst ts)]=(intsOf ts).map fun ns=>(.d,.int ns.sum):=rfl
theorem BC (h:Bool)(m:Md)(ts:List T):oSem .all h [(m,.lst ts)]=(aS ts).map fun bs=>(.d,.bl (bs.all id)):=rfl
theorem zR (m:Md)(ts:List T):newL true m ts=if leaves ts then some (.d,.lst ts) else none:=rfl
theorem yS (m:Md)(ts:List T):newL false m ts=some (m.up,.lst ts):=rfl
theorem xb (m:Md)(ts:List T):bC .seq [(m,.lst ts)]=some (ts.map fun t=>[(.s,t)]):=rfl
theorem zi (m:Md)(ts:List T):bC .seq [(m,.tup ts)]=some (ts.map fun t=>[(.s,t)]):=rfl
theorem qF (m:Md)(n:Int):bC .rng [(m,.int n)]=if decide (n.natAbs < 4611686018427387904)&&fits n.toNat then some ((a0M n.toNat).map fun (k:Nat)=>[(.d,.int k)]) else none:=rfl
theorem qt (η:Env):a9 [] [] η=some η:=rfl
theorem qI (i:Nat)(is:List Nat)(w:W)(ws:List W)(η:Env):a9 (i::is) (w::ws) η=a9 is ws (put η i w):=rfl
theorem Cj {α β:Type}(f:α->β)(a:α):(some a).map f=some (f a):=rfl
theorem pT (b:Bool):truth (.bl b)=some b:=rfl
theorem pV (i:Int):truth (.int i)=some (i != 0):=rfl
theorem sY {α β:Type}(a:α)(f:α->Option β):(some a).bind f=f a:=rfl
theorem sJ:Md.s.kid=.s:=rfl
theorem tj:Md.d.kid=.d:=rfl
theorem rW (m:Md):(Md.o m).kid=m:=rfl
theorem yC:Md.s.up=.o .s:=rfl
theorem yI:Md.d.up=.d:=rfl
theorem xI (m:Md):(Md.o m).up=.o (.o m):=rfl
theorem rf (m:Md):Md.s.meet m=.s:=by cases m<;>rfl
theorem dE (m:Md):Md.d.meet m=m:=by cases m<;>rfl
theorem lZ (m:Md):(Md.o m).meet .s=.s:=rfl
theorem lO (m:Md):(Md.o m).meet .d=.o m:=rfl
theorem lD (m n:Md):(Md.o m).meet (.o n)=.o (m.meet n):=rfl
theorem xr (n:Md)(ts:List T)(t:T):fv (.d,.lst ts) (n,t)=if ts.length < LIM then some ((lf n t).up,.lst (ts++[t])) else none:=by show (if _ then some ((Md.d.meet _).up,_) else none)=_; rw [dE]
theorem xS (m n:Md)(ts:List T)(t:T):fv (.o m,.lst ts) (n,t)=if ts.length < LIM then some ((m.meet (lf n t)).up,.lst (ts++[t])) else none:=rfl
theorem x5 (n:Md)(ts us:List T):wm (.d,.lst ts) (n,.lst us)=if ts.length+us.length<=LIM then some (n.kid.up,.lst (ts++us)) else none:=by show (if _ then some ((Md.d.meet _).up,_) else none)=_; rw [dE]
theorem xg (m n:Md)(ts us:List T):wm (.o m,.lst ts) (n,.lst us)=if ts.length+us.length<=LIM then some ((m.meet n.kid).up,.lst (ts++us)) else none:=rfl
theorem yk (l n:Md)(ts:List T)(t:T)(j:Int):ir (.d,.lst ts) (l,.int j) (n,t)=(ixN ts.length j).map fun k=>((lf n t).up,.lst (ts.set k t)):=by show ((ixN ts.length j).map fun k=>((Md.d.meet _).up,_))=_; rw [dE]
theorem wF (m l n:Md)(ts:List T)(t:T)(j:Int):ir (.o m,.lst ts) (l,.int j) (n,t)=(ixN ts.length j).map fun k=>((m.meet (lf n t)).up,.lst (ts.set k t)):=rfl
theorem yA (m:Md)(ts:List T):eB (some (m,.lst ts))=.ok ():=rfl
theorem xc (m:Md)(ts:List T):xB (m,.tup ts)=some (ts.map fun t=>(m.kid,t)):=rfl
theorem zY (η η':Env):nxO η (some η')=.nx η':=rfl
theorem oe (η:Env):backs [] η=some []:=rfl
theorem nV (i:Nat)(is:List Nat)(η:Env):backs (i::is) η=(rd η i).bind fun w=>(backs is η).bind fun ws=>some (w::ws):=rfl
theorem xi (io:List Nat)(η:Env):Fl.out io (.nx η)=(ofO (backs io η)).bind (qq (.d,.non)):=rfl
theorem wC (io:List Nat)(w:W)(η:Env):Fl.out io (.rt w η)=(ofO (backs io η)).bind (qq w):=rfl
theorem x_run (C:Call)(f:Fn)(ws:List W)(h:ws.length=f.ps):runF C f ws=Fl.out f.io (evSs C f.body (ws.map some++a0i f.ns none)):=if_pos h
theorem at0 {α:Type}(a:α)(l:List α):atI (a::l) 0=some a:=by simp [atI,ixN]
theorem atN {α:Type}{xs:List α}{i:Int}{n:Nat}{a:α}(hi:i=n)(h:xs[n]?=some a):atI xs i=some a:=by
 subst hi
 have:=(a0w.mp h).1
 rw [atI,ixN,if_pos (by omega),if_pos (by omega)]
 exact h
theorem at1 {α:Type}(a b:α)(l:List α):atI (a::b::l) 1=some b:=atN (n:=1) rfl rfl
theorem at2 {α:Type}(a b c:α)(l:List α):atI (a::b::c::l) 2=some c:=atN (n:=2) rfl rfl
theorem at3 {α:Type}(a b c d:α)(l:List α):atI (a::b::c::d::l) 3=some d:=atN (n:=3) rfl rfl
theorem at4 {α:Type}(a b c d e:α)(l:List α):atI (a::b::c::d::e::l) 4=some e:=atN (n:=4) rfl rfl
theorem aG {α:Type}{tg:List Nat}{f:Env->Res (Option W×Env)}{η:Env}{g:α->List W}(w:α->W):∀ (ts:List α) (acc:List W),(∀ x∈ts,∃ η1 η2,a9 tg (g x) η=some η1/\f η1=.ok (some (w x),η2)/\aj tg η2=η) ->
  aC tg f (ts.map g) η acc=.ok (acc++ts.map w,η)
 | [],acc,_=>by rw [a05,a05,a0P]; rfl
 | x::ts,acc,h=>by
  obtain ⟨η1,η2,h1,h2,h3⟩:=h x a0f
  rw [a0m,a0m]
  show (ofO (a9 tg (g x) η)).bind _=_
  rw [h1]
  show (f η1).bind _=_
  rw [h2]
  show aC tg f (ts.map g) (aj tg η2) (acc++[w x])=_
  rw [h3,aG w ts _ fun y hy=>h y (a0g _ hy),a0W]
  rfl
end M

namespace MR
open L2 L3 M
open PySem (Addr Str sizeLine)
noncomputable abbrev Fp:=Addr->Prop
noncomputable def ScrR (K:a0a)(H:Hp)(a:Addr)(ns:List Int):Prop:=(∃ o,H a=some (.frz o (.lst (ns.map V.int))))\/SqL K (fun _=>none) a (ns.map V.int)
theorem ScrR.sq {K:a0a}{H:Hp}{a:Addr}{ns:List Int}(h:ScrR K H a ns):SqL K H a (ns.map V.int):=by
 rcases h with ⟨o,h⟩ | ((h | ⟨o,h⟩) | h)
 ·exact .inl (.inr ⟨o,h⟩)
 ·cases h
 ·cases h
 ·exact .inr h
theorem ScrR.keep {K:a0a}{H H':Hp}{a:Addr}{ns:List Int}(s:∀ a o u,H a=some (.frz o u)->H' a=some (.frz o u))(h:ScrR K H a ns):ScrR K H' a ns:=h.imp (fun ⟨o,e⟩=>⟨o,s a o _ e⟩) id
noncomputable def LstR (K:a0a)(Z:Fp)(H:Hp)(G:Fp)(a:Addr)(xs:List V):Md->Prop
 | .s=>Z a/\H a=some (.lst xs)
 | _=>G a/\H a=some (.lst xs)
noncomputable def mkD (ks:List Str)(xs:List V):List (Key×V):=(ks.map a2t).zip xs
noncomputable def DctR (Z:Fp)(H:Hp)(G:Fp)(a:Addr)(o:HO):Md->Prop
 | .s=>Z a/\H a=some o
 | _=>G a/\H a=some o
noncomputable def dmd:Md->Md
 | .d=>.d
 | _=>.s
mutual
noncomputable def Rep (K:a0a)(Z:Fp)(H:Hp):Md->T->V->Fp->Prop
 | _,.non,v,_=>v=.non
 | _,.bl b,v,_=>v=.bl b
 | _,.int i,v,_=>v=.int i
 | _,.str x,v,_=>v=.str x/\sOk x=true
 | m,.tup ts,v,G=>∃ a xs,v=.ref a/\SqT K H a xs/\xs.length<=LIM/\RepL K Z H m.kid ts xs G
 | m,.lst ts,v,G=>∃ a xs,v=.ref a/\xs.length<=LIM/\LstR K Z H G a xs m/\RepL K Z H m.kid ts xs (fun b=>G b/\b≠a)
 | m,.dct ks vs,v,G=>∃ a xs,v=.ref a/\ks.length<=LIM/\DctR Z H G a (.dK (mkD ks xs)) m/\(ks.Nodup/\∀ k∈ks,sOk k=true)/\vs.length=ks.length/\RepL K Z H (dmd m) vs xs (fun _=>False)
 | _,.ins _ _ _,_,_=>False
 | _,.gone,_,_=>True
 | _,.scr ns,v,_=>∃ a,v=.ref a/\ns.length<=LIM/\ScrR K H a ns
noncomputable def RepL (K:a0a)(Z:Fp)(H:Hp):Md->List T->List V->Fp->Prop
 | _,[],xs,_=>xs=[]
 | m,t::ts,xs,G=>∃ x r G1 G2,xs=x::r/\(∀ a,G1 a->G a)/\(∀ a,G2 a->G a)/\(∀ a,G1 a->¬ G2 a)/\Rep K Z H m t x G1/\RepL K Z H m ts r G2
end
section
variable {K:a0a}{Z Z':Fp}{H H':Hp}{m:Md}{t:T}{ts:List T}{v:V}{xs:List V}{G G':Fp}
theorem LstR.mono {a:Addr}(w:∀ a,G a->G' a)(h:LstR K Z H G a xs m):LstR K Z H G' a xs m:=by
 cases m with
 | s=>exact h
 | d=>exact ⟨w _ h.1,h.2⟩
 | o m=>exact ⟨w _ h.1,h.2⟩
theorem DctR.mono {a:Addr}{o:HO}(w:∀ a,G a->G' a)(h:DctR Z H G a o m):DctR Z H G' a o m:=by
 cases m with
 | s=>exact h
 | d=>exact ⟨w _ h.1,h.2⟩
 | o m=>exact ⟨w _ h.1,h.2⟩
mutual
theorem Rep.mono:∀ {m:Md} {t:T} {v:V} {G G':Fp},(∀ a,G a->G' a)->Rep K Z H m t v G->Rep K Z H m t v G'
 | _,.non,_,_,_,_,h=>h
 | _,.bl _,_,_,_,_,h=>h
 | _,.int _,_,_,_,_,h=>h
 | _,.str _,_,_,_,_,h=>h
 | m,.tup ts,v,G,G',w,⟨a,xs,e,q,l,r⟩=>⟨a,xs,e,q,l,RepL.mono w r⟩
 | m,.lst ts,v,G,G',w,⟨a,xs,e,l,q,r⟩=>⟨a,xs,e,l,q.mono w,RepL.mono (fun b hb=>⟨w b hb.1,hb.2⟩) r⟩
 | m,.dct ks vs,v,G,G',w,⟨a,xs,e,l,q,n,hl,r⟩=>⟨a,xs,e,l,q.mono w,n,hl,r⟩
 | _,.ins _ _ _,_,_,_,_,h=>h.elim
 | _,.gone,_,_,_,_,h=>h
 | _,.scr _,_,_,_,_,h=>h
theorem RepL.mono:∀ {m:Md} {ts:List T} {xs:List V} {G G':Fp},(∀ a,G a->G' a)->RepL K Z H m ts xs G->RepL K Z H m ts xs G'
 | _,[],_,_,_,_,h=>h
 | m,t::ts,xs,G,G',w,⟨x,r,G1,G2,e,h1,h2,hd,p,q⟩=>⟨x,r,G1,G2,e,fun a ha=>w a (h1 a ha),fun a ha=>w a (h2 a ha),hd,p,q⟩
end
noncomputable def Stay (Z:Fp)(H H':Hp):Prop:=(∀ a o,Z a->H a=some o->H' a=some o)/\(∀ a xs,Rd H a (.tup xs)->Rd H' a (.tup xs))/\∀ a o u,H a=some (.frz o u)->H' a=some (.frz o u)
theorem Stay.sqt (s:Stay Z H H'){a:Addr}(h:SqT K H a xs):SqT K H' a xs:=by
 rcases h with h | h
 ·exact .inl (s.2.1 a xs h)
 ·exact .inr h
theorem LstR.keep {a:Addr}(s:Stay Z H H')(z:∀ a,Z a->Z' a)(g:∀ a o,G a->H a=some o->H' a=some o)(h:LstR K Z H G a xs m):LstR K Z' H' G a xs m:=by
 cases m with
 | s=>exact ⟨z _ h.1,s.1 _ _ h.1 h.2⟩
 | d=>exact ⟨h.1,g _ _ h.1 h.2⟩
 | o m=>exact ⟨h.1,g _ _ h.1 h.2⟩
theorem DctR.keep {a:Addr}{o:HO}(s:Stay Z H H')(z:∀ a,Z a->Z' a)(g:∀ a o,G a->H a=some o->H' a=some o)(h:DctR Z H G a o m):DctR Z' H' G a o m:=by
 cases m with
 | s=>exact ⟨z _ h.1,s.1 _ _ h.1 h.2⟩
 | d=>exact ⟨h.1,g _ _ h.1 h.2⟩
 | o m=>exact ⟨h.1,g _ _ h.1 h.2⟩
mutual
theorem Rep.keep (s:Stay Z H H')(z:∀ a,Z a->Z' a):∀ {m:Md} {t:T} {v:V} {G:Fp},(∀ a o,G a->H a=some o->H' a=some o)->Rep K Z H m t v G->Rep K Z' H' m t v G
 | _,.non,_,_,_,h=>h
 | _,.bl _,_,_,_,h=>h
 | _,.int _,_,_,_,h=>h
 | _,.str _,_,_,_,h=>h
 | m,.tup ts,v,G,g,⟨a,xs,e,q,l,r⟩=>⟨a,xs,e,s.sqt q,l,RepL.keep s z g r⟩
 | m,.lst ts,v,G,g,⟨a,xs,e,l,q,r⟩=>⟨a,xs,e,l,q.keep s z g,RepL.keep s z (fun b o hb=>g b o hb.1) r⟩
 | m,.dct ks vs,v,G,g,⟨a,xs,e,l,q,n,hl,r⟩=>⟨a,xs,e,l,q.keep s z g,n,hl,RepL.keep s z (fun _ _ hb=>hb.elim) r⟩
 | _,.ins _ _ _,_,_,_,h=>h.elim
 | _,.gone,_,_,_,h=>h
 | _,.scr _,_,_,_,⟨a,e,l,q⟩=>⟨a,e,l,q.keep s.2.2⟩
theorem RepL.keep (s:Stay Z H H')(z:∀ a,Z a->Z' a):∀ {m:Md} {ts:List T} {xs:List V} {G:Fp},(∀ a o,G a->H a=some o->H' a=some o)->RepL K Z H m ts xs G->RepL K Z' H' m ts xs G
 | _,[],_,_,_,h=>h
 | m,t::ts,xs,G,g,⟨x,r,G1,G2,e,h1,h2,hd,p,q⟩=>⟨x,r,G1,G2,e,h1,h2,hd,Rep.keep s z (fun a o ha=>g a o (h1 a ha)) p,RepL.keep s z (fun a o ha=>g a o (h2 a ha)) q⟩
end
theorem gi (Z:Fp)(H:Hp):Stay Z H H:=⟨fun _ _ _ h=>h,fun _ _ h=>h,fun _ _ _ h=>h⟩
theorem Rep.zmono (z:∀ a,Z a->Z' a)(h:Rep K Z H m t v G):Rep K Z' H m t v G:=h.keep (gi Z H) z fun _ _ _ q=>q
theorem RepL.zmono (z:∀ a,Z a->Z' a)(h:RepL K Z H m ts xs G):RepL K Z' H m ts xs G:=h.keep (gi Z H) z fun _ _ _ q=>q
theorem RepL.length:∀ {ts:List T} {xs:List V} {G:Fp},RepL K Z H m ts xs G->xs.length=ts.length
 | [],_,_,h=>by rw [show _=[] from h]; rfl
 | _::_,_,_,⟨x,r,G1,G2,e,_,_,_,_,q⟩=>by rw [e,a0c,a0c,RepL.length q]
theorem RepL.get:∀ {ts:List T} {xs:List V} {G:Fp} {i:Nat} {t:T},RepL K Z H m ts xs G->ts[i]?=some t->∃ x,xs[i]?=some x/\Rep K Z H m t x G
 | [],_,_,_,_,_,e=>by simp at e
 | _::_,_,_,0,_,⟨x,r,G1,G2,e,h1,_,_,p,_⟩,e2=>by
  rw [a1l] at e2; cases e2
  exact ⟨x,by rw [e]; rfl,p.mono h1⟩
 | _::_,_,_,i+1,_,⟨x,r,G1,G2,e,_,h2,_,_,q⟩,e2=>by
  rw [a0u] at e2
  obtain ⟨y,hy,p⟩:=RepL.get q e2
  exact ⟨y,by rw [e,a0u]; exact hy,p.mono h2⟩
theorem RepL.append:∀ {ts us:List T} {xs ys:List V} {G1 G2 G:Fp},(∀ a,G1 a->G a)->(∀ a,G2 a->G a)->(∀ a,G1 a->¬ G2 a)->RepL K Z H m ts xs G1->RepL K Z H m us ys G2->RepL K Z H m (ts++us) (xs++ys) G
 | [],us,xs,ys,G1,G2,G,w1,w2,d,h,k=>by rw [show xs=[] from h]; exact k.mono w2
 | t::ts,us,xs,ys,G1,G2,G,w1,w2,d,⟨x,r,A,B,e,h1,h2,hd,p,q⟩,k=>by
  rw [e]
  refine ⟨x,r++ys,A,fun a=>B a\/G2 a,rfl,fun a ha=>w1 a (h1 a ha),fun a ha=>ha.elim (fun z=>w1 a (h2 a z)) (w2 a),fun a ha hb=>hb.elim (hd a ha) (d a (h1 a ha)),p,?_⟩
  exact RepL.append (fun a z=>.inl z) (fun a z=>.inr z) (fun a ha=>d a (h2 a ha)) q k
theorem RepL.one {x:V}(p:Rep K Z H m t x G):RepL K Z H m [t] [x] G:=⟨x,[],G,fun _=>False,rfl,fun _ h=>h,fun _ h=>h.elim,fun _ _ h=>h,p,rfl⟩
theorem RepL.take:∀ {ts:List T} {xs:List V} {G:Fp} (n:Nat),RepL K Z H m ts xs G->RepL K Z H m (ts.take n) (xs.take n) G
 | [],_,_,n,h=>by rw [show _=[] from h,a2Z,a2Z]; rfl
 | _::_,_,_,0,h=>rfl
 | _::_,_,_,n+1,⟨x,r,A,B,e,h1,h2,hd,p,q⟩=>by rw [e]; exact ⟨x,r.take n,A,B,rfl,h1,h2,hd,p,RepL.take n q⟩
theorem RepL.drop:∀ {ts:List T} {xs:List V} {G:Fp} (n:Nat),RepL K Z H m ts xs G->RepL K Z H m (ts.drop n) (xs.drop n) G
 | [],_,_,n,h=>by rw [show _=[] from h,a20,a20]; rfl
 | _::_,_,_,0,h=>h
 | _::_,_,_,n+1,⟨x,r,A,B,e,h1,h2,hd,p,q⟩=>by rw [e]; exact (RepL.drop n q).mono h2
theorem Rep.leaf {m':Md}(hs:∀ a o u,H a=some (.frz o u)->H' a=some (.frz o u))(hl:t.leaf=true)(h:Rep K Z H m t v G):Rep K Z' H' m' t v G':=by
 cases t with
 | non=>exact h
 | bl _=>exact h
 | int _=>exact h
 | str _=>exact h
 | scr _=>obtain ⟨a,e,l,q⟩:=h; exact ⟨a,e,l,q.keep hs⟩
 | _=>cases hl
theorem RepL.leaves {m':Md}(hs:∀ a o u,H a=some (.frz o u)->H' a=some (.frz o u)):∀ {ts:List T} {xs:List V} {G G':Fp},leaves ts=true->RepL K Z H m ts xs G->RepL K Z' H' m' ts xs G'
 | [],_,_,_,_,h=>h
 | t::ts,_,_,G',hl,⟨x,r,A,B,e,h1,h2,hd,p,q⟩=>by
  have h':(t.leaf&&ts.all T.leaf)=true:=hl
  rw [a0j] at h'
  exact ⟨x,r,fun _=>False,fun _=>False,e,fun _ z=>z.elim,fun _ z=>z.elim,fun _ z=>z.elim,p.leaf hs h'.1,RepL.leaves hs h'.2 q⟩
noncomputable def no:Fp:=fun _=>False
mutual
theorem Rep.sh:∀ {m:Md} {t:T} {v:V} {G:Fp},Rep K Z H m t v G->Rep K (fun a=>Z a\/G a) H .s t v no
 | _,.non,_,_,h=>h
 | _,.bl _,_,_,h=>h
 | _,.int _,_,_,h=>h
 | _,.str _,_,_,h=>h
 | m,.tup ts,v,G,⟨a,xs,e,q,l,r⟩=>⟨a,xs,e,q,l,RepL.sh r⟩
 | m,.lst ts,v,G,⟨a,xs,e,l,q,r⟩=>⟨a,xs,e,l,by
   cases m with
   | s=>exact ⟨.inl q.1,q.2⟩
   | d=>exact ⟨.inr q.1,q.2⟩
   | o m=>exact ⟨.inr q.1,q.2⟩,(RepL.zmono (fun b hb=>hb.elim .inl fun z=>.inr z.1) (RepL.sh r)).mono fun _ z=>z.elim⟩
 | m,.dct ks vs,v,G,⟨a,xs,e,l,q,n,hl,r⟩=>⟨a,xs,e,l,by
   cases m with
   | s=>exact ⟨.inl q.1,q.2⟩
   | d=>exact ⟨.inr q.1,q.2⟩
   | o m=>exact ⟨.inr q.1,q.2⟩,n,hl,RepL.zmono (fun b hb=>hb.elim .inl fun z=>z.elim) (RepL.sh r)⟩
 | _,.ins _ _ _,_,_,h=>h.elim
 | _,.gone,_,_,h=>h
 | _,.scr _,_,_,h=>h
theorem RepL.sh:∀ {m:Md} {ts:List T} {xs:List V} {G:Fp},RepL K Z H m ts xs G->RepL K (fun a=>Z a\/G a) H .s ts xs no
 | _,[],_,_,h=>h
 | m,t::ts,xs,G,⟨x,r,G1,G2,e,h1,h2,hd,p,q⟩=>⟨x,r,no,no,e,fun _ z=>z,fun _ z=>z,fun _ z _=>z,Rep.zmono (fun b hb=>hb.imp id (h1 b)) (Rep.sh p),RepL.zmono (fun b hb=>hb.imp id (h2 b)) (RepL.sh q)⟩
end
theorem De:∀ a:Md,a.le .d=true
 | .s=>rfl | .d=>rfl | .o _=>rfl
theorem gM:∀ a:Md,a.le a=true
 | .s=>rfl | .d=>rfl | .o a=>gM a
theorem iG:∀ {a b c:Md},a.le b=true->b.le c=true->a.le c=true
 | .s,_,.s,_,_=>rfl
 | .s,_,.d,_,_=>rfl
 | .s,_,.o _,_,_=>rfl
 | .o a,.o b,.o c,h,k=>iG (a:=a) (b:=b) (c:=c) h k
 | .o a,.o b,.d,h,k=>rfl
 | .o a,.d,.d,h,k=>rfl
 | .d,.d,.d,_,_=>rfl
 | .d,.s,_,h,_=>by cases h
 | .d,.o _,_,h,_=>by cases h
 | .o _,.s,_,h,_=>by cases h
 | .o _,.o _,.s,_,k=>by cases k
 | .o _,.d,.s,_,k=>by cases k
 | .o _,.d,.o _,_,k=>by cases k
 | .d,.d,.s,_,k=>by cases k
 | .d,.d,.o _,_,k=>by cases k
theorem dR:∀ a b:Md,(a.meet b).le a=true/\(a.meet b).le b=true
 | .s,.s=>⟨rfl,rfl⟩
 | .s,.d=>⟨rfl,rfl⟩
 | .s,.o _=>⟨rfl,rfl⟩
 | .d,.s=>⟨rfl,rfl⟩
 | .d,.d=>⟨rfl,rfl⟩
 | .d,.o b=>⟨rfl,gM b⟩
 | .o _,.s=>⟨rfl,rfl⟩
 | .o a,.d=>⟨gM a,rfl⟩
 | .o a,.o b=>dR a b
theorem nP:∀ {a b:Md},a.le b=true->a.kid.le b.kid=true
 | .s,.s,_=>rfl
 | .s,.d,_=>rfl
 | .s,.o _,_=>by first | rfl | exact (by cases ‹Md›<;>rfl)
 | .o a,.o b,h=>h
 | .o a,.d,_=>De a
 | .d,.d,_=>rfl
 | .d,.s,h=>by cases h
 | .d,.o _,h=>by cases h
 | .o _,.s,h=>by cases h
theorem eH:∀ a:Md,a.up.kid=a
 | .s=>rfl | .d=>rfl | .o _=>rfl
theorem d7 (a:Md):a.up≠.s:=by cases a<;>intro h<;>cases h
theorem LstR.own {a:Addr}(hm:m≠.s):LstR K Z H G a xs m ↔ G a/\H a=some (.lst xs):=by
 cases m with
 | s=>exact absurd rfl hm
 | d=>exact Iff.rfl
 | o m=>exact Iff.rfl
noncomputable abbrev cB (Z G G':Fp):Fp:=fun a=>Z a\/(G a/\¬ G' a)
mutual
theorem Rep.weak:∀ {m m':Md} {t:T} {v:V} {G:Fp},m'.le m=true->Rep K Z H m t v G->∃ G',(∀ a,G' a->G a)/\Rep K (cB Z G G') H m' t v G'
 | m,m',.non,_,G,_,h=>⟨G,fun _ z=>z,h⟩
 | m,m',.bl _,_,G,_,h=>⟨G,fun _ z=>z,h⟩
 | m,m',.int _,_,G,_,h=>⟨G,fun _ z=>z,h⟩
 | m,m',.str _,_,G,_,h=>⟨G,fun _ z=>z,h⟩
 | m,m',.scr _,_,G,_,h=>⟨G,fun _ z=>z,h⟩
 | m,m',.tup ts,v,G,hm,⟨a,xs,e,q,l,r⟩=>by
  obtain ⟨G',h1,h2⟩:=RepL.weak (nP hm) r
  exact ⟨G',h1,a,xs,e,q,l,h2⟩
 | m,m',.lst ts,v,G,hm,h=>by
  cases m' with
  | s=>exact ⟨no,fun _ z=>z.elim,(Rep.sh h).zmono fun a ha=>ha.imp id fun z=>⟨z,fun q=>q⟩⟩
  | d =>
   cases m with
   | s=>cases hm
   | o _=>cases hm
   | d=>exact ⟨G,fun _ z=>z,h.zmono fun _ z=>.inl z⟩
  | o k =>
   have hne:m≠.s:=by rintro rfl; cases hm
   obtain ⟨a,xs,e,l,q,r⟩:=h
   rw [LstR.own hne] at q
   obtain ⟨G',h1,h2⟩:=RepL.weak (nP hm) r
   refine ⟨fun b=>G' b\/b=a,fun b hb=>hb.elim (fun z=>(h1 b z).1) (fun z=>z ▸ q.1),a,xs,e,l,⟨.inr rfl,q.2⟩,?_⟩
   refine (h2.zmono fun b hb=>?_).mono fun b hb=>⟨.inl hb,(h1 b hb).2⟩
   rcases hb with z | ⟨⟨z1,z2⟩,z3⟩
   ·exact .inl z
   ·exact .inr ⟨z1,fun q=>q.elim z3 z2⟩
 | m,m',.dct ks vs,v,G,hm,h=>by
  cases m' with
  | s=>exact ⟨no,fun _ z=>z.elim,(Rep.sh h).zmono fun a ha=>ha.imp id fun z=>⟨z,fun q=>q⟩⟩
  | d =>
   cases m with
   | s=>cases hm
   | o _=>cases hm
   | d=>exact ⟨G,fun _ z=>z,h.zmono fun _ z=>.inl z⟩
  | o k =>
   obtain ⟨a,xs,e,l,q,n,hl,r⟩:=h
   cases m with
   | s=>cases hm
   | d=>exact ⟨G,fun _ z=>z,a,xs,e,l,q,n,hl,RepL.zmono (fun b hb=>hb.elim .inl fun z=>z.elim) (RepL.sh r)⟩
   | o k'=>exact ⟨G,fun _ z=>z,a,xs,e,l,q,n,hl,RepL.zmono (fun b hb=>.inl hb) r⟩
 | _,_,.ins _ _ _,_,_,_,h=>h.elim
 | m,m',.gone,_,G,_,h=>⟨G,fun _ z=>z,h⟩
theorem RepL.weak:∀ {m m':Md} {ts:List T} {xs:List V} {G:Fp},m'.le m=true->RepL K Z H m ts xs G->∃ G',(∀ a,G' a->G a)/\RepL K (cB Z G G') H m' ts xs G'
 | m,m',[],_,G,_,h=>⟨G,fun _ z=>z,h⟩
 | m,m',t::ts,xs,G,hm,⟨x,r,G1,G2,e,h1,h2,hd,p,q⟩=>by
  obtain ⟨A,a1,a2⟩:=Rep.weak hm p
  obtain ⟨B,b1,b2⟩:=RepL.weak hm q
  refine ⟨fun b=>A b\/B b,fun b hb=>hb.elim (fun z=>h1 b (a1 b z)) (fun z=>h2 b (b1 b z)),x,r,A,B,e,fun _ z=>.inl z,fun _ z=>.inr z,fun b za zb=>hd b (a1 b za) (b1 b zb),?_,?_⟩
  ·refine a2.zmono fun b hb=>hb.imp id fun z=>⟨h1 b z.1,fun q=>q.elim z.2 fun w=>hd b z.1 (b1 b w)⟩
  ·refine b2.zmono fun b hb=>hb.imp id fun z=>⟨h2 b z.1,fun q=>q.elim (fun w=>hd b (a1 b w) z.1) z.2⟩
end
noncomputable def RepW (K:a0a)(Z:Fp)(H:Hp):List W->List V->Fp->Prop
 | [],xs,_=>xs=[]
 | w::ws,xs,G=>∃ x r G1 G2,xs=x::r/\(∀ a,G1 a->G a)/\(∀ a,G2 a->G a)/\(∀ a,G1 a->¬ G2 a)/\Rep K Z H w.1 w.2 x G1/\RepW K Z H ws r G2
theorem RepW.length:∀ {ws:List W} {xs:List V} {G:Fp},RepW K Z H ws xs G->xs.length=ws.length
 | [],_,_,h=>by rw [show _=[] from h]; rfl
 | _::_,_,_,⟨x,r,G1,G2,e,_,_,_,_,q⟩=>by rw [e,a0c,a0c,RepW.length q]
theorem RepW.mono:∀ {ws:List W} {xs:List V} {G G':Fp},(∀ a,G a->G' a)->RepW K Z H ws xs G->RepW K Z H ws xs G'
 | [],_,_,_,_,h=>h
 | _::_,_,_,_,w,⟨x,r,G1,G2,e,h1,h2,hd,p,q⟩=>⟨x,r,G1,G2,e,fun a ha=>w a (h1 a ha),fun a ha=>w a (h2 a ha),hd,p,q⟩
theorem RepW.keep (s:Stay Z H H')(z:∀ a,Z a->Z' a):∀ {ws:List W} {xs:List V} {G:Fp},(∀ a o,G a->H a=some o->H' a=some o)->RepW K Z H ws xs G->RepW K Z' H' ws xs G
 | [],_,_,_,h=>h
 | _::_,_,_,g,⟨x,r,G1,G2,e,h1,h2,hd,p,q⟩=>⟨x,r,G1,G2,e,h1,h2,hd,p.keep s z fun a o ha=>g a o (h1 a ha),RepW.keep s z (fun a o ha=>g a o (h2 a ha)) q⟩
theorem RepW.append:∀ {ws us:List W} {xs ys:List V} {G1 G2 G:Fp},(∀ a,G1 a->G a)->(∀ a,G2 a->G a)->(∀ a,G1 a->¬ G2 a)->RepW K Z H ws xs G1->RepW K Z H us ys G2->RepW K Z H (ws++us) (xs++ys) G
 | [],us,xs,ys,G1,G2,G,w1,w2,d,h,k=>by rw [show xs=[] from h]; exact k.mono w2
 | t::ts,us,xs,ys,G1,G2,G,w1,w2,d,⟨x,r,A,B,e,h1,h2,hd,p,q⟩,k=>by
  rw [e]
  refine ⟨x,r++ys,A,fun a=>B a\/G2 a,rfl,fun a ha=>w1 a (h1 a ha),fun a ha=>ha.elim (fun z=>w1 a (h2 a z)) (w2 a),fun a ha hb=>hb.elim (hd a ha) (d a (h1 a ha)),p,?_⟩
  exact RepW.append (fun a z=>.inl z) (fun a z=>.inr z) (fun a ha=>d a (h2 a ha)) q k
theorem RepW.one {w:W}{x:V}(p:Rep K Z H w.1 w.2 x G):RepW K Z H [w] [x] G:=⟨x,[],G,no,rfl,fun _ h=>h,fun _ h=>h.elim,fun _ _ h=>h,p,rfl⟩
theorem eI:∀ {ws:List W} {w:W},w∈ws->(eJ ws).le (lf w.1 w.2)=true
 | u::ws,w,h=>by
  rcases a0s.mp h with z | z
  ·subst z; exact (dR _ _).1
  ·exact iG (dR _ _).2 (eI z)
theorem Rep.lf (h:Rep K Z H m t v G):Rep K Z H (M.lf m t) t v G:=by
 unfold M.lf
 split
 ·rename_i hl; exact h.leaf (fun _ _ _ q=>q) hl
 ·exact h
theorem RepW.to {N:Md}:∀ {ws:List W} {xs:List V} {G:Fp},(∀ w∈ws,N.le (M.lf w.1 w.2)=true)->RepW K Z H ws xs G->∃ G',(∀ a,G' a->G a)/\RepL K (cB Z G G') H N (trees ws) xs G'
 | [],_,G,_,h=>⟨G,fun _ z=>z,h⟩
 | w::ws,xs,G,hm,⟨x,r,G1,G2,e,h1,h2,hd,p,q⟩=>by
  obtain ⟨A,a1,a2⟩:=Rep.weak (hm w a0f) p.lf
  obtain ⟨B,b1,b2⟩:=RepW.to (fun u hu=>hm u (a0g _ hu)) q
  refine ⟨fun b=>A b\/B b,fun b hb=>hb.elim (fun z=>h1 b (a1 b z)) (fun z=>h2 b (b1 b z)),x,r,A,B,e,fun _ z=>.inl z,fun _ z=>.inr z,fun b za zb=>hd b (a1 b za) (b1 b zb),?_,?_⟩
  ·refine a2.zmono fun b hb=>hb.imp id fun z=>⟨h1 b z.1,fun q=>q.elim z.2 fun w=>hd b z.1 (b1 b w)⟩
  ·refine b2.zmono fun b hb=>hb.imp id fun z=>⟨h2 b z.1,fun q=>q.elim (fun w=>hd b (a1 b w) z.1) z.2⟩
end
noncomputable def OO:=List V ⊕ List (Key×V)
noncomputable def OO.ho:OO->HO
 | .inl xs=>.lst xs
 | .inr kvs=>.dK kvs
noncomputable def Own (Z:Fp)(H:Hp)(F:Fp):Prop:=∀ a,F a->¬ Z a/\∃ xs:OO,H a=some xs.ho
theorem nK {xs:List V}{ys:OO}(e:some (HO.tup xs)=some ys.ho):False:=by cases ys<;>cases e
theorem jP {o:PySem.Obj}{u:HO}{ys:OO}(e:some (HO.frz o u)=some ys.ho):False:=by cases ys<;>cases e
structure Step (Z:Fp)(H:Hp)(F:Fp)(Z':Fp)(H':Hp)(F':Fp):Prop where
 keep:∀ a o,H a=some o->¬ F a->H' a=some o
 zm:∀ a,Z a->Z' a
 zn:∀ a,Z' a->Z a\/F a\/H a=none
 fn:∀ a,F' a->F a\/H a=none
 al:∀ a,H a≠none->H' a≠none
 za:(∀ a,Z a->H a≠none)->∀ a,Z' a->H' a≠none
section
variable {K:a0a}{Z Z1 Z2 Z':Fp}{H H1 H2 H':Hp}{F F1 F2 F' R G:Fp}
theorem Step.refl (Z:Fp)(H:Hp)(F:Fp):Step Z H F Z H F:=⟨fun _ _ h _=>h,fun _ h=>h,fun _ h=>.inl h,fun _ h=>.inl h,fun _ h=>h,fun z=>z⟩
theorem Step.trans (s:Step Z H F Z1 H1 F1)(t:Step Z1 H1 F1 Z2 H2 F2):Step Z H F Z2 H2 F2 where
 keep:=fun a o h n=>t.keep a o (s.keep a o h n) fun q=>(s.fn a q).elim n fun z=>by rw [h] at z; cases z
 zm:=fun a h=>t.zm a (s.zm a h)
 zn:=fun a h=>by
  rcases t.zn a h with q | q | q
  ·exact s.zn a q
  ·exact .inr (s.fn a q)
  ·exact .inr (.inr (by
    cases e:H a with
    | none=>rfl
    | some o=>exact absurd q (s.al a (by rw [e]; simp))))
 fn:=fun a h=>by
  rcases t.fn a h with q | q
  ·exact s.fn a q
  ·exact .inr (by
    cases e:H a with
    | none=>rfl
    | some o=>exact absurd q (s.al a (by rw [e]; simp)))
 al:=fun a h=>t.al a (s.al a h)
 za:=fun z=>t.za (s.za z)
theorem Step.frame (R:Fp)(s:Step Z H F Z' H' F'):Step Z H (fun a=>F a\/R a) Z' H' (fun a=>F' a\/R a) where
 keep:=fun a o h n=>s.keep a o h fun q=>n (.inl q)
 zm:=s.zm
 zn:=fun a h=>(s.zn a h).imp id fun q=>q.imp .inl id
 fn:=fun a h=>h.elim (fun q=>(s.fn a q).imp .inl id) fun q=>.inl (.inr q)
 al:=s.al
 za:=s.za
theorem Step.mono (s:Step Z H F Z' H' F')(h1:∀ a,F a->F1 a)(h2:∀ a,F2 a->F' a):Step Z H F1 Z' H' F2 where
 keep:=fun a o h n=>s.keep a o h fun q=>n (h1 a q)
 zm:=s.zm
 zn:=fun a h=>(s.zn a h).imp id fun q=>q.imp (h1 a) id
 fn:=fun a h=>(s.fn a (h2 a h)).imp (h1 a) id
 al:=s.al
 za:=s.za
theorem Own.stay (o:Own Z H F)(s:Step Z H F Z' H' F'):Stay Z H H':=by
 refine ⟨fun a u hz h=>s.keep a u h fun q=>(o a q).1 hz,fun a xs h=>?_,fun a u v h=>s.keep a _ h fun q=>?_⟩
 ·rcases h with h | ⟨u,h⟩
  ·refine .inl (s.keep a _ h fun q=>?_)
   obtain ⟨_,ys,e⟩:=o a q
   rw [h] at e; exact nK e
  ·refine .inr ⟨u,s.keep a _ h fun q=>?_⟩
   obtain ⟨_,ys,e⟩:=o a q
   rw [h] at e; exact jP e
 ·obtain ⟨_,ys,e⟩:=o a q
  rw [h] at e; exact jP e
theorem Rep.frame {m:Md}{t:T}{v:V}(o:Own Z H F)(s:Step Z H F Z' H' F')(d:∀ a,G a->¬ F a)(h:Rep K Z H m t v G):Rep K Z' H' m t v G:=h.keep (o.stay s) s.zm fun a u ha e=>s.keep a u e (d a ha)
theorem RepW.frame {ws:List W}{xs:List V}(o:Own Z H F)(s:Step Z H F Z' H' F')(d:∀ a,G a->¬ F a)(h:RepW K Z H ws xs G):RepW K Z' H' ws xs G:=h.keep (o.stay s) s.zm fun a u ha e=>s.keep a u e (d a ha)
theorem Own.frame (o:Own Z H G)(s:Step Z H F Z' H' F')(d:∀ a,G a->¬ F a):Own Z' H' G/\∀ a,G a->¬ F' a:=by
 refine ⟨fun a ha=>?_,fun a ha q=>?_⟩
 ·obtain ⟨nz,xs,e⟩:=o a ha
  refine ⟨fun q=>?_,xs,s.keep a _ e (d a ha)⟩
  rcases s.zn a q with z | z | z
  ·exact nz z
  ·exact d a ha z
  ·rw [e] at z; cases z
 ·obtain ⟨nz,xs,e⟩:=o a ha
  rcases s.fn a q with z | z
  ·exact d a ha z
  ·rw [e] at z; cases z
end
noncomputable abbrev Fps:=Nat->Fp
noncomputable def tot (Fs:Fps):Fp:=fun a=>∃ i,Fs i a
structure Gd (Z:Fp)(H:Hp)(Fs:Fps):Prop where
 own:Own Z H (tot Fs)
 dis:∀ i j a,Fs i a->Fs j a->i=j
 zal:∀ a,Z a->H a≠none
structure Cf where
 sl:Nat->Option Nat
 pv:Nat->Option V
noncomputable def D6 (K:a0a)(sl:Cf)(Z:Fp)(H:Hp)(η:Env)(σ:L2.St)(Fs:Fps):Prop :=
 ∀ i m t,rd η i=some (m,t)->∃ v,Rep K Z H m t v (Fs i)/\(∀ j,sl.sl i=some j->σ[j]?=some (some v))/\∀ u,sl.pv i=some u->v=u
structure At (K:a0a)(sl:Cf)(σ:L2.St)(Z:Fp)(H:Hp)(Fs:Fps)(η:Env)(G:Fp):Prop where
 gd:Gd Z H Fs
 env:D6 K sl Z H η σ Fs
 own:Own Z H G
 dis:∀ a,G a->¬ tot Fs a
 lk:∀ i u j,sl.pv i=some u->sl.sl i=some j->σ[j]?=some (some u)
 ln:∀ i j,sl.sl i=some j->j < σ.length
section
variable {K:a0a}{sl:Cf}{σ:L2.St}{Z Z':Fp}{H H':Hp}{Fs Fs':Fps}{η η':Env}{G G' R:Fp}
theorem At.frame (a:At K sl σ Z H Fs η R)(b:At K sl σ Z' H' Fs' η' G)(s:Step Z H (tot Fs) Z' H' (fun c=>tot Fs' c\/G c)) :
  At K sl σ Z' H' Fs' η' (fun c=>R c\/G c)/\Step Z H (fun c=>tot Fs c\/R c) Z' H' (fun c=>tot Fs' c\/(R c\/G c))/\∀ c,R c->¬ G c:=by
 have o:=a.own.frame s a.dis
 refine ⟨⟨b.gd,b.env,fun c hc=>hc.elim (o.1 c) (b.own c),fun c hc=>hc.elim (fun z q=>o.2 c z (.inl q)) (b.dis c),b.lk,b.ln⟩,(s.frame R).mono (fun _ z=>z) fun c hc=>?_,fun c z q=>o.2 c z (.inr q)⟩
 rcases hc with z | z | z
 ·exact .inl (.inl z)
 ·exact .inr z
 ·exact .inl (.inr z)
end
end MR
namespace MR
open L2 L3 M
open PySem (Addr Str sizeLine)
section
variable {K:a0a}{sl:Cf}{sf:Nat->Option Nat}{C:Call}{σ:L2.St}{Z Z' Z1:Fp}{H H' H1:Hp}{Fs Fs' Fs1:Fps}{η η' η1:Env}{G G' R F:Fp}
theorem At.mono (a:At K sl σ Z H Fs η G)(h:∀ c,G' c->G c):At K sl σ Z H Fs η G':=⟨a.gd,a.env,fun c hc=>a.own c (h c hc),fun c hc=>a.dis c (h c hc),a.lk,a.ln⟩
theorem At.bare (a:At K sl σ Z H Fs η G):At K sl σ Z H Fs η no:=a.mono fun _ z=>z.elim
noncomputable def wE (K:a0a)(sl:Nat->Option Nat)(C:Call)(e:E):TE:=fun σ H Q=>∃ pv Z Fs η w η',At K ⟨sl,pv⟩ σ Z H Fs η no/\evE C e η=.ok (w,η') /\
 ∀ v Z' H' Fs' G,At K ⟨sl,pv⟩ σ Z' H' Fs' η' G->Rep K Z' H' w.1 w.2 v G->Step Z H (tot Fs) Z' H' (fun a=>tot Fs' a\/G a)->Q v H'
noncomputable def wL (K:a0a)(sl:Nat->Option Nat)(C:Call)(es:List E):TA:=fun σ H Q=>∃ pv Z Fs η ws η',At K ⟨sl,pv⟩ σ Z H Fs η no/\evL C es η=.ok (ws,η') /\
 ∀ vs Z' H' Fs' G,At K ⟨sl,pv⟩ σ Z' H' Fs' η' G->RepW K Z' H' ws vs G->Step Z H (tot Fs) Z' H' (fun a=>tot Fs' a\/G a)->Q vs H'
theorem dX {e:E}{w:W}{Q:VK}(A:At K sl σ Z H Fs η R)(ev:evE C e η=.ok (w,η'))
  (k:∀ v Z' H' Fs' G,At K sl σ Z' H' Fs' η' (fun c=>R c\/G c)->Rep K Z' H' w.1 w.2 v G->(∀ c,R c->¬ G c)->Step Z H (tot Fs) Z' H' (fun a=>tot Fs' a\/G a) ->
   Step Z H (fun c=>tot Fs c\/R c) Z' H' (fun c=>tot Fs' c\/(R c\/G c))->Q v H'):wE K sl.sl C e σ H Q :=
 ⟨sl.pv,Z,Fs,η,w,η',A.bare,ev,fun v Z' H' Fs' G B r s=>by
  obtain ⟨h1,h2,h3⟩:=A.frame B s
  exact k v Z' H' Fs' G h1 r h3 s h2⟩
theorem By {es:List E}{ws:List W}{Q:List V->Hp->Prop}(A:At K sl σ Z H Fs η R)(ev:evL C es η=.ok (ws,η'))
  (k:∀ vs Z' H' Fs' G,At K sl σ Z' H' Fs' η' (fun c=>R c\/G c)->RepW K Z' H' ws vs G->(∀ c,R c->¬ G c)->Step Z H (tot Fs) Z' H' (fun a=>tot Fs' a\/G a) ->
   Step Z H (fun c=>tot Fs c\/R c) Z' H' (fun c=>tot Fs' c\/(R c\/G c))->Q vs H'):wL K sl.sl C es σ H Q :=
 ⟨sl.pv,Z,Fs,η,ws,η',A.bare,ev,fun v Z' H' Fs' G B r s=>by
  obtain ⟨h1,h2,h3⟩:=A.frame B s
  exact k v Z' H' Fs' G h1 r h3 s h2⟩
theorem aa {α β:Type}{r:Res α}{f:α->Res β}{b:β}(h:r.bind f=.ok b):∃ a,r=.ok a/\f a=.ok b:=by
 cases r with
 | ok a=>exact ⟨a,rfl,h⟩
 | ex c x=>cases h
 | no=>cases h
theorem ai {α:Type}{η:Env}{o:Option α}{b:α×Env}(h:ret η o=.ok b):∃ a,o=some a/\b=(a,η):=by
 cases o with
 | none=>cases h
 | some a=>exact ⟨a,rfl,by cases h; rfl⟩
theorem cO {α:Type}{o:Option α}{b:α}(h:ofO o=.ok b):o=some b:=by
 cases o with
 | none=>cases h
 | some a=>cases h; rfl
theorem aE {e:E}{es:List E}{ws:List W}(h:evL C (e::es) η=.ok (ws,η')):∃ w η1 us,evE C e η=.ok (w,η1)/\evL C es η1=.ok (us,η')/\ws=w::us:=by
 obtain ⟨⟨w,η1⟩,h1,h2⟩:=aa (show (evE C e η).bind (bb (evL C es))=_ from h)
 obtain ⟨⟨us,η2⟩,h3,h4⟩:=aa (show (evL C es η1).bind (k9 w)=_ from h2)
 cases h4
 exact ⟨w,η1,us,h1,h3,rfl⟩
theorem fH {e:E}{es:List E}{ws:List W}(he:∀ i,e≠.io i)(h:evA C (e::es) η=.ok (ws,η')):∃ w η1 us,evE C e η=.ok (w,η1)/\evA C es η1=.ok (us,η')/\ws=w::us:=by
 rw [wD he] at h
 obtain ⟨⟨w,η1⟩,h1,h2⟩:=aa h
 obtain ⟨⟨us,η2⟩,h3,h4⟩:=aa (show (evA C es η1).bind (k9 w)=_ from h2)
 cases h4
 exact ⟨w,η1,us,h1,h3,rfl⟩
theorem g8 {i:Nat}{es:List E}{ws:List W}(h:evA C (.io i::es) η=.ok (ws,η')):∃ us η1 w,evA C es η=.ok (us,η1)/\rd η1 i=some w/\ws=w::us/\η'=del η1 i:=by
 obtain ⟨⟨us,η1⟩,h1,h2⟩:=aa (show (evA C es η).bind (kIo i)=_ from h)
 obtain ⟨w,h3,h4⟩:=aa (show (ofO (rd η1 i)).bind (fun w=>.ok (w::us,del η1 i))=_ from h2)
 cases h4
 exact ⟨us,η1,w,h1,cO h3,rfl,rfl⟩
theorem Al (e:E):(∃ i,e=.io i)\/∀ i,e≠.io i:=by
 cases e with
 | io i=>exact .inl ⟨i,rfl⟩
 | _=>exact .inr fun _ z=>by cases z
theorem uO {e:E}{es:List E}(σ:L2.St)(H:Hp)(Q:List V->Hp->Prop)(h:wL K sf C (e::es) σ H Q):kG (wE K sf C e) (wL K sf C es) σ H Q:=by
 obtain ⟨pv,Z,Fs,η,ws,η',A,ev,k⟩:=h
 obtain ⟨w,η1,us,h1,h2,rfl⟩:=aE ev
 refine dX A h1 fun x Z1 H1 Fs1 G1 A1 r1 _ s1 _=>?_
 have A1':=A1.mono (G':=G1) fun _ z=>.inr z
 refine By A1' h2 fun xs Z2 H2 Fs2 G2 A2 r2 d2 s2 t2=>?_
 refine k (x::xs) Z2 H2 Fs2 _ A2 ⟨x,xs,G1,G2,rfl,fun _ z=>.inl z,fun _ z=>.inr z,d2,r1.frame A1.gd.own s2 A1'.dis,r2⟩ ?_
 exact s1.trans t2
theorem x8 (σ:L2.St)(H:Hp)(Q:List V->Hp->Prop)(h:wL K sf C [] σ H Q):xX σ H Q:=by
 obtain ⟨pv,Z,Fs,η,ws,η',A,ev,k⟩:=h
 cases ev
 exact k [] Z H Fs no A rfl ((Step.refl _ _ _).mono (fun _ z=>z) fun a ha=>ha.elim id fun z=>z.elim)
noncomputable def Out (K:a0a)(Z:Fp)(H:Hp)(G:Fp)(w:W)(Q:VK):Prop:=∀ v Z' H' G',Rep K Z' H' w.1 w.2 v G'->Own Z' H' G'->Step Z H G Z' H' G'->Q v H'
theorem At.op (A:At K sl σ Z H Fs η G)(o:Own Z' H' G')(s:Step Z H G Z' H' G'):At K sl σ Z' H' Fs η G'/\Step Z H (fun c=>tot Fs c\/G c) Z' H' (fun c=>tot Fs c\/G' c):=by
 have d:∀ a,tot Fs a->¬ G a:=fun a h q=>A.dis a q h
 have f:=A.gd.own.frame s d
 refine ⟨⟨⟨f.1,A.gd.dis,s.za A.gd.zal⟩,fun i m t e=>?_,o,fun a ha q=>f.2 a q ha,A.lk,A.ln⟩,?_⟩
 ·obtain ⟨v,r,hv⟩:=A.env i m t e
  exact ⟨v,r.frame A.own s fun a ha=>d a ⟨i,ha⟩,hv⟩
 ·refine (s.frame (tot Fs)).mono (fun _ z=>z.symm) fun _ z=>z.symm
theorem cI {w:W}{Q:VK}(A:At K sl σ Z1 H1 Fs1 η1 G)(s:Step Z H F Z1 H1 (fun a=>tot Fs1 a\/G a))
  (k:∀ v Z' H' Fs' G,At K sl σ Z' H' Fs' η1 G->Rep K Z' H' w.1 w.2 v G->Step Z H F Z' H' (fun a=>tot Fs' a\/G a)->Q v H'):Out K Z1 H1 G w Q:=fun v Z' H' G' r o t=>by
 obtain ⟨B,u⟩:=A.op o t
 exact k v Z' H' Fs1 G' B r (s.trans u)
noncomputable def Loc (K:a0a)(n:Nat)(o:Op)(h:Bool)(r:List V->Hp->VK->Prop):Prop:=∀ (ws:List W) (w:W) (xs:List V) (Z:Fp) (H:Hp) (G:Fp) (Q:VK),ws.length=n->oSem o h ws=some w->RepW K Z H ws xs G->Own Z H G->(∀ a,Z a->H a≠none)->Out K Z H G w Q->r xs H Q
theorem dq {o:Op}{h:Bool}{es:List E}{w:W}(e:evE C (.op o h es) η=.ok (w,η')):∃ ws,evL C es η=.ok (ws,η')/\oSem o h ws=some w:=by
 obtain ⟨⟨ws,η1⟩,h1,h2⟩:=aa (show (evL C es η).bind (kOp o h)=_ from e)
 obtain ⟨a,h3,h4⟩:=ai (show ret η1 (oSem o h ws)=_ from h2)
 cases h4
 exact ⟨ws,h1,h3⟩
theorem eD:∀ {es:List E} {η η':Env} {ws:List W},evL C es η=.ok (ws,η')->ws.length=es.length
 | [],_,_,_,h=>by cases h; rfl
 | e::es,_,_,_,h=>by
  obtain ⟨w,η1,us,_,h2,rfl⟩:=aE h
  rw [a0c,a0c,eD h2]
theorem dJ {n:Nat}{o:Op}{h:Bool}{es:List E}{r:List V->Hp->VK->Prop}(l:Loc K n o h r)(hn:es.length=n)(σ:L2.St)(H:Hp)(Q:VK)(hw:wE K sf C (.op o h es) σ H Q):tCB r (wL K sf C es) σ H Q:=by
 obtain ⟨pv,Z,Fs,η,w,η',A,ev,k⟩:=hw
 obtain ⟨ws,h1,h2⟩:=dq ev
 exact ⟨pv,Z,Fs,η,ws,η',A,h1,fun vs Z' H' Fs' G B r s=>l ws w vs Z' H' G Q ((eD h1).trans hn) h2 r B.own B.gd.zal (cI B s k)⟩
theorem xl {o:Op}{h:Bool}{a:E}{r:V->Hp->VK->Prop}(l:Loc K 1 o h fun xs H Q=>∀ x,xs=[x]->r x H Q)(σ:L2.St)(H:Hp)(Q:VK)(hw:wE K sf C (.op o h [a]) σ H Q):tUn r (wE K sf C a) σ H Q:=by
 obtain ⟨pv,Z,Fs,η,w,η',A,ev,k⟩:=hw
 obtain ⟨ws,h1,h2⟩:=dq ev
 obtain ⟨wa,η1,us,e1,e2,rfl⟩:=aE h1
 cases e2
 refine ⟨pv,Z,Fs,η,wa,η',A,e1,fun x Z' H' Fs' G B r s=>l [wa] w [x] Z' H' G Q rfl h2 (RepW.one r) B.own B.gd.zal (cI B s k) x rfl⟩
theorem aM {o:Op}{h:Bool}{a b:E}{r:R2}(l:Loc K 2 o h fun xs H Q=>∀ x y,xs=[x,y]->r x y H Q)(σ:L2.St)(H:Hp)(Q:VK)(hw:wE K sf C (.op o h [a,b]) σ H Q):tOp r (wE K sf C a) (wE K sf C b) σ H Q:=by
 obtain ⟨pv,Z,Fs,η,w,η',A,ev,k⟩:=hw
 obtain ⟨ws,h1,h2⟩:=dq ev
 obtain ⟨wa,η1,us,e1,e2,rfl⟩:=aE h1
 obtain ⟨wb,η2,us,e3,e4,rfl⟩:=aE e2
 cases e4
 refine dX A e1 fun x Z1 H1 Fs1 G1 A1 r1 _ s1 _=>?_
 have A1':=A1.mono (G':=G1) fun _ z=>.inr z
 refine dX A1' e3 fun y Z2 H2 Fs2 G2 A2 r2 d2 s2 t2=>?_
 exact l [wa,wb] w [x,y] Z2 H2 _ Q rfl h2 ⟨x,[y],G1,G2,rfl,fun _ z=>.inl z,fun _ z=>.inr z,d2,r1.frame A1.gd.own s2 A1'.dis,RepW.one r2⟩ A2.own A2.gd.zal (cI A2 (s1.trans t2) k) x y rfl
theorem cp:Own Z H no:=fun _ z=>z.elim
theorem Step.drop:Step Z H G Z H no:=(Step.refl Z H G).mono (fun _ z=>z) fun _ z=>z.elim
section
variable {Q:VK}{m:Md}{ts:List T}{xs:List V}
theorem aJ {i:Int}(k:Out K Z H G (m,.int i) Q):Q (.int i) H:=k _ Z H no rfl cp .drop
theorem bG {b:Bool}(k:Out K Z H G (m,.bl b) Q):Q (.bl b) H:=k _ Z H no rfl cp .drop
theorem kQ {x:Str}(k:Out K Z H G (m,.str x) Q)(h:sOk x=true):Q (.str x) H:=k _ Z H no ⟨rfl,h⟩ cp .drop
theorem ff {t:T}{v:V}(o:Own Z H G)(k:Out K Z H G (m,t) Q)(r:Rep K Z H m t v G):Q v H:=k v Z H G r o (.refl _ _ _)
theorem iI {p:Addr}{o:HO}(hp:H p=none):Stay Z H (upd H p o):=by
 have ne:∀ {a u},H a=some u->a≠p:=fun {a u} e z=>by subst z; rw [hp] at e; cases e
 refine ⟨fun a u _ e=>?_,fun a xs e=>?_,fun a u v e=>?_⟩
 ·rw [af (ne e)]; exact e
 ·rcases e with e | ⟨u,e⟩
  ·exact .inl (by rw [af (ne e)]; exact e)
  ·exact .inr ⟨u,by rw [af (ne e)]; exact e⟩
 ·rw [af (ne e)]; exact e
theorem iY {p:Addr}{o:HO}(hp:H p=none)(ow:Own Z H G)(hg:∀ a,G' a->G a\/a=p)(z:Fp)(hz:∀ a,Z a->z a)(hz':∀ a,z a->Z a\/G a):Step Z H G z (upd H p o) G':=by
 have ne:∀ {a u},H a=some u->a≠p:=fun {a u} e q=>by subst q; rw [hp] at e; cases e
 have al:∀ a,H a≠none->upd H p o a≠none:=fun a h=>by
  by_cases e:a=p
  ·rw [e,aQ]; simp
  ·rw [af e]; exact h
 refine ⟨fun a u e _=>by rw [af (ne e)]; exact e,hz,fun a h=>(hz' a h).imp id .inl,fun a h=>(hg a h).imp id fun e=>by rw [e]; exact hp,al,fun q a h=>al a ?_⟩
 rcases hz' a h with c | c
 ·exact q a c
 ·obtain ⟨_,xs,e⟩:=ow a c
  rw [e]; simp
theorem cb {p:Addr}(ow:Own Z H G)(za:∀ a,Z a->H a≠none)(hg:∀ a,G' a->G a)(hl:xs.length<=LIM)(r:RepL K (cB Z G G') H m.kid ts xs G')(hm:m≠.s)(k:Out K Z H G (m,.lst ts) Q)(hp:H p=none):Q (.ref p) (upd H p (.lst xs)):=by
 have ne:∀ {a u},H a=some u->a≠p:=fun {a u} e q=>by subst q; rw [hp] at e; cases e
 have np:∀ a,G' a->a≠p:=fun a h=>by obtain ⟨_,ys,e⟩:=ow a (hg a h); exact ne e
 refine k _ (cB Z G G') _ (fun a=>G' a\/a=p) ⟨p,xs,rfl,hl,(LstR.own hm).mpr ⟨.inr rfl,aQ⟩,?_⟩ ?_ (iY hp ow (fun a h=>h.imp (hg a) id) _ (fun a h=>.inl h) fun a h=>h.imp id a2N)
 ·refine (r.keep (iI hp) (fun _ z=>z) fun a u _ e=>by rw [af (ne e)]; exact e).mono fun a h=>⟨.inl h,np a h⟩
 ·rintro a (h | h)
  ·obtain ⟨nz,ys,e⟩:=ow a (hg a h)
   exact ⟨fun z=>z.elim nz fun q=>q.2 h,ys,by rw [af (ne e)]; exact e⟩
  ·subst h
   refine ⟨fun z=>z.elim (fun q=>za a q hp) fun q=>?_,.inl xs,aQ⟩
   obtain ⟨_,ys,e⟩:=ow a q.1
   rw [hp] at e; cases e
theorem kF {p:Addr}(ow:Own Z H G)(hg:∀ a,G' a->G a)(hl:xs.length<=LIM)(r:RepL K (cB Z G G') H m.kid ts xs G')(k:Out K Z H G (m,.tup ts) Q)(hp:H p=none):Q (.ref p) (upd H p (.tup xs)):=by
 have ne:∀ {a u},H a=some u->a≠p:=fun {a u} e q=>by subst q; rw [hp] at e; cases e
 refine k _ (cB Z G G') _ G' ⟨p,xs,rfl,.inl (.inl aQ),hl,?_⟩ ?_ (iY hp ow (fun a h=>.inl (hg a h)) _ (fun a h=>.inl h) fun a h=>h.imp id a2N)
 ·exact r.keep (iI hp) (fun _ z=>z) fun a u _ e=>by rw [af (ne e)]; exact e
 ·intro a h
  obtain ⟨nz,ys,e⟩:=ow a (hg a h)
  exact ⟨fun z=>z.elim nz fun q=>q.2 h,ys,by rw [af (ne e)]; exact e⟩
theorem fB {v:V}{H':Hp}(ow:Own Z H G)(hg:∀ a,G' a->G a)(hl:xs.length<=LIM)(r:RepL K (cB Z G G') H m.kid ts xs G')(k:Out K Z H G (m,.tup ts) Q)(same:∀ b o,H b=some o->H' b=some o)(hv:∃ c,v=.ref c/\SqT K H' c xs):Q v H':=by
 obtain ⟨c,rfl,hs⟩:=hv
 have al:∀ a,H a≠none->H' a≠none:=fun a h=>by
  cases e:H a with
  | none=>exact absurd e h
  | some o=>rw [same a o e]; simp
 refine k _ (cB Z G G') _ G' ⟨c,xs,rfl,hs,hl,?_⟩ (fun a h=>?_) ⟨fun a o e _=>same a o e,fun a h=>.inl h,fun a h=>h.imp id fun q=>.inl q.1,fun a h=>.inl (hg a h),al,fun q a h=>al a ?_⟩
 ·refine r.keep ⟨fun a o _ e=>same a o e,fun a ys e=>?_,fun a o u e=>same a _ e⟩ (fun _ z=>z) fun a u _ e=>same a u e
  rcases e with e | ⟨u,e⟩
  ·exact .inl (same a _ e)
  ·exact .inr ⟨u,same a _ e⟩
 ·obtain ⟨nz,ys,e⟩:=ow a (hg a h)
  exact ⟨fun z=>z.elim nz fun q=>q.2 h,ys,same a _ e⟩
 ·rcases h with h | h
  ·exact q a h
  ·obtain ⟨_,ys,e⟩:=ow a h.1
   rw [e]; simp
theorem cU {p:Addr}{h:Bool}{w:W}(ow:Own Z H G)(za:∀ a,Z a->H a≠none)(hl:xs.length<=LIM)(r:∃ G',(∀ a,G' a->G a)/\RepL K (cB Z G G') H m ts xs G')(hn:newL h m ts=some w)(k:Out K Z H G w Q)(hp:H p=none):Q (.ref p) (upd H p (.lst xs)):=by
 obtain ⟨G',hg,r⟩:=r
 unfold newL at hn
 split at hn
 ·split at hn
  ·rename_i hlv
   cases hn
   refine cb (m:=.d) (G':=no) ow za (fun _ z=>z.elim) hl ?_ (by simp) k hp
   exact r.leaves (fun _ _ _ e=>e) hlv
  ·cases hn
 ·cases hn
  exact cb (m:=m.up) ow za hg hl (by rw [eH]; exact r) (d7 m) k hp
end
end
end MR
namespace MR
open L2 L3 M
open PySem (Addr Str sizeLine)
section
variable {K:a0a}{h:Bool}
theorem dw {α β:Type}{ws:List α}{x y:β}(e:ws.length=[x,y].length):∃ a b,ws=[a,b]:=by
 match ws,e with
 | [a,b],_=>exact ⟨a,b,rfl⟩
theorem Ck {α β:Type}{ws:List α}{x:β}(e:ws.length=[x].length):∃ a,ws=[a]:=by
 match ws,e with
 | [a],_=>exact ⟨a,rfl⟩
theorem bV {Z:Fp}{H:Hp}{G:Fp}{u w:W}{x y:V}(r:RepW K Z H [u,w] [x,y] G):∃ G1 G2,(∀ a,G1 a->G a)/\(∀ a,G2 a->G a)/\(∀ a,G1 a->¬ G2 a)/\Rep K Z H u.1 u.2 x G1/\Rep K Z H w.1 w.2 y G2:=by
 obtain ⟨x',r',G1,G2,e,h1,h2,d,p,y',r2,G3,G4,e2,h3,h4,d2,q,z⟩:=r
 cases e; cases e2
 exact ⟨G1,G3,h1,fun a ha=>h2 a (h3 a ha),fun a ha hb=>d a ha (h3 a hb),p,q⟩
theorem vZ {Z:Fp}{H:Hp}{G:Fp}{w:W}{x:V}(r:RepW K Z H [w] [x] G):Rep K Z H w.1 w.2 x G:=by
 obtain ⟨x',r',G1,G2,e,h1,h2,d,p,z⟩:=r
 cases e
 exact p.mono h1
theorem bq {ws:List W}{xs:List V}{Z:Fp}{H:Hp}{G:Fp}{w:W}(hw:ws=[w])(r:RepW K Z H ws xs G):∃ x,xs=[x]/\Rep K Z H w.1 w.2 x G:=by
 subst hw
 obtain ⟨x,hx⟩:=Ck (x:=()) (show xs.length=[()].length from r.length)
 subst hx
 exact ⟨x,rfl,vZ r⟩
theorem jE {n:Nat}(h:n<=LIM):n < sizeLine:=a2y h (by decide)
theorem bQ {n:Nat}(h:n<=LIM):n<=sizeLine:=a2h (jE h)
theorem cj {n:Nat}(h:fits n=true):n<=LIM:=of_decide_eq_true h
theorem nR {o:Op}{C:Int->Int->Prop}{g:Int->Int->T}(inv:∀ {u v w:W},oSem o h [u,v]=some w->∃ m n i j,u=(m,.int i)/\v=(n,.int j)/\C i j/\w=(.d,g i j))(gv:Int->Int->V)(hg:∀ {Z:Fp} {H:Hp} {G:Fp} {Q:VK} {i j:Int},Out K Z H G (.d,g i j) Q->Q (gv i j) H) :
  Loc K 2 o h fun xs H Q=>∀ x y,xs=[x,y]->rI C gv x y H Q:=by
 intro ws w xs Z H G Q hn e r ow za k x y hx
 subst hx
 obtain ⟨u,v,rfl⟩:=dw r.length.symm
 obtain ⟨m,n,i,j,rfl,rfl,c,rfl⟩:=inv e
 obtain ⟨G1,G2,_,_,_,r1,r2⟩:=bV r
 exact ⟨i,j,r1,r2,c,hg k⟩
theorem fA {o:Op}{g:Int->Int->T}(inv:∀ {u v w:W},oSem o h [u,v]=some w->∃ m n i j,u=(m,.int i)/\v=(n,.int j)/\w=(.d,g i j))(gv:Int->Int->V)(hg:∀ {Z:Fp} {H:Hp} {G:Fp} {Q:VK} {i j:Int},Out K Z H G (.d,g i j) Q->Q (gv i j) H) :
  Loc K 2 o h fun xs H Q=>∀ x y,xs=[x,y]->rI0 gv x y H Q:=by
 intro ws w xs Z H G Q hn e r ow za k x y hx
 subst hx
 obtain ⟨u,v,rfl⟩:=dw r.length.symm
 obtain ⟨m,n,i,j,rfl,rfl,rfl⟩:=inv e
 obtain ⟨G1,G2,_,_,_,r1,r2⟩:=bV r
 exact ⟨i,j,r1,r2,hg k⟩
theorem sF {u v w:W}(e:oSem .sub h [u,v]=some w):∃ m n i j,u=(m,.int i)/\v=(n,.int j)/\w=(.d,.int (i-j)):=by
 obtain ⟨m,a⟩:=u; obtain ⟨n,b⟩:=v
 cases a<;>first | (cases e; done) | (cases b<;>first | (cases e; exact ⟨_,_,_,_,rfl,rfl,rfl⟩) | cases e)
theorem oG {u v w:W}(e:oSem .lt h [u,v]=some w):∃ m n i j,u=(m,.int i)/\v=(n,.int j)/\w=(.d,.bl (decide (i < j))):=by
 obtain ⟨m,a⟩:=u; obtain ⟨n,b⟩:=v
 cases a<;>first | (cases e; done) | (cases b<;>first | (cases e; exact ⟨_,_,_,_,rfl,rfl,rfl⟩) | cases e)
theorem df {u v w:W}(e:oSem .le h [u,v]=some w):∃ m n i j,u=(m,.int i)/\v=(n,.int j)/\w=(.d,.bl (decide (i<=j))):=by
 obtain ⟨m,a⟩:=u; obtain ⟨n,b⟩:=v
 cases a<;>first | (cases e; done) | (cases b<;>first | (cases e; exact ⟨_,_,_,_,rfl,rfl,rfl⟩) | cases e)
theorem qk {u v w:W}(e:oSem .gt h [u,v]=some w):∃ m n i j,u=(m,.int i)/\v=(n,.int j)/\w=(.d,.bl (decide (j < i))):=by
 obtain ⟨m,a⟩:=u; obtain ⟨n,b⟩:=v
 cases a<;>first | (cases e; done) | (cases b<;>first | (cases e; exact ⟨_,_,_,_,rfl,rfl,rfl⟩) | cases e)
theorem oB {u v w:W}(e:oSem .ge h [u,v]=some w):∃ m n i j,u=(m,.int i)/\v=(n,.int j)/\w=(.d,.bl (decide (j<=i))):=by
 obtain ⟨m,a⟩:=u; obtain ⟨n,b⟩:=v
 cases a<;>first | (cases e; done) | (cases b<;>first | (cases e; exact ⟨_,_,_,_,rfl,rfl,rfl⟩) | cases e)
theorem nX {u v w:W}(e:oSem .fdiv h [u,v]=some w):∃ m n i j,u=(m,.int i)/\v=(n,.int j)/\yQ i j/\w=(.d,.int (i / j)):=by
 obtain ⟨m,a⟩:=u; obtain ⟨n,b⟩:=v
 cases a<;>first | (cases e; done) | (cases b<;>try (cases e; done))
 rename_i i j
 rw [qM] at e
 split at e
 ·rename_i hc
  rw [a0j,decide_eq_true_eq,decide_eq_true_eq] at hc
  cases e
  exact ⟨_,_,_,_,rfl,rfl,hc,rfl⟩
 ·cases e
theorem tF {u v w:W}(e:oSem .mod h [u,v]=some w):∃ m n i j,u=(m,.int i)/\v=(n,.int j)/\(0 < j)/\w=(.d,.int (i % j)):=by
 obtain ⟨m,a⟩:=u; obtain ⟨n,b⟩:=v
 cases a<;>first | (cases e; done) | (cases b<;>try (cases e; done))
 rename_i i j
 rw [vP] at e
 split at e
 ·rename_i hc
  rw [decide_eq_true_eq] at hc
  cases e
  exact ⟨_,_,_,_,rfl,rfl,hc,rfl⟩
 ·cases e
theorem sU {u v w:W}(e:oSem .pow h [u,v]=some w):∃ m n i j,u=(m,.int i)/\v=(n,.int j)/\xT i j/\w=(.d,.int (i ^ j.toNat)):=by
 obtain ⟨m,a⟩:=u; obtain ⟨n,b⟩:=v
 cases a<;>first | (cases e; done) | (cases b<;>try (cases e; done))
 rename_i i j
 rw [vI] at e
 split at e
 ·rename_i hc
  rw [a0j,a0j,decide_eq_true_eq,decide_eq_true_eq,decide_eq_true_eq] at hc
  cases e
  exact ⟨_,_,_,_,rfl,rfl,⟨hc.1.1,hc.1.2,hc.2⟩,rfl⟩
 ·cases e
theorem ug:Loc K 2 .sub h fun xs H Q=>∀ x y,xs=[x,y]->rI0 (fun i j=>.int (i-j)) x y H Q:=fA sF _ fun k=>aJ k
theorem yZ:Loc K 2 .lt h fun xs H Q=>∀ x y,xs=[x,y]->rI0 (fun i j=>.bl (decide (i < j))) x y H Q:=fA oG _ fun k=>bG k
theorem xO:Loc K 2 .le h fun xs H Q=>∀ x y,xs=[x,y]->rI0 (fun i j=>.bl (decide (i<=j))) x y H Q:=fA df _ fun k=>bG k
theorem nN:Loc K 2 .gt h fun xs H Q=>∀ x y,xs=[x,y]->rI0 (fun i j=>.bl (decide (j < i))) x y H Q:=fA qk _ fun k=>bG k
theorem nI:Loc K 2 .ge h fun xs H Q=>∀ x y,xs=[x,y]->rI0 (fun i j=>.bl (decide (j<=i))) x y H Q:=fA oB _ fun k=>bG k
theorem qB:Loc K 2 .fdiv h fun xs H Q=>∀ x y,xs=[x,y]->rI yQ (fun i j=>.int (i / j)) x y H Q:=nR nX _ fun k=>aJ k
theorem uY:Loc K 2 .mod h fun xs H Q=>∀ x y,xs=[x,y]->rI (fun _ j=>0 < j) (fun i j=>.int (i % j)) x y H Q:=nR tF _ fun k=>aJ k
theorem uf:Loc K 2 .pow h fun xs H Q=>∀ x y,xs=[x,y]->rI xT (fun i j=>.int (i ^ j.toNat)) x y H Q:=nR sU _ fun k=>aJ k
theorem su:Loc K 1 .neg h fun xs H Q=>∀ x,xs=[x]->rU (fun i=>.int (-i)) x H Q:=by
 intro ws w xs Z H G Q hn e r ow za k x hx
 subst hx
 obtain ⟨⟨m,a⟩,rfl⟩:=Ck r.length.symm
 cases a<;>first | (cases e; exact ⟨_,vZ r,aJ k⟩) | cases e
theorem bj {Z:Fp}{H:Hp}{G:Fp}{m:Md}{ts:List T}{v:V}(r:Rep K Z H m (.lst ts) v G):∃ a xs,v=.ref a/\H a=some (.lst xs)/\xs.length<=LIM/\RepL K Z H m.kid ts xs G:=by
 obtain ⟨a,xs,e,l,q,p⟩:=r
 exact ⟨a,xs,e,by cases m<;>exact q.2,l,p.mono fun _ z=>z.1⟩
theorem bH {Z:Fp}{H:Hp}{G:Fp}{m:Md}{ts:List T}{v:V}(r:Rep K Z H m (.tup ts) v G):∃ a xs,v=.ref a/\SqT K H a xs/\xs.length<=LIM/\RepL K Z H m.kid ts xs G:=r
theorem ib {Z:Fp}{H:Hp}{G G1 G2:Fp}{m n:Md}{ts us:List T}{xs ys:List V}(w1:∀ a,G1 a->G a)(w2:∀ a,G2 a->G a)(d:∀ a,G1 a->¬ G2 a)(r1:RepL K Z H m ts xs G1)(r2:RepL K Z H n us ys G2) :
  ∃ G',(∀ a,G' a->G a)/\RepL K (cB Z G G') H (m.meet n) (ts++us) (xs++ys) G':=by
 obtain ⟨A,a1,a2⟩:=RepL.weak (dR m n).1 r1
 obtain ⟨B,b1,b2⟩:=RepL.weak (dR m n).2 r2
 refine ⟨fun b=>A b\/B b,fun b hb=>hb.elim (fun z=>w1 b (a1 b z)) fun z=>w2 b (b1 b z),RepL.append (fun _ z=>.inl z) (fun _ z=>.inr z) (fun b za zb=>d b (a1 b za) (b1 b zb)) (a2.zmono fun b hb=>?_) (b2.zmono fun b hb=>?_)⟩
 ·exact hb.imp id fun z=>⟨w1 b z.1,fun q=>q.elim z.2 fun w=>d b z.1 (b1 b w)⟩
 ·exact hb.imp id fun z=>⟨w2 b z.1,fun q=>q.elim (fun w=>d b (a1 b w) z.1) z.2⟩
theorem sW {p q:Str}(h1:sOk p=true)(h2:sOk q=true)(hl:p.cps.size+q.cps.size<=LIM):sOk (p++q)=true:=by
 unfold sOk at *
 rw [a0j] at *
 refine ⟨?_,decide_eq_true ?_⟩
 ·show Array.all (p.cps++q.cps) _=true
  rw [Array.all_append,a0j]
  exact ⟨h1.1,h2.1⟩
 ·show (p.cps++q.cps).size<=LIM
  rw [Array.size_append]
  exact hl
theorem vd (rT:R2)(hT:∀ {Z:Fp} {H:Hp} {G:Fp} {Q:VK} {a b:Addr} {xs ys:List V} {ts:List T},SqT K H a xs->SqT K H b ys->xs≠[]->xs.length+ys.length<=LIM->Own Z H G->(∃ G',(∀ a,G' a->G a)/\RepL K (cB Z G G') H .s ts (xs++ys) G')->Out K Z H G (.s,.tup ts) Q->rT (.ref a) (.ref b) H Q) :
  Loc K 2 .add h fun xs H Q=>∀ x y,xs=[x,y]->rI0 (fun i j=>.int (i+j)) x y H Q\/(∃ i j,x=.str i/\y=.str j/\i.length+j.length<=sizeLine/\Q (.str (i++j)) H)\/AW x y H Q\/rT x y H Q:=by
 intro ws w xs Z H G Q hn e r ow za k x y hx
 subst hx
 obtain ⟨⟨m,a⟩,⟨n,b⟩,rfl⟩:=dw r.length.symm
 obtain ⟨G1,G2,w1,w2,d,r1,r2⟩:=bV r
 cases a<;>first | (cases e; done) | (cases b<;>try (cases e; done))
 ·cases e
  exact .inl ⟨_,_,r1,r2,aJ k⟩
 ·rename_i p q
  rw [nY] at e
  split at e
  ·rename_i hf
   cases e
   refine .inr (.inl ⟨p,q,r1.1,r2.1,bQ (cj hf),kQ k ?_⟩)
   exact sW r1.2 r2.2 (cj hf)
  ·cases e
 ·rename_i ts us
  rw [oq] at e
  split at e
  ·rename_i hf
   cases e
   rw [a0j] at hf
   obtain ⟨a,xs,rfl,hs,hl,p⟩:=bH r1
   obtain ⟨b,ys,rfl,hs2,hl2,p2⟩:=bH r2
   have hlen:=cj hf.1
   have e1:=p.length
   have e2:=p2.length
   refine .inr (.inr (.inr (hT hs hs2 ?_ (by omega) ow ?_ k)))
   ·rintro rfl
    cases ts with
    | nil=>simp at hf
    | cons _ _=>simp at e1
   ·refine ⟨no,fun _ z=>z.elim,RepL.append (G1:=no) (G2:=no) (fun _ z=>z) (fun _ z=>z) (fun _ z _=>z) ((RepL.sh p).zmono fun b hb=>?_) ((RepL.sh p2).zmono fun b hb=>?_)⟩
    ·exact hb.imp id fun z=>⟨w1 b z,fun q=>q⟩
    ·exact hb.imp id fun z=>⟨w2 b z,fun q=>q⟩
  ·cases e
 ·rename_i ts us
  rw [pW] at e
  split at e
  ·rename_i hf
   obtain ⟨a,xs,rfl,hs,hl,p⟩:=bj r1
   obtain ⟨b,ys,rfl,hs2,hl2,p2⟩:=bj r2
   have hlen:=cj hf
   have e1:=p.length
   have e2:=p2.length
   have hl3:(xs++ys).length<=LIM:=by rw [a0e]; omega
   refine .inr (.inr (.inl ⟨a,b,xs,ys,rfl,rfl,hs,hs2,bQ (by omega),fun q hq=>?_⟩))
   exact cU ow za hl3 (ib w1 w2 d p p2) e k hq
  ·cases e
theorem uQ:Loc K 2 .mul h fun xs H Q=>∀ x y,xs=[x,y]->rI CMul (fun i j=>.int (i * j)) x y H Q\/Bu x y H Q:=by
 intro ws w xs Z H G Q hn e r ow za k x y hx
 subst hx
 obtain ⟨⟨m,a⟩,⟨n,b⟩,rfl⟩:=dw r.length.symm
 obtain ⟨G1,G2,w1,w2,d,r1,r2⟩:=bV r
 cases a<;>first | (cases e; done) | (cases b<;>try (cases e; done))
 ·rename_i i j
  rw [ng] at e
  split at e
  ·rename_i hc
   cases e
   refine .inl ⟨i,j,r1,r2,?_,aJ k⟩
   rw [a2R,decide_eq_true_eq,decide_eq_true_eq] at hc
   have h64:(2:Int) ^ 64=18446744073709551616:=by decide
   unfold CMul
   rw [h64]
   omega
  ·cases e
 ·rename_i ts j
  have e':(if decide (j.natAbs < 4611686018427387904)&&fits (ts.length * j.toNat) then newL h .s (a0i j.toNat ts).flatten else none)=some w:=e
  split at e'
  ·rename_i hc
   rw [a0j,decide_eq_true_eq] at hc
   obtain ⟨a,xs,rfl,hs,hl,p⟩:=bj r1
   have hlen:=cj hc.2
   have e1:=p.length
   have hl3:((a0i j.toNat xs).flatten).length<=LIM:=by
    rw [List.length_flatten,List.map_replicate,List.sum_replicate_nat,e1,a26]; exact hlen
   refine .inr ⟨a,j,xs,rfl,r2,hs,by omega,by omega,bQ (by rw [e1]; exact hlen),fun q hq=>?_⟩
   refine cU ow za hl3 ⟨no,fun _ z=>z.elim,?_⟩ e' k hq
   have ps:=(RepL.sh p).zmono (Z':=cB Z G no) fun b hb=>hb.imp id fun z=>⟨w1 b z,fun q=>q⟩
   generalize j.toNat=c
   induction c with
   | zero=>exact rfl
   | succ c ih=>exact RepL.append (fun _ z=>z) (fun _ z=>z) (fun _ z _=>z) ps ih
  ·cases e'
theorem qW {Z:Fp}{H:Hp}{G:Fp}{m:Md}{ts:List T}{xs:List V}{i:Int}{t:T}(p:RepL K Z H m ts xs G)(e:M.atI ts i=some t):∃ x,L2.atI xs i=some x/\Rep K Z H m t x G:=by
 unfold M.atI at e
 have hn:M.ixN ts.length i=L2.ixN xs.length i:=by rw [p.length]; rfl
 cases e1:M.ixN ts.length i with
 | none=>rw [e1] at e; cases e
 | some j =>
  rw [e1] at e
  obtain ⟨x,hx,r⟩:=p.get (show ts[j]?=some t from e)
  refine ⟨x,?_,r⟩
  unfold L2.atI
  rw [<- hn,e1]
  exact hx
theorem ui {x:Str}{c:Nat}(h:sOk x=true)(hc:c∈x.cps.toList):sOk ⟨#[c]⟩=true:=by
 unfold sOk at *
 rw [a0j] at *
 refine ⟨?_,rfl⟩
 have h1:=h.1
 rw [a1F] at h1
 have h2:=h1 c (Array.mem_def.mpr hc)
 rw [a1F]
 intro y hy
 have:y=c:=by simpa using hy
 rw [this]; exact h2
theorem gO {x:Str}(h:sOk x=true):x.cps.size<=LIM:=by
 unfold sOk at h
 rw [a0j,decide_eq_true_eq] at h
 exact h.2
theorem wJ:Loc K 2 .ix h fun xs H Q=>∀ x y,xs=[x,y]->(∃ p xs i v,x=.ref p/\y=.int i/\(SqL K H p xs\/SqT K H p xs)/\L2.atI xs i=some v/\Q v H)\/(∃ z i c,x=.str z/\y=.int i/\z.length<=sizeLine/\L2.atI z.cps.toList i=some c/\Q (.str ⟨#[c]⟩) H):=by
 intro ws w xs Z H G Q hn e r ow za k x y hx
 subst hx
 obtain ⟨⟨m,a⟩,⟨n,b⟩,rfl⟩:=dw r.length.symm
 obtain ⟨G1,G2,w1,w2,d,r1,r2⟩:=bV r
 cases b with
 | int i =>
  cases a with
  | lst ts =>
   obtain ⟨a,xs,rfl,hs,hl,p⟩:=bj r1
   have e':(M.atI ts i).map (fun t=>(m.kid,t))=some w:=e
   cases e1:M.atI ts i with
   | none=>rw [e1] at e'; cases e'
   | some t =>
    rw [e1] at e'; cases e'
    obtain ⟨v,hv,rv⟩:=qW p e1
    exact .inl ⟨a,xs,i,v,rfl,r2,.inl (.inl (.inl hs)),hv,ff ow k (rv.mono w1)⟩
  | tup ts =>
   obtain ⟨a,xs,rfl,hs,hl,p⟩:=bH r1
   have e':(M.atI ts i).map (fun t=>(m.kid,t))=some w:=e
   cases e1:M.atI ts i with
   | none=>rw [e1] at e'; cases e'
   | some t =>
    rw [e1] at e'; cases e'
    obtain ⟨v,hv,rv⟩:=qW p e1
    exact .inl ⟨a,xs,i,v,rfl,r2,.inr hs,hv,ff ow k (rv.mono w1)⟩
  | str z =>
   have e':(M.atI z.cps.toList i).map (fun c=>((.d,.str ⟨#[c]⟩):W))=some w:=e
   cases e1:M.atI z.cps.toList i with
   | none=>rw [e1] at e'; cases e'
   | some c =>
    rw [e1] at e'; cases e'
    refine .inr ⟨z,i,c,r1.1,r2,bQ (gO r1.2),e1,kQ k (ui r1.2 ?_)⟩
    unfold M.atI at e1
    cases e2:M.ixN z.cps.toList.length i with
    | none=>rw [e2] at e1; cases e1
    | some j=>rw [e2] at e1; exact a1g e1
  | scr ns =>
   obtain ⟨a,rfl,hL,hs⟩:=r1
   have e':(M.atI ns i).map (fun n=>((.d,.int n):W))=some w:=e
   cases e1:M.atI ns i with
   | none=>rw [e1] at e'; cases e'
   | some n =>
    rw [e1] at e'; cases e'
    refine .inl ⟨a,_,i,.int n,rfl,r2,.inl hs.sq,?_,aJ k⟩
    unfold M.atI at e1
    unfold L2.atI
    rw [a0b]
    cases e2:M.ixN ns.length i with
    | none=>rw [e2] at e1; cases e1
    | some j =>
     rw [e2] at e1
     rw [show L2.ixN ns.length i=some j from e2]
     show (ns.map V.int)[j]?=_
     rw [a0A,show ns[j]?=some n from e1]
     rfl
  | _=>cases e
 | _=>cases a<;>cases e
theorem ti:Loc K 1 .len h fun xs H Q=>∃ x n,xs=[x]/\(match x with
  | .str y=>y.length<=sizeLine/\n=y.length
  | .byt y=>y.size<=sizeLine/\n=y.size
  | .ref p=>(∃ xs,SqL K H p xs/\n=xs.length)\/∃ xs,SqT K H p xs/\n=xs.length
  | _=>False)/\Q (.int (n:Nat)) H:=by
 intro ws w xs Z H G Q hn e r ow za k
 match ws,hn with
 | [(m,a)],_ =>
  obtain ⟨x,rfl,r1⟩:=bq rfl r
  cases a with
  | lst ts =>
   obtain ⟨a,xs,hx,hs,hl,p⟩:=bj r1
   cases e
   refine ⟨x,ts.length,rfl,?_,aJ k⟩
   rw [show x=.ref a from hx]
   exact .inl ⟨xs,.inl (.inl hs),p.length.symm⟩
  | tup ts =>
   obtain ⟨a,xs,hx,hs,hl,p⟩:=bH r1
   cases e
   refine ⟨x,ts.length,rfl,?_,aJ k⟩
   rw [show x=.ref a from hx]
   exact .inr ⟨xs,hs,p.length.symm⟩
  | str z =>
   cases e
   refine ⟨x,z.length,rfl,?_,aJ k⟩
   rw [show x=.str z from r1.1]
   exact ⟨bQ (gO r1.2),rfl⟩
  | scr ns =>
   obtain ⟨a,hx,hL,hs⟩:=r1
   cases e
   refine ⟨x,ns.length,rfl,?_,aJ k⟩
   rw [show x=.ref a from hx]
   exact .inl ⟨_,hs.sq,by rw [a0b]⟩
  | _=>cases e
theorem j3 {Z:Fp}{H:Hp}{G:Fp}{m:Md}:∀ ns:List Int,RepL K Z H m (ns.map T.int) (ns.map V.int) G
 | []=>rfl
 | n::ns=>⟨.int n,ns.map V.int,no,no,rfl,fun _ z=>z.elim,fun _ z=>z.elim,fun _ z=>z.elim,rfl,j3 ns⟩
theorem nh:Loc K 1 .list h fun xs H Q=>∃ p ys,xs=[.ref p]/\(SqL K H p ys\/SqT K H p ys)/\∀ l,H l=none->Q (.ref l) (upd H l (.lst ys)):=by
 intro ws w xs Z H G Q hn e r ow za k
 match ws,hn with
 | [(m,a)],_ =>
  obtain ⟨x,rfl,r1⟩:=bq rfl r
  cases a with
  | lst ts =>
   obtain ⟨a,xs,hx,hs,hl,p⟩:=bj r1
   refine ⟨a,xs,by rw [hx],.inl (.inl (.inl hs)),fun q hq=>cU ow za hl ⟨G,fun _ z=>z,p.zmono fun _ z=>.inl z⟩ e k hq⟩
  | tup ts =>
   obtain ⟨a,xs,hx,hs,hl,p⟩:=bH r1
   refine ⟨a,xs,by rw [hx],.inr hs,fun q hq=>cU ow za hl ⟨G,fun _ z=>z,p.zmono fun _ z=>.inl z⟩ e k hq⟩
  | scr ns =>
   obtain ⟨a,hx,hL,hs⟩:=r1
   cases e
   refine ⟨a,_,by rw [hx],.inl hs.sq,fun q hq=>cb (G':=no) ow za (fun _ z=>z.elim) (by rw [a0b]; exact hL) (j3 ns) (by simp) k hq⟩
  | _=>cases e
theorem i6 {Z:Fp}{H:Hp}{G:Fp}{m:Md}:∀ {ts:List T} {ns:List Int} {xs:List V},intsOf ts=some ns->RepL K Z H m ts xs G->xs=ns.map V.int:=by
 intro ts
 induction ts generalizing G with
 | nil=>intro ns xs e r; cases e; exact r
 | cons t ts ih =>
  intro ns xs e r
  obtain ⟨x,r',G1,G2,rfl,_,_,_,p,q⟩:=r
  cases t with
  | int i =>
   cases e1:intsOf ts with
   | none=>simp [intsOf,e1] at e
   | some ms =>
    have:ns=i::ms:=by simpa [intsOf,e1] using e.symm
    subst this
    rw [a0m,<- ih e1 q,show x=.int i from p]
  | _=>cases e
theorem lA {Z:Fp}{H:Hp}{G:Fp}{m:Md}:∀ {ts:List T} {ns:List Bool} {xs:List V},aS ts=some ns->RepL K Z H m ts xs G->xs=ns.map V.bl:=by
 intro ts
 induction ts generalizing G with
 | nil=>intro ns xs e r; cases e; exact r
 | cons t ts ih =>
  intro ns xs e r
  obtain ⟨x,r',G1,G2,rfl,_,_,_,p,q⟩:=r
  cases t with
  | bl i =>
   cases e1:aS ts with
   | none=>simp [aS,e1] at e
   | some ms =>
    have:ns=i::ms:=by simpa [aS,e1] using e.symm
    subst this
    rw [a0m,<- ih e1 q,show x=.bl i from p]
  | _=>cases e
theorem vo:Loc K 1 .sum h fun xs H Q=>∃ (a:Addr) (ns:List Int),xs=[.ref a]/\SqL K H a (ns.map V.int)/\Q (.int ns.sum) H:=by
 intro ws w xs Z H G Q hn e r ow za k
 match ws,hn with
 | [(m,a)],_ =>
  obtain ⟨x,rfl,r1⟩:=bq rfl r
  cases a with
  | lst ts =>
   obtain ⟨a,xs,hx,hs,hl,p⟩:=bj r1
   have e':(intsOf ts).map (fun ns=>((.d,.int ns.sum):W))=some w:=e
   cases e1:intsOf ts with
   | none=>rw [e1] at e'; cases e'
   | some ns =>
    rw [e1] at e'; cases e'
    rw [i6 e1 p] at hs
    exact ⟨a,ns,by rw [hx],.inl (.inl hs),aJ k⟩
  | _=>cases e
theorem ud:Loc K 1 .all h fun xs H Q=>∃ (a:Addr) (bs:List Bool),xs=[.ref a]/\SqL K H a (bs.map V.bl)/\Q (.bl (bs.all id)) H:=by
 intro ws w xs Z H G Q hn e r ow za k
 match ws,hn with
 | [(m,a)],_ =>
  obtain ⟨x,rfl,r1⟩:=bq rfl r
  cases a with
  | lst ts =>
   obtain ⟨a,xs,hx,hs,hl,p⟩:=bj r1
   have e':(aS ts).map (fun ns=>((.d,.bl (ns.all id)):W))=some w:=e
   cases e1:aS ts with
   | none=>rw [e1] at e'; cases e'
   | some ns =>
    rw [e1] at e'; cases e'
    rw [lA e1 p] at hs
    exact ⟨a,ns,by rw [hx],.inl (.inl hs),bG k⟩
  | _=>cases e
theorem uT:Loc K 2 .max h fun xs H Q=>∃ i j,xs=[.int i,.int j]/\Q (.int (if j > i then j else i)) H:=by
 intro ws w xs Z H G Q hn e r ow za k
 match ws,hn with
 | [(m,a),(n,b)],_ =>
  obtain ⟨x,y,hx⟩:∃ x y,xs=[x,y]:=dw (x:=()) (y:=()) (show xs.length=[(),()].length from r.length)
  subst hx
  obtain ⟨G1,G2,_,_,_,r1,r2⟩:=bV r
  cases a<;>first | (cases e; done) | (cases b<;>first | (cases e; exact ⟨_,_,by rw [show x=_ from r1,show y=_ from r2],aJ k⟩) | cases e)
end
end MR
namespace MR
open L2 L3 M
open PySem (Addr Str sizeLine)
section
variable {K:a0a}{sl:Cf}{sf:Nat->Option Nat}{C:Call}{σ:L2.St}{Z Z' Z1:Fp}{H H' H1:Hp}{Fs Fs' Fs1:Fps}{η η' η1:Env}{G G' R F:Fp}
mutual
theorem Rep.sany:∀ {t:T} {v:V} {G G':Fp},Rep K Z H .s t v G->Rep K Z H .s t v G'
 | .non,_,_,_,h=>h
 | .bl _,_,_,_,h=>h
 | .int _,_,_,_,h=>h
 | .str _,_,_,_,h=>h
 | .scr _,_,_,_,h=>h
 | .tup ts,_,_,_,⟨a,xs,e,q,l,r⟩=>⟨a,xs,e,q,l,RepL.sany r⟩
 | .lst ts,_,_,_,⟨a,xs,e,l,q,r⟩=>⟨a,xs,e,l,q,RepL.sany r⟩
 | .dct _ _,_,_,_,⟨a,xs,e,l,q,n,hl,r⟩=>⟨a,xs,e,l,q,n,hl,r⟩
 | .ins _ _ _,_,_,_,h=>h.elim
 | .gone,_,_,_,h=>h
theorem RepL.sany:∀ {ts:List T} {xs:List V} {G G':Fp},RepL K Z H .s ts xs G->RepL K Z H .s ts xs G'
 | [],_,_,_,h=>h
 | t::ts,xs,_,_,⟨x,r,G1,G2,e,h1,h2,hd,p,q⟩=>⟨x,r,no,no,e,fun _ z=>z.elim,fun _ z=>z.elim,fun _ z=>z.elim,Rep.sany p,RepL.sany q⟩
end
theorem bw:∀ (η:Env) (i j:Nat) (o:Option W),rd (wr η i o) j=if j=i/\i < η.length then o else rd η j
 | [],i,j,o=>by simp [wr,rd]
 | p::η,0,0,o=>by simp [wr,rd]
 | p::η,0,j+1,o=>by simp [wr,rd]
 | p::η,i+1,0,o=>by simp [wr,rd]
 | p::η,i+1,j+1,o=>by
  show rd (wr η i o) j=_
  rw [bw η i j o]
  simp [rd]
theorem dH:∀ {η:Env} {i:Nat} {w:W},rd η i=some w->i < η.length
 | [],_,_,h=>by cases h
 | _::_,0,_,_=>by simp
 | _::η,i+1,_,h=>by have:=dH (η:=η) (i:=i) h; simp; exact this
theorem dZ (h:∀ a,F a->G a):Step Z H G Z H F:=(Step.refl Z H G).mono (fun _ z=>z) h
theorem zw {i j:Nat}(hs:sf i=some j)(σ:L2.St)(H:Hp)(Q:VK)(h:wE K sf C (.var i) σ H Q):qD j σ H Q:=by
 obtain ⟨pv,Z,Fs,η,w,η',A,ev,k⟩:=h
 obtain ⟨w',e1,e2⟩:=ai (show ret η ((rd η i).bind look)=_ from ev)
 cases e2
 cases e3:rd η i with
 | none=>rw [e3] at e1; cases e1
 | some u =>
  rw [e3] at e1
  obtain ⟨m,t⟩:=u
  obtain ⟨v,r,hv⟩:=A.env i m t e3
  refine ⟨v,hv.1 j hs,k v Z H Fs no A ?_ (dZ fun a ha=>ha.elim id fun z=>z.elim)⟩
  cases m with
  | s=>cases e1; exact r.sany
  | d =>
   have e1':(if t.leaf=true then some (Md.d,t) else none)=some w:=e1
   split at e1'
   ·rename_i hl; cases e1'; exact r.leaf (fun _ _ _ q=>q) hl
   ·cases e1'
  | o m =>
   have e1':(if t.leaf=true then some (Md.d,t) else none)=some w:=e1
   split at e1'
   ·rename_i hl; cases e1'; exact r.leaf (fun _ _ _ q=>q) hl
   ·cases e1'
noncomputable def wG (Fs:Fps)(i:Nat):Fps:=fun j a=>j≠i/\Fs j a
theorem zo {e:E}{i j:Nat}(he:∀ η,evE C e η=ret (del η i) (rd η i))(hs:sf i=some j)(σ:L2.St)(H:Hp)(Q:VK)(h:wE K sf C e σ H Q):qD j σ H Q:=by
 obtain ⟨pv,Z,Fs,η,w,η',A,ev,k⟩:=h
 rw [he] at ev
 obtain ⟨w',e1,e2⟩:=ai ev
 cases e2
 obtain ⟨m,t⟩:=w
 obtain ⟨v,r,hv⟩:=A.env i m t e1
 refine ⟨v,hv.1 j hs,k v Z H (wG Fs i) (Fs i) ⟨⟨fun a ⟨l,h1,h2⟩=>A.gd.own a ⟨l,h2⟩,fun l l' a h1 h2=>A.gd.dis l l' a h1.2 h2.2,A.gd.zal⟩,fun l m' t' e=>?_,fun a ha=>A.gd.own a ⟨i,ha⟩,fun a ha ⟨l,h1,h2⟩=>h1 (A.gd.dis l i a h2 ha),A.lk,A.ln⟩ r (dZ fun a ha=>ha.elim (fun ⟨l,h1,h2⟩=>⟨l,h2⟩) fun z=>⟨i,z⟩)⟩
 rw [bw] at e
 split at e
 ·cases e
 ·rename_i hne
  obtain ⟨v',r',hv'⟩:=A.env l m' t' e
  have hli:l≠i:=fun z=>hne ⟨z,dH e1⟩
  exact ⟨v',r'.mono fun a ha=>⟨hli,ha⟩,hv'⟩
theorem fq {t:T}{v:V}(hv:∀ {Z:Fp} {H:Hp},Rep K Z H .d t v no)(σ:L2.St)(H:Hp)(Q:VK)(h:wE K sf C (.cst t) σ H Q):tC v σ H Q:=by
 obtain ⟨pv,Z,Fs,η,w,η',A,ev,k⟩:=h
 cases ev
 exact k v Z H Fs no A hv (dZ fun a ha=>ha.elim id fun z=>z.elim)
theorem zK {es:List E}(hn:es.length<=LIM)(σ:L2.St)(H:Hp)(Q:VK)(h:wE K sf C (.tup es) σ H Q):BW (wL K sf C es) σ H Q:=by
 obtain ⟨pv,Z,Fs,η,w,η',A,ev,k⟩:=h
 obtain ⟨⟨ws,η1⟩,h1,h2⟩:=aa (show (evL C es η).bind jR=_ from ev)
 cases h2
 refine ⟨pv,Z,Fs,η,ws,_,A,h1,fun vs Z' H' Fs' G B r s=>?_⟩
 have hl:vs.length<=LIM:=by rw [r.length,eD h1]; exact hn
 obtain ⟨G',g1,g2⟩:=RepW.to (fun u hu=>eI hu) r
 refine ⟨bQ hl,fun p hp=>kF (m:=(eJ ws).up) B.own g1 hl (by rw [eH]; exact g2) (cI B s k) hp⟩
theorem wu {b:Bool}{es:List E}(hn:es.length<=LIM)(σ:L2.St)(H:Hp)(Q:VK)(h:wE K sf C (.lst b es) σ H Q):Cq (wL K sf C es) σ H Q:=by
 obtain ⟨pv,Z,Fs,η,w,η',A,ev,k⟩:=h
 obtain ⟨⟨ws,η1⟩,h1,h2⟩:=aa (show (evL C es η).bind (nG b)=_ from ev)
 cases h2
 refine ⟨pv,Z,Fs,η,ws,_,A,h1,fun vs Z' H' Fs' G B r s=>?_⟩
 have hl:vs.length<=LIM:=by rw [r.length,eD h1]; exact hn
 refine ⟨bQ hl,fun p hp=>?_⟩
 cases b with
 | true =>
  obtain ⟨G',g1,g2⟩:=RepW.to (fun u hu=>eI hu) r
  exact cb (m:=(eJ ws).up) B.own B.gd.zal g1 hl (by rw [eH]; exact g2) (d7 _) (cI B s k) hp
 | false =>
  obtain ⟨G',g1,g2⟩:=RepW.to (N:=.s) (fun u hu=>by cases lf u.1 u.2<;>rfl) r
  exact cb (m:=.o .s) B.own B.gd.zal g1 hl g2 (by simp) (cI B s k) hp
noncomputable def wT (K:a0a)(sl:Nat->Option Nat)(C:Call)(e:E):TT:=fun σ H Q=>∃ pv Z Fs η w η' b,At K ⟨sl,pv⟩ σ Z H Fs η no/\evE C e η=.ok (w,η')/\truth w.2=some b /\
 ∀ Z' H' Fs',At K ⟨sl,pv⟩ σ Z' H' Fs' η' no->Step Z H (tot Fs) Z' H' (tot Fs')->Q b H'
noncomputable def TrV (K:a0a)(x:V)(H:Hp)(k:Bool):Prop :=
 match x with
 | .non=>k=false
 | .bl b=>k=b
 | .int i=>k=(i != 0)
 | .str y=>y.length<=sizeLine/\k=((y.length:Int) != 0)
 | .ref p=>(∃ xs,SqL K H p xs/\k=!xs.isEmpty)\/(∃ xs,SqT K H p xs/\k=!xs.isEmpty)
 | _=>False
theorem cS {α β:Type}{xs:List α}{ys:List β}(h:xs.length=ys.length):xs.isEmpty=ys.isEmpty:=by
 cases xs<;>cases ys<;>first | rfl | simp at h
theorem gf {m:Md}{t:T}{v:V}{b:Bool}(e:truth t=some b)(r:Rep K Z H m t v G):TrV K v H b:=by
 cases t with
 | non=>cases e; rw [show v=_ from r]; rfl
 | bl c=>cases e; rw [show v=_ from r]; rfl
 | int i=>cases e; rw [show v=_ from r]; rfl
 | str x =>
  cases e; rw [show v=_ from r.1]
  refine ⟨bQ (gO r.2),?_⟩
  show (x.cps.size != 0)=(((x.cps.size:Nat):Int) != 0)
  cases x.cps.size with
  | zero=>rfl
  | succ n=>simp; omega
 | tup ts =>
  obtain ⟨a,xs,rfl,hs,hl,p⟩:=bH r
  cases e
  exact .inr ⟨xs,hs,by rw [cS p.length]⟩
 | lst ts =>
  obtain ⟨a,xs,rfl,hs,hl,p⟩:=bj r
  cases e
  exact .inl ⟨xs,.inl (.inl hs),by rw [cS p.length]⟩
 | scr ns =>
  obtain ⟨a,rfl,hL,hs⟩:=r
  cases e
  exact .inl ⟨_,hs.sq,by rw [cS (a0b ..)]⟩
 | dct _ _=>cases e
 | ins _ _ _=>cases e
 | gone=>cases e
theorem j4 {e:E}{w:W}{b:Bool}{Q:Bool->Hp->Prop}(A:At K sl σ Z H Fs η no)(ev:evE C e η=.ok (w,η'))(ht:truth w.2=some b)(k:∀ Z' H' Fs',At K sl σ Z' H' Fs' η' no->Step Z H (tot Fs) Z' H' (tot Fs')->Q b H'):wT K sl.sl C e σ H Q:=⟨sl.pv,Z,Fs,η,w,η',b,A,ev,ht,k⟩
theorem bA {α:Type}{f g:Env->Res α}{p:W×Env}{r:α}(h:onT f g p=.ok r):∃ b,truth p.1.2=some b/\(if b=true then f p.2 else g p.2)=.ok r:=by
 unfold onT at h
 split at h
 ·rename_i e; exact ⟨true,e,h⟩
 ·rename_i e; exact ⟨false,e,h⟩
 ·cases h
theorem zx {e:E}(σ:L2.St)(H:Hp)(Q:Bool->Hp->Prop)(h:wT K sf C (.not e) σ H Q):Aa (wT K sf C e) σ H Q:=by
 obtain ⟨pv,Z,Fs,η,w,η',b,A,ev,ht,k⟩:=h
 obtain ⟨⟨u,η1⟩,h1,h2⟩:=aa (show (evE C e η).bind ph=_ from ev)
 obtain ⟨w',e1,e2⟩:=ai (show ret η1 ((truth u.2).map fun b=>((.d,.bl (!b)):W))=_ from h2)
 cases e2
 cases e3:truth u.2 with
 | none=>rw [e3] at e1; cases e1
 | some c =>
  rw [e3] at e1; cases e1
  have:b=!c:=by cases ht; rfl
  subst this
  exact j4 A h1 e3 k
theorem yX {a b:E}(σ:L2.St)(H:Hp)(Q:Bool->Hp->Prop)(h:wT K sf C (.and a b) σ H Q):BB (wT K sf C a) (wT K sf C b) σ H Q:=by
 obtain ⟨pv,Z,Fs,η,w,η',c,A,ev,ht,k⟩:=h
 obtain ⟨⟨u,η1⟩,h1,h2⟩:=aa (show (evE C a η).bind (mF (evE C b))=_ from ev)
 obtain ⟨d,h3,h4⟩:=bA (show onT (evE C b) (okW u) (u,η1)=_ from h2)
 refine j4 A h1 h3 fun Z1 H1 Fs1 A1 s1=>?_
 cases d with
 | true=>rw [if_pos rfl] at h4 ⊢; exact j4 A1 h4 ht fun Z2 H2 Fs2 A2 s2=>k Z2 H2 Fs2 A2 (s1.trans s2)
 | false =>
  rw [if_neg a0d] at h4 ⊢
  cases h4
  cases (h3.symm.trans ht)
  exact k Z1 H1 Fs1 A1 s1
theorem CH {a b:E}(σ:L2.St)(H:Hp)(Q:Bool->Hp->Prop)(h:wT K sf C (.or a b) σ H Q):tOr (wT K sf C a) (wT K sf C b) σ H Q:=by
 obtain ⟨pv,Z,Fs,η,w,η',c,A,ev,ht,k⟩:=h
 obtain ⟨⟨u,η1⟩,h1,h2⟩:=aa (show (evE C a η).bind (kOr (evE C b))=_ from ev)
 obtain ⟨d,h3,h4⟩:=bA (show onT (okW u) (evE C b) (u,η1)=_ from h2)
 refine j4 A h1 h3 fun Z1 H1 Fs1 A1 s1=>?_
 cases d with
 | false=>rw [if_neg a0d] at h4 ⊢; exact j4 A1 h4 ht fun Z2 H2 Fs2 A2 s2=>k Z2 H2 Fs2 A2 (s1.trans s2)
 | true =>
  rw [if_pos rfl] at h4 ⊢
  cases h4
  cases (h3.symm.trans ht)
  exact k Z1 H1 Fs1 A1 s1
theorem xt {c a b:E}(σ:L2.St)(H:Hp)(Q:VK)(h:wE K sf C (.ifx c a b) σ H Q):tIf (wT K sf C c) (wE K sf C a) (wE K sf C b) σ H Q:=by
 obtain ⟨pv,Z,Fs,η,w,η',A,ev,k⟩:=h
 obtain ⟨⟨u,η1⟩,h1,h2⟩:=aa (show (evE C c η).bind (onT (evE C a) (evE C b))=_ from ev)
 obtain ⟨d,h3,h4⟩:=bA h2
 refine j4 A h1 h3 fun Z1 H1 Fs1 A1 s1=>?_
 cases d with
 | true=>rw [if_pos rfl] at h4 ⊢; exact ⟨pv,Z1,Fs1,η1,w,η',A1,h4,fun v Z' H' Fs' G B r s=>k v Z' H' Fs' G B r (s1.trans s)⟩
 | false=>rw [if_neg a0d] at h4 ⊢; exact ⟨pv,Z1,Fs1,η1,w,η',A1,h4,fun v Z' H' Fs' G B r s=>k v Z' H' Fs' G B r (s1.trans s)⟩
theorem zH {a b:E}(σ:L2.St)(H:Hp)(Q:VK)(h:wE K sf C (.and a b) σ H Q):wE K sf C a σ H fun x H1=>∃ k,TrV K x H1 k/\if k=true then wE K sf C b σ H1 Q else Q x H1:=by
 obtain ⟨pv,Z,Fs,η,w,η',A,ev,k⟩:=h
 obtain ⟨⟨u,η1⟩,h1,h2⟩:=aa (show (evE C a η).bind (mF (evE C b))=_ from ev)
 obtain ⟨d,h3,h4⟩:=bA (show onT (evE C b) (okW u) (u,η1)=_ from h2)
 refine ⟨pv,Z,Fs,η,u,η1,A,h1,fun v Z1 H1 Fs1 G B r s=>⟨d,gf h3 r,?_⟩⟩
 cases d with
 | true=>rw [if_pos rfl] at h4 ⊢; exact ⟨pv,Z1,Fs1,η1,w,η',B.bare,h4,fun v' Z' H' Fs' G' B' r' s'=>k v' Z' H' Fs' G' B' r' ((s.mono (fun _ z=>z) fun _ z=>.inl z).trans s')⟩
 | false =>
  rw [if_neg a0d] at h4 ⊢
  cases h4
  exact k v Z1 H1 Fs1 G B r s
end
end MR
namespace MR
open L2 L3 M
open PySem (Addr Str sizeLine)
section
variable {K:a0a}{sl:Cf}{sf:Nat->Option Nat}{C:Call}{σ:L2.St}{Z Z' Z1:Fp}{H H' H1:Hp}{Fs Fs' Fs1:Fps}{η η' η1:Env}{G G' R F:Fp}
structure Wk (K:a0a)(J:It)(Z:Fp)(H0:Hp)(ts:List (List W)):Prop where
 go:∀ H i,Stay Z H0 H->i < ts.length->J.go i H
 stop:∀ H i,Stay Z H0 H->ts.length<=i->J.stop i H
 len:ts.length<=LIM
noncomputable def mZ (K:a0a)(J:It)(Z:Fp)(H0:Hp)(ts:List (List W)):Prop :=
 ∀ H i x H',Stay Z H0 H->i < ts.length->J.yld i H x H'->H'=H/\∃ w,ts[i]?=some [w]/\Rep K Z H w.1 w.2 x no
noncomputable def Eo (K:a0a)(J:It)(Z:Fp)(H0:Hp)(ts:List (List W)):Prop :=
 ∀ H i x H',Stay Z H0 H->i < ts.length->J.yld i H x H'->∃ p y z u w,x=.ref p/\(∀ b o,H b=some o->H' b=some o)/\SqT K H' p [y,z]/\ts[i]?=some [u,w]/\Rep K Z H u.1 u.2 y no/\Rep K Z H w.1 w.2 z no
theorem jh (same:∀ b o,H b=some o->H' b=some o):Stay Z H H':=by
 refine ⟨fun a o _ e=>same a o e,fun a ys e=>?_,fun a o u e=>same a _ e⟩
 rcases e with e | ⟨u,e⟩
 ·exact .inl (same a _ e)
 ·exact .inr ⟨u,same a _ e⟩
theorem fm (same:∀ a o,H a=some o->H' a=some o):Step Z H G Z H' G:=by
 have al:∀ a,H a≠none->H' a≠none:=fun a h=>by
  cases e:H a with
  | none=>exact absurd e h
  | some o=>rw [same a o e]; simp
 exact ⟨fun a o h _=>same a o h,fun _ h=>h,fun _ h=>.inl h,fun _ h=>.inl h,al,fun z a h=>al a (z a h)⟩
theorem xU {p:Addr}{o:HO}(hp:H p=none):∀ b u,H b=some u->upd H p o b=some u:=fun a u e=>by
 have:a≠p:=fun q=>by subst q; rw [hp] at e; cases e
 rw [af this]; exact e
noncomputable def Yld (K:a0a)(J:It)(Z:Fp)(H0:Hp)(ts:List (List W)):Nat->Prop
 | 1=>mZ K J Z H0 ts
 | 2=>Eo K J Z H0 ts
 | _=>False
noncomputable def wI (K:a0a)(sl:Nat->Option Nat)(C:Call)(n:Nat)(k:Ik)(src:List E):TI:=fun σ H R=>∃ pv Z Fs η ws η' ts,At K ⟨sl,pv⟩ σ Z H Fs η no/\evL C src η=.ok (ws,η')/\bC k ws=some ts /\
 ∀ J Z' H' Fs',At K ⟨sl,pv⟩ σ Z' H' Fs' η' no->Step Z H (tot Fs) Z' H' (tot Fs')->Wk K J Z' H' ts->Yld K J Z' H' ts n->R J H'
theorem At.freeze (A:At K sl σ Z H Fs η G):At K sl σ (fun a=>Z a\/G a) H Fs η no:=by
 refine ⟨⟨fun a ha=>⟨fun z=>z.elim (A.gd.own a ha).1 fun q=>A.dis a q ha,(A.gd.own a ha).2⟩,A.gd.dis,fun a h=>h.elim (A.gd.zal a) fun q=>?_⟩,fun i m t e=>?_,cp,fun _ z=>z.elim,A.lk,A.ln⟩
 ·obtain ⟨_,xs,e⟩:=A.own a q
  rw [e]; simp
 ·obtain ⟨v,r,h⟩:=A.env i m t e
  exact ⟨v,r.zmono fun a h=>.inl h,h⟩
theorem bc (o:Own Z' H' G)(s:Step Z H F Z' H' (fun a=>F' a\/G a)):Step Z H F (fun a=>Z' a\/G a) H' F' where
 keep:=s.keep
 zm:=fun a h=>.inl (s.zm a h)
 zn:=fun a h=>h.elim (s.zn a) fun q=>.inr (s.fn a (.inr q))
 fn:=fun a h=>s.fn a (.inl h)
 al:=s.al
 za:=fun z a h=>h.elim (s.za z a) fun q=>by
  obtain ⟨_,xs,e⟩:=o a q
  rw [e]; simp
theorem gK {a:Addr}{xs:List V}{H0:Hp}(s:Stay Z H0 H)(hz:Z a)(h:H0 a=some (.lst xs)):SqL K H a xs:=.inl (.inl (s.1 a _ hz h))
theorem rL {a:Addr}{xs:List V}{ts:List T}(hL:xs.length<=LIM)(hz:Z a)(h:H a=some (.lst xs))(r:RepL K Z H .s ts xs no):Wk K (Itl K a) Z H (ts.map fun t=>[(.s,t)])/\mZ K (Itl K a) Z H (ts.map fun t=>[(.s,t)]):=by
 have hl:=r.length
 refine ⟨⟨fun H' i s hi=>?_,fun H' i s hi=>?_,by rw [a0b]; omega⟩,fun H' i x H'' s hi y=>?_⟩
 ·rw [a0b] at hi
  exact ⟨xs,xs[i]'(by omega),gK s hz h,by simp⟩
 ·rw [a0b] at hi
  exact ⟨xs,gK s hz h,by omega⟩
 ·rw [a0b] at hi
  obtain ⟨rfl,y⟩:=y
  have hx:=y xs (gK s hz h)
  obtain ⟨x',hx',rx⟩:=r.get (show ts[i]?=some ts[i] by simp)
  rw [hx] at hx'; cases hx'
  refine ⟨rfl,(.s,ts[i]),by rw [a0A,show ts[i]?=some ts[i] by simp]; rfl,rx.keep s (fun _ z=>z) fun _ _ z=>z.elim⟩
theorem zr {a:Addr}{xs:List V}{ts:List T}(hL:xs.length<=LIM)(h:SqT K H a xs)(r:RepL K Z H .s ts xs no):Wk K (Itt K a) Z H (ts.map fun t=>[(.s,t)])/\mZ K (Itt K a) Z H (ts.map fun t=>[(.s,t)]):=by
 have hl:=r.length
 refine ⟨⟨fun H' i s hi=>?_,fun H' i s hi=>?_,by rw [a0b]; omega⟩,fun H' i x H'' s hi y=>?_⟩
 ·rw [a0b] at hi
  exact ⟨xs,xs[i]'(by omega),s.sqt h,by simp⟩
 ·rw [a0b] at hi
  exact ⟨xs,s.sqt h,by omega⟩
 ·rw [a0b] at hi
  obtain ⟨rfl,y⟩:=y
  have hx:=y xs (s.sqt h)
  obtain ⟨x',hx',rx⟩:=r.get (show ts[i]?=some ts[i] by simp)
  rw [hx] at hx'; cases hx'
  refine ⟨rfl,(.s,ts[i]),by rw [a0A,show ts[i]?=some ts[i] by simp]; rfl,rx.keep s (fun _ z=>z) fun _ _ z=>z.elim⟩
theorem pq {lo:Int}{n:Nat}(hL:n<=LIM):Wk K (Itr lo n) Z H ((a0M n).map fun (k:Nat)=>[(.d,.int (lo+k))])/\mZ K (Itr lo n) Z H ((a0M n).map fun (k:Nat)=>[(.d,.int (lo+k))]):=by
 refine ⟨⟨fun H' i s hi=>by show i < n; simpa using hi,fun H' i s hi=>by show n<=i; simpa using hi,by simpa using hL⟩,fun H' i x H'' s hi y=>?_⟩
 obtain ⟨rfl,rfl⟩:=y
 refine ⟨rfl,(.d,.int (lo+i)),?_,rfl⟩
 rw [a0b,a1i] at hi
 rw [a0A,List.getElem?_range hi]
 rfl
theorem jt {a:Addr}{ns:List Int}{H0:Hp}(s:Stay Z H0 H)(h:ScrR K H0 a ns):SqL K H a (ns.map V.int):=(h.keep s.2.2).sq
theorem yM {a:Addr}{ns:List Int}(hL:ns.length<=LIM)(h:ScrR K H a ns):Wk K (Itl K a) Z H (ns.map fun n=>[(.d,.int n)])/\mZ K (Itl K a) Z H (ns.map fun n=>[(.d,.int n)]):=by
 refine ⟨⟨fun H' i s hi=>?_,fun H' i s hi=>?_,by rw [a0b]; exact hL⟩,fun H' i x H'' s hi y=>?_⟩
 ·rw [a0b] at hi
  exact ⟨_,(ns.map V.int)[i]'(by rw [a0b]; exact hi),jt s h,by simp⟩
 ·rw [a0b] at hi
  exact ⟨_,jt s h,by rw [a0b]; exact hi⟩
 ·rw [a0b] at hi
  obtain ⟨rfl,y⟩:=y
  have hx:=y _ (jt s h)
  refine ⟨rfl,(.d,.int ns[i]),by rw [a0A,show ns[i]?=some ns[i] by simp]; rfl,?_⟩
  rw [a0A,show ns[i]?=some ns[i] by simp] at hx
  exact (a0C hx).symm
theorem zh {e:E}(σ:L2.St)(H:Hp)(R:It->Hp->Prop)(h:wI K sf C 1 .seq [e] σ H R):v3 K (wE K sf C e) σ H R\/CG K (wE K sf C e) σ H R:=by
 obtain ⟨pv,Z,Fs,η,ws,η',ts,A,ev,ht,k⟩:=h
 obtain ⟨⟨m,a⟩,η1,us,e1,e2,rfl⟩:=aE ev
 cases e2
 cases a with
 | lst ts' =>
  cases ht
  refine .inl ⟨pv,Z,Fs,η,_,_,A,e1,fun v Z' H' Fs' G B r s=>?_⟩
  obtain ⟨a,xs,rfl,l,q,p⟩:=Rep.sh r
  obtain ⟨w1,w2⟩:=rL l q.1 q.2 p.sany
  exact ⟨a,rfl,⟨xs,.inl (.inl q.2)⟩,k _ _ H' Fs' B.freeze (bc B.own s) w1 w2⟩
 | tup ts' =>
  cases ht
  refine .inr ⟨pv,Z,Fs,η,_,_,A,e1,fun v Z' H' Fs' G B r s=>?_⟩
  obtain ⟨a,xs,rfl,q,l,p⟩:=Rep.sh r
  obtain ⟨w1,w2⟩:=zr l q p.sany
  exact ⟨a,rfl,⟨xs,q⟩,k _ _ H' Fs' B.freeze (bc B.own s) w1 w2⟩
 | scr ns =>
  cases ht
  refine .inl ⟨pv,Z,Fs,η,_,_,A,e1,fun v Z' H' Fs' G B r s=>?_⟩
  obtain ⟨a,rfl,hl,q⟩:=r
  obtain ⟨w1,w2⟩:=yM (Z:=fun a=>Z' a\/G a) hl q
  exact ⟨a,rfl,⟨_,q.sq⟩,k _ _ H' Fs' B.freeze (bc B.own s) w1 w2⟩
 | _=>cases ht
theorem p62:(2:Int) ^ 62=4611686018427387904:=by decide
theorem tS {e:E}(σ:L2.St)(H:Hp)(R:It->Hp->Prop)(h:wI K sf C 1 .rng [e] σ H R):wc (wL K sf C [e]) σ H R:=by
 obtain ⟨pv,Z,Fs,η,ws,η',ts,A,ev,ht,k⟩:=h
 refine ⟨pv,Z,Fs,η,ws,η',A,ev,fun vs Z' H' Fs' G B r s=>?_⟩
 obtain ⟨⟨m,a⟩,η1,us,e1,e2,rfl⟩:=aE ev
 cases e2
 obtain ⟨x,rfl,r1⟩:=bq rfl r
 cases a with
 | int n =>
  rw [qF] at ht
  split at ht
  ·rename_i hc
   rw [a0j,decide_eq_true_eq] at hc
   cases ht
   refine ⟨n,by rw [show x=_ from r1],by rw [p62]; omega,by rw [p62]; omega,?_⟩
   obtain ⟨w1,w2⟩:=pq (K:=K) (Z:=fun a=>Z' a\/G a) (H:=H') (lo:=0) (n:=n.toNat) (cj hc.2)
   have hz:∀ k:Nat,(0:Int)+(k:Int)=k:=fun k=>by omega
   simp only [hz] at w1 w2
   exact k _ _ H' Fs' B.freeze (bc B.own s) w1 w2
  ·cases ht
 | _=>cases ht
theorem rZ {e e':E}(σ:L2.St)(H:Hp)(R:It->Hp->Prop)(h:wI K sf C 1 .rng [e,e'] σ H R):vV (wL K sf C [e,e']) σ H R:=by
 obtain ⟨pv,Z,Fs,η,ws,η',ts,A,ev,ht,k⟩:=h
 refine ⟨pv,Z,Fs,η,ws,η',A,ev,fun vs Z' H' Fs' G B r s=>?_⟩
 obtain ⟨⟨m,a⟩,η1,us,e1,e2,rfl⟩:=aE ev
 obtain ⟨⟨n,b⟩,η2,us,e3,e4,rfl⟩:=aE e2
 cases e4
 obtain ⟨x,y,hx⟩:∃ x y,vs=[x,y]:=dw (x:=()) (y:=()) (show vs.length=[(),()].length from r.length)
 subst hx
 obtain ⟨G1,G2,_,_,_,r1,r2⟩:=bV r
 cases a with
 | int i =>
  cases b with
  | int j =>
   have ht':(if decide (i.natAbs < 4611686018427387904)&&decide (j.natAbs < 4611686018427387904)&&fits (j-i).toNat then some ((a0M (j-i).toNat).map fun (k:Nat)=>[((.d,.int (i+k)):W)]) else none)=some ts:=ht
   split at ht'
   ·rename_i hc
    rw [a0j,a0j,decide_eq_true_eq,decide_eq_true_eq] at hc
    cases ht'
    refine ⟨i,j,by rw [show x=_ from r1,show y=_ from r2],by rw [p62]; omega,?_⟩
    obtain ⟨w1,w2⟩:=pq (K:=K) (Z:=fun a=>Z' a\/G a) (H:=H') (lo:=i) (n:=(j-i).toNat) (cj hc.2)
    exact k _ _ H' Fs' B.freeze (bc B.own s) w1 w2
   ·cases ht'
  | _=>cases ht
 | _=>cases b<;>cases ht
theorem gp {m:Md}:∀ {ts:List T} {n i:Nat} {t:T},ts[i]?=some t->(cR m n ts)[i]?=some [(.d,.int ((n+i:Nat):Int)),(m,t)]
 | t::ts,n,0,_,h=>by cases h; rfl
 | t::ts,n,i+1,_,h=>by
  have:=gp (m:=m) (ts:=ts) (n:=n+1) (i:=i) h
  rw [show n+1+i=n+(i+1) by omega] at this
  exact this
 | [],_,_,_,h=>by simp at h
theorem cA {m:Md}:∀ {ts:List T} {n:Nat},(cR m n ts).length=ts.length
 | [],_=>rfl
 | t::ts,n=>by show (cR m (n+1) ts).length+1=ts.length+1; rw [cA]
end
end MR
namespace MR
open L2 L3 M
open PySem (Addr Str sizeLine)
section
variable {K:a0a}{sl:Cf}{sf sg:Nat->Option Nat}{C:Call}{σ σ2:L2.St}{Z Z' Z1:Fp}{H H' H1:Hp}{Fs Fs' Fs1:Fps}{η η' η1:Env}{G G' R F:Fp}{tg is:List Nat}{pv val:Nat->Option V}
theorem aL:∀ (tg:List Nat) (η:Env) (i:Nat),rd (aj tg η) i=if i∈tg then none else rd η i
 | [],η,i=>by simp [aj]
 | t::tg,η,i=>by
  show rd (aj tg (wr η t none)) i=_
  rw [aL tg,bw]
  by_cases h1:i∈tg
  ·simp [h1]
  ·by_cases h2:i=t
   ·subst h2
    rw [if_neg h1,if_pos a0f]
    split
    ·rfl
    ·rename_i hn
     cases e:rd η i with
     | none=>rfl
     | some w=>exact absurd ⟨rfl,dH e⟩ hn
   ·rw [if_neg h1,if_neg (show ¬ i∈t::tg by simp [h1,h2]),if_neg (show ¬ (i=t/\t < η.length) from fun h=>h2 h.1)]
noncomputable def Nn (η η':Env):Prop:=∀ i,rd η i=none->rd η' i=none
theorem Nn.refl (η:Env):Nn η η:=fun _ h=>h
theorem Nn.trans {a b c:Env}(h:Nn a b)(k:Nn b c):Nn a c:=fun i e=>k i (h i e)
theorem kc (η:Env)(j:Nat):Nn η (del η j):=fun i e=>by
 rw [bw]; split
 ·rfl
 ·exact e
theorem n8 {η:Env}{j:Nat}{w:W}(h:rd η j≠none):Nn η (put η j w):=fun i e=>by
 rw [bw]; split
 ·rename_i hc; rw [<- hc.1] at h; exact absurd e h
 ·exact e
theorem d5:∀ {is:List Nat} {ws:List W} {η0 η:Env},(∀ i∈is,rd η0 i≠none)->Nn η0 η->Nn η0 (putAll is ws η)
 | [],_,_,_,_,h=>h
 | _::_,[],_,_,_,h=>h
 | i::is,w::ws,η0,η,hi,h=>by
  show Nn η0 (putAll is ws (put η i w))
  refine d5 (fun j hj=>hi j (a0g _ hj)) fun j e=>?_
  rw [bw]; split
  ·rename_i hc; rw [hc.1] at e; exact absurd e (hi i a0f)
  ·exact h j e
theorem eO {f:Env->Res (Option W×Env)}(hf:∀ {η o η'},f η=.ok (o,η')->Nn η η'):∀ {ts:List (List W)} {η η':Env} {acc ws:List W},(∀ i∈tg,rd η i=none)->aC tg f ts η acc=.ok (ws,η')->Nn η η'
 | [],η,η',acc,ws,_,h=>by cases h; exact Nn.refl _
 | t::ts,η,η',acc,ws,ht,h=>by
  obtain ⟨η1,h1,h2⟩:=aa (show (ofO (a9 tg t η)).bind (fun η1=>(f η1).bind fun p=>aC tg f ts (aj tg p.2) (acc++p.1.toList))=_ from h)
  obtain ⟨⟨o,η2⟩,h3,h4⟩:=aa h2
  have hb:∀ {tg:List Nat} {t:List W} {η η1:Env},a9 tg t η=some η1->∀ i,i ∉ tg->rd η1 i=rd η i:=fun {tg}=>by
   induction tg with
   | nil=>intro t η η1 h i hi; cases t with
    | nil=>cases h; rfl
    | cons _ _=>cases h
   | cons j tg ih=>intro t η η1 h i hi; cases t with
    | nil=>cases h
    | cons w t =>
     have:=ih (show a9 tg t (put η j w)=some η1 from h) i (fun z=>hi (a0g _ z))
     rw [this,bw,if_neg fun z=>hi (by rw [z.1]; exact a0f)]
  have e1:=hb (cO h1)
  have hd:∀ i,rd η i=none->rd (aj tg η2) i=none:=fun i e=>by
   rw [aL]
   split
   ·rfl
   ·rename_i hi
    exact hf h3 i (by rw [e1 i hi]; exact e)
  exact Nn.trans (b:=aj tg η2) hd (eO hf (fun i hi=>by rw [aL,if_pos hi]) h4)
noncomputable def eL (sf sg:Nat->Option Nat)(tg:List Nat)(is:List Nat):Prop :=
 ∀ i j,sg i=some j->(∃ k:Nat,tg[k]?=some i/\j=k)\/(i ∉ tg/\∃ (k j0:Nat),j=tg.length+k/\is[k]?=some j0/\sf i=some j0)
theorem At.pin (A:At K ⟨sf,pv⟩ σ Z H Fs η G):∃ val,(∀ i u,pv i=some u->val i=some u)/\At K ⟨sf,val⟩ σ Z H Fs η G/\∀ i m t,rd η i=some (m,t)->val i≠none:=by
 have ch:∀ i,∃ o:Option V,(∀ u,pv i=some u->o=some u)/\(∀ u j,o=some u->sf i=some j->σ[j]?=some (some u))/\∀ m t,rd η i=some (m,t)->∃ v,o=some v/\Rep K Z H m t v (Fs i)/\(∀ j,sf i=some j->σ[j]?=some (some v)):=fun i=>by
  cases e:rd η i with
  | none=>exact ⟨pv i,fun _ h=>h,fun u j h hs=>A.lk i u j h hs,fun _ _ h=>by cases h⟩
  | some w =>
   obtain ⟨m,t⟩:=w
   obtain ⟨v,r,h1,h2⟩:=A.env i m t e
   refine ⟨some v,fun u h=>by rw [h2 u h],fun u j h hs=>?_,fun m' t' h=>by cases h; exact ⟨v,rfl,r,h1⟩⟩
   cases h
   exact h1 j hs
 obtain ⟨val,hval⟩:=Classical.axiomOfChoice ch
 refine ⟨val,fun i u h=>(hval i).1 u h,⟨A.gd,fun i m t e=>?_,A.own,A.dis,fun i u j h hs=>(hval i).2.1 u j h hs,A.ln⟩,fun i m t e=>?_⟩
 ·obtain ⟨v,h1,r,h2⟩:=(hval i).2.2 m t e
  exact ⟨v,r,h2,fun u hu=>by rw [show val i=some u from hu] at h1; cases h1; rfl⟩
 ·obtain ⟨v,h1,r,h2⟩:=(hval i).2.2 m t e
  rw [h1]; simp
theorem At.unpin (h:∀ i u,pv i=some u->val i=some u)(A:At K ⟨sf,val⟩ σ Z H Fs η G):At K ⟨sf,pv⟩ σ Z H Fs η G :=
 ⟨A.gd,fun i m t e=>let ⟨v,r,h1,h2⟩:=A.env i m t e; ⟨v,r,h1,fun u hu=>h2 u (h i u hu)⟩,A.own,A.dis,fun i u j hu hs=>A.lk i u j (h i u hu) hs,A.ln⟩
noncomputable def inV (val:Nat->Option V)(tg:List Nat):Nat->Option V:=fun i=>if i∈tg then none else val i
theorem At.into (I:eL sf sg tg is)(ht:∀ i∈tg,rd η i=none)(hσ:∀ (k j0:Nat) (v:V),is[k]?=some j0->σ[j0]?=some (some v)->σ2[tg.length+k]?=some (some v))(hl:∀ i j,sg i=some j->j < σ2.length)(A:At K ⟨sf,val⟩ σ Z H Fs η G):At K ⟨sg,inV val tg⟩ σ2 Z H Fs η G:=by
 refine ⟨A.gd,fun i m t e=>?_,A.own,A.dis,fun i u j hu hs=>?_,hl⟩
 ·have hi:i ∉ tg:=fun h=>by rw [ht i h] at e; cases e
  obtain ⟨v,r,h1,h2⟩:=A.env i m t e
  refine ⟨v,r,fun j hj=>?_,fun u hu=>h2 u (by have h3:inV val tg i=some u:=hu; unfold inV at h3; rw [if_neg hi] at h3; exact h3)⟩
  rcases I i j hj with ⟨k,hk,_⟩ | ⟨_,k,j0,rfl,hk,hs⟩
  ·exact absurd (a1g hk) hi
  ·exact hσ k j0 v hk (h1 j0 hs)
 ·have hi:i ∉ tg:=fun h=>by
   have hu':inV val tg i=some u:=hu
   unfold inV at hu'; rw [if_pos h] at hu'; cases hu'
  have hu':val i=some u:=by have h3:inV val tg i=some u:=hu; unfold inV at h3; rw [if_neg hi] at h3; exact h3
  rcases I i j hs with ⟨k,hk,_⟩ | ⟨_,k,j0,rfl,hk,hs⟩
  ·exact absurd (a1g hk) hi
  ·exact hσ k j0 u hk (A.lk i u j0 hu' hs)
theorem At.outof (ht:∀ i∈tg,rd η i=none)(hv:∀ i m t,rd η i=some (m,t)->val i≠none)(lk:∀ i u j,val i=some u->sf i=some j->σ[j]?=some (some u))(ln:∀ i j,sf i=some j->j < σ.length)(A:At K ⟨sg,inV val tg⟩ σ2 Z H Fs η G):At K ⟨sf,val⟩ σ Z H Fs η G:=by
 refine ⟨A.gd,fun i m t e=>?_,A.own,A.dis,lk,ln⟩
 have hi:i ∉ tg:=fun h=>by rw [ht i h] at e; cases e
 obtain ⟨v,r,h1,h2⟩:=A.env i m t e
 cases hu:val i with
 | none=>exact absurd hu (hv i m t e)
 | some u =>
  have:v=u:=h2 u (by show inV val tg i=some u; unfold inV; rw [if_neg hi]; exact hu)
  subst this
  exact ⟨v,r,fun j hj=>lk i v j hu hj,fun u' hu'=>by rw [show val i=some u' from hu'] at hu; cases hu; rfl⟩
end
section
variable {C:Call}
theorem fz:∀ (vs:List Nat) (η:Env),Nn η (M.share vs η)
 | [],η=>fun _ e=>e
 | v::vs,η=>Nn.trans (b:=wr η v (toS (rd η v))) (fun i e=>by
   rw [bw]; split
   ·rename_i hc; rw [<- hc.1,e]; rfl
   ·exact e) (fz vs _)
theorem pB (m:Md)(vs:List Nat)(η:Env):Nn η (after m vs η):=by
 cases m with
 | d=>exact fun _ e=>e
 | s=>exact fz vs η
 | o _=>exact fz vs η
theorem eW {α:Type}{tab:List (Str×α)}{f:α->Env->RE}{p:W×Env}{r:W×Env}(h:kTab tab f p=.ok r):∃ x a,p.1.2=.str x/\tab.lookup x=some a/\f a p.2=.ok r:=by
 unfold kTab at h
 split at h
 ·rename_i x hx
  split at h
  ·rename_i a ha; exact ⟨x,a,hx,ha,h⟩
  ·cases h
 ·cases h
theorem gJ {neg:Bool}{ks:List Str}{p r:W×Env}(h:kIn neg ks p=.ok r):∃ x,p.1.2=.str x/\r.2=p.2/\r.1=(.d,.bl (ks.contains x != neg)):=by
 unfold kIn at h
 split at h
 ·rename_i x hx; cases h; exact ⟨x,hx,rfl,rfl⟩
 ·cases h
theorem iz {tab:List (Str×T)}{p r:W×Env}(h:kGet tab p=.ok r):∃ x,p.1.2=.str x/\r.2=p.2/\r.1=(.s,(tab.lookup x).getD .non):=by
 unfold kGet at h
 split at h
 ·rename_i x hx; cases h; exact ⟨x,hx,rfl,rfl⟩
 ·cases h
mutual
theorem aw:∀ (e:E) {η η':Env} {w:W},evE C e η=.ok (w,η')->Nn η η'
 | .var i,η,η',w,h=>by obtain ⟨_,_,e⟩:=ai (show ret η ((rd η i).bind look)=_ from h); cases e; exact Nn.refl _
 | .mv i,η,η',w,h=>by obtain ⟨_,_,e⟩:=ai (show ret (del η i) (rd η i)=_ from h); cases e; exact kc _ _
 | .io i,η,η',w,h=>by obtain ⟨_,_,e⟩:=ai (show ret (del η i) (rd η i)=_ from h); cases e; exact kc _ _
 | .cst t,η,η',w,h=>by cases h; exact Nn.refl _
 | .glb _ t,η,η',w,h=>by cases h; exact Nn.refl _
 | .tup es,η,η',w,h=>by
  obtain ⟨⟨ws,η1⟩,h1,h2⟩:=aa (show (evL C es η).bind jR=_ from h)
  cases h2; exact dt es h1
 | .lst b es,η,η',w,h=>by
  obtain ⟨⟨ws,η1⟩,h1,h2⟩:=aa (show (evL C es η).bind (nG b)=_ from h)
  cases h2; exact dt es h1
 | .wk m e,η,η',w,h=>by
  obtain ⟨⟨u,η1⟩,h1,h2⟩:=aa (show (evE C e η).bind (kWk m)=_ from h)
  obtain ⟨_,_,e3⟩:=ai (show ret η1 _=_ from h2)
  cases e3; exact aw e h1
 | .op o b es,η,η',w,h=>by
  obtain ⟨ws,h1,h2⟩:=dq h
  exact dt es h1
 | .and a b,η,η',w,h=>by
  obtain ⟨⟨u,η1⟩,h1,h2⟩:=aa (show (evE C a η).bind (mF (evE C b))=_ from h)
  obtain ⟨d,h3,h4⟩:=bA (show onT (evE C b) (okW u) (u,η1)=_ from h2)
  cases d with
  | true=>rw [if_pos rfl] at h4; exact (aw a h1).trans (aw b h4)
  | false=>rw [if_neg a0d] at h4; cases h4; exact aw a h1
 | .or a b,η,η',w,h=>by
  obtain ⟨⟨u,η1⟩,h1,h2⟩:=aa (show (evE C a η).bind (kOr (evE C b))=_ from h)
  obtain ⟨d,h3,h4⟩:=bA (show onT (okW u) (evE C b) (u,η1)=_ from h2)
  cases d with
  | false=>rw [if_neg a0d] at h4; exact (aw a h1).trans (aw b h4)
  | true=>rw [if_pos rfl] at h4; cases h4; exact aw a h1
 | .not a,η,η',w,h=>by
  obtain ⟨⟨u,η1⟩,h1,h2⟩:=aa (show (evE C a η).bind ph=_ from h)
  obtain ⟨_,_,e3⟩:=ai (show ret η1 _=_ from h2)
  cases e3; exact aw a h1
 | .ifx c a b,η,η',w,h=>by
  obtain ⟨⟨u,η1⟩,h1,h2⟩:=aa (show (evE C c η).bind (onT (evE C a) (evE C b))=_ from h)
  obtain ⟨d,h3,h4⟩:=bA h2
  cases d with
  | true=>rw [if_pos rfl] at h4; exact (aw c h1).trans (aw a h4)
  | false=>rw [if_neg a0d] at h4; exact (aw c h1).trans (aw b h4)
 | .chain o q a b c,η,η',w,h=>by
  obtain ⟨⟨x,η1⟩,h1,h2⟩:=aa (show (evE C a η).bind (kC1 o q (evE C b) (evE C c))=_ from h)
  obtain ⟨⟨y,η2⟩,h3,h4⟩:=aa (show (evE C b η1).bind (kC2 o q (evE C c) x)=_ from h2)
  obtain ⟨⟨k,η3⟩,h5,h6⟩:=aa (show (ret η2 (oSem o false [x,y])).bind (fun k=>onB k.1.2 (then' (evE C c) (kC3 q y)) (okW (.d,.bl false)) k.2)=_ from h4)
  obtain ⟨k',_,e5⟩:=ai h5
  have e6:η3=η2:=congrArg a1Y e5
  have n2:=(aw a h1).trans (aw b h3)
  have h6':onB k.2 (then' (evE C c) (kC3 q y)) (okW (.d,.bl false)) η2=.ok (w,η'):=by rw [<- e6]; exact h6
  generalize k.2=kk at h6'
  cases kk with
  | bl b =>
   cases b with
   | true =>
    obtain ⟨⟨z,η4⟩,h7,h8⟩:=aa (show (evE C c η2).bind (kC3 q y)=_ from h6')
    obtain ⟨z',_,e8⟩:=ai (show ret η4 (oSem q false [y,z])=_ from h8)
    have e9:η'=η4:=congrArg a1Y e8
    rw [e9]
    exact n2.trans (aw c h7)
   | false=>cases h6'; exact n2
  | _=>cases h6'
 | .call f es,η,η',w,h=>by
  obtain ⟨⟨ws,η1⟩,h1,h2⟩:=aa (show (evA C es η).bind (kCall C f (ios es))=_ from h)
  obtain ⟨⟨u,us⟩,h3,h4⟩:=aa (show (C f ws).bind (kBack (ios es) η1)=_ from h2)
  cases h4
  exact d5 (fo es h1) (dg es h1)
 | .comp b k src tg none elt,η,η',w,h=>by
  obtain ⟨⟨ws,η1⟩,h1,h2⟩:=aa (show (evL C src η).bind (dD b k tg (bZ (evE C elt)))=_ from h)
  obtain ⟨⟨ts,η2⟩,h3,h4⟩:=aa (show (ret (aj tg η1) (bC k ws)).bind (fun t=>(aC tg (bZ (evE C elt)) t.1 t.2 []).bind (ja b))=_ from h2)
  obtain ⟨_,_,e3⟩:=ai h3
  have e4:η2=aj tg η1:=congrArg a1Y e3
  subst e4
  obtain ⟨⟨us,η3⟩,h5,h6⟩:=aa (show (aC tg (bZ (evE C elt)) ts (aj tg η1) []).bind (ja b)=_ from h4)
  obtain ⟨_,_,e6⟩:=ai (show ret η3 _=_ from h6)
  have e7:η'=η3:=congrArg a1Y e6
  subst e7
  refine (dt src h1).trans (Nn.trans (b:=aj tg η1) (fun i e=>by rw [aL]; split<;>first | rfl | exact e) (eO (fun {η o η'} hf=>?_) (fun i hi=>by rw [aL,if_pos hi]) h5))
  obtain ⟨⟨u,η4⟩,h7,h8⟩:=aa (show (evE C elt η).bind ee=_ from hf)
  cases h8
  exact aw elt h7
 | .comp b k src tg (some c) elt,η,η',w,h=>by
  obtain ⟨⟨ws,η1⟩,h1,h2⟩:=aa (show (evL C src η).bind (dD b k tg (iN (evE C c) (evE C elt)))=_ from h)
  obtain ⟨⟨ts,η2⟩,h3,h4⟩:=aa (show (ret (aj tg η1) (bC k ws)).bind (fun t=>(aC tg (iN (evE C c) (evE C elt)) t.1 t.2 []).bind (ja b))=_ from h2)
  obtain ⟨_,_,e3⟩:=ai h3
  have e4:η2=aj tg η1:=congrArg a1Y e3
  subst e4
  obtain ⟨⟨us,η3⟩,h5,h6⟩:=aa (show (aC tg (iN (evE C c) (evE C elt)) ts (aj tg η1) []).bind (ja b)=_ from h4)
  obtain ⟨_,_,e6⟩:=ai (show ret η3 _=_ from h6)
  have e7:η'=η3:=congrArg a1Y e6
  subst e7
  refine (dt src h1).trans (Nn.trans (b:=aj tg η1) (fun i e=>by rw [aL]; split<;>first | rfl | exact e) (eO (fun {η o η'} hf=>?_) (fun i hi=>by rw [aL,if_pos hi]) h5))
  obtain ⟨⟨u,η4⟩,h7,h8⟩:=aa (show (evE C c η).bind (onT (bZ (evE C elt)) (okW none))=_ from hf)
  obtain ⟨d,h9,h10⟩:=bA h8
  cases d with
  | true =>
   rw [if_pos rfl] at h10
   obtain ⟨⟨u2,η5⟩,h11,h12⟩:=aa (show (evE C elt η4).bind ee=_ from h10)
   cases h12
   exact (aw c h7).trans (aw elt h11)
  | false =>
   rw [if_neg a0d] at h10
   cases h10
   exact aw c h7
 | .pop i es,η,η',w,h=>by
  obtain ⟨_,_,h0⟩:=aa (show (eB (rd η i)).bind (iX (evL C es) η (lI i))=_ from h)
  obtain ⟨⟨ws,η1⟩,h1,h2⟩:=aa (show (evL C es η).bind (lI i)=_ from h0)
  obtain ⟨r,h3,h4⟩:=aa (show (ofO ((rd η1 i).bind fun w=>gx w ws)).bind (fun r=>.ok (r.1,put η1 i r.2))=_ from h2)
  cases h4
  refine (dt es h1).trans (n8 ?_)
  have:=cO h3
  intro e; rw [e] at this; cases this
 | .lenV i,η,η',w,h=>by obtain ⟨_,_,e⟩:=ai (show ret η ((rd η i).bind fun w=>oSem .len false [w])=_ from h); cases e; exact Nn.refl _
 | .tupA es,η,η',w,h=>by
  obtain ⟨⟨ws,η1⟩,h1,h2⟩:=aa (show (evA C es η).bind jR=_ from h)
  cases h2; exact dg es h1
 | .qx vs ls e,η,η',w,h=>by
  obtain ⟨⟨u,η1⟩,h1,h2⟩:=aa (show (evE C e (pick vs ls η)).bind (kX vs η)=_ from h)
  cases h2
  exact pB _ vs η
 | .mvP i p,η,η',w,h=>by
  obtain ⟨r,h1,h2⟩:=aa (show (ofO ((rd η i).bind (vB p))).bind (Bv i η)=_ from h)
  cases h2
  refine n8 fun e=>?_
  have:=cO h1
  rw [e] at this; cases this
 | .callT tab k es,η,η',w,h=>by
  obtain ⟨⟨u,η1⟩,h1,h2⟩:=aa (show (evE C k η).bind (kTab tab (kCT C (evA C es) (ios es)))=_ from h)
  obtain ⟨x,j,_,_,h3⟩:=eW h2
  obtain ⟨⟨ws,η2⟩,h4,h5⟩:=aa (show (evA C es η1).bind (kCall C j (ios es))=_ from h3)
  obtain ⟨⟨r,bs⟩,h6,h7⟩:=aa (show (C j ws).bind (kBack (ios es) η2)=_ from h5)
  cases h7
  exact (aw k h1).trans (d5 (fo es h4) (dg es h4))
 | .inT neg ks e,η,η',w,h=>by
  obtain ⟨⟨u,η1⟩,h1,h2⟩:=aa (show (evE C e η).bind (kIn neg ks)=_ from h)
  obtain ⟨x,_,e2,_⟩:=gJ h2
  cases e2; exact aw e h1
 | .ixT tab e,η,η',w,h=>by
  obtain ⟨⟨u,η1⟩,h1,h2⟩:=aa (show (evE C e η).bind (kTab tab okS)=_ from h)
  obtain ⟨x,j,_,_,h3⟩:=eW h2
  cases h3; exact aw e h1
 | .getT tab e,η,η',w,h=>by
  obtain ⟨⟨u,η1⟩,h1,h2⟩:=aa (show (evE C e η).bind (kGet tab)=_ from h)
  obtain ⟨x,_,e2,_⟩:=iz h2
  cases e2; exact aw e h1
theorem dt:∀ (es:List E) {η η':Env} {ws:List W},evL C es η=.ok (ws,η')->Nn η η'
 | [],η,η',ws,h=>by cases h; exact Nn.refl _
 | e::es,η,η',ws,h=>by
  obtain ⟨w,η1,us,h1,h2,_⟩:=aE h
  exact (aw e h1).trans (dt es h2)
theorem dg:∀ (es:List E) {η η':Env} {ws:List W},evA C es η=.ok (ws,η')->Nn η η'
 | [],η,η',ws,h=>by cases h; exact Nn.refl _
 | e::es,η,η',ws,h=>by
  rcases Al e with ⟨i,hi⟩ | he
  ·subst hi
   obtain ⟨us,η1,w,h1,_,_,h4⟩:=g8 h
   rw [h4]
   exact (dg es h1).trans (kc _ _)
  ·obtain ⟨w,η1,us,h1,h2,_⟩:=fH he h
   exact (aw e h1).trans (dg es h2)
theorem fo:∀ (es:List E) {η η':Env} {ws:List W},evA C es η=.ok (ws,η')->∀ i∈ios es,rd η i≠none
 | [],_,_,_,_,i,hi=>by simp [ios] at hi
 | e::es,η,η',ws,h,i,hi=>by
  rcases Al e with ⟨j,hj⟩ | he
  ·subst hj
   obtain ⟨us,η1,w,h1,h2,_,_⟩:=g8 h
   rcases a0s.mp (show i∈j::ios es from hi) with z | z
   ·subst z
    exact fun z=>by rw [dg es h1 i z] at h2; cases h2
   ·exact fo es h1 i z
  ·obtain ⟨w,η1,us,h1,h2,_⟩:=fH he h
   have hi':i∈ios es:=by
    cases e with
    | io j=>exact absurd rfl (he j)
    | _=>exact hi
   exact fun z=>fo es h2 i hi' (aw e h1 i z)
end
end
section
variable {K:a0a}{sl:Cf}{sf sg:Nat->Option Nat}{C:Call}{σ σ2:L2.St}{Z Z' Z1:Fp}{H H' H1:Hp}{Fs Fs' Fs1:Fps}{η η' η1 ηb:Env}{G G' R F:Fp}{tg is:List Nat}{pv val:Nat->Option V}
noncomputable def gT (K:a0a):Nat->TG
 | 1=>cy 0
 | 2=>uR K 2 (fC (cy 0) (fC (cy 1) sd))
 | _=>fun _ _ _ _=>False
theorem At.put1 {i:Nat}{w:W}{x:V}(A:At K sl σ Z H Fs η G)(r:Rep K Z H w.1 w.2 x (Fs i))(hl:∀ j,sl.sl i=some j->σ[j]?=some (some x))(hp:sl.pv i=none):At K sl σ Z H Fs (put η i w) G:=by
 refine ⟨A.gd,fun j m t e=>?_,A.own,A.dis,A.lk,A.ln⟩
 rw [bw] at e
 split at e
 ·rename_i hc
  cases e
  obtain ⟨rfl,_⟩:=hc
  exact ⟨x,r,hl,fun u hu=>by rw [hp] at hu; cases hu⟩
 ·exact A.env j m t e
theorem jl {k j0:Nat}{v:V}(h1:is[k]?=some j0)(h2:σ[j0]?=some (some v)):(bI σ is)[k]?=some (some v):=by
 unfold bI
 rw [a0A,h1]
 show some ((σ[j0]?).join)=_
 rw [h2]
 rfl
theorem gk (I:eL sf sg tg is)(h:σ2.length=tg.length+is.length):∀ i j,sg i=some j->j < σ2.length:=fun i j hj=>by
 rcases I i j hj with ⟨k,hk,rfl⟩ | ⟨_,k,j0,rfl,hk,_⟩
 ·have:=(a0w.mp hk).1
  omega
 ·have:=(a0w.mp hk).1
  omega
theorem l5 {n i:Nat}{J:It}{ts:List (List W)}{ws:List W}{x:V}{Q:L2.St->Hp->Prop}(hn:tg.length=n)(nd:tg.Nodup)(I:eL sf sg tg is)(hz:∀ a,Z1 a->Z a)(st:Stay Z1 H1 H)(yl:Yld K J Z1 H1 ts n)(A:At K ⟨sf,val⟩ σ Z H Fs η G)
  (ht:∀ i∈tg,rd η i=none) (hw:ts[i]?=some ws) (hb:a9 tg ws η=some ηb) (y:J.yld i H x H')
  (k:∀ σ2 H2,At K ⟨sg,inV val tg⟩ σ2 Z H2 Fs ηb G->Step Z H no Z H2 no->(σ2.length=n+(bI σ is).length/\σ2.drop n=bI σ is)->Q σ2 H2):gT K n x (a0i n none++bI σ is) H' Q:=by
 have hi:i < ts.length:=(a0w.mp hw).1
 have own0:∀ {t:Nat},t∈tg->inV val tg t=none:=fun {t} h=>if_pos h
 match n,yl with
 | 1,yl =>
  obtain ⟨e0,w,hw',r⟩:=yl H i x H' st hi y
  rw [e0]
  rw [hw] at hw'; cases hw'
  match tg,hn with
  | [t],_ =>
   cases hb
   have r':Rep K Z H w.1 w.2 x (Fs t):=(r.zmono hz).mono fun _ z=>z.elim
   refine k _ H ?_ (Step.refl _ _ _) ⟨by simp [a1X],rfl⟩
   refine (A.into (σ2:=some x::bI σ is) I ht (fun k j0 v h1 h2=>?_) (gk I (by simp [bI,a1X]))).put1 r' (fun j hj=>?_) (own0 (by simp))
   ·rw [a0v,a1X,a0u]; exact jl h1 h2
   ·rcases I t j hj with ⟨k,hk,rfl⟩ | ⟨h,_⟩
    ·cases j with
     | zero=>rfl
     | succ _=>simp at hk
    ·exact absurd (a0t.mpr rfl) h
 | 2,yl =>
  obtain ⟨p,y1,z1,u,w,rfl,sm,hq,hw',r1,r2⟩:=yl H i x H' st hi y
  rw [hw] at hw'; cases hw'
  match tg,hn with
  | [t,t'],_ =>
   cases hb
   have hne:t≠t':=fun z=>by simp [z] at nd
   have s1:Step Z H G Z H' G:=fm sm
   have o1:Own Z H' G:=fun a ha=>by
    obtain ⟨nz,ys,e⟩:=A.own a ha
    exact ⟨nz,ys,sm _ _ e⟩
   obtain ⟨A1,_⟩:=A.op o1 s1
   have sn:Stay Z H H':=jh sm
   have r1':Rep K Z H' u.1 u.2 y1 (Fs t):=((r1.zmono hz).keep sn (fun _ z=>z) fun _ _ z=>z.elim).mono fun _ z=>z.elim
   have r2':Rep K Z H' w.1 w.2 z1 (Fs t'):=((r2.zmono hz).keep sn (fun _ z=>z) fun _ _ z=>z.elim).mono fun _ z=>z.elim
   have s0:Step Z H no Z H' no:=fm sm
   refine ⟨p,[y1,z1],rfl,hq,rfl,y1,[z1],rfl,z1,[],rfl,rfl,k (some y1::some z1::bI σ is) _ ?_ s0 ⟨by simp; omega,rfl⟩⟩
   refine ((A1.into (σ2:=some y1::some z1::bI σ is) I ht (fun k j0 v h1 h2=>?_) (gk I (by simp [bI]; omega))).put1 r1' (fun j hj=>?_) (own0 (by simp))).put1 r2' (fun j hj=>?_) (own0 (by simp))
   ·rw [show [t,t'].length+k=k+1+1 by simp; omega,a0u,a0u]; exact jl h1 h2
   ·rcases I t j hj with ⟨k,hk,rfl⟩ | ⟨h,_⟩
    ·match j,hk with
     | 0,_=>rfl
     | 1,hk=>exact absurd (a0C hk).symm hne
    ·exact absurd (by simp) h
   ·rcases I t' j hj with ⟨k,hk,rfl⟩ | ⟨h,_⟩
    ·match j,hk with
     | 0,hk=>exact absurd (a0C hk) hne
     | 1,_=>rfl
    ·exact absurd (by simp) h
noncomputable def el (Fs:Fps)(tg:List Nat):Fps:=fun j a=>j ∉ tg/\Fs j a
theorem cF {a:Addr}(h:tot (el Fs tg) a):tot Fs a:=let ⟨j,_,h2⟩:=h; ⟨j,h2⟩
theorem At.dels (A:At K sl σ Z H Fs η G):At K sl σ Z H (el Fs tg) (aj tg η) G:=by
 refine ⟨⟨fun a h=>A.gd.own a (cF h),fun i j a h1 h2=>A.gd.dis i j a h1.2 h2.2,A.gd.zal⟩,fun i m t e=>?_,A.own,fun a h q=>A.dis a h (cF q),A.lk,A.ln⟩
 rw [aL] at e
 split at e
 ·cases e
 ·rename_i hi
  obtain ⟨v,r,h⟩:=A.env i m t e
  exact ⟨v,r.mono fun a ha=>⟨hi,ha⟩,h⟩
theorem fF:∀ {tg:List Nat} {t:List W} {η η1:Env},a9 tg t η=some η1->∀ i,i ∉ tg->rd η1 i=rd η i
 | [],[],η,η1,h,i,_=>by cases h; rfl
 | [],_::_,_,_,h,_,_=>by cases h
 | _::_,[],_,_,h,_,_=>by cases h
 | j::tg,w::t,η,η1,h,i,hi=>by
  rw [fF (show a9 tg t (put η j w)=some η1 from h) i fun z=>hi (a0g _ z),bw,if_neg fun z=>hi (by rw [z.1]; exact a0f)]
structure CSt (K:a0a)(sf:Nat->Option Nat)(val:Nat->Option V)(σ:L2.St)(tg:List Nat)(f:Env->Res (Option W×Env))(ts:List (List W))(η0:Env)(us:List W)(η3:Env)(Z1:Fp)(H1:Hp)(F1:Fp)(i:Nat)(ys:List V)(H:Hp):Prop where
 ex:∃ (Z:Fp) (Fs:Fps) (η:Env) (acc:List W) (G:Fp),At K ⟨sf,val⟩ σ Z H Fs η G/\RepW K Z H acc ys G/\aC tg f (ts.drop i) η acc=.ok (us,η3)/\(∀ j∈tg,rd η j=none)/\(∀ j∈tg,∀ a,¬ Fs j a)/\Nn η0 η/\Step Z1 H1 F1 Z H (fun a=>tot Fs a\/G a)
 len:ys.length<=i
theorem pC {h:Bool}{us:List W}{ys:List V}{w:W}{Q:VK}(o:Own Z H G)(za:∀ a,Z a->H a≠none)(r:RepW K Z H us ys G)(hl:ys.length<=LIM)(hn:(if h then (if us.all okD then some ((.d,.lst (trees us)):W) else none) else some (.o .s,.lst (trees us)))=some w)(k:Out K Z H G w Q):∀ p,H p=none->Q (.ref p) (upd H p (.lst ys)):=by
 intro p hp
 cases h with
 | true =>
  rw [if_pos rfl] at hn
  split at hn
  ·rename_i ha
   cases hn
   rw [a06] at ha
   obtain ⟨G',g1,g2⟩:=RepW.to (N:=.d) (fun u hu=>by
    have:=ha u hu
    unfold okD at this
    rw [a2R] at this
    unfold M.lf
    split
    ·rfl
    ·rename_i hnl
     rcases this with z | z
     ·rw [eq_of_beq z]; rfl
     ·exact absurd z hnl) r
   exact cb (m:=.d) o za g1 hl g2 (by simp) k hp
  ·cases hn
 | false =>
  rw [if_neg a0d] at hn
  cases hn
  obtain ⟨G',g1,g2⟩:=RepW.to (N:=.s) (fun u hu=>by cases M.lf u.1 u.2<;>rfl) r
  exact cb (m:=.o .s) o za g1 hl g2 (by simp) k hp
end
end MR
namespace MR
open L2 L3 M
open PySem (Addr Str sizeLine)
section
variable {K:a0a}{sf sg:Nat->Option Nat}{C:Call}{tg is:List Nat}
theorem fT {α:Type}{l:List α}{i:Nat}{a:α}(h:l[i]?=some a):l.drop i=a::l.drop (i+1):=by
 obtain ⟨h1,h2⟩:=a0w.mp h
 rw [a13 h1,h2]
theorem i8 {h:Bool}{k:Ik}{f:Env->Res (Option W×Env)}{p:List W×Env}{w:W}{η':Env}(e:dD h k tg f p=.ok (w,η')):∃ ts us,bC k p.1=some ts/\aC tg f ts (aj tg p.2) []=.ok (us,η')/\(if h then (if us.all okD then some ((.d,.lst (trees us)):W) else none) else some (.o .s,.lst (trees us)))=some w:=by
 obtain ⟨⟨ts,η2⟩,h3,h4⟩:=aa (show (ret (aj tg p.2) (bC k p.1)).bind (fun t=>(aC tg f t.1 t.2 []).bind (ja h))=_ from e)
 obtain ⟨ts',ht,e3⟩:=ai h3
 have e4:ts=ts':=congrArg a19 e3
 have e5:η2=aj tg p.2:=congrArg a1Y e3
 subst e4 e5
 obtain ⟨⟨us,η3⟩,h5,h6⟩:=aa (show (aC tg f ts (aj tg p.2) []).bind (ja h)=_ from h4)
 obtain ⟨w',hw,e6⟩:=ai (show ret η3 (if h then (if us.all okD then some ((.d,.lst (trees us)):W) else none) else some (.o .s,.lst (trees us)))=_ from h6)
 have e7:w=w':=congrArg a19 e6
 have e8:η'=η3:=congrArg a1Y e6
 subst e7 e8
 exact ⟨ts,us,ht,h5,hw⟩
theorem jV {f:Env->Res (Option W×Env)}{t:List W}{ts:List (List W)}{η η3:Env}{acc us:List W}(e:aC tg f (t::ts) η acc=.ok (us,η3)):∃ ηb o ηc,a9 tg t η=some ηb/\f ηb=.ok (o,ηc)/\aC tg f ts (aj tg ηc) (acc++o.toList)=.ok (us,η3):=by
 obtain ⟨η1,h1,h2⟩:=aa (show (ofO (a9 tg t η)).bind (fun η1=>(f η1).bind fun p=>aC tg f ts (aj tg p.2) (acc++p.1.toList))=_ from e)
 obtain ⟨⟨o,η2⟩,h3,h4⟩:=aa h2
 exact ⟨η1,o,η2,cO h1,h3,h4⟩
theorem gb {n:Nat}{h:Bool}{k:Ik}{src:List E}{f:Env->Res (Option W×Env)}{te:L2.St->Hp->(Option V->Hp->Prop)->Prop}(hn:tg.length=n)(nd:tg.Nodup)(I:eL sf sg tg is)
  (hf:∀ {η o η'},f η=.ok (o,η')->Nn η η')
  (hte:∀ {val:Nat->Option V} {σ2:L2.St} {Z:Fp} {H:Hp} {Fs:Fps} {η ηc:Env} {R:Fp} {o:Option W} {Q:Option V->Hp->Prop},At K ⟨sg,val⟩ σ2 Z H Fs η R->f η=.ok (o,ηc) ->
   (∀ oy Z' H' Fs' G,At K ⟨sg,val⟩ σ2 Z' H' Fs' ηc (fun c=>R c\/G c)->(match o,oy with | some w,some y=>Rep K Z' H' w.1 w.2 y G | none,none=>True | _,_=>False)->(∀ c,R c->¬ G c)->Step Z H (tot Fs) Z' H' (fun a=>tot Fs' a\/G a)->Q oy H')->te σ2 H Q)
  {e:E} (he:∀ η,evE C e η=(evL C src η).bind (dD h k tg f)) (σ:L2.St) (H:Hp) (Q:VK) (hw:wE K sf C e σ H Q) :
  wI K sf C n k src σ H fun J H1=>∃ W:Nat->Nat->List V->Hp->Prop,(∃ m,W 0 m [] H1)/\∀ i m ys H,W i m ys H ->
   (J.stop i H/\ys.length<=sizeLine/\∀ p,H p=none->Q (.ref p) (upd H p (.lst ys))) \/
   (J.go i H/\ys.length < sizeLine/\∀ x H',J.yld i H x H'->gT K n x (a0i n none++bI σ is) H' fun σ2 H2=>(σ2.length=n+(bI σ is).length/\σ2.drop n=bI σ is)/\te σ2 H2 fun oy H3=>∃ m',m' < m/\W (i+1) m' (ys++oy.toList) H3):=by
 obtain ⟨pv,Z,Fs,η,w,η',A,ev,kk⟩:=hw
 rw [he] at ev
 obtain ⟨⟨ws,η1⟩,h1,h2⟩:=aa ev
 obtain ⟨ts,us,ht,h3,h4⟩:=i8 h2
 refine ⟨pv,Z,Fs,η,ws,η1,ts,A,h1,ht,fun J Z1 H1 Fs1 A1 s1 wk yl=>?_⟩
 obtain ⟨val,v1,A2,v2⟩:=(A1.dels (tg:=tg)).pin
 have s1':Step Z H (tot Fs) Z1 H1 (tot (el Fs1 tg)):=s1.mono (fun _ z=>z) fun _ z=>cF z
 refine ⟨fun i m ys H=>m=ts.length-i/\i<=ts.length/\CSt K sf val σ tg f ts (aj tg η1) us η' Z1 H1 (tot (el Fs1 tg)) i ys H,⟨ts.length,by simp,a1f _,⟨⟨Z1,el Fs1 tg,aj tg η1,[],no,A2,rfl,h3,fun j hj=>by rw [aL,if_pos hj],fun j hj a ha=>ha.1 hj,Nn.refl _,(Step.refl _ _ _).mono (fun _ z=>z) fun a ha=>ha.elim id fun z=>z.elim⟩,a0r _⟩⟩,?_⟩
 rintro i m ys H0 ⟨rfl,hi,⟨⟨Zi,Fsi,ηi,acc,Ga,Ai,ra,hc,htg,hfp,hnn,si⟩,hlen⟩⟩
 have st:Stay Z1 H1 H0:=A2.gd.own.stay si
 have hL:=wk.len
 by_cases hlt:i < ts.length
 ·right
  refine ⟨wk.go H0 i st hlt,a2y (a0z hlen hi) (jE hL),fun x H2 y=>?_⟩
  have hw:ts[i]?=some ts[i]:=by simp [hlt]
  rw [fT hw] at hc
  obtain ⟨ηb,o,ηc,hb,hfe,hc2⟩:=jV hc
  refine l5 hn nd I si.zm st yl Ai htg hw hb y fun σ2 H3 A3 s3 hσ=>⟨hσ,?_⟩
  refine hte A3 hfe fun oy Z4 H4 Fs4 G4 A4 r4 d4 s4=>⟨ts.length-(i+1),by omega,rfl,hlt,⟨?_,?_⟩⟩
  ·have ra3:RepW K Zi H3 acc ys Ga:=ra.frame cp s3 fun _ _ z=>z
   have ra4:RepW K Z4 H4 acc ys Ga:=ra3.frame A3.gd.own s4 A3.dis
   have vv:∀ j m t,rd (aj tg ηc) j=some (m,t)->val j≠none:=fun j m t e=>by
    rw [aL] at e
    split at e
    ·cases e
    ·rename_i hj
     have n1:rd ηb j≠none:=fun z=>by rw [hf hfe j z] at e; cases e
     rw [fF hb j hj] at n1
     have n2:rd (aj tg η1) j≠none:=fun z=>n1 (hnn j z)
     cases e2:rd (aj tg η1) j with
     | none=>exact absurd e2 n2
     | some u=>exact v2 j u.1 u.2 e2
   have A5:=(A4.dels (tg:=tg)).outof (sf:=sf) (σ:=σ) (val:=val) (fun j hj=>by rw [aL,if_pos hj]) vv Ai.lk Ai.ln
   have s5:Step Z1 H1 (tot (el Fs1 tg)) Z4 H4 (fun a=>tot (el Fs4 tg) a\/(Ga a\/G4 a)):=by
    refine (si.trans (((s3.frame (fun a=>tot Fsi a\/Ga a)).mono (fun a ha=>ha.elim (fun z=>z.elim) id) fun a ha=>.inr ha).trans (s4.frame Ga))).mono (fun _ z=>z) fun a ha=>?_
    rcases ha with z | z | z
    ·exact .inl (.inl (cF z))
    ·exact .inr z
    ·exact .inl (.inr z)
   refine ⟨Z4,el Fs4 tg,aj tg ηc,acc++o.toList,fun c=>Ga c\/G4 c,A5,?_,hc2,fun j hj=>by rw [aL,if_pos hj],fun j hj a ha=>ha.1 hj,fun j e=>?_,s5⟩
   ·cases o with
    | none =>
     cases oy with
     | none=>rw [a1Z,a1Z,a0P,a0P]; exact ra4.mono fun _ z=>.inl z
     | some _=>exact r4.elim
    | some w4 =>
     cases oy with
     | none=>exact r4.elim
     | some y4=>exact RepW.append (fun _ z=>.inl z) (fun _ z=>.inr z) d4 ra4 (RepW.one r4)
   ·have e':=hnn j e
    rw [aL]
    split
    ·rfl
    ·rename_i hj
     exact hf hfe j (by rw [fF hb j hj]; exact e')
  ·have:ys.length<=i:=hlen
   cases oy<;>simp<;>omega
 ·left
  have hi':i=ts.length:=by omega
  subst hi'
  rw [a2L] at hc
  cases hc
  refine ⟨wk.stop H0 _ st (a0r _),bQ (a0z hlen hL),pC Ai.own Ai.gd.zal ra (a0z hlen hL) h4 (cI (Ai.unpin v1) (s1'.trans si) kk)⟩
theorem iH {n:Nat}{h:Bool}{k:Ik}{src:List E}{elt:E}(hn:tg.length=n)(nd:tg.Nodup)(I:eL sf sg tg is)(σ:L2.St)(H:Hp)(Q:VK)(hw:wE K sf C (.comp h k src tg none elt) σ H Q):gX n (wI K sf C n k src) is (gT K n) (wE K sg C elt) σ H Q:=by
 refine gb (te:=fun σ2 H Q=>wE K sg C elt σ2 H fun y H'=>Q (some y) H') hn nd I (fun {η o η'} hf=>?_) (fun {val σ2 Z H Fs η ηc R o Q} A hf k=>?_) (fun η=>rfl) σ H Q hw
 ·obtain ⟨⟨u,η4⟩,h7,h8⟩:=aa (show (evE C elt η).bind ee=_ from hf)
  cases h8
  exact aw elt h7
 ·obtain ⟨⟨u,η4⟩,h7,h8⟩:=aa (show (evE C elt η).bind ee=_ from hf)
  cases h8
  exact dX A h7 fun v Z' H' Fs' G B r d s _=>k (some v) Z' H' Fs' G B r d s
theorem oE {n:Nat}{h:Bool}{k:Ik}{src:List E}{elt cnd:E}(hn:tg.length=n)(nd:tg.Nodup)(I:eL sf sg tg is)(σ:L2.St)(H:Hp)(Q:VK)(hw:wE K sf C (.comp h k src tg (some cnd) elt) σ H Q):dS n (wI K sf C n k src) is (gT K n) (wT K sg C cnd) (wE K sg C elt) σ H Q:=by
 have main:=gb (te:=fun σ2 H Q=>wT K sg C cnd σ2 H fun ok H2=>if ok=true then wE K sg C elt σ2 H2 fun y H'=>Q (some y) H' else Q none H2) hn nd I (f:=iN (evE C cnd) (evE C elt)) (fun {η o η'} hf=>by
  obtain ⟨⟨u,η4⟩,h7,h8⟩:=aa (show (evE C cnd η).bind (onT (bZ (evE C elt)) (okW none))=_ from hf)
  obtain ⟨d,h9,h10⟩:=bA h8
  cases d with
  | true =>
   rw [if_pos rfl] at h10
   obtain ⟨⟨u2,η5⟩,h11,h12⟩:=aa (show (evE C elt η4).bind ee=_ from h10)
   cases h12
   exact (aw cnd h7).trans (aw elt h11)
  | false =>
   rw [if_neg a0d] at h10
   cases h10
   exact aw cnd h7) (fun {val σ2 Z H Fs η ηc R o Q} A hf k=>by
  obtain ⟨⟨u,η4⟩,h7,h8⟩:=aa (show (evE C cnd η).bind (onT (bZ (evE C elt)) (okW none))=_ from hf)
  obtain ⟨d,h9,h10⟩:=bA h8
  refine j4 A.bare h7 h9 fun Z1 H1 Fs1 A1 s1=>?_
  have A1':=A.frame (A1.mono (G':=no) fun _ z=>z) (s1.mono (fun _ z=>z) fun a ha=>ha.elim id fun z=>z.elim)
  have A2:=A1'.1.mono (G':=R) fun _ z=>.inl z
  cases d with
  | true =>
   rw [if_pos rfl] at h10 ⊢
   obtain ⟨⟨u2,η5⟩,h11,h12⟩:=aa (show (evE C elt η4).bind ee=_ from h10)
   cases h12
   exact dX A2 h11 fun v Z' H' Fs' G B r d s _=>k (some v) Z' H' Fs' G B r d (s1.trans s)
  | false =>
   rw [if_neg a0d] at h10 ⊢
   cases h10
   exact k none Z1 H1 Fs1 no (A2.mono fun _ z=>z.elim id fun q=>q.elim) trivial (fun _ _ z=>z) (s1.mono (fun _ z=>z) fun a ha=>ha.elim id fun z=>z.elim)) (fun η=>rfl) σ H Q hw
 refine (?_:∀ {a b:It->Hp->Prop},(∀ J H1,a J H1->b J H1)->wI K sf C n k src σ H a->wI K sf C n k src σ H b) ?_ main
 ·rintro a b hab ⟨pv,Z,Fs,η,ws,η',ts,A,ev,ht,kk⟩
  exact ⟨pv,Z,Fs,η,ws,η',ts,A,ev,ht,fun J Z' H' Fs' A' s' w' y'=>hab J H' (kk J Z' H' Fs' A' s' w' y')⟩
 ·rintro J H1 ⟨W,w0,turn⟩
  refine ⟨W,w0,fun i m ys H w=>?_⟩
  rcases turn i m ys H w with c | ⟨go,hz,step⟩
  ·exact .inl c
  ·refine .inr ⟨go,hz,fun x H' y=>?_⟩
   have st:=step x H' y
   simp only [Option.toList_some,a1Z,a0P] at st
   exact st
end
end MR
namespace MR
open L2 L3 M
open PySem (Addr Str sizeLine)
section
variable {K:a0a}{sl:Cf}{sf sg:Nat->Option Nat}{C:Call}{σ σ2:L2.St}{Z Z' Z1:Fp}{H H' H1:Hp}{Fs Fs' Fs1:Fps}{η η' η1 ηb:Env}{G G' G1 R F:Fp}{tg is:List Nat}{pv val:Nat->Option V}
noncomputable def mP (Fs:Fps)(i:Nat)(G:Fp):Fps:=fun j a=>(j=i/\G a)\/(j≠i/\Fs j a)
theorem bu {i:Nat}{a:Addr}(h:tot (mP Fs i G) a):tot Fs a\/G a:=by
 obtain ⟨j,h | h⟩:=h
 ·exact .inr h.2
 ·exact .inl ⟨j,h.2⟩
theorem At.put {i:Nat}{w:W}{x:V}(A:At K sl σ Z H Fs η G)(r:Rep K Z H w.1 w.2 x G1)(h1:∀ a,G1 a->G a)(h2:∀ a,R a->G a)(hd:∀ a,R a->¬ G1 a)(hl:∀ j,sl.sl i=some j->σ[j]?=some (some x))(hp:∀ u,sl.pv i=some u->x=u) :
  At K sl σ Z H (mP Fs i G1) (M.put η i w) R:=by
 refine ⟨⟨fun a h=>(bu h).elim (A.gd.own a) fun q=>A.own a (h1 a q),fun j k a hj hk=>?_,A.gd.zal⟩,fun j m t e=>?_,fun a h=>A.own a (h2 a h),fun a h q=>(bu q).elim (A.dis a (h2 a h)) (hd a h),A.lk,A.ln⟩
 ·rcases hj with ⟨rfl,hj⟩ | ⟨nj,hj⟩
  ·rcases hk with ⟨rfl,_⟩ | ⟨nk,hk⟩
   ·rfl
   ·exact absurd ⟨k,hk⟩ (A.dis a (h1 a hj))
  ·rcases hk with ⟨rfl,hk⟩ | ⟨nk,hk⟩
   ·exact absurd ⟨j,hj⟩ (A.dis a (h1 a hk))
   ·exact A.gd.dis j k a hj hk
 ·rw [bw] at e
  split at e
  ·rename_i hc
   cases e
   obtain ⟨rfl,_⟩:=hc
   exact ⟨x,r.mono fun a h=>.inl ⟨rfl,h⟩,hl,hp⟩
  ·rename_i hc
   obtain ⟨v,r',h'⟩:=A.env j m t e
   by_cases hj:j=i
   ·subst hj
    exact absurd ⟨rfl,dH e⟩ hc
   ·exact ⟨v,r'.mono fun a h=>.inr ⟨hj,h⟩,h'⟩
noncomputable def wA (K:a0a)(sl:Nat->Option Nat)(C:Call)(es:List E):TA:=fun σ H Q=>∃ pv Z Fs η ws η',At K ⟨sl,pv⟩ σ Z H Fs η no/\evA C es η=.ok (ws,η') /\
 ∀ vs Z' H' Fs' G,At K ⟨sl,pv⟩ σ Z' H' Fs' η' G->RepW K Z' H' ws vs G->Step Z H (tot Fs) Z' H' (fun a=>tot Fs' a\/G a)->(∀ (k i:Nat) (u:V),es[k]?=some (.io i)->pv i=some u->vs[k]?=some u)->Q vs H'
theorem ym (σ:L2.St)(H:Hp)(Q:List V->Hp->Prop)(h:wA K sf C [] σ H Q):xX σ H Q:=by
 obtain ⟨pv,Z,Fs,η,ws,η',A,ev,k⟩:=h
 cases ev
 exact k [] Z H Fs no A rfl ((Step.refl _ _ _).mono (fun _ z=>z) fun a ha=>ha.elim id fun z=>z.elim) fun k i u h _=>by simp at h
theorem DE {es:List E}{ws:List W}{Q:List V->Hp->Prop}(A:At K sl σ Z H Fs η R)(ev:evA C es η=.ok (ws,η'))
  (k:∀ vs Z' H' Fs' G,At K sl σ Z' H' Fs' η' (fun c=>R c\/G c)->RepW K Z' H' ws vs G->(∀ c,R c->¬ G c)->Step Z H (tot Fs) Z' H' (fun a=>tot Fs' a\/G a) ->
   Step Z H (fun c=>tot Fs c\/R c) Z' H' (fun c=>tot Fs' c\/(R c\/G c))->(∀ (k i:Nat) (u:V),es[k]?=some (.io i)->sl.pv i=some u->vs[k]?=some u)->Q vs H'):wA K sl.sl C es σ H Q :=
 ⟨sl.pv,Z,Fs,η,ws,η',A.bare,ev,fun v Z' H' Fs' G B r s hio=>by
  obtain ⟨h1,h2,h3⟩:=A.frame B s
  exact k v Z' H' Fs' G h1 r h3 s h2 hio⟩
theorem qj {e:E}{es:List E}(he:∀ i,e≠.io i)(σ:L2.St)(H:Hp)(Q:List V->Hp->Prop)(h:wA K sf C (e::es) σ H Q):kG (wE K sf C e) (wA K sf C es) σ H Q:=by
 obtain ⟨pv,Z,Fs,η,ws,η',A,ev,k⟩:=h
 obtain ⟨w,η1,us,h1,h2,rfl⟩:=fH he ev
 refine dX A h1 fun x Z1 H1 Fs1 G1 A1 r1 _ s1 _=>?_
 have A1':=A1.mono (G':=G1) fun _ z=>.inr z
 refine DE A1' h2 fun xs Z2 H2 Fs2 G2 A2 r2 d2 s2 t2 hio=>?_
 refine k (x::xs) Z2 H2 Fs2 _ A2 ⟨x,xs,G1,G2,rfl,fun _ z=>.inl z,fun _ z=>.inr z,d2,r1.frame A1.gd.own s2 A1'.dis,r2⟩ (s1.trans t2) fun k i u h hu=>?_
 cases k with
 | zero=>exact absurd (a0C h) (he i)
 | succ k=>exact hio k i u h hu
theorem mW {i j:Nat}{es:List E}(hs:sf i=some j)(σ:L2.St)(H:Hp)(Q:List V->Hp->Prop)(h:wA K sf C (.io i::es) σ H Q):kG (qD j) (wA K sf C es) σ H Q:=by
 obtain ⟨pv,Z,Fs,η,ws,η',A,ev,k⟩:=h
 obtain ⟨us,η1,w,h1,h2,rfl,rfl⟩:=g8 ev
 obtain ⟨m,t⟩:=w
 cases e0:rd η i with
 | none=>rw [dg es h1 i e0] at h2; cases h2
 | some w0 =>
  obtain ⟨v,_,hv⟩:=A.env i w0.1 w0.2 e0
  refine ⟨v,hv.1 j hs,pv,Z,Fs,η,us,η1,A,h1,fun xs Z2 H2 Fs2 G2 A2 r2 s2 hio=>?_⟩
  obtain ⟨v',r,hv'⟩:=A2.env i m t h2
  have ev':v'=v:=by
   have e1:=hv.1 j hs
   rw [hv'.1 j hs] at e1
   exact a0C (a0C e1)
  subst ev'
  have A3:At K ⟨sf,pv⟩ σ Z2 H2 (wG Fs2 i) (del η1 i) (fun a=>Fs2 i a\/G2 a):=by
   refine ⟨⟨fun a ⟨l,h1,h2⟩=>A2.gd.own a ⟨l,h2⟩,fun l l' a h1 h2=>A2.gd.dis l l' a h1.2 h2.2,A2.gd.zal⟩,fun l m' t' e=>?_,fun a ha=>ha.elim (fun z=>A2.gd.own a ⟨i,z⟩) (A2.own a),fun a ha ⟨l,h1,h2⟩=>ha.elim (fun z=>h1 (A2.gd.dis l i a h2 z)) fun z=>A2.dis a z ⟨l,h2⟩,A2.lk,A2.ln⟩
   rw [bw] at e
   split at e
   ·cases e
   ·rename_i hne
    obtain ⟨v'',r',hv''⟩:=A2.env l m' t' e
    have hli:l≠i:=fun z=>hne ⟨z,dH h2⟩
    exact ⟨v'',r'.mono fun a ha=>⟨hli,ha⟩,hv''⟩
  refine k (v'::xs) Z2 H2 (wG Fs2 i) _ A3 ⟨v',xs,Fs2 i,G2,rfl,fun _ z=>.inl z,fun _ z=>.inr z,fun a z y=>A2.dis a y ⟨i,z⟩,r,r2⟩ (s2.mono (fun _ z=>z) fun a ha=>?_) fun k i' u h hu=>?_
  ·rcases ha with ⟨l,_,z⟩ | z | z
   ·exact .inl ⟨l,z⟩
   ·exact .inl ⟨i,z⟩
   ·exact .inr z
  ·cases k with
   | zero=>cases h; rw [<- hv'.2 u hu]; rfl
   | succ k=>exact hio k i' u h hu
noncomputable def atV (io:List Nat)(vs:List V):List V:=io.filterMap fun i=>vs[i]?
noncomputable def spC (K:a0a)(C:Call)(f:Nat)(io:List Nat):List V->Hp->VK->Prop:=fun vs H Q=>∃ Z ws G w bs,RepW K Z H ws vs G/\Own Z H G/\(∀ a,Z a->H a≠none)/\C f ws=.ok (w,bs) /\
 ∀ v Z' H' G1 G2,Rep K Z' H' w.1 w.2 v G1->RepW K Z' H' bs (atV io vs) G2->(∀ a,G1 a->¬ G2 a)->Own Z' H' (fun a=>G1 a\/G2 a)->Step Z H G Z' H' (fun a=>G1 a\/G2 a)->Q v H'
noncomputable def fj:List E->Nat->List Nat
 | [],_=>[]
 | .io _::es,n=>n::fj es (n+1)
 | _::es,n=>fj es (n+1)
theorem vC {vs:List V}:∀ {es:List E} {n:Nat},(∀ (k i:Nat) (u:V),es[k]?=some (.io i)->pv i=some u->vs[n+k]?=some u)->(∀ i∈ios es,pv i≠none)->(ios es).filterMap pv=atV (fj es n) vs
 | [],_,_,_=>rfl
 | e::es,n,h,hv=>by
  have rest:(∀ i∈ios es,pv i≠none)->(ios es).filterMap pv=atV (fj es (n+1)) vs:=fun q=>vC (fun k i u hk hu=>by have:=h (k+1) i u hk hu; rw [show n+(k+1)=n+1+k by omega] at this; exact this) q
  cases e with
  | io i =>
   cases hu:pv i with
   | none=>exact absurd hu (hv i (by simp [ios]))
   | some u =>
    have h0:=h 0 i u rfl hu
    rw [Nat.add_zero] at h0
    show (i::ios es).filterMap pv=(n::fj es (n+1)).filterMap fun i=>vs[i]?
    rw [a0O,a0O,hu,h0]
    exact congrArg (u::·) (rest fun j hj=>hv j (by simp [ios,hj]))
  | _=>exact rest fun j hj=>hv j hj
theorem At.putAll:∀ {is:List Nat} {bs:List W} {Fs:Fps} {η:Env} {G2:Fp},At K ⟨sf,val⟩ σ Z H Fs η (fun a=>R a\/G2 a)->(∀ a,R a->¬ G2 a)->RepW K Z H bs (is.filterMap val) G2->(∀ i∈is,val i≠none)->∃ Fs',At K ⟨sf,val⟩ σ Z H Fs' (M.putAll is bs η) R/\∀ a,tot Fs' a->tot Fs a\/G2 a
 | [],bs,Fs,η,G2,A,_,_,_=>⟨Fs,A.mono fun _ z=>.inl z,fun _ z=>.inl z⟩
 | i::is,[],Fs,η,G2,A,_,_,_=>⟨Fs,A.mono fun _ z=>.inl z,fun _ z=>.inl z⟩
 | i::is,b::bs,Fs,η,G2,A,hd,r,hv=>by
  cases hu:val i with
  | none=>exact absurd hu (hv i a0f)
  | some u =>
   rw [a0O,hu] at r
   obtain ⟨x,r',A1,A2,e,a1,a2,ad,p,q⟩:=r
   cases e
   have B:=At.put (i:=i) (R:=fun a=>R a\/A2 a) (G1:=A1) A p (fun a h=>.inr (a1 a h)) (fun a h=>h.imp id (a2 a)) (fun a h q=>h.elim (fun z=>hd a z (a1 a q)) fun z=>ad a q z) (fun j hj=>A.lk i u j hu hj) (fun u' hu'=>by rw [show val i=some u' from hu'] at hu; cases hu; rfl)
   obtain ⟨Fs',B1,B2⟩:=At.putAll (is:=is) (bs:=bs) B (fun a h q=>hd a h (a2 a q)) q fun j hj=>hv j (a0g _ hj)
   exact ⟨Fs',B1,fun a h=>(B2 a h).elim (fun z=>(bu z).imp id (a1 a)) fun z=>.inr (a2 a z)⟩
theorem tG {f:Nat}{es:List E}{io:List Nat}(hio:fj es 0=io\/ios es=[])(σ:L2.St)(H:Hp)(Q:VK)(h:wE K sf C (.call f es) σ H Q):wA K sf C es σ H fun vs H1=>spC K C f io vs H1 Q:=by
 obtain ⟨pv,Z,Fs,η,w,η',A,ev,k⟩:=h
 obtain ⟨⟨ws,η1⟩,h1,h2⟩:=aa (show (evA C es η).bind (kCall C f (ios es))=_ from ev)
 obtain ⟨⟨u,bs⟩,h3,h4⟩:=aa (show (C f ws).bind (kBack (ios es) η1)=_ from h2)
 cases h4
 obtain ⟨val,v1,A2,v2⟩:=A.pin
 have hvn:∀ i∈ios es,val i≠none:=fun i hi=>by
  cases e:rd η i with
  | none=>exact absurd e (fo es h1 i hi)
  | some q=>exact v2 i q.1 q.2 e
 refine ⟨val,Z,Fs,η,ws,η1,A2,h1,fun vs Z1 H1 Fs1 G B r s hv=>?_⟩
 refine ⟨Z1,ws,G,u,bs,r,B.own,B.gd.zal,h3,fun v Z2 H2 G1 G2 r1 r2 d o st=>?_⟩
 obtain ⟨B2,s2⟩:=B.op o st
 have fin:∃ Fs',At K ⟨sf,val⟩ σ Z2 H2 Fs' (M.putAll (ios es) bs η1) G1/\∀ a,tot Fs' a->tot Fs1 a\/G2 a:=by
  rcases hio with e | e
  ·have e2:=vC (pv:=val) (es:=es) (n:=0) (vs:=vs) (fun k i u' hk hu=>by rw [a09]; exact hv k i u' hk hu) hvn
   rw [e] at e2
   rw [<- e2] at r2
   exact At.putAll B2 d r2 hvn
  ·rw [e]
   exact ⟨Fs1,B2.mono fun _ z=>.inl z,fun _ z=>.inl z⟩
 obtain ⟨Fs',B3,hF⟩:=fin
 refine k v Z2 H2 Fs' G1 (B3.unpin v1) r1 ((s.trans s2).mono (fun _ z=>z) fun a ha=>?_)
 rcases ha with z | z
 ·exact (hF a z).imp id .inr
 ·exact .inr (.inl z)
end
end MR
namespace MR
open L2 L3 M
open PySem (Addr Str sizeLine)
section
variable {K:a0a}{sl:Cf}{sf sg:Nat->Option Nat}{C:Call}{σ σ2:L2.St}{Z Z' Z1:Fp}{H H' H1:Hp}{Fs Fs' Fs1:Fps}{η η' η1 ηb:Env}{G G' G1 R F F':Fp}{tg is vs ls:List Nat}{pv val:Nat->Option V}
theorem qZ (o:Option W):toS (toS o)=toS o:=by
 cases o with
 | none=>rfl
 | some w=>rfl
theorem iW:∀ (vs:List Nat) (η:Env) (i:Nat),rd (share vs η) i=if i∈vs then toS (rd η i) else rd η i
 | [],η,i=>by simp [share]
 | v::vs,η,i=>by
  show rd (share vs (wr η v (toS (rd η v)))) i=_
  rw [iW vs,bw]
  by_cases h2:i=v
  ·subst h2
   rw [if_pos (show i∈i::vs from a0f)]
   by_cases hl:i < η.length
   ·rw [if_pos (show i=i/\i < η.length from ⟨rfl,hl⟩)]
    split
    ·exact qZ _
    ·rfl
   ·have e:rd η i=none:=by
     cases e:rd η i with
     | none=>rfl
     | some w=>exact absurd (dH e) hl
    rw [if_neg (show ¬ (i=i/\i < η.length) from fun h=>hl h.2),e]
    split<;>rfl
  ·rw [if_neg (show ¬ (i=v/\v < η.length) from fun h=>h2 h.1)]
   by_cases h1:i∈vs
   ·rw [if_pos h1,if_pos (a0g _ h1)]
   ·rw [if_neg h1,if_neg (by simp [h1,h2])]
theorem jn:∀ (η:Env) (i:Nat),rd (eT η) i=none
 | [],_=>rfl
 | _::_,0=>rfl
 | _::η,i+1=>jn η i
theorem kW:∀ (vs:List Nat) (η0 η:Env) (i:Nat) (w:W),rd (jw vs η0 η) i=some w->rd η i=some w\/(i∈vs/\toS (rd η0 i)=some w)
 | [],_,_,_,_,h=>.inl h
 | v::vs,η0,η,i,w,h=>by
  rcases kW vs η0 (wr η v (toS (rd η0 v))) i w h with e | e
  ·rw [bw] at e
   split at e
   ·rename_i hc; obtain ⟨rfl,_⟩:=hc; exact .inr ⟨a0f,e⟩
   ·exact .inl e
  ·exact .inr ⟨a0g _ e.1,e.2⟩
theorem iy:∀ (vs:List Nat) (η0 η:Env) (i:Nat) (w:W),rd (fI vs η0 η) i=some w->rd η i=some w\/lfO (rd η0 i)=some w
 | [],_,_,_,_,h=>.inl h
 | v::vs,η0,η,i,w,h=>by
  rcases iy vs η0 (wr η v (lfO (rd η0 v))) i w h with e | e
  ·rw [bw] at e
   split at e
   ·rename_i hc; obtain ⟨rfl,_⟩:=hc; exact .inr e
   ·exact .inl e
  ·exact .inr e
theorem uI {i:Nat}{w:W}(h:rd (pick vs ls η) i=some w):∃ m t,rd η i=some (m,t)/\((i∈vs/\w=(.s,t))\/(t.leaf=true/\w=(.d,t))):=by
 rcases iy ls η _ i w h with e | e
 ·rcases kW vs η _ i w e with e | ⟨hi,e⟩
  ·rw [jn] at e; cases e
  ·cases q:rd η i with
   | none=>rw [q] at e; cases e
   | some u=>rw [q] at e; cases e; exact ⟨u.1,u.2,rfl,.inl ⟨hi,rfl⟩⟩
 ·cases q:rd η i with
  | none=>rw [q] at e; cases e
  | some u =>
   rw [q] at e
   obtain ⟨m,t⟩:=u
   have e':(if t.leaf=true then some ((.d,t):W) else none)=some w:=e
   split at e'
   ·rename_i hl; cases e'; exact ⟨m,t,rfl,.inr ⟨hl,rfl⟩⟩
   ·cases e'
noncomputable def cN (Fs:Fps)(vs:List Nat):Fp:=fun a=>∃ i,i∈vs/\Fs i a
noncomputable def qG:Fps:=fun _ _=>False
theorem cG {a:Addr}(h:cN Fs vs a):tot Fs a:=let ⟨i,_,h⟩:=h; ⟨i,h⟩
theorem gN {a:Addr}(h:tot qG a):False:=let ⟨_,h⟩:=h; h
theorem At.quiet (A:At K sl σ Z H Fs η no):At K sl σ (fun a=>Z a\/cN Fs vs a) H qG (pick vs ls η) no:=by
 refine ⟨⟨fun a h=>(gN h).elim,fun _ _ _ h=>h.elim,fun a h=>h.elim (A.gd.zal a) fun q=>?_⟩,fun i m t e=>?_,cp,fun _ z=>z.elim,A.lk,A.ln⟩
 ·obtain ⟨_,xs,e⟩:=A.gd.own a (cG q)
  rw [e]; simp
 ·obtain ⟨m',t',e1,e2⟩:=uI e
  obtain ⟨v,r,h⟩:=A.env i m' t' e1
  rcases e2 with ⟨hi,e2⟩ | ⟨hl,e2⟩
  ·cases e2
   exact ⟨v,(r.sh.zmono fun a h=>h.imp id fun q=>⟨i,hi,q⟩).sany,h⟩
  ·cases e2
   exact ⟨v,r.leaf (fun _ _ _ q=>q) hl,h⟩
mutual
theorem Rep.dany:∀ {t:T} {v:V} {G:Fp},Rep K Z H .d t v G->Rep K Z' H .d t v G
 | .non,_,_,h=>h
 | .bl _,_,_,h=>h
 | .int _,_,_,h=>h
 | .str _,_,_,h=>h
 | .scr _,_,_,h=>h
 | .tup ts,_,_,⟨a,xs,e,q,l,r⟩=>⟨a,xs,e,q,l,RepL.dany r⟩
 | .lst ts,_,_,⟨a,xs,e,l,q,r⟩=>⟨a,xs,e,l,q,RepL.dany r⟩
 | .dct _ _,_,_,⟨a,xs,e,l,q,n,hl,r⟩=>⟨a,xs,e,l,q,n,hl,RepL.dany r⟩
 | .ins _ _ _,_,_,h=>h.elim
 | .gone,_,_,h=>h
theorem RepL.dany:∀ {ts:List T} {xs:List V} {G:Fp},RepL K Z H .d ts xs G->RepL K Z' H .d ts xs G
 | [],_,_,h=>h
 | t::ts,xs,_,⟨x,r,G1,G2,e,h1,h2,hd,p,q⟩=>⟨x,r,G1,G2,e,h1,h2,hd,Rep.dany p,RepL.dany q⟩
end
theorem dj (A:At K sl σ Z H Fs η no)(B:Own Z' H' G)(zal:∀ a,Z' a->H' a≠none)(s:Step (fun a=>Z a\/cN Fs vs a) H F Z' H' (fun a=>F' a\/G a))(hF:∀ a,¬ F a) :
  At K sl σ (fun a=>Z' a/\¬ cN Fs vs a) H' Fs η G/\Step Z H (tot Fs) (fun a=>Z' a/\¬ cN Fs vs a) H' (fun a=>tot Fs a\/G a):=by
 have keep:∀ a o,H a=some o->H' a=some o:=fun a o e=>s.keep a o e (hF a)
 have zz:∀ a,Z a->Z' a/\¬ cN Fs vs a:=fun a h=>⟨s.zm a (.inl h),fun q=>(A.gd.own a (cG q)).1 h⟩
 have nz:∀ a,tot Fs a->¬ (Z' a/\¬ cN Fs vs a):=fun a h q=>by
  obtain ⟨nz,xs,e⟩:=A.gd.own a h
  rcases s.zn a q.1 with z | z | z
  ·exact z.elim nz q.2
  ·exact hF a z
  ·rw [e] at z; cases z
 have gd:∀ a,G a->¬ tot Fs a:=fun a h q=>by
  obtain ⟨_,xs,e⟩:=A.gd.own a q
  rcases s.fn a (.inr h) with z | z
  ·exact hF a z
  ·rw [e] at z; cases z
 refine ⟨⟨⟨fun a h=>?_,A.gd.dis,fun a h=>zal a h.1⟩,fun i m t e=>?_,fun a h=>⟨fun q=>(B a h).1 q.1,(B a h).2⟩,gd,A.lk,A.ln⟩,⟨fun a o e _=>keep a o e,zz,fun a h=>?_,fun a h=>?_,s.al,fun _ a h=>zal a h.1⟩⟩
 ·obtain ⟨_,xs,e⟩:=A.gd.own a h
  exact ⟨nz a h,xs,keep a _ e⟩
 ·obtain ⟨v,r,h⟩:=A.env i m t e
  refine ⟨v,r.keep ⟨fun a o _ e=>keep a o e,fun a xs e=>?_,fun a o u e=>keep a _ e⟩ zz fun a o _ e=>keep a o e,h⟩
  rcases e with e | ⟨u,e⟩
  ·exact .inl (keep a _ e)
  ·exact .inr ⟨u,keep a _ e⟩
 ·rcases s.zn a h.1 with z | z | z
  ·exact z.elim .inl fun q=>absurd q h.2
  ·exact (hF a z).elim
  ·exact .inr (.inr z)
 ·rcases h with h | h
  ·exact .inl h
  ·exact (s.fn a (.inr h)).elim (fun z=>(hF a z).elim) .inr
theorem At.share (A:At K sl σ Z H Fs η G):At K sl σ (fun a=>Z a\/cN Fs vs a) H (el Fs vs) (M.share vs η) G/\∀ {Z0 H0 F0},Step Z0 H0 F0 Z H (fun a=>tot Fs a\/G a)->Step Z0 H0 F0 (fun a=>Z a\/cN Fs vs a) H (fun a=>tot (el Fs vs) a\/G a):=by
 refine ⟨⟨⟨fun a h=>?_,fun i j a h1 h2=>A.gd.dis i j a h1.2 h2.2,fun a h=>h.elim (A.gd.zal a) fun q=>?_⟩,fun i m t e=>?_,fun a h=>⟨fun z=>z.elim (A.own a h).1 fun q=>A.dis a h (cG q),(A.own a h).2⟩,fun a h q=>A.dis a h (cF q),A.lk,A.ln⟩,fun {Z0 H0 F0} s=>⟨s.keep,fun a h=>.inl (s.zm a h),fun a h=>h.elim (s.zn a) fun q=>.inr (s.fn a (.inl (cG q))),fun a h=>s.fn a (h.imp cF id),s.al,fun z a h=>h.elim (s.za z a) fun q=>?_⟩⟩
 ·obtain ⟨i,hi,h'⟩:=h
  obtain ⟨nz,xs,e⟩:=A.gd.own a ⟨i,h'⟩
  exact ⟨fun z=>z.elim nz fun ⟨j,hj,q⟩=>hi (A.gd.dis i j a h' q ▸ hj),xs,e⟩
 ·obtain ⟨_,xs,e⟩:=A.gd.own a (cG q)
  rw [e]; simp
 ·rw [iW] at e
  split at e
  ·rename_i hi
   cases q:rd η i with
   | none=>rw [q] at e; cases e
   | some u =>
    rw [q] at e; cases e
    obtain ⟨v,r,h⟩:=A.env i u.1 u.2 q
    exact ⟨v,(r.sh.zmono fun a h=>h.imp id fun q=>⟨i,hi,q⟩).sany,h⟩
  ·rename_i hi
   obtain ⟨v,r,h⟩:=A.env i m t e
   exact ⟨v,(r.zmono fun a h=>.inl h).mono fun a h=>⟨hi,h⟩,h⟩
 ·obtain ⟨_,xs,e⟩:=A.gd.own a (cG q)
  rw [e]; simp
theorem qE {x:X}{e:E}{w:W}{Q:VK}(A:At K sl σ Z H Fs η no)(ev:evX C x e η=.ok (w,η'))(k:∀ v Z' H' Fs' G,At K sl σ Z' H' Fs' η' G->Rep K Z' H' w.1 w.2 v G->Step Z H (tot Fs) Z' H' (fun a=>tot Fs' a\/G a)->Q v H'):wE K sl.sl C e σ H Q:=by
 cases x with
 | q vs ls =>
  obtain ⟨⟨u,η2⟩,h1,h2⟩:=aa (show (evE C e (pick vs ls η)).bind (kX vs η)=_ from ev)
  cases h2
  generalize hm0:M.lf u.1 u.2=m0 at k
  refine ⟨sl.pv,_,qG,_,_,η2,A.quiet (vs:=vs) (ls:=ls),h1,fun v Z' H' Fs' G B r0 s=>?_⟩
  have r:=r0.lf
  rw [hm0] at r
  obtain ⟨B1,s1⟩:=dj A B.own B.gd.zal s fun a h=>gN h
  have other:Q v H'\/m0=.d:=by
   by_cases hd:m0=.d
   ·exact .inr hd
   ·refine .inl ?_
    have e':after m0 vs η=share vs η:=by
     cases hm:m0 with
     | d=>exact absurd hm hd
     | s=>rfl
     | o m=>rfl
    obtain ⟨B2,s2⟩:=B1.share (vs:=vs)
    have zz:∀ a,(Z' a/\¬ cN Fs vs a)\/cN Fs vs a->Z' a:=fun a h=>h.elim a2N fun q=>s.zm a (.inr q)
    have zz':∀ a,Z' a->(Z' a/\¬ cN Fs vs a)\/cN Fs vs a:=fun a h=>(a3a (cN Fs vs a)).elim .inr fun q=>.inl ⟨h,q⟩
    exact k v _ H' _ G (e' ▸ B2) (r.zmono zz') (s2 s1)
  rcases other with q | hd
  ·exact q
  ·have e':after m0 vs η=η:=by rw [hd]; rfl
   refine k v _ H' Fs G (e'.symm ▸ B1) ?_ s1
   subst hd
   exact r.dany
 | l vs =>
  obtain ⟨B,s0⟩:=A.share (vs:=vs)
  have s1:=s0 ((Step.refl Z H (tot Fs)).mono (F2:=fun a=>tot Fs a\/no a) (fun _ z=>z) fun a h=>h.elim id fun z=>z.elim)
  refine ⟨sl.pv,_,_,_,w,η',B,ev,fun v Z' H' Fs' G B' r s=>k v Z' H' Fs' G B' r ((s1.mono (fun _ z=>z) fun a h=>.inl h).trans s)⟩
theorem Cr {x:X}{e:E}{b:Bool}{Q:Bool->Hp->Prop}(A:At K sl σ Z H Fs η no)(ev:evT C x e η=.ok (b,η'))(k:∀ Z' H' Fs',At K sl σ Z' H' Fs' η' no->Step Z H (tot Fs) Z' H' (tot Fs')->Q b H'):wT K sl.sl C e σ H Q:=by
 cases x with
 | q vs ls =>
  obtain ⟨⟨u,η2⟩,h1,h2⟩:=aa (show (evE C e (pick vs ls η)).bind (kT η)=_ from ev)
  obtain ⟨b',h3,e3⟩:=ai (show ret η (truth u.2)=_ from h2)
  cases e3
  refine ⟨sl.pv,_,qG,_,u,η2,b,A.quiet (vs:=vs) (ls:=ls),h1,h3,fun Z' H' Fs' B s=>?_⟩
  obtain ⟨B1,s1⟩:=dj (G:=no) A cp B.gd.zal (s.mono (F2:=fun a=>tot Fs' a\/no a) (fun _ z=>z) fun a h=>h.elim id fun z=>z.elim) fun a h=>gN h
  exact k _ H' Fs B1 (s1.mono (fun _ z=>z) fun a h=>.inl h)
 | l vs =>
  obtain ⟨⟨u,η2⟩,h1,h2⟩:=aa (show (evE C e (M.share vs η)).bind kT2=_ from ev)
  obtain ⟨b',h3,e3⟩:=ai (show ret η2 (truth u.2)=_ from h2)
  cases e3
  obtain ⟨B,s0⟩:=A.share (vs:=vs)
  have s1:=s0 ((Step.refl Z H (tot Fs)).mono (F2:=fun a=>tot Fs a\/no a) (fun _ z=>z) fun a h=>h.elim id fun z=>z.elim)
  exact ⟨sl.pv,_,_,_,u,_,b,B,h1,h3,fun Z' H' Fs' B' s=>k Z' H' Fs' B' ((s1.mono (fun _ z=>z) fun a h=>.inl h).trans s)⟩
end
end MR
namespace MR
open L2 L3 M
open PySem (Addr Str sizeLine)
section
variable {K:a0a}{sl:Cf}{sf sg:Nat->Option Nat}{C:Call}{σ σ2:L2.St}{Z Z' Z1:Fp}{H H' H1:Hp}{Fs Fs' Fs1:Fps}{η η' η1 ηb:Env}{G G' G1 R F F':Fp}{tg is vs ls io:List Nat}{pv val:Nat->Option V}{D:cx}
noncomputable def Fin (K:a0a)(sl:Cf)(Z:Fp)(H:Hp)(F:Fp)(D:cx):Fl->Prop
 | .nx η'=>∀ σ' Z' H' Fs',At K sl σ' Z' H' Fs' η' no->Step Z H F Z' H' (tot Fs')->D.nx σ' H'
 | .rt w η'=>∀ v σ' Z' H' Fs' G,At K sl σ' Z' H' Fs' η' G->Rep K Z' H' w.1 w.2 v G->Step Z H F Z' H' (fun a=>tot Fs' a\/G a)->D.rt v H'
 | .bk η'=>∀ σ' Z' H' Fs',At K sl σ' Z' H' Fs' η' no->Step Z H F Z' H' (tot Fs')->D.bk σ' H'
 | _=>False
theorem Fin.step {fl:Fl}(s:Step Z H F Z1 H1 F')(h:Fin K sl Z H F D fl):Fin K sl Z1 H1 F' D fl:=by
 cases fl with
 | nx η=>exact fun σ' Z' H' Fs' A t=>h σ' Z' H' Fs' A (s.trans t)
 | rt w η=>exact fun v σ' Z' H' Fs' G A r t=>h v σ' Z' H' Fs' G A r (s.trans t)
 | bk η=>exact fun σ' Z' H' Fs' A t=>h σ' Z' H' Fs' A (s.trans t)
 | _=>exact h.elim
structure qJ (sf:Nat->Option Nat)(io:List Nat)(pv:Nat->Option V):Prop where
 inj:∀ i i' j,sf i=some j->sf i'=some j->i=i'
 io:∀ i,i ∉ io->pv i=none
noncomputable def wS (K:a0a)(sf:Nat->Option Nat)(io:List Nat)(C:Call)(st:S):TS:=fun D σ H=>∃ pv Z Fs η,qJ sf io pv/\At K ⟨sf,pv⟩ σ Z H Fs η no/\Fin K ⟨sf,pv⟩ Z H (tot Fs) D (evS C st η)
noncomputable def wSs (K:a0a)(sf:Nat->Option Nat)(io:List Nat)(C:Call)(st:List S):TS:=fun D σ H=>∃ pv Z Fs η,qJ sf io pv/\At K ⟨sf,pv⟩ σ Z H Fs η no/\Fin K ⟨sf,pv⟩ Z H (tot Fs) D (evSs C st η)
theorem rG (D:cx)(σ:L2.St)(H:Hp)(h:wSs K sf io C [] D σ H):vX D σ H:=by
 obtain ⟨pv,Z,Fs,η,N,A,f⟩:=h
 exact f σ Z H Fs A (Step.refl _ _ _)
theorem ox {s:S}{r:List S}(D:cx)(σ:L2.St)(H:Hp)(h:wSs K sf io C (s::r) D σ H):Ao (wS K sf io C s) (wSs K sf io C r) D σ H:=by
 obtain ⟨pv,Z,Fs,η,N,A,f⟩:=h
 refine ⟨pv,Z,Fs,η,N,A,?_⟩
 have f':Fin K ⟨sf,pv⟩ Z H (tot Fs) D (Fl.seq (evS C s η) (evSs C r)):=f
 cases e:evS C s η with
 | nx η1 =>
  rw [e] at f'
  exact fun σ' Z' H' Fs' A' t=>⟨pv,Z',Fs',η1,N,A',f'.step t⟩
 | rt w η1=>rw [e] at f'; exact f'
 | bk η1=>rw [e] at f'; exact f'
 | ex c x η1=>rw [e] at f'; exact f'.elim
 | no=>rw [e] at f'; exact f'.elim
theorem rY {s:S}(D:cx)(σ:L2.St)(H:Hp)(h:wSs K sf io C [s] D σ H):wS K sf io C s D σ H:=by
 obtain ⟨pv,Z,Fs,η,N,A,f⟩:=h
 refine ⟨pv,Z,Fs,η,N,A,?_⟩
 have f':Fin K ⟨sf,pv⟩ Z H (tot Fs) D (Fl.seq (evS C s η) (evSs C [])):=f
 cases e:evS C s η with
 | nx η1=>rw [e] at f'; exact f'
 | rt w η1=>rw [e] at f'; exact f'
 | bk η1=>rw [e] at f'; exact f'
 | ex c x η1=>rw [e] at f'; exact f'.elim
 | no=>rw [e] at f'; exact f'.elim
theorem bU {α:Type}{r:Res α}{g:α->Fl}(f:Fin K sl Z H F D (Fl.of η r g)):∃ a,r=.ok a/\Fin K sl Z H F D (g a):=by
 cases r with
 | ok a=>exact ⟨a,rfl,f⟩
 | ex c x=>exact f.elim
 | no=>exact f.elim
theorem k7 {o:Option Env}(f:Fin K sl Z H F D (nxO η o)):∃ η',o=some η'/\Fin K sl Z H F D (.nx η'):=by
 cases o with
 | some a=>exact ⟨a,rfl,f⟩
 | none=>exact f.elim
theorem At.setR {i j:Nat}{w:W}{x:V}(N:qJ sf io pv)(hi:i ∉ io)(hs:sf i=some j)(A:At K ⟨sf,pv⟩ σ Z H Fs η G)(r:Rep K Z H w.1 w.2 x G1)(q1:∀ a,G1 a->G a)(q2:∀ a,R a->G a)(q3:∀ a,R a->¬ G1 a):At K ⟨sf,pv⟩ (σ.set j (some x)) Z H (mP Fs i G1) (M.put η i w) R:=by
 have hj:j < σ.length:=A.ln i j hs
 have B:At K ⟨fun k=>if k=i then none else sf k,pv⟩ (σ.set j (some x)) Z H Fs (M.del η i) G:=by
  refine ⟨A.gd,fun l m t e=>?_,A.own,A.dis,fun l u k hu hk=>?_,fun l k hk=>?_⟩
  ·rw [bw] at e
   split at e
   ·cases e
   ·rename_i hne
    obtain ⟨v,r',h1,h2⟩:=A.env l m t e
    have hl:l≠i:=fun z=>hne ⟨z,by rw [<- z]; exact dH e⟩
    refine ⟨v,r',fun k hk=>?_,h2⟩
    have hk':sf l=some k:=by have:(if l=i then none else sf l)=some k:=hk; rw [if_neg hl] at this; exact this
    have hjk:j≠k:=fun z=>hl (N.inj l i k hk' (by rw [<- z]; exact hs))
    rw [a1u hjk]
    exact h1 k hk'
  ·have hl:l≠i:=fun z=>by
    have hu':pv l=some u:=hu
    rw [z,N.io i hi] at hu'; cases hu'
   have hk':sf l=some k:=by have:(if l=i then none else sf l)=some k:=hk; rw [if_neg hl] at this; exact this
   have hjk:j≠k:=fun z=>hl (N.inj l i k hk' (by rw [<- z]; exact hs))
   rw [a1u hjk]
   exact A.lk l u k hu hk'
  ·have hk':sf l=some k:=by
    have:(if l=i then none else sf l)=some k:=hk
    split at this
    ·cases this
    ·exact this
   rw [a2S]
   exact A.ln l k hk'
 have B2:=At.put (i:=i) (w:=w) (G1:=G1) (R:=R) B r q1 q2 q3 (fun k hk=>by have hk':(if i=i then none else sf i)=some k:=hk; rw [if_pos rfl] at hk'; cases hk') (fun u hu=>by have:=N.io i hi; rw [show pv i=some u from hu] at this; cases this)
 have e1:M.put (M.del η i) i w=M.put η i w:=by
  have:∀ (η:Env) (i:Nat) (a b:Option W),wr (wr η i a) i b=wr η i b:=fun η=>by
   induction η with
   | nil=>intro i a b; rfl
   | cons o η ih=>intro i a b; cases i with
    | zero=>rfl
    | succ i=>show o::wr (wr η i a) i b=o::wr η i b; rw [ih]
  exact this η i none (some w)
 rw [e1] at B2
 refine ⟨B2.gd,fun l m t e=>?_,B2.own,B2.dis,fun l u k hu hk=>?_,fun l k hk=>by rw [a2S]; exact A.ln l k hk⟩
 ·obtain ⟨v,r',h1,h2⟩:=B2.env l m t e
  by_cases hl:l=i
  ·subst hl
   rw [bw] at e
   split at e
   ·cases e
    refine ⟨x,r.mono fun a h=>.inl ⟨rfl,h⟩,fun k hk=>?_,fun u hu=>by have:=N.io l hi; rw [show pv l=some u from hu] at this; cases this⟩
    have:k=j:=by rw [show sf l=some k from hk] at hs; cases hs; rfl
    subst this
    rw [a1I hj]
   ·rename_i hc
    exact absurd ⟨rfl,dH e⟩ hc
  ·refine ⟨v,r',fun k hk=>h1 k ?_,h2⟩
   show (if l=i then none else sf l)=some k
   rw [if_neg hl]; exact hk
 ·by_cases hl:l=i
  ·subst hl
   have:=N.io l hi
   rw [show pv l=some u from hu] at this; cases this
  ·exact B2.lk l u k hu (show (if l=i then none else sf l)=some k by rw [if_neg hl]; exact hk)
theorem At.set {i j:Nat}{w:W}{x:V}(N:qJ sf io pv)(hi:i ∉ io)(hs:sf i=some j)(A:At K ⟨sf,pv⟩ σ Z H Fs η G)(r:Rep K Z H w.1 w.2 x G):At K ⟨sf,pv⟩ (σ.set j (some x)) Z H (mP Fs i G) (M.put η i w) no:=At.setR N hi hs A r (fun _ h=>h) (fun _ z=>z.elim) (fun _ z=>z.elim)
theorem qc {x:X}{i j:Nat}{e:E}(hi:i ∉ io)(hs:sf i=some j)(D:cx)(σ:L2.St)(H:Hp)(h:wS K sf io C (.asg x i e) D σ H):mj (wE K sf C e) (cy j) D σ H:=by
 obtain ⟨pv,Z,Fs,η,N,A,f⟩:=h
 obtain ⟨⟨w,η1⟩,h1,h2⟩:=bU (show Fin K ⟨sf,pv⟩ Z H (tot Fs) D (Fl.of η (evX C x e η) (tV i)) from f)
 refine qE (sl:=⟨sf,pv⟩) A h1 fun v Z' H' Fs' G B r s=>?_
 exact h2 _ Z' H' _ (At.set N hi hs B r) (s.mono (fun _ z=>z) fun a ha=>bu ha)
theorem y0 {x:X}{e:E}(D:cx)(σ:L2.St)(H:Hp)(h:wS K sf io C (.exp x e) D σ H):vK (wE K sf C e) D σ H:=by
 obtain ⟨pv,Z,Fs,η,N,A,f⟩:=h
 obtain ⟨⟨w,η1⟩,h1,h2⟩:=bU (show Fin K ⟨sf,pv⟩ Z H (tot Fs) D (Fl.of η (evX C x e η) kNx) from f)
 exact qE (sl:=⟨sf,pv⟩) A h1 fun v Z' H' Fs' G B r s=>h2 σ Z' H' Fs' B.bare (s.mono (fun _ z=>z) fun a ha=>.inl ha)
theorem yn {e:E}(D:cx)(σ:L2.St)(H:Hp)(h:wS K sf io C (.ret vs e) D σ H):BV (wE K sf C e) D σ H:=by
 obtain ⟨pv,Z,Fs,η,N,A,f⟩:=h
 obtain ⟨⟨w,η1⟩,h1,h2⟩:=bU (show Fin K ⟨sf,pv⟩ Z H (tot Fs) D (Fl.of η (evE C e (M.share vs η)) kRt) from f)
 exact qE (sl:=⟨sf,pv⟩) (x:=.l vs) A h1 fun v Z' H' Fs' G B r s=>h2 v σ Z' H' Fs' G B r s
theorem yu {x:X}{c:E}{a b:List S}(D:cx)(σ:L2.St)(H:Hp)(h:wS K sf io C (.ite x c a b) D σ H):Cu (wT K sf C c) (wSs K sf io C a) (wSs K sf io C b) D σ H:=by
 obtain ⟨pv,Z,Fs,η,N,A,f⟩:=h
 obtain ⟨⟨k,η1⟩,h1,h2⟩:=bU (show Fin K ⟨sf,pv⟩ Z H (tot Fs) D (Fl.of η (evT C x c η) (kIf (evSs C a) (evSs C b))) from f)
 refine Cr (sl:=⟨sf,pv⟩) A h1 fun Z' H' Fs' B s=>?_
 cases k with
 | true=>rw [if_pos rfl]; exact ⟨pv,Z',Fs',η1,N,B,Fin.step s h2⟩
 | false=>rw [if_neg a0d]; exact ⟨pv,Z',Fs',η1,N,B,Fin.step s h2⟩
theorem k6 {m:Md}{ts:List T}{v:V}(hm:m≠.s)(r:Rep K Z H m (.lst ts) v G):∃ a xs,v=.ref a/\xs.length<=LIM/\G a/\H a=some (.lst xs)/\RepL K Z H m.kid ts xs (fun b=>G b/\b≠a):=by
 obtain ⟨a,xs,e,l,q,p⟩:=r
 rw [LstR.own hm] at q
 exact ⟨a,xs,e,l,q.1,q.2,p⟩
theorem kU {i:Nat}{a:Addr}{ts':List T}{xs':List V}{m':Md}(hm:m'≠.s)(A:At K ⟨sf,pv⟩ σ Z H Fs η G){w0:W}(hi:rd η i=some w0)(ha:Fs i a)(hx:∀ j,sf i=some j->σ[j]?=some (some (.ref a)))(hl:xs'.length<=LIM)(hpv:∀ u,pv i=some u->V.ref a=u)
  (hg:∀ b,G' b->(Fs i b\/G b)/\b≠a) (hR:∀ b,R b->(Fs i b\/G b)/\b≠a) (hRG:∀ b,R b->¬ G' b) (p:RepL K (fun b=>Z b\/((Fs i b\/G b)/\b≠a/\¬ G' b/\¬ R b)) H m'.kid ts' xs' G') {Q:Hp->Prop}
  (k:∀ Z' Fs',At K ⟨sf,pv⟩ σ Z' (upd H a (.lst xs')) Fs' (M.put η i (m',.lst ts')) R->Step Z H (fun b=>tot Fs b\/G b) Z' (upd H a (.lst xs')) (fun b=>tot Fs' b\/R b)->(∀ {m t v},Rep K (fun b=>Z b\/((Fs i b\/G b)/\b≠a/\¬ G' b/\¬ R b)) H m t v R->Rep K Z' (upd H a (.lst xs')) m t v R)->Q (upd H a (.lst xs'))):Q (upd H a (.lst xs')):=by
 have hta:tot Fs a:=⟨i,ha⟩
 obtain ⟨nza,ys,hya⟩:=A.gd.own a hta
 have nGa:¬ G a:=fun q=>A.dis a q hta
 have zdef:∀ b,(Z b\/((Fs i b\/G b)/\b≠a/\¬ G' b/\¬ R b))->b≠a:=fun b h z=>by
  subst z
  rcases h with h | h
  ·exact nza h
  ·exact h.2.1 rfl
 have keep:∀ b o,H b=some o->b≠a->upd H a (.lst xs') b=some o:=fun b o e hb=>by rw [af hb]; exact e
 have neT:∀ b xs,H b=some (.tup xs)->b≠a:=fun b xs e z=>by rw [z,hya] at e; exact nK e.symm
 have neF:∀ b o u,H b=some (.frz o u)->b≠a:=fun b o u e z=>by rw [z,hya] at e; exact jP e.symm
 have stay:∀ {Y:Fp},(∀ b,Y b->b≠a)->Stay Y H (upd H a (.lst xs')):=fun {Y} hY=>⟨fun b o hb e=>keep b o e (hY b hb),fun b xs e=>by
  rcases e with e | ⟨u,e⟩
  ·exact .inl (keep b _ e (neT b xs e))
  ·exact .inr ⟨u,keep b _ e (neF b u _ e)⟩,fun b o u e=>keep b _ e (neF b o u e)⟩
 have al:∀ b,H b≠none->upd H a (.lst xs') b≠none:=fun b h=>by
  by_cases e:b=a
  ·rw [e,aQ]; simp
  ·rw [af e]; exact h
 have zal':∀ b,(Z b\/((Fs i b\/G b)/\b≠a/\¬ G' b/\¬ R b))->H b≠none:=fun b h=>by
  rcases h with h | ⟨h | h,_⟩
  ·exact A.gd.zal b h
  ·obtain ⟨_,zs,e⟩:=A.gd.own b ⟨i,h⟩; rw [e]; simp
  ·obtain ⟨_,zs,e⟩:=A.own b h; rw [e]; simp
 have listAt:∀ b,(tot Fs b\/G b)->∃ zs:OO,upd H a (.lst xs') b=some zs.ho:=fun b h=>by
  by_cases e:b=a
  ·exact ⟨.inl xs',by rw [e,aQ]; rfl⟩
  ·rcases h with h | h
   ·obtain ⟨_,zs,q⟩:=A.gd.own b h; exact ⟨zs,by rw [af e]; exact q⟩
   ·obtain ⟨_,zs,q⟩:=A.own b h; exact ⟨zs,by rw [af e]; exact q⟩
 have nZ:∀ b,(Fs i b\/G b)->¬ Z b:=fun b h z=>h.elim (fun y=>(A.gd.own b ⟨i,y⟩).1 z) fun y=>(A.own b y).1 z
 have ir:∀ b,tot (mP Fs i fun b=>G' b\/b=a) b->(∃ j,j≠i/\Fs j b)\/G' b\/b=a:=fun b h=>by
  obtain ⟨j,h | h⟩:=h
  ·exact .inr h.2
  ·exact .inl ⟨j,h⟩
 refine k (fun b=>Z b\/((Fs i b\/G b)/\b≠a/\¬ G' b/\¬ R b)) (mP Fs i fun b=>G' b\/b=a) ⟨⟨fun b h=>⟨fun z=>?_,?_⟩,fun j l b hj hk=>?_,fun b h=>al b (zal' b h)⟩,fun l m t e=>?_,fun b h=>⟨fun z=>?_,listAt b ((hR b h).1.imp (fun z=>⟨i,z⟩) id)⟩,fun b h q=>?_,A.lk,A.ln⟩ ⟨fun b o e n=>keep b o e fun z=>n (.inl (z ▸ hta)),fun b h=>.inl h,fun b h=>h.imp id fun q=>.inl (q.1.imp (fun z=>⟨i,z⟩) id),fun b h=>?_,al,fun _ b h=>al b (zal' b h)⟩ fun {m t v} r=>r.keep (stay zdef) (fun _ z=>z) fun b o hb e=>keep b o e (hR b hb).2
 ·rcases ir b h with ⟨j,hj,q⟩ | q | q
  ·rcases z with z | ⟨z | z,_⟩
   ·exact (A.gd.own b ⟨j,q⟩).1 z
   ·exact hj (A.gd.dis j i b q z)
   ·exact A.dis b z ⟨j,q⟩
  ·rcases z with z | z
   ·exact nZ b (hg b q).1 z
   ·exact z.2.2.1 q
  ·exact zdef b z q
 ·rcases ir b h with ⟨j,hj,q⟩ | q | q
  ·exact listAt b (.inl ⟨j,q⟩)
  ·exact listAt b ((hg b q).1.imp (fun z=>⟨i,z⟩) id)
  ·exact ⟨.inl xs',by rw [q,aQ]; rfl⟩
 ·have key:∀ {j:Nat},(G' b\/b=a)->Fs j b->j=i:=fun {j} h q=>by
   rcases h with h | h
   ·rcases (hg b h).1 with y | y
    ·exact A.gd.dis j i b q y
    ·exact absurd ⟨j,q⟩ (A.dis b y)
   ·rw [h] at q; exact A.gd.dis j i a q ha
  rcases hj with ⟨rfl,hj⟩ | ⟨nj,hj⟩
  ·rcases hk with ⟨rfl,_⟩ | ⟨nk,hk⟩
   ·rfl
   ·exact absurd (key hj hk) nk
  ·rcases hk with ⟨rfl,hk⟩ | ⟨nk,hk⟩
   ·exact absurd (key hk hj) nj
   ·exact A.gd.dis j l b hj hk
 ·rw [bw] at e
  split at e
  ·rename_i hc
   obtain ⟨rfl,_⟩:=hc
   cases e
   refine ⟨.ref a,⟨a,xs',rfl,hl,(LstR.own hm).mpr ⟨.inl ⟨rfl,.inr rfl⟩,aQ⟩,?_⟩,hx,hpv⟩
   exact (p.keep (stay zdef) (fun _ z=>z) fun b o hb e=>keep b o e (hg b hb).2).mono fun b hb=>⟨.inl ⟨rfl,.inl hb⟩,(hg b hb).2⟩
  ·rename_i hc
   have hl':l≠i:=fun z=>hc ⟨z,dH hi⟩
   obtain ⟨v,r,h⟩:=A.env l m t e
   have nea:∀ b,Fs l b->b≠a:=fun b q z=>hl' (A.gd.dis l i a (z ▸ q) ha)
   exact ⟨v,((r.keep (stay fun b hb z=>nza (z ▸ hb)) (fun _ z=>z) fun b o hb e=>keep b o e (nea b hb)).zmono fun b h=>.inl h).mono fun b h=>.inr ⟨hl',h⟩,h⟩
 ·rcases z with z | z
  ·exact nZ b (hR b h).1 z
  ·exact z.2.2.2 h
 ·rcases ir b q with ⟨j,hj,y⟩ | y | y
  ·rcases (hR b h).1 with z | z
   ·exact hj (A.gd.dis j i b y z)
   ·exact A.dis b z ⟨j,y⟩
  ·exact hRG b h y
  ·exact (hR b h).2 y
 ·rcases h with h | h
  ·rcases ir b h with ⟨j,_,q⟩ | q | q
   ·exact .inl (.inl ⟨j,q⟩)
   ·exact .inl ((hg b q).1.imp (fun z=>⟨i,z⟩) id)
   ·exact .inl (.inl (q ▸ hta))
  ·exact .inl ((hR b h).1.imp (fun z=>⟨i,z⟩) id)
theorem change {i:Nat}{a:Addr}{ts':List T}{xs':List V}{m':Md}(hm:m'≠.s)(A:At K ⟨sf,pv⟩ σ Z H Fs η G){w0:W}(hi:rd η i=some w0)(ha:Fs i a)(hx:∀ j,sf i=some j->σ[j]?=some (some (.ref a)))(hl:xs'.length<=LIM)(hpv:∀ u,pv i=some u->V.ref a=u)
  (hg:∀ b,G' b->(Fs i b\/G b)/\b≠a) (p:RepL K (fun b=>Z b\/((Fs i b\/G b)/\b≠a/\¬ G' b)) H m'.kid ts' xs' G') {Q:Hp->Prop}
  (k:∀ Z' Fs',At K ⟨sf,pv⟩ σ Z' (upd H a (.lst xs')) Fs' (M.put η i (m',.lst ts')) no->Step Z H (fun b=>tot Fs b\/G b) Z' (upd H a (.lst xs')) (tot Fs')->Q (upd H a (.lst xs'))):Q (upd H a (.lst xs')) :=
 kU (R:=no) hm A hi ha hx hl hpv hg (fun _ z=>z.elim) (fun _ z=>z.elim) (p.zmono fun b h=>h.imp id fun q=>⟨q.1,q.2.1,q.2.2,fun z=>z⟩) fun Z' Fs' B s _=>k Z' Fs' B (s.mono (fun _ z=>z) fun _ z=>.inl z)
end
end MR
namespace MR
open L2 L3 M
open PySem (Addr Str sizeLine)
section
variable {K:a0a}{sl:Cf}{sf sg:Nat->Option Nat}{C:Call}{σ σ2:L2.St}{Z Z' Z1:Fp}{H H' H1:Hp}{Fs Fs' Fs1:Fps}{η η' η1 ηb:Env}{G G' G1 R F F':Fp}{tg is vs ls io:List Nat}{pv val:Nat->Option V}{D:cx}
theorem om {o:Option W}{u:Unit}(h:eB o=.ok u):∃ m ts,o=some (m,.lst ts):=by
 cases o with
 | none=>cases h
 | some w =>
  obtain ⟨m,t⟩:=w
  cases t with
  | lst ts=>exact ⟨m,ts,rfl⟩
  | _=>cases h
theorem At.listAt {i j:Nat}{m:Md}{ts:List T}(hs:sf i=some j)(A:At K ⟨sf,pv⟩ σ Z H Fs η G)(h:rd η i=some (m,.lst ts)):∃ a xs,σ[j]?=some (some (.ref a))/\H a=some (.lst xs):=by
 obtain ⟨v,r,hl,_⟩:=A.env i m _ h
 obtain ⟨a,xs,rfl,hx,_⟩:=bj r
 exact ⟨a,xs,hl j hs,hx⟩
theorem At.ourList {i j:Nat}{a:Addr}{m:Md}{ts:List T}(hs:sf i=some j)(hm:m≠.s)(hj:σ[j]?=some (some (.ref a)))(A:At K ⟨sf,pv⟩ σ Z H Fs η G)(h:rd η i=some (m,.lst ts)) :
  ∃ xs,xs.length<=LIM/\Fs i a/\H a=some (.lst xs)/\RepL K Z H m.kid ts xs (fun b=>Fs i b/\b≠a)/\(∀ u,pv i=some u->V.ref a=u):=by
 obtain ⟨v,r,hl,hp⟩:=A.env i m _ h
 have e:=hl j hs
 rw [hj] at e
 cases e
 obtain ⟨b,xs,e,l,g,hx,p⟩:=k6 hm r
 cases e
 exact ⟨xs,l,g,hx,p,hp⟩
theorem oj {u w r:W}(h:fv u w=some r):∃ m ts,u=(m,.lst ts)/\m≠.s/\ts.length < LIM/\r=((m.kid.meet (lf w.1 w.2)).up,.lst (ts++[w.2])):=by
 obtain ⟨m,t⟩:=u
 obtain ⟨n,t'⟩:=w
 cases m with
 | s=>cases h
 | d =>
  cases t with
  | lst ts =>
   have h':(if ts.length < LIM then some ((((Md.d.kid.meet (lf n t')).up,.lst (ts++[t'])):W)) else none)=some r:=h
   split at h'
   ·rename_i hl; cases h'; exact ⟨.d,ts,rfl,by simp,hl,rfl⟩
   ·cases h'
  | _=>cases h
 | o m =>
  cases t with
  | lst ts =>
   have h':(if ts.length < LIM then some (((((Md.o m).kid.meet (lf n t')).up,.lst (ts++[t'])):W)) else none)=some r:=h
   split at h'
   ·rename_i hl; cases h'; exact ⟨.o m,ts,rfl,by simp,hl,rfl⟩
   ·cases h'
  | _=>cases h
theorem pQ {a:Addr}{m:Md}{ts:List T}{xs:List V}{w:W}{y:V}{A0:Fp}(hA:∀ b,A0 b->b≠a)(hG:∀ b,G b->b≠a)(d:∀ b,A0 b->¬ G b)(p:RepL K Z H m ts xs A0)(r:Rep K Z H w.1 w.2 y G) :
  ∃ G',(∀ b,G' b->(A0 b\/G b)/\b≠a)/\RepL K (fun b=>Z b\/((A0 b\/G b)/\b≠a/\¬ G' b)) H (m.meet (lf w.1 w.2)) (ts++[w.2]) (xs++[y]) G':=by
 obtain ⟨G',g1,g2⟩:=ib (G:=fun b=>A0 b\/G b) (fun _ z=>.inl z) (fun _ z=>.inr z) d p (RepL.one r.lf)
 have ne:∀ b,(A0 b\/G b)->b≠a:=fun b h=>h.elim (hA b) (hG b)
 exact ⟨G',fun b h=>⟨g1 b h,ne b (g1 b h)⟩,g2.zmono fun b h=>h.imp id fun q=>⟨q.1,ne b q.1,q.2⟩⟩
theorem yV {x:X}{i j:Nat}{e:E}(hs:sf i=some j)(D:cx)(σ:L2.St)(H:Hp)(h:wS K sf io C (.app x i e) D σ H) :
  ∃ a xs,σ[j]?=some (some (.ref a))/\H a=some (.lst xs)/\wE K sf C e σ H fun y H1=>∃ xs,H1 a=some (.lst xs)/\xs.length < sizeLine/\D.nx σ (upd H1 a (.lst (xs++[y]))):=by
 obtain ⟨pv,Z,Fs,η,N,A,f⟩:=h
 obtain ⟨u,h0,h1⟩:=bU (show Fin K ⟨sf,pv⟩ Z H (tot Fs) D (Fl.of η (eB (rd η i)) (lT (evX C x e) η (pD i))) from f)
 obtain ⟨m0,t0,h00⟩:=om h0
 obtain ⟨a,xs0,hj,ha⟩:=A.listAt hs h00
 obtain ⟨⟨w,η1⟩,h2,h3⟩:=bU (show Fin K ⟨sf,pv⟩ Z H (tot Fs) D (Fl.of η (evX C x e η) (pD i)) from h1)
 obtain ⟨η2,h4,h5⟩:=k7 (show Fin K ⟨sf,pv⟩ Z H (tot Fs) D (nxO η1 (((rd η1 i).bind fun u=>fv u w).map fun u=>M.put η1 i u)) from h3)
 refine ⟨a,xs0,hj,ha,qE (sl:=⟨sf,pv⟩) A h2 fun y Z' H' Fs' G B r s=>?_⟩
 cases e1:rd η1 i with
 | none=>rw [e1] at h4; cases h4
 | some u1 =>
  rw [e1] at h4
  cases e2:fv u1 w with
  | none=>rw [show (some u1).bind (fun u=>fv u w)=fv u1 w from rfl,e2] at h4; cases h4
  | some r1 =>
   rw [show (some u1).bind (fun u=>fv u w)=fv u1 w from rfl,e2] at h4
   cases h4
   obtain ⟨m,ts,rfl,hm,hlen,rfl⟩:=oj e2
   obtain ⟨xs,hl,hf,hx,p,hpv⟩:=B.ourList hs hm hj e1
   have e3:=p.length
   obtain ⟨G',g1,g2⟩:=pQ (a:=a) (fun b h=>h.2) (fun b h z=>B.dis b h ⟨i,z ▸ hf⟩) (fun b h q=>B.dis b q ⟨i,h.1⟩) p r
   refine ⟨xs,hx,jE hl,?_⟩
   refine change (K:=K) (m':=(m.kid.meet (lf w.1 w.2)).up) (d7 _) B e1 hf (fun k hk=>by rw [show sf i=some k from hk] at hs; cases hs; exact hj) (by rw [a0e,e3,a0v]; omega) hpv (fun b h=>⟨(g1 b h).1.imp a2N id,(g1 b h).2⟩) (ts':=ts++[w.2]) (by rw [eH]; exact g2.zmono fun b h=>h.imp id fun q=>⟨q.1.imp a2N id,q.2⟩) fun Z2 Fs2 B2 s2=>h5 σ Z2 _ Fs2 B2 (s.trans s2)
theorem RepL.splitA {m:Md}:∀ {ts us:List T} {zs:List V} {G:Fp},RepL K Z H m (ts++us) zs G->∃ xs ys G1 G2,zs=xs++ys/\(∀ a,G1 a->G a)/\(∀ a,G2 a->G a)/\(∀ a,G1 a->¬ G2 a)/\RepL K Z H m ts xs G1/\RepL K Z H m us ys G2
 | [],us,zs,G,h=>⟨[],zs,no,G,rfl,fun _ z=>z.elim,fun _ z=>z,fun _ z=>z.elim,rfl,h⟩
 | t::ts,us,zs,G,⟨x,r,A,B,e,h1,h2,hd,p,q⟩=>by
  obtain ⟨xs,ys,G1,G2,e',g1,g2,d,p1,p2⟩:=RepL.splitA q
  refine ⟨x::xs,ys,fun a=>A a\/G1 a,G2,by rw [e,e']; rfl,fun a h=>h.elim (h1 a) fun z=>h2 a (g1 a z),fun a h=>h2 a (g2 a h),fun a h z=>h.elim (fun y=>hd a y (g2 a z)) fun y=>d a y z,⟨x,xs,A,G1,rfl,fun _ z=>.inl z,fun _ z=>.inr z,fun a h z=>hd a h (g1 a z),p,p1⟩,p2⟩
theorem ri {u:W}{ws:List W}{r:W×W}(h:gx u ws=some r):∃ m ts,u=(m,.lst ts)/\m≠.s/\((ws=[]/\∃ t,ts.getLast?=some t/\r=((m.kid,t),(m,.lst ts.dropLast)))\/(∃ n t us,ws=[(n,.int 0)]/\ts=t::us/\r=((m.kid,t),(m,.lst us)))):=by
 obtain ⟨m,t⟩:=u
 have key:∀ m:Md,m≠.s->gx (m,t) ws=some r->∃ m' ts,(m,t)=(m',.lst ts)/\m'≠.s/\((ws=[]/\∃ t,ts.getLast?=some t/\r=((m'.kid,t),(m',.lst ts.dropLast)))\/(∃ n t us,ws=[(n,.int 0)]/\ts=t::us/\r=((m'.kid,t),(m',.lst us)))):=fun m hm h=>by
  unfold gx at h
  split at h
  ·cases h
  ·rename_i m1 ts1 hq1 hq2 hq3
   cases hq2
   cases e:ts1.getLast? with
   | none=>rw [e] at h; cases h
   | some t=>rw [e] at h; cases h; exact ⟨_,ts1,rfl,hm,.inl ⟨rfl,t,e,rfl⟩⟩
  ·rename_i m1 t1 ts1 n1 hq1 hq2 hq3
   cases hq2
   cases h
   exact ⟨_,_,rfl,hm,.inr ⟨_,_,_,rfl,rfl,rfl⟩⟩
  ·cases h
 cases m with
 | s=>cases h
 | d=>exact key .d (by simp) h
 | o m=>exact key (.o m) (by simp) h
theorem td {i j:Nat}(hs:sf i=some j)(σ:L2.St)(H:Hp)(Q:VK)(h:wE K sf C (.pop i []) σ H Q):∃ a xs y,σ[j]?=some (some (.ref a))/\H a=some (.lst xs)/\xs[xs.length-1]?=some y/\Q y (upd H a (.lst xs.dropLast)):=by
 obtain ⟨pv,Z,Fs,η,w,η',A,ev,k⟩:=h
 obtain ⟨_,_,h0⟩:=aa (show (eB (rd η i)).bind (iX (evL C []) η (lI i))=_ from ev)
 obtain ⟨r,h3,h4⟩:=aa (show (ofO ((rd η i).bind fun w=>gx w [])).bind (fun r=>.ok (r.1,M.put η i r.2))=_ from h0)
 cases h4
 have h5:=cO h3
 cases e1:rd η i with
 | none=>rw [e1] at h5; cases h5
 | some u =>
  rw [e1] at h5
  obtain ⟨m,ts,rfl,hm,⟨_,t,ht,rfl⟩ | ⟨n,t,us,e,_⟩⟩:=ri (show gx u []=some r from h5)
  ·obtain ⟨v,r4,l4,p4⟩:=A.env i m _ e1
   obtain ⟨a,xs,rfl,hl,hf,hx,p⟩:=k6 hm r4
   have ets:ts=ts.dropLast++[t]:=by
    have hne:ts≠[]:=fun z=>by rw [z] at ht; cases ht
    have:=List.dropLast_concat_getLast hne
    rw [List.getLast?_eq_some_getLast hne] at ht
    cases ht
    exact this.symm
   rw [ets] at p
   obtain ⟨xs1,ys1,G1,G2,rfl,g1,g2,d,p1,p2⟩:=RepL.splitA p
   obtain ⟨y,r',A1,A2,e,a1,_,_,ry,q⟩:=p2
   obtain rfl:r'=[]:=q
   subst e
   have ry':=ry.mono a1
   refine ⟨a,xs1++[y],y,l4 j hs,hx,by simp,?_⟩
   rw [List.dropLast_concat]
   have hl1:xs1.length<=LIM:=by rw [a0e] at hl; omega
   refine kU (K:=K) (G':=G1) (R:=G2) (Q:=fun H'=>Q y H') hm A e1 hf (fun k hk=>l4 k hk) hl1 p4 (fun b h=>⟨.inl (g1 b h).1,(g1 b h).2⟩) (fun b h=>⟨.inl (g2 b h).1,(g2 b h).2⟩) (fun b h z=>d b z h) (ts':=ts.dropLast) (p1.zmono fun b h=>.inl h) fun Z' Fs' B s tr=>?_
   exact k y Z' _ Fs' G2 B (tr (ry'.zmono fun b h=>.inl h)) (s.mono (fun b h=>h.elim id fun z=>z.elim) fun _ z=>z)
  ·cases e
end
end MR
namespace MR
open L2 L3 M
open PySem (Addr Str sizeLine)
section
variable {K:a0a}{sl:Cf}{sf sg:Nat->Option Nat}{C:Call}{σ σ2:L2.St}{Z Z' Z1:Fp}{H H' H1:Hp}{Fs Fs' Fs1:Fps}{η η' η1 ηb:Env}{G G' G1 R F F':Fp}{tg is vs ls io:List Nat}{pv val:Nat->Option V}{D:cx}
noncomputable def gF (K:a0a):List Nat->TG
 | [j]=>cy j
 | [j,l]=>uR K 2 (fC (cy j) (fC (cy l) sd))
 | _=>fun _ _ _ _=>False
theorem pR {fl:Fl}{g:Env->Fl}(f:Fin K sl Z H F D (Fl.turn fl g)):(∃ η',fl=.nx η'/\Fin K sl Z H F D (g η'))\/(∃ η',fl=.bk η'/\Fin K sl Z H F D (.nx η'))\/(∃ w η',fl=.rt w η'/\Fin K sl Z H F D (.rt w η')):=by
 cases fl with
 | nx η=>exact .inl ⟨η,rfl,f⟩
 | bk η=>exact .inr (.inl ⟨η,rfl,f⟩)
 | rt w η=>exact .inr (.inr ⟨w,η,rfl,f⟩)
 | ex c x η=>exact f.elim
 | no=>exact f.elim
theorem jj {fl:Fl}{g:Env->Fl}{N:L2.St->Hp->Prop}(f:Fin K sl Z H F D (Fl.turn fl g))(hN:∀ η' σ' Z' H' Fs',fl=.nx η'->Fin K sl Z H F D (g η')->At K sl σ' Z' H' Fs' η' no->Step Z H F Z' H' (tot Fs')->N σ' H'):Fin K sl Z H F { D with nx:=N,ct:=N,bk:=D.nx } fl:=by
 rcases pR f with ⟨η',rfl,f⟩ | ⟨η',rfl,f⟩ | ⟨w,η',rfl,f⟩
 ·exact fun σ' Z' H' Fs' A s=>hN η' σ' Z' H' Fs' rfl f A s
 ·exact f
 ·exact f
theorem qy {n i:Nat}{J:It}{ts:List (List W)}{ws:List W}{js:List Nat}{x:V}{Q:L2.St->Hp->Prop}(hn:tg.length=n)(nd:tg.Nodup)(N:qJ sf io pv)(hio:∀ t∈tg,t ∉ io)(hjs:tg.map sf=js.map some)(hz:∀ a,Z1 a->Z a)(st:Stay Z1 H1 H)(yl:Yld K J Z1 H1 ts n)(A:At K ⟨sf,pv⟩ σ Z H Fs η no)
  (hw:ts[i]?=some ws) (hb:a9 tg ws η=some ηb) (y:J.yld i H x H') (k:∀ σ2 H2 Fs2,At K ⟨sf,pv⟩ σ2 Z H2 Fs2 ηb no->Step Z H (tot Fs) Z H2 (tot Fs2)->Q σ2 H2):gF K js x σ H' Q:=by
 have hi:i < ts.length:=(a0w.mp hw).1
 match n,yl with
 | 1,yl =>
  obtain ⟨e0,w,hw',r⟩:=yl H i x H' st hi y
  rw [e0]
  rw [hw] at hw'; cases hw'
  match tg,hn,js,hjs with
  | [t],_,[j],hjs =>
   cases hb
   have hs:sf t=some j:=by simpa using hjs
   exact k _ H _ (At.set N (hio t (by simp)) hs A (r.zmono hz)) ((Step.refl _ _ _).mono (fun _ z=>z) fun a h=>(bu h).elim id fun z=>z.elim)
  | [t],_,[],hjs=>simp at hjs
  | [t],_,_::_::_,hjs=>simp at hjs
 | 2,yl =>
  obtain ⟨p,y1,z1,u,w,rfl,sm,hq,hw',r1,r2⟩:=yl H i x H' st hi y
  rw [hw] at hw'; cases hw'
  match tg,hn,js,hjs with
  | [t,t'],_,[j,j'],hjs =>
   cases hb
   have hs:sf t=some j:=by simp at hjs; exact hjs.1
   have hs':sf t'=some j':=by simp at hjs; exact hjs.2
   have s0:Step Z H no Z H' no:=fm sm
   obtain ⟨A1,s1⟩:=A.op cp s0
   have sn:Stay Z H H':=jh sm
   have r1':Rep K Z H' u.1 u.2 y1 no:=(r1.zmono hz).keep sn (fun _ z=>z) fun _ _ z=>z.elim
   have r2':Rep K Z H' w.1 w.2 z1 no:=(r2.zmono hz).keep sn (fun _ z=>z) fun _ _ z=>z.elim
   have A2:=At.set N (hio t (by simp)) hs A1 r1'
   have A3:=At.set N (hio t' (by simp)) hs' A2 r2'
   refine ⟨p,[y1,z1],rfl,hq,rfl,y1,[z1],rfl,z1,[],rfl,rfl,k _ _ _ A3 (s1.mono (fun a h=>h.elim id fun z=>z.elim) fun a h=>?_)⟩
   rcases bu h with h | h
   ·exact .inl ((bu h).elim id fun z=>z.elim)
   ·exact h.elim
  | [t,t'],_,[],hjs=>simp at hjs
  | [t,t'],_,[_],hjs=>simp at hjs
  | [t,t'],_,_::_::_::_,hjs=>simp at hjs
theorem rn {n:Nat}{k:Ik}{src:List E}{js:List Nat}{body:List S}(hn:tg.length=n)(nd:tg.Nodup)(hio:∀ t∈tg,t ∉ io)(hjs:tg.map sf=js.map some)(D:cx)(σ:L2.St)(H:Hp)(h:wS K sf io C (.forS vs ls k src tg body) D σ H) :
  Ab (wI K sf C n k src) (gF K js) (wSs K sf io C body) D σ H:=by
 obtain ⟨pv,Z,Fs,η,N,A,f⟩:=h
 obtain ⟨⟨ws,η2⟩,h1,h2⟩:=bU (show Fin K ⟨sf,pv⟩ Z H (tot Fs) D (Fl.of η (evL C src (pick vs ls η)) (uo vs k tg (evSs C body) η)) from f)
 obtain ⟨⟨ts,η3⟩,h3,h4⟩:=bU (show Fin K ⟨sf,pv⟩ Z H (tot Fs) D (Fl.of η (ret (M.share vs η) (bC k ws)) (kD tg (evSs C body))) from h2)
 obtain ⟨ts',ht,e3⟩:=ai h3
 have e4:ts=ts':=congrArg a19 e3
 have e5:η3=M.share vs η:=congrArg a1Y e3
 subst e4 e5
 have h4':Fin K ⟨sf,pv⟩ Z H (tot Fs) D (dk tg (evSs C body) ts (M.share vs η)):=h4
 refine ⟨pv,_,qG,_,ws,η2,ts,A.quiet (vs:=vs) (ls:=ls),h1,ht,fun J Z1 H1 Fs1 B s wk yl=>?_⟩
 obtain ⟨B1,s1⟩:=dj (G:=no) A cp B.gd.zal (s.mono (F2:=fun a=>tot Fs1 a\/no a) (fun _ z=>z) fun a h=>h.elim id fun z=>z.elim) fun a h=>gN h
 obtain ⟨B2,s2⟩:=B1.share (vs:=vs)
 have s3:=(s2 s1).mono (F2:=tot (el Fs vs)) (fun _ z=>z) fun _ z=>.inl z
 have zz:∀ a,Z1 a->((Z1 a/\¬ cN Fs vs a)\/cN Fs vs a):=fun a h=>(a3a (cN Fs vs a)).elim .inr fun q=>.inl ⟨h,q⟩
 refine ⟨fun i m σ' H'=>m=ts.length-i/\i<=ts.length/\∃ Zi Fsi ηi,At K ⟨sf,pv⟩ σ' Zi H' Fsi ηi no/\Step (fun a=>(Z1 a/\¬ cN Fs vs a)\/cN Fs vs a) H1 (tot (el Fs vs)) Zi H' (tot Fsi)/\Fin K ⟨sf,pv⟩ Zi H' (tot Fsi) D (dk tg (evSs C body) (ts.drop i) ηi),⟨ts.length,by simp,a1f _,_,_,_,B2,Step.refl _ _ _,h4'.step s3⟩,?_⟩
 rintro i m σi H0 ⟨rfl,hi,Zi,Fsi,ηi,Ai,si,fi⟩
 have st:Stay Z1 H1 H0:=by
  have:=B2.gd.own.stay si
  exact ⟨fun a o h=>this.1 a o (zz a h),this.2⟩
 by_cases hlt:i < ts.length
 ·right
  refine ⟨wk.go H0 i st hlt,_,fun σ' H' hw=>⟨ts.length-(i+1),by omega,hw⟩,fun x H' y=>?_⟩
  have hw:ts[i]?=some ts[i]:=by simp [hlt]
  rw [fT hw] at fi
  obtain ⟨ηb,hb,fb⟩:=bU (show Fin K ⟨sf,pv⟩ Zi H0 (tot Fsi) D (Fl.of ηi (ofO (a9 tg ts[i] ηi)) fun η1=>Fl.turn (evSs C body η1) (dk tg (evSs C body) (ts.drop (i+1)))) from fi)
  refine qy hn nd N hio hjs (fun a h=>si.zm a (zz a h)) st yl Ai hw (cO hb) y fun σ2 H2 Fs2 A2 t2=>?_
  refine ⟨pv,Zi,Fs2,ηb,N,A2,jj (fb.step t2) fun η' σ' Z' H' Fs' _ f' A' s'=>⟨rfl,hlt,Z',Fs',η',A',(si.trans t2).trans s',f'.step s'⟩⟩
 ·left
  have hi':i=ts.length:=by omega
  subst hi'
  rw [a2L] at fi
  exact ⟨wk.stop H0 _ st (a0r _),fi σi Zi H0 Fsi Ai (Step.refl _ _ _)⟩
theorem zI {x:X}{c:E}{body:List S}(D:cx)(σ:L2.St)(H:Hp)(h:wS K sf io C (.whl x c body) D σ H):pd (wT K sf C c) (wSs K sf io C body) D σ H:=by
 obtain ⟨pv,Z,Fs,η,N,A,f⟩:=h
 have f':Fin K ⟨sf,pv⟩ Z H (tot Fs) D (fN (evT C x c) (evSs C body) ji η):=f
 refine ⟨fun m σ' H'=>∃ Z' Fs' η',At K ⟨sf,pv⟩ σ' Z' H' Fs' η' no/\Fin K ⟨sf,pv⟩ Z' H' (tot Fs') D (fN (evT C x c) (evSs C body) m η'),⟨ji,Z,Fs,η,A,f'⟩,?_⟩
 rintro m σ1 H1 ⟨Z1,Fs1,η1,A1,f1⟩
 cases m with
 | zero=>exact f1.elim
 | succ m =>
  obtain ⟨⟨b,η2⟩,h1,h2⟩:=bU (show Fin K ⟨sf,pv⟩ Z1 H1 (tot Fs1) D (Fl.of η1 (evT C x c η1) (kIf (qm (evSs C body) (fN (evT C x c) (evSs C body) m)) .nx)) from f1)
  refine Cr (sl:=⟨sf,pv⟩) A1 h1 fun Z2 H2 Fs2 B s=>?_
  cases b with
  | true =>
   rw [if_pos rfl]
   refine ⟨_,fun σ' H' hw=>⟨m,a2c m,hw⟩,pv,Z2,Fs2,η2,N,B,jj (Fin.step s (show Fin K ⟨sf,pv⟩ Z1 H1 (tot Fs1) D (Fl.turn (evSs C body η2) (fN (evT C x c) (evSs C body) m)) from h2)) fun η' σ' Z' H' Fs' _ f' A' s'=>⟨Z',Fs',η',A',f'.step s'⟩⟩
  | false =>
   rw [if_neg a0d]
   exact (show Fin K ⟨sf,pv⟩ Z1 H1 (tot Fs1) D (.nx η2) from h2) σ1 Z2 H2 Fs2 B s
theorem ux {x:X}{t t' j j':Nat}{e:E}(hne:t≠t')(hi:t ∉ io)(hi':t' ∉ io)(hs:sf t=some j)(hs':sf t'=some j')(D:cx)(σ:L2.St)(H:Hp)(h:wS K sf io C (.asgT x [t,t'] e) D σ H) :
  mj (wE K sf C e) (uR K 2 (fC (cy j) (fC (cy j') sd))) D σ H:=by
 obtain ⟨pv,Z,Fs,η,N,A,f⟩:=h
 obtain ⟨⟨w,η1⟩,h1,h2⟩:=bU (show Fin K ⟨sf,pv⟩ Z H (tot Fs) D (Fl.of η (evX C x e η) (ko [t,t'])) from f)
 obtain ⟨η2,h3,h4⟩:=k7 (show Fin K ⟨sf,pv⟩ Z H (tot Fs) D (nxO η1 ((xB w).bind fun ws=>a9 [t,t'] ws η1)) from h2)
 refine qE (sl:=⟨sf,pv⟩) A h1 fun v Z' H' Fs' G B r s=>?_
 obtain ⟨m,t0⟩:=w
 cases t0 with
 | tup ts =>
  have h3':a9 [t,t'] (ts.map fun t=>(m.kid,t)) η1=some η2:=h3
  match ts,h3' with
  | [a,b],h3' =>
   cases h3'
   obtain ⟨p,xs,rfl,hq,hl,y1,r1,G1,G2,rfl,g1,g2,d,p1,y2,r2,G3,G4,e2,g3,g4,d2,p2,q⟩:=r
   cases e2
   obtain rfl:r2=[]:=q
   have B1:=At.setR (w:=(m.kid,a)) (R:=G3) N hi hs B p1 g1 (fun a h=>g2 a (g3 a h)) (fun a h z=>d a z (g3 a h))
   have B2:=At.set (w:=(m.kid,b)) N hi' hs' B1 p2
   refine ⟨p,[y1,y2],rfl,hq,rfl,y1,[y2],rfl,y2,[],rfl,rfl,h4 _ Z' H' _ B2 (s.mono (fun _ z=>z) fun a h=>?_)⟩
   rcases bu h with h | h
   ·exact (bu h).imp id (g1 a)
   ·exact .inr (g2 a (g3 a h))
  | [],h3'=>cases h3'
  | [_],h3'=>cases h3'
  | _::_::_::_,h3'=>cases h3'
 | _=>cases h3
end
end MR

namespace MR
open PySem PySem.Spec PyProof.Rows L2 L3
section
variable {X:Cx}{sf sg:Nat->Option Nat}{C:M.Call}{pos p2:Pos}{ea eb ec:Expr}{a b c:M.E}{h:Bool}{n:Nat}
theorem ak {e:Expr}{t t':TE}(h:PE X e t)(hw:∀ σ H Q,t' σ H Q->t σ H Q):PE X e t':=fun pins s σ H Q I q=>h pins s σ H Q I (hw σ H Q q)
theorem fX {e:Expr}{t t':TT}(h:PT X e t)(hw:∀ σ H Q,t' σ H Q->t σ H Q):PT X e t':=fun pins s σ H Q I q=>h pins s σ H Q I (hw σ H Q q)
theorem vO {e:Expr}{t t':TT}(h:PW X e t)(hw:∀ σ H Q,t' σ H Q->t σ H Q):PW X e t':=fun whole pins s σ H Q I q=>h whole pins s σ H Q I (hw σ H Q q)
theorem i4 {es:List Expr}{t t':TA}(h:PA X es t)(hw:∀ σ H Q,t' σ H Q->t σ H Q):PA X es t':=fun pos pins s σ H Q I q=>h pos pins s σ H Q I (hw σ H Q q)
theorem da {s:Stmt}{t t':TS}(h:PS X s t)(hw:∀ D σ H,t' D σ H->t D σ H):PS X s t':=fun pins s σ H D I q=>h pins s σ H D I (hw D σ H q)
theorem jL {s:List Stmt}{t t':TS}(h:PSs X s t)(hw:∀ D σ H,t' D σ H->t D σ H):PSs X s t':=fun pins s σ H D I q=>h pins s σ H D I (hw D σ H q)
theorem ig {tg e:Expr}{t t':TI}(h:PI X tg e t)(hw:∀ σ H R,t' σ H R->t σ H R):PI X tg e t':=fun pins s σ H R I q=>h pins s σ H R I (hw σ H R q)
theorem AF {tg e:Expr}{t t':TI}(h:PI X tg e t)(h':PI X tg e t'):PI X tg e (fun σ H R=>t σ H R\/t' σ H R):=fun pins s σ H R I q=>q.elim (h pins s σ H R I) (h' pins s σ H R I)
noncomputable abbrev SE (X:Cx)(sf:Nat->Option Nat)(C:M.Call)(me:Expr)(e:M.E):Prop:=PE X me (wE X.K sf C e)
noncomputable abbrev SB (X:Cx)(sf:Nat->Option Nat)(C:M.Call)(me:Expr)(e:M.E):Prop:=PT X me (wT X.K sf C e)
noncomputable abbrev SL (X:Cx)(sf:Nat->Option Nat)(C:M.Call)(me:List Expr)(es:List M.E):Prop:=PA X me (wL X.K sf C es)
noncomputable abbrev SA (X:Cx)(sf:Nat->Option Nat)(C:M.Call)(me:List Expr)(es:List M.E):Prop:=PA X me (wA X.K sf C es)
noncomputable abbrev SS (X:Cx)(sf:Nat->Option Nat)(io:List Nat)(C:M.Call)(ms:Stmt)(s:M.S):Prop:=PS X ms (wS X.K sf io C s)
noncomputable abbrev SSs (X:Cx)(sf:Nat->Option Nat)(io:List Nat)(C:M.Call)(ms:List Stmt)(s:List M.S):Prop:=PSs X ms (wSs X.K sf io C s)
theorem sV (j:Nat){i:Nat}{x:Str}(hs:sf i=some j:=by rfl)(hN:X.N[j]?=some x:=by rfl)(hv:Vis X.env.scope x:=by first | exact a0G rfl | exact a0E (a0G rfl) | exact a0E (a0E rfl))(hd:(x==("__debug__":Str))=false:=by decide)
  (hcd:(x==("__classdict__":Str))=false:=by decide):SE X sf C (.Name x pos) (.var i):=ak (de hN hv hd hcd) (zw hs)
theorem sM (j:Nat){i:Nat}{x:Str}(hs:sf i=some j:=by rfl)(hN:X.N[j]?=some x:=by rfl)(hv:Vis X.env.scope x:=by first | exact a0G rfl | exact a0E (a0G rfl) | exact a0E (a0E rfl))(hd:(x==("__debug__":Str))=false:=by decide)
  (hcd:(x==("__classdict__":Str))=false:=by decide):SE X sf C (.Name x pos) (.mv i):=ak (de hN hv hd hcd) (zo (fun _=>rfl) hs)
theorem sI {i:Int}{k:Nat}:SE X sf C (.Constant (.int i) k pos) (.cst (.int i)):=ak xh (fq fun {_ _}=>rfl)
theorem sO {i:Bool}{k:Nat}:SE X sf C (.Constant (.bool i) k pos) (.cst (.bl i)):=ak Ce (fq fun {_ _}=>rfl)
theorem sN {k:Nat}:SE X sf C (.Constant .none k pos) (.cst .non):=ak xu (fq fun {_ _}=>rfl)
theorem tQ (s:String)(hl:s.length<=1000):M.sOk (Str.ofString s)=true:=by
 unfold M.sOk
 rw [Str.ofString_eq_toList,a0j]
 refine ⟨?_,decide_eq_true ?_⟩
 ·rw [a1F]
  intro x hx
  rw [List.mem_toArray,a1k] at hx
  obtain ⟨c,_,rfl⟩:=hx
  refine decide_eq_true ?_
  have:=c.valid
  have h2:c.toNat < 0x110000:=by
   have h3:=c.valid
   unfold UInt32.isValidChar Nat.isValidChar at h3
   show c.val.toNat < _
   omega
  exact h2
 ·rw [a0k,a0b,String.length_toList]
  exact a0z hl (by decide)
theorem sS {s:String}{k:Nat}(hl:s.length<=1000:=by decide):SE X sf C (.Constant (.str (Str.ofString s)) k pos) (.cst (.str (Str.ofString s))):=ak xH (fq fun {_ _}=>⟨rfl,tQ s hl⟩)
theorem sl0:SL X sf C [] []:=i4 fL x8
theorem slc {es:List Expr}{bs:List M.E}(ha:SE X sf C ea a)(hb:SL X sf C es bs)(hs:starEach (ea::es) X.env=(false,eval ea X.env)::starEach es X.env:=by rfl):SL X sf C (ea::es) (a::bs):=i4 (cM ha hb hs) uO
theorem sT {es:List Expr}{bs:List M.E}{x1:Nat}(h:SL X sf C es bs)(hn:bs.length<=M.LIM:=by decide):SE X sf C (.Tuple es x1 pos) (.tup bs):=ak (yw h) (zK hn)
theorem sLs {es:List Expr}{bs:List M.E}(hh:SL X sf C es bs)(hn:bs.length<=M.LIM:=by decide):SE X sf C (.List es pos) (.lst h bs):=ak (yW hh) (wu hn)
theorem bF (ha:SE X sf C ea a)(hb:SE X sf C eb b):SE X sf C (.BinOp ea .Add eb pos) (.op .add h [a,b]) :=
 ak (eQ (op_add.or (op_add_str.or (op_cat.or kB))) ha hb) (aM (vd (vE X.K) fun {Z H G Q a b xs ys ts} h1 h2 h3 h4 ow r k=>by
  obtain ⟨G',g1,g2⟩:=r
  refine ⟨a,b,xs,ys,rfl,rfl,h1,h2,h3,bQ h4,fun v H' same hv=>fB (m:=.s) ow g1 ?_ g2 k same hv⟩
  rw [a0e]; exact h4))
theorem jS (ha:SE X sf C ea a)(hb:SE X sf C eb b):SE X sf C (.BinOp ea .Sub eb pos) (.op .sub h [a,b]):=ak (eQ xR ha hb) (aM ug)
theorem n5 (ha:SE X sf C ea a)(hb:SE X sf C eb b):SE X sf C (.BinOp ea .Mult eb pos) (.op .mul h [a,b]):=ak (eQ (op_mul.or wK) ha hb) (aM uQ)
theorem cK (ha:SE X sf C ea a)(hb:SE X sf C eb b):SE X sf C (.BinOp ea .FloorDiv eb pos) (.op .fdiv h [a,b]):=ak (eQ uZ ha hb) (aM qB)
theorem cH (ha:SE X sf C ea a)(hb:SE X sf C eb b):SE X sf C (.BinOp ea .Mod eb pos) (.op .mod h [a,b]):=ak (eQ zN ha hb) (aM uY)
theorem Cd (ha:SE X sf C ea a)(hb:SE X sf C eb b):SE X sf C (.BinOp ea .Pow eb pos) (.op .pow h [a,b]):=ak (eQ wN ha hb) (aM uf)
theorem DF (ha:SE X sf C ea a):SE X sf C (.UnaryOp .USub ea pos) (.op .neg h [a]):=ak (CD wZ ha) (xl su)
theorem sLe (ha:SE X sf C ea a)(hb:SE X sf C eb b):SE X sf C (.Compare ea [.LtE] [eb] pos) (.op .le h [a,b]):=ak (dB jf ha hb (bN _)) (aM xO)
theorem sGt (ha:SE X sf C ea a)(hb:SE X sf C eb b):SE X sf C (.Compare ea [.Gt] [eb] pos) (.op .gt h [a,b]):=ak (dB vR ha hb (bN _)) (aM nN)
theorem sGe (ha:SE X sf C ea a)(hb:SE X sf C eb b):SE X sf C (.Compare ea [.GtE] [eb] pos) (.op .ge h [a,b]):=ak (dB wg ha hb (bN _)) (aM nI)
theorem sIx (ha:SE X sf C ea a)(hb:SE X sf C eb b)(hs:eF eb:=by intro _ _; rfl):SE X sf C (.Subscript ea eb pos) (.op .ix h [a,b]):=ak (v9 (ix_any.or xV) ha hb hs) (aM wJ)
mutual
noncomputable def th:M.T->Th
 | .non=>.non | .bl b=>.bl b | .int i=>.int i | .str x=>.str x | .tup ts=>.tup (ths ts) | .lst ts=>.lst (ths ts) | .dct _ _=>.non | .ins _ _ _=>.non | .scr _=>.non | .gone=>.non
noncomputable def ths:List M.T->List Th
 | []=>[]
 | t::ts=>th t::ths ts
end
mutual
theorem kN {K:a0a}{Z:Fp}{H:Hp}:∀ {t:M.T} {m:M.Md} {v:V} {G:Fp} {n:Nat},M.dp t<=n->n<=64->Rep K Z H m t v G->Has K H (th t) v/\(toD (th t)).canLay0=true/\(toD (th t)).depth<=n
 | .non,_,_,_,_,_,_,r=>⟨r,rfl,a1f _⟩
 | .bl _,_,_,_,_,_,_,r=>⟨r,rfl,a1f _⟩
 | .int _,_,_,_,_,_,_,r=>⟨r,rfl,a1f _⟩
 | .str x,_,_,_,_,_,_,r=>⟨r.1,by have h:=r.2; unfold M.sOk at h; rw [a0j] at h; exact h.1,a1f _⟩
 | .tup ts,m,v,G,n,hd,hn,⟨a,xs,e,q,l,r⟩=>by
  have hd':M.dps ts+1<=n:=hd
  match n,hd' with
  | n+1,hd' =>
   obtain ⟨h1,h2,h3⟩:=fG (n:=n) (by omega) (by omega) r
   exact ⟨⟨a,xs,e,q,h1⟩,h2,a2M h3⟩
 | .lst ts,m,v,G,n,hd,hn,⟨a,xs,e,l,q,r⟩=>by
  have hd':M.dps ts+1<=n:=hd
  match n,hd' with
  | n+1,hd' =>
   obtain ⟨h1,h2,h3⟩:=fG (n:=n) (by omega) (by omega) r
   exact ⟨⟨a,xs,e,by cases m<;>exact q.2,h1⟩,h2,a2M h3⟩
 | .dct _ _,_,_,_,_,hd,hn,_=>by have:1000<=64:=a0z hd hn; omega
 | .ins _ _ _,_,_,_,_,hd,hn,_=>by have:1000<=64:=a0z hd hn; omega
 | .gone,_,_,_,_,hd,hn,_=>by have:1000<=64:=a0z hd hn; omega
 | .scr _,_,_,_,_,hd,hn,_=>by have:1000<=64:=a0z hd hn; omega
theorem fG {K:a0a}{Z:Fp}{H:Hp}:∀ {ts:List M.T} {m:M.Md} {xs:List V} {G:Fp} {n:Nat},M.dps ts<=n->n<=64->RepL K Z H m ts xs G->HasL K H (ths ts) xs/\PyData.canLayAll0 (ez (ths ts))=true/\PyData.depthAll (ez (ths ts))<=n
 | [],_,_,_,_,_,_,r=>⟨r,rfl,a1f _⟩
 | t::ts,m,xs,G,n,hd,hn,⟨x,r,G1,G2,e,_,_,_,p,q⟩=>by
  have hd':max (M.dp t) (M.dps ts)<=n:=hd
  obtain ⟨h1,h2,h3⟩:=kN (n:=n) (by omega) hn p
  obtain ⟨k1,k2,k3⟩:=fG (n:=n) (by omega) hn q
  refine ⟨⟨x,r,e,h1,k1⟩,?_,?_⟩
  ·show ((toD (th t)).canLay0&&PyData.canLayAll0 (ez (ths ts)))=true
   rw [h2,k2]; rfl
  ·show max (toD (th t)).depth (PyData.depthAll (ez (ths ts)))<=n
   omega
end
mutual
theorem jM:∀ (t u:M.T),M.dp t<=64->M.dp u<=64->PyData.eqv (toD (th t)) (toD (th u))=M.eqT t u
 | .dct _ _,_,h,_=>by have:1000<=64:=h; omega
 | .ins _ _ _,_,h,_=>by have:1000<=64:=h; omega
 | .gone,_,h,_=>by have:1000<=64:=h; omega
 | .scr _,_,h,_=>by have:1000<=64:=h; omega
 | .non,u,_,h=>by cases u<;>first | rfl | (have:1000<=64:=h; omega)
 | .bl a,u,_,h=>by cases u<;>first | rfl | (cases a<;>rfl) | (have:1000<=64:=h; omega)
 | .int i,u,_,h=>by
  cases u with
  | bl b=>cases b<;>rfl
  | _=>first | rfl | (have:1000<=64:=h; omega)
 | .str x,u,_,h=>by cases u<;>first | rfl | (have:1000<=64:=h; omega)
 | .tup ts,u,h1,h=>by
  cases u with
  | tup us=>exact gR ts us (by have:M.dps ts+1<=64:=h1; omega) (by have:M.dps us+1<=64:=h; omega)
  | _=>first | rfl | (have:1000<=64:=h; omega)
 | .lst ts,u,h1,h=>by
  cases u with
  | lst us=>exact gR ts us (by have:M.dps ts+1<=64:=h1; omega) (by have:M.dps us+1<=64:=h; omega)
  | _=>first | rfl | (have:1000<=64:=h; omega)
theorem gR:∀ (ts us:List M.T),M.dps ts<=64->M.dps us<=64->PyData.eqvAll (ez (ths ts)) (ez (ths us))=M.eqTs ts us
 | [],[],_,_=>rfl
 | [],_::_,_,_=>rfl
 | _::_,[],_,_=>rfl
 | t::ts,u::us,h1,h2=>by
  have h1':max (M.dp t) (M.dps ts)<=64:=h1
  have h2':max (M.dp u) (M.dps us)<=64:=h2
  show (PyData.eqv (toD (th t)) (toD (th u))&&PyData.eqvAll (ez (ths ts)) (ez (ths us)))=(M.eqT t u&&M.eqTs ts us)
  rw [jM t u (by omega) (by omega),gR ts us (by omega) (by omega)]
end
theorem hI {K:a0a}{Z:Fp}{H:Hp}{t:M.T}{m:M.Md}{v:V}{G:Fp}(hd:M.dp t<=64)(r:Rep K Z H m t v G):Has K H (th t) v/\gC (th t):=by
 obtain ⟨h1,h2,h3⟩:=kN hd (a0r _) r
 refine ⟨h1,?_⟩
 show ((toD (th t)).canLay0&&decide ((toD (th t)).depth<=64))=true
 rw [h2,decide_eq_true h3]; rfl
theorem qT {K:a0a}:Loc K 2 .eq h fun xs H Q=>∀ x y,xs=[x,y]->∃ t t',Has K H t x/\Has K H t' y/\gC t/\gC t'/\Q (.bl (PyData.eqv (toD t) (toD t'))) H:=by
 intro ws w xs Z H G Q hn e r ow za k x y hx
 subst hx
 obtain ⟨⟨m,a⟩,⟨n,b⟩,rfl⟩:=dw r.length.symm
 obtain ⟨G1,G2,w1,w2,d,r1,r2⟩:=bV r
 have e':(if decide (M.dp a<=64)&&decide (M.dp b<=64) then some ((.d,.bl (M.eqT a b)):M.W) else none)=some w:=e
 split at e'
 ·rename_i hc
  rw [a0j,decide_eq_true_eq,decide_eq_true_eq] at hc
  cases e'
  obtain ⟨h1,o1⟩:=hI hc.1 r1
  obtain ⟨h2,o2⟩:=hI hc.2 r2
  refine ⟨th a,th b,h1,h2,o1,o2,?_⟩
  rw [jM a b hc.1 hc.2]
  exact bG k
 ·cases e'
theorem zP {K:a0a}:Loc K 2 .ne h fun xs H Q=>∀ x y,xs=[x,y]->∃ t t',Has K H t x/\Has K H t' y/\gC t/\gC t'/\Q (.bl (!PyData.eqv (toD t) (toD t'))) H:=by
 intro ws w xs Z H G Q hn e r ow za k x y hx
 subst hx
 obtain ⟨⟨m,a⟩,⟨n,b⟩,rfl⟩:=dw r.length.symm
 obtain ⟨G1,G2,w1,w2,d,r1,r2⟩:=bV r
 have e':(if decide (M.dp a<=64)&&decide (M.dp b<=64) then some ((.d,.bl (!M.eqT a b)):M.W) else none)=some w:=e
 split at e'
 ·rename_i hc
  rw [a0j,decide_eq_true_eq,decide_eq_true_eq] at hc
  cases e'
  obtain ⟨h1,o1⟩:=hI hc.1 r1
  obtain ⟨h2,o2⟩:=hI hc.2 r2
  refine ⟨th a,th b,h1,h2,o1,o2,?_⟩
  rw [jM a b hc.1 hc.2]
  exact bG k
 ·cases e'
theorem sEq (hr:Room n X.A)(ha:SE X sf C ea a)(hb:SE X sf C eb b):SE X sf C (.Compare ea [.Eq] [eb] pos) (.op .eq h [a,b]):=ak (dB (kq hr.units) ha hb (bN _)) (aM qT)
theorem r6 {K:a0a}{Z:Fp}{H:Hp}{t:M.T}{m:M.Md}{x:V}{G:Fp}(hg:t.isG=false)(r:Rep K Z H m t x G):decide (x=V.non)=t.isN:=by
 cases t with
 | non=>rw [show x=_ from r]; rfl
 | bl _=>rw [show x=_ from r]; rfl
 | int _=>rw [show x=_ from r]; rfl
 | str _=>rw [show x=_ from r.1]; rfl
 | tup _=>obtain ⟨p,_,e,_⟩:=r; rw [show x=_ from e]; rfl
 | lst _=>obtain ⟨p,_,e,_⟩:=r; rw [show x=_ from e]; rfl
 | scr _=>obtain ⟨p,e,_⟩:=r; rw [show x=_ from e]; rfl
 | dct _ _=>cases hg
 | ins _ _ _=>exact r.elim
 | gone=>cases hg
theorem ifN {α:Type}{b:Bool}{x:Option α}{y:α}(h:(if b=true then none else x)=some y):b=false/\x=some y:=by cases b<;>first | exact ⟨rfl,h⟩ | cases h
theorem mB {K:a0a}:Loc K 2 .isnot h fun xs H Q=>∀ x y,xs=[x,y]->y=.non/\Q (.bl (!decide (x=.non))) H:=by
 intro ws w xs Z H G Q hn e r ow za k x y hx
 subst hx
 obtain ⟨⟨m,a⟩,⟨n,b⟩,rfl⟩:=dw r.length.symm
 obtain ⟨G1,G2,w1,w2,d,r1,r2⟩:=bV r
 cases b with
 | non=>obtain ⟨hg,e⟩:=ifN (show (if a.isG=true then none else some _)=_ from e); cases e; rw [r6 hg r1]; exact ⟨r2,bG k⟩
 | _=>cases a<;>cases e
theorem kL {K:a0a}{Z:Fp}{H:Hp}{G:Fp}{m:M.Md}{ts:List M.T}{xs:List V}(lo hi:Option Int)(r:RepL K Z H m ts xs G):RepL K Z H m (M.cut ts lo hi) (dQ xs lo hi) G:=by
 have e:=r.length
 have hs:∀ n d o,HT.sIx n d o=M.sIx n d o:=fun n d o=>by cases o<;>rfl
 have hc:dQ xs lo hi=(xs.drop (M.sIx ts.length 0 lo)).take (M.sIx ts.length ts.length hi-M.sIx ts.length 0 lo):=by
  unfold dQ
  rw [hs,hs,e]
 rw [hc]
 exact (r.drop _).take _
theorem nq (ns:List Int)(lo hi:Option Int):dQ (ns.map V.int) lo hi=(M.cut ns lo hi).map V.int:=by
 have hs:∀ n d o,HT.sIx n d o=M.sIx n d o:=fun n d o=>by cases o<;>rfl
 unfold dQ M.cut
 rw [hs,hs,a0b,List.map_take,List.map_drop]
theorem xZ {α:Type}(xs:List α)(lo hi:Option Int):(M.cut xs lo hi).length<=xs.length:=by
 unfold M.cut
 rw [a1U,a1a]; omega
theorem pH {K:a0a}{Z:Fp}{H:Hp}{G G1:Fp}{Q:VK}{m:M.Md}{a:M.T}{x:V}{w:M.W}{lo hi:Option Int}(hg:∀ b,G1 b->G b)(ow:Own Z H G)(za:∀ a,Z a->H a≠none)(r:Rep K Z H m a x G1)
  (e:(match a with | .lst ts=>M.newL h m.kid (M.cut ts lo hi) | .tup ts=>some ((.s,.tup (M.cut ts lo hi)):M.W) | .scr ns=>some (.d,.lst ((M.cut ns lo hi).map M.T.int)) | _=>none)=some w) (k:Out K Z H G w Q):va K x lo hi H Q\/uM K x lo hi H Q:=by
 cases a with
 | lst ts =>
  obtain ⟨p,xs,rfl,hs,hl,q⟩:=bj r
  refine .inl ⟨p,xs,rfl,.inl (.inl hs),fun l hl'=>?_⟩
  exact cU ow za (a0z (b8 xs lo hi) hl) ⟨G1,hg,(kL lo hi q).zmono fun _ z=>.inl z⟩ e k hl'
 | tup ts =>
  obtain ⟨p,xs,rfl,hs,hl,q⟩:=bH r
  cases e
  refine .inr ⟨p,xs,rfl,hs,fun v H' same hv=>?_⟩
  exact fB (m:=.s) (G':=no) ow (fun _ z=>z.elim) (a0z (b8 xs lo hi) hl) ((RepL.sh (kL lo hi q)).zmono fun b hb=>hb.imp id fun z=>⟨hg b z,fun q=>q⟩) k same hv
 | scr ns =>
  obtain ⟨p,rfl,hL,hs⟩:=r
  cases e
  refine .inl ⟨p,_,rfl,hs.sq,fun l hl'=>?_⟩
  rw [nq]
  exact cb (m:=.d) (G':=no) ow za (fun _ z=>z.elim) (by rw [a0b]; exact a0z (xZ ns lo hi) hL) (j3 _) (by simp) k hl'
 | _=>cases e
theorem Bz {p3:Pos}(ha:SE X sf C ea a)(hb:SE X sf C eb b):SE X sf C (.Subscript ea (.Slice none (some eb) none p3) pos) (.op .sl2 h [a,b]) :=
 ak (iM (sl_list.or kR) ha kI (kJ hb)) (fun σ H Q hw=>aM (r:=fun x y H Q=>∃ i,y=.int i/\(va X.K x none (some i) H Q\/uM X.K x none (some i) H Q)) (by
  intro ws w xs Z H G Q hn e r ow za k x y hx
  subst hx
  obtain ⟨⟨m,a⟩,⟨n,b⟩,rfl⟩:=dw r.length.symm
  obtain ⟨G1,G2,w1,w2,d,r1,r2⟩:=bV r
  cases b with
  | int i=>exact ⟨i,r2,pH (h:=h) (lo:=none) (hi:=some i) w1 ow za r1 (by cases a<;>exact e) k⟩
  | _=>cases a<;>cases e) σ H Q hw)
theorem lM {p3:Pos}(ha:SE X sf C ea a)(hb:SE X sf C eb b):SE X sf C (.Subscript ea (.Slice (some eb) none none p3) pos) (.op .sl1 h [a,b]) :=
 ak (iM (sl_list.or kR) ha (kJ hb) kI) (fun σ H Q hw=>aM (r:=fun x y H Q=>∃ i,y=.int i/\(va X.K x (some i) none H Q\/uM X.K x (some i) none H Q)) (by
  intro ws w xs Z H G Q hn e r ow za k x y hx
  subst hx
  obtain ⟨⟨m,a⟩,⟨n,b⟩,rfl⟩:=dw r.length.symm
  obtain ⟨G1,G2,w1,w2,d,r1,r2⟩:=bV r
  cases b with
  | int i=>exact ⟨i,r2,pH (h:=h) (lo:=some i) (hi:=none) w1 ow za r1 (by cases a<;>exact e) k⟩
  | _=>cases a<;>cases e) σ H Q hw)
theorem iS {K:a0a}:Loc K 1 .len h fun xs H Q=>∃ x n,xs=[x]/\AZ K x H n/\Q (.int n) H:=by
 intro ws w xs Z H G Q hn e r ow za k
 obtain ⟨x,n,hx,hm,q⟩:=ti (h:=h) ws w xs Z H G Q hn e r ow za k
 exact ⟨x,n,hx,by cases x<;>exact hm,q⟩
section
variable {p:Pos}{x1:Str}
theorem b6 (hm:X.mg "len"=none)(hg:Gl X "len":=by rfl)(ha:SE X sf C ea a)(hs:starEach [ea] X.env=(false,eval ea X.env)::starEach [] X.env:=by rfl)(hpl:(backTo pos (starEach [] X.env)).any (·.1)=false:=by rfl):SE X sf C (.Call (.Name "len" p) [ea] [] pos) (.op .len h [a]) :=
 ak (b5 ia hg hm a2s (slc ha sl0 hs) (by decide) (by decide) hs hpl) (dJ iS rfl)
theorem DZ (hc:X.calm=true:=by rfl)(hm:X.mg "sum"=none)(hg:Gl X "sum":=by rfl)(ha:SE X sf C ea a)(hs:starEach [ea] X.env=(false,eval ea X.env)::starEach [] X.env:=by rfl)(hpl:(backTo pos (starEach [] X.env)).any (·.1)=false:=by rfl):SE X sf C (.Call (.Name "sum" p) [ea] [] pos) (.op .sum h [a]) :=
 ak (b5 (mV hc) hg hm (by rfl) (slc ha sl0 hs) (by decide) (by decide) hs hpl) (dJ vo rfl)
theorem rO (hc:X.calm=true:=by rfl)(hm:X.mg "all"=none)(hg:Gl X "all":=by rfl)(ha:SE X sf C ea a)(hs:starEach [ea] X.env=(false,eval ea X.env)::starEach [] X.env:=by rfl)(hpl:(backTo pos (starEach [] X.env)).any (·.1)=false:=by rfl):SE X sf C (.Call (.Name "all" p) [ea] [] pos) (.op .all h [a]) :=
 ak (b5 (lK hc) hg hm (by rfl) (slc ha sl0 hs) (by decide) (by decide) hs hpl) (dJ ud rfl)
theorem vD (hm:X.mg "list"=none)(hg:Gl X "list":=by rfl)(ha:SE X sf C ea a)(hs:starEach [ea] X.env=(false,eval ea X.env)::starEach [] X.env:=by rfl)(hpl:(backTo pos (starEach [] X.env)).any (·.1)=false:=by rfl):SE X sf C (.Call (.Name "list" p) [ea] [] pos) (.op .list h [a]) :=
 ak (d0 gz hg hm a22 (slc ha sl0 hs) (by decide) (by decide) hs hpl) (dJ nh rfl)
theorem DI (hc:X.calm=true:=by rfl)(hm:X.mg "max"=none)(hg:Gl X "max":=by rfl)(ha:SE X sf C ea a)(hb:SE X sf C eb b)(hs:starEach [ea,eb] X.env=(false,eval ea X.env)::starEach [eb] X.env:=by rfl)(hs2:starEach [eb] X.env=(false,eval eb X.env)::starEach [] X.env:=by rfl)(hpl:(backTo pos (starEach [eb] X.env)).any (·.1)=false:=by rfl):SE X sf C (.Call (.Name "max" p) [ea,eb] [] pos) (.op .max h [a,b]) :=
 ak (b5 (mY hc) hg hm (by rfl) (slc ha (slc hb sl0 hs2) hs) (by decide) (by decide) hs hpl) (dJ uT rfl)
end
theorem ky {K:a0a}{x:V}{H:Hp}{k:Bool}(h:TrV K x H k):uD K x H k:=by
 cases x with
 | ref p=>exact h.imp id .inl
 | byt _=>exact h.elim
 | _=>exact h
theorem tB (ha:SE X sf C ea a)(he:∀ whole,isTrue ea X.env whole=(do let v <- whole; standAt ea.pos; holding [v] (truthy v)):=by intro _; rfl):SB X sf C ea a :=
 fX (qA ha he) fun σ H Q h=>by
  obtain ⟨pv,Z,Fs,η,w,η',b,A,ev,ht,k⟩:=h
  exact ⟨pv,Z,Fs,η,w,η',A,ev,fun v Z' H' Fs' G B r s=>⟨b,ky (gf ht r),k Z' H' Fs' B.bare (s.mono (fun _ z=>z) fun _ z=>.inl z)⟩⟩
theorem bD (ha:SB X sf C ea a):SB X sf C (.UnaryOp .Not ea pos) (.not a):=fX (ye ha) zx
theorem vU {σ:L2.St}{H:Hp}{Q:Bool->Hp->Prop}(hb:∀ η w η',M.evE C a η=.ok (w,η')->∃ b,w.2=.bl b)(h:wT X.K sf C a σ H Q):pk (wE X.K sf C a) σ H Q:=by
 obtain ⟨pv,Z,Fs,η,w,η',b,A,ev,ht,k⟩:=h
 refine ⟨pv,Z,Fs,η,w,η',A,ev,fun v Z' H' Fs' G B r s=>⟨b,?_,k Z' H' Fs' B.bare (s.mono (fun _ z=>z) fun _ z=>.inl z)⟩⟩
 obtain ⟨b',hb'⟩:=hb _ _ _ ev
 rw [hb'] at ht r
 cases ht
 exact r
theorem Bb {o:M.Op}(ho:∀ u v w,M.oSem o h [u,v]=some w->∃ b,w.2=.bl b):∀ η w η',M.evE C (.op o h [a,b]) η=.ok (w,η')->∃ b,w.2=.bl b:=fun η w η' e=>by
 obtain ⟨ws,h1,h2⟩:=dq e
 obtain ⟨u,η1,us,_,e2,rfl⟩:=aE h1
 obtain ⟨v,η2,us,_,e4,rfl⟩:=aE e2
 cases e4
 exact ho u v w h2
theorem cf {op:CmpOp}{r:R2}{o:M.Op}(ho:OpR X (compareOp op) r)(ha:SE X sf C ea a)(hb:SE X sf C eb b)(hm:behindInMarks op eb=false)(hl:∀ σ H Q,wE X.K sf C (.op o h [a,b]) σ H Q->tOp r (wE X.K sf C a) (wE X.K sf C b) σ H Q)
  (hbl:∀ u v w,M.oSem o h [u,v]=some w->∃ b,w.2=.bl b):SB X sf C (.Compare ea [op] [eb] pos) (.op o h [a,b]) :=
 fX (gA ho ha hb hm) fun σ H Q hw=>hl σ H _ (vU (Bb hbl) hw)
theorem Av {u v w:M.W}(e:M.oSem .eq h [u,v]=some w):∃ b,w.2=.bl b:=by
 obtain ⟨m,a⟩:=u; obtain ⟨n,b⟩:=v
 have e':(if decide (M.dp a<=64)&&decide (M.dp b<=64) then some ((.d,.bl (M.eqT a b)):M.W) else none)=some w:=e
 split at e'
 ·cases e'; exact ⟨_,rfl⟩
 ·cases e'
theorem Be {u v w:M.W}(e:M.oSem .ne h [u,v]=some w):∃ b,w.2=.bl b:=by
 obtain ⟨m,a⟩:=u; obtain ⟨n,b⟩:=v
 have e':(if decide (M.dp a<=64)&&decide (M.dp b<=64) then some ((.d,.bl (!M.eqT a b)):M.W) else none)=some w:=e
 split at e'
 ·cases e'; exact ⟨_,rfl⟩
 ·cases e'
theorem m9 {u v w:M.W}(e:M.oSem .isnot h [u,v]=some w):∃ b,w.2=.bl b:=by
 obtain ⟨m,a⟩:=u; obtain ⟨n,b⟩:=v
 cases b with
 | non=>obtain ⟨_,e⟩:=ifN (show (if a.isG=true then none else some _)=_ from e); cases e; exact ⟨_,rfl⟩
 | _=>cases a<;>cases e
theorem A7 (ha:SE X sf C ea a)(hb:SE X sf C eb b):SB X sf C (.Compare ea [.Lt] [eb] pos) (.op .lt h [a,b]):=cf Co ha hb (bN _) (aM yZ) fun u v w e=>by obtain ⟨_,_,_,_,_,_,rfl⟩:=oG e; exact ⟨_,rfl⟩
theorem jo (ha:SE X sf C ea a)(hb:SE X sf C eb b):SB X sf C (.Compare ea [.Gt] [eb] pos) (.op .gt h [a,b]):=cf vR ha hb (bN _) (aM nN) fun u v w e=>by obtain ⟨_,_,_,_,_,_,rfl⟩:=qk e; exact ⟨_,rfl⟩
theorem DX (ha:SE X sf C ea a)(hb:SE X sf C eb b):SB X sf C (.Compare ea [.GtE] [eb] pos) (.op .ge h [a,b]):=cf wg ha hb (bN _) (aM nI) fun u v w e=>by obtain ⟨_,_,_,_,_,_,rfl⟩:=oB e; exact ⟨_,rfl⟩
theorem cZ (hr:Room n X.A)(ha:SE X sf C ea a)(hb:SE X sf C eb b):SB X sf C (.Compare ea [.Eq] [eb] pos) (.op .eq h [a,b]):=cf (kq hr.units) ha hb (bN _) (aM qT) fun u v w e=>Av e
theorem o9 (hr:Room n X.A)(ha:SE X sf C ea a)(hb:SE X sf C eb b):SB X sf C (.Compare ea [.NotEq] [eb] pos) (.op .ne h [a,b]):=cf (sk hr.units) ha hb (bN _) (aM zP) fun u v w e=>Be e
theorem DJ (ha:SE X sf C ea a)(hb:SE X sf C eb b):SB X sf C (.Compare ea [.IsNot] [eb] pos) (.op .isnot h [a,b]):=cf sA ha hb (bN _) (aM mB) fun u v w e=>m9 e
noncomputable abbrev SW (X:Cx)(sf:Nat->Option Nat)(C:M.Call)(me:Expr)(e:M.E):Prop:=PW X me (wT X.K sf C e)
theorem wA1 (ha:SB X sf C ea a):SW X sf C (.BoolOp .And [ea] pos) a:=vn ha
theorem wO1 (ha:SB X sf C ea a):SW X sf C (.BoolOp .Or [ea] pos) a:=yF ha
theorem yi {rest:List Expr}(ha:SB X sf C ea a)(hb:SW X sf C (.BoolOp .And (eb::rest) pos) b):SW X sf C (.BoolOp .And (ea::eb::rest) pos) (.and a b):=vO (xM ha hb) yX
theorem wOr {rest:List Expr}(ha:SB X sf C ea a)(hb:SW X sf C (.BoolOp .Or (eb::rest) pos) b):SW X sf C (.BoolOp .Or (ea::eb::rest) pos) (.or a b):=vO (Bn ha hb) CH
theorem tW (h:SW X sf C ea a):SB X sf C ea a:=h.pt
theorem sIf (hc:SB X sf C ec c)(ha:SE X sf C ea a)(hb:SE X sf C eb b):SE X sf C (.IfExp ec ea eb pos) (.ifx c a b):=ak (n6 hc ha hb) xt
theorem eA {tg:Expr}(ha:SE X sf C ea a):PI X tg ea (wI X.K sf C 1 .seq [a]):=ig (AF (rR ha) (y7 ha)) zh
theorem zJ {tg:Expr}{p:Pos}(hm:X.mg "range"=none)(hg:Gl X "range":=by rfl)(ha:SE X sf C ea a)(hs:starEach [ea] X.env=[(false,eval ea X.env)]:=by rfl):PI X tg (.Call (.Name "range" p) [ea] [] pos) (wI X.K sf C 1 .rng [a]):=ig (lB hg hm (slc ha sl0 hs) hs) tS
theorem zp {tg:Expr}{p:Pos}(hm:X.mg "range"=none)(hg:Gl X "range":=by rfl)(ha:SE X sf C ea a)(hb:SE X sf C eb b)(hs:starEach [ea,eb] X.env=[(false,eval ea X.env),(false,eval eb X.env)]:=by rfl)(hs2:starEach [eb] X.env=[(false,eval eb X.env)]:=by rfl):PI X tg (.Call (.Name "range" p) [ea,eb] [] pos) (wI X.K sf C 1 .rng [a,b]):=ig (mU hg hm (slc ha (slc hb sl0 hs2) (by rw [hs,hs2])) hs hs2) rZ
noncomputable def lkN:List Nat->Nat->Nat->Option Nat
 | [],_,_=>none
 | t::ts,n,i=>if i=t then some n else lkN ts (n+1) i
theorem lj:∀ {l:List Nat} {n i j:Nat},lkN l n i=some j->∃ k,l[k]?=some i/\j=n+k/\i ∉ l.take k
 | [],_,_,_,h=>by cases h
 | t::ts,n,i,j,h=>by
  have h':(if i=t then some n else lkN ts (n+1) i)=some j:=h
  split at h'
  ·rename_i e; cases h'; exact ⟨0,by rw [e]; rfl,rfl,by simp⟩
  ·rename_i e
   obtain ⟨k,h1,h2,h3⟩:=lj h'
   exact ⟨k+1,h1,by omega,by rw [a0q,a0s]; exact fun z=>z.elim e h3⟩
noncomputable def inF (tg ls:List Nat):Nat->Option Nat:=lkN (tg++ls) 0
theorem fg {tg ls is:List Nat}(h:ls.map sf=is.map some):eL sf (inF tg ls) tg is:=fun i j hj=>by
 obtain ⟨k,h1,h2,h3⟩:=lj (show lkN (tg++ls) 0 i=some j from hj)
 rw [a09] at h2
 subst h2
 by_cases hk:j < tg.length
 ·rw [a04 hk] at h1
  exact .inl ⟨j,h1,rfl⟩
 ·have hk':tg.length<=j:=a2K hk
  rw [a02 hk'] at h1
  refine .inr ⟨fun hi=>h3 ?_,?_⟩
  ·rw [List.take_append,a1p hk']
   exact a01 _ hi
  ·have e1:(ls.map sf)[j-tg.length]?=some (sf i):=by rw [a0A,h1]; rfl
   rw [h,a0A] at e1
   cases e2:is[j-tg.length]? with
   | none=>rw [e2] at e1; cases e1
   | some j0 =>
    rw [e2] at e1
    exact ⟨j-tg.length,j0,by omega,e2,(a0C e1).symm⟩
theorem x3 {x:Str}{px:Pos}{ys:List Str}{scope:Scope}{cl:List (Str×Addr)}(S:aH [x] ys scope)(Ca:Addr)(s:Shared)(H:Hp)(fp:List Addr):PG (au X ([x]++ys) scope cl Ca s H fp) (.Name x px) (gT X.K 1) :=
 c7 (X:=au X ([x]++ys) scope cl Ca s H fp) (i:=0) (x:=x) (pos:=px) S.nd rfl (.inl (lookup_relabel_local (S.loc x (by simp)))) (.inr (lookup_relabel_local (S.loc x (by simp))))
end
end MR

namespace MR
open PySem PySem.Spec PyProof.Rows L2 L3
section
variable {X:Cx}{sf sg:Nat->Option Nat}{C:M.Call}{pos p2:Pos}{ea eb ec:Expr}{a b c:M.E}{h:Bool}{n:Nat}{io:List Nat}
section
variable {elt iter cnd:Expr}{x y:Str}{px py pt:Pos}{kt:Nat}{scope:Scope}{cl:List (Str×Addr)}{ys:List Str}{tg ls is:List Nat}{k:M.Ik}{src:List M.E}{e cd:M.E}
theorem sC1 (ls:List Nat)(is:List Nat)(cl:List (Str×Addr))(ys:List Str){t:Nat}(hi:PI X (.Name x px) iter (wI X.K sf C 1 k src))(he:∀ Ca s H fp,SE (au X ([x]++ys) scope cl Ca s H fp) (inF [t] ls) C elt e)
  (S:aH [x] ys scope) (hcl:Clo X cl) (fr:Frees X scope cl ys is) (hc:X.calm=true:=by rfl) (hl:ls.map sf=is.map some:=by rfl)
  (hclos:closureFor scope X.env=pure cl:=by with_unfolding_all rfl) (hfr:(scope.names.all fun p=>p.2 != .free || (cl.lookup p.1).isSome)=true:=by rfl)
  (hs:∀ v,foldedSetIterable iter X.env v=pure v:=by intro _; rfl):SE X sf C (.ListComp elt [⟨.Name x px,iter,[],0⟩] scope pos) (.comp h k src [t] none e) :=
 ak (mR (pre:=[x]) hc hi (x3 S) (fun Ca s H fp=>he Ca s H fp) hclos S hcl hfr fr hs) (iH rfl (by simp) (fg hl))
theorem Ec (ls:List Nat)(is:List Nat)(cl:List (Str×Addr))(ys:List Str){t:Nat}(hi:PI X (.Name x px) iter (wI X.K sf C 1 k src))(hcd:∀ Ca s H fp,SB (au X ([x]++ys) scope cl Ca s H fp) (inF [t] ls) C cnd cd)(he:∀ Ca s H fp,SE (au X ([x]++ys) scope cl Ca s H fp) (inF [t] ls) C elt e)
  (S:aH [x] ys scope) (hcl:Clo X cl) (fr:Frees X scope cl ys is) (hc:X.calm=true:=by rfl) (hl:ls.map sf=is.map some:=by rfl)
  (hclos:closureFor scope X.env=pure cl:=by with_unfolding_all rfl) (hfr:(scope.names.all fun p=>p.2 != .free || (cl.lookup p.1).isSome)=true:=by rfl)
  (hs:∀ v,foldedSetIterable iter X.env v=pure v:=by intro _; rfl):SE X sf C (.ListComp elt [⟨.Name x px,iter,[cnd],0⟩] scope pos) (.comp h k src [t] (some cd) e) :=
 ak (mC (pre:=[x]) hc hi (x3 S) (fun Ca s H fp=>he Ca s H fp) (fun Ca s H fp=>hcd Ca s H fp) hclos S hcl hfr fr hs) (oE rfl (by simp) (fg hl))
end
noncomputable def spS (K:a0a)(C:M.Call)(f:Nat)(io:List Nat):Sp:=fun vs H Q _=>spC K C f io vs H Q
theorem sa0:SA X sf C [] []:=i4 fL ym
theorem sac {es:List Expr}{bs:List M.E}(ha:SE X sf C ea a)(hb:SA X sf C es bs)(he:∀ i,a≠.io i:=by intro _ z; cases z)(hs:starEach (ea::es) X.env=(false,eval ea X.env)::starEach es X.env:=by rfl):SA X sf C (ea::es) (a::bs):=i4 (cM ha hb hs) (qj he)
theorem sai (j:Nat){i:Nat}{x:Str}{es:List Expr}{bs:List M.E}(hb:SA X sf C es bs)(hs:sf i=some j:=by rfl)(hN:X.N[j]?=some x:=by rfl)(hv:Vis X.env.scope x:=by first | exact a0G rfl | exact a0E (a0G rfl) | exact a0E (a0E rfl))(hd:(x==("__debug__":Str))=false:=by decide)
  (hcd:(x==("__classdict__":Str))=false:=by decide) (hst:starEach (.Name x pos::es) X.env=(false,eval (.Name x pos) X.env)::starEach es X.env:=by rfl):SA X sf C (.Name x pos::es) (.io i::bs):=i4 (cM (de hN hv hd hcd) hb hst) (mW hs)
noncomputable def ae (P:Program)(w:World)(K:a0a)(mg:Str->Option Value)(base:Heap)(n:Nat)(C:M.Call)(x:Str)(f:Nat)(io:List Nat):Prop :=
 ∃ fa fd ps,dG P w K mg base CX0 n fa fd ps (spS K C f io)/\mg x=some (.ref fa)/\a1P K (.ref fa)=true/\Binds K fd ps []
theorem ah {x:Str}{p:Pos}{f:Nat}{es:List Expr}{bs:List M.E}(c:ae X.prog X.w X.K X.mg X.base n C x f io)(hr:Room n X.A)(ha:SA X sf C (ea::es) bs)(hio:fj bs 0=io\/M.ios bs=[]:=by first | exact .inl rfl | exact .inr rfl)(hg:Gl X x:=by rfl)(hdb:(x==("__debug__":Str))=false:=by decide)
  (he:starEach (ea::es) X.env=(false,eval ea X.env)::starEach es X.env:=by rfl) (hpl:(backTo pos (starEach es X.env)).any (·.1)=false:=by rfl):SE X sf C (.Call (.Name x p) (ea::es) [] pos) (.call f bs):=by
 obtain ⟨fa,fd,ps,F,hm,hk,hb⟩:=c
 refine ak (t7 (E:=E0) F hr hg hm hk hb .nil Am ha hdb he hpl) fun σ H Q hw=>?_
 have h2:=tG hio σ H Q hw
 obtain ⟨pv,Z,Fs,η,ws,η',A,ev,k⟩:=h2
 exact ⟨pv,Z,Fs,η,ws,η',A,ev,fun vs Z' H' Fs' G B r s hv=>by show spS X.K C f io (vs++[]) H' Q E0; rw [a0P]; exact k vs Z' H' Fs' G B r s hv⟩
theorem ss0:SSs X sf io C [] []:=jL rV rG
theorem ss1 {s:Stmt}{t:M.S}(hs:SS X sf io C s t):SSs X sf io C [s] [t]:=jL (rN hs) rY
theorem ssc {s:Stmt}{t:M.S}{r:List Stmt}{u:List M.S}(hs:SS X sf io C s t)(hr:SSs X sf io C r u):SSs X sf io C (s::r) (t::u):=jL (pf hs hr) ox
theorem a8 (j:Nat){i:Nat}{x:Str}{xx:M.X}{pos':Pos}(hN:X.N.Nodup)(ha:SE X sf C ea a)(hi:i ∉ io:=by decide)(hs:sf i=some j:=by rfl)(hj:X.N[j]?=some x:=by rfl)(hx:L2.Loc X.env.scope x:=by first | exact a0G rfl | exact a0E rfl)
  (hsw:swapsWith ea (some (.Name x pos')) pos.line X.env=pure false:=by rfl) (hf:X.fn x=true\/X.env.scope.names.lookup x=some .local:=by first | exact .inl rfl | exact .inr rfl):SS X sf io C (.Assign [.Name x pos'] ea pos) (.asg xx i a):=da (wO (i:=j) hN hj hx ha hsw hf) (qc hi hs)
theorem Bx {xx:M.X}(ha:SE X sf C ea a)(hs:swapsWith ea none pos.line X.env=pure false:=by rfl):SS X sf io C (.Expr ea pos) (.exp xx a):=da (lq ha hs) y0
theorem aB {vs:List Nat}(ha:SE X sf C ea a):SS X sf io C (.Return (some ea) pos) (.ret vs a):=da (yz ha) yn
theorem zIf {xx:M.X}{r u:List Stmt}{s t:List M.S}(hc:SB X sf C ec c)(ha:SSs X sf io C r s)(hb:SSs X sf io C u t):SS X sf io C (.If ec r u pos) (.ite xx c s t):=da (Ad hc ha hb) yu
theorem AJ {xx:M.X}{r:List Stmt}{s:List M.S}(hc:SB X sf C ec c)(ha:SSs X sf io C r s)(hp:PassesOwn (model X.prog X.w) X.A X.env X.xe:=by exact PassesOwn.never):SS X sf io C (.While ec r [] pos) (.whl xx c s):=da (ot hp hc ha) zI
theorem kh (j:Nat){t:Nat}{x:Str}{px:Pos}{iter:Expr}{r:List Stmt}{s:List M.S}{vs ls:List Nat}{k:M.Ik}{src:List M.E}(hN:X.N.Nodup)(hi:PI X (.Name x px) iter (wI X.K sf C 1 k src))(ha:SSs X sf io C r s)(hio:∀ u∈[t],u ∉ io:=by decide)(hjs:[t].map sf=[j].map some:=by rfl)(hj:X.N[j]?=some x:=by rfl)(hx:L2.Loc X.env.scope x:=by first | exact a0G rfl | exact a0E rfl)
  (hc:X.calm=true:=by rfl) (hp:PassesOwn (model X.prog X.w) X.A X.env X.xe:=by exact PassesOwn.never) (hf:X.fn x=true\/X.env.scope.names.lookup x=some .local:=by first | exact .inl rfl | exact .inr rfl) (hs:∀ x,foldedSetIterable iter X.env x=pure x:=by intro _; rfl):SS X sf io C (.For (.Name x px) iter r [] pos) (.forS vs ls k src [t] s) :=
 da (rj hp hc hi (c7 (i:=j) hN hj hx hf) ha hs) (rn rfl (by simp) hio hjs)
theorem vM (j l:Nat){t u:Nat}{x y:Str}{px py pt:Pos}{kt:Nat}{iter:Expr}{r:List Stmt}{s:List M.S}{vs ls:List Nat}{k:M.Ik}{src:List M.E}(hN:X.N.Nodup)(hi:PI X (.Tuple [.Name x px,.Name y py] kt pt) iter (wI X.K sf C 2 k src))(ha:SSs X sf io C r s)(hio:∀ v∈[t,u],v ∉ io:=by decide)(nd:[t,u].Nodup:=by decide)(hjs:[t,u].map sf=[j,l].map some:=by rfl)(hj:X.N[j]?=some x:=by rfl)(hl:X.N[l]?=some y:=by rfl)
  (hx:L2.Loc X.env.scope x:=by first | exact a0G rfl | exact a0E rfl) (hy:L2.Loc X.env.scope y:=by first | exact a0G rfl | exact a0E rfl)
  (hc:X.calm=true:=by rfl) (hp:PassesOwn (model X.prog X.w) X.A X.env X.xe:=by exact PassesOwn.never) (hf:X.fn x=true\/X.env.scope.names.lookup x=some .local:=by first | exact .inl rfl | exact .inr rfl) (hf':X.fn y=true\/X.env.scope.names.lookup y=some .local:=by first | exact .inl rfl | exact .inr rfl) (hs:∀ x,foldedSetIterable iter X.env x=pure x:=by intro _; rfl):SS X sf io C (.For (.Tuple [.Name x px,.Name y py] kt pt) iter r [] pos) (.forS vs ls k src [t,u] s) :=
 da (rj hp hc hi (oV (n:=2) hc (dA (c7 (i:=j) hN hj hx hf) (dA (c7 (i:=l) hN hl hy hf') kO))) ha hs) (rn rfl nd hio hjs)
theorem AU (j:Nat){i:Nat}{x:Str}{xx:M.X}{apos cpos px:Pos}(ha:SE X sf C ea a)(hs:sf i=some j:=by rfl)(hN:X.N[j]?=some x:=by rfl)(hv:Vis X.env.scope x:=by first | exact a0G rfl | exact a0E (a0G rfl) | exact a0E (a0E rfl))(hd:(x==("__debug__":Str))=false:=by decide)(hcd:(x==("__classdict__":Str))=false:=by decide)
  (hbase:attributeBase (.Name x px) "append" X.env (eval (.Name x px) X.env)=eval (.Name x px) X.env:=by rfl)
  (hfew:((backTo cpos (starEach [ea] X.env)).all (fun x=>!x.1)&&(backToKw cpos (keywordEach [] X.env)).all (fun x=>x.1.isSome)&&decide ([ea].length+([]:List Keyword).length+(if ([]:List Keyword).isEmpty then 0 else 1) < 30))=true:=by rfl)
  (hline:(apos.endLine==cpos.line)=true:=by rfl) (hst:starEach [ea] X.env=(false,eval ea X.env)::starEach [] X.env:=by rfl) (hplain:(backTo cpos (starEach [] X.env)).any (·.1)=false:=by rfl) (hsw:swapsWith (.Call (.Attribute (.Name x px) "append" apos) [ea] [] cpos) none pos.line X.env=pure false:=by rfl) :
  SS X sf io C (.Expr (.Call (.Attribute (.Name x px) "append" apos) [ea] [] cpos) pos) (.app xx i a) :=
 da (lq (v7 a1G PySem.F.slot_list_append PySem.F.type_list_append lX (de hN hv hd hcd) (cM ha fL hst) hbase hfew hline hst hplain) hsw) fun D σ H hw=>by
  obtain ⟨p,xs,hj,hp,pv,Z,Fs,η,w,η',A,ev,k⟩:=yV hs D σ H hw
  refine ⟨.ref p,hj,.inl ⟨rfl,xs,.inl (.inl hp)⟩,pv,Z,Fs,η,w,η',A,ev,fun v Z' H' Fs' G B r s=>?_⟩
  obtain ⟨ys,h1,h2,h3⟩:=k v Z' H' Fs' G B r s
  exact ⟨p,ys,v,rfl,rfl,h1,h2,h3⟩
end
end MR

namespace MR
open PySem PySem.Spec PyProof.Rows L2 L3
section
variable {K:a0a}{Z:Fp}{H:Hp}
theorem gU:∀ {ws:List M.W} {n i:Nat} {w:M.W},M.rd (ws.map some++a0i n none) i=some w->ws[i]?=some w
 | [],0,i,w,h=>by simp [M.rd] at h
 | [],n+1,0,w,h=>by simp [a0Q,M.rd] at h
 | [],n+1,i+1,w,h=>by
  have:M.rd (([]:List M.W).map some++a0i n none) i=some w:=by simpa [a0Q,M.rd] using h
  have:=gU this
  simp at this
 | u::ws,n,0,w,h=>by simpa [M.rd] using h
 | u::ws,n,i+1,w,h=>by
  have:M.rd (ws.map some++a0i n none) i=some w:=by simpa [M.rd] using h
  simpa using gU this
theorem qO:∀ {ws:List M.W} {vs:List V} {G:Fp},RepW K Z H ws vs G->∃ Fs:Fps,(∀ i a,Fs i a->G a)/\(∀ i j a,Fs i a->Fs j a->i=j)/\∀ i w,ws[i]?=some w->∃ v,vs[i]?=some v/\Rep K Z H w.1 w.2 v (Fs i)
 | [],vs,G,_=>⟨fun _=>no,fun _ _ h=>h.elim,fun _ _ _ h=>h.elim,fun i w h=>by simp at h⟩
 | w::ws,vs,G,⟨x,r,G1,G2,e,h1,h2,hd,p,q⟩=>by
  obtain ⟨Fs,f1,f2,f3⟩:=qO q
  subst e
  refine ⟨fun i=>match i with | 0=>G1 | i+1=>Fs i,fun i a h=>?_,fun i j a hi hj=>?_,fun i u h=>?_⟩
  ·cases i with
   | zero=>exact h1 a h
   | succ i=>exact h2 a (f1 i a h)
  ·cases i with
   | zero =>
    cases j with
    | zero=>rfl
    | succ j=>exact absurd (f1 j a hj) (hd a hi)
   | succ i =>
    cases j with
    | zero=>exact absurd (f1 i a hi) (hd a hj)
    | succ j=>exact congrArg (·+1) (f2 i j a hi hj)
  ·cases i with
   | zero=>simp only [a1l,a1N] at h; subst h; exact ⟨x,rfl,p⟩
   | succ i=>simpa using f3 i u (by simpa using h)
noncomputable def slN (n:Nat):Nat->Option Nat:=fun i=>if i < n then some i else none
theorem d6 {sl:Cf}{σ:L2.St}{Fs:Fps}{η:M.Env}{G:Fp}{vs:List V}(A:At K sl σ Z H Fs η G):∀ {io:List Nat} {bs:List M.W},io.Nodup->(∀ i∈io,sl.pv i=vs[i]?/\i < vs.length)->M.backs io η=some bs->RepW K Z H bs (atV io vs) (fun a=>∃ i∈io,Fs i a)
 | [],bs,_,_,h=>by
  simp only [M.backs,a1N] at h; subst h; rfl
 | i::io,bs,nd,hv,h=>by
  simp only [M.backs] at h
  cases e:M.rd η i with
  | none=>rw [e] at h; cases h
  | some w =>
   rw [e] at h
   simp only [a1z] at h
   cases e2:M.backs io η with
   | none=>rw [e2] at h; cases h
   | some ws =>
    rw [e2] at h
    simp only [a1z,a1N] at h
    subst h
    obtain ⟨v,r,_,hp⟩:=A.env i w.1 w.2 e
    have hi:=hv i a0f
    obtain ⟨u,hu⟩:∃ u,vs[i]?=some u:=⟨vs[i]'hi.2,a0h hi.2⟩
    have:=hp u (hi.1.trans hu)
    subst this
    refine ⟨v,atV io vs,Fs i,fun a=>∃ j∈io,Fs j a,?_,fun a h=>⟨i,a0f,h⟩,fun a ⟨j,hj,h⟩=>⟨j,a0g _ hj,h⟩,fun a h ⟨j,hj,h'⟩=>?_,r,d6 A (a1h.mp nd).2 (fun j hj=>hv j (a0g _ hj)) e2⟩
    ·rw [atV,a0O,hu]; rfl
    ·exact (a1h.mp nd).1 (A.gd.dis i j a h h' ▸ hj)
end
section
variable {P:Program}{w:World}{K:a0a}{mg:Str->Option Value}{base:Heap}
theorem oI {Z:Fp}{H:Hp}{ws:List M.W}{vs:List V}{G:Fp}{N:List Str}{n:Nat}{io:List Nat}(r:RepW K Z H ws vs G)(o:Own Z H G)(z:∀ a,Z a->H a≠none)(hl:vs.length<=N.length) :
  ∃ Fs,(∀ a,tot Fs a->G a)/\At K ⟨slN N.length,fun i=>if i∈io then vs[i]? else none⟩ (L2.start N vs) Z H Fs (ws.map some++a0i n none) no:=by
 obtain ⟨Fs,f1,f2,f3⟩:=qO r
 have st:∀ i v,vs[i]?=some v->(L2.start N vs)[i]?=some (some v):=fun i v h=>by
  have hi:=(a0w.mp h).1
  rw [L2.start,a04 (by simpa using hi),a0A,h]; rfl
 refine ⟨Fs,fun a ⟨i,h⟩=>f1 i a h,⟨⟨fun a ⟨i,h⟩=>o a (f1 i a h),f2,z⟩,fun i m t e=>?_,fun a h=>h.elim,fun a h=>h.elim,fun i u j hu hj=>?_,fun i j hj=>?_⟩⟩
 ·obtain ⟨v,hv,rp⟩:=f3 i (m,t) (gU e)
  refine ⟨v,rp,fun j hj=>?_,fun u hu=>?_⟩
  ·simp only [slN] at hj
   split at hj
   ·cases hj; exact st i v hv
   ·cases hj
  ·simp only at hu
   split at hu
   ·rw [hv] at hu; cases hu; rfl
   ·cases hu
 ·simp only at hu
  simp only [slN] at hj
  split at hj
  ·cases hj
   split at hu
   ·exact st i u hu
   ·cases hu
  ·cases hj
 ·simp only [slN] at hj
  split at hj
  ·cases hj
   rename_i h
   rw [L2.start,a0e,a0b,a0F]; omega
  ·cases hj
theorem Fun.okM {x qual:Str}{st:Stmt}{f:Addr}{fd:FuncData}{N ps:List Str}{k:Nat}{C:M.Call}{d:M.Fn}(F:L2.Fun K x qual st f fd)(S:ag N ps (defScope st))(hps:d.ps=ps.length)(hle:ps.length<=N.length)(nd:d.io.Nodup)(hio:∀ i∈d.io,i < ps.length)
  (hbody:∀ (cdv:Value) (A:Around) (outer:List Env) (s:Shared) (H:Hp) (E:XK),Room k (A.deeper (envOfC qual (defScope st) s.heap.objs.size f cdv)) ->
   SSs (gL CX0 P w K mg base N qual (defScope st) f cdv A outer s H E).nox (slN N.length) d.io C (defBody st) d.body) {g:Nat} {C':M.Call} (hC:∀ ws,C' g ws=M.runF C d ws):dG P w K mg base CX0 (k+1) f fd ps (spS K C' g d.io):=by
 have len:∀ vs H Q E,spS K C' g d.io vs H Q E->vs.length=ps.length:=fun vs H Q E ⟨Z,ws,G,w,bs,r,_,_,hr,_⟩=>by
  rw [hC] at hr
  unfold M.runF at hr
  split at hr
  ·rename_i h; rw [r.length,h,hps]
  ·cases hr
 refine F.ok S len fun cdv A outer s H vs Q E hr h=>⟨_,hbody cdv A outer s H E hr,?_⟩
 have hlen:=len vs H Q E h
 obtain ⟨Z,ws,G,w,bs,r,o,z,hc,q⟩:=h
 rw [hC] at hc
 have hwl:ws.length=d.ps:=by rw [<- r.length,hlen,hps]
 rw [M.x_run _ _ _ hwl] at hc
 obtain ⟨Fs,ft,A0⟩:=oI (n:=d.ns) (io:=d.io) r o z (N:=N) (by omega)
 refine ⟨_,Z,Fs,_,⟨fun i i' j h h'=>?_,fun i h=>if_neg h⟩,A0,?_⟩
 ·simp only [slN] at h h'
  split at h
  ·split at h'
   ·cases h; cases h'; rfl
   ·cases h'
  ·cases h
 have hv:∀ i∈d.io,(if i∈d.io then vs[i]? else none)=vs[i]?/\i < vs.length:=fun i hi=>⟨if_pos hi,hlen ▸ hio i hi⟩
 cases e:M.evSs C d.body (ws.map some++a0i d.ns none) with
 | nx η =>
  rw [e] at hc
  intro σ' Z' H' Fs' A' t
  simp only [M.Fl.out] at hc
  cases e2:M.backs d.io η with
  | none=>rw [e2] at hc; cases hc
  | some cs =>
   rw [e2] at hc
   cases hc
   refine q .non Z' H' no _ rfl (d6 A' nd hv e2) (fun _ h=>h.elim) (fun a h=>h.elim (fun z=>z.elim) fun ⟨i,_,z⟩=>A'.gd.own a ⟨i,z⟩) (t.mono ft fun a h=>h.elim (fun z=>z.elim) fun ⟨i,_,z⟩=>⟨i,z⟩)
 | rt u η =>
  rw [e] at hc
  intro v σ' Z' H' Fs' G' A' rp t
  simp only [M.Fl.out] at hc
  cases e2:M.backs d.io η with
  | none=>rw [e2] at hc; cases hc
  | some cs =>
   rw [e2] at hc
   cases hc
   exact q v Z' H' G' _ rp (d6 A' nd hv e2) (fun a h ⟨i,_,z⟩=>A'.dis a h ⟨i,z⟩) (fun a h=>h.elim (A'.own a) fun ⟨i,_,z⟩=>A'.gd.own a ⟨i,z⟩) (t.mono ft fun a h=>h.elim .inr fun ⟨i,_,z⟩=>.inl ⟨i,z⟩)
 | bk η=>rw [e] at hc; cases hc
 | ex c x η=>rw [e] at hc; cases hc
 | no=>rw [e] at hc; cases hc
end
end MR

namespace MR
open PySem PySem.Spec PyProof.Rows L2 L3
noncomputable def B8 (K:a0a)(H:Hp):Th->V->Prop
 | .tup _,x=>∃ a vs,x=.ref a/\SqT K H a vs
 | .lst _,x=>∃ a vs,x=.ref a/\SqL K H a vs
 | .non,x=>x=.non
 | .bl b,x=>x=.bl b
 | .int i,x=>x=.int i
 | .str z,x=>x=.str z
theorem qz {X:Cx}{c:String}(hc:c∈["tuple","str","bool","int","list"]):cX X (.builtin "isinstance") (fun xs H Q=>∃ x t,xs=[x,.ty c]/\B8 X.K H t x/\Q (.bl (isI c t)) H):=by
 intro pins s σ H xs us Q I r h
 obtain ⟨x,t,rfl,ht,q⟩:=h
 obtain ⟨u,w',rfl,ru,rw'⟩:=vF r
 cases rw'
 have e:a1o X.K (.type t.ty) (.type c)=some (isI c t):=kit_type.trans (wj hc t)
 have fin:∀ tk,EP X pins σ Q (.bool (isI c t)) { s with toks:=tk }:=fun tk=>⟨.bl (isI c t),H,I.tok tk,rfl,q⟩
 cases t with
 | non =>
  obtain rfl:x=.non:=ht
  exact c8 I ru .non e fin
 | bl b =>
  obtain rfl:x=.bl b:=ht
  exact c8 I ru (.bl b) e fin
 | int i =>
  obtain rfl:x=.int i:=ht
  exact c8 I ru (.int i) e fin
 | str z =>
  obtain rfl:x=.str z:=ht
  exact c8 I ru (.str z) e fin
 | tup ts =>
  obtain ⟨a,vs,rfl,hS⟩:=ht
  cases ru
  obtain ⟨its,_,p,_⟩:=I.tuple hS
  obtain ⟨o,h1,h2,_⟩:=p
  exact a0L a2x I.kIn ⟨o,h1,h2⟩ e (fun z=>nomatch z) fin
 | lst ts =>
  obtain ⟨a,vs,rfl,hS⟩:=ht
  cases ru
  obtain ⟨its,_,p,_⟩:=I.list hS
  obtain ⟨o,n,h1,h2,_⟩:=p
  exact a0L a16 I.kIn ⟨o,h1,h2⟩ e (fun z=>nomatch z) fin
noncomputable def thT:M.T->Th
 | .non=>.non | .bl b=>.bl b | .int i=>.int i | .str x=>.str x | .tup _=>.tup [] | .lst _=>.lst [] | .scr _=>.lst [] | .dct _ _=>.non | .ins _ _ _=>.non | .gone=>.non
theorem vb {K:a0a}{Z:Fp}{H:Hp}{t:M.T}{m:M.Md}{x:V}{G:Fp}(hg:t.isG=false)(r:Rep K Z H m t x G):B8 K H (thT t) x/\(thT t).ty=t.ty:=by
 cases t with
 | non=>exact ⟨r,rfl⟩
 | bl _=>exact ⟨r,rfl⟩
 | int _=>exact ⟨r,rfl⟩
 | str _=>exact ⟨r.1,rfl⟩
 | tup _=>obtain ⟨p,xs,e,q,_⟩:=r; exact ⟨⟨p,xs,e,q⟩,rfl⟩
 | lst _=>obtain ⟨p,xs,e,_,q,_⟩:=r; exact ⟨⟨p,xs,e,.inl (.inl (by cases m<;>exact q.2))⟩,rfl⟩
 | scr _=>obtain ⟨p,e,_,q⟩:=r; exact ⟨⟨p,_,e,q.sq⟩,rfl⟩
 | dct _ _=>cases hg
 | ins _ _ _=>exact r.elim
 | gone=>cases hg
theorem uc {t:Th}{u:M.T}{c:String}(h:t.ty=u.ty):isI c t=M.isOne c u:=by unfold isI M.isOne; rw [h]
section
variable {X:Cx}{sf sg:Nat->Option Nat}{C:M.Call}{pos p2 p3:Pos}{ea eb ec:Expr}{a b c:M.E}{h:Bool}{n:Nat}{io:List Nat}
theorem cQ {c:String}{k:Str}(hc:c∈["tuple","str","bool","int","list"])(hv:bootBuiltins k=some (.type c))(hm:X.mg "isinstance"=none)(hm2:X.mg k=none)(ha:SE X sf C ea a)(hg:Gl X "isinstance":=by rfl)(hg2:Gl X k:=by rfl)(hn:k≠"__name__":=by decide)(hd:(k==("__debug__":Str))=false:=by decide)
  (hs:starEach [ea,.Name k p2] X.env=(false,eval ea X.env)::starEach [.Name k p2] X.env:=by rfl) (hs2:starEach [.Name k p2] X.env=(false,eval (.Name k p2) X.env)::starEach [] X.env:=by rfl) (hpl:(backTo pos (starEach [.Name k p2] X.env)).any (·.1)=false:=by rfl) :
  SE X sf C (.Call (.Name "isinstance" p3) [ea,.Name k p2] [] pos) (.op (.isI [c]) h [a]) :=
 ak (b5 (qz hc) hg hm a2O (cM ha (cM (An hg2 hm2 hv hn hd) fL hs2) hs) (by decide) (by decide) hs hpl) fun σ H Q hw=>by
  obtain ⟨pv,Z,Fs,η,w,η',A,ev,k⟩:=hw
  obtain ⟨ws,h1,h2⟩:=dq ev
  obtain ⟨⟨m,u⟩,η1,us,e1,e2,rfl⟩:=aE h1
  cases e2
  obtain ⟨hug,h2⟩:=ifN (show (if u.isG=true then none else some _)=_ from h2)
  cases h2
  refine ⟨pv,Z,Fs,η,(m,u),η',A,e1,fun x Z' H' Fs' G B r s=>?_⟩
  obtain ⟨t1,t2⟩:=vb hug r
  refine ⟨x,thT u,rfl,t1,?_⟩
  have:=bG (cI B s k)
  rw [uc t2]
  rw [show ([c].any fun c=>M.isOne c u)=M.isOne c u by simp] at this
  exact this
theorem AG (j:Nat){i:Nat}{x:Str}{apos cpos px:Pos}(hs:sf i=some j:=by rfl)(hN:X.N[j]?=some x:=by rfl)(hv:Vis X.env.scope x:=by first | exact a0G rfl | exact a0E (a0G rfl) | exact a0E (a0E rfl))(hd:(x==("__debug__":Str))=false:=by decide)(hcd:(x==("__classdict__":Str))=false:=by decide)
  (hbase:attributeBase (.Name x px) "pop" X.env (eval (.Name x px) X.env)=eval (.Name x px) X.env:=by rfl) (hline:(apos.endLine==cpos.line)=true:=by rfl) :
  SE X sf C (.Call (.Attribute (.Name x px) "pop" apos) [] [] cpos) (.pop i []) :=
 ak (zj a1G PySem.F.slot_list_pop PySem.F.type_list_pop zv (de hN hv hd hcd) hbase hline) fun σ H Q hw=>by
  obtain ⟨a,xs,y,hj,hp,hy,q⟩:=td hs σ H Q hw
  exact ⟨.ref a,hj,.inl ⟨rfl,xs,.inl (.inl hp)⟩,a,xs,y,rfl,rfl,hp,hy,q⟩
end
end MR

namespace MR
open PySem PySem.Spec PyProof.Rows L2 L3
structure Txt (mg:Str->Option Value):Prop where
 isin:mg "isinstance"=none
 int:mg "int"=none
 tup:mg "tuple"=none
 list:mg "list"=none
 bool:mg "bool"=none
 sum:mg "sum"=none
 len:mg "len"=none
 all:mg "all"=none
 zip:mg "zip"=none
 range:mg "range"=none
 enum:mg "enumerate"=none
 any:mg "any"=none
 max:mg "max"=none
 min:mg "min"=none
 sorted:mg "sorted"=none
 str:mg "str"=none
 repr:mg "repr"=none
 abs:mg "abs"=none
 dict:mg "dict"=none
 set:mg "set"=none
 rev:mg "reversed"=none
theorem frc {X:Cx}{scope:Scope}{cl:List (Str×Addr)}{y:Str}{ys:List Str}{i:Nat}{is:List Nat}{c:Addr}(r:Frees X scope cl ys is)(h1:X.N[i]?=some y:=by rfl)(h2:Vis X.env.scope y:=by first | exact a0G rfl | exact a0E (a0G rfl) | exact a0E (a0E rfl))(h3:X.env.kindOf y=some .cell\/X.env.kindOf y=some .free:=by first | exact a0G rfl | exact a0E rfl)
  (h4:X.env.cells.lookup y=some c:=by rfl) (h5:cl.lookup y=some c:=by rfl) (h6:(relabel scope X.env).names.lookup y=some .cell\/(relabel scope X.env).names.lookup y=some .free:=by first | exact a0G rfl | exact a0E rfl):Frees X scope cl (y::ys) (i::is):=.cons h1 h2 h3 h4 h5 h6 r
theorem oi {X:Cx}{y:Str}{c:Addr}{cl:List (Str×Addr)}(r:Clo X cl)(h:X.env.cells.lookup y=some c:=by rfl):Clo X ((y,c)::cl):=.cons h r
section
variable {X:Cx}{sf sg:Nat->Option Nat}{C:M.Call}{pos p2 p3:Pos}{ea eb ec:Expr}{a b c:M.E}{h:Bool}{n:Nat}{io:List Nat}
section
variable {elt iter cnd:Expr}{x y:Str}{px py pt:Pos}{kt:Nat}{scope:Scope}{tg:List Nat}{k:M.Ik}{src:List M.E}{e cd:M.E}
theorem zC1 (j:Nat)(ls:List Nat)(is:List Nat)(cl:List (Str×Addr))(ys:List Str){z:Str}{pz spos:Pos}{xx:M.X}{i t:Nat}(hi:PI X (.Name x px) iter (wI X.K sf C 1 k src))(he:∀ Ca s H fp,SE (au X ([x]++ys) scope cl Ca s H fp) (inF [t] ls) C elt e)
  (S:aH [x] ys scope) (hcl:Clo X cl) (fr:Frees X scope cl ys is) (hN:X.N.Nodup) (hni:i ∉ io:=by decide) (hsj:sf i=some j:=by rfl) (hj:X.N[j]?=some z:=by rfl) (hz:L2.Loc X.env.scope z:=by first | exact a0G rfl | exact a0E rfl)
  (hsw:swapsWith (.ListComp elt [⟨(.Name x px),iter,[],0⟩] scope pos) (some (.Name z pz)) spos.line X.env=pure true:=by rfl) (hc:X.calm=true:=by rfl) (hl:ls.map sf=is.map some:=by rfl)
  (hclos:closureFor scope X.env=pure cl:=by with_unfolding_all rfl) (hfr:(scope.names.all fun p=>p.2 != .free || (cl.lookup p.1).isSome)=true:=by rfl)
  (hs:∀ v,foldedSetIterable iter X.env v=pure v:=by intro _; rfl) (hfn:X.fn z=true\/X.env.scope.names.lookup z=some .local:=by first | exact .inl rfl | exact .inr rfl):SS X sf io C (.Assign [.Name z pz] (.ListComp elt [⟨(.Name x px),iter,[],0⟩] scope pos) spos) (.asg xx i (.comp h k src [t] none e)) :=
 da (lU (pre:=[x]) hN hj hz hsw hc hi (x3 S) (fun Ca s H fp=>he Ca s H fp) hclos S hcl hfr fr hs hfn) fun D σ H hw=>iH rfl (by simp) (fg hl) σ H _ (qc hni hsj D σ H hw)
end
end
end MR

namespace MR
open PySem PySem.Spec PyProof.Rows L2 L3
section
variable {P:Program}{w:World}{K:a0a}{mg:Str->Option Value}{base:Heap}
theorem jb {C:M.Call}{g:Nat}{io:List Nat}{vs:List V}{H:Hp}{Q:VK}{E:XK}(hC:∀ ws,C g ws=.no)(h:spS K C g io vs H Q E):False:=by
 obtain ⟨Z,ws,G,w,bs,_,_,_,e,_⟩:=h
 rw [hC] at e
 cases e
theorem fn0 {f:Addr}{fd:FuncData}{ps:List Str}{k g:Nat}{io:List Nat}{C:M.Call}(hC:∀ ws,C g ws=.no):dG P w K mg base CX0 k f fd ps (spS K C g io) :=
 ⟨fun _ _ _ _ h=>(jb hC h).elim,fun _ _ _ _ _ _ _ _ _ _ _ _ _ h=>(jb hC h).elim⟩
theorem jO {Z:Fp}{H:Hp}{a:Addr}{ns:List Int}(hO:nO H)(hl:ns.length<=63)(h:SqL K H a (ns.map V.int)):Rep K Z H .d (.scr ns) (.ref a) no:=by
 refine ⟨a,rfl,a0z hl (by decide),?_⟩
 rcases h with (z | ⟨o,z⟩) | z
 ·rcases hO a with y | ⟨o,xs,y⟩<;>rw [y] at z<;>cases z
 ·exact .inl ⟨o,z⟩
 ·exact .inr (.inr z)
theorem yH {H:Hp}{a:Addr}{ns:List Int}{C:M.Call}{ix:Nat}(hp:∃ m bs,C ix [(.d,.scr ns)]=.ok ((m,.bl true),bs))(hl:ns.length<=63)(hO:nO H)(h:SqL K H a (ns.map V.int)):spS K C ix [] [.ref a] H (fun v _=>v=.bl true) fun _ _ _=>False:=by
 obtain ⟨m,bs,e⟩:=hp
 exact ⟨no,[(.d,.scr ns)],no,(m,.bl true),bs,RepW.one (jO hO hl h),cp,fun _ z=>z.elim,e,fun v Z' H' G1 G2 r _ _ _ _=>r⟩
end
end MR

namespace MR
open PySem PySem.Spec PyProof.Rows L2 L3
structure SBs (as:List Addr)(H H':Hp):Prop where
 keep:∀ b u,b ∉ as->H b=some u->H' b=some u
 al:∀ b,H b≠none->H' b≠none
instance {as:List Addr} {H H':Hp}:CoeFun (SBs as H H') (fun _=>∀ b u,b ∉ as->H b=some u->H' b=some u):=⟨fun s=>s.keep⟩
theorem le2:2<=sizeLine:=by decide
end MR

namespace MR
open PySem PySem.Spec PyProof.Rows L2 L3
section
variable {X:Cx}{sf sg:Nat->Option Nat}{io:List Nat}{C:M.Call}{pos p2:Pos}{ea eb ec:Expr}{a b c:M.E}{h:Bool}{n:Nat}
theorem sX {rest:List Expr}{ta tb:TE}(ha:PE X ea ta)(hb:PE X (.BoolOp .And (eb::rest) pos) tb):PE X (.BoolOp .And (ea::eb::rest) pos) (fun σ H Q=>ta σ H fun x H1=>∃ k,uD X.K x H1 k/\if k=true then tb σ H1 Q else Q x H1):=by
 intro pins s σ H Q I h
 refine BoolOp_and (thn (ha pins s σ H _ I h) fun v s1 ⟨x,H1,I1,r1,q1⟩=>?_)
 refine thn (ny pins s1 σ H1 x v (fun k H2=>if k=true then tb σ H2 Q else Q x H2) I1 r1 q1) fun k s2 ⟨H2,I2,q2⟩=>?_
 cases k with
 | true=>exact hb pins s2 σ H2 Q I2 (by rw [if_pos rfl] at q2; exact q2)
 | false=>exact ⟨x,H2,I2,r1,by rw [if_neg a0d] at q2; exact q2⟩
theorem vA1 (ha:SE X sf C ea a):SE X sf C (.BoolOp .And [ea] pos) a:=zd ha
theorem jZ {rest:List Expr}(ha:SE X sf C ea a)(hb:SE X sf C (.BoolOp .And (eb::rest) pos) b):SE X sf C (.BoolOp .And (ea::eb::rest) pos) (.and a b):=ak (sX ha hb) fun σ H Q h=>by
 obtain ⟨pv,Z,Fs,η,w,η',A,ev,k⟩:=zH σ H Q h
 exact ⟨pv,Z,Fs,η,w,η',A,ev,fun v Z' H' Fs' G B r s=>let ⟨c,t,q⟩:=k v Z' H' Fs' G B r s; ⟨c,ky t,q⟩⟩
theorem sBW (h:SE X sf C ea a):SE X sf C ea a:=h
theorem l3 {K:a0a}:Loc K 1 .tuple h fun xs H Q=>∃ p ys,xs=[.ref p]/\((SqL K H p ys/\∀ l,H l=none->Q (.ref l) (upd H l (.tup ys)))\/(SqT K H p ys/\Q (.ref p) H)):=by
 intro ws w xs Z H G Q hn e r ow za k
 obtain ⟨⟨m,a⟩,rfl⟩:∃ a,ws=[a]:=by match ws,hn with | [a],_=>exact ⟨a,rfl⟩
 obtain ⟨x,rfl,r1⟩:=bq rfl r
 cases a with
 | lst ts =>
  obtain ⟨p,ys,rfl,hs,hl,q⟩:=bj r1
  cases e
  exact ⟨p,ys,rfl,.inl ⟨SqL.of hs,fun l hl'=>kF (m:=m.kid.up) (G':=G) ow (fun _ z=>z) hl (by rw [eH]; exact q.zmono fun _ z=>.inl z) k hl'⟩⟩
 | tup ts =>
  obtain ⟨p,ys,rfl,hs,hl,q⟩:=bH r1
  cases e
  exact ⟨p,ys,rfl,.inr ⟨hs,ff ow k r1⟩⟩
 | _=>cases e
theorem oa {p:Pos}(hm:X.mg "tuple"=none)(hg:Gl X "tuple":=by rfl)(ha:SE X sf C ea a)(hs:starEach [ea] X.env=(false,eval ea X.env)::starEach [] X.env:=by rfl)(hpl:(backTo pos (starEach [] X.env)).any (·.1)=false:=by rfl):SE X sf C (.Call (.Name "tuple" p) [ea] [] pos) (.op .tuple h [a]) :=
 ak (d0 fO hg hm a0Y (slc ha sl0 hs) (by decide) (by decide) hs hpl) (dJ l3 rfl)
end
end MR

namespace MR
open PySem PySem.Spec PyProof.Rows L2 L3
noncomputable def lx (ls:List Nat):List V:=ls.map fun (n:Nat)=>V.int (n:Int)
end MR

namespace MR
open PySem PySem.Spec PyProof.Rows L2 L3
section
variable {X:Cx}{sf sg:Nat->Option Nat}{io:List Nat}{C:M.Call}{pos p2:Pos}{ea eb ec:Expr}{a b c:M.E}{h:Bool}{n:Nat}
theorem fW {K:a0a}{o p:M.Op}{g g':Int->Int->Bool}(inv:∀ {u v w:M.W},M.oSem o false [u,v]=some w->∃ m n i j,u=(m,.int i)/\v=(n,.int j)/\w=(.d,.bl (g i j)))(inv':∀ {u v w:M.W},M.oSem p false [u,v]=some w->∃ m n i j,u=(m,.int i)/\v=(n,.int j)/\w=(.d,.bl (g' i j)))
  (σ:L2.St) (H:Hp) (Q:VK) (hw:wE K sf C (.chain o p a b c) σ H Q):g9 (rI0 fun i j=>.bl (g i j)) (rI0 fun i j=>.bl (g' i j)) (wE K sf C a) (wE K sf C b) (wE K sf C c) σ H Q:=by
 obtain ⟨pv,Z,Fs,η,w,η',A,ev,k⟩:=hw
 obtain ⟨⟨x,η1⟩,h1,h2⟩:=aa (show (M.evE C a η).bind (M.kC1 o p (M.evE C b) (M.evE C c))=_ from ev)
 obtain ⟨⟨y,η2⟩,h3,h4⟩:=aa (show (M.evE C b η1).bind (M.kC2 o p (M.evE C c) x)=_ from h2)
 obtain ⟨⟨kk,η3⟩,h5,h6⟩:=aa (show (M.ret η2 (M.oSem o false [x,y])).bind (fun k=>M.onB k.1.2 (M.then' (M.evE C c) (M.kC3 p y)) (M.okW (.d,.bl false)) k.2)=_ from h4)
 obtain ⟨k',e5,e5'⟩:=ai h5
 cases e5'
 obtain ⟨m1,m2,i,j,rfl,rfl,rfl⟩:=inv e5
 have dr:∀ {Z:Fp} {H:Hp} {F Z1:Fp} {H1:Hp} {Fs1:Fps} {G1:Fp},Step Z H F Z1 H1 (fun a=>tot Fs1 a\/G1 a)->Step Z H F Z1 H1 (tot Fs1):=fun s=>s.mono (fun _ z=>z) fun _ z=>.inl z
 refine dX A h1 fun vx Z1 H1 Fs1 G1 A1 r1 _ s1 _=>?_
 have A1':=A1.bare
 refine dX A1' h3 fun vy Z2 H2 Fs2 G2 A2 r2 _ s2 _=>⟨i,j,r1,r2,g i j,rfl,?_⟩
 have A2':=A2.bare
 have s12:=(dr s1).trans (dr s2)
 have h6':M.onB (.bl (g i j)) (M.then' (M.evE C c) (M.kC3 p (m2,.int j))) (M.okW (.d,.bl false)) η2=.ok (w,η'):=h6
 cases hg:g i j with
 | true =>
  rw [hg] at h6'
  rw [if_pos rfl]
  obtain ⟨⟨z,η4⟩,h7,h8⟩:=aa (show (M.evE C c η2).bind (M.kC3 p (m2,.int j))=_ from h6')
  obtain ⟨z',e8,e8'⟩:=ai (show M.ret η4 (M.oSem p false [(m2,.int j),z])=_ from h8)
  cases e8'
  obtain ⟨n1,n2,i',j',e9,rfl,rfl⟩:=inv' e8
  cases e9
  refine dX A2' h7 fun vz Z3 H3 Fs3 G3 A3 r3 _ s3 _=>⟨j,j',r2,r3,?_⟩
  exact k _ Z3 H3 Fs3 no A3.bare rfl ((s12.trans (dr s3)).mono (fun _ z=>z) fun _ z=>z.elim id fun q=>q.elim)
 | false =>
  rw [hg] at h6'
  rw [if_neg a0d]
  cases h6'
  exact k _ Z2 H2 Fs2 no A2' rfl (s12.mono (fun _ z=>z) fun _ z=>z.elim id fun q=>q.elim)
theorem oR {o p:M.Op}{g g':Int->Int->Bool}(inv:∀ {u v w:M.W},M.oSem o false [u,v]=some w->∃ m n i j,u=(m,.int i)/\v=(n,.int j)/\w=(.d,.bl (g i j)))(inv':∀ {u v w:M.W},M.oSem p false [u,v]=some w->∃ m n i j,u=(m,.int i)/\v=(n,.int j)/\w=(.d,.bl (g' i j))) :
  ∀ η w η',M.evE C (.chain o p a b c) η=.ok (w,η')->∃ b,w.2=.bl b:=fun η w η' ev=>by
 obtain ⟨⟨x,η1⟩,h1,h2⟩:=aa (show (M.evE C a η).bind (M.kC1 o p (M.evE C b) (M.evE C c))=_ from ev)
 obtain ⟨⟨y,η2⟩,h3,h4⟩:=aa (show (M.evE C b η1).bind (M.kC2 o p (M.evE C c) x)=_ from h2)
 obtain ⟨⟨kk,η3⟩,h5,h6⟩:=aa (show (M.ret η2 (M.oSem o false [x,y])).bind (fun k=>M.onB k.1.2 (M.then' (M.evE C c) (M.kC3 p y)) (M.okW (.d,.bl false)) k.2)=_ from h4)
 obtain ⟨k',e5,e5'⟩:=ai h5
 cases e5'
 obtain ⟨m1,m2,i,j,rfl,rfl,rfl⟩:=inv e5
 have h6':M.onB (.bl (g i j)) (M.then' (M.evE C c) (M.kC3 p (m2,.int j))) (M.okW (.d,.bl false)) η2=.ok (w,η'):=h6
 cases hg:g i j with
 | true =>
  rw [hg] at h6'
  obtain ⟨⟨z,η4⟩,h7,h8⟩:=aa (show (M.evE C c η2).bind (M.kC3 p (m2,.int j))=_ from h6')
  obtain ⟨z',e8,e8'⟩:=ai (show M.ret η4 (M.oSem p false [(m2,.int j),z])=_ from h8)
  cases e8'
  obtain ⟨n1,n2,i',j',e9,rfl,rfl⟩:=inv' e8
  exact ⟨_,rfl⟩
 | false =>
  rw [hg] at h6'
  cases h6'
  exact ⟨_,rfl⟩
theorem tm (ha:SE X sf C ea a)(hb:SE X sf C eb b)(hc:SE X sf C ec c)(hm:lastMarks [.LtE,.LtE] [eb,ec]=false:=by with_unfolding_all rfl):SE X sf C (.Compare ea [.LtE,.LtE] [eb,ec] pos) (.chain .le .le a b c) :=
 ak (iC jf jf ha hb hc hm) (fW df df)
theorem tY (ha:SE X sf C ea a)(hb:SE X sf C eb b)(hc:SE X sf C ec c)(hm:lastMarks [.LtE,.LtE] [eb,ec]=false:=by with_unfolding_all rfl):SB X sf C (.Compare ea [.LtE,.LtE] [eb,ec] pos) (.chain .le .le a b c) :=
 fX (pN jf jf ha hb hc hm) fun σ H Q hw=>fW df df σ H _ (vU (oR df df) hw)
theorem nS:OpR X (compareOp .IsNot) (fun x y H Q=>∃ a b,x=.bl a/\y=.bl b/\Q (.bl (!(a==b))) H):=by
 intro pins s σ H x y v u Q I rx ry h
 obtain ⟨a,b,rfl,rfl,q⟩:=h
 cases rx
 cases ry
 cases a<;>cases b<;>exact wpAny_pure (oS I q rfl)
theorem iU {u v w:M.W}(e:M.oSem .isnB h [u,v]=some w):∃ m n a b,u=(m,.bl a)/\v=(n,.bl b)/\w=(.d,.bl (!(a==b))):=by
 obtain ⟨m,a⟩:=u; obtain ⟨n,b⟩:=v
 cases a with
 | bl a =>
  cases b with
  | bl b=>cases e; exact ⟨_,_,_,_,rfl,rfl,rfl⟩
  | _=>cases e
 | _=>cases b<;>cases e
theorem rg {K:a0a}:Loc K 2 .isnB h fun xs H Q=>∀ x y,xs=[x,y]->∃ a b,x=.bl a/\y=.bl b/\Q (.bl (!(a==b))) H:=by
 intro ws w xs Z H G Q hn e r ow za k x y hx
 subst hx
 obtain ⟨u,v,rfl⟩:=dw r.length.symm
 obtain ⟨G1,G2,w1,w2,d,r1,r2⟩:=bV r
 obtain ⟨m,n,a,b,rfl,rfl,rfl⟩:=iU e
 exact ⟨a,b,r1,r2,bG k⟩
theorem xE (ha:SE X sf C ea a)(hb:SE X sf C eb b):SB X sf C (.Compare ea [.IsNot] [eb] pos) (.op .isnB h [a,b]):=cf nS ha hb (bN _) (aM rg) fun u v w e=>by obtain ⟨_,_,_,_,_,_,rfl⟩:=iU e; exact ⟨_,rfl⟩
theorem Cs (j l:Nat){t u:Nat}{x y:Str}{px py pt:Pos}{kt:Nat}{xx:M.X}(hN:X.N.Nodup)(ha:SE X sf C ea a)(hne:t≠u:=by decide)(hi:t ∉ io:=by decide)(hi':u ∉ io:=by decide)(hs:sf t=some j:=by rfl)(hs':sf u=some l:=by rfl)(hj:X.N[j]?=some x:=by rfl)(hl:X.N[l]?=some y:=by rfl)
  (hx:L2.Loc X.env.scope x:=by first | exact a0G rfl | exact a0E rfl) (hy:L2.Loc X.env.scope y:=by first | exact a0G rfl | exact a0E rfl) (hc:X.calm=true:=by rfl)
  (hf:X.fn x=true\/X.env.scope.names.lookup x=some .local:=by first | exact .inl rfl | exact .inr rfl) (hf':X.fn y=true\/X.env.scope.names.lookup y=some .local:=by first | exact .inl rfl | exact .inr rfl)
  (hsw:swapsWithSole [.Tuple [.Name x px,.Name y py] kt pt] ea pos.line X.env=pure false:=by rfl) (hw:swappedStores [.Tuple [.Name x px,.Name y py] kt pt] ea X.env=pure none:=by rfl) :
  SS X sf io C (.Assign [.Tuple [.Name x px,.Name y py] kt pt] ea pos) (.asgT xx [t,u] a) :=
 da (w9 ha (oV (n:=2) hc (dA (c7 (i:=j) hN hj hx hf) (dA (c7 (i:=l) hN hl hy hf') kO))) hsw hw) (ux hne hi hi' hs hs')
theorem vm {u w:M.W}(e:M.oSem .len false [u]=some w):∃ n:Nat,w=(.d,.int n):=by
 obtain ⟨m,a⟩:=u
 cases a<;>first | (cases e; exact ⟨_,rfl⟩) | (cases e; done)
theorem Aw (j:Nat){i:Nat}{x:Str}{p px:Pos}(hm:X.mg "len"=none)(hg:Gl X "len":=by rfl)(hs:sf i=some j:=by rfl)(hN:X.N[j]?=some x:=by rfl)(hv:Vis X.env.scope x:=by first | exact a0G rfl | exact a0E (a0G rfl) | exact a0E (a0E rfl))(hd:(x==("__debug__":Str))=false:=by decide)
  (hcd:(x==("__classdict__":Str))=false:=by decide) (hst:starEach [.Name x px] X.env=(false,eval (.Name x px) X.env)::starEach [] X.env:=by rfl) (hpl:(backTo pos (starEach [] X.env)).any (·.1)=false:=by rfl):SE X sf C (.Call (.Name "len" p) [.Name x px] [] pos) (.lenV i) :=
 ak (b5 ia hg hm a2s (cM (de hN hv hd hcd) fL hst) (by decide) (by decide) hst hpl) fun σ H Q hw=>by
  obtain ⟨pv,Z,Fs,η,w,η',A,ev,k⟩:=hw
  obtain ⟨w',e1,e2⟩:=ai (show M.ret η ((M.rd η i).bind fun w=>M.oSem .len false [w])=_ from ev)
  cases e2
  cases e0:M.rd η i with
  | none=>rw [e0] at e1; cases e1
  | some w0 =>
   rw [e0] at e1
   have e1':M.oSem .len false [w0]=some w:=e1
   obtain ⟨n,rfl⟩:=vm e1'
   obtain ⟨v,r,hv'⟩:=A.env i w0.1 w0.2 e0
   obtain ⟨x',n',hx,hl,hq⟩:=iS (K:=X.K) (h:=false) [w0] (.d,.int n) [v] Z H (Fs i) (fun v' _=>v'=.int n) rfl e1' (RepW.one r) (fun a ha=>A.gd.own a ⟨i,ha⟩) A.gd.zal (fun _ _ _ _ r _ _=>r)
   cases hx
   cases hq
   exact ⟨v,hv'.1 j hs,v,n,rfl,hl,k _ Z H Fs no A rfl ((Step.refl _ _ _).mono (fun _ z=>z) fun a ha=>ha.elim id fun z=>z.elim)⟩
end
end MR

namespace MR
open PySem PySem.Spec PyProof.Rows L2 L3
section
variable {X:Cx}{sf sg:Nat->Option Nat}{C:M.Call}{pos p2 p3:Pos}{ea eb ec:Expr}{a b c:M.E}{h:Bool}{n:Nat}{io:List Nat}
theorem sGc {x:Str}{i:Int}(hm:∃ t,X.mg x=some (.int i t))(hg:Gl X x:=by rfl)(hd:(x==("__debug__":Str))=false:=by decide):SE X sf C (.Name x pos) (.cst (.int i)):=by
 obtain ⟨t,hm⟩:=hm
 exact ak (kx (v:=.int i) hg hm ⟨t,rfl⟩ hd) (fq rfl)
noncomputable def v8 (K:a0a)(H:Hp):List Nat->V->V->Prop
 | [],v,u=>u=v
 | j::p,v,u=>∃ a xs x,v=.ref a/\(SqL K H a xs\/SqT K H a xs)/\xs[j]?=some x/\v8 K H p x u
noncomputable def wP (K:a0a)(sf:Nat->Option Nat)(i:Nat)(p:List Nat):TE:=fun σ H Q=>∃ j v u,sf i=some j/\σ[j]?=some (some v)/\v8 K H p v u/\Q u H
noncomputable abbrev SP (X:Cx)(sf:Nat->Option Nat)(me:Expr)(i:Nat)(p:List Nat):Prop:=PE X me (wP X.K sf i p)
noncomputable def Bl (Fs:Fps)(i:Nat)(G:Fp):Fps:=fun l a=>(l=i/\G a)\/(l≠i/\Fs l a)
noncomputable def CstR (K:a0a)(t:M.T)(v:V):Prop:=∀ (Z:Fp) (H:Hp),Rep K Z H .s t v no
theorem cst_int {K:a0a}(i:Int):CstR K (.int i) (.int i):=fun _ _=>rfl
theorem cst_non {K:a0a}:CstR K .non .non:=fun _ _=>rfl
theorem cst_bl {K:a0a}(b:Bool):CstR K (.bl b) (.bl b):=fun _ _=>rfl
theorem cst_str {K:a0a}{x:Str}(h:M.sOk x=true):CstR K (.str x) (.str x):=fun _ _=>⟨rfl,h⟩
noncomputable def j7 (K:a0a)(w:World)(mg:Str->Option Value)(x:Str)(tab:List (Str×M.T)):Prop :=
 ∃ a T,mg x=some (.ref a)/\DTab K w a T/\∀ z,match tab.lookup z with
  | some t=>∃ v,T.lookup z=some v/\CstR K t v
  | none=>T.lookup z=none
theorem zC {K:a0a}{w:World}{ad:Addr}{T:List (Str×V)}{tab:List (Str×M.T)}{e:M.E}(D:DTab K w ad T)(ht:∀ z,match tab.lookup z with
  | some t=>∃ v,T.lookup z=some v/\CstR K t v
  | none=>T.lookup z=none) (σ:L2.St) (H:Hp) (Q:VK) (h:wE K sf C (.ixT tab e) σ H Q):tOp (fun x y H Q=>∃ a z T v,x=.ref a/\y=.str z/\DTab K w a T/\T.lookup z=some v/\Q v H) (tC (.ref ad)) (wE K sf C e) σ H Q:=by
 obtain ⟨pv,Z,Fs,η,w',η',A,ev,k⟩:=h
 obtain ⟨⟨u,η1⟩,h1,h2⟩:=aa (show (M.evE C e η).bind (M.kTab tab M.okS)=_ from ev)
 obtain ⟨z,t,e1,e2,h3⟩:=eW h2
 cases h3
 refine ⟨pv,Z,Fs,η,u,η1,A,h1,fun y Z' H' Fs' G B r s=>?_⟩
 obtain ⟨m,t0⟩:=u
 cases (show t0=_ from e1)
 have q:=ht z
 rw [e2] at q
 obtain ⟨v,q1,q2⟩:=q
 exact ⟨ad,z,T,v,rfl,r.1,D,q1,k v Z' H' Fs' no B.bare (q2 Z' H') (s.mono (fun _ z=>z) fun a ha=>ha.elim .inl fun z=>z.elim)⟩
theorem wM {x:Str}{tab:List (Str×M.T)}(T:j7 X.K X.w X.mg x tab)(ha:SE X sf C ea a)(hg:Gl X x:=by rfl)(hd:(x==("__debug__":Str))=false:=by decide)(hs:eF ea:=by intro _ _; rfl):SE X sf C (.Subscript (.Name x p2) ea pos) (.ixT tab a):=by
 obtain ⟨ad,T',hm,D,ht⟩:=T
 exact ak (v9 xj (gr hg hm hd) ha hs) (zC D ht)
noncomputable def mz (K:a0a)(w:World)(mg:Str->Option Value)(x:Str)(ks:List Str):Prop:=∃ a T,mg x=some (.ref a)/\DTab K w a T/\∀ z,(T.lookup z).isSome=ks.contains z
theorem oU {K:a0a}{w:World}{ad:Addr}{T:List (Str×V)}{ks:List Str}{e:M.E}{neg:Bool}(D:DTab K w ad T)(ht:∀ z,(T.lookup z).isSome=ks.contains z)(σ:L2.St)(H:Hp)(Q:VK)(h:wE K sf C (.inT neg ks e) σ H Q) :
  wE K sf C e σ H fun x H1=>∃ z a T',x=.str z/\V.ref ad=.ref a/\DTab K w a T'/\Q (.bl ((T'.lookup z).isSome != neg)) H1:=by
 obtain ⟨pv,Z,Fs,η,w',η',A,ev,k⟩:=h
 obtain ⟨⟨u,η1⟩,h1,h2⟩:=aa (show (M.evE C e η).bind (M.kIn neg ks)=_ from ev)
 obtain ⟨z,e1,e2,e3⟩:=gJ h2
 cases e2
 refine ⟨pv,Z,Fs,η,u,_,A,h1,fun y Z' H' Fs' G B r s=>?_⟩
 obtain ⟨m,t0⟩:=u
 cases (show t0=_ from e1)
 refine ⟨z,ad,T,r.1,rfl,D,?_⟩
 rw [ht z]
 refine k _ Z' H' Fs' no B.bare ?_ (s.mono (fun _ z=>z) fun a ha=>ha.elim .inl fun z=>z.elim)
 rw [show w'=_ from e3]; rfl
end
end MR

namespace MR
open PySem PySem.Spec PyProof.Rows L2 L3
section
variable {X:Cx}{sf:Nat->Option Nat}{C:M.Call}{me:Expr}{f:Nat}{bs:List M.E}
theorem AE (h:∀ ws,C f ws=.no):SE X sf C me (.call f bs):=fun pins s σ H Q I ⟨pv,Z,Fs,η,w,η',A,ev,k⟩=>by
 obtain ⟨⟨ws,η1⟩,h1,h2⟩:=aa (show (M.evA C bs η).bind (M.kCall C f (M.ios bs))=_ from ev)
 rw [show M.kCall C f (M.ios bs) (ws,η1)=(C f ws).bind (M.kBack (M.ios bs) η1) from rfl,h] at h2
 cases h2
end
theorem fsc {N P:List Str}{sc:Scope}(h1:sc.kind=.function:=by rfl)(h2:sc.isCoroutine=false:=by rfl)(h3:sc.isGenerator=false:=by rfl)(h4:N.Nodup:=by decide +kernel)(h5:N.take P.length=P:=by rfl)(h6:∀ x∈P,sc.names.lookup x=some .local\/sc.names.lookup x=some .cell:=by decide +kernel)(h7:∀ y∈sc.names,y.2≠.free:=by decide +kernel):ag N P sc:=⟨h1,h2,h3,h4,h5,h6,h7⟩
theorem csc {pre ys:List Str}{scope:Scope}(h1:scope.kind=.function:=by rfl)(h2:∀ y∈scope.names,y.2≠.cell:=by decide +kernel)(h3:∀ y∈scope.names,y.2=.local->scope.names.lookup y.1=some .local:=by decide +kernel)(h4:∀ x∈pre,scope.names.lookup x=some .local:=by decide +kernel)(h5:(pre++ys).Nodup:=by decide +kernel):aH pre ys scope:=⟨h1,h2,h3,h4,h5⟩
section
variable {P:Program}{w:World}{K:a0a}{mg:Str->Option Value}{base:Heap}{x:Str}{st:Stmt}{ps N:List Str}{n g:Nat}{io:List Nat}{C C':M.Call}{d:Value}{t:M.T}
structure Df (K:a0a)(mg:Str->Option Value)(x:Str)(st:Stmt)(ps:List Str):Prop where
 ex:∃ f fd,Fun K x x st f fd/\Binds K fd ps []/\mg x=some (.ref f)
theorem Df.ok (e:Df K mg x st ps)(h:∀ f fd,Fun K x x st f fd->dG P w K mg base CX0 n f fd ps (spS K C g io)):ae P w K mg base n C x g io:=by
 obtain ⟨f,fd,F,b,m⟩:=e.ex
 exact ⟨f,fd,ps,h f fd F,m,F.kp,b⟩
theorem Df.z (e:Df K mg x st ps)(hC:∀ ws,C g ws=.no:=by intro _; rfl):ae P w K mg base n C x g io:=e.ok fun _ _ _=>fn0 hC
theorem Df.s (fn:M.Fn)(e:Df K mg x st ps)(S:ag N ps (defScope st))
  (hb:∀ {f:Addr} {cdv:Value} {A:Around} {outer:List Env} {s:Shared} {H:Hp} {E:XK},Room n (A.deeper (envOfC x (defScope st) s.heap.objs.size f cdv))->SSs (gL CX0 P w K mg base N x (defScope st) f cdv A outer s H E).nox (slN N.length) fn.io C (defBody st) fn.body)
  (hC:∀ ws,C' g ws=M.runF C fn ws:=by intro _; rfl) (hps:fn.ps=ps.length:=by rfl) (hle:ps.length<=N.length:=by decide) (nd:fn.io.Nodup:=by decide) (hio:∀ i∈fn.io,i < ps.length:=by decide):ae P w K mg base (n+1) C' x g fn.io :=
 e.ok fun _ _ F=>Fun.okM F S hps hle nd hio (fun _ _ _ _ _ _ h=>hb h) hC
noncomputable def Raw (K:a0a)(x:Str)(st:Stmt)(dV:Value):Prop:=∃ f oc od sl kV dc pm an cd ct,a1d K mainGlobals x=some (some (.ref f))/\K.lookup f=some ⟨oc,od,.func (a1j x x (defArgs st) (defBody st) (defScope st) dV kV dc pm an cd ct),sl⟩/\a12 K cd x=true/\a1P K (.ref f)=true
theorem aX {h:Heap}(X:K.In h)(G:h.Ns mainGlobals mg)(r:Raw K x st .none)(hb:∀ (kV doc pm:Value) (an:Option Addr) (cdv ct:Value) (us:List Value),us.length=ps.length->bindArgs (a1j x x (defArgs st) (defBody st) (defScope st) .none kV doc pm an cdv ct) ⟨us,[]⟩=pure (ps.zip us)):Df K mg x st ps:=by
 obtain ⟨f,oc,od,sl,kV,dc,pm,an,cd,ct,h1,h2,h3,h4⟩:=r
 have F:=oJ (st:=st) h2 h3 h4
 exact ⟨f,_,F,F.binds hb,a1e X G h1⟩
noncomputable def xp (K:a0a):List Str->Prop
 | []=>True
 | x::r=>a1d K mainGlobals x=some none/\xp K r
theorem yx {h:Heap}(X:K.In h)(G:h.Ns mainGlobals mg)(r:xp K ["isinstance","int","tuple","list","bool","sum","len","all","zip","range","enumerate","any","max","min","sorted","str","repr","abs","dict","set","reversed"]):Txt mg:=by
 obtain ⟨z1,z2,z3,z4,z5,z6,z7,z8,z9,z10,z11,z12,z13,z14,z15,z16,z17,z18,z19,z20,z21,_⟩:=r
 have m:=fun {x:Str} (z:a1d K mainGlobals x=some none)=>PySem.W.mg_none_of X G z
 exact ⟨m z1,m z2,m z3,m z4,m z5,m z6,m z7,m z8,m z9,m z10,m z11,m z12,m z13,m z14,m z15,m z16,m z17,m z18,m z19,m z20,m z21⟩
noncomputable def TabRaw (K:a0a)(w:World)(x:Str)(T:List (Str×V)):Prop:=∃ a es n,a1d K mainGlobals x=some (some (.ref a))/\K.lookup a=some ⟨.type "dict",none,.dict es n,#[]⟩/\a2Q w.params es.toList/\Paired (fun (p:Str×V) (e:DictEntry)=>(∃ t,e.key=.str p.1 t)/\RelV p.2 e.val) T es.toList/\(a==sysModules)=false
theorem TabRaw.tab {h:Heap}{T:List (Str×V)}(X:K.In h)(G:h.Ns mainGlobals mg)(r:TabRaw K w x T):∃ a,mg x=some (.ref a)/\DTab K w a T:=by
 obtain ⟨a,es,n,h1,h2,h3,h4,h5⟩:=r
 exact ⟨a,a1e X G h1,⟨es,n,h2,h3,h4⟩,h5⟩
theorem fR (z:Str):∀ T:List (Str×V),(T.lookup z).isSome=(T.map a19).contains z
 | []=>rfl
 | (k,v)::T=>by
  rw [a1b,a0m,a2z]
  cases z==k with
  | true=>rfl
  | false=>rw [fR z T]; rfl
theorem gZ {h:Heap}{T:List (Str×V)}{ks:List Str}(X:K.In h)(G:h.Ns mainGlobals mg)(r:TabRaw K w x T)(hk:T.map a19=ks):mz K w mg x ks:=by
 obtain ⟨a,h1,h2⟩:=r.tab X G
 exact ⟨a,T,h1,h2,fun z=>by rw [fR,hk]⟩
noncomputable def CstL (K:a0a):List (Str×M.T)->List (Str×V)->Prop
 | [],[]=>True
 | e::r,p::T=>(p.1=e.1/\CstR K e.2 p.2)/\CstL K r T
 | _,_=>False
theorem fS (z:Str):∀ {tab:List (Str×M.T)} {T:List (Str×V)},CstL K tab T->match tab.lookup z with
  | some t=>∃ v,T.lookup z=some v/\CstR K t v
  | none=>T.lookup z=none
 | [],[],_=>rfl
 | (k,t)::r,(k',v)::T,⟨⟨e,c⟩,q⟩=>by
  have e':k'=k:=e
  subst e'
  have ih:=fS z q
  rw [a1b,a1b]
  cases z==k' with
  | true=>exact ⟨v,rfl,c⟩
  | false=>exact ih
 | [],_::_,h=>h.elim
 | _::_,[],h=>h.elim
theorem eE {h:Heap}{T:List (Str×V)}{tab:List (Str×M.T)}(X:K.In h)(G:h.Ns mainGlobals mg)(r:TabRaw K w x T)(hc:CstL K tab T):j7 K w mg x tab:=by
 obtain ⟨a,h1,h2⟩:=r.tab X G
 exact ⟨a,T,h1,h2,fun z=>fS z hc⟩
end
end MR

namespace MR
open PySem PySem.Spec PyProof.Rows L2 L3
section
variable {X:Cx}{sf sg:Nat->Option Nat}{C:M.Call}{pos p p2 p3:Pos}{ea eb ec:Expr}{a b c:M.E}{h:Bool}{n:Nat}{io:List Nat}{K:a0a}
theorem uq:Loc K 1 .int h fun xs H Q=>(∃ i,xs=[.int i]/\Q (.int i) H)\/∃ k,xs=[.bl k]/\Q (.int (if k then 1 else 0)) H:=by
 intro ws w xs Z H G Q hn e r ow za k
 match ws,hn with
 | [(m,a)],_ =>
  obtain ⟨x,rfl,r1⟩:=bq rfl r
  cases a with
  | int i=>cases e; exact .inl ⟨i,by rw [show x=_ from r1],aJ k⟩
  | bl b=>cases e; exact .inr ⟨b,by rw [show x=_ from r1],by cases b<;>exact aJ k⟩
  | _=>cases e
theorem tU (hm:X.mg "int"=none)(hg:Gl X "int":=by rfl)(ha:SE X sf C ea a)(hs:starEach [ea] X.env=(false,eval ea X.env)::starEach [] X.env:=by rfl)(hpl:(backTo pos (starEach [] X.env)).any (·.1)=false:=by rfl):SE X sf C (.Call (.Name "int" p) [ea] [] pos) (.op .int h [a]) :=
 ak (d0 lE hg hm a2m (slc ha sl0 hs) (by decide) (by decide) hs hpl) (dJ uq rfl)
theorem kz:∀ {ns:List Int} {m:Int},m∈ns->(∀ n∈ns,n<=m)->M.maxI ns=m
 | [n],m,h,_=>(a0t.mp h).symm
 | n::n'::ns,m,h,h2=>by
  show max n (M.maxI (n'::ns))=m
  rcases a0s.mp h with e | e
  ·subst e
   have key:∀ l:List Int,l≠[]->(∀ x∈l,x<=m)->M.maxI l<=m:=by
    intro l
    induction l with
    | nil=>intro z; exact absurd rfl z
    | cons y l ih =>
     intro _ z
     cases l with
     | nil=>exact z y a0f
     | cons y' l =>
      have:=ih (by simp) fun x hx=>z x (a0g _ hx)
      have:=z y a0f
      show max y (M.maxI (y'::l))<=m
      omega
   have:=key (n'::ns) (by simp) fun x hx=>h2 x (a0g _ hx)
   omega
  ·have:=kz e fun x hx=>h2 x (a0g _ hx)
   have:=h2 n a0f
   omega
theorem qV:Loc K 1 .max1 h fun xs H Q=>∃ (a:Addr) (ns:List Int),xs=[.ref a]/\SqL K H a (ns.map V.int)/\ns≠[]/\∀ M,M∈ns->(∀ n∈ns,n<=M)->Q (.int M) H:=by
 intro ws w xs Z H G Q hn e r ow za k
 match ws,hn with
 | [(m,a)],_ =>
  obtain ⟨x,rfl,r1⟩:=bq rfl r
  cases a with
  | lst ts =>
   obtain ⟨a,xs,hx,hs,hl,p⟩:=bj r1
   have e':((M.intsOf ts).bind fun ns=>if ns.isEmpty then none else some ((.d,.int (M.maxI ns)):M.W))=some w:=e
   cases e1:M.intsOf ts with
   | none=>rw [e1] at e'; cases e'
   | some ns =>
    rw [e1] at e'
    have e2:(if ns.isEmpty=true then none else some ((.d,.int (M.maxI ns)):M.W))=some w:=e'
    split at e2
    ·cases e2
    ·rename_i hne
     cases e2
     rw [i6 e1 p] at hs
     refine ⟨a,ns,by rw [hx],.inl (.inl hs),fun z=>hne (by rw [z]; rfl),fun m h1 h2=>?_⟩
     rw [<- kz h1 h2]; exact aJ k
  | _=>cases e
theorem vS (hc:X.calm=true:=by rfl)(hm:X.mg "max"=none)(hg:Gl X "max":=by rfl)(ha:SE X sf C ea a)(hs:starEach [ea] X.env=(false,eval ea X.env)::starEach [] X.env:=by rfl)(hpl:(backTo pos (starEach [] X.env)).any (·.1)=false:=by rfl):SE X sf C (.Call (.Name "max" p) [ea] [] pos) (.op .max1 h [a]) :=
 ak (b5 (mH hc) hg hm (by rfl) (slc ha sl0 hs) (by decide) (by decide) hs hpl) (dJ qV rfl)
theorem dz {Z:Fp}{H:Hp}{G:Fp}{m:M.Md}{t:M.T}{x:V}(hf:M.flatT t=true)(r:Rep K Z H m t x G):bP x=true/\∀ (u:M.T) (y:V) {m':M.Md} {G':Fp},M.flatT u=true->Rep K Z H m' u y G'->eqV y x=M.eqT u t:=by
 cases t with
 | non=>cases r; refine ⟨rfl,fun u y m' G' hu ru=>?_⟩; cases u<;>first | (cases ru; rfl) | (obtain ⟨e,_⟩:=ru; cases e; rfl) | cases hu
 | bl b=>cases r; refine ⟨rfl,fun u y m' G' hu ru=>?_⟩; cases u<;>first | (cases ru; rfl) | (cases ru; cases b<;>rfl) | (obtain ⟨e,_⟩:=ru; cases e; rfl) | cases hu
 | int i=>cases r; refine ⟨rfl,fun u y m' G' hu ru=>?_⟩; cases u with
  | bl c=>cases ru; cases c<;>rfl
  | _=>first | (cases ru; rfl) | (obtain ⟨e,_⟩:=ru; cases e; rfl) | cases hu
 | str z=>obtain ⟨e,_⟩:=r; cases e; refine ⟨rfl,fun u y m' G' hu ru=>?_⟩; cases u<;>first | (cases ru; rfl) | (obtain ⟨e,_⟩:=ru; cases e; rfl) | cases hu
 | _=>cases hf
theorem j2 {Z:Fp}{H:Hp}{G:Fp}{m:M.Md}{t:M.T}{x:V}(hf:M.flatT t=true)(r:Rep K Z H m t x G):∀ {ts:List M.T} {xs:List V} {m':M.Md} {G':Fp},ts.all M.flatT=true->RepL K Z H m' ts xs G'->xs.all bP=true/\L2.inV x xs=ts.any fun u=>M.eqT u t
 | [],_,_,_,_,h=>by cases h; exact ⟨rfl,rfl⟩
 | u::ts,_,m',_,hl,⟨y,ys,G1,G2,e,_,_,_,q,qs⟩=>by
  cases e
  rw [a1s,a0j] at hl
  obtain ⟨h1,h2⟩:=j2 hf r hl.2 qs
  refine ⟨by rw [a1s,(dz hl.1 q).1,h1]; rfl,?_⟩
  show (eqV y x || L2.inV x ys)=_
  rw [a17,h2,(dz hf r).2 u y hl.1 q]
theorem nJ {neg:Bool}{u v w:M.W}{o:M.Op}(ho:o=if neg then .notin else .isin)(e:M.oSem o h [u,v]=some w):∃ ts,M.elems v=some ts/\M.flatT u.2=true/\ts.all M.flatT=true/\w=(.d,.bl (if neg then !ts.any (fun t=>M.eqT t u.2) else ts.any fun t=>M.eqT t u.2)):=by
 obtain ⟨m,a⟩:=u; obtain ⟨n,b⟩:=v
 subst ho
 cases neg with
 | true =>
  obtain ⟨ts,h1,h2⟩:=a2a.mp (show (M.elems (n,b)).bind (fun ts=>if (M.flatT a&&ts.all M.flatT)=true then some ((.d,.bl (!ts.any fun t=>M.eqT t a)):M.W) else none)=some w from e)
  split at h2
  ·rename_i hh; rw [a0j] at hh; cases h2; exact ⟨ts,h1,hh.1,hh.2,rfl⟩
  ·cases h2
 | false =>
  obtain ⟨ts,h1,h2⟩:=a2a.mp (show (M.elems (n,b)).bind (fun ts=>if (M.flatT a&&ts.all M.flatT)=true then some ((.d,.bl (ts.any fun t=>M.eqT t a)):M.W) else none)=some w from e)
  split at h2
  ·rename_i hh; rw [a0j] at hh; cases h2; exact ⟨ts,h1,hh.1,hh.2,rfl⟩
  ·cases h2
theorem oH (neg:Bool){o:M.Op}(ho:o=if neg then .notin else .isin):Loc K 2 o h fun xs H Q=>∀ x y,xs=[x,y]->rIn K neg x y H Q:=by
 intro ws w xs Z H G Q hn e r ow za k x y hx
 subst hx
 obtain ⟨⟨m,a⟩,⟨n,b⟩,rfl⟩:=dw r.length.symm
 obtain ⟨G1,G2,w1,w2,d,r1,r2⟩:=bV r
 obtain ⟨ts,e1,e2,e3,rfl⟩:=nJ ho e
 cases b with
 | lst us =>
  cases e1
  obtain ⟨p,xs,rfl,hs,hl,q⟩:=bj r2
  obtain ⟨f1,f2⟩:=j2 e2 r1 e3 q
  refine ⟨p,xs,rfl,.inl (.inl (.inl hs)),(dz e2 r1).1,f1,?_⟩
  rw [f2]
  exact bG k
 | tup us =>
  cases e1
  obtain ⟨p,xs,rfl,hs,hl,q⟩:=bH r2
  obtain ⟨f1,f2⟩:=j2 e2 r1 e3 q
  refine ⟨p,xs,rfl,.inr hs,(dz e2 r1).1,f1,?_⟩
  rw [f2]
  exact bG k
 | _=>cases e1
theorem qi (ha:SE X sf C ea a)(hb:SE X sf C eb b)(hm:behindInMarks .In eb=false:=by rfl):SE X sf C (.Compare ea [.In] [eb] pos) (.op .isin h [a,b]):=ak (dB gj ha hb hm) (aM (oH false rfl))
theorem dY (ha:SE X sf C ea a)(hb:SE X sf C eb b)(hm:behindInMarks .In eb=false:=by rfl):SB X sf C (.Compare ea [.In] [eb] pos) (.op .isin h [a,b]):=cf gj ha hb hm (aM (oH false rfl)) fun u v w e=>by obtain ⟨_,_,_,_,rfl⟩:=nJ (neg:=false) rfl e; exact ⟨_,rfl⟩
end
end MR
namespace MR
open PySem PySem.Spec PyProof.Rows L2 L3
end MR
namespace MR
open PySem PySem.Spec PyProof.Rows L2 L3
end MR
namespace MR
open PySem PySem.Spec PyProof.Rows L2 L3
end MR
namespace MR
open PySem PySem.Spec PyProof.Rows L2 L3
section
variable {X:Cx}{sf sg:Nat->Option Nat}{C:M.Call}{pos p p2 p3:Pos}{ea eb ec:Expr}{a b c:M.E}{h:Bool}{io:List Nat}{K:a0a}
theorem oC {neg:Bool}{ks:List Str}{σ:L2.St}{H:Hp}{Q:Bool->Hp->Prop}(hw:wT K sf C (.inT neg ks a) σ H Q):wE K sf C (.inT neg ks a) σ H fun x H'=>∃ k,x=.bl k/\Q k H':=by
 obtain ⟨pv,Z,Fs,η,w,η',b,A,ev,ht,k⟩:=hw
 refine ⟨pv,Z,Fs,η,w,η',A,ev,fun v Z' H' Fs' G B r s=>?_⟩
 obtain ⟨⟨u,η1⟩,h1,h2⟩:=aa (show (M.evE C a η).bind (M.kIn neg ks)=_ from ev)
 obtain ⟨z,e1,e2,e3⟩:=gJ h2
 rw [show w=_ from e3] at ht r
 cases ht
 exact ⟨_,r,k Z' H' Fs' B.bare (s.mono (fun _ z=>z) fun _ z=>.inl z)⟩
theorem BE {x:Str}{ks:List Str}(T:mz X.K X.w X.mg x ks)(ha:SE X sf C ea a)(hg:Gl X x:=by rfl)(hd:(x==("__debug__":Str))=false:=by decide)(hb:behindInMarks .In (.Name x p2)=false:=by rfl):SB X sf C (.Compare ea [.In] [.Name x p2] pos) (.inT false ks a):=by
 obtain ⟨ad,T',hm,D,ht⟩:=T
 refine fX (gA og ha (gr hg hm hd) hb) fun σ H Q hw=>?_
 obtain ⟨pv,Z,Fs,η,w',η',A,ev,k⟩:=oU D ht σ H _ (oC hw)
 refine ⟨pv,Z,Fs,η,w',η',A,ev,fun v Z' H' Fs' G B r s=>?_⟩
 obtain ⟨z,a,T2,e1,e2,e3,q⟩:=k v Z' H' Fs' G B r s
 rw [a1v] at q
 exact ⟨z,a,T2,e1,e2,e3,q⟩
theorem lh {x:Str}{ks:List Str}(T:mz X.K X.w X.mg x ks)(ha:SE X sf C ea a)(hg:Gl X x:=by rfl)(hd:(x==("__debug__":Str))=false:=by decide)(hb:behindInMarks .NotIn (.Name x p2)=false:=by rfl):SB X sf C (.Compare ea [.NotIn] [.Name x p2] pos) (.inT true ks a):=by
 obtain ⟨ad,T',hm,D,ht⟩:=T
 refine fX (gA iw ha (gr hg hm hd) hb) fun σ H Q hw=>?_
 obtain ⟨pv,Z,Fs,η,w',η',A,ev,k⟩:=oU D ht σ H _ (oC hw)
 refine ⟨pv,Z,Fs,η,w',η',A,ev,fun v Z' H' Fs' G B r s=>?_⟩
 obtain ⟨z,a,T2,e1,e2,e3,q⟩:=k v Z' H' Fs' G B r s
 rw [Bool.bne_true] at q
 exact ⟨z,a,T2,e1,e2,e3,q⟩
end
end MR

namespace MR
open PySem PySem.W L2 M
noncomputable def CstRs (K:a0a)(ts:List M.T)(xs:List V):Prop:=∀ (Z:Fp) (H:Hp),RepL K Z H .s ts xs no
theorem cst_nil {K:a0a}:CstRs K [] []:=fun _ _=>rfl
theorem cst_cons {K:a0a}{t:M.T}{ts:List M.T}{x:V}{xs:List V}(h:CstR K t x)(r:CstRs K ts xs):CstRs K (t::ts) (x::xs):=fun Z H=>⟨x,xs,no,no,rfl,fun _ h=>h,fun _ h=>h,fun _ h=>h.elim,h Z H,r Z H⟩
theorem cst_tup {K:a0a}{ts:List M.T}{xs:List V}{a:Addr}{o:Obj}{its:Array Value}{n:Nat}(h:K.lookup a=some o)(hc:o.cls=.type "tuple")(hd:o.data=.seq its n)(hs:its.size<=sizeLine)(hv:Vals xs its.toList)(hl:xs.length<=LIM)(r:CstRs K ts xs):CstR K (.tup ts) (.ref a):=fun Z H=>⟨a,xs,rfl,.inr ⟨o,its,n,h,hc,hd,hs,hv⟩,hl,r Z H⟩
end MR

namespace MR
open PySem PySem.Spec PyProof.Rows L2 L3 M
end MR

namespace L3
open PySem PySem.Spec PyProof.Rows L2
end L3
namespace MR
open PySem PySem.Spec PyProof.Rows L2 L3
end MR

namespace L3
open PySem PySem.Spec PyProof.Rows L2
end L3
namespace MR
open PySem PySem.Spec PyProof.Rows L2 L3
end MR

namespace L3
open PySem PySem.Spec PySem.NumText PyProof.Rows L2
end L3
namespace MR
open PySem PySem.Spec PyProof.Rows L2 L3
section
variable {X:Cx}{sf sg:Nat->Option Nat}{C:M.Call}{pos p p2 p3:Pos}{ea eb ec:Expr}{a b c:M.E}{h:Bool}{n:Nat}{io:List Nat}{K:a0a}
theorem i9 {Z:Fp}{H:Hp}{G:Fp}{m:M.Md}:∀ {ts:List M.T} {ss:List Str} {xs:List V},M.strsOf ts=some ss->RepL K Z H m ts xs G->xs=ss.map V.str:=by
 intro ts
 induction ts generalizing G with
 | nil=>intro ns xs e r; cases e; exact r
 | cons t ts ih =>
  intro ns xs e r
  obtain ⟨x,r',G1,G2,rfl,_,_,_,p,q⟩:=r
  cases t with
  | str i =>
   cases e1:M.strsOf ts with
   | none=>simp [M.strsOf,e1] at e
   | some ms =>
    have:ns=i::ms:=by simpa [M.strsOf,e1] using e.symm
    subst this
    rw [a0m,<- ih e1 q,show x=.str i from p.1]
  | _=>cases e
end
end MR

namespace L3
open PySem PySem.Spec PyProof.Rows L2
end L3
namespace MR
open PySem PySem.Spec PyProof.Rows L2 L3
section
variable {X:Cx}{sf sg:Nat->Option Nat}{C:M.Call}{pos p p2 p3:Pos}{ea eb ec:Expr}{a b c:M.E}{h:Bool}{n:Nat}{io:List Nat}{K:a0a}
theorem rQ {x:Str}(hx:M.sOk x=true){l:List Nat}(hl:∀ c∈l,c∈x.cps.toList)(hs:l.length<=M.LIM):M.sOk ⟨l.toArray⟩=true:=by
 unfold M.sOk at hx ⊢
 rw [a0j] at hx ⊢
 refine ⟨?_,decide_eq_true (by rw [a0k]; exact hs)⟩
 rw [a1F] at hx ⊢
 intro c hc
 exact hx.1 c (by have:=hl c (by simpa using hc); simpa using this)
end
theorem slx {X:Cx}{sf:Nat->Option Nat}{C:M.Call}{ea:Expr}{a:M.E}{es:List Expr}{bs:List M.E}(ha:SE X sf C ea a)(hb:SL X sf C es bs)(hs:starEach (ea::es) X.env=(false,eval ea X.env)::starEach es X.env):SL X sf C (ea::es) (a::bs):=slc ha hb hs
theorem sTx {X:Cx}{sf:Nat->Option Nat}{C:M.Call}{pos:Pos}{es:List Expr}{bs:List M.E}{x1:Nat}(hn:bs.length<=M.LIM)(h:SL X sf C es bs):SE X sf C (.Tuple es x1 pos) (.tup bs):=sT h hn
theorem sLx {X:Cx}{sf:Nat->Option Nat}{C:M.Call}{pos:Pos}{h:Bool}{es:List Expr}{bs:List M.E}(hn:bs.length<=M.LIM)(hh:SL X sf C es bs):SE X sf C (.List es pos) (.lst h bs):=sLs hh hn
theorem aN {X:Cx}{sf:Nat->Option Nat}{C:M.Call}{pos:Pos}{h:Bool}{ea eb:Expr}{a b:M.E}(ha:SE X sf C ea a)(hb:SE X sf C eb b)(hs:eF eb):SE X sf C (.Subscript ea eb pos) (.op .ix h [a,b]):=sIx ha hb hs
theorem av {X:Cx}{sf:Nat->Option Nat}{C:M.Call}{ea:Expr}{a:M.E}{es:List Expr}{bs:List M.E}(ha:SE X sf C ea a)(hb:SA X sf C es bs)(he:∀ i,a≠.io i)(hs:starEach (ea::es) X.env=(false,eval ea X.env)::starEach es X.env):SA X sf C (ea::es) (a::bs):=sac ha hb he hs
end MR

namespace MR
open PySem PySem.Spec PyProof.Rows L2 L3
theorem walkX {sx:Str}{C:M.Call}{ix k:Nat}{l:a2k}{q:Program}{loose:List Str}{XP:(Str->Option Value)->Heap->Prop}{YP:World->Heap->Prop}{d:DefRec}{K:Params->a0a}(hp:∀ ns:List Int,ns.length<=63->∃ m bs,C ix [(.d,.scr ns)]=.ok ((m,.bl true),bs))(hn:l.most=some 63)(hdf:d.params.defaults=[])(hr:Room k callerA)
  (hY:∀ (w:World) (h:Heap),YP w h->(K w.params).In h)
  (F:∀ (w:World) (mg:Str->Option Value) (fa:Addr) (h:Heap),(K w.params).In h->h.Ns mainGlobals mg->mg d.name=some (.ref fa) ->
   ∃ fd:FuncData,(∀ (s:Shared) (u:Value),BindsTo s fd ⟨[u],[]⟩ [(sx,u)])/\∀ base:Heap,(K w.params).In base->base.Ns mainGlobals mg->dG l.prog w (K w.params) mg base CX0 k fa fd [sx] (spS (K w.params) C ix [])) :
  a2Y q loose XP YP l.row.toRowW d [] (fun f vs=>a2W f vs) :=
 L2.walk_of (n:=63) (k:=k) (x:=sx) (CX:=fun _=>CX0) (sp:=fun w=>spS (K w.params) C ix []) hn (by decide) hdf hr hY F (fun _ _ a ns hl hO hS=>yH (hp ns hl) hl hO hS) fun _ _ _ _ _ z=>z
theorem tf {sx:Str}{w:World}{K:a0a}{mg:Str->Option Value}{st:Stmt}{h:Heap}{fa:Addr}{pr:Program}{k:Nat}{sp:Sp}(X:K.In h)(G:h.Ns mainGlobals mg)(hfa:mg "law"=some (.ref fa))(r:Raw K "law" st .none)(hb:∀ (kV dc pm:Value) (an:Option Addr) (cd ct:Value) (s:Shared) (v:Value),BindsTo s (a1j "law" "law" (defArgs st) (defBody st) (defScope st) .none kV dc pm an cd ct) ⟨[v],[]⟩ [(sx,v)])
  (ok:∀ f fd,Fun K "law" "law" st f fd->∀ base,dG pr w K mg base CX0 k f fd [sx] sp):∃ fd:FuncData,(∀ (s:Shared) (v:Value),BindsTo s fd ⟨[v],[]⟩ [(sx,v)])/\∀ base:Heap,K.In base->base.Ns mainGlobals mg->dG pr w K mg base CX0 k fa fd [sx] sp:=by
 obtain ⟨f,oc,od,sl,kV,dc,pm,an,cd,ct,h1,h2,h3,h4⟩:=r
 have e:=hfa.symm.trans (a1e X G h1)
 cases e
 exact ⟨_,hb kV dc pm an cd ct,fun base _ _=>ok _ _ (oJ (st:=st) h2 h3 h4) base⟩
end MR

namespace L3
open PySem PySem.Spec PyProof.Rows L2
noncomputable def Its (x:Str):It:=⟨fun i _=>i < x.cps.size,fun i H v H'=>H'=H/\∃ c,x.cps.toList[i]?=some c/\v=.str ⟨#[c]⟩,fun i _=>x.cps.size<=i⟩
theorem rE {P:Program}{w:World}{K:a0a}{tg:Expr}(x:Str)(t:Tok)(it:Addr)(ty:String)(hty:ty="str_ascii_iterator"\/ty="str_iterator"):lS P w K tg (Its x) [it] it (fun i h=>h.IsStrIter it ty x t i) where
 mem:=by simp
 obj:=fun i h st b hb=>by
  have e:b=it:=by simpa using hb
  subst e
  obtain ⟨o,e,c,d⟩:=st
  exact ⟨o,e,fun v z=>by rw [d] at z; cases z⟩
 keep:=fun i h h' st k=>by
  obtain ⟨o,e,c,d⟩:=st
  exact ⟨o,k it (by simp) o e,c,d⟩
 item:=by
  intro X hP hw hK hc i pins s σ H E I hf st hg
  subst hP hw hK
  obtain ⟨f0,f1,f2,f3,f4,f5⟩:=hf it (by simp)
  have hg':i < x.cps.size:=hg
  have hx:x.cps[i]?=some x.cps[i]:=a1w hg'
  have hx2:x.cps.toList[i]?=some x.cps[i]:=by simpa using hx
  rcases hty with rfl | rfl
  ·refine wpAny_pyNext_ascii_item st hx fun h' st' sb=>?_
   have I1:Inv X pins σ H { s with heap:=h',toks:=s.toks+1 }:=I.turned (t':=s.toks+1) (fun b o hb e=>(sb.2 b hb).trans e) f0 f1 f3 f4 f5
   obtain ⟨o,e,c,d⟩:=id st'
   exact ⟨_,rfl,iu (s:={ s with heap:=h',toks:=s.toks+1 }) e c d (by decide) ⟨.str ⟨#[x.cps[i]]⟩,H,I1,⟨_,rfl⟩,⟨rfl,_,hx2,rfl⟩,st',fun b hb=>(hf b hb).1⟩⟩
  ·refine wpAny_pyNext_wide_item st hx fun h' st' sb=>?_
   have I1:Inv X pins σ H { s with heap:=h',toks:=s.toks+1 }:=I.turned (t':=s.toks+1) (fun b o hb e=>(sb.2 b hb).trans e) f0 f1 f3 f4 f5
   obtain ⟨o,e,c,d⟩:=id st'
   exact ⟨_,rfl,iu (s:={ s with heap:=h',toks:=s.toks+1 }) e c d (by decide) ⟨.str ⟨#[x.cps[i]]⟩,H,I1,⟨_,rfl⟩,⟨rfl,_,hx2,rfl⟩,st',fun b hb=>(hf b hb).1⟩⟩
 done:=by
  intro X hP hw hK hc i pins s σ H E I hf st hg
  subst hP hw hK
  obtain ⟨f0,f1,f2,f3,f4,f5⟩:=hf it (by simp)
  have hg':x.cps.size<=i:=hg
  have hx:x.cps[i]?=none:=a1q hg'
  rcases hty with rfl | rfl
  ·exact wpAny_pyNext_ascii_end (I.ok.hd hc) st hx fun h' eb=>⟨rfl,I.turned (t':=s.toks) (fun b o hb e=>eb b o hb e) f0 f1 f3 f4 f5⟩
  ·exact wpAny_pyNext_wide_end (I.ok.hd hc) st hx fun h' eb=>⟨rfl,I.turned (t':=s.toks) (fun b o hb e=>eb b o hb e) f0 f1 f3 f4 f5⟩
 self:=by
  intro A i s Q E st h
  rcases hty with rfl | rfl
  ·exact wpAny_pyIter_striter_ascii st h
  ·exact wpAny_pyIter_striter_wide st h
noncomputable def Cp (tl:TE):TI:=fun σ H R=>tl σ H fun v H1=>∃ x,v=.str x/\R (Its x) H1
theorem zg {X:Cx}{tg l:Expr}{tl:TE}(hl:PE X l tl):PI X tg l (Cp tl):=by
 intro pins s σ H R I h
 refine thn (hl pins s σ H _ I h) fun v s1 ⟨y,H1,I1,r1,x,e,q⟩=>?_
 subst e
 obtain ⟨t,rfl⟩:=r1
 have fin:∀ ty,ty="str_ascii_iterator"\/ty="str_iterator"->PIE X pins σ tg R (.ref s1.heap.objs.size) { s1 with heap:=s1.heap.push { cls:=.type ty,data:=.fields #[.str x t,.int 0 0] } }:=fun ty hty=>by
  refine ⟨s1.heap.objs.size,[s1.heap.objs.size],_,_,H1,rfl,I1.kept (t':=s1.toks) fun b o e=>Heap.get?_push_of_some _ e,rE x t _ ty hty,⟨_,Heap.get?_push_size _ rfl,rfl,rfl⟩,fun b hb=>?_,q⟩
  have e:b=s1.heap.objs.size:=by simpa using hb
  subst e
  exact I1.fpOk (a0r _) (I1.hok.fresh (a0r _))
 cases ha:x.cps.all (fun x=>decide (x < 128)) with
 | true=>exact wpAny_pyIter_ascii ha (fin _ (.inl rfl))
 | false=>exact wpAny_pyIter_wide ha (fin _ (.inr rfl))
noncomputable def rS0 (f:Str->Str->V):R2:=fun x y H Q=>∃ i j,x=.str i/\y=.str j/\Q (f i j) H
theorem oT {X:Cx}:OpR X (compareOp .LtE) (rS0 fun i j=>.bl (!decide (j.cps.toList < i.cps.toList))):=by
 intro pins s σ H x y v u Q I rx ry h
 obtain ⟨i,j,rfl,rfl,q⟩:=h
 obtain ⟨t,rfl⟩:=rx
 obtain ⟨t',rfl⟩:=ry
 exact PySem.P.le_str ⟨.bl _,H,I,rfl,q⟩
end L3
namespace MR
open PySem PySem.Spec PyProof.Rows L2 L3
section
variable {X:Cx}{sf sg:Nat->Option Nat}{C:M.Call}{pos p p2 p3:Pos}{ea eb ec:Expr}{a b c:M.E}{h:Bool}{n:Nat}{io:List Nat}{K:a0a}
theorem yT {Z:Fp}{H:Hp}{x:Str}(hx:M.sOk x=true):Wk K (Its x) Z H (x.cps.toList.map fun c=>[(.d,.str ⟨#[c]⟩)])/\mZ K (Its x) Z H (x.cps.toList.map fun c=>[(.d,.str ⟨#[c]⟩)]):=by
 have hsz:x.cps.size<=M.LIM:=by
  have:=hx
  unfold M.sOk at this
  rw [a0j] at this
  exact of_decide_eq_true this.2
 refine ⟨⟨fun H' i s hi=>?_,fun H' i s hi=>?_,by rw [a0b,a0I]; exact hsz⟩,fun H' i v H'' s hi y=>?_⟩
 ·rw [a0b,a0I] at hi; exact hi
 ·rw [a0b,a0I] at hi; exact hi
 ·obtain ⟨rfl,c,hc,rfl⟩:=y
  refine ⟨rfl,(.d,.str ⟨#[c]⟩),by rw [a0A,hc]; rfl,rfl,?_⟩
  exact rQ (l:=[c]) hx (fun d hd=>by rw [a0t.mp hd]; exact a1g hc) (by show 1<=16777215; decide)
theorem zq {e:M.E}(σ:L2.St)(H:Hp)(R:It->Hp->Prop)(h:wI K sf C 1 .chr [e] σ H R):Cp (wE K sf C e) σ H R:=by
 obtain ⟨pv,Z,Fs,η,ws,η',ts,A,ev,ht,k⟩:=h
 obtain ⟨⟨m,a⟩,η1,us,e1,e2,rfl⟩:=aE ev
 cases e2
 cases a with
 | str x =>
  cases ht
  refine ⟨pv,Z,Fs,η,_,_,A,e1,fun v Z' H' Fs' G B r s=>?_⟩
  obtain ⟨rfl,hx⟩:=(show v=.str x/\M.sOk x=true from r)
  obtain ⟨w1,w2⟩:=yT (K:=K) (Z:=fun a=>Z' a\/G a) (H:=H') hx
  exact ⟨x,rfl,k _ _ H' Fs' B.freeze (bc B.own s) w1 w2⟩
 | _=>cases ht
theorem Dl {tg:Expr}(ha:SE X sf C ea a):PI X tg ea (wI X.K sf C 1 .chr [a]):=ig (zg ha) zq
theorem mq {K:a0a}{o p:M.Op}{g g':Str->Str->Bool}(inv:∀ {u v w:M.W},M.oSem o false [u,v]=some w->∃ m n i j,u=(m,.str i)/\v=(n,.str j)/\w=(.d,.bl (g i j)))(inv':∀ {u v w:M.W},M.oSem p false [u,v]=some w->∃ m n i j,u=(m,.str i)/\v=(n,.str j)/\w=(.d,.bl (g' i j)))
  (σ:L2.St) (H:Hp) (Q:VK) (hw:wE K sf C (.chain o p a b c) σ H Q):g9 (rS0 fun i j=>.bl (g i j)) (rS0 fun i j=>.bl (g' i j)) (wE K sf C a) (wE K sf C b) (wE K sf C c) σ H Q:=by
 obtain ⟨pv,Z,Fs,η,w,η',A,ev,k⟩:=hw
 obtain ⟨⟨x,η1⟩,h1,h2⟩:=aa (show (M.evE C a η).bind (M.kC1 o p (M.evE C b) (M.evE C c))=_ from ev)
 obtain ⟨⟨y,η2⟩,h3,h4⟩:=aa (show (M.evE C b η1).bind (M.kC2 o p (M.evE C c) x)=_ from h2)
 obtain ⟨⟨kk,η3⟩,h5,h6⟩:=aa (show (M.ret η2 (M.oSem o false [x,y])).bind (fun k=>M.onB k.1.2 (M.then' (M.evE C c) (M.kC3 p y)) (M.okW (.d,.bl false)) k.2)=_ from h4)
 obtain ⟨k',e5,e5'⟩:=ai h5
 cases e5'
 obtain ⟨m1,m2,i,j,rfl,rfl,rfl⟩:=inv e5
 have dr:∀ {Z:Fp} {H:Hp} {F Z1:Fp} {H1:Hp} {Fs1:Fps} {G1:Fp},Step Z H F Z1 H1 (fun a=>tot Fs1 a\/G1 a)->Step Z H F Z1 H1 (tot Fs1):=fun s=>s.mono (fun _ z=>z) fun _ z=>.inl z
 refine dX A h1 fun vx Z1 H1 Fs1 G1 A1 r1 _ s1 _=>?_
 have A1':=A1.bare
 refine dX A1' h3 fun vy Z2 H2 Fs2 G2 A2 r2 _ s2 _=>⟨i,j,r1.1,r2.1,g i j,rfl,?_⟩
 have A2':=A2.bare
 have s12:=(dr s1).trans (dr s2)
 have h6':M.onB (.bl (g i j)) (M.then' (M.evE C c) (M.kC3 p (m2,.str j))) (M.okW (.d,.bl false)) η2=.ok (w,η'):=h6
 cases hg:g i j with
 | true =>
  rw [hg] at h6'
  rw [if_pos rfl]
  obtain ⟨⟨z,η4⟩,h7,h8⟩:=aa (show (M.evE C c η2).bind (M.kC3 p (m2,.str j))=_ from h6')
  obtain ⟨z',e8,e8'⟩:=ai (show M.ret η4 (M.oSem p false [(m2,.str j),z])=_ from h8)
  cases e8'
  obtain ⟨n1,n2,i',j',e9,rfl,rfl⟩:=inv' e8
  cases e9
  refine dX A2' h7 fun vz Z3 H3 Fs3 G3 A3 r3 _ s3 _=>⟨j,j',r2.1,r3.1,?_⟩
  exact k _ Z3 H3 Fs3 no A3.bare rfl ((s12.trans (dr s3)).mono (fun _ z=>z) fun _ z=>z.elim id fun q=>q.elim)
 | false =>
  rw [hg] at h6'
  rw [if_neg a0d]
  cases h6'
  exact k _ Z2 H2 Fs2 no A2' rfl (s12.mono (fun _ z=>z) fun _ z=>z.elim id fun q=>q.elim)
theorem kP {u v w:M.W}(e:M.oSem .leS false [u,v]=some w):∃ m n i j,u=(m,.str i)/\v=(n,.str j)/\w=(.d,.bl (!decide (j.cps.toList < i.cps.toList))):=by
 obtain ⟨m,a⟩:=u; obtain ⟨n,b⟩:=v
 cases a with
 | str i=>cases b with
  | str j=>cases e; exact ⟨m,n,i,j,rfl,rfl,rfl⟩
  | _=>cases e
 | _=>cases e
theorem lJ (ha:SE X sf C ea a)(hb:SE X sf C eb b)(hc:SE X sf C ec c)(hm:lastMarks [.LtE,.LtE] [eb,ec]=false:=by with_unfolding_all rfl):SE X sf C (.Compare ea [.LtE,.LtE] [eb,ec] pos) (.chain .leS .leS a b c) :=
 ak (iC oT oT ha hb hc hm) (mq kP kP)
end
end MR

namespace L3
open PySem PySem.Spec PyProof.Rows L2
noncomputable abbrev eT1 (h:Heap)(a:Addr):Heap:=h.push { cls:=.type "tuple_iterator",data:=.fields #[.ref a,.int 0 0] }
noncomputable abbrev eT2 (h:Heap)(a:Addr):Heap:=(eT1 h a).push { cls:=.type "enumerate",data:=.fields #[.none,.bool false,.ref h.objs.size,rawInt 0,.none,.none] }
theorem xy {α:Type}{c:Prop}[Decidable c]{M:Model}{A:Around}{E:Value->Shared->Prop}{s:Shared}{a b:Sem α}{Q:α->Shared->Prop}(h1:wpAny M A a Q E s)(h2:wpAny M A b Q E s):wpAny M A (if c then a else b) Q E s:=by
 by_cases hc:c
 ·rw [if_pos hc]; exact h1
 ·rw [if_neg hc]; exact h2
theorem ij (a:Addr)(xs:Array Value) :
  Meets (Builtin.«enumerate.__new__» ⟨[.type "enumerate",.ref a],[]⟩) (fun _ R s=>s.heap.IsTuple a xs/\R (.ok (.ret (.ref (eT1 s.heap a).objs.size))) { s with heap:=eT2 s.heap a }) :=
 .of_wp fun prog w A R s h=>by
  obtain ⟨hp,g,d,tk,os⟩:=s; obtain ⟨q1,h⟩:=h
  have hsub:=sub_enumerate
  have e1:Heap.IsTuple (Shared.heap ⟨hp,g,d,tk,os⟩) a xs:=q1
  wp_walk using wpAny_pyIter_tuple e1
  refine wpAny_stack fun st _ _ _=>wpAny_pure ?_
  show wpAny _ _ (if _=true then (pure (Value.ref a,(none:Option Value)) >>= _) else (pure (Value.ref a,(none:Option Value)) >>= _)) _ _ _
  refine xy ?_ ?_
  ·refine wpAny_bind (wpAny_pure ?_)
   show wpAny _ _ (pyIter (.ref a) >>= _) _ _ _
   wp_walk using wpAny_pyIter_tuple e1
   exact ⟨_,rfl,h⟩
  ·refine wpAny_bind (wpAny_pure ?_)
   show wpAny _ _ (pyIter (.ref a) >>= _) _ _ _
   wp_walk using wpAny_pyIter_tuple e1
   exact ⟨_,rfl,h⟩
theorem jH {prog:Program}{w:World}{A:Around}{E:Value->Shared->Prop}{s:Shared}{a:Addr}{xs:Array Value}{Q:Value->Shared->Prop}(q1:s.heap.IsTuple a xs)
  (h:∀ h',IsEnum h' (s.heap.objs.size+1) s.heap.objs.size 0 .none->h'.IsTupleIter s.heap.objs.size a 0->(∀ c o,s.heap.get? c=some o->h'.get? c=some o)->Q (.ref (s.heap.objs.size+1)) { s with heap:=h' }) :
  wpAny (model prog w) A (call (.type "enumerate") [.ref a]) Q E s:=by
 refine callType_new F.called_enumerate (by decide) (F.typeCall_enumerate_1 _) (F.newCall_enumerate_1 _) (fun obj=>F.args_object_init_2 obj _) F.entry_enumerate_new (ij a xs) ⟨q1,?_⟩
 have e1:(eT1 s.heap a).objs.size=s.heap.objs.size+1:=Heap.size_push ..
 have g2:(eT2 s.heap a).get? (eT1 s.heap a).objs.size=some _:=Heap.get?_push_size _ rfl
 have g1:(eT2 s.heap a).get? s.heap.objs.size=some _:=Heap.get?_push_of_some _ (Heap.get?_push_size _ rfl)
 show _/\_
 rw [e1] at g2
 rw [e1]
 exact ⟨⟨_,g2,rfl⟩,h _ g2 ⟨_,g1,rfl,rfl⟩ fun c o x=>Heap.get?_push_of_some _ (Heap.get?_push_of_some _ x)⟩
theorem mx {prog:Program}{w:World}{A:Around}(hh:A.handled=none)(it t:Addr)(hne:t≠it)(xs:Array Value):Draws prog w A it [it,t] xs.size (fun i v=>xs[i]?=some v) (fun i h=>h.IsTupleIter it t i/\h.IsTuple t xs) where
 live:=fun i h st=>let ⟨o,e,_⟩:=st.1; ⟨o,e⟩
 frame:=fun i h h' st k=>⟨st.1.at fun o e=>k it (by simp) o e,by obtain ⟨o,e,r⟩:=st.2; exact ⟨o,k t (by simp) o e,r⟩⟩
 item:=fun i s Q E hi st q=>by
  refine jr st.1 st.2 (x:=xs[i]) (a1w hi) fun h' st' sb=>q _ h' s.toks (a1w hi) ⟨st',?_⟩ sb
  obtain ⟨o,e,r⟩:=st.2
  exact ⟨o,(sb.2 t hne).trans e,r⟩
 done:=fun s Q E st q=>fY hh st.1 st.2 (a1q (a0r _)) fun h' e eb he=>q h' e eb he
theorem mT {prog:Program}{w:World}{A:Around}(hh:A.handled=none)(it t:Addr)(n:Nat)(xs:Array Value)(hn:xs.size<=n):Draws prog w A it [it,t] n (fun _ _=>False) (fun i h=>i=n/\h.IsTupleIter it t n/\h.IsTuple t xs) where
 live:=fun i h st=>let ⟨o,e,_⟩:=st.2.1; ⟨o,e⟩
 frame:=fun i h h' st k=>⟨st.1,st.2.1.at fun o e=>k it (by simp) o e,by obtain ⟨o,e,r⟩:=st.2.2; exact ⟨o,k t (by simp) o e,r⟩⟩
 item:=fun i s Q E hi st q=>absurd st.1 (a0y hi)
 done:=fun s Q E st q=>fY hh st.2.1 st.2.2 (a1q hn) fun h' e eb he=>q h' e eb he
noncomputable def AX (K:a0a)(a:Addr):It :=
 ⟨fun i H=>∃ xs x,SqT K H a xs/\xs[i]?=some x,
  fun i H v H'=>∃ p x,v=.ref p/\H p=none/\H'=upd H p (.tup [.int (i:Int),x])/\∀ xs,SqT K H a xs->xs[i]?=some x,
  fun i H=>∃ xs,SqT K H a xs/\xs.length<=i⟩
theorem j8 {P:Program}{w:World}{K:a0a}{es:List Expr}{kt:Nat}{pt:Pos}{e it a:Addr}(hne:e≠it)(hae:a≠e)(hai:a≠it):lS P w K (.Tuple es kt pt) (AX K a) [e,it] e (fun i h=>(∃ old,IsEnum h e it (i:Int) old)/\h.IsTupleIter it a i) where
 mem:=by simp
 obj:=fun i h st b hb=>by
  obtain ⟨⟨old,q1⟩,q2⟩:=st
  simp only [a0s,a08,or_false] at hb
  rcases hb with rfl | rfl
  ·exact ⟨_,q1,fun v y=>by cases y⟩
  ·obtain ⟨o,e',_,d⟩:=q2
   exact ⟨o,e',fun v y=>by rw [d] at y; cases y⟩
 keep:=fun i h h' st k=>by
  obtain ⟨⟨old,q1⟩,q2⟩:=st
  exact ⟨⟨old,k e (by simp) _ q1⟩,q2.at fun o z=>k it (by simp) o z⟩
 item:=by
  intro X hP hw hK hc i pins s σ H E I hf st hg
  subst hP hw hK
  obtain ⟨xs,x,s1,hx⟩:=hg
  obtain ⟨⟨old,q1⟩,q2⟩:=st
  obtain ⟨its,v1,o1,z1⟩:=I.tuple s1
  obtain ⟨u1,e1,r1⟩:=v1.get hx
  have lt:∀ b∈[e,it],b < s.heap.objs.size:=fun b hb=>by
   simp only [a0s,a08,or_false] at hb
   rcases hb with rfl | rfl
   ·exact Heap.lt_size q1
   ·obtain ⟨o,e',_⟩:=q2; exact Heap.lt_size e'
  have hit:i < its.toArray.size:=by
   have:=(a0w.mp e1).1
   simpa using this
  refine wpAny_pyNext_enum_itemD (mx (A:=X.A.in1) (I.ok.hd hc) it a hai its.toArray) q1 ⟨q2,(show s.heap.IsTuple a its.toArray from o1)⟩ hit hne (by simp only [a0s,a08,or_false,not_or]; exact ⟨hne,a1T hae⟩) fun x' h' tk px y1 y2 y3 y4 y5=>⟨_,rfl,?_⟩
  have ex:x'=u1:=by
   have:its[i]?=some x':=by simpa using px
   rw [e1] at this; cases this; rfl
  subst ex
  refine wpAny_letOwnedTupleGo_enum (s:={ s with heap:=h',toks:=tk+1 }) y1 fun h2 w1 sb=>?_
  have sb':Heap.SameBut e h' h2:=sb
  have nz:s.heap.objs.size≠e:=a1W (lt e (by simp))
  have kk:∀ b o,b ∉ [e,it]->s.heap.get? b=some o->h2.get? b=some o:=fun b o hb z=>by
   simp only [a0s,a08,or_false,not_or] at hb
   exact (sb'.2 b hb.1).trans (y5 b o hb.1 hb.2 z)
  have tp:IsTup h2 s.heap.objs.size [.int (i:Int) tk,x'].toArray:=⟨_,(sb'.2 _ nz).trans y3,rfl,_,rfl⟩
  refine ⟨.ref s.heap.objs.size,upd H s.heap.objs.size (.tup [.int (i:Int),x]),eN (s:=s) (t':=tk+1) I hf kk (a0r _) (by show 2<=sizeLine; decide) (.cons ⟨_,rfl⟩ (.cons r1 .nil)) tp,rfl,
   ⟨_,x,rfl,I.fresh,rfl,fun zs hz=>by rw [I.tuple_inj hz s1]; exact hx⟩,?_,fun b hb=>?_⟩
  ·exact ⟨⟨_,w1⟩,y2.1.at fun o z=>(sb'.2 _ (a1T hne)).trans z⟩
  ·rw [af (a0y (lt b hb))]; exact (hf b hb).1
 done:=by
  intro X hP hw hK hc i pins s σ H E I hf st hg
  subst hP hw hK
  obtain ⟨xs,s1,hl⟩:=hg
  obtain ⟨⟨old,q1⟩,q2⟩:=st
  obtain ⟨its,v1,o1,z1⟩:=I.tuple s1
  have l1:=v1.length
  have l2:its.toArray.size<=i:=by simp; omega
  refine wpAny_pyNext_enum_endD (mT (A:=X.A.in1) (I.ok.hd hc) it a i its.toArray l2) q1 ⟨rfl,q2,(show s.heap.IsTuple a its.toArray from o1)⟩ fun h' eb=>⟨rfl,kb (t':=s.toks) I hf fun b o hb z=>eb b o (fun y=>hb (by simp [y])) z⟩
 self:=fun _ _ _ _ _ st h=>by
  obtain ⟨⟨old,q1⟩,_⟩:=st
  exact wpAny_pyIter_enum q1 h
noncomputable def oo (K:a0a)(ta:TA):TI:=fun σ H R=>ta σ H fun vs H1=>∃ a,vs=[.ref a]/\(∃ xs,SqT K H1 a xs)/\R (AX K a) H1
theorem qH {X:Cx}{a:Expr}{ta:TA}{p pos pt:Pos}{es:List Expr}{kt:Nat}(hg:Gl X "enumerate")(hm:X.mg "enumerate"=none)(ha:PA X [a] ta)(hs:starEach [a] X.env=[(false,eval a X.env)]:=by rfl) :
  PI X (.Tuple es kt pt) (.Call (.Name "enumerate" p) [a] [] pos) (oo X.K ta):=by
 intro pins s σ H R I h
 refine Call_ (cW I hg hm boot_enumerate (a0X (thn (ha pos pins s σ H _ I h) fun us s1 ⟨vs,H1,I1,r1,q1⟩=>?_) hs rfl))
 obtain ⟨a,rfl,⟨xs,s1'⟩,q⟩:=q1
 cases r1 with
 | cons r rr =>
  cases rr
  cases r
  obtain ⟨its,v1,o1,z1⟩:=I1.tuple s1'
  have hlt:a < s1.heap.objs.size:=by obtain ⟨o,e,_⟩:=o1; exact Heap.lt_size e
  refine jH (show s1.heap.IsTuple a its.toArray from o1) fun h' q1 q2 kk=>?_
  refine wpAny_pyIter_enum (s:={ s1 with heap:=h' }) q1 ?_
  refine ⟨_,_,_,_,H1,rfl,I1.kept (t':=s1.toks) kk,j8 (Nat.succ_ne_self _) (a0y (a1M hlt)) (a0y hlt),⟨⟨_,q1⟩,q2⟩,fun b hb=>?_,q⟩
  have hle:s1.heap.objs.size<=b:=by
   simp only [a0s,a08,or_false] at hb
   rcases hb with e | e<;>(rw [e]; first | exact Nat.le_add_right _ _ | exact a0r _)
  exact I1.fpOk hle (I1.hok.fresh hle)
end L3
namespace MR
open PySem PySem.Spec PyProof.Rows L2 L3
section
variable {X:Cx}{sf sg:Nat->Option Nat}{C:M.Call}{pos p p2 p3:Pos}{ea eb ec:Expr}{a b c:M.E}{h:Bool}{n:Nat}{io:List Nat}{K:a0a}
theorem rK {e:M.E}(σ:L2.St)(H:Hp)(R:It->Hp->Prop)(h:wI K sf C 2 .enmT [e] σ H R):oo K (wL K sf C [e]) σ H R:=by
 obtain ⟨pv,Z,Fs,η,ws,η',ts,A,ev,ht,k⟩:=h
 refine ⟨pv,Z,Fs,η,ws,η',A,ev,fun vs Z' H' Fs' G B r s=>?_⟩
 obtain ⟨⟨m,a⟩,η1,us,e1,e2,rfl⟩:=aE ev
 cases e2
 obtain ⟨x,rfl,r1⟩:=bq rfl r
 obtain ⟨t1,rfl⟩:∃ t1,a=.tup t1:=by cases a<;>first | exact ⟨_,rfl⟩ | cases ht
 cases ht
 obtain ⟨a,xs,rfl,q,l,p⟩:=Rep.sh r1
 have l1:=p.length
 refine ⟨a,rfl,⟨xs,q⟩,k _ _ H' Fs' B.freeze (bc B.own s) ⟨fun H0 i s hi=>?_,fun H0 i s hi=>?_,by rw [cA]; omega⟩ fun H0 i x H1 s hi y=>?_⟩
 ·rw [cA] at hi
  exact ⟨xs,xs[i]'(by omega),s.sqt q,by simp⟩
 ·rw [cA] at hi
  exact ⟨xs,s.sqt q,by omega⟩
 ·rw [cA] at hi
  obtain ⟨p',x1,rfl,hp,rfl,hx⟩:=y
  obtain ⟨x',hx',rx⟩:=p.get (show t1[i]?=some t1[i] by simp)
  rw [hx xs (s.sqt q)] at hx'; cases hx'
  refine ⟨p',.int i,x1,(.d,.int ((0+i:Nat):Int)),(.s,t1[i]),rfl,xU hp,.inl (.inl aQ),gp (by simp),?_,rx.sany.keep s (fun _ z=>z) fun _ _ z=>z.elim⟩
  show V.int (i:Int)=V.int ((0+i:Nat):Int)
  rw [a09]
theorem rC {es:List Expr}{kt:Nat}{pt p:Pos}(hm:X.mg "enumerate"=none)(hg:Gl X "enumerate":=by rfl)(ha:SE X sf C ea a)(hs:starEach [ea] X.env=[(false,eval ea X.env)]:=by rfl):PI X (.Tuple es kt pt) (.Call (.Name "enumerate" p) [ea] [] pos) (wI X.K sf C 2 .enmT [a]):=ig (qH hg hm (slc ha sl0 hs) hs) rK
end
end MR

namespace L3
open PySem PySem.Spec PyProof.Rows L2
theorem Dd {prog:Program}{w:World}{A:Around}{E:Value->Shared->Prop}{s:Shared}{t b:Addr}{ws:List Value}{Q:Value->Shared->Prop}(ht:IsTup s.heap t ([]:List Value).toArray)(hb:IsTup s.heap b ws.toArray)(h:Q (.ref b) s):wpAny (model prog w) A (binaryOp .Add (.ref t) (.ref b)) Q E s:=by
 obtain ⟨⟨cls,dd,data,sl⟩,ho,hc,n,hd⟩:=id ht
 obtain ⟨⟨cls2,dd2,data2,sl2⟩,ho2,hc2,n2,hd2⟩:=id hb
 simp only at hc hd hc2 hd2
 subst hc hd hc2 hd2
 exact concat_meets ⟨_,ho,rfl⟩ ⟨_,ho2,rfl⟩ noFill_tuple_add seq_tuple_add a1J a1E (a1C _ _)
  (tuple_addW0 t b ([]:List Value).toArray ws.toArray n n2 dd dd2 sl sl2 rfl) ⟨ho,ho2,h⟩
noncomputable def vW (K:a0a):R2:=fun x y H Q=>∃ a b xs ys,x=.ref a/\y=.ref b/\SqT K H a xs/\SqT K H b ys/\xs.length+ys.length<=sizeLine/\∀ v H',Same H H'->(∃ c,v=.ref c/\SqT K H' c (xs++ys))->Q v H'
theorem uG {X:Cx}:OpR X (binaryOp .Add) (vW X.K):=fun pins s σ H x y v u Q I rx ry h=>by
 obtain ⟨a,b,xs,ys,e1,e2,h1,h2,hz,q⟩:=h
 by_cases hx:xs=[]
 ·subst hx e1 e2
  cases rx
  cases ry
  obtain ⟨its,r1,p1,_⟩:=I.tuple h1
  obtain ⟨its2,r2,p2,_⟩:=I.tuple h2
  have:its=[]:=by cases r1; rfl
  subst this
  exact Dd p1 p2 ⟨.ref b,H,I,rfl,q _ _ (Same.refl _) ⟨b,rfl,h2⟩⟩
 ·exact kB pins s σ H x y v u Q I rx ry ⟨a,b,xs,ys,e1,e2,h1,h2,hx,hz,q⟩
theorem ua {X:Cx}{o e:Expr}{apos cpos:Pos}{ty:TE}{ad:Addr}{T:List (Str×V)}(D:DTab X.K X.w ad T)(ho:PE X o (tC (.ref ad)))(he:PE X e ty)(m:M1 X o "get" apos e cpos):PE X (.Call (.Attribute o "get" apos) [e] [] cpos) (fun σ H Q=>ty σ H fun y H2=>∃ z,y=.str z/\Q ((T.lookup z).getD .non) H2):=by
 intro pins s σ H Q I h
 refine wpAny_Call_method m.base m.few m.line PySem.F.plainAttrs_dict a2n PySem.F.type_dict_get (thn (ho pins s σ H (fun x H1=>x=.ref ad/\ty σ H1 fun y H2=>∃ z,y=.str z/\Q ((T.lookup z).getD .non) H2) I ⟨rfl,h⟩) fun u s1 ⟨x,H1,I1,rx,ex,q1⟩=>?_)
 subst ex
 obtain rfl:u=Value.ref ad:=rx
 obtain ⟨f,hm,hf⟩:=D.map (P:=X.prog) I1.kIn
 obtain ⟨es,n,k1,k2,k3⟩:=D.ex
 refine ⟨hm.typeIs,fun b q=>?_,?_⟩
 ·cases q
  exact ⟨_,I1.kIn _ _ k1,rfl⟩
 rw [m.trees]
 refine Calls.callWith_builtin rfl (Calls.evalArgs_plain (Calls.spliced_cons (thn (he pins s1 σ H1 _ I1 q1) fun iv s2 ⟨y,H2,I2,ry,z,ey,q2⟩=>Calls.spliced_nil ?_)))
 subst ey
 obtain ⟨t,rfl⟩:=ry
 obtain ⟨f2,hm2,hf2⟩:=D.map (P:=X.prog) I2.kIn
 exact call_meetsIn a2n hm2.typeIs PySem.F.entry_dict_get (PySem.F.args_dict_get_2 _ _) (meets_dict_get (strKind X.prog X.w) ad (strKind_is X.prog X.w z t) D.lo) ⟨f2,hm2,(T.lookup z).getD .non,H2,I2.tok _,(hf2 z).getD (show L2.RelV .non Value.none from rfl),q2⟩
theorem fE:∀ {ss:List Str} {us:List Value},Vals (ss.map V.str) us->StrsAre us ss
 | [],_,h=>by cases h; exact .nil
 | x::ss,_,h=>by
  cases h with
  | cons r rr =>
   obtain ⟨t,rfl⟩:=r
   exact .cons _ _ (fE rr)
end L3
namespace MR
open PySem PySem.Spec PyProof.Rows L2 L3
section
variable {X:Cx}{sf sg:Nat->Option Nat}{C:M.Call}{pos p p2 p3:Pos}{ea eb ec:Expr}{a b c:M.E}{h:Bool}{n:Nat}{io:List Nat}{K:a0a}
theorem qC:Loc K 2 .catT h fun xs H Q=>∀ x y,xs=[x,y]->vW K x y H Q:=by
 intro ws w xs Z H G Q hn e r ow za k x y hx
 subst hx
 obtain ⟨⟨m,a⟩,⟨n,b⟩,rfl⟩:=dw r.length.symm
 obtain ⟨G1,G2,w1,w2,d,r1,r2⟩:=bV r
 cases a with
 | tup ts =>
  cases b with
  | tup us =>
   have e':(if M.fits (ts.length+us.length)=true then some ((.s,.tup (ts++us)):M.W) else none)=some w:=e
   split at e'
   ·rename_i hf
    cases e'
    obtain ⟨a,xs,rfl,hs,hl,p⟩:=bH r1
    obtain ⟨b,ys,rfl,hs2,hl2,p2⟩:=bH r2
    have hlen:=cj hf
    have e1:=p.length
    have e2:=p2.length
    refine ⟨a,b,xs,ys,rfl,rfl,hs,hs2,bQ (by omega),fun v H' same hv=>fB (m:=.s) (G':=no) ow (fun _ z=>z.elim) (by rw [a0e]; omega) (RepL.append (G1:=no) (G2:=no) (fun _ z=>z) (fun _ z=>z) (fun _ z _=>z) ((RepL.sh p).zmono fun b hb=>?_) ((RepL.sh p2).zmono fun b hb=>?_)) k same hv⟩
    ·exact hb.imp id fun z=>⟨w1 b z,fun q=>q⟩
    ·exact hb.imp id fun z=>⟨w2 b z,fun q=>q⟩
   ·cases e'
  | _=>cases e
 | _=>cases e
theorem rk (ha:SE X sf C ea a)(hb:SE X sf C eb b):SE X sf C (.BinOp ea .Add eb pos) (.op .catT h [a,b]):=ak (eQ uG ha hb) (aM qC)
theorem vi {w:World}{ad:Addr}{T:List (Str×V)}{tab:List (Str×M.T)}{e:M.E}(ht:∀ z,match tab.lookup z with
  | some t=>∃ v,T.lookup z=some v/\CstR K t v
  | none=>T.lookup z=none) (σ:L2.St) (H:Hp) (Q:VK) (h:wE K sf C (.getT tab e) σ H Q):wE K sf C e σ H fun y H2=>∃ z,y=.str z/\Q ((T.lookup z).getD .non) H2:=by
 obtain ⟨pv,Z,Fs,η,w',η',A,ev,k⟩:=h
 obtain ⟨⟨u,η1⟩,h1,h2⟩:=aa (show (M.evE C e η).bind (M.kGet tab)=_ from ev)
 obtain ⟨z,e1,e2,e3⟩:=iz h2
 cases e2
 refine ⟨pv,Z,Fs,η,u,_,A,h1,fun y Z' H' Fs' G B r s=>?_⟩
 obtain ⟨m,t0⟩:=u
 cases (show t0=_ from e1)
 have q:=ht z
 refine ⟨z,r.1,?_⟩
 cases hl:tab.lookup z with
 | none =>
  rw [hl] at q e3
  rw [show T.lookup z=none from q]
  have e4:w'=(.s,.non):=e3
  subst e4
  exact k _ Z' H' Fs' no B.bare rfl (s.mono (fun _ z=>z) fun a ha=>ha.elim .inl fun z=>z.elim)
 | some t =>
  rw [hl] at q e3
  obtain ⟨v,q1,q2⟩:=q
  rw [q1]
  have e4:w'=(.s,t):=e3
  subst e4
  exact k v Z' H' Fs' no B.bare (q2 Z' H') (s.mono (fun _ z=>z) fun a ha=>ha.elim .inl fun z=>z.elim)
theorem Ap {x:Str}{tab:List (Str×M.T)}{apos cpos:Pos}(T:j7 X.K X.w X.mg x tab)(ha:SE X sf C ea a)(hg:Gl X x:=by rfl)(hd:(x==("__debug__":Str))=false:=by decide)(m:M1 X (.Name x p2) "get" apos ea cpos:=by exact ⟨rfl,rfl,rfl,rfl⟩):SE X sf C (.Call (.Attribute (.Name x p2) "get" apos) [ea] [] cpos) (.getT tab a):=by
 obtain ⟨ad,T',hm,D,ht⟩:=T
 exact ak (ua D (gr hg hm hd) ha m) (vi (w:=X.w) (ad:=ad) ht)
end
end MR

namespace L3
open PySem PySem.Spec PyProof.Rows L2
end L3
namespace MR
open PySem PySem.Spec PyProof.Rows L2 L3
end MR

namespace MR
open L2 L3 M
open PySem (Addr Str sizeLine)
end MR
namespace MR
open PySem PySem.Spec PyProof.Rows L2 L3
end MR

namespace L3
open PySem PySem.Spec PyProof.Rows L2
theorem iB:∀ {vs:List Value} {ss:List Str} {i:Nat} {v:Value},StrsAre vs ss->vs[i]?=some v->∃ y t,ss[i]?=some y/\v=Value.str y t
 | _,_,_,_,.nil,h=>by simp at h
 | _,_,0,_,.cons y t r,h=>by
  rw [a1l] at h
  cases h
  exact ⟨y,t,rfl,rfl⟩
 | _,_,i+1,_,.cons y t r,h=>by
  rw [a0u] at h
  obtain ⟨z,t',e1,e2⟩:=iB r h
  exact ⟨z,t',by rw [a0u]; exact e1,e2⟩
theorem jg {prog:Program}{w:World}{A:Around}(hh:A.handled=none){R:Result->Shared->Prop}{I S t:Addr}(h1:S≠I)(h2:S≠t)(h3:t≠I){items:Array Value}{ss:List Str}(hs:StrsAre items.toList ss)(hb:ss.length < 1000):∀ (k i:Nat) (s:Shared) (ks:List Str),i+k=ss.length->ks.length<=i->s.heap.IsTupleIter I t i->s.heap.IsTuple t items->Heap.SetOf (a1t prog w) s.heap S (fun x=>ks.contains x) ks.length ->
  (∀ h' tk,(∀ b o,b≠S->b≠I->s.heap.get? b=some o->h'.get? b=some o)->Heap.SetOf (a1t prog w) h' S (fun x=>((ss.drop i).foldl M.addS ks).contains x) ((ss.drop i).foldl M.addS ks).length->R (Except.ok (Flow.ret Value.none)) { s with heap:=h',toks:=tk }) ->
  codeAny (model prog w) A (Code.builtin "set.update.loop" { pos:=[Value.ref S,Value.ref I] }) R s
 | 0,i,s,ks,hk,hl,it,tp,so,q=>by
  have hlen:items.toList.length=ss.length:=hs.length
  have hn:items[i]?=none:=a1q (by rw [<- a0I]; omega)
  refine codeAny_builtin a1x ?_
  unfold Builtin.«set.update.loop»
  refine wpAny_bind (wpAny_pyNext_tuple_end hh it tp hn fun h' eb=>?_)
  refine wpAny_pure ?_
  have e:ss.drop i=[]:=List.drop_eq_nil_of_le (by omega)
  rw [e] at q
  refine q h' s.toks (fun b o _ hbI hb=>eb b o hbI hb) ?_
  obtain ⟨o,es,ep,tt,g1,g2⟩:=so
  exact ⟨o,es,ep,tt,eb S o h1 g1,g2⟩
 | k+1,i,s,ks,hk,hl,it,tp,so,q=>by
  have hlen:items.toList.length=ss.length:=hs.length
  have hi:i < ss.length:=by omega
  obtain ⟨v,hv⟩:∃ v,items.toList[i]?=some v:=⟨_,a0h (by omega)⟩
  obtain ⟨y,t',hy,rfl⟩:=iB hs hv
  refine codeAny_builtin a1x ?_
  unfold Builtin.«set.update.loop»
  refine wpAny_bind (wpAny_pyNext_tuple_item it tp (x:=Value.str y t') (by simpa using hv) fun h' it' sb=>?_)
  refine wpAny_bind (wpAny_holding ?_)
  unfold setAdd
  refine wpAny_holding (wpAny_bind (wpAny_pyHash_str ?_))
  have so':Heap.SetOf (a1t prog w) h' S (fun x=>ks.contains x) ks.length:=by
   obtain ⟨o,es,ep,tt,g1,g2⟩:=so
   exact ⟨o,es,ep,tt,(sb.2 S h1).trans g1,g2⟩
  refine wpAny_setAddHashed_of (knd:=a1t prog w) (k:=y) (strKind_is prog w y t') rfl so' (by have hsb:2000 < scanBound:=(by decide); omega) fun g2 sb2 so2=>?_
  refine wpAny_pure ⟨(by first | rfl | kernel_rfl | (unfold Code.quiet; kernel_rfl) | simp [Code.quiet]),?_⟩
  have ed:ss.drop i=y::ss.drop (i+1):=by
   rw [a13 hi]
   have:=a0h hi
   rw [this] at hy
   cases hy
   rfl
  rw [ed] at q
  have so3:Heap.SetOf (a1t prog w) g2 S (fun x=>(M.addS ks y).contains x) (M.addS ks y).length:=by
   have e1:(fun x=>(M.addS ks y).contains x)=fun k'=>ks.contains k' || decide (k'=y):=by
    funext z
    unfold M.addS
    split
    ·rename_i hc
     by_cases hz:z=y
     ·subst hz; rw [hc]; rfl
     ·rw [decide_eq_false hz,a2X]
    ·rw [List.contains_append]
     congr 1
     by_cases hz:z=y
     ·subst hz; simp
     ·rw [decide_eq_false hz]
      simp [hz]
   have e2:(M.addS ks y).length=if ks.contains y=true then ks.length else ks.length+1:=by
    unfold M.addS
    split
    ·rfl
    ·rw [a0e]; rfl
   rw [e1,e2]
   exact so2
  refine jg hh h1 h2 h3 hs hb k (i+1) _ (M.addS ks y) (by omega) ?_ (it'.at fun o e=>(sb2.2 I (a1T h1)).trans e) ?_ so3 fun h'' tk keep so4=>q h'' tk (fun b o hbS hbI hb=>keep b o hbS hbI ((sb2.2 b hbS).trans ((sb.2 b hbI).trans hb))) so4
  ·unfold M.addS
   split
   ·omega
   ·rw [a0e,a0v]; omega
  ·obtain ⟨o,e1,e2⟩:=tp
   exact ⟨o,(sb2.2 t (a1T h2)).trans ((sb.2 t h3).trans e1),e2⟩
end L3

namespace L3
open PySem PySem.Spec PyProof.Rows L2
theorem my {prog:Program}{w:World}{A:Around}{E:Value->Shared->Prop}{s:Shared}{t:Addr}{items:Array Value}{Q:Value->Shared->Prop}(hh:A.handled=none)(tp:s.heap.IsTuple t items){ss:List Str}(hs:StrsAre items.toList ss)(hb:ss.length < 1000)
  (q:∀ h' tk,(∀ b o,s.heap.get? b=some o->h'.get? b=some o)->Heap.SetOf (a1t prog w) h' s.heap.objs.size (fun x=>(M.distS ss).contains x) (M.distS ss).length->Q (.ref s.heap.objs.size) { s with heap:=h',toks:=tk }):wpAny (model prog w) A (call (Value.type "set") [Value.ref t]) Q E s:=by
 obtain ⟨c0,tl,hm⟩:=F.called_set.mro
 refine wpAny_call (codeAny_of_tree ?_)
 refine wpAny_pure ?_
 refine ⟨(by first | rfl | kernel_rfl),codeAny_builtin F.entry_type_call ?_⟩
 rw [Around.under_plain (weight_type_call_type _ _ _) rfl]
 unfold Builtin.«type.__call__»
 refine wpAny_ite_false (by rfl) ?_
 refine wpAny_ite_false (by show decide _=false; rw [F.called_set.canCreate]; rfl) ?_
 rw [F.typeCall_set_1]
 refine wpAny_bind (wpAny_pure ?_)
 rw [hm]
 refine wpAny_bind (wpAny_pure ?_)
 refine wpAny_ite_false (by rfl) ?_
 rw [F.called_set.made]
 refine wpAny_bind (wpAny_pure ?_)
 refine wpAny_bind (wpAny_pure ?_)
 refine wpAny_bind (wpAny_holding (wpAny_call (code_set_new_1 _ fun led=>?_)))
 have hT:Shared.TypeIs { heap:=s.heap.push { cls:=Value.type "set",data:=Data.set #[] 0 (SetTable.fresh 0 0 led) },gens:=s.gens,drawn:=s.drawn,toks:=s.toks,os:=s.os } (Value.ref s.heap.objs.size) "set":=⟨_,Heap.get?_push_size _ rfl,rfl⟩
 refine wpAny_bind (wpAny_isInstance (T:="set") (b:=true) hT F.called_set.sub ?_)
 refine wpAny_ite_false (by rfl) ?_
 refine wpAny_bind (wpAny_holding (wpAny_callSpecial?_slot hT F.called_set.init (wpAny_call (codeAny_call_builtin F.called_set.init.plain F.entry_set_init (check_set_init_1 hT ?_)))))
 have tp1:Heap.IsTuple (s.heap.push { cls:=Value.type "set",data:=Data.set #[] 0 (SetTable.fresh 0 0 led) }) t items:=Heap.IsTuple.push tp _
 have hn:t≠s.heap.objs.size:=by obtain ⟨o,e,_⟩:=tp; exact a0y (Heap.lt_size e)
 unfold Builtin.«set.__init__»
 have hset:(s.heap.push { cls:=Value.type "set",data:=Data.set #[] 0 (SetTable.fresh 0 0 led) }).get? s.heap.objs.size=some { cls:=Value.type "set",data:=Data.set #[] 0 (SetTable.fresh 0 0 led) }:=Heap.get?_push_size _ rfl
 have hs1:=F.sub_tuple_set
 have hs2:=F.sub_tuple_frozenset
 have hTt:Shared.TypeIs { heap:=s.heap.push { cls:=Value.type "set",data:=Data.set #[] 0 (SetTable.fresh 0 0 led) },gens:=s.gens,drawn:=s.drawn,toks:=s.toks,os:=s.os } (Value.ref t) "tuple":=by obtain ⟨o,e,c,_⟩:=tp1; exact ⟨o,e,c⟩
 refine wpAny_bind (wpAny_of_eq (a:=()) rfl ?_)
 wp_walk using wpAny_pyIter_tuple tp1
 have e1:(s.heap.push { cls:=Value.type "set",data:=Data.set #[] 0 (SetTable.fresh 0 0 led) }).objs.size=s.heap.objs.size+1:=Heap.size_push ..
 have hlt:t < s.heap.objs.size:=by obtain ⟨o,e,_⟩:=tp; exact Heap.lt_size e
 have hS:Heap.SetOf (a1t prog w) ((s.heap.push { cls:=Value.type "set",data:=Data.set #[] 0 (SetTable.fresh 0 0 led) }).push { cls:=Value.type "tuple_iterator",data:=Data.fields #[Value.ref t,Value.int 0 0] }) s.heap.objs.size (fun x=>([]:List Str).contains x) 0:=by
  refine ⟨_,#[],0,SetTable.fresh 0 0 led,Heap.get?_push_of_some _ hset,?_,rfl,?_,?_,?_,?_,rfl⟩
  ·exact ⟨rfl,rfl,rfl⟩
  ·first | exact a15 | exact ⟨⟩ | (intro e he; cases he) | simp [ElemsOf]
  ·intro k
   constructor
   ·intro z; cases z
   ·rintro ⟨e,he,_⟩; cases he
  ·decide
  ·cases led<;>rfl
 refine jg (A:=A.in1.in1) hh (by rw [e1]; exact a0y (a2c _)) (a1T hn) (by rw [e1]; exact a0y (a1M hlt)) hs hb ss.length 0 _ [] (a09 _) (a1f _) ⟨_,Heap.get?_push_size _ rfl,rfl,rfl⟩ (Heap.IsTuple.push tp1 _) hS fun h' tk keep so=>?_
 refine wpAny_pure (wpAny_pure ?_)
 refine wpAny_ite_false (by rfl) (wpAny_pure ?_)
 refine q h' tk (fun b o hb=>?_) (by rw [a0x] at so; exact so)
 have hbl:b < s.heap.objs.size:=Heap.lt_size hb
 exact keep b o (a0y hbl) (by rw [e1]; exact a0y (a1M hbl)) (Heap.get?_push_of_some _ (Heap.get?_push_of_some _ hb))
noncomputable def kS (K:a0a)(xs:List V)(H:Hp)(Q:VK):Prop:=∃ (a:Addr) (ss:List Str),xs=[.ref a]/\SqT K H a (ss.map V.str)/\ss.length < 1000/\Q (.int (M.distS ss).length) H
theorem mM {X:Cx}{ea:Expr}{ta:TA}{p p2 pos pos2:Pos}(hc:X.calm=true)(hg:Gl X "len")(hm:X.mg "len"=none)(hg2:Gl X "set")(hm2:X.mg "set"=none)(ha:PA X [ea] ta)(hs:starEach [ea] X.env=(false,eval ea X.env)::starEach [] X.env)(hpl:(backTo pos2 (starEach [] X.env)).any (·.1)=false)(hs2:starEach [.Call (.Name "set" p2) [ea] [] pos2] X.env=(false,eval (.Call (.Name "set" p2) [ea] [] pos2) X.env)::starEach [] X.env)(hpl2:(backTo pos (starEach [] X.env)).any (·.1)=false) :
  PE X (.Call (.Name "len" p) [.Call (.Name "set" p2) [ea] [] pos2] [] pos) (tCB (kS X.K) ta):=by
 intro pins s σ H Q I h
 refine wpAny_Call_Name_kw (cW I hg hm a2s ?_ (by decide) (by decide))
 refine a1Q ?_ hs2 hpl2
 rw [hs2]
 show wpAny _ _ (spliced ((false,eval (.Call (.Name "set" p2) [ea] [] pos2) X.env)::backTo pos (starEach [] X.env))) _ _ s
 refine Calls.spliced_cons ?_
 refine wpAny_Call_Name_kw (cW I hg2 hm2 a3b ?_ (by decide) (by decide))
 refine a0X (thn (ha pos2 pins s σ H _ I h) fun us s1 ⟨vs,H1,I1,r1,q1⟩=>?_) hs hpl
 obtain ⟨a,ss,rfl,hS,hb,q⟩:=q1
 obtain ⟨u,rfl,ru⟩:=dy r1
 cases ru
 obtain ⟨its,rv,tp,hz⟩:=I1.tuple hS
 refine my (I1.ok.hd hc) tp (fE rv) hb fun h' tk keep so=>?_
 refine Calls.spliced_nil ?_
 obtain ⟨o,es,ep,t,e1,e2,e3,e4,e5,e6,e7,e8⟩:=so
 refine call_len_set e1 e2 e3 e7 ?_ ⟨.int (M.distS ss).length,H1,(I1.kept (t':=tk) keep).tok _,⟨_,by rw [e8]⟩,q⟩
 have:es.size < 2 ^ 63:=a0n e6 (by decide)
 exact Int.ofNat_lt.mpr this
end L3
namespace MR
open PySem PySem.Spec PyProof.Rows L2 L3
section
variable {X:Cx}{sf sg:Nat->Option Nat}{C:M.Call}{pos p p2 p3 pos2:Pos}{ea eb ec:Expr}{a b c:M.E}{h:Bool}{n:Nat}{io:List Nat}{K:a0a}
theorem jK:Loc K 1 .lenSet h (kS K):=by
 intro ws w xs Z H G Q hn e r ow za k
 match ws,hn with
 | [(m,a)],_ =>
  obtain ⟨x,rfl,r1⟩:=bq rfl r
  cases a with
  | tup ts =>
   have e2:((M.strsOf ts).bind fun ss=>if decide (ss.length < 1000)=true then some ((.d,.int (M.distS ss).length):M.W) else none)=some w:=e
   cases e3:M.strsOf ts with
   | none=>rw [e3] at e2; cases e2
   | some ss =>
    rw [e3] at e2
    have e4:(if decide (ss.length < 1000)=true then some ((.d,.int (M.distS ss).length):M.W) else none)=some w:=e2
    split at e4
    ·rename_i hb
     cases e4
     obtain ⟨q,xs,hq,hs,hl,pr⟩:=bH r1
     rw [i9 e3 pr] at hs
     exact ⟨q,ss,by rw [hq],hs,of_decide_eq_true hb,aJ k⟩
    ·cases e4
  | _=>cases e
theorem tv (hc:X.calm=true:=by rfl)(hm:X.mg "len"=none)(hm2:X.mg "set"=none)(hg:Gl X "len":=by rfl)(hg2:Gl X "set":=by rfl)(ha:SE X sf C ea a)(hs:starEach [ea] X.env=(false,eval ea X.env)::starEach [] X.env:=by rfl)(hpl:(backTo pos2 (starEach [] X.env)).any (·.1)=false:=by rfl)(hs2:starEach [.Call (.Name "set" p2) [ea] [] pos2] X.env=(false,eval (.Call (.Name "set" p2) [ea] [] pos2) X.env)::starEach [] X.env:=by rfl)(hpl2:(backTo pos (starEach [] X.env)).any (·.1)=false:=by rfl):SE X sf C (.Call (.Name "len" p) [.Call (.Name "set" p2) [ea] [] pos2] [] pos) (.op .lenSet h [a]) :=
 ak (mM hc hg hm hg2 hm2 (slc ha sl0 hs) hs hpl hs2 hpl2) (dJ jK rfl)
theorem f7 (z:Str):∀ ss:List Str,(ss.map V.str).countP (fun x=>eqV x (.str z))=ss.count z
 | []=>rfl
 | c::ss=>by
  rw [a0m,a2d,List.count_cons,f7 z ss]
  rfl
theorem mI {e1 e2:M.E}(σ:L2.St)(H:Hp)(Q:VK)(hw:wE K sf C (.op .countS h [e1,e2]) σ H Q):tBM K "list" (fun x vs H Q=>∃ l xs y,x=.ref l/\vs=[y]/\SqL K H l xs/\bP y=true/\xs.all bP=true/\Q (.int ((xs.countP fun x=>eqV x y:Nat):Int)) H) (wE K sf C e1) (wL K sf C [e2]) σ H Q:=by
 obtain ⟨pv,Z,Fs,η,w,η',A,ev,k⟩:=hw
 obtain ⟨ws,h1,h2⟩:=dq ev
 obtain ⟨⟨m,t⟩,η1,us,g1,g2,rfl⟩:=aE h1
 obtain ⟨⟨m',t'⟩,η2,us,g3,g4,rfl⟩:=aE g2
 cases g4
 cases t with
 | lst ts =>
  cases t' with
  | str b =>
   have e':(M.strsOf ts).bind (fun bs=>some ((.d,.int (bs.count b:Nat)):M.W))=some w:=h2
   cases hb:M.strsOf ts with
   | none=>rw [hb] at e'; cases e'
   | some bs =>
   rw [hb] at e'
   cases e'
   refine dX A g1 fun x Z1 H1 Fs1 G1 A1 r1 _ s1 _=>?_
   have A1':=A1.mono (G':=G1) fun _ z=>.inr z
   obtain ⟨l,xs,rfl,hs,hl,q⟩:=bj r1
   refine ⟨.inl ⟨rfl,_,.inl (.inl hs)⟩,?_⟩
   refine By A1' g2 fun vs Z2 H2 Fs2 G2 A2 r2 d2 s2 t2=>?_
   obtain ⟨y,rfl,ry⟩:=bq rfl r2
   have r1':=r1.frame A1.gd.own s2 A1'.dis
   obtain ⟨l',xs',e,hs',hl',q'⟩:=bj r1'
   cases e
   rw [i9 hb q'] at hs'
   have ey:y=.str b:=ry.1
   refine ⟨l,_,y,rfl,rfl,.inl (.inl hs'),by rw [ey]; rfl,by rw [List.all_map]; exact a06.mpr fun _ _=>rfl,?_⟩
   rw [ey,f7]
   exact aJ (cI A2 (s1.trans t2) k)
  | _=>cases h2
 | _=>cases t'<;>cases h2
theorem s9 {apos cpos:Pos}(ha:SE X sf C ea a)(hb:SE X sf C eb b)(hs:starEach [eb] X.env=(false,eval eb X.env)::starEach [] X.env:=by rfl)
  (hbase:attributeBase ea "count" X.env (eval ea X.env)=eval ea X.env:=by rfl) (hline:(apos.endLine==cpos.line)=true:=by rfl) (hplain:(backTo cpos (starEach [] X.env)).any (·.1)=false:=by rfl)
  (hfew:((backTo cpos (starEach [eb] X.env)).all (fun x=>!x.1)&&(backToKw cpos (keywordEach [] X.env)).all (fun x=>x.1.isSome)&&decide ([eb].length+([]:List Keyword).length+(if ([]:List Keyword).isEmpty then 0 else 1) < 30))=true:=by rfl):SE X sf C (.Call (.Attribute ea "count" apos) [eb] [] cpos) (.op .countS h [a,b]) :=
 ak (v7 a1G a18 PySem.F.type_list_count rD ha (slc hb sl0 hs) hbase hfew hline hs hplain) mI
end
end MR

namespace L3
open PySem PySem.Spec PySem.NumText PyProof.Rows L2
end L3
namespace MR
open PySem PySem.Spec PyProof.Rows L2 L3
end MR

namespace TP
open PySem PySem.W
noncomputable def en (P:Params)(k:Str)(t:Nat)(v:Value):DictEntry:=⟨PyData.keyHash P k,.str k t,v⟩
noncomputable def tu (xs:List Value):Obj:=⟨.type "tuple",none,.seq xs.toArray 0,#[]⟩
noncomputable def fe (xs:List Value):Obj:=⟨.none,none,.fields xs.toArray,#[]⟩
noncomputable def di (es:List DictEntry)(n:Nat):Obj:=⟨.type "dict",none,.dict es.toArray n,#[]⟩
noncomputable abbrev fl:Str:="/claim/cut.py"
noncomputable def iv (i:Int):Value:=.int i 0
noncomputable def cdo (n q:Str)(t t2:Nat)(ln ac:Nat)(f:Nat)(a:Nat)(b:Bool)(x y z:Value):Obj :=
 ⟨.type "code",none,.fields #[.str n t,.str q (t+1),.str fl (t+2),iv ln,iv ac,iv 0,iv 0,iv f,.ref a,.bool b,iv 181,.ref (a+1),.none,x,y,z,iv t2,iv ln,.str fl (t2+1)],#[]⟩
noncomputable def ofn (c:Value)(st:Stmt)(q:Str)(g:Nat)(d m:Value)(cd:Value):Obj:=match st with
 | .FunctionDef n ar b _ _ _ sc _ _ _=>⟨c,none,.func { name:=n,qualname:=q,params:=ar,body:=.stmts b,scope:=sc,globals:=g,closure:=[],defaults:=d,kwdefaults:=.none,pyModule:=m,code:=cd },#[]⟩
 | _=>default
noncomputable def tks:List Str->Nat->List Value
 | [],_=>[]
 | x::r,t=>.str x t::tks r (t+1)
structure R where
 os:List Obj
 ns:List DictEntry
 tb:List Value
 n:Nat
 tk:Nat
 md:Value
inductive Rc where
 | d | m | c
 | x (k:Str) (kt:Nat) (v:Value) (os:Params->List Obj) (tb:List Value) (n tk:Nat)
noncomputable def cv:Expr->Value
 | .Constant (.bool b) _ _=>.bool b
 | _=>.none
noncomputable def dO (P:Params)(n tk:Nat)(md:Value)(st:Stmt):R:=match st with
 | .FunctionDef nm ar b _ _ _ sc _ _ pos =>
  let pr:List Obj×Value×Nat:=match ar.defaults with
   | []=>([],.none,n)
   | ds=>([tu (ds.map cv)],.ref n,n+1)
  let a:=pr.2.2
  match localNames ar sc (.stmts b) with
  | none=>⟨pr.1++[tu [],fe [],ofn .none st nm 0 .none .none .none,cdo nm nm tk (tk+3) pos.line ar.args.length 3 a true .none .none (.ref (a+2)),ofn (.type "function") st nm 3 pr.2.1 md (.ref (a+3))],
    [en P nm (tk+5) (.ref (a+4))],[iv pos.line,iv pos.col,.ref (a+3)],a+5,tk+6,md⟩
  | some l =>
   let k:=l.1.length
   let j:=l.2.length
   ⟨pr.1++[tu [],fe [],tu (tks l.1 (tk+3)),tu (tks l.2 (tk+3+k)),ofn .none st nm 0 .none .none .none,cdo nm nm tk (tk+3+k+j) pos.line ar.args.length 3 a true (.ref (a+2)) (.ref (a+3)) (.ref (a+4)),ofn (.type "function") st nm 3 pr.2.1 md (.ref (a+5))],
    [en P nm (tk+5+k+j) (.ref (a+6))],[iv pos.line,iv pos.col,.ref (a+5)],a+7,tk+6+k+j,md⟩
 | _=>⟨[],[],[],n,tk,md⟩
noncomputable def one (P:Params)(n tk:Nat)(md:Value)(st:Stmt):Rc->R
 | .d=>dO P n tk md st
 | .m=>match st with
  | .Assign _ (.Constant (.str s) _ _) _=>⟨[],[],[],n,tk+2,.str s tk⟩
  | _=>⟨[],[],[],n,tk,md⟩
 | .c=>match st with
  | .Assign (.Name x _::_) (.Constant (.str s) _ _) _=>⟨[],[en P x (tk+1) (.str s tk)],[],n,tk+2,md⟩
  | .Assign (.Name x _::_) (.Constant (.int i) _ _) _=>⟨[],[en P x (tk+1) (.int i tk)],[],n,tk+2,md⟩
  | _=>⟨[],[],[],n,tk,md⟩
 | .x k kt v os tb n' tk'=>⟨os P,[en P k kt v],tb,n',tk',md⟩
noncomputable def go (P:Params):List (Stmt×Rc)->Nat->Nat->Value->List R
 | [],_,_,_=>[]
 | (st,r)::l,n,tk,md=>let x:=one P n tk md st r
  x::go P l x.n x.tk x.md
noncomputable def Cc (x:R):List R->R
 | []=>x
 | y::l=>Cc y l
noncomputable def ds:Data->List DictEntry
 | .dict es _=>es.toList
 | _=>[]
noncomputable def ep:Data->Nat
 | .dict _ n=>n
 | _=>0
noncomputable def r0:R:=⟨[],[],[],15,187,.str "__main__" 164⟩
noncomputable def rs (P:Params)(l:List (Stmt×Rc)):List R:=go P l 15 187 (.str "__main__" 164)
noncomputable def o3 (P:Params)(l:List R):Obj:=di (en P "__name__" 165 (Cc r0 l).md::((ds (boot_o_3 P).data).tail++l.flatMap R.ns)) (ep (boot_o_3 P).data+(l.flatMap R.ns).length)
noncomputable def os (P:Params)(l:List R):List Obj :=
 boot_o_0 P::boot_o_1 P::boot_o_2 P::o3 P l::boot_o_4 P::boot_o_5 P::boot_o_6 P::boot_o_7 P::boot_o_8 P::boot_o_9 P::boot_o_10 P ::
 tu []::fe (l.flatMap R.tb)::cdo "<module>" "<module>" 182 185 1 0 0 11 false .none .none .none ::
 ⟨.type "frame",none,.plain,#[some (.ref 13),some (.ref 3),some (.ref 3),none,some (.str "__main__" 164),none,some (.ref 0)]⟩::l.flatMap R.os
noncomputable def odd {α:Type}:List α->List α×List α
 | []=>([],[])
 | x::l=>(x::(odd l).2,(odd l).1)
noncomputable def bt:Nat->List Obj->BT
 | 0,_=>.nil
 | _+1,[]=>.nil
 | k+1,x::l=>.node x (bt k (odd l).1) (bt k (odd l).2)
noncomputable abbrev p0:Pos:=⟨0,0,0,0⟩
noncomputable abbrev B0:List Frame:=[topFrame p0]
noncomputable abbrev an:Option Value:=some (.ref 6)
noncomputable def ev (p:Program):Env:={ scope:=p.main.scope,locals:=mainNs,globals:=mainNs,cells:=[],code:=.ref 13,frame:=some 14 }
noncomputable def cE (p:Program):Code:=.body (behindTheImports p) (ev p)
noncomputable def sT (p:Program)(rc:List Rc)(P:Params)(m n tk:Nat)(o:OsState):SharedT:=⟨bt 12 (os P (rs P ((p.main.body.zip rc).take m))),n,{},#[],{},tk,o⟩
noncomputable def hp (p:Program)(rc:List Rc)(m n:Nat)(P:Params):Heap:=absHeap (bt 12 (os P (rs P ((p.main.body.zip rc).take m)))) n {}
noncomputable def Cut (p:Program)(rc:List Rc)(i n t:Nat)(ps:Pos)(k N n' t':Nat)(ps':Pos)(w:World):Prop:=∀ o,segRunT treeTable p w 11 an 1 N (sT p rc w.params i n t o) (piecesOf ((p.main.body.drop i).take k) (ev p) (cE p) ps B0)=some (.next,sT p rc w.params (i+k) n' t' o,cE p,ps')
noncomputable def Ch (p:Program)(rc:List Rc)(m n1 t1:Nat)(i n t:Nat)(ps:Pos)(M:Nat):Prop:=∀ w o,topRun treeTable p w 11 an M (sT p rc w.params i n t o).abs (restOf (p.main.body.drop i) (ev p) (cE p) ps B0)=some (sT p rc w.params m n1 t1 o).abs
theorem cm {p:Program}{rc:List Rc}{m n1 t1 i n t k N n' t' M:Nat}{ps ps':Pos}(c:∀ w,Cut p rc i n t ps k N n' t' ps' w)(h:Ch p rc m n1 t1 (i+k) n' t' ps' M):Ch p rc m n1 t1 i n t ps (N+M):=fun w o=>by
 have x:=piece_app (segRun_of (c w o)) (h w o)
 rw [<- List.drop_drop,List.take_append_drop] at x
 exact x
theorem zL {p:Program}{rc:List Rc}{m n1 t1:Nat}{ps:Pos}(hd:p.main.body.drop m=[]):Ch p rc m n1 t1 m n1 t1 ps 2:=fun w o=>by
 rw [hd]
 exact piece_nil rfl
theorem rJ (w:World):((boot_heap w.params).isNs mainGlobals&&(a21 []:Array GenState).size==0,(boot_heap w.params).objs.size,(boot_heap w.params).nsMap mainGlobals "__annotations__")=(true,11,an):=by kernel_rfl
theorem vg {p q:Program}{loose:List Str}{Xt:Shared->Bool}{α:Type}{Yf:Shared->α}{Ya:World->α}{N M m n1 t1:Nat}{rc:List Rc}
  (e:opening p=plainProg p.main.scope.names) (hN:Nat.ble 600 N=true) (f:∀ s,fenceModules? p s=some s) (hb:behindTheImports p=p.main.body)
  (size:∀ w:World,((boot_heap w.params).isNs mainGlobals&&(a21 []:Array GenState).size==0,(boot_heap w.params).objs.size,(boot_heap w.params).nsMap mainGlobals "__annotations__")=(true,11,an))
  (pre:∀ (w:World) (o:OsState),topGo treeTable p w 11 an 12 ⟨boot_heap w.params,a21 [],boot_drawn,boot_toks,o⟩ (topStub p)=some ((sT p rc w.params 0 15 187 o).abs,⟨denote treeTable (cE p),cE p,p0,B0⟩))
  (blk:∀ (w:World) (o:OsState),segRun treeTable p w 11 an 1 1 (sT p rc w.params 0 15 187 o).abs (blockOf (behindTheImports p) (ev p) (cE p) p0 B0)=some (.next,(sT p rc w.params 0 15 187 o).abs,cE p,p0))
  (ch:Ch p rc m n1 t1 0 15 187 p0 M) (le:Nat.ble (12+(1+M)) N=true)
  (looks:∀ w:World,(fun o=>((staticsOk (importedModules p.main.body) (boot_heap w.params) (hp p rc m n1 w.params)&&namesBound p (hp p rc m n1 w.params)&&gensDone ⟨hp p rc m n1 w.params,#[],{},t1,o⟩&&laidKept (boot_heap w.params) (hp p rc m n1 w.params)),
    openSeen q loose (importedModules p.main.body) Xt true ⟨hp p rc m n1 w.params,#[],{},t1,o⟩,Yf ⟨hp p rc m n1 w.params,#[],{},t1,o⟩))=fun _=>(true,openGood q loose,Ya w)):LeftO p q loose Xt Yf Ya N :=
 LeftO.of_pieces (H₀:=boot_heap) (H₁:=hp p rc m n1) (gs₁:=#[]) (d₁:={}) (k₁:=t1) (boot_open e hN f) size
  (fun w o=>go_top (pre w o) (piece_block (blk w o) (by have x:=ch w o; rw [a0x,<- hb] at x; exact x))) le looks
noncomputable def drec (st:Stmt):PySem.DefRec:=match st with
 | .FunctionDef n a b _ _ _ sc _ _ pos=>⟨n,a,b,sc,pos⟩
 | _=>⟨default,default,[],default,default⟩
theorem eC {α:Type}:∀ (l:List α) (i:Nat),(odd l).1[i]?=l[2 * i]?/\(odd l).2[i]?=l[2 * i+1]?
 | [],i=>by simp [odd]
 | x::l,i=>by
  refine ⟨?_,?_⟩
  ·cases i with
   | zero=>simp [odd]
   | succ j=>rw [show 2 * (j+1)=2 * j+1+1 by omega]; simp only [odd,a0u]; exact (eC l j).2
  ·simp only [odd,a0u]; exact (eC l i).1
theorem lz {α:Type}:∀ (l:List α),(odd l).1.length=(l.length+1) / 2/\(odd l).2.length=l.length / 2
 | []=>by simp [odd]
 | x::l=>by
  have h:=lz l
  simp only [odd,a0c,h.1,h.2]
  exact ⟨by omega,trivial⟩
theorem jX:∀ (k:Nat) (l:List Obj) (a:Nat),l.length < 2 ^ k->(bt k l).get a=l[a]?
 | 0,l,a,h=>by
  have:l=[]:=a2b.mp (by simpa using h)
  subst this; simp [bt,BT.get]
 | k+1,[],a,h=>by simp [bt,BT.get]
 | k+1,x::l,a,h=>by
  have e:2 ^ (k+1)=2 * 2 ^ k:=by rw [a2G]; omega
  have hl:=lz l
  simp only [a0c] at h
  unfold bt
  rw [BT.get_node]
  by_cases h0:a=0
  ·simp [h0]
  ·rw [if_neg h0]
   by_cases h1:a % 2=1
   ·rw [if_pos h1,jX k _ _ (by omega),(eC l (a / 2)).1]
    obtain ⟨b,rfl⟩:∃ b,a=b+1:=⟨a-1,by omega⟩
    rw [a0u]; congr 1; omega
   ·rw [if_neg h1,jX k _ _ (by omega),(eC l (a / 2-1)).2]
    obtain ⟨b,rfl⟩:∃ b,a=b+1:=⟨a-1,by omega⟩
    rw [a0u]; congr 1; omega
noncomputable def lL (p:Program)(rc:List Rc)(m:Nat)(P:Params):List Obj:=os P (rs P ((p.main.body.zip rc).take m))
noncomputable def kK (p:Program)(rc:List Rc)(m:Nat)(as:List Addr)(P:Params):Frag:=as.map fun a=>(a,(lL p rc m P).getD a default)
noncomputable def okO:Option Obj->Bool
 | some ⟨_,_,.freed,_⟩=>false
 | some _=>true
 | none=>false
theorem kj {p:Program}{rc:List Rc}{m:Nat}{P:Params}{a:Addr}{o:Obj}:∀ {as:List Addr},(kK p rc m as P).lookup a=some o->a∈as/\o=(lL p rc m P).getD a default
 | [],h=>by simp [kK] at h
 | b::as,h=>by
  unfold kK at h
  rw [a0m,a1b] at h
  by_cases e:a=b
  ·subst e
   rw [beq_self_eq_true] at h
   exact ⟨a0f ..,(a0C h).symm⟩
  ·rw [beq_false_of_ne e] at h
   have x:=kj (as:=as) h
   exact ⟨a0g _ x.1,x.2⟩
noncomputable def hkk (p:Program)(rc:List Rc)(m n:Nat):Hook where
 α:=Array Obj
 obs s:=s.heap.objs
 val w:=(hp p rc m n w.params).objs
 says w h:=∀ a o,(hp p rc m n w.params).get? a=some o->h.get? a=some o
 of w s e a o x:=by unfold Heap.get? at *; rw [e]; exact x
 keeps w h h' X k a o x:=k _ _ (X a o x)
theorem Ej {p:Program}{rc:List Rc}{m n:Nat}{as:List Addr}{w:World}{h:Heap}(hl:Nat.blt (lL p rc m w.params).length 4096=true)(hc:(as.all fun a=>Nat.blt a n&&okO (lL p rc m w.params)[a]?)=true)
  (Y:(hkk p rc m n).says w h):(kK p rc m as w.params).In h:=fun a o e=>by
 obtain ⟨e1,e2⟩:=kj e
 obtain ⟨c1,c2⟩:=a0H.mp (a06.mp hc a e1)
 refine Y a o ?_
 have c3:a < n:=a1R c1
 have c4:(lL p rc m w.params).length < 2 ^ 12:=a1R hl
 have g:=jX 12 (lL p rc m w.params) a c4
 unfold hp Heap.get?
 rw [absHeap_at,if_pos c3]
 show (match some (((bt 12 (lL p rc m w.params)).get a).getD default) with | some ⟨_,_,.freed,_⟩=>none | o=>o)=some o
 rw [g]
 rw [a0p] at e2
 rw [<- e2]
 cases q:(lL p rc m w.params)[a]? with
 | none=>rw [q] at c2; cases c2
 | some x =>
  rw [q] at c2 e2
  have e3:o=x:=e2
  subst e3
  obtain ⟨_,_,d,_⟩:=o
  cases d<;>first | rfl | cases c2
noncomputable def pmO:Option Obj->Value
 | some ⟨_,_,.func f,_⟩=>f.pyModule
 | _=>.none
noncomputable def rfO:Option (Option Value)->Nat
 | some (some (.ref a))=>a
 | _=>0
noncomputable def tkO:Option (Option Value)->Nat
 | some (some (.int _ t))=>t
 | some (some (.str _ t))=>t
 | _=>0
theorem raw_mk {K:Frag}{x:Str}{st:Stmt}{dV:Value}(h1:nsIn K mainGlobals x=some (some (.ref (rfO (nsIn K mainGlobals x)))))
  (h2:K.lookup (rfO (nsIn K mainGlobals x))=some ⟨.type "function",none,.func (fnOf x x (L2.defArgs st) (L2.defBody st) (L2.defScope st) dV .none .none (pmO (K.lookup (rfO (nsIn K mainGlobals x)))) none (.ref (rfO (nsIn K mainGlobals x)-1)) .none),#[]⟩)
  (h3:codeIn K (.ref (rfO (nsIn K mainGlobals x)-1)) x=true) (h4:keepIn K (.ref (rfO (nsIn K mainGlobals x)))=true):MR.Raw K x st dV:=⟨_,_,_,_,_,_,_,_,_,_,h1,h2,h3,h4⟩
noncomputable def toV:Value->L2.V
 | .bool b=>.bl b
 | .int i _=>.int i
 | .str s _=>.str s
 | .ref a=>.ref a
 | _=>.non
noncomputable def okV:Value->Bool
 | .none=>true
 | .bool _=>true
 | .int _ _=>true
 | .str _ _=>true
 | .ref _=>true
 | _=>false
theorem kY:∀ {v:Value},okV v=true->L2.RelV (toV v) v
 | .none,_=>rfl
 | .bool _,_=>rfl
 | .int _ _,_=>⟨_,rfl⟩
 | .str _ _,_=>⟨_,rfl⟩
 | .ref _,_=>rfl
 | .ellipsis,h=>by cases h
 | .notImplemented,h=>by cases h
 | .float _ _,h=>by cases h
 | .bytes _ _,h=>by cases h
 | .type _,h=>by cases h
 | .builtin _,h=>by cases h
theorem jm:∀ {l:List Value},l.all okV=true->L2.Vals (l.map toV) l
 | [],_=>.nil
 | v::l,h=>by
  rw [a1s,a0H] at h
  exact .cons (kY h.1) (jm h.2)
noncomputable def eK (e:DictEntry):Str×Nat×Value:=match e.key with
 | .str k t=>(k,t,e.val)
 | _=>("",0,e.val)
noncomputable def tE:Option Obj->List (Str×Nat×Value)
 | some o=>(ds o.data).map eK
 | none=>[]
noncomputable def tN:Option Obj->Nat
 | some o=>ep o.data
 | none=>0
noncomputable def enL (P:Params)(l:List (Str×Nat×Value)):List DictEntry:=l.map fun e=>en P e.1 e.2.1 e.2.2
noncomputable def tL (l:List (Str×Nat×Value)):List (Str×L2.V):=l.map fun e=>(e.1,toV e.2.2)
theorem iQ {P:Params}:∀ l:List (Str×Nat×Value),KeysLit P (enL P l)
 | []=>trivial
 | e::l=>⟨⟨_,_,rfl,rfl⟩,iQ l⟩
theorem iK {P:Params}:∀ {l:List (Str×Nat×Value)},(l.all fun e=>okV e.2.2)=true->PySem.Paired (fun (p:Str×L2.V) (e:DictEntry)=>(∃ t,e.key=.str p.1 t)/\L2.RelV p.2 e.val) (tL l) (enL P l)
 | [],_=>.nil
 | e::l,h=>by
  rw [a1s,a0H] at h
  exact .cons ⟨⟨_,rfl⟩,kY h.1⟩ (iK h.2)
theorem tab_mk {K:Frag}{w:World}{x:Str}(h1:nsIn K mainGlobals x=some (some (.ref (rfO (nsIn K mainGlobals x)))))
  (h2:K.lookup (rfO (nsIn K mainGlobals x))=some (di (enL w.params (tE (K.lookup (rfO (nsIn K mainGlobals x))))) (tN (K.lookup (rfO (nsIn K mainGlobals x))))))
  (h3:((tE (K.lookup (rfO (nsIn K mainGlobals x)))).all fun e=>okV e.2.2)=true) (h4:(rfO (nsIn K mainGlobals x)==sysModules)=false):MR.TabRaw K w x (tL (tE (K.lookup (rfO (nsIn K mainGlobals x))))) :=
 ⟨_,_,_,h1,h2,iQ _,iK h3,h4⟩
noncomputable def mr {α β:Type}(f:α->β->Bool):List α->List β->Bool
 | [],[]=>true
 | a::l,b::r=>f a b&&mr f l r
 | _,_=>false
noncomputable def j9 (K:Frag):Nat->M.T->L2.V->Bool
 | _+1,.int i,.int j=>decide (i=j)
 | _+1,.non,.non=>true
 | _+1,.bl a,.bl b=>decide (a=b)
 | _+1,.str x,.str y=>decide (x=y)&&M.sOk x
 | n+1,.tup ts,.ref a=>match K.lookup a with
  | some ⟨.type "tuple",_,.seq its _,_⟩=>Nat.ble its.size 1000&&(its.toList.all okV&&mr (j9 K n) ts (its.toList.map toV))
  | _=>false
 | _,_,_=>false
theorem kv {K:Frag}{n:Nat}(ih:∀ t v,j9 K n t v=true->MR.CstR K t v):∀ {ts:List M.T} {xs:List L2.V},mr (j9 K n) ts xs=true->MR.CstRs K ts xs
 | [],[],_=>MR.cst_nil
 | t::ts,x::xs,h=>by
  unfold mr at h
  rw [a0H] at h
  exact MR.cst_cons (ih _ _ h.1) (kv ih h.2)
 | [],_::_,h=>by cases h
 | _::_,[],h=>by cases h
theorem uB {K:Frag}:∀ n t v,j9 K n t v=true->MR.CstR K t v:=by
 intro n
 induction n with
 | zero=>intro t v h; simp [j9] at h
 | succ n ih =>
  intro t v h
  unfold j9 at h
  split at h
  ·rename_i q; cases q; have e:=of_decide_eq_true h; subst e; exact MR.cst_int _
  ·exact MR.cst_non
  ·have e:=of_decide_eq_true h; subst e; exact MR.cst_bl _
  ·rw [a0H] at h; have e:=of_decide_eq_true h.1; subst e; exact MR.cst_str h.2
  ·rename_i q
   cases q
   split at h
   ·rename_i its k sl q
    rw [a0H,a0H] at h
    have hs:=a1R h.1
    exact MR.cst_tup q rfl rfl (a0z hs (by decide)) (jm h.2.1) (by rw [a0b,a0I]; exact a0z hs (by decide)) (kv ih h.2.2)
   ·cases h
  ·cases h
theorem cst_of {K:Frag}{n:Nat}:∀ {tab:List (Str×M.T)} {T:List (Str×L2.V)},mr (fun (e:Str×M.T) (p:Str×L2.V)=>decide (p.1=e.1)&&j9 K n e.2 p.2) tab T=true->MR.CstL K tab T
 | [],[],_=>trivial
 | e::tab,p::T,h=>by
  unfold mr at h
  rw [a0H,a0H] at h
  exact ⟨⟨of_decide_eq_true h.1.1,uB n _ _ h.1.2⟩,cst_of h.2⟩
 | [],_::_,h=>by cases h
 | _::_,[],h=>by cases h
end TP

namespace A11
open M
open PySem (Str)
noncomputable abbrev q:=Str.ofString
noncomputable def keys_AHEAD:List Str:=[q "num",q "name",q "none",q "let",q "each",q "times"]
noncomputable def tab_AHEAD:List (Str×T):=[(q "num",.str (q "number")),(q "name",.str (q "name")),(q "none",.str (q "kind")),(q "let",.str (q "name")),(q "each",.str (q "name")),(q "times",.str (q "name"))]
noncomputable def tab_BINDING:List (Str×T):=[(q "let",.int 1),(q "each",.int 1),(q "times",.int 2)]
noncomputable def keys_PARTS:List Str:=[q "num",q "yes",q "no",q "name",q "none",q "not",q "first",q "second",q "one",q "upto",q "long",q "sum",q "sums",q "most",q "flat",q "add",q "sub",q "mul",q "div",q "rest",q "less",q "same",q "both",q "pair",q "pick",q "join",q "keep",q "cut",q "let",q "if",q "each",q "times"]
noncomputable def tab_PARTS:List (Str×T):=[(q "num",.int 0),(q "yes",.int 0),(q "no",.int 0),(q "name",.int 0),(q "none",.int 0),(q "not",.int 1),(q "first",.int 1),(q "second",.int 1),(q "one",.int 1),(q "upto",.int 1),(q "long",.int 1),(q "sum",.int 1),(q "sums",.int 1),(q "most",.int 1),(q "flat",.int 1),(q "add",.int 2),(q "sub",.int 2),(q "mul",.int 2),(q "div",.int 2),(q "rest",.int 2),(q "less",.int 2),(q "same",.int 2),(q "both",.int 2),(q "pair",.int 2),(q "pick",.int 2),(q "join",.int 2),(q "keep",.int 2),(q "cut",.int 2),(q "let",.int 2),(q "if",.int 3),(q "each",.int 2),(q "times",.int 3)]
noncomputable def keys_WITHIN:List Str:=[q "num",q "truth",q "pair",q "row"]
noncomputable def tab_WITHIN:List (Str×T):=[(q "num",.int 0),(q "truth",.int 0),(q "pair",.int 2),(q "row",.int 1)]
noncomputable def bM:Fn:={ ps:=1,ns:=0,io:=[],body:=[
  .ret [] (.call 216 [.mv 0,.cst (.int 5)])] }
noncomputable def aW:Fn:={ ps:=2,ns:=1,io:=[],body:=[
  .ite (.q [0,1] []) (.or (.op .eq false [.var 1,.cst (.int 0)]) (.or (.not (.op (.isI ["tuple"]) false [.var 0])) (.op .eq false [.op .len false [.var 0],.cst (.int 0)]))) [
   .ret [] (.cst (.bl false))] [],
  .ite (.q [0] []) (.or (.not (.op (.isI ["str"]) false [.op .ix false [.var 0,.cst (.int 0)]])) (.inT true keys_WITHIN (.op .ix false [.var 0,.cst (.int 0)]))) [
   .ret [] (.cst (.bl false))] [],
  .ite (.q [0] []) (.op .ne false [.op .len false [.var 0],.op .add false [.cst (.int 1),.ixT tab_WITHIN (.op .ix false [.var 0,.cst (.int 0)])]]) [
   .ret [] (.cst (.bl false))] [],
  .ret [1] (.op .all false [.comp false .seq [.op .sl1 false [.mv 0,.cst (.int 1)]] [2] none (.call 216 [.var 2,.op .sub false [.var 1,.cst (.int 1)]])])] }
noncomputable def bS:Fn:={ ps:=2,ns:=0,io:=[],body:=[
  .ite (.q [0] []) (.op .eq false [.op .ix false [.var 0,.cst (.int 0)],.cst (.str (q "num"))]) [
   .ret [] (.call 3 [.mv 1])] [],
  .ite (.q [0] []) (.op .eq false [.op .ix false [.var 0,.cst (.int 0)],.cst (.str (q "truth"))]) [
   .ret [] (.op (.isI ["bool"]) false [.mv 1])] [],
  .ite (.q [0] []) (.op .eq false [.op .ix false [.var 0,.cst (.int 0)],.cst (.str (q "pair"))]) [
   .ret [] (.call 4 [.mv 0,.mv 1])] [],
  .ret [] (.call 5 [.mv 0,.mv 1])] }
noncomputable def bB:Fn:={ ps:=1,ns:=0,io:=[],body:=[
  .ite (.q [0] []) (.or (.not (.op (.isI ["int"]) false [.var 0])) (.op (.isI ["bool"]) false [.var 0])) [
   .ret [] (.cst (.bl false))] [],
  .ret [] (.chain .le .le (.op .neg false [.cst (.int 1000000000000000000)]) (.mv 0) (.cst (.int 1000000000000000000)))] }
noncomputable def bh:Fn:={ ps:=1,ns:=1,io:=[],body:=[
  .ite (.q [0] []) (.or (.not (.op (.isI ["str"]) false [.var 0])) (.not (.chain .le .le (.cst (.int 1)) (.op .len false [.var 0]) (.cst (.int 8))))) [
   .ret [] (.cst (.bl false))] [],
  .ite (.q [0] []) (.or (.inT false keys_PARTS (.var 0)) (.op .isin false [.var 0,.tup [.cst (.str (q "truth")),.cst (.str (q "row"))]])) [
   .ret [] (.cst (.bl false))] [],
  .ret [] (.op .all false [.comp false .chr [.mv 0] [1] none (.chain .leS .leS (.cst (.str (q "a"))) (.var 1) (.cst (.str (q "z"))))])] }
noncomputable def aF:Fn:={ ps:=1,ns:=2,io:=[],body:=[
  .ite (.q [0] []) (.or (.not (.op (.isI ["tuple"]) false [.var 0])) (.op .eq false [.op .len false [.var 0],.cst (.int 0)])) [
   .ret [] (.cst (.bl false))] [],
  .ite (.q [0] []) (.or (.not (.op (.isI ["str"]) false [.op .ix false [.var 0,.cst (.int 0)]])) (.inT true keys_PARTS (.op .ix false [.var 0,.cst (.int 0)]))) [
   .ret [] (.cst (.bl false))] [],
  .asg (.q [0] []) 1 (.call 175 [.op .ix false [.var 0,.cst (.int 0)]]),
  .ite (.q [0] [1]) (.op .ne false [.op .len false [.var 0],.op .add false [.var 1,.ixT tab_PARTS (.op .ix false [.var 0,.cst (.int 0)])]]) [
   .ret [] (.cst (.bl false))] [],
  .ite (.q [0] [1]) (.and (.op .eq false [.var 1,.cst (.int 2)]) (.not (.call 228 [.ixT tab_AHEAD (.op .ix false [.var 0,.cst (.int 0)]),.op .ix false [.var 0,.cst (.int 1)]]))) [
   .ret [] (.cst (.bl false))] [],
  .ret [] (.op .all false [.comp false .seq [.op .sl1 false [.mv 0,.mv 1]] [2] none (.call 227 [.var 2])])] }
noncomputable def ay:Fn:={ ps:=2,ns:=0,io:=[],body:=[
  .ite (.q [0] []) (.op .eq false [.var 0,.cst (.str (q "number"))]) [
   .ret [1] (.and (.call 2 [.tup [.cst (.str (q "num"))],.var 1]) (.op .ge false [.var 1,.cst (.int 0)]))] [],
  .ite (.q [0] []) (.op .eq false [.var 0,.cst (.str (q "kind"))]) [
   .ret [] (.call 215 [.mv 1])] [],
  .ret [] (.call 226 [.mv 1])] }
noncomputable def ba:Fn:={ ps:=1,ns:=0,io:=[],body:=[
  .ret [] (.ifx (.inT false keys_AHEAD (.mv 0)) (.cst (.int 2)) (.cst (.int 1)))] }
noncomputable def c9:Fn:={ ps:=1,ns:=0,io:=[],body:=[
  .ret [0] (.op .sl1 false [.var 0,.call 175 [.op .ix false [.var 0,.cst (.int 0)]]])] }
noncomputable def cw:Fn:={ ps:=1,ns:=0,io:=[],body:=[
  .ret [] (.getT tab_BINDING (.op .ix false [.mv 0,.cst (.int 0)]))] }
noncomputable def cT:Fn:={ ps:=1,ns:=1,io:=[],body:=[
  .asg (.q [] []) 1 (.lst false []),
  .exp (.l [0]) (.call 254 [.var 0,.tup [],.io 1]),
  .ret [] (.mv 1)] }
noncomputable def bp:Fn:={ ps:=3,ns:=2,io:=[2],body:=[
  .forS [0] [] .enmT [.call 176 [.var 0]] [3,4] [
   .exp (.l [1,4]) (.call 254 [.var 4,.op .catT false [.var 1,.tup [.var 3]],.io 2])],
  .app (.q [1] []) 2 (.var 1)] }
noncomputable def aq:Fn:={ ps:=1,ns:=2,io:=[],body:=[
  .ite (.q [0] []) (.or (.not (.op (.isI ["tuple"]) false [.var 0])) (.op .ne false [.op .len false [.var 0],.cst (.int 2)])) [
   .ret [] (.cst (.bl false))] [],
  .ite (.q [0] []) (.or (.not (.call 252 [.op .ix false [.var 0,.cst (.int 0)]])) (.not (.call 227 [.op .ix false [.var 0,.cst (.int 1)]]))) [
   .ret [] (.cst (.bl false))] [],
  .asg (.q [0] []) 1 (.call 253 [.op .ix false [.var 0,.cst (.int 1)]]),
  .ite (.q [1] []) (.or (.op .gt false [.op .len false [.var 1],.cst (.int 200)]) (.op .ge false [.op .max1 false [.comp false .seq [.var 1] [2] none (.op .len false [.var 2])],.cst (.int 20)])) [
   .ret [] (.cst (.bl false))] [],
  .ret [0] (.call 243 [.op .ix false [.var 0,.cst (.int 1)],.call 242 [.op .ix false [.var 0,.cst (.int 0)]]])] }
noncomputable def aY:Fn:={ ps:=1,ns:=1,io:=[],body:=[
  .ite (.q [0] []) (.or (.not (.op (.isI ["tuple"]) false [.var 0])) (.op .gt false [.op .len false [.var 0],.cst (.int 6)])) [
   .ret [] (.cst (.bl false))] [],
  .ite (.q [0] []) (.not (.op .all false [.comp false .seq [.var 0] [1] none (.call 241 [.var 1])])) [
   .ret [] (.cst (.bl false))] [],
  .ret [0] (.op .eq false [.op .lenSet false [.call 242 [.var 0]],.op .len false [.var 0]])] }
noncomputable def bg:Fn:={ ps:=1,ns:=0,io:=[],body:=[
  .ite (.q [0] []) (.or (.not (.op (.isI ["tuple"]) false [.var 0])) (.op .ne false [.op .len false [.var 0],.cst (.int 2)])) [
   .ret [] (.cst (.bl false))] [],
  .ret [0] (.and (.call 226 [.op .ix false [.var 0,.cst (.int 0)]]) (.call 215 [.op .ix false [.var 0,.cst (.int 1)]]))] }
noncomputable def bO:Fn:={ ps:=1,ns:=1,io:=[],body:=[
  .ret [] (.op .tuple false [.comp false .seq [.mv 0] [1] none (.op .ix false [.var 1,.cst (.int 0)])])] }
noncomputable def aK:Fn:={ ps:=2,ns:=3,io:=[],body:=[
  .asg (.q [0] []) 2 (.call 233 [.var 0]),
  .ite (.q [0,1,2] []) (.and (.op .isnot false [.var 2,.cst (.non)]) (.op .isin false [.op .ix false [.var 0,.cst (.int 1)],.var 1])) [
   .ret [] (.cst (.bl false))] [],
  .forS [0] [] .enmT [.call 176 [.var 0]] [3,4] [
   .ite (.q [0,1,2,4] [3]) (.not (.call 243 [.var 4,.ifx (.op .eq false [.var 3,.var 2]) (.op .catT false [.var 1,.tup [.op .ix false [.var 0,.cst (.int 1)]]]) (.var 1)])) [
    .ret [] (.cst (.bl false))] []],
  .ret [] (.cst (.bl true))] }
noncomputable def aT:Fn:={ ps:=2,ns:=1,io:=[],body:=[
  .asg (.q [] [0]) 2 (.op .mod false [.var 0,.cst (.int 6)]),
  .ite (.q [] [1,2]) (.or (.op .eq false [.var 1,.cst (.int 0)]) (.op .lt false [.var 2,.cst (.int 2)])) [
   .ret [] (.op .ix false [.lst false [.tup [.cst (.str (q "num"))],.tup [.cst (.str (q "truth"))]],.op .mod false [.mv 0,.cst (.int 2)]])] [],
  .ite (.q [] [2]) (.op .eq false [.var 2,.cst (.int 2)]) [
   .ret [] (.tup [.cst (.str (q "pair")),.call 171 [.op .fdiv false [.var 0,.cst (.int 6)],.op .sub false [.var 1,.cst (.int 1)]],.call 171 [.op .fdiv false [.var 0,.cst (.int 216)],.op .sub false [.var 1,.cst (.int 1)]]])] [],
  .ret [] (.tup [.cst (.str (q "row")),.call 171 [.op .fdiv false [.mv 0,.cst (.int 6)],.op .sub false [.mv 1,.cst (.int 1)]]])] }
noncomputable def bR:Fn:={ ps:=1,ns:=3,io:=[],body:=[
  .asg (.q [] [0]) 1 (.op .ix false [.lst false [.cst (.str (q "x")),.cst (.str (q "addx")),.cst (.str (q "rowe")),.cst (.str (q "numb")),.cst (.str (q "ab")),.cst (.str (q "z")),.cst (.str (q "abcdefgh")),.cst (.str (q "nots")),.cst (.str (q "truths")),.cst (.str (q "y"))],.op .mod false [.op .fdiv false [.var 0,.cst (.int 5)],.cst (.int 10)]]),
  .asg (.q [] [0]) 2 (.op .ix false [.lst false [.cst (.int 0),.cst (.int 1),.op .pow false [.cst (.int 10),.cst (.int 18)],.cst (.int 5),.op .mod false [.var 0,.op .add false [.op .pow false [.cst (.int 10),.cst (.int 18)],.cst (.int 1)]]],.op .mod false [.op .fdiv false [.var 0,.cst (.int 5)],.cst (.int 5)]]),
  .asg (.q [1] [0,2]) 3 (.lst false [.tup [.cst (.str (q "num")),.var 2],.tup [.cst (.str (q "yes"))],.tup [.cst (.str (q "no"))],.tup [.cst (.str (q "name")),.var 1],.tup [.cst (.str (q "none")),.call 171 [.op .fdiv false [.var 0,.cst (.int 5)],.cst (.int 4)]]]),
  .ret [] (.op .ix false [.mv 3,.op .mod false [.mv 0,.cst (.int 5)]])] }
noncomputable def f_law_tree:Fn:={ ps:=2,ns:=6,io:=[0],body:=[
  .asg (.l []) 2 (.ifx (.op .gt false [.lenV 0,.cst (.int 0)]) (.pop 0 []) (.cst (.int 0))),
  .ite (.q [] [1,2]) (.or (.op .eq false [.var 1,.cst (.int 0)]) (.op .eq false [.op .mod false [.var 2,.cst (.int 5)],.cst (.int 0)])) [
   .ret [] (.call 220 [.op .fdiv false [.mv 2,.cst (.int 5)]])] [],
  .asg (.q [] []) 3 (.lst false [.cst (.str (q "not")),.cst (.str (q "first")),.cst (.str (q "second")),.cst (.str (q "one")),.cst (.str (q "upto")),.cst (.str (q "long")),.cst (.str (q "sum")),.cst (.str (q "sums")),.cst (.str (q "most")),.cst (.str (q "flat")),.cst (.str (q "add")),.cst (.str (q "sub")),.cst (.str (q "mul")),.cst (.str (q "div"))]),
  .asg (.q [3] []) 3 (.op .add false [.var 3,.lst false [.cst (.str (q "rest")),.cst (.str (q "less")),.cst (.str (q "same")),.cst (.str (q "both")),.cst (.str (q "pair")),.cst (.str (q "pick")),.cst (.str (q "join")),.cst (.str (q "keep")),.cst (.str (q "cut")),.cst (.str (q "let")),.cst (.str (q "if")),.cst (.str (q "each")),.cst (.str (q "times"))]]),
  .asg (.q [] [2]) 4 (.op .mod false [.op .fdiv false [.var 2,.cst (.int 5)],.cst (.int 27)]),
  .asg (.q [3] [4]) 5 (.op .add false [.op .add false [.cst (.int 1),.op .int false [.op .gt false [.var 4,.cst (.int 9)]]],.op .int false [.op .isin false [.op .ix false [.var 3,.var 4],.tup [.cst (.str (q "if")),.cst (.str (q "times"))]]]]),
  .asg (.q [3] [4]) 6 (.tup [.op .ix false [.var 3,.var 4]]),
  .ite (.q [3] [4]) (.op .isin false [.op .ix false [.var 3,.var 4],.tup [.cst (.str (q "let")),.cst (.str (q "each")),.cst (.str (q "times"))]]) [
   .asg (.q [6] [2]) 6 (.op .add false [.var 6,.tup [.op .ix false [.lst false [.cst (.str (q "x")),.cst (.str (q "rowy")),.cst (.str (q "addx")),.cst (.str (q "b")),.cst (.str (q "numbs"))],.op .mod false [.op .fdiv false [.var 2,.cst (.int 135)],.cst (.int 5)]]]])] [],
  .forS [] [5] .rng [.var 5] [7] [
   .asg (.l [6]) 6 (.op .add false [.var 6,.tup [.call 229 [.io 0,.op .sub false [.var 1,.cst (.int 1)]]]])],
  .ret [] (.mv 6)] }
noncomputable def bf:Fn:={ ps:=1,ns:=0,io:=[],body:=[
  .ite (.q [0] []) (.op .isin false [.op .ix false [.var 0,.cst (.int 0)],.tup [.cst (.str (q "num")),.cst (.str (q "name")),.cst (.str (q "none"))]]) [
   .ret [] (.op .len false [.mv 0])] [],
  .ret [] (.op .add false [.cst (.int 1),.op .int false [.op .isin false [.op .ix false [.mv 0,.cst (.int 0)],.tup [.cst (.str (q "let")),.cst (.str (q "each")),.cst (.str (q "times"))]]]])] }
noncomputable def bY:Fn:={ ps:=1,ns:=1,io:=[],body:=[
  .ret [0] (.op .add false [.cst (.int 1),.op .sum false [.comp false .seq [.op .sl1 false [.var 0,.call 244 [.var 0]]] [1] none (.call 245 [.var 1])]])] }
noncomputable def bW:Fn:={ ps:=1,ns:=1,io:=[],body:=[
  .ret [0] (.op .add false [.cst (.int 1),.op .max1 false [.op .add false [.lst false [.cst (.int 0)],.comp false .seq [.op .sl1 false [.var 0,.call 244 [.var 0]]] [1] none (.call 246 [.var 1])]]])] }
noncomputable def aR:Fn:={ ps:=2,ns:=3,io:=[],body:=[
  .ite (.q [0,1] []) (.and (.op .isin false [.op .ix false [.var 0,.cst (.int 0)],.tup [.cst (.str (q "let")),.cst (.str (q "each")),.cst (.str (q "times"))]]) (.op .isin false [.op .ix false [.var 0,.cst (.int 1)],.var 1])) [
   .ret [] (.cst (.bl false))] [],
  .asg (.q [0] []) 2 (.call 244 [.var 0]),
  .forS [0] [2] .rng [.var 2,.op .len false [.var 0]] [3] [
   .asg (.q [0] [3]) 4 (.and (.op .eq false [.var 3,.op .sub false [.op .len false [.var 0],.cst (.int 1)]]) (.op .isin false [.op .ix false [.var 0,.cst (.int 0)],.tup [.cst (.str (q "let")),.cst (.str (q "each")),.cst (.str (q "times"))]])),
   .ite (.q [0,1] [3,4]) (.not (.call 247 [.op .ix false [.var 0,.var 3],.ifx (.var 4) (.op .add false [.var 1,.lst false [.op .ix false [.var 0,.cst (.int 1)]]]) (.var 1)])) [
    .ret [] (.cst (.bl false))] []],
  .ret [] (.cst (.bl true))] }
noncomputable def bE:Fn:={ ps:=1,ns:=5,io:=[],body:=[
  .asg (.q [0] []) 1 (.ifx (.op .gt false [.op .len false [.var 0],.cst (.int 0)]) (.op .ix false [.var 0,.cst (.int 0)]) (.cst (.int 0))),
  .asg (.q [] []) 2 (.lst false [.cst (.str (q "x")),.cst (.str (q "q")),.cst (.str (q "rowy")),.cst (.str (q "abcdefgh")),.cst (.str (q "b")),.cst (.str (q "n")),.cst (.str (q "addx")),.cst (.str (q "numbs")),.cst (.str (q "cuts")),.cst (.str (q "zz"))]),
  .asg (.q [] []) 3 (.lst false []),
  .forS [] [1] .rng [.op .mod false [.var 1,.cst (.int 8)]] [4] [
   .asg (.q [] [1,4]) 5 (.op .mod false [.op .add false [.op .mod false [.op .fdiv false [.var 1,.cst (.int 8)],.cst (.int 10)],.op .mul false [.var 4,.op .add false [.cst (.int 1),.op .mod false [.op .fdiv false [.var 1,.cst (.int 80)],.cst (.int 3)]]]],.cst (.int 10)]),
   .app (.q [2] [1,4,5]) 3 (.tup [.op .ix false [.var 2,.var 5],.call 171 [.op .fdiv false [.var 1,.op .add false [.cst (.int 7),.var 4]],.op .add false [.cst (.int 3),.op .int false [.op .eq false [.var 4,.cst (.int 2)]]]]])],
  .ret [] (.op .tuple false [.mv 3])] }
noncomputable def aZ:Fn:={ ps:=2,ns:=3,io:=[],body:=[
  .ite (.q [] [1]) (.op .eq false [.op .mod false [.var 1,.cst (.int 3)],.cst (.int 0)]) [
   .whl (.q [0] [1]) (.op .lt false [.call 246 [.var 0],.op .add false [.cst (.int 17),.op .mod false [.op .fdiv false [.var 1,.cst (.int 3)],.cst (.int 5)]]]) [
    .asg (.q [0] []) 0 (.tup [.cst (.str (q "not")),.var 0])]] [],
  .ite (.q [] [1]) (.op .eq false [.op .mod false [.var 1,.cst (.int 3)],.cst (.int 1)]) [
   .asg (.q [0] [1]) 2 (.op .add false [.lst false [.var 0],.op .mul false [.lst false [.tup [.cst (.str (q "yes"))]],.op .max false [.cst (.int 0),.op .fdiv false [.op .sub false [.op .add false [.cst (.int 197),.op .mod false [.op .fdiv false [.var 1,.cst (.int 3)],.cst (.int 6)]],.call 245 [.var 0]],.cst (.int 2)]]]]),
   .whl (.q [2] []) (.op .gt false [.op .len false [.var 2],.cst (.int 1)]) [
    .asg (.q [2] []) 3 (.comp false .rng [.op .fdiv false [.op .len false [.var 2],.cst (.int 2)]] [4] none (.tup [.cst (.str (q "pair")),.op .ix false [.var 2,.op .mul false [.cst (.int 2),.var 4]],.op .ix false [.var 2,.op .add false [.op .mul false [.cst (.int 2),.var 4],.cst (.int 1)]]])),
    .asg (.q [2,3] []) 2 (.op .add false [.var 3,.op .sl1 false [.var 2,.op .mul false [.cst (.int 2),.op .len false [.var 3]]]])],
   .asg (.q [2] [1]) 0 (.ifx (.op .eq false [.op .mod false [.op .fdiv false [.var 1,.cst (.int 18)],.cst (.int 2)],.cst (.int 0)]) (.op .ix false [.var 2,.cst (.int 0)]) (.tup [.cst (.str (q "not")),.op .ix false [.var 2,.cst (.int 0)]]))] [],
  .ret [] (.mv 0)] }
noncomputable def f_law_amiss:Fn:={ ps:=2,ns:=7,io:=[],body:=[
  .asgT (.q [0] []) [2,3] (.var 0),
  .asg (.q [2,3] []) 4 (.lst false [.lst false [.var 2,.var 3],.tup [.op .list false [.var 2],.var 3],.tup [.var 2,.var 3,.var 2],.tup [.var 2],.cst (.non),.tup [.var 2,.var 2],.tup [.var 3,.var 2]]),
  .asg (.q [] []) 5 (.tup [.cst (.str (q "row")),.tup [.cst (.str (q "row")),.tup [.cst (.str (q "row")),.tup [.cst (.str (q "row")),.tup [.cst (.str (q "row")),.tup [.cst (.str (q "num"))]]]]]]),
  .asg (.q [5] []) 6 (.lst false [.tup [.cst (.str (q "k"))],.tup [.cst (.str (q "k")),.tup [.cst (.str (q "num"))],.cst (.int 1)],.tup [.cst (.str (q "row")),.tup [.cst (.str (q "num"))]],.tup [.cst (.str (q "k")),.tup [.cst (.str (q "nums"))]],.lst false [.cst (.str (q "k")),.tup [.cst (.str (q "num"))]],.tup [.cst (.str (q "k")),.var 5],.tup [.cst (.str (q "ab"))]]),
  .asg (.q [6] []) 6 (.op .add false [.op .add false [.var 6,.comp false .seq [.lst false [.cst (.str (q "add")),.cst (.str (q "x y")),.cst (.str (q "abcdefghi")),.cst (.str (q "")),.cst (.int 5),.cst (.non),.cst (.bl true)]] [7] none (.tup [.var 7,.tup [.cst (.str (q "num"))]])],.lst false [.tup [.lst false [],.tup [.cst (.str (q "num"))]],.tup []]]),
  .asg (.q [2,3,4,6] []) 4 (.op .add false [.op .add false [.var 4,.comp false .seq [.var 6] [8] none (.tup [.op .catT false [.var 2,.tup [.var 8]],.var 3])],.lst false [.tup [.var 2,.lst false [.cst (.str (q "yes"))]],.tup [.var 2,.tup [.lst false []]]]]),
  .ret [4] (.op .ix false [.var 4,.op .mod false [.mv 1,.op .len false [.var 4]]])] }
noncomputable def f_law:Fn:={ ps:=1,ns:=9,io:=[],body:=[
  .asg (.q [0] []) 1 (.call 248 [.var 0]),
  .asg (.q [0] []) 2 (.call 229 [.op .list false [.op .sl2 false [.var 0,.cst (.int 40)]],.cst (.int 6)]),
  .forS [0] [] .seq [.ifx (.op .gt false [.op .len false [.var 0],.cst (.int 0)]) (.op .sl2 false [.var 0,.cst (.int 6)]) (.lst false [.cst (.int 0)])] [3] [
   .asg (.q [2] [3]) 4 (.call 249 [.var 2,.op .fdiv false [.var 3,.cst (.int 5)]]),
   .asg (.q [1] []) 5 (.comp false .seq [.var 1] [8] none (.op .ix false [.var 8,.cst (.int 0)])),
   .asg (.q [1,5] []) 6 (.and (.op .le false [.op .len false [.var 1],.cst (.int 6)]) (.op .eq false [.op .len false [.comp false .seq [.var 5] [9] (some (.op .gt false [.op .countS false [.var 5,.var 9],.cst (.int 1)])) (.var 9)],.cst (.int 0)])),
   .asg (.q [4,5,6] []) 6 (.and (.var 6) (.and (.op .le false [.call 245 [.var 4],.cst (.int 200)]) (.and (.op .le false [.call 246 [.var 4],.cst (.int 20)]) (.call 247 [.var 4,.var 5])))),
   .asg (.q [1,4] []) 7 (.call 255 [.tup [.var 1,.var 4]]),
   .ite (.q [6,7] []) (.or (.not (.op (.isI ["bool"]) false [.var 7])) (.op .ne false [.var 7,.var 6])) [
    .ret [] (.cst (.bl false))] [],
   .ite (.q [1,4] [3]) (.op .isnB false [.call 255 [.call 256 [.tup [.var 1,.var 4],.op .fdiv false [.var 3,.cst (.int 2)]]],.cst (.bl false)]) [
    .ret [] (.cst (.bl false))] []],
  .ret [] (.cst (.bl true))] }
noncomputable def prog:List Fn:=[f_law,zf,bS,bB,zf,zf,zf,zf,zf,zf,zf,zf,zf,zf,zf,zf,zf,zf,zf,zf,zf,zf,zf,zf,zf,zf,zf,zf,zf,zf,zf,zf,zf,zf,zf,zf,zf,zf,zf,zf,zf,zf,zf,zf,zf,zf,zf,zf,zf,zf,zf,zf,zf,zf,zf,zf,zf,zf,zf,zf,zf,zf,zf,zf,zf,zf,zf,zf,zf,zf,zf,zf,zf,zf,zf,zf,zf,zf,zf,zf,zf,zf,zf,zf,zf,zf,zf,zf,zf,zf,zf,zf,zf,zf,zf,zf,zf,zf,zf,zf,zf,zf,zf,zf,zf,zf,zf,zf,zf,zf,zf,zf,zf,zf,zf,zf,zf,zf,zf,zf,zf,zf,zf,zf,zf,zf,zf,zf,zf,zf,zf,zf,zf,zf,zf,zf,zf,zf,zf,zf,zf,zf,zf,zf,zf,zf,zf,zf,zf,zf,zf,zf,zf,zf,zf,zf,zf,zf,zf,zf,zf,zf,zf,zf,zf,zf,zf,zf,zf,zf,zf,aT,zf,zf,zf,ba,c9,zf,zf,zf,zf,zf,zf,zf,zf,zf,zf,zf,zf,zf,zf,zf,zf,zf,zf,zf,zf,zf,zf,zf,zf,zf,zf,zf,zf,zf,zf,zf,zf,zf,zf,zf,zf,zf,zf,bM,aW,zf,zf,zf,bR,zf,zf,zf,zf,zf,bh,aF,ay,f_law_tree,zf,zf,zf,cw,zf,zf,zf,zf,zf,zf,zf,bg,bO,aK,bf,bY,bW,aR,bE,aZ,zf,zf,aY,cT,bp,aq,f_law_amiss]
end A11

set_option compiler.extract_closed false
namespace P11
noncomputable section
open M A11
open PySem (Str)
local macro_rules
 | `(tactic| simp_all only [$ls,*])=>`(tactic| simp only [yc,xn,zG,zT,zk,xm,xf,sC,uL,uj,sv,uh,sL,tK,uC,uE,vh,ve,uP,s8,tD,uX,tM,vc,u6,sj,ur,sr,uA,uJ,sP,oh,q9,u7,vf,sH,t8,jR,nG,kOp,mF,kOr,ph,kC3,kC2,kC1,kBack,kCall,ee,bZ,iN,ja,dD,iX,lI,k9,bb,kX,kT,kT2,kIf,tV,ko,pD,wW,vY,x4,lT,kNx,kRt,kD,uo,qq,okW,then',qm,eJ,trees,aj,ios,putAll,yt,DG,y8,xQ,wY,rS,u3,u0,yh,zV,zl,xP,zM,yj,yL,CL,Bj,AO,AK,Cw,A8,vq,vj,tR,um,Cg,wo,ni,nF,pF,qX,xC,uz,tJ,rA,nU,Ba,AD,B9,Au,qv,qa,pZ,zX,zt,y6,x6,xA,yq,xD,xk,tX,tZ,uw,yG,pW,nY,oq,BQ,ng,qM,vP,CQ,yD,wH,xW,zQ,wQ,yg,Dt,DN,Di,DU,BL,BH,xY,yP,yR,vL,Bi,yp,Bf,sZ,zB,we,r9,k8,AR,BC,zR,yS,xb,zi,qF,qt,qI,Cj,pT,pV,sY,sJ,tj,rW,yC,yI,xI,rf,dE,lZ,lO,lD,xr,xS,x5,xg,yk,wF,yA,xc,zY,oe,nV,xi,wC,at0,at1,at2,at3,at4,a1n,a0T,a0P,a0m,a05,a0Q,List.replicate_zero,reduceIte,if_true,if_false,String.reduceBEq,a1V,a0U,a2A,Bool.and_self,a0J,Bool.and_true,uK,kIo,yY,yO,l6,pY,mO,mf,mL,nA,lF,qf,mw,mS,iT,jy,jF,lH,xw,j6,jN,mN,l9,ka,ml,lC,kf,okS,wB,C8,CI,zD,pE,kg,pU,Bs,wR,uU,vp,CK,yy,Cn,xF,AH,AI,oO,pj,eV,ze,mQ,lW,yr,ke,nr,oK,yU,zF,xK,uk,uu,yb,Ay,Dg,CA,BX,Bo,A9,BU,Cy,DL,BP,Bw,z0,Cz,C0,CY,C2,AL,Dk,D1,En,xN,rM,w8,$ls,*])
noncomputable abbrev C (n:Nat):Call:=callR prog 1000000 1000001 n
theorem je (n:Nat)(ws:List W):C (n+1) 2 ws=runF (C n) bS ws:=rfl
theorem gw (n:Nat)(ws:List W):C (n+1) 3 ws=runF (C n) bB ws:=rfl
theorem b9 (n:Nat)(ws:List W):C (n+1) 171 ws=runF (C n) aT ws:=rfl
theorem fK (n:Nat)(ws:List W):C (n+1) 175 ws=runF (C n) ba ws:=rfl
theorem jk (n:Nat)(ws:List W):C (n+1) 176 ws=runF (C n) c9 ws:=rfl
theorem eZ (n:Nat)(ws:List W):C (n+1) 215 ws=runF (C n) bM ws:=rfl
theorem dF (n:Nat)(ws:List W):C (n+1) 216 ws=runF (C n) aW ws:=rfl
theorem iJ (n:Nat)(ws:List W):C (n+1) 220 ws=runF (C n) bR ws:=rfl
theorem jT (n:Nat)(ws:List W):C (n+1) 226 ws=runF (C n) bh ws:=rfl
theorem aU (n:Nat)(ws:List W):C (n+1) 227 ws=runF (C n) aF ws:=rfl
theorem bo (n:Nat)(ws:List W):C (n+1) 228 ws=runF (C n) ay ws:=rfl
theorem d9 (n:Nat)(ws:List W):C (n+1) 229 ws=runF (C n) f_law_tree ws:=rfl
theorem ju (n:Nat)(ws:List W):C (n+1) 233 ws=runF (C n) cw ws:=rfl
theorem cP (n:Nat)(ws:List W):C (n+1) 241 ws=runF (C n) bg ws:=rfl
theorem ie (n:Nat)(ws:List W):C (n+1) 242 ws=runF (C n) bO ws:=rfl
theorem fQ (n:Nat)(ws:List W):C (n+1) 243 ws=runF (C n) aK ws:=rfl
theorem cJ (n:Nat)(ws:List W):C (n+1) 244 ws=runF (C n) bf ws:=rfl
theorem iE (n:Nat)(ws:List W):C (n+1) 245 ws=runF (C n) bY ws:=rfl
theorem ic (n:Nat)(ws:List W):C (n+1) 246 ws=runF (C n) bW ws:=rfl
theorem gQ (n:Nat)(ws:List W):C (n+1) 247 ws=runF (C n) aR ws:=rfl
theorem gG (n:Nat)(ws:List W):C (n+1) 248 ws=runF (C n) bE ws:=rfl
theorem bK (n:Nat)(ws:List W):C (n+1) 249 ws=runF (C n) aZ ws:=rfl
theorem bL (n:Nat)(ws:List W):C (n+1) 252 ws=runF (C n) aY ws:=rfl
theorem mK (n:Nat)(ws:List W):C (n+1) 253 ws=runF (C n) cT ws:=rfl
theorem fM (n:Nat)(ws:List W):C (n+1) 254 ws=runF (C n) bp ws:=rfl
theorem aD (n:Nat)(ws:List W):C (n+1) 255 ws=runF (C n) aq ws:=rfl
theorem gy (n:Nat)(ws:List W):C (n+1) 256 ws=runF (C n) f_law_amiss ws:=rfl
theorem f6 {α:Type}{tg:List Nat}{f:Env->Res (Option W×Env)}{η:Env}{g:α->List W}(w:α->Option W):∀ (ts:List α) (acc:List W),(∀ x∈ts,∃ η1 η2,a9 tg (g x) η=some η1/\f η1=.ok (w x,η2)/\aj tg η2=η) ->
  aC tg f (ts.map g) η acc=.ok (acc++ts.filterMap w,η)
 | [],acc,_=>by rw [a05,List.filterMap_nil,a0P]; rfl
 | x::ts,acc,h=>by
  obtain ⟨η1,η2,h1,h2,h3⟩:=h x a0f
  rw [a0m]
  show (ofO (a9 tg (g x) η)).bind _=_
  rw [h1]
  show (f η1).bind _=_
  rw [h2]
  show aC tg f (ts.map g) (aj tg η2) (acc++(w x).toList)=_
  rw [h3,f6 w ts _ fun y hy=>h y (a0g _ hy),a0W,a0O]
  cases w x<;>rfl
theorem jC {ts:List T}{j:Nat}(h:j < ts.length):atI ts (j:Int)=some (ts.getD j .non):=atN rfl (by rw [a0p,a0h h]; rfl)
theorem dC {α:Type}{tg:List Nat}{f:Env->Fl}{g:α->List W}(I:List α->Env->Prop):∀ (ts pre:List α) (η:Env),I pre η->(∀ p x r η,pre++ts=p++x::r->I p η->∃ η1 η2,a9 tg (g x) η=some η1/\f η1=.nx η2/\I (p++[x]) η2) ->
  ∃ η',dk tg f (ts.map g) η=.nx η'/\I (pre++ts) η'
 | [],pre,η,h,_=>⟨η,rfl,by rw [a0P]; exact h⟩
 | x::ts,pre,η,h,k=>by
  obtain ⟨η1,η2,h1,h2,h3⟩:=k pre x ts η rfl h
  obtain ⟨η',e,hi⟩:=dC I ts (pre++[x]) η2 h3 fun p y r η e=>k p y r η (by rw [<- e,a0W]; rfl)
  refine ⟨η',?_,by rw [a0W] at hi; exact hi⟩
  rw [a0m]
  show Fl.of _ (ofO (a9 tg (g x) η)) _=_
  rw [h1]
  show Fl.turn (f η1) _=_
  rw [h2]
  exact e
theorem uV {α:Type}(a:α)(r:List α):cut (a::r) (some 1) none=r:=by
 have e:sIx (a::r).length 0 (some 1)=1:=by
  show (if (1:Int) < 0 then ((1:Int)+((a::r).length:Int)).toNat else min (1:Int).toNat (a::r).length)=1
  rw [if_neg (by decide),a0c]
  show min 1 (r.length+1)=1
  omega
 have e2:sIx (a::r).length (a::r).length none=(a::r).length:=rfl
 rw [cut,e,e2]
 exact a1p (by rw [a1a]; omega)
theorem hE {α:Type}(a b:α)(r:List α):cut (a::b::r) (some 2) none=r:=by
 have e:sIx (a::b::r).length 0 (some 2)=2:=by
  show (if (2:Int) < 0 then ((2:Int)+((a::b::r).length:Int)).toNat else min (2:Int).toNat (a::b::r).length)=2
  rw [if_neg (by decide),a0c,a0c]
  show min 2 (r.length+1+1)=2
  omega
 have e2:sIx (a::b::r).length (a::b::r).length none=(a::b::r).length:=rfl
 rw [cut,e,e2]
 exact a1p (by rw [a1a]; omega)
theorem cq (h:Bool)(m n:Md)(ts:List T)(i:Int):oSem .sl1 h [(m,.tup ts),(n,.int i)]=some (.s,.tup (cut ts (some i) none)):=rfl
theorem dn (n:Nat)(s:Str)(m:Md):C (n+1) 175 [(m,.str s)]=.ok ((.d,.int (if keys_AHEAD.contains s then 2 else 1)),[]):=by
 rw [fK,x_run _ _ _ rfl]
 cases h:keys_AHEAD.contains s with
 | true=>simp_all only [ba,h,a1v]
 | false=>simp_all only [ba,h,a1v]
theorem cn:∀ bs:List Bool,aS (bs.map T.bl)=some bs
 | []=>rfl
 | b::bs=>by show (aS (bs.map T.bl)).map (b::·)=_; rw [cn bs]; rfl
theorem aA {α:Type}(f:α->Md)(g:α->T):∀ ts:List α,trees (ts.map fun x=>(f x,g x))=ts.map g
 | []=>rfl
 | x::ts=>by show g x::trees _=g x::ts.map g; rw [aA f g ts]
noncomputable def Cb:Res (W×List W)->Option Bool
 | .ok ((.d,.bl b),[])=>some b
 | _=>none
theorem aV {r:Res (W×List W)}{b:Bool}(h:Cb r=some b):r=.ok ((.d,.bl b),[]):=by
 unfold Cb at h
 split at h
 ·cases h; rfl
 ·cases h
theorem d8 (x:Str):(["str"].any fun c=>isOne c (T.str x))=true:=rfl
theorem bX (ts:List T):(["tuple"].any fun c=>isOne c (T.tup ts))=true:=rfl
theorem CO (i:Int):(["int"].any fun c=>isOne c (T.int i))=true:=rfl
theorem BA (i:Int):(["bool"].any fun c=>isOne c (T.int i))=false:=rfl
theorem AY (i:Bool):(["bool"].any fun c=>isOne c (T.bl i))=true:=rfl
noncomputable def le2 (c:Nat):Bool:=!decide ([c] < (q "a").cps.toList)&&!decide ((q "z").cps.toList < [c])
noncomputable def nmA (x:Str):Bool:=decide (1<=(x.cps.size:Int))&&decide ((x.cps.size:Int)<=8)&&!(keys_PARTS.contains x)&&!([T.str (q "truth"),.str (q "row")].any fun t=>eqT t (.str x))&&(x.cps.toList.map le2).all id
theorem fl2 (x a b:Str):(M.flatT (.str x)&&[T.str a,.str b].all M.flatT)=true:=rfl
theorem jG (n:Nat)(x:Str)(m:Md):C (n+1) 226 [(m,.str x)]=.ok ((.d,.bl (nmA x)),[]):=by
 rw [jT,x_run _ _ _ rfl]
 have c1:∀ w0,aC [1] (bZ (evE (C n) (.chain .leS .leS (.cst (.str (q "a"))) (.var 1) (.cst (.str (q "z")))))) (x.cps.toList.map fun c=>[((.d,.str ⟨#[c]⟩):W)]) [w0,none] []=.ok ([]++x.cps.toList.map (fun c=>((.d,.bl (le2 c)):W)),[w0,none]):=fun w0=>aG _ _ [] fun c hc=>by
  cases h1:decide ([c] < (q "a").cps.toList) with
  | true =>
   have e:le2 c=false:=by unfold le2; rw [h1]; rfl
   rw [e]
   exact ⟨_,[w0,some (.d,.str ⟨#[c]⟩)],rfl,by simp_all only [h1],rfl⟩
  | false =>
   have e:le2 c=!decide ((q "z").cps.toList < [c]):=by unfold le2; rw [h1]; rfl
   rw [e]
   exact ⟨_,[w0,some (.d,.str ⟨#[c]⟩)],rfl,by simp_all only [h1],rfl⟩
 have t1:trees (x.cps.toList.map (fun c=>((.d,.bl (le2 c)):W)))=(x.cps.toList.map le2).map T.bl:=by rw [aA (fun _=>Md.d) (fun u=>T.bl (le2 u)),a0N]; rfl
 unfold nmA
 cases h1:decide (1<=(x.cps.size:Int)) with
 | false=>simp_all only [bh,h1,a0B,d8]
 | true =>
  cases h2:decide ((x.cps.size:Int)<=8) with
  | false=>simp_all only [bh,h1,h2,a0B,a0R,d8]
  | true =>
   cases h3:keys_PARTS.contains x with
   | true=>simp_all only [bh,h1,h2,h3,a0B,a0R,d8,a1v]
   | false =>
    cases h4:[T.str (q "truth"),.str (q "row")].any fun t=>eqT t (.str x) with
    | true=>simp_all only [bh,h1,h2,h3,h4,fl2,a0B,a0R,d8,a1v]
    | false=>simp_all only [bh,h1,h2,h3,h4,fl2,c1,t1,cn,a0B,a0R,d8,a1v]
theorem mE (ws:List W):(trees ws).length=ws.length:=by
 induction ws with
 | nil=>rfl
 | cons w ws ih=>show (trees ws).length+1=_; rw [ih]; rfl
theorem f27:fits 27=true:=rfl
inductive KK:Nat->T->Prop
 | num {j:Nat}:KK (j+1) (.tup [.str (q "num")])
 | truth {j:Nat}:KK (j+1) (.tup [.str (q "truth")])
 | row {j:Nat} {t:T}:KK j t->KK (j+1) (.tup [.str (q "row"),t])
 | pair {j:Nat} {t u:T}:KK j t->KK j u->KK (j+1) (.tup [.str (q "pair"),t,u])
noncomputable abbrev k4:List T:=[.str (q "num"),.str (q "truth"),.str (q "row"),.str (q "pair")]
theorem tI {α:Type}(f:α->Bool)(ps:List α)(h:∀ u∈ps,f u=true):(ps.map f).all id=true:=by
 rw [a06]
 intro b hb
 obtain ⟨u,hu,rfl⟩:=a1k.mp hb
 exact h u hu
theorem eG (n:Nat)(e:Int)(he:(e==0)=false)(s:String)(k:Nat)(hk:keys_WITHIN.contains (q s)=true)(ht:tab_WITHIN.lookup (q s)=some (.int k))(ps:List T)(hl:ps.length=k)
  (hp:∀ u∈ps,∀ m m',C n 216 [(m,u),(m',.int (e-1))]=.ok ((.d,.bl true),[])) (m m':Md) :
  C (n+1) 216 [(m,.tup (.str (q s)::ps)),(m',.int e)]=.ok ((.d,.bl true),[]):=by
 have c1:∀ w0 m1,aC [2] (bZ (evE (C n) (.call 216 [.var 2,.op .sub false [.var 1,.cst (.int 1)]]))) (ps.map fun t=>[((.s,t):W)]) [w0,some (m1,.int e),none] []=.ok ([]++ps.map (fun u=>((.d,.bl true):W)),[w0,some (m1,.int e),none]):=fun w0 m1=>aG _ _ [] fun u hu=>⟨_,[w0,some (m1,.int e),some (.s,u)],rfl,by
  have h:=fun m m'=>hp u hu m m'
  simp_all only [h],rfl⟩
 have t1:trees (ps.map (fun u=>((.d,.bl true):W)))=(ps.map fun _=>true).map T.bl:=by rw [aA (fun _=>Md.d) (fun u=>T.bl true),a0N]; rfl
 have a1:(ps.map fun _=>true).all id=true:=tI _ _ fun _ _=>rfl
 have g1:=uV (T.str (q s)) ps
 have l0:(((T.str (q s)::ps).length:Int)==0)=false:=by rw [a0c]; exact beq_eq_false_iff_ne.mpr (by omega)
 have l1:(!(((T.str (q s)::ps).length:Int)==1+(k:Int)))=false:=by rw [a0c,hl]; simp; omega
 have l2:(!(((T.str (q s)::ps).length:Int)==(k:Int)+1))=false:=by rw [a0c,hl]; simp
 have ef:(keys_WITHIN.contains (q s) != true)=false:=by rw [hk]; rfl
 rw [dF,x_run _ _ _ rfl]
 simp_all only [aW,d8,bX,he,l0,l1,ef,ht,cq,g1,c1,t1,a1,cn]
theorem ql:∀ (j:Nat) (t:T),KK j t->∀ (n:Nat) (e:Int),(j:Int)<=e->∀ m m',C (n+j) 216 [(m,t),(m',.int e)]=.ok ((.d,.bl true),[])
 | 0,_,h,_,_,_,_,_=>nomatch h
 | j+1,_,h,n,e,he,m,m'=>by
  have h0:(e==0)=false:=beq_eq_false_iff_ne.mpr (by omega)
  have ih:=fun (u:T) (hu:KK j u) m m'=>ql j u hu n (e-1) (by omega) m m'
  cases h with
  | num=>exact eG (n+j) e h0 "num" 0 (by decide +kernel) (by kernel_rfl) [] rfl (fun u hu=>nomatch hu) m m'
  | truth=>exact eG (n+j) e h0 "truth" 0 (by decide +kernel) (by kernel_rfl) [] rfl (fun u hu=>nomatch hu) m m'
  | row h1=>exact eG (n+j) e h0 "row" 1 (by decide +kernel) (by kernel_rfl) _ rfl (fun u hu m m'=>by rw [a0t.mp hu]; exact ih _ h1 m m') m m'
  | pair h1 h2=>exact eG (n+j) e h0 "pair" 2 (by decide +kernel) (by kernel_rfl) _ rfl (fun u hu m m'=>by
    rcases a0s.mp hu with rfl | hu
    ·exact ih _ h1 m m'
    ·rw [a0t.mp hu]; exact ih _ h2 m m') m m'
theorem md2 (i:Int)(n:Int)(hn:0 < n):∃ j:Nat,(j:Int) < n/\i % n=(j:Int):=⟨(i % n).toNat,by have:=a2o i (by omega:n≠0); have:=a2B i hn; omega,by have:=a2o i (by omega:n≠0); omega⟩
theorem c6:∀ (k:Nat) (n:Nat) (c:Int),∃ md t,(∀ m m',C (n+k+1) 171 [(m,.int c),(m',.int (k:Int))]=.ok ((md,t),[]))/\KK (k+1) t
 | k,n,c=>by
  obtain ⟨j,hj,ej⟩:=md2 c 6 (by decide)
  obtain ⟨i,hi,ei⟩:=md2 c 2 (by decide)
  have leafc:∀ b:Bool,((((k:Int)==0)=true/\b=true)\/(((k:Int)==0)=false/\decide ((j:Int) < 2)=true/\b=false))->∃ md t,(∀ m m',C (n+k+1) 171 [(m,.int c),(m',.int (k:Int))]=.ok ((md,t),[]))/\KK (k+1) t:=fun b hb=>by
   have hi':i=0\/i=1:=by omega
   have p2:decide ((0:Int) < 2)=true:=rfl
   have p6:decide ((0:Int) < 6)=true:=rfl
   rcases hi' with rfl | rfl
   ·refine ⟨.s,.tup [.str (q "num")],fun m m'=>?_,.num⟩
    rw [b9,x_run _ _ _ rfl]
    have e1:atI [T.tup [.str (q "num")],.tup [.str (q "truth")]] ((0:Nat):Int)=some (.tup [.str (q "num")]):=rfl
    rcases hb with ⟨h1,_⟩ | ⟨h1,h2,_⟩
    ·simp_all only [aT,p2,p6,ej,ei,h1,e1]
    ·simp_all only [aT,p2,p6,ej,ei,h1,h2,e1]
   ·refine ⟨.s,.tup [.str (q "truth")],fun m m'=>?_,.truth⟩
    rw [b9,x_run _ _ _ rfl]
    have e1:atI [T.tup [.str (q "num")],.tup [.str (q "truth")]] ((1:Nat):Int)=some (.tup [.str (q "truth")]):=rfl
    rcases hb with ⟨h1,_⟩ | ⟨h1,h2,_⟩
    ·simp_all only [aT,p2,p6,ej,ei,h1,e1]
    ·simp_all only [aT,p2,p6,ej,ei,h1,h2,e1]
  cases k with
  | zero=>exact leafc true (.inl ⟨rfl,rfl⟩)
  | succ k =>
   have h0:(((k+1:Nat):Int)==0)=false:=beq_eq_false_iff_ne.mpr (by omega)
   by_cases hj2:(j:Int) < 2
   ·exact leafc false (.inr ⟨h0,decide_eq_true hj2,rfl⟩)
   ·have d2:decide ((j:Int) < 2)=false:=decide_eq_false hj2
    have p6:decide ((0:Int) < 6)=true:=rfl
    have p6':decide ((6:Int) < 1073741824)=true:=rfl
    have p216:decide ((216:Int) < 1073741824)=true:=rfl
    have p217:decide ((0:Int) < 216)=true:=rfl
    have ek:((k+1:Nat):Int)-1=(k:Int):=by omega
    by_cases hj3:j=2
    ·subst hj3
     obtain ⟨m1,t1,e1,k1⟩:=c6 k n (c / 6)
     obtain ⟨m2,t2,e2,k2⟩:=c6 k n (c / 216)
     have b2:(((2:Nat):Int)==2)=true:=rfl
     exact ⟨_,.tup [.str (q "pair"),t1,t2],fun m m'=>by rw [show n+(k+1)+1=(n+k+1)+1 by omega,b9,x_run _ _ _ rfl]; simp_all only [aT,p6,p6',p216,p217,ej,h0,d2,b2,ek,e1,e2]; rfl,.pair k1 k2⟩
    ·obtain ⟨m1,t1,e1,k1⟩:=c6 k n (c / 6)
     have b2:((j:Int)==2)=false:=beq_eq_false_iff_ne.mpr (by omega)
     exact ⟨_,.tup [.str (q "row"),t1],fun m m'=>by rw [show n+(k+1)+1=(n+k+1)+1 by omega,b9,x_run _ _ _ rfl]; simp_all only [aT,p6,p6',ej,h0,d2,b2,ek,e1]; rfl,.row k1⟩
noncomputable abbrev LF:List String:=["num","name","none"]
noncomputable abbrev BF:List String:=["let","each","times"]
noncomputable abbrev NF:List String:=["yes","no","not","first","second","one","upto","long","sum","sums","most","flat","add","sub","mul","div","rest","less","same","both","pair","pick","join","keep","cut","if"]
noncomputable def ar (s:String):Nat:=if s∈["yes","no"] then 0 else if s="if" then 3 else if s∈["add","sub","mul","div","rest","less","same","both","pair","pick","join","keep","cut"] then 2 else 1
noncomputable def arB (s:String):Nat:=if s="times" then 3 else 2
noncomputable def iOf:Option T->Option Int
 | some (.int i)=>some i
 | _=>none
theorem dU {o:Option T}{i:Int}(h:iOf o=some i):o=some (.int i):=by
 unfold iOf at h
 split at h
 ·cases h; rfl
 ·cases h
noncomputable def sOf:Option T->Option Str
 | some (.str i)=>some i
 | _=>none
theorem gq {o:Option T}{i:Str}(h:sOf o=some i):o=some (.str i):=by
 unfold sOf at h
 split at h
 ·cases h; rfl
 ·cases h
noncomputable abbrev b3:List T:=[.str (q "let"),.str (q "each"),.str (q "times")]
theorem fl3 (x a b c:Str):(M.flatT (.str x)&&[T.str a,.str b,.str c].all M.flatT)=true:=rfl
theorem inP:∀ s∈NF,(keys_PARTS.contains (q s) != true)=false/\keys_AHEAD.contains (q s)=false/\iOf (tab_PARTS.lookup (q s))=some (ar s:Int):=by decide +kernel
theorem m2:decide ((2:Int).natAbs < 18446744073709551616)=true:=rfl
theorem dh (x:T)(ps:List T):(((x::ps).length:Nat):Int)=(ps.length:Int)+1:=by rw [a0c]; omega
theorem BI (n:Nat)(s:String)(hs:s∈NF)(ps:List T) :
  (ps.length≠ar s->∀ m,C (n+2) 227 [(m,.tup (.str (q s)::ps))]=.ok ((.d,.bl false),[])) /\
  (ps.length=ar s->∀ β:T->Bool,(∀ u∈ps,∀ m,C (n+1) 227 [(m,u)]=.ok ((.d,.bl (β u)),[]))->∀ m,C (n+2) 227 [(m,.tup (.str (q s)::ps))]=.ok ((.d,.bl ((ps.map β).all id)),[])):=by
 obtain ⟨p1,p2,p3⟩:=inP s hs
 have p3:=dU p3
 have ps1:=fun m=>dn n (q s) m
 rw [p2,if_neg a0d] at ps1
 have c0:((((T.str (q s)::ps).length:Nat):Int)==0)=false:=by rw [dh]; exact beq_eq_false_iff_ne.mpr (by omega)
 have s12:((1:Int)==2)=false:=rfl
 refine ⟨fun hl m=>?_,fun hl β hβ m=>?_⟩
 ·have c1:((((T.str (q s)::ps).length:Nat):Int)==1+(ar s:Int))=false:=by rw [dh]; exact beq_eq_false_iff_ne.mpr (by omega)
  have c2:((((T.str (q s)::ps).length:Nat):Int)==(ar s:Int)+1)=false:=by rw [dh]; exact beq_eq_false_iff_ne.mpr (by omega)
  rw [aU,x_run _ _ _ rfl]
  simp_all only [aF,d8,bX,c0,c1,p1,p3,ps1]
 ·have c1:((((T.str (q s)::ps).length:Nat):Int)==1+(ar s:Int))=true:=by rw [dh,hl]; simp; omega
  have c2:((((T.str (q s)::ps).length:Nat):Int)==(ar s:Int)+1)=true:=by rw [dh,hl]; simp
  have g1:=uV (T.str (q s)) ps
  have d1:∀ w0 w1,aC [2] (bZ (evE (C (n+1)) (.call 227 [.var 2]))) (ps.map fun t=>[((.s,t):W)]) [w0,w1,none] []=.ok ([]++ps.map (fun u=>((.d,.bl (β u)):W)),[w0,w1,none]):=fun w0 w1=>aG _ _ [] fun u hu=>⟨_,[w0,w1,some (.s,u)],rfl,by
   have h:=fun m=>hβ u hu m
   simp_all only [h],rfl⟩
  have t1:trees (ps.map (fun u=>((.d,.bl (β u)):W)))=(ps.map β).map T.bl:=by rw [aA (fun _=>Md.d) (fun u=>T.bl (β u)),a0N]; rfl
  rw [aU,x_run _ _ _ rfl]
  simp_all only [aF,d8,bX,c0,c1,p1,p3,ps1,s12,cq,g1,d1,t1,cn]
theorem jJ:∀ s∈BF,(keys_PARTS.contains (q s) != true)=false/\keys_AHEAD.contains (q s)=true/\iOf (tab_PARTS.lookup (q s))=some (arB s:Int)/\sOf (tab_AHEAD.lookup (q s))=some (q "name"):=by decide +kernel
theorem iL (n:Nat)(y:Str)(m m':Md):C (n+2) 228 [(m,.str (q "name")),(m',.str y)]=.ok ((.d,.bl (nmA y)),[]):=by
 have e:=fun m=>jG n y m
 have e1:(q "name"==q "number")=false:=by decide +kernel
 have e2:(q "name"==q "kind")=false:=by decide +kernel
 rw [bo,x_run _ _ _ rfl]
 simp_all only [ay,e,e1,e2]
theorem CC (n:Nat)(s:String)(hs:s∈BF)(y:Str)(ps:List T) :
  (ps.length≠arB s->∀ m,C (n+3) 227 [(m,.tup (.str (q s)::.str y::ps))]=.ok ((.d,.bl false),[])) /\
  (ps.length=arB s->nmA y=true->∀ β:T->Bool,(∀ u∈ps,∀ m,C (n+2) 227 [(m,u)]=.ok ((.d,.bl (β u)),[]))->∀ m,C (n+3) 227 [(m,.tup (.str (q s)::.str y::ps))]=.ok ((.d,.bl ((ps.map β).all id)),[])):=by
 obtain ⟨p1,p2,p3,p4⟩:=jJ s hs
 have p3:=dU p3
 have p4:=gq p4
 have ps1:=fun m=>dn (n+1) (q s) m
 rw [p2,if_pos rfl] at ps1
 have ma:=fun m m'=>iL n y m m'
 have c0:((((T.str (q s)::.str y::ps).length:Nat):Int)==0)=false:=by rw [dh]; exact beq_eq_false_iff_ne.mpr (by omega)
 have s22:((2:Int)==2)=true:=rfl
 refine ⟨fun hl m=>?_,fun hl ha β hβ m=>?_⟩
 ·have c1:((((T.str (q s)::.str y::ps).length:Nat):Int)==2+(arB s:Int))=false:=by rw [dh,dh]; exact beq_eq_false_iff_ne.mpr (by omega)
  have c2:((((T.str (q s)::.str y::ps).length:Nat):Int)==(arB s:Int)+2)=false:=by rw [dh,dh]; exact beq_eq_false_iff_ne.mpr (by omega)
  rw [aU,x_run _ _ _ rfl]
  simp_all only [aF,d8,bX,c0,c1,p1,p3,ps1]
 ·have c1:((((T.str (q s)::.str y::ps).length:Nat):Int)==2+(arB s:Int))=true:=by rw [dh,dh,hl]; simp; omega
  have c2:((((T.str (q s)::.str y::ps).length:Nat):Int)==(arB s:Int)+2)=true:=by rw [dh,dh,hl]; simp; omega
  rw [ha] at ma
  have g1:=hE (T.str (q s)) (.str y) ps
  have d1:∀ w0 w1,aC [2] (bZ (evE (C (n+2)) (.call 227 [.var 2]))) (ps.map fun t=>[((.s,t):W)]) [w0,w1,none] []=.ok ([]++ps.map (fun u=>((.d,.bl (β u)):W)),[w0,w1,none]):=fun w0 w1=>aG _ _ [] fun u hu=>⟨_,[w0,w1,some (.s,u)],rfl,by
   have h:=fun m=>hβ u hu m
   simp_all only [h],rfl⟩
  have t1:trees (ps.map (fun u=>((.d,.bl (β u)):W)))=(ps.map β).map T.bl:=by rw [aA (fun _=>Md.d) (fun u=>T.bl (β u)),a0N]; rfl
  rw [aU,x_run _ _ _ rfl]
  simp_all only [aF,d8,bX,c0,c1,p1,p3,p4,ma,ps1,s22,cq,g1,d1,t1,cn]
theorem eu:∀ s∈LF,(keys_PARTS.contains (q s) != true)=false/\keys_AHEAD.contains (q s)=true/\iOf (tab_PARTS.lookup (q s))=some 0:=by decide +kernel
theorem Dv (a b:T):atI [a,b] 1=some b:=rfl
theorem u5 (n:Nat)(i:Int)(h0:0<=i)(h1:i<=1000000000000000000):∀ m,C (n+5) 227 [(m,.tup [.str (q "num"),.int i])]=.ok ((.d,.bl true),[]):=fun m=>by
 obtain ⟨p1,p2,p3⟩:=eu "num" (by decide)
 have p3:=dU p3
 have ps1:=fun m=>dn (n+3) (q "num") m
 rw [p2,if_pos rfl] at ps1
 have p4:tab_AHEAD.lookup (q "num")=some (.str (q "number")):=gq (by decide +kernel)
 have e4:(q "num"==q "num")=true:=by decide +kernel
 have e5:(q "number"==q "number")=true:=by decide +kernel
 have i1:decide (-1000000000000000000<=i)=true:=decide_eq_true (by omega)
 have i2:decide (i<=1000000000000000000)=true:=decide_eq_true h1
 have i3:decide (0<=i)=true:=decide_eq_true h0
 have w1:∀ m,C (n+2) 3 [(m,.int i)]=.ok ((.d,.bl true),[]):=fun m=>by
  rw [gw,x_run _ _ _ rfl]
  simp_all only [bB,CO,BA,i1,i2]
 have w2:∀ m m',C (n+3) 2 [(m,.tup [.str (q "num")]),(m',.int i)]=.ok ((.d,.bl true),[]):=fun m m'=>by
  rw [je,x_run _ _ _ rfl]
  simp_all only [bS,e4,w1]
 have w3:∀ m m',C (n+4) 228 [(m,.str (q "number")),(m',.int i)]=.ok ((.d,.bl true),[]):=fun m m'=>by
  rw [bo,x_run _ _ _ rfl]
  simp_all only [ay,e5,w2,i3]
 have c0:((([T.str (q "num"),.int i].length:Nat):Int)==0)=false:=rfl
 have c1:((([T.str (q "num"),.int i].length:Nat):Int)==2+0)=true:=rfl
 have c2:((([T.str (q "num"),.int i].length:Nat):Int)==2)=true:=rfl
 have s22:((2:Int)==2)=true:=rfl
 have g1:=hE (T.str (q "num")) (.int i) []
 have pw:(decide ((0:Int)<=18)&&decide ((18:Int)<=1000000)&&decide ((10:Int).natAbs < 18446744073709551616))=true:=rfl
 have pe:(10:Int) ^ (18:Int).toNat=1000000000000000000:=by decide +kernel
 rw [aU,x_run _ _ _ rfl]
 simp_all only [aF,d8,bX,c0,c1,p1,p3,p4,w3,ps1,s22,cq,g1,aC,cn,aS,a2H]
theorem ou (n:Nat)(y:Str)(ha:nmA y=true):∀ m,C (n+5) 227 [(m,.tup [.str (q "name"),.str y])]=.ok ((.d,.bl true),[]):=fun m=>by
 obtain ⟨p1,p2,p3⟩:=eu "name" (by decide)
 have p3:=dU p3
 have ps1:=fun m=>dn (n+3) (q "name") m
 rw [p2,if_pos rfl] at ps1
 have p4:tab_AHEAD.lookup (q "name")=some (.str (q "name")):=gq (by decide +kernel)
 have e1:(q "name"==q "num")=false:=by decide +kernel
 have e5:(q "name"==q "name")=true:=by decide +kernel
 have ma:=fun m m'=>iL (n+2) y m m'
 rw [ha] at ma
 have c0:((([T.str (q "name"),.str y].length:Nat):Int)==0)=false:=rfl
 have c1:((([T.str (q "name"),.str y].length:Nat):Int)==2+0)=true:=rfl
 have c2:((([T.str (q "name"),.str y].length:Nat):Int)==2)=true:=rfl
 have s22:((2:Int)==2)=true:=rfl
 have g1:=hE (T.str (q "name")) (.str y) []
 rw [aU,x_run _ _ _ rfl]
 simp_all only [aF,d8,bX,c0,c1,p1,p3,p4,ma,ps1,s22,cq,g1,aC,cn,aS,a2H]
theorem nC (n:Nat)(k:T)(hk:KK 5 k):∀ m,C (n+9) 227 [(m,.tup [.str (q "none"),k])]=.ok ((.d,.bl true),[]):=fun m=>by
 obtain ⟨p1,p2,p3⟩:=eu "none" (by decide)
 have p3:=dU p3
 have ps1:=fun m=>dn (n+7) (q "none") m
 rw [p2,if_pos rfl] at ps1
 have p4:tab_AHEAD.lookup (q "none")=some (.str (q "kind")):=gq (by decide +kernel)
 have e1:(q "none"==q "num")=false:=by decide +kernel
 have e2:(q "none"==q "name")=false:=by decide +kernel
 have e3:(q "none"==q "none")=true:=by decide +kernel
 have e4:(q "kind"==q "number")=false:=by decide +kernel
 have e5:(q "kind"==q "kind")=true:=by decide +kernel
 have k1:=fun m m'=>ql 5 k hk (n+1) 5 (by decide) m m'
 have w2:∀ m,C (n+7) 215 [(m,k)]=.ok ((.d,.bl true),[]):=fun m=>by
  rw [eZ,x_run _ _ _ rfl]
  simp_all only [bM,k1]
 have w3:∀ m m',C (n+8) 228 [(m,.str (q "kind")),(m',k)]=.ok ((.d,.bl true),[]):=fun m m'=>by
  rw [bo,x_run _ _ _ rfl]
  simp_all only [ay,e4,e5,w2]
 have c0:((([T.str (q "none"),k].length:Nat):Int)==0)=false:=rfl
 have c1:((([T.str (q "none"),k].length:Nat):Int)==2+0)=true:=rfl
 have c2:((([T.str (q "none"),k].length:Nat):Int)==2)=true:=rfl
 have s22:((2:Int)==2)=true:=rfl
 have g1:=hE (T.str (q "none")) k []
 rw [aU,x_run _ _ _ rfl]
 simp_all only [aF,d8,bX,c0,c1,p1,p3,p4,w3,ps1,s22,cq,g1,aC,cn,aS,a2H]
noncomputable abbrev NL:List String:=["x","addx","rowe","numb","ab","z","abcdefgh","nots","truths","y"]
noncomputable abbrev NB:List String:=["x","rowy","addx","b","numbs"]
theorem nlA:∀ s∈NL,nmA (q s)=true:=by decide +kernel
theorem nbA:∀ s∈NB,nmA (q s)=true:=by decide +kernel
inductive WT:Nat->T->Prop
 | num {d:Nat} {i:Int}:0<=i->i<=1000000000000000000->WT (d+1) (.tup [.str (q "num"),.int i])
 | name {d:Nat} {s:String}:s∈NL->WT (d+1) (.tup [.str (q "name"),.str (q s)])
 | none {d:Nat} {k:T}:KK 5 k->WT (d+1) (.tup [.str (q "none"),k])
 | node {d:Nat} {s:String} {ps:List T}:s∈NF->ps.length=ar s->(∀ p∈ps,WT d p)->WT (d+1) (.tup (.str (q s)::ps))
 | bind {d:Nat} {s x:String} {ps:List T}:s∈BF->x∈NB->ps.length=arB s->(∀ p∈ps,WT d p)->WT (d+1) (.tup (.str (q s)::.str (q x)::ps))
noncomputable def Ag (d:Nat)(t:T)(b:Bool):Prop:=∀ n m,C (n+d+12) 227 [(m,t)]=.ok ((.d,.bl b),[])
theorem Ag.up {d d':Nat}{t:T}{b:Bool}(h:Ag d t b)(hd:d<=d'):Ag d' t b:=fun n m=>by
 have:=h (n+(d'-d)) m
 rw [show n+(d'-d)+d+12=n+d'+12 by omega] at this
 exact this
theorem uF {d:Nat}{s:String}{ps:List T}(hs:s∈NF)(hl:ps.length=ar s)(β:T->Bool)(h:∀ p∈ps,Ag d p (β p)):Ag (d+1) (.tup (.str (q s)::ps)) ((ps.map β).all id):=fun n m=>by
 have:=(BI (n+d+11) s hs ps).2 hl β (fun u hu m=>h u hu n m) m
 exact this
theorem sR {d:Nat}{s x:String}{ps:List T}(hs:s∈BF)(hx:x∈NB)(hl:ps.length=arB s)(β:T->Bool)(h:∀ p∈ps,Ag d p (β p)):Ag (d+1) (.tup (.str (q s)::.str (q x)::ps)) ((ps.map β).all id):=fun n m=>by
 have:=(CC (n+d+10) s hs (q x) ps).2 hl (nbA x hx) β (fun u hu m=>h u hu n m) m
 exact this
theorem oM:∀ {d:Nat} {t:T},WT d t->Ag d t true
 | 0,_,h=>nomatch h
 | d+1,_,h=>by
  cases h with
  | num h0 h1=>exact fun n m=>u5 (n+d+8) _ h0 h1 m
  | name hs=>exact fun n m=>ou (n+d+8) _ (nlA _ hs) m
  | none hk=>exact fun n m=>nC (n+d+4) _ hk m
  | node hs hl hp =>
   have:=uF (d:=d) hs hl (fun _=>true) fun p h=>oM (hp p h)
   rw [tI _ _ fun _ _=>rfl] at this
   exact this
  | bind hs hx hl hp =>
   have:=sR (d:=d) hs hx hl (fun _=>true) fun p h=>oM (hp p h)
   rw [tI _ _ fun _ _=>rfl] at this
   exact this
theorem WT.sg {d:Nat}{t:T}(h:WT d t):∃ s r,t=.tup (.str (q s)::r)/\(s∈LF\/s∈BF\/s∈NF):=by
 cases h with
 | num _ _=>exact ⟨_,_,rfl,.inl (by decide)⟩
 | name _=>exact ⟨_,_,rfl,.inl (by decide)⟩
 | none _=>exact ⟨_,_,rfl,.inl (by decide)⟩
 | node hs _ _=>exact ⟨_,_,rfl,.inr (.inr hs)⟩
 | bind hs _ _ _=>exact ⟨_,_,rfl,.inr (.inl hs)⟩
theorem mdj (i:Int)(n:Nat)(hn:0 < n):∃ j:Nat,j < n/\i % (n:Int)=(j:Int):=by
 obtain ⟨j,h1,h2⟩:=md2 i n (by omega)
 exact ⟨j,by omega,h2⟩
noncomputable abbrev Ah:List T:=[.str (q "x"),.str (q "addx"),.str (q "rowe"),.str (q "numb"),.str (q "ab"),.str (q "z"),.str (q "abcdefgh"),.str (q "nots"),.str (q "truths"),.str (q "y")]
theorem rX (n d:Nat)(c:Int):∃ md t,(∀ m,C (n+6) 220 [(m,.int c)]=.ok ((md,t),[]))/\WT (d+1) t:=by
 obtain ⟨j,hj,ej⟩:=mdj (c / 5) 10 (by decide)
 obtain ⟨i,hi,ei⟩:=mdj (c / 5) 5 (by decide)
 obtain ⟨k,hk,ek⟩:=mdj c 5 (by decide)
 obtain ⟨mk,tk,e1,kk⟩:=c6 4 n (c / 5)
 have a1:∃ s,s∈NL/\atI Ah (j:Int)=some (.str (q s)):=by
  have hm:NL.getD j ""∈NL:=by
   rw [a0p,a0h (show j < NL.length from hj)]
   exact a1y _
  refine ⟨NL.getD j "",hm,atN rfl ?_⟩
  have:Ah=NL.map fun s=>T.str (q s):=rfl
  rw [this,a0A,a0h (show j < NL.length from hj),a0p,a0h (show j < NL.length from hj)]
  rfl
 obtain ⟨s,hs,a1⟩:=a1
 have e1':∀ m m',C (n+5) 171 [(m,.int (c / 5)),(m',.int 4)]=.ok ((mk,tk),[]):=e1
 have a2:∃ v,0<=v/\v<=1000000000000000000/\atI [T.int 0,.int 1,.int 1000000000000000000,.int 5,.int (c % (1000000000000000000+1))] (i:Int)=some (.int v):=by
  have h5:i=0\/i=1\/i=2\/i=3\/i=4:=by omega
  rcases h5 with rfl | rfl | rfl | rfl | rfl
  ·exact ⟨0,by decide,by decide,rfl⟩
  ·exact ⟨1,by decide,by decide,rfl⟩
  ·exact ⟨1000000000000000000,by decide,by decide,rfl⟩
  ·exact ⟨5,by decide,by decide,rfl⟩
  ·exact ⟨c % (1000000000000000000+1),a2o _ (by decide),by have:=a2B c (show (0:Int) < 1000000000000000000+1 by decide); omega,rfl⟩
 obtain ⟨v,v0,v1,a2⟩:=a2
 have p5:decide ((0:Int) < 5)=true:=rfl
 have p5':decide ((5:Int) < 1073741824)=true:=rfl
 have p10:decide ((0:Int) < 10)=true:=rfl
 have p18:decide ((0:Int) < 1000000000000000000+1)=true:=rfl
 have pw:(decide ((0:Int)<=18)&&decide ((18:Int)<=1000000)&&decide ((10:Int).natAbs < 18446744073709551616))=true:=rfl
 have pe:(10:Int) ^ (18:Int).toNat=1000000000000000000:=by decide +kernel
 have ej':c / 5 % 10=(j:Int):=ej
 have ei':c / 5 % 5=(i:Int):=ei
 have ek':c % 5=(k:Int):=ek
 have a3:∃ t,WT (d+1) t/\atI [T.tup [.str (q "num"),.int v],.tup [.str (q "yes")],.tup [.str (q "no")],.tup [.str (q "name"),.str (q s)],.tup [.str (q "none"),tk]] (k:Int)=some t:=by
  have h5:k=0\/k=1\/k=2\/k=3\/k=4:=by omega
  rcases h5 with rfl | rfl | rfl | rfl | rfl
  ·exact ⟨_,.num v0 v1,rfl⟩
  ·exact ⟨_,.node (s:="yes") (ps:=[]) (by decide) rfl (by intro p hp; cases hp),rfl⟩
  ·exact ⟨_,.node (s:="no") (ps:=[]) (by decide) rfl (by intro p hp; cases hp),rfl⟩
  ·exact ⟨_,.name hs,rfl⟩
  ·exact ⟨_,.none kk,rfl⟩
 obtain ⟨t,wt,a3⟩:=a3
 exact ⟨_,t,fun m=>by rw [iJ,x_run _ _ _ rfl]; simp_all only [bR,p5,p5',p10,p18,vI,pw,pe,ej',ei',ek',a1,a2,a3,e1']; rfl,wt⟩
theorem Em (ns:List Int)(c:Int):gx (.d,.lst ((ns++[c]).map T.int)) []=some ((.d,.int c),(.d,.lst (ns.map T.int))):=by
 rw [a0Z]
 simp [gx,Md.kid]
theorem uv (n:Nat)(ns:List Int)(w1 w3 w4 w5 w6 w7:Option W):∃ (c:Int) (ns':List Int),evS (C n) (.asg (.l []) 2 (.ifx (.op .gt false [.lenV 0,.cst (.int 0)]) (.pop 0 []) (.cst (.int 0)))) [some (.d,.lst (ns.map T.int)),w1,none,w3,w4,w5,w6,w7]=.nx [some (.d,.lst (ns'.map T.int)),w1,some (.d,.int c),w3,w4,w5,w6,w7]:=by
 rcases List.eq_nil_or_concat ns with rfl | ⟨ns0,c,rfl⟩
 ·have e:decide ((0:Int) < (([]:List Int).map T.int).length)=false:=rfl
  exact ⟨0,[],by simp_all only [a05,a00,e]; rfl⟩
 ·have e:decide ((0:Int) < ((((ns0.concat c).map T.int).length:Nat):Int))=true:=decide_eq_true (by rw [a0b,a2p,a0e,a0v]; omega)
  have e2:=Em ns0 c
  rw [<- a2p] at e2
  refine ⟨c,ns0,?_⟩
  generalize hl:(ns0.concat c).map T.int=l at e e2
  simp_all only [e,e2]
theorem kM (C:Call):∀ (a b:List S) (η:Env),evSs C (a++b) η=(evSs C a η).seq (evSs C b)
 | [],b,η=>rfl
 | s::a,b,η=>by
  show (evS C s η).seq (evSs C (a++b))=((evS C s η).seq (evSs C a)).seq (evSs C b)
  cases evS C s η<;>first | rfl | exact kM C a b _
theorem go1 {C:Call}{a b:List S}{η η':Env}(h:evSs C a η=.nx η'):evSs C (a++b) η=evSs C b η':=by rw [kM,h]; rfl
noncomputable abbrev Bk (f:Fn)(i j:Nat):List S:=(f.body.drop i).take j
noncomputable abbrev g27:List String:=["not","first","second","one","upto","long","sum","sums","most","flat","add","sub","mul","div","rest","less","same","both","pair","pick","join","keep","cut","let","if","each","times"]
noncomputable def S27:List T:=[T.str (q "not"),T.str (q "first"),T.str (q "second"),T.str (q "one"),T.str (q "upto"),T.str (q "long"),T.str (q "sum"),T.str (q "sums"),T.str (q "most"),T.str (q "flat"),T.str (q "add"),T.str (q "sub"),T.str (q "mul"),T.str (q "div"),T.str (q "rest"),T.str (q "less"),T.str (q "same"),T.str (q "both"),T.str (q "pair"),T.str (q "pick"),T.str (q "join"),T.str (q "keep"),T.str (q "cut"),T.str (q "let"),T.str (q "if"),T.str (q "each"),T.str (q "times")]
theorem eS:[T.str (q "not"),T.str (q "first"),T.str (q "second"),T.str (q "one"),T.str (q "upto"),T.str (q "long"),T.str (q "sum"),T.str (q "sums"),T.str (q "most"),T.str (q "flat"),T.str (q "add"),T.str (q "sub"),T.str (q "mul"),T.str (q "div"),T.str (q "rest"),T.str (q "less"),T.str (q "same"),T.str (q "both"),T.str (q "pair"),T.str (q "pick"),T.str (q "join"),T.str (q "keep"),T.str (q "cut"),T.str (q "let"),T.str (q "if"),T.str (q "each"),T.str (q "times")]=S27:=rfl
theorem C7:∀ j < 27,(g27.getD j ""∈NF/\(b3.any fun t=>eqT t (.str (q (g27.getD j ""))))=false/\1+b2i (decide ((9:Int) < (j:Int)))+b2i ([T.str (q "if"),.str (q "times")].any fun t=>eqT t (.str (q (g27.getD j ""))))=(ar (g27.getD j ""):Int)) \/
  (g27.getD j ""∈BF/\(b3.any fun t=>eqT t (.str (q (g27.getD j ""))))=true/\1+b2i (decide ((9:Int) < (j:Int)))+b2i ([T.str (q "if"),.str (q "times")].any fun t=>eqT t (.str (q (g27.getD j ""))))=(arB (g27.getD j ""):Int)):=by decide +kernel
theorem Ed (j:Nat)(hj:j < 27):atI S27 (j:Int)=some (.str (q (g27.getD j ""))):=by
 refine atN rfl ?_
 have:S27=g27.map fun s=>T.str (q s):=rfl
 rw [this,a0A,a0h (show j < g27.length from hj),a0p,a0h (show j < g27.length from hj)]
 rfl
noncomputable abbrev nb5:List T:=[.str (q "x"),.str (q "rowy"),.str (q "addx"),.str (q "b"),.str (q "numbs")]
theorem at5 (j:Nat)(hj:j < 5):atI nb5 (j:Int)=some (.str (q (NB.getD j ""))):=by
 refine atN rfl ?_
 have:nb5=NB.map fun s=>T.str (q s):=rfl
 rw [this,a0A,a0h (show j < NB.length from hj),a0p,a0h (show j < NB.length from hj)]
 rfl
theorem rh (n:Nat)(w0 w1:Option W)(c:Int)(j:Nat)(s:String)(mn:Int)(b:Bool)(ej:c / 5 % 27=(j:Int))(a1:atI S27 (j:Int)=some (.str (q s)))(hb:(b3.any fun t=>eqT t (.str (q s)))=b)(hm:1+b2i (decide ((9:Int) < (j:Int)))+b2i ([T.str (q "if"),.str (q "times")].any fun t=>eqT t (.str (q s)))=mn):evSs (C n) (Bk f_law_tree 2 5) [w0,w1,some (.d,.int c),none,none,none,none,none]=.nx [w0,w1,some (.d,.int c),some (.o .s,.lst S27),some (.d,.int j),some (.d,.int mn),some (.d,.tup [.str (q s)]),none]:=by
 have p5:decide ((0:Int) < 5)=true:=rfl
 have p5':decide ((5:Int) < 1073741824)=true:=rfl
 have p27:decide ((0:Int) < 27)=true:=rfl
 simp_all only [Bk,f_law_tree,a0o,a0x,a0q,a0D,a0c,a00,a2C,f27,eS,p5,p5',p27,ej,a1,fl2,fl3,hb,hm]
theorem vt (n:Nat)(w0 w1 w5:Option W)(c:Int)(j:Nat)(s:String)(a1:atI S27 (j:Int)=some (.str (q s))):(b3.any fun t=>eqT t (.str (q s)))=true->∃ x∈NB,∃ m3 m6,evSs (C n) (Bk f_law_tree 7 1) [w0,w1,some (.d,.int c),some (.o .s,.lst S27),some (.d,.int j),w5,some (.d,.tup [.str (q s)]),none]=.nx [w0,w1,some (.d,.int c),some (m3,.lst S27),some (.d,.int j),w5,some (m6,.tup [.str (q s),.str (q x)]),none]:=fun hb=>by
 obtain ⟨k,hk,ek⟩:=mdj (c / 135) 5 (by decide)
 have ek':c / 135 % 5=(k:Int):=ek
 have a2:=at5 k hk
 have hm:NB.getD k ""∈NB:=by
  rw [a0p,a0h (show k < NB.length from hk)]
  exact a1y _
 have p5:decide ((0:Int) < 5)=true:=rfl
 have p135:decide ((0:Int) < 135)=true:=rfl
 have p135':decide ((135:Int) < 1073741824)=true:=rfl
 have f2:(fits (1+1)&&!([T.str (q s)]:List T).isEmpty)=true:=rfl
 generalize NB.getD k ""=x at a2 hm
 exact ⟨x,hm,_,_,by simp_all only [Bk,f_law_tree,a0o,a0x,a0q,a0D,a0c,a00,a09,p5,p135,p135',ek',a1,a2,fl3,hb,f2]; rfl⟩
theorem zc (n:Nat)(w0 w1 w2 w5 w6:Option W)(j:Nat)(s:String)(a1:atI S27 (j:Int)=some (.str (q s))):(b3.any fun t=>eqT t (.str (q s)))=false->∃ m3,evSs (C n) (Bk f_law_tree 7 1) [w0,w1,w2,some (.o .s,.lst S27),some (.d,.int j),w5,w6,none]=.nx [w0,w1,w2,some (m3,.lst S27),some (.d,.int j),w5,w6,none]:=fun hb=>by
 exact ⟨_,by simp_all only [Bk,f_law_tree,a0o,a0x,a0q,a0D,a1,fl3,hb]; rfl⟩
noncomputable abbrev TB:List S:=[.asg (.l [6]) 6 (.op .add false [.var 6,.tup [.call 229 [.io 0,.op .sub false [.var 1,.cst (.int 1)]]]])]
noncomputable def Dr (L l:Nat):Prop:=∀ ns:List Int,∃ md t ns',C L 229 [(.d,.lst (ns.map T.int)),(.d,.int (l:Int))]=.ok ((md,t),[(.d,.lst ((ns':List Int).map T.int))])/\WT (l+1) t
theorem kH (L l:Nat)(ih:Dr L l)(w2 w3 w4 w5:Option W)(p0:List T)(h0:p0.isEmpty=false)(hp:p0.length<=2)(mn:Nat)(hn:mn<=3)(ns:List Int)(m6:Md):∃ ns' m7 rs o7,rs.length=mn/\(∀ p∈rs,WT (l+1) p) /\
  dk [7] (evSs (C L) TB) ((a0M mn).map fun (k:Nat)=>[((.d,.int k):W)]) [some (.d,.lst (ns.map T.int)),some (.d,.int ((l+1:Nat):Int)),w2,w3,w4,w5,some (m6,.tup p0),none]=.nx [some (.d,.lst ((ns':List Int).map T.int)),some (.d,.int ((l+1:Nat):Int)),w2,w3,w4,w5,some (m7,.tup (p0++rs)),o7]:=by
 obtain ⟨η',lp,ns',m7,rs,o7,hl,hw,rfl⟩:=dC (tg:=[7]) (f:=evSs (C L) TB) (g:=fun (k:Nat)=>[((.d,.int k):W)])
  (fun pre η=>∃ (ns':List Int) (m7:Md) (rs:List T) (o7:Option W),rs.length=pre.length/\(∀ p∈rs,WT (l+1) p)/\η=[some (.d,.lst (ns'.map T.int)),some (.d,.int ((l+1:Nat):Int)),w2,w3,w4,w5,some (m7,.tup (p0++rs)),o7])
  (a0M mn) [] [some (.d,.lst (ns.map T.int)),some (.d,.int ((l+1:Nat):Int)),w2,w3,w4,w5,some (m6,.tup p0),none] ⟨ns,m6,[],none,rfl,(by intro p hp; cases hp),by rw [a0P]⟩ (fun p k r η hp' ⟨ns',m7,rs,o7,hl,hw,he⟩=>by
   subst he
   have hpl:=congrArg a0V hp'
   simp only [a0T,a1i,a0e,a0c] at hpl
   obtain ⟨md,t,ns2,e2,wt⟩:=ih ns'
   have es:((l+1:Nat):Int)-1=(l:Int):=by omega
   have f3:(fits ((p0++rs).length+[t].length)&&!(p0++rs).isEmpty)=true:=by
    rw [a0j]
    refine ⟨decide_eq_true ?_,?_⟩
    ·rw [a0e,a0v]
     show _<=16777215
     omega
    ·cases p0 with
     | nil=>cases h0
     | cons=>rfl
   refine ⟨_,_,rfl,?_,ns2,.s,rs++[t],some (.d,.int (k:Int)),by rw [a0e,a0e,hl]; rfl,?_,rfl⟩
   ·have ea:p0++rs++[t]=p0++(rs++[t]):=a0W _ _ _
    simp_all only [es,e2,f3,ea]
   ·intro p hp
    rcases a0S.mp hp with hp | hp
    ·exact hw p hp
    ·rw [a0t.mp hp]; exact wt)
 rw [a0T,a1i] at hl
 exact ⟨ns',m7,rs,o7,hl,hw,lp⟩
theorem wz {mn:Nat}(h:mn<=3):(decide ((mn:Int).natAbs < 4611686018427387904)&&fits mn)=true/\(mn:Int).toNat=mn:=by
 have e:(mn:Int).toNat=mn:=by omega
 refine ⟨?_,e⟩
 rw [a0j]
 exact ⟨decide_eq_true (by omega),decide_eq_true (by show _<=16777215; omega)⟩
theorem ar3 (s:String):ar s<=3:=by
 unfold ar
 repeat' split
 all_goals omega
theorem CF (s:String):arB s<=3:=by
 unfold arB
 split<;>omega
theorem lg (n:Nat)(w0 w1 w2 w3 w4 w6:Option W)(mn:Nat)(hn:mn<=3){ns':List Int}{w1' w2' w3' w4' w5' o7:Option W}{m7:Md}{ts:List T}(lp:dk [7] (evSs (C n) TB) ((a0M mn).map fun (k:Nat)=>[((.d,.int k):W)]) [w0,w1,w2,w3,w4,some (.d,.int mn),w6,none]=.nx [some (.d,.lst (ns'.map T.int)),w1',w2',w3',w4',w5',some (m7,.tup ts),o7]):∃ md η,evSs (C n) (f_law_tree.body.drop 8) [w0,w1,w2,w3,w4,some (.d,.int mn),w6,none]=.rt (md,.tup ts) (some (.d,.lst (ns'.map T.int))::η):=by
 obtain ⟨r1,r2⟩:=wz hn
 exact ⟨_,_,by simp_all only [f_law_tree,a0o,a0x,r1,r2,lp]; rfl⟩
theorem BG (w:W)(w0:W)(η:Env):Fl.out [0] (.rt w (some w0::η))=.ok (w,[w0]):=rfl
theorem kC:∀ (l n:Nat),Dr (n+l+8) l
 | l,n,ns=>by
  obtain ⟨c,ns1,h1⟩:=uv (n+l+7) ns (some (.d,.int (l:Int))) none none none none none
  have p5:decide ((0:Int) < 5)=true:=rfl
  have p5':decide ((5:Int) < 1073741824)=true:=rfl
  have leafc:((((l:Int)==0)=true)\/((((l:Int)==0)=false)/\((c % 5==0)=true)))->∃ md t ns',C (n+l+8) 229 [(.d,.lst (ns.map T.int)),(.d,.int (l:Int))]=.ok ((md,t),[(.d,.lst ((ns':List Int).map T.int))])/\WT (l+1) t:=fun hb=>by
   obtain ⟨md,t,e,wt⟩:=rX (n+l+1) l (c / 5)
   rw [d9,x_run _ _ _ rfl]
   rcases hb with h2 | ⟨h2,h3⟩
   ·exact ⟨_,t,ns1,by simp_all only [f_law_tree,h1,h2,p5,p5',e]; rfl,wt⟩
   ·exact ⟨_,t,ns1,by simp_all only [f_law_tree,h1,h2,h3,p5,p5',e]; rfl,wt⟩
  cases l with
  | zero=>exact leafc (.inl rfl)
  | succ l =>
   have h2:(((l+1:Nat):Int)==0)=false:=beq_eq_false_iff_ne.mpr (by omega)
   cases h3:c % 5==0 with
   | true=>exact leafc (.inr ⟨h2,h3⟩)
   | false =>
    have ih:Dr (n+l+8) l:=fun ns=>kC l n ns
    obtain ⟨j,hj,ej⟩:=mdj (c / 5) 27 (by decide)
    have a1:=Ed j hj
    have hs:=C7 j hj
    generalize g27.getD j ""=s at a1 hs
    rw [show n+(l+1)+7=n+l+8 by omega] at h1
    have hA:evSs (C (n+l+8)) (Bk f_law_tree 0 2) [some (.d,.lst (ns.map T.int)),some (.d,.int ((l+1:Nat):Int)),none,none,none,none,none,none]=.nx [some (.d,.lst (ns1.map T.int)),some (.d,.int ((l+1:Nat):Int)),some (.d,.int c),none,none,none,none,none]:=by
     simp_all only [Bk,f_law_tree,a0o,a0x,a0q,a0D,h1,h2,h3,p5]
    rw [show n+(l+1)+8=(n+l+8)+1 by omega,d9,x_run _ _ _ rfl]
    rw [show f_law_tree.body=Bk f_law_tree 0 2++(Bk f_law_tree 2 5++(Bk f_law_tree 7 1++f_law_tree.body.drop 8)) from rfl]
    show ∃ md t ns',Fl.out [0] (evSs (C (n+l+8)) (Bk f_law_tree 0 2++(Bk f_law_tree 2 5++(Bk f_law_tree 7 1++f_law_tree.body.drop 8))) [some (.d,.lst (ns.map T.int)),some (.d,.int ((l+1:Nat):Int)),none,none,none,none,none,none])=.ok ((md,t),[(.d,.lst ((ns':List Int).map T.int))])/\WT (l+1+1) t
    rw [go1 hA]
    rcases hs with ⟨hs,hb,hm⟩ | ⟨hs,hb,hm⟩
    ·rw [go1 (rh (n+l+8) _ _ c j s (ar s:Int) false ej a1 hb hm)]
     obtain ⟨m3,hB⟩:=zc (n+l+8) (some (.d,.lst (ns1.map T.int))) (some (.d,.int ((l+1:Nat):Int))) (some (.d,.int c)) (some (.d,.int (ar s:Int))) (some (.d,.tup [.str (q s)])) j s a1 hb
     rw [go1 hB]
     obtain ⟨ns',m7,rs,o7,hl,hw,lp⟩:=kH (n+l+8) l ih (some (.d,.int c)) (some (m3,.lst S27)) (some (.d,.int j)) (some (.d,.int (ar s:Int))) [.str (q s)] rfl (by show 1<=2; omega) (ar s) (ar3 s) ns1 .d
     obtain ⟨md,η,e⟩:=lg (n+l+8) _ _ _ _ _ _ (ar s) (ar3 s) lp
     rw [e,BG]
     exact ⟨md,_,ns',rfl,.node hs hl hw⟩
    ·rw [go1 (rh (n+l+8) _ _ c j s (arB s:Int) true ej a1 hb hm)]
     obtain ⟨x,hx,m3,m6,hB⟩:=vt (n+l+8) (some (.d,.lst (ns1.map T.int))) (some (.d,.int ((l+1:Nat):Int))) (some (.d,.int (arB s:Int))) c j s a1 hb
     rw [go1 hB]
     obtain ⟨ns',m7,rs,o7,hl,hw,lp⟩:=kH (n+l+8) l ih (some (.d,.int c)) (some (m3,.lst S27)) (some (.d,.int j)) (some (.d,.int (arB s:Int))) [.str (q s),.str (q x)] rfl (by show 2<=2; omega) (arB s) (CF s) ns1 m6
     obtain ⟨md,η,e⟩:=lg (n+l+8) _ _ _ _ _ _ (arB s) (CF s) lp
     rw [e,BG]
     exact ⟨md,_,ns',rfl,.bind hs hx hl hw⟩
theorem jI (n:Nat)(s:Str)(r:List T)(m:Md):C (n+1) 233 [(m,.tup (.str s::r))]=.ok ((.s,(tab_BINDING.lookup s).getD .non),[]):=by
 rw [ju,x_run _ _ _ rfl]
 simp_all only [cw]
theorem ahN:∀ s∈NF,keys_AHEAD.contains (q s)=false:=by decide +kernel
theorem nM (n:Nat)(s:String)(hs:s∈NF)(ps:List T)(m:Md):C (n+2) 176 [(m,.tup (.str (q s)::ps))]=.ok ((.s,.tup ps),[]):=by
 have p:=fun m=>dn n (q s) m
 rw [ahN s hs,if_neg a0d] at p
 have c:=uV (T.str (q s)) ps
 rw [jk,x_run _ _ _ rfl]
 simp_all only [c9,p,cq,c]
theorem dW (n:Nat)(s:String)(hs:keys_AHEAD.contains (q s)=true)(x:T)(ps:List T)(m:Md):C (n+2) 176 [(m,.tup (.str (q s)::x::ps))]=.ok ((.s,.tup ps),[]):=by
 have p:=fun m=>dn n (q s) m
 rw [hs,if_pos rfl] at p
 have c:=hE (T.str (q s)) x ps
 rw [jk,x_run _ _ _ rfl]
 simp_all only [c9,p,cq,c]
noncomputable abbrev lf3:List T:=[.str (q "num"),.str (q "name"),.str (q "none")]
theorem stL (n:Nat)(s:String)(hs:s∈LF)(x:T)(m:Md):C (n+1) 244 [(m,.tup [.str (q s),x])]=.ok ((.d,.int 2),[]):=by
 have h1:(lf3.any fun t=>eqT t (.str (q s)))=true:=(by decide +kernel:∀ s∈LF,(lf3.any fun t=>eqT t (.str (q s)))=true) s hs
 have c2:((([T.str (q s),x].length:Nat):Int))=2:=rfl
 rw [cJ,x_run _ _ _ rfl]
 simp_all only [bf,h1,fl3,c2]
theorem stN (n:Nat)(s:String)(hs:s∈NF)(r:List T)(m:Md):C (n+1) 244 [(m,.tup (.str (q s)::r))]=.ok ((.d,.int 1),[]):=by
 obtain ⟨h1,h2⟩:=(by decide +kernel:∀ s∈NF,(lf3.any fun t=>eqT t (.str (q s)))=false/\(b3.any fun t=>eqT t (.str (q s)))=false) s hs
 have e1:(1:Int)+b2i false=1:=rfl
 rw [cJ,x_run _ _ _ rfl]
 simp_all only [bf,h1,h2,fl3,e1]
theorem stB (n:Nat)(s:String)(hs:s∈BF)(r:List T)(m:Md):C (n+1) 244 [(m,.tup (.str (q s)::r))]=.ok ((.d,.int 2),[]):=by
 obtain ⟨h1,h2⟩:=(by decide +kernel:∀ s∈BF,(lf3.any fun t=>eqT t (.str (q s)))=false/\(b3.any fun t=>eqT t (.str (q s)))=true) s hs
 have e1:(1:Int)+b2i true=2:=rfl
 rw [cJ,x_run _ _ _ rfl]
 simp_all only [bf,h1,h2,fl3,e1]
noncomputable def bz:T->List T
 | .tup (.str s::r)=>if keys_AHEAD.contains s then r.drop 1 else r
 | _=>[]
theorem gB (s:String)(hs:keys_AHEAD.contains (q s)=true)(x:T)(ps:List T):bz (.tup (.str (q s)::x::ps))=ps:=if_pos hs
theorem jD (s:String)(hs:keys_AHEAD.contains (q s)=false)(ps:List T):bz (.tup (.str (q s)::ps))=ps:=if_neg (by rw [hs]; exact a0d)
theorem dP {d:Nat}{t:T}(h:WT (d+1) t):∃ s r k ps,t=.tup (.str (q s)::r)/\(∀ n m,C (n+2) 176 [(m,t)]=.ok ((.s,.tup ps),[]))/\(∀ n m,C (n+1) 244 [(m,t)]=.ok ((.d,.int k),[]))/\cut (T.str (q s)::r) (some k) none=ps/\bz t=ps/\ps.length<=3/\∀ p∈ps,WT d p:=by
 cases h with
 | num h0 h1=>exact ⟨"num",_,2,[],rfl,fun n m=>dW n "num" (eu "num" (by decide)).2.1 _ [] m,fun n m=>stL n "num" (by decide) _ m,hE _ _ [],gB "num" (eu "num" (by decide)).2.1 _ [],by decide,fun p hp=>nomatch hp⟩
 | name hs=>exact ⟨"name",_,2,[],rfl,fun n m=>dW n "name" (eu "name" (by decide)).2.1 _ [] m,fun n m=>stL n "name" (by decide) _ m,hE _ _ [],gB "name" (eu "name" (by decide)).2.1 _ [],by decide,fun p hp=>nomatch hp⟩
 | none hk=>exact ⟨"none",_,2,[],rfl,fun n m=>dW n "none" (eu "none" (by decide)).2.1 _ [] m,fun n m=>stL n "none" (by decide) _ m,hE _ _ [],gB "none" (eu "none" (by decide)).2.1 _ [],by decide,fun p hp=>nomatch hp⟩
 | node hs hl hp=>exact ⟨_,_,1,_,rfl,fun n m=>nM n _ hs _ m,fun n m=>stN n _ hs _ m,uV _ _,jD _ (ahN _ hs) _,by rw [hl]; exact ar3 _,hp⟩
 | bind hs hx hl hp=>exact ⟨_,_,2,_,rfl,fun n m=>dW n _ (jJ _ hs).2.1 _ _ m,fun n m=>stB n _ hs _ m,hE _ _ _,gB _ (jJ _ hs).2.1 _ _,by rw [hl]; unfold arB; split<;>decide,hp⟩
noncomputable def cz (f:T->List (List Nat)):Nat->List T->List (List Nat)
 | _,[]=>[]
 | i,p::ps=>(f p).map (i::·)++cz f (i+1) ps
noncomputable def ax:Nat->T->List (List Nat)
 | 0,_=>[]
 | d+1,t=>cz (ax d) 0 (bz t)++[[]]
theorem eY (f:T->List (List Nat)):∀ (ps:List T) (i:Nat),(cz f i ps).length=(ps.map fun p=>(f p).length).sum
 | [],_=>rfl
 | p::ps,i=>by rw [cz,a0e,a0b,eY f ps (i+1),a0m,a1m]
theorem lx (g:T->Nat):∀ ps:List T,intsOf (ps.map fun u=>T.int (g u:Nat))=some (ps.map fun u=>((g u:Nat):Int))
 | []=>rfl
 | p::ps=>by
  have ih:=lx g ps
  rw [a0m,a0m]
  simp only [intsOf,ih,a2q,a1z]
theorem Bc (g:T->Nat):∀ ps:List T,(ps.map fun u=>((g u:Nat):Int)).sum=(((ps.map g).sum:Nat):Int)
 | []=>rfl
 | p::ps=>by rw [a0m,a1m,Bc g ps,a0m,a1m]; omega
theorem gH:∀ (d:Nat) (t:T),WT d t->∀ n m,C (n+d+1) 245 [(m,t)]=.ok ((.d,.int ((ax d t).length:Nat)),[])
 | 0,_,h,_,_=>nomatch h
 | d+1,t,h,n,m=>by
  obtain ⟨s,r,k,ps,rfl,h1,h2,h3,h4,h5,h6⟩:=dP h
  have c1:∀ w0,aC [1] (bZ (evE (C (n+d+1)) (.call 245 [.var 1]))) (ps.map fun t=>[((.s,t):W)]) [w0,none] []=.ok ([]++ps.map (fun u=>((.d,.int ((ax d u).length:Nat)):W)),[w0,none]):=fun w0=>aG _ _ [] fun u hu=>⟨_,[w0,some (.s,u)],rfl,by
   have h:=fun m=>gH d u (h6 u hu) n m
   simp_all only [h],rfl⟩
  have t1:trees (ps.map (fun u=>((.d,.int ((ax d u).length:Nat)):W)))=ps.map (fun u=>T.int ((ax d u).length:Nat)):=aA (fun _=>Md.d) _ ps
  have t2:=lx (fun u=>(ax d u).length) ps
  have t3:=Bc (fun u=>(ax d u).length) ps
  have h2':=fun m=>h2 (n+d) m
  have e:(1:Int)+(((ps.map fun u=>(ax d u).length).sum:Nat):Int)=((ax (d+1) (.tup (.str (q s)::r))).length:Nat):=by
   rw [ax,h4,a0e,eY]
   simp only [a0c,a00]
   omega
  rw [<- e,show n+(d+1)+1=n+d+1+1 by omega,iE,x_run _ _ _ rfl]
  simp_all only [bY,h2',cq,h3,c1,t1,t2,t3]
noncomputable def mxN:List Nat->Nat
 | []=>0
 | a::l=>max a (mxN l)
noncomputable def dpF:Nat->T->Nat
 | 0,_=>0
 | d+1,t=>1+mxN ((bz t).map (dpF d))
theorem mxI (l:List Nat):maxI ((0:Int)::l.map fun (k:Nat)=>(k:Int))=(mxN l:Nat):=by
 have key:∀ (l:List Nat) (a:Nat),maxI ((a:Int)::l.map fun (k:Nat)=>(k:Int))=((max a (mxN l):Nat):Int):=by
  intro l
  induction l with
  | nil=>intro a; simp [maxI,mxN]
  | cons b l ih =>
   intro a
   show max (a:Int) (maxI ((b:Int)::l.map fun (k:Nat)=>(k:Int)))=_
   rw [ih b,mxN]
   omega
 have:=key l 0
 rw [a3c] at this
 exact this
theorem gP:∀ (d:Nat) (t:T),WT d t->∀ n m,C (n+d+1) 246 [(m,t)]=.ok ((.d,.int (dpF d t:Nat)),[])
 | 0,_,h,_,_=>nomatch h
 | d+1,t,h,n,m=>by
  obtain ⟨s,r,k,ps,rfl,h1,h2,h3,h4,h5,h6⟩:=dP h
  have c1:∀ w0,aC [1] (bZ (evE (C (n+d+1)) (.call 246 [.var 1]))) (ps.map fun t=>[((.s,t):W)]) [w0,none] []=.ok ([]++ps.map (fun u=>((.d,.int (dpF d u:Nat)):W)),[w0,none]):=fun w0=>aG _ _ [] fun u hu=>⟨_,[w0,some (.s,u)],rfl,by
   have h:=fun m=>gP d u (h6 u hu) n m
   simp_all only [h],rfl⟩
  have t1:trees (ps.map (fun u=>((.d,.int (dpF d u:Nat)):W)))=ps.map (fun u=>T.int (dpF d u:Nat)):=aA (fun _=>Md.d) _ ps
  have t2:intsOf (T.int 0::ps.map fun u=>T.int (dpF d u:Nat))=some (0::ps.map fun u=>((dpF d u:Nat):Int)):=by
   have:=lx (dpF d) ps
   simp only [intsOf,this,a2q,a1z]
  have t3:maxI ((0:Int)::ps.map fun u=>((dpF d u:Nat):Int))=(mxN (ps.map (dpF d)):Nat):=by
   have:=mxI (ps.map (dpF d))
   rw [a0N] at this
   exact this
  have h2':=fun m=>h2 (n+d) m
  have f1:fits ([T.int 0].length+(ps.map fun u=>T.int (dpF d u:Nat)).length)=true:=by
   rw [a0b]
   have:ps.length=0\/ps.length=1\/ps.length=2\/ps.length=3:=by omega
   rcases this with e | e | e | e<;>rw [e]<;>rfl
  have e:(1:Int)+((mxN (ps.map (dpF d)):Nat):Int)=((dpF (d+1) (.tup (.str (q s)::r)):Nat):Int):=by
   rw [dpF,h4]; omega
  rw [<- e,show n+(d+1)+1=n+d+1+1 by omega,ic,x_run _ _ _ rfl]
  simp_all only [bW,h2',cq,h3,c1,t1,t2,t3,f1,List.singleton_append,List.isEmpty_cons]
theorem jU:∀ a b:List Nat,mxN (a++b)=max (mxN a) (mxN b)
 | [],b=>(a3c _).symm
 | x::a,b=>by rw [a1n,mxN,jU a b,mxN]; omega
theorem qR (i:Nat):∀ L:List (List Nat),L≠[]->mxN ((L.map (i::·)).map a0V)=mxN (L.map a0V)+1
 | [],h=>absurd rfl h
 | [a],_=>by simp [mxN]
 | a::b::L,_=>by
  have ih:=qR i (b::L) (by simp)
  rw [a0m,a0m,mxN,ih,a0m (f:=a0V) (a:=a),mxN,a0c]
  omega
theorem pX {d:Nat}{t:T}(h:WT d t):ax d t≠[]:=by
 cases d with
 | zero=>exact nomatch h
 | succ d=>rw [ax]; exact fun e=>absurd (congrArg a0V e) (by rw [a0e]; simp)
theorem Aq (d:Nat):∀ (ps:List T) (i:Nat),(∀ p∈ps,ax d p≠[]/\mxN ((ax d p).map a0V)+1=dpF d p)->mxN ((cz (ax d) i ps).map a0V)=mxN (ps.map (dpF d))
 | [],_,_=>rfl
 | p::ps,i,h=>by
  obtain ⟨h1,h2⟩:=h p a0f
  rw [cz,a0Z,jU,qR i _ h1,h2,Aq d ps (i+1) fun q hq=>h q (a0g _ hq),a0m,mxN]
theorem qY:∀ (d:Nat) (t:T),WT d t->mxN ((ax d t).map a0V)+1=dpF d t
 | 0,_,h=>nomatch h
 | d+1,t,h=>by
  obtain ⟨s,r,k,ps,rfl,h1,h2,h3,h4,h5,h6⟩:=dP h
  rw [ax,dpF,h4,a0Z,jU,Aq d ps 0 fun p hp=>⟨pX (h6 p hp),qY d p (h6 p hp)⟩]
  simp only [a0m,a05,a00,mxN]
  omega
noncomputable abbrev nT (l:List Nat):List T:=l.map fun (i:Nat)=>T.int (i:Int)
noncomputable abbrev plT (pl:List Nat)(L:List (List Nat)):List T:=L.map fun l=>T.tup (nT (pl++l))
noncomputable abbrev PB:List S:=[
   .exp (.l [1,4]) (.call 254 [.var 4,.op .catT false [.var 1,.tup [.var 3]],.io 2])]
theorem Et (pl:List Nat)(i:Nat)(hb:pl.length<=1000)(m n:Md):oSem .catT false [(m,.tup (nT pl)),(n,.tup [.int (i:Int)])]=some (.s,.tup (nT (pl++[i]))):=by
 show (if fits ((nT pl).length+[T.int (i:Int)].length)=true then some ((.s,.tup (nT pl++[.int (i:Int)])):W) else none)=_
 have hf:fits ((nT pl).length+[T.int (i:Int)].length)=true:=decide_eq_true (by rw [a0b,a0v]; show _<=16777215; omega)
 rw [if_pos hf,nT,nT,a0Z]
 rfl
theorem vw {l d:Nat}{t:T}{pl:List Nat}(hb:pl.length<=1000):∀ (ps:List T) (i:Nat) (ts:List T) (μ m0 m1:Md) (o3 o4:Option W),μ≠.s ->
  (∀ p∈ps,∀ (i:Nat) (ts:List T) (μ m m':Md),μ≠.s->ts.length+(ax d p).length<=100000->C l 254 [(m,p),(m',.tup (nT (pl++[i]))),(μ,.lst ts)]=.ok ((.d,.non),[(.o .s,.lst (ts++plT (pl++[i]) (ax d p)))])) ->
  ts.length+(cz (ax d) i ps).length<=100000 ->
  ∃ μ' m0' m1' o3' o4',μ'≠.s/\dk [3,4] (evSs (C l) PB) (cR .s i ps) [some (m0,t),some (m1,.tup (nT pl)),some (μ,.lst ts),o3,o4]=.nx [some (m0',t),some (m1',.tup (nT pl)),some (μ',.lst (ts++plT pl (cz (ax d) i ps))),o3',o4']
 | [],i,ts,μ,m0,m1,o3,o4,hμ,_,_=>⟨μ,m0,m1,o3,o4,hμ,by rw [cz]; show Fl.nx _=_; rw [plT,a05,a0P]⟩
 | p::ps,i,ts,μ,m0,m1,o3,o4,hμ,h,hl=>by
  rw [cz,a0e,a0b] at hl
  have e:=fun m m'=>h p a0f i ts μ m m' hμ (by omega)
  have cc:=fun m n=>Et pl i hb m n
  have step:∃ m0' m1' o3' o4',evSs (C l) PB [some (m0,t),some (m1,.tup (nT pl)),some (μ,.lst ts),some (.d,.int (i:Int)),some (.s,p)]=.nx [some (m0',t),some (m1',.tup (nT pl)),some (.o .s,.lst (ts++plT (pl++[i]) (ax d p))),o3',o4']:=⟨_,_,_,_,by simp_all only [cc,e]; rfl⟩
  obtain ⟨m0',m1',o3',o4',step⟩:=step
  obtain ⟨μ',n0,n1,n3,n4,hμ',ih⟩:=vw (t:=t) hb ps (i+1) (ts++plT (pl++[i]) (ax d p)) (.o .s) m0' m1' o3' o4' (by simp) (fun q hq=>h q (a0g _ hq)) (by rw [a0e,a0b]; omega)
  refine ⟨μ',n0,n1,n3,n4,hμ',?_⟩
  have eq:ts++plT pl (cz (ax d) i (p::ps))=ts++plT (pl++[i]) (ax d p)++plT pl (cz (ax d) (i+1) ps):=by
   rw [cz,plT,a0Z,a0N,a0W]
   congr 2
   refine a1A fun l _=>?_
   simp [a0W]
  rw [eq]
  exact (congrArg (Fl.turn · _) step).trans ih
theorem gV:∀ (d:Nat) (t:T),WT d t->∀ (n:Nat) (pl:List Nat) (ts:List T) (μ m m':Md),μ≠.s->pl.length+d<=1000->ts.length+(ax d t).length<=100000 ->
  C (n+d+3) 254 [(m,t),(m',.tup (nT pl)),(μ,.lst ts)]=.ok ((.d,.non),[(.o .s,.lst (ts++plT pl (ax d t)))])
 | 0,_,h,_,_,_,_,_,_,_,_,_=>nomatch h
 | d+1,t,h,n,pl,ts,μ,m,m',hμ,hb,hl=>by
  obtain ⟨s,r,k,ps,rfl,h1,h2,h3,h4,h5,h6⟩:=dP h
  have hp:=fun m=>h1 (n+d+1) m
  rw [ax,h4,a0e,a0v] at hl
  have lp:∀ m0 m1,∃ μ' m0' m1' o3' o4',μ'≠.s/\dk [3,4] (evSs (C (n+d+3)) PB) (cR .s 0 ps) [some (m0,.tup (.str (q s)::r)),some (m1,.tup (nT pl)),some (μ,.lst ts),none,none]=.nx [some (m0',.tup (.str (q s)::r)),some (m1',.tup (nT pl)),some (μ',.lst (ts++plT pl (cz (ax d) 0 ps))),o3',o4']:=fun m0 m1 =>
   vw (d:=d) (by omega) ps 0 ts μ m0 m1 none none hμ (fun p hp i ts μ m m' hμ hl=>gV d p (h6 p hp) n (pl++[i]) ts μ m m' hμ (by rw [a0e,a0v]; omega) hl) (by omega)
  obtain ⟨μ',a0,a1,a3,a4,hμ',lp2⟩:=lp .s m'
  have e2:ts++plT pl (ax (d+1) (.tup (.str (q s)::r)))=ts++plT pl (cz (ax d) 0 ps)++[.tup (nT pl)]:=by
   rw [ax,h4,plT,a0Z,<- a0W]
   simp
  have ap:∀ m1:Md,fv (μ',.lst (ts++plT pl (cz (ax d) 0 ps))) (.s,.tup (nT pl))=some (.o .s,.lst (ts++plT pl (cz (ax d) 0 ps)++[.tup (nT pl)])):=fun _=>by
   have hf:(ts++plT pl (cz (ax d) 0 ps)).length < LIM:=by rw [a0e,a0b]; show _ < 16777215; omega
   cases μ' with
   | s=>exact absurd rfl hμ'
   | d=>show (if _ then _ else _)=_; rw [if_pos hf]; rfl
   | o x=>show (if _ then _ else _)=_; rw [if_pos hf]; cases x<;>rfl
  have ck:eB (some (μ',T.lst (ts++plT pl (cz (ax d) 0 ps))))=.ok ():=by
   cases μ' with
   | s=>exact absurd rfl hμ'
   | _=>rfl
  rw [e2,show n+(d+1)+3=(n+d+3)+1 by omega,fM,x_run _ _ _ rfl]
  simp_all only [bp,hp,lp2,ap .s,ck]
theorem DH (L:List (List Nat)):plT [] L=L.map fun l=>T.tup (nT l):=rfl
theorem lG (d:Nat)(t:T)(h:WT d t)(hd:d<=1000)(hl:(ax d t).length<=100000)(n:Nat)(m:Md):C (n+d+4) 253 [(m,t)]=.ok ((.o .s,.lst (plT [] (ax d t))),[]):=by
 have e1:=fun m m'=>gV d t h n [] [] .d m m' (by simp) (by simpa using hd) (by simpa using hl)
 have e2:=fun m m'=>gV d t h n [] [] (.o .d) m m' (by simp) (by simpa using hd) (by simpa using hl)
 have e3:=fun m m'=>gV d t h n [] [] (.o .s) m m' (by simp) (by simpa using hd) (by simpa using hl)
 rw [show nT []=[] from rfl,a0T] at e1 e2 e3
 rw [mK,x_run _ _ _ rfl]
 simp_all only [cT,e1,e2,e3]
noncomputable abbrev aI (bd:List Str):List T:=bd.map T.str
theorem tbN:∀ s∈NF,tab_BINDING.lookup (q s)=none:=fun s hs=>by
 have:∀ s∈NF,(tab_BINDING.lookup (q s)).isSome=false:=by decide +kernel
 cases h:tab_BINDING.lookup (q s) with
 | none=>rfl
 | some t=>have:=this s hs; rw [h] at this; cases this
theorem tbL:∀ s∈LF,tab_BINDING.lookup (q s)=none:=fun s hs=>by
 have:∀ s∈LF,(tab_BINDING.lookup (q s)).isSome=false:=by decide +kernel
 cases h:tab_BINDING.lookup (q s) with
 | none=>rfl
 | some t=>have:=this s hs; rw [h] at this; cases this
noncomputable def wh (s:String):Nat:=if s="times" then 2 else 1
theorem tbB:∀ s∈BF,tab_BINDING.lookup (q s)=some (.int (wh s:Int)):=fun s hs=>by
 have:∀ s∈BF,iOf (tab_BINDING.lookup (q s))=some (wh s:Int):=by decide +kernel
 exact dU (this s hs)
theorem ya (bd:List Str)(x:Str)(hb:bd.length<=1000)(m n:Md):oSem .catT false [(m,.tup (aI bd)),(n,.tup [.str x])]=some (.s,.tup (aI (bd++[x]))):=by
 show (if fits ((aI bd).length+[T.str x].length)=true then some ((.s,.tup (aI bd++[.str x])):W) else none)=_
 have hf:fits ((aI bd).length+[T.str x].length)=true:=decide_eq_true (by rw [a0b,a0v]; show _<=16777215; omega)
 rw [if_pos hf,aI,aI,a0Z]
 rfl
noncomputable def whT:Option Nat->T
 | some j=>.int (j:Int)
 | none=>.non
theorem eR:whT none=.non:=rfl
theorem fu (j:Nat):whT (some j)=.int (j:Int):=rfl
theorem flS (x:Str):∀ bd:List Str,(M.flatT (.str x)&&(aI bd).all M.flatT)=true
 | []=>rfl
 | b::bd=>flS x bd
theorem anS (x:Str):∀ bd:List Str,((aI bd).any fun t=>eqT t (.str x))=bd.contains x
 | []=>rfl
 | b::bd=>by
  rw [aI,a0m,a17,anS x bd,a2z]
  congr 1
  show (b==x)=(x==b)
  exact a2l.mpr (by simp only [beq_iff_eq]; exact eq_comm)
noncomputable abbrev BWB:List S:=[
   .ite (.q [0,1,2,4] [3]) (.not (.call 243 [.var 4,.ifx (.op .eq false [.var 3,.var 2]) (.op .catT false [.var 1,.tup [.op .ix false [.var 0,.cst (.int 1)]]]) (.var 1)])) [
    .ret [] (.cst (.bl false))] []]
noncomputable def cY (F:List Str->T->Bool)(w:Option Nat)(x:Str)(bd:List Str):Nat->List T->Bool
 | _,[]=>true
 | i,p::ps=>F (if w=some i then bd++[x] else bd) p&&cY F w x bd (i+1) ps
theorem vN {l:Nat}{t:List T}{F:List Str->T->Bool}{w:Option Nat}{x:Str}{bd:List Str}{L:Nat}(hL:L<=1000)(hb:bd.length+1<=L)(hx:w=none\/∃ y,t=y::.str x::t.drop 2):∀ (ps:List T) (i:Nat) (m0 m1 m3:Md) (o4 o5:Option W),
  (∀ p∈ps,∀ bd,bd.length<=L->∀ m m',C l 243 [(m,p),(m',.tup (aI bd))]=.ok ((.d,.bl (F bd p)),[])) ->
  ∃ η',dk [3,4] (evSs (C l) BWB) (cR .s i ps) [some (m0,.tup t),some (m1,.tup (aI bd)),some (m3,whT w),o4,o5]=if cY F w x bd i ps then .nx η' else .rt (.d,.bl false) η'
 | [],i,m0,m1,m3,o4,o5,_=>⟨_,rfl⟩
 | p::ps,i,m0,m1,m3,o4,o5,h=>by
  have step:∀ b,F (if w=some i then bd++[x] else bd) p=b->∃ m0' m1' m3' o4' o5',evSs (C l) BWB [some (m0,.tup t),some (m1,.tup (aI bd)),some (m3,whT w),some (.d,.int (i:Int)),some (.s,p)]=(if b then Fl.nx else Fl.rt (.d,.bl false)) [some (m0',.tup t),some (m1',.tup (aI bd)),some (m3',whT w),o4',o5']:=fun b hf=>by
   cases w with
   | none =>
    rw [if_neg (by simp)] at hf
    have e:=fun m m'=>h p a0f bd (by omega) m m'
    rw [hf] at e
    have en:∀ m n,oSem .eq false [(m,.int (i:Int)),(n,.non)]=some (.d,.bl false):=fun _ _=>rfl
    cases b with
    | true=>exact ⟨_,_,_,_,_,by simp_all only [eR,fu,en,e]; rfl⟩
    | false=>exact ⟨_,_,_,_,_,by simp_all only [eR,fu,en,e]; rfl⟩
   | some j =>
    obtain ⟨y,hy⟩:=hx.resolve_left (by simp)
    have a1:atI t 1=some (.str x):=by rw [hy]; exact at1 y (.str x) _
    by_cases hij:j=i
    ·subst hij
     rw [if_pos rfl] at hf
     have e:=fun m m'=>h p a0f (bd++[x]) (by rw [a0e,a0v]; omega) m m'
     rw [hf] at e
     have en:((j:Int)==(j:Int))=true:=by simp
     have cc:=fun m n=>ya bd x (by omega) m n
     cases b with
     | true=>exact ⟨_,_,_,_,_,by simp_all only [eR,fu,en,a1,cc,e]; rfl⟩
     | false=>exact ⟨_,_,_,_,_,by simp_all only [eR,fu,en,a1,cc,e]; rfl⟩
    ·rw [if_neg (by simp; omega)] at hf
     have e:=fun m m'=>h p a0f bd (by omega) m m'
     rw [hf] at e
     have en:((i:Int)==(j:Int))=false:=beq_eq_false_iff_ne.mpr (by omega)
     cases b with
     | true=>exact ⟨_,_,_,_,_,by simp_all only [eR,fu,en,e]; rfl⟩
     | false=>exact ⟨_,_,_,_,_,by simp_all only [eR,fu,en,e]; rfl⟩
  obtain ⟨m0',m1',m3',o4',o5',step⟩:=step _ rfl
  rw [cY]
  cases hb2:F (if w=some i then bd++[x] else bd) p with
  | true =>
   rw [hb2] at step
   obtain ⟨η',ih⟩:=vN hL hb hx ps (i+1) m0' m1' m3' o4' o5' fun q hq=>h q (a0g _ hq)
   rw [a0J]
   exact ⟨η',(congrArg (Fl.turn · _) step).trans ih⟩
  | false =>
   rw [hb2] at step
   exact ⟨_,(congrArg (Fl.turn · _) step).trans rfl⟩
theorem qd {n d:Nat}{s:String}{r ps:List T}{F:List Str->T->Bool}{w:Option Nat}{x:Str}{bd:List Str}(hb:bd.length+(d+1)<=1000)(hw:(tab_BINDING.lookup (q s)).getD .non=whT w)(hx:w=none\/∃ y,T.str (q s)::r=y::.str x::(T.str (q s)::r).drop 2)
  (hp:∀ m,C (n+d+3) 176 [(m,.tup (.str (q s)::r))]=.ok ((.s,.tup ps),[])) (h:∀ p∈ps,∀ bd,bd.length+d<=1000->∀ m m',C (n+d+3) 243 [(m,p),(m',.tup (aI bd))]=.ok ((.d,.bl (F bd p)),[])) (m m':Md) :
  C (n+(d+1)+3) 243 [(m,.tup (.str (q s)::r)),(m',.tup (aI bd))]=.ok ((.d,.bl ((!(w.isSome&&bd.contains x))&&cY F w x bd 0 ps)),[]):=by
 have hbn:=fun m=>jI (n+d+2) (q s) r m
 rw [hw] at hbn
 rw [show n+d+2+1=n+d+3 from rfl] at hbn
 have lp':∀ m0 m1 m3,∃ η',dk [3,4] (evSs (C (n+d+3)) BWB) (cR .s 0 ps) [some (m0,.tup (.str (q s)::r)),some (m1,.tup (aI bd)),some (m3,whT w),none,none]=if cY F w x bd 0 ps then .nx η' else .rt (.d,.bl false) η':=fun m0 m1 m3 =>
  vN (L:=1000-d) (by omega) (by omega) hx ps 0 m0 m1 m3 none none fun p hp bd hbd m m'=>h p hp bd (by omega) m m'
 rw [show n+(d+1)+3=(n+d+3)+1 by omega,fQ,x_run _ _ _ rfl]
 cases w with
 | none =>
  have en:∀ m n,oSem .isnot false [(m,.non),(n,.non)]=some (.d,.bl false):=fun _ _=>rfl
  obtain ⟨η1,l1⟩:=lp' .s m' .d
  obtain ⟨η2,l2⟩:=lp' .s .s .d
  rw [eR] at hbn l1 l2
  cases hc:cY F none x bd 0 ps with
  | true =>
   rw [hc,if_pos rfl] at l1 l2
   simp_all only [aK,hbn,hp,en,l1,l2,a1H,a0B,a0U,a0J]
  | false =>
   rw [hc,if_neg a0d] at l1 l2
   simp_all only [aK,hbn,hp,en,l1,l2,a1H,a0B,a0U,a0J]
 | some j =>
  obtain ⟨y,hy⟩:=hx.resolve_left (by simp)
  have a1:atI (T.str (q s)::r) 1=some (.str x):=by rw [hy]; exact at1 y (.str x) _
  have en:∀ m n,oSem .isnot false [(m,.int (j:Int)),(n,.non)]=some (.d,.bl true):=fun _ _=>rfl
  have f1:=flS x bd
  have f2:=anS x bd
  obtain ⟨η1,l1⟩:=lp' .s m' .d
  obtain ⟨η2,l2⟩:=lp' .s .s .d
  rw [fu] at hbn l1 l2
  cases hd:bd.contains x with
  | true =>
   rw [hd] at f2
   simp_all only [aK,hbn,hp,en,a1,f1,f2,a10,a0J,a1V,a0B]
  | false =>
   rw [hd] at f2
   cases hc:cY F (some j) x bd 0 ps with
   | true =>
    rw [hc,if_pos rfl] at l1 l2
    simp_all only [aK,hbn,hp,en,a1,f1,f2,l1,l2,a10,a0R,a0U,a0J]
   | false =>
    rw [hc,if_neg a0d] at l1 l2
    simp_all only [aK,hbn,hp,en,a1,f1,f2,l1,l2,a10,a0R,a0U,a0J]
noncomputable def bnd:T->Option Str
 | .tup (.str s::.str x::_)=>if b3.any (fun t=>eqT t (.str s)) then some x else none
 | _=>none
noncomputable def bJ:Nat->List Str->T->Bool
 | 0,_,_=>true
 | d+1,bd,t=>match bnd t with
  | none=>cY (bJ d) none ⟨#[]⟩ bd 0 (bz t)
  | some x=>!bd.contains x&&cY (bJ d) (some ((bz t).length-1)) x bd 0 (bz t)
theorem km {d:Nat}{bd:List Str}{t:T}(h:bnd t=none):bJ (d+1) bd t=cY (bJ d) none ⟨#[]⟩ bd 0 (bz t):=by rw [bJ,h]
theorem vG {d:Nat}{bd:List Str}{t:T}{x:Str}(h:bnd t=some x):bJ (d+1) bd t=(!bd.contains x&&cY (bJ d) (some ((bz t).length-1)) x bd 0 (bz t)):=by rw [bJ,h]
theorem hV {s:String}(hs:(b3.any fun t=>eqT t (.str (q s)))=false)(r:List T):bnd (.tup (.str (q s)::r))=none:=by
 unfold bnd
 split
 ·rename_i h
  cases h
  rw [hs]; rfl
 ·rfl
theorem b3L:∀ s∈LF,(b3.any fun t=>eqT t (.str (q s)))=false:=by decide +kernel
theorem b3N:∀ s∈NF,(b3.any fun t=>eqT t (.str (q s)))=false:=by decide +kernel
theorem b3B:∀ s∈BF,(b3.any fun t=>eqT t (.str (q s)))=true:=by decide +kernel
theorem whA:∀ s∈BF,wh s=arB s-1:=by decide
theorem eP:∀ (d:Nat) (t:T),WT d t->∀ (n:Nat) (bd:List Str) (m m':Md),bd.length+d<=1000->C (n+d+3) 243 [(m,t),(m',.tup (aI bd))]=.ok ((.d,.bl (bJ d bd t)),[])
 | 0,_,h,_,_,_,_,_=>nomatch h
 | d+1,t,h,n,bd,m,m',hb=>by
  have leaf:∀ (s:String) (x:T),s∈LF->C (n+(d+1)+3) 243 [(m,.tup [.str (q s),x]),(m',.tup (aI bd))]=.ok ((.d,.bl (bJ (d+1) bd (.tup [.str (q s),x]))),[]):=fun s x hs=>by
   have:=qd (n:=n) (d:=d) (s:=s) (r:=[x]) (ps:=[]) (F:=bJ d) (w:=none) (x:=⟨#[]⟩) (bd:=bd) hb (by rw [tbL s hs]; rfl) (.inl rfl) (fun m=>dW (n+d+1) s (eu s hs).2.1 x [] m) (fun p hp=>nomatch hp) m m'
   rw [km (hV (b3L s hs) _),gB s (eu s hs).2.1]
   exact this
  cases h with
  | num h0 h1=>exact leaf "num" _ (by decide)
  | name hs=>exact leaf "name" _ (by decide)
  | none hk=>exact leaf "none" _ (by decide)
  | node hs hl hp =>
   rename_i s ps
   have:=qd (n:=n) (d:=d) (s:=s) (r:=ps) (ps:=ps) (F:=bJ d) (w:=none) (x:=⟨#[]⟩) (bd:=bd) hb (by rw [tbN s hs]; rfl) (.inl rfl) (fun m=>nM (n+d+1) s hs ps m) (fun p h bd hbd m m'=>eP d p (hp p h) n bd m m' hbd) m m'
   rw [km (hV (b3N s hs) _),jD s (ahN s hs)]
   exact this
  | bind hs hx hl hp =>
   rename_i s x ps
   have:=qd (n:=n) (d:=d) (s:=s) (r:=.str (q x)::ps) (ps:=ps) (F:=bJ d) (w:=some (wh s)) (x:=q x) (bd:=bd) hb (by rw [tbB s hs]; rfl) (.inr ⟨_,rfl⟩) (fun m=>dW (n+d+1) s (jJ s hs).2.1 _ ps m) (fun p h bd hbd m m'=>eP d p (hp p h) n bd m m' hbd) m m'
   have e:bnd (.tup (.str (q s)::.str (q x)::ps))=some (q x):=if_pos (b3B s hs)
   rw [vG e,gB s (jJ s hs).2.1,hl,<- whA s hs]
   exact this
noncomputable def mJ:Nat->List T->List (List W)
 | _,[]=>[]
 | i,_::ps=>[((.d,.int (i:Int)):W)]::mJ (i+1) ps
noncomputable abbrev CB:List S:=[
   .asg (.q [0] [3]) 4 (.and (.op .eq false [.var 3,.op .sub false [.op .len false [.var 0],.cst (.int 1)]]) (.op .isin false [.op .ix false [.var 0,.cst (.int 0)],.tup [.cst (.str (q "let")),.cst (.str (q "each")),.cst (.str (q "times"))]])),
   .ite (.q [0,1] [3,4]) (.not (.call 247 [.op .ix false [.var 0,.var 3],.ifx (.var 4) (.op .add false [.var 1,.lst false [.op .ix false [.var 0,.cst (.int 1)]]]) (.var 1)])) [
    .ret [] (.cst (.bl false))] []]
theorem vQ {l:Nat}{s:String}{r:List T}{F:List Str->T->Bool}{w:Option Nat}{x:Str}{bd:List Str}{L st:Nat}(hL:L<=1000)(hb:bd.length+1<=L)(hw:w=(if (b3.any fun t=>eqT t (.str (q s))) then some (r.length-st) else none))(hst:1<=st)(hx:w=none\/∃ r',r=.str x::r'):∀ (ps:List T) (i:Nat) (m0 m1:Md) (o2 o3 o4:Option W),
  (∀ k,(h:k < ps.length)->atI (T.str (q s)::r) ((i+st+k:Nat):Int)=some ps[k])->i+st+ps.length=r.length+1 ->
  (∀ p∈ps,∀ bd,bd.length<=L->∀ m m',C l 247 [(m,p),(m',.lst (aI bd))]=.ok ((.d,.bl (F bd p)),[])) ->
  ∃ η',dk [3] (evSs (C l) CB) (mJ (i+st) ps) [some (m0,.tup (.str (q s)::r)),some (m1,.lst (aI bd)),o2,o3,o4]=if cY F w x bd i ps then .nx η' else .rt (.d,.bl false) η'
 | [],i,m0,m1,o2,o3,o4,_,_,_=>⟨_,rfl⟩
 | p::ps,i,m0,m1,o2,o3,o4,ha,hl,h=>by
  rw [a0c] at hl
  have a0:atI (T.str (q s)::r) ((i+st:Nat):Int)=some p:=ha 0 (by simp)
  have az:atI (T.str (q s)::r) 0=some (.str (q s)):=at0 _ _
  have ec:∀ b,decide (i=r.length-st)=b->(((i+st:Nat):Int)==((T.str (q s)::r).length:Int)-1)=b:=fun b hb=>by
   rw [<- hb,a2l,beq_iff_eq,decide_eq_true_iff,a0c]
   omega
  have step:∀ b,F (if w=some i then bd++[x] else bd) p=b->∃ m0' m1' o2' o3' o4',evSs (C l) CB [some (m0,.tup (.str (q s)::r)),some (m1,.lst (aI bd)),o2,some (.d,.int ((i+st:Nat):Int)),o4]=(if b then Fl.nx else Fl.rt (.d,.bl false)) [some (m0',.tup (.str (q s)::r)),some (m1',.lst (aI bd)),o2',o3',o4']:=fun b hf=>by
   cases h3:b3.any fun t=>eqT t (.str (q s)) with
   | false =>
    rw [h3,if_neg a0d] at hw
    rw [hw,if_neg (by simp)] at hf
    have e:=fun m m'=>h p a0f bd (by omega) m m'
    rw [hf] at e
    cases h4:decide (i=r.length-st) with
    | true =>
     have e4:=ec _ h4
     cases b with
     | true=>exact ⟨_,_,_,_,_,by simp_all only [az,a0,e4,h3,fl3,e]; rfl⟩
     | false=>exact ⟨_,_,_,_,_,by simp_all only [az,a0,e4,h3,fl3,e]; rfl⟩
    | false =>
     have e4:=ec _ h4
     cases b with
     | true=>exact ⟨_,_,_,_,_,by simp_all only [az,a0,e4,h3,fl3,e]; rfl⟩
     | false=>exact ⟨_,_,_,_,_,by simp_all only [az,a0,e4,h3,fl3,e]; rfl⟩
   | true =>
    rw [h3,if_pos rfl] at hw
    obtain ⟨r',rfl⟩:=hx.resolve_left (by rw [hw]; simp)
    have a1:atI (T.str (q s)::.str x::r') 1=some (.str x):=at1 _ _ _
    cases h4:decide (i=(T.str x::r').length-st) with
    | true =>
     have e4:=ec _ h4
     rw [hw,if_pos (by rw [of_decide_eq_true h4])] at hf
     have e:∀ m m',C l 247 [(m,p),(m',.lst (aI bd++[.str x]))]=.ok ((.d,.bl b),[]):=fun m m'=>by
      have:=h p a0f (bd++[x]) (by rw [a0e,a0v]; omega) m m'
      rw [hf,show aI (bd++[x])=aI bd++[.str x] from a0Z] at this
      exact this
     have f1:fits ((aI bd).length+[T.str x].length)=true:=decide_eq_true (by rw [a0b,a0v]; show _<=16777215; omega)
     cases b with
     | true=>exact ⟨_,_,_,_,_,by simp_all only [az,a0,a1,e4,h3,fl3,f1,e]; rfl⟩
     | false=>exact ⟨_,_,_,_,_,by simp_all only [az,a0,a1,e4,h3,fl3,f1,e]; rfl⟩
    | false =>
     have e4:=ec _ h4
     rw [hw,if_neg (by have:=of_decide_eq_false h4; simp only [a1N]; omega)] at hf
     have e:=fun m m'=>h p a0f bd (by omega) m m'
     rw [hf] at e
     cases b with
     | true=>exact ⟨_,_,_,_,_,by simp_all only [az,a0,a1,e4,h3,fl3,e]; rfl⟩
     | false=>exact ⟨_,_,_,_,_,by simp_all only [az,a0,a1,e4,h3,fl3,e]; rfl⟩
  obtain ⟨m0',m1',o2',o3',o4',step⟩:=step _ rfl
  rw [cY]
  cases hb2:F (if w=some i then bd++[x] else bd) p with
  | true =>
   rw [hb2] at step
   obtain ⟨η',ih⟩:=vQ hL hb hw hst hx ps (i+1) m0' m1' o2' o3' o4' (fun k hk=>by
    have:=ha (k+1) (by rw [a0c]; omega)
    rw [show i+1+st+k=i+st+(k+1) by omega]
    exact this) (by omega) fun q hq=>h q (a0g _ hq)
   rw [a0J]
   refine ⟨η',?_⟩
   rw [show i+1+st=i+st+1 by omega] at ih
   exact (congrArg (Fl.turn · _) step).trans ih
  | false =>
   rw [hb2] at step
   exact ⟨_,(congrArg (Fl.turn · _) step).trans rfl⟩
theorem ll:∀ (ps:List T) (i:Nat),(a0M ps.length).map (fun (k:Nat)=>[((.d,.int ((i:Int)+(k:Int))):W)])=mJ i ps
 | [],_=>rfl
 | p::ps,i=>by
  rw [a0c,a2f,a0m,a0N,mJ,<- ll ps (i+1)]
  congr 1
  refine a1A fun k _=>?_
  show [((.d,.int ((i:Int)+((k+1:Nat):Int))):W)]=_
  rw [show (i:Int)+((k+1:Nat):Int)=((i+1:Nat):Int)+(k:Int) by omega]
theorem xq (m m':Md)(st:Nat)(ps:List T)(len:Nat)(hl:len=st+ps.length)(hs:len<=1000):bC .rng [(m,.int (st:Int)),(m',.int (len:Int))]=some (mJ st ps):=by
 show (if _ then _ else _)=_
 have e:((len:Int)-(st:Int)).toNat=ps.length:=by omega
 rw [e,ll,if_pos]
 simp only [a0j,decide_eq_true_eq]
 exact ⟨⟨by omega,by omega⟩,decide_eq_true (by show _<=16777215; omega)⟩
theorem iD:∀ (d:Nat) (t:T),WT d t->∀ (n:Nat) (bd:List Str) (m m':Md),bd.length+d<=1000->C (n+d+1) 247 [(m,t),(m',.lst (aI bd))]=.ok ((.d,.bl (bJ d bd t)),[])
 | 0,_,h,_,_,_,_,_=>nomatch h
 | d+1,t,h,n,bd,m,m',hb=>by
  have key:∀ (s:String) (r ps:List T) (st:Nat) (w:Option Nat) (x:Str),1<=st->(w=(if (b3.any fun t=>eqT t (.str (q s))) then some (r.length-st) else none))->(w=none\/∃ r',r=.str x::r')->(∀ m,C (n+d+1) 244 [(m,.tup (.str (q s)::r))]=.ok ((.d,.int (st:Int)),[]))->(T.str (q s)::r).length=st+ps.length->(∀ k,(h:k < ps.length)->atI (T.str (q s)::r) ((0+st+k:Nat):Int)=some ps[k])->r.length<=10->(∀ p∈ps,WT d p) ->
    C (n+d+1+1) 247 [(m,.tup (.str (q s)::r)),(m',.lst (aI bd))]=.ok ((.d,.bl ((!(w.isSome&&bd.contains x))&&cY (bJ d) w x bd 0 ps)),[]):=fun s r ps st w x hst hw hx hs hlen ha hr hp=>by
   have lp:∀ m0 m1 o2,∃ η',dk [3] (evSs (C (n+d+1)) CB) (mJ st ps) [some (m0,.tup (.str (q s)::r)),some (m1,.lst (aI bd)),o2,none,none]=if cY (bJ d) w x bd 0 ps then .nx η' else .rt (.d,.bl false) η':=fun m0 m1 o2=>by
    have:=vQ (l:=n+d+1) (F:=bJ d) (bd:=bd) (L:=1000-d) (by omega) (by omega) hw hst hx ps 0 m0 m1 o2 none none ha (by rw [a0c] at hlen; omega) fun p h bd hbd m m'=>iD d p (hp p h) n bd m m' (by omega)
    rw [a09] at this
    exact this
   have tu:=fun m m'=>xq m m' st ps (T.str (q s)::r).length hlen (by rw [a0c]; omega)
   have f1:=flS x bd
   have f2:=anS x bd
   have az:atI (T.str (q s)::r) 0=some (.str (q s)):=at0 _ _
   rw [gQ,x_run _ _ _ rfl]
   obtain ⟨η1,l1⟩:=lp .s m' (some (.d,.int (st:Int)))
   cases h3:b3.any fun t=>eqT t (.str (q s)) with
   | false =>
    rw [h3,if_neg a0d] at hw
    subst hw
    cases hc:cY (bJ d) none x bd 0 ps with
    | true =>
     rw [hc,if_pos rfl] at l1
     simp_all only [aR,az,h3,fl3,hs,tu,l1,a1H,a0B,a0U,a0J]
    | false =>
     rw [hc,if_neg a0d] at l1
     simp_all only [aR,az,h3,fl3,hs,tu,l1,a1H,a0B,a0U,a0J]
   | true =>
    rw [h3,if_pos rfl] at hw
    obtain ⟨r',rfl⟩:=hx.resolve_left (by rw [hw]; simp)
    have a1:atI (T.str (q s)::.str x::r') 1=some (.str x):=at1 _ _ _
    have hws:w.isSome=true:=by rw [hw]; rfl
    cases hd:bd.contains x with
    | true =>
     rw [hd] at f2
     simp_all only [aR,az,a1,h3,fl3,f1,f2,hws,a0J,a1V,a0B]
    | false =>
     rw [hd] at f2
     cases hc:cY (bJ d) w x bd 0 ps with
     | true =>
      rw [hc,if_pos rfl] at l1
      simp_all only [aR,az,a1,h3,fl3,f1,f2,hs,tu,l1,hws,a0R,a0U,a0J]
     | false =>
      rw [hc,if_neg a0d] at l1
      simp_all only [aR,az,a1,h3,fl3,f1,f2,hs,tu,l1,hws,a0R,a0U,a0J]
  have leaf:∀ (s:String) (x:T),s∈LF->C (n+(d+1)+1) 247 [(m,.tup [.str (q s),x]),(m',.lst (aI bd))]=.ok ((.d,.bl (bJ (d+1) bd (.tup [.str (q s),x]))),[]):=fun s x hs=>by
   have:=key s [x] [] 2 none ⟨#[]⟩ (by omega) (by rw [b3L s hs]; rfl) (.inl rfl) (fun m=>stL (n+d) s hs x m) rfl (fun k hk=>nomatch hk) (by simp) (fun p hp=>nomatch hp)
   rw [km (hV (b3L s hs) _),gB s (eu s hs).2.1]
   exact this
  cases h with
  | num h0 h1=>exact leaf "num" _ (by decide)
  | name hs=>exact leaf "name" _ (by decide)
  | none hk=>exact leaf "none" _ (by decide)
  | node hs hl hp =>
   rename_i s ps
   have:=key s ps ps 1 none ⟨#[]⟩ (by omega) (by rw [b3N s hs]; rfl) (.inl rfl) (fun m=>stN (n+d) s hs ps m) (by rw [a0c]; omega) (fun k hk=>atN (n:=k+1) (by omega) (by rw [a0u,a0h hk])) (by have:=ar3 s; omega) hp
   rw [km (hV (b3N s hs) _),jD s (ahN s hs)]
   exact this
  | bind hs hx hl hp =>
   rename_i s x ps
   have h3:arB s<=3:=by unfold arB; split<;>decide
   have:=key s (.str (q x)::ps) ps 2 (some ((T.str (q x)::ps).length-2)) (q x) (by omega) (by rw [b3B s hs]; rfl) (.inr ⟨_,rfl⟩) (fun m=>stB (n+d) s hs _ m) (by rw [a0c,a0c]; omega) (fun k hk=>atN (n:=k+2) (by omega) (by rw [a0u,a0u,a0h hk])) (by rw [a0c]; omega) hp
   have e:bnd (.tup (.str (q s)::.str (q x)::ps))=some (q x):=if_pos (b3B s hs)
   rw [vG e,gB s (jJ s hs).2.1]
   rw [a0c,show ps.length+1-2=ps.length-1 by omega] at this
   exact this
theorem wX (ss:List Str):(ss.filter fun x=>decide (1 < ss.count x)).length=0 ↔ ss.Nodup:=by
 rw [a2b,List.filter_eq_nil_iff,List.nodup_iff_count]
 constructor
 ·intro h a
  by_cases ha:a∈ss
  ·have:=h a ha
   simp only [decide_eq_true_eq] at this
   omega
  ·rw [List.count_eq_zero.mpr ha]; omega
 ·intro h a _
  have:=h a
  simp only [decide_eq_true_eq]
  omega
theorem lb:∀ (l ks:List Str),(l.foldl addS ks).length<=ks.length+l.length
 | [],ks=>a0r _
 | x::l,ks=>by
  rw [a2j,a0c]
  have ih:=lb l (addS ks x)
  have:(addS ks x).length<=ks.length+1:=by
   unfold addS
   split
   ·omega
   ·rw [a0e,a0v]; exact a0r _
  omega
theorem ki:∀ (l ks:List Str),((l.foldl addS ks).length=ks.length+l.length) ↔ (l.Nodup/\∀ x∈l,x ∉ ks)
 | [],ks=>⟨fun _=>⟨List.nodup_nil,fun _ h=>nomatch h⟩,fun _=>rfl⟩
 | x::l,ks=>by
  rw [a2j,a0c]
  by_cases hx:ks.contains x=true
  ·have e:addS ks x=ks:=if_pos hx
   rw [e]
   have:=lb l ks
   constructor
   ·intro h; omega
   ·intro h
    exact absurd (by simpa using hx) (h.2 x a0f)
  ·have e:addS ks x=ks++[x]:=if_neg hx
   have ih:=ki l (ks++[x])
   rw [a0e,a0v] at ih
   rw [e,show ks.length+(l.length+1)=ks.length+1+l.length by omega,ih,a1h]
   have hx':x ∉ ks:=by simpa using hx
   constructor
   ·rintro ⟨h1,h2⟩
    refine ⟨⟨fun hm=>h2 x hm (by simp),h1⟩,fun y hy=>?_⟩
    rcases a0s.mp hy with rfl | hy
    ·exact hx'
    ·exact fun hk=>h2 y hy (a01 _ hk)
   ·rintro ⟨⟨h1,h2⟩,h3⟩
    refine ⟨h2,fun y hy hk=>?_⟩
    rcases a0S.mp hk with hk | hk
    ·exact h3 y (a0g _ hy) hk
    ·rw [a0t.mp hk] at hy
     exact h1 hy
theorem uW (l:List Str):(distS l).length=l.length ↔ l.Nodup:=by
 have:=ki l []
 rw [a00,a09] at this
 exact this.trans ⟨fun h=>h.1,fun h=>⟨h,fun _ _=>by simp⟩⟩
noncomputable abbrev hT (L:List (Str×T)):List T:=L.map fun p=>T.tup [.str p.1,p.2]
theorem zu (a b:T):atI [a,b] 0=some a:=at0 _ _
theorem eM (n:Nat)(x:Str)(k:T)(hx:nmA x=true)(hk:KK 5 k)(m:Md):C (n+8) 241 [(m,.tup [.str x,k])]=.ok ((.d,.bl true),[]):=by
 have k1:=fun m m'=>ql 5 k hk (n+1) 5 (by decide) m m'
 have w2:∀ m,C (n+7) 215 [(m,k)]=.ok ((.d,.bl true),[]):=fun m=>by
  rw [eZ,x_run _ _ _ rfl]
  simp_all only [bM,k1]
 have e:=fun m=>jG (n+6) x m
 rw [hx] at e
 have c2:(!((([T.str x,k].length:Nat):Int)==2))=false:=rfl
 rw [cP,x_run _ _ _ rfl]
 simp_all only [bg,bX,c2,zu,Dv,e,w2]
theorem lfS (m:Md)(x:Str):lf m (.str x)=.d:=by cases m<;>rfl
theorem iP (n:Nat)(L:List (Str×T)):∃ μ,C (n+1) 242 [(.s,.tup (hT L))]=.ok ((μ,.tup (aI (L.map (·.1)))),[]):=by
 have c1:∀ w0,aC [1] (bZ (evE (C n) (.op .ix false [.var 1,.cst (.int 0)]))) ((hT L).map fun t=>[((.s,t):W)]) [w0,none] []=.ok ([]++L.map (fun p=>((.s,.str p.1):W)),[w0,none]):=fun w0=>by
  rw [hT,a0N]
  refine aG _ _ [] fun p hp=>⟨_,[w0,some (.s,.tup [.str p.1,p.2])],rfl,?_,rfl⟩
  simp_all only [zu,lfS]
 have t1:trees (L.map (fun p=>((.s,.str p.1):W)))=aI (L.map (·.1)):=by rw [aA (fun _=>Md.s) (fun p:Str×T=>T.str p.1),aI,a0N]; rfl
 rw [ie,x_run _ _ _ rfl]
 exact ⟨_,by simp_all only [bO,c1,t1]; rfl⟩
theorem o8:∀ ss:List Str,strsOf (aI ss)=some ss
 | []=>rfl
 | s::ss=>by show (strsOf (aI ss)).map (s::·)=_; rw [o8 ss]; rfl
theorem fZ (n:Nat)(ts:List T)(hl:6 < ts.length)(m:Md):C (n+1) 252 [(m,.tup ts)]=.ok ((.d,.bl false),[]):=by
 have c1:decide ((6:Int) < ((ts.length:Nat):Int))=true:=decide_eq_true (by omega)
 rw [bL,x_run _ _ _ rfl]
 simp_all only [aY,bX,c1]
theorem i0 (n:Nat)(ts:List T)(g:T->Bool)(hg:∀ t∈ts,∀ m,C n 241 [(m,t)]=.ok ((.d,.bl (g t)),[]))(w0:Option W):aC [1] (bZ (evE (C n) (.call 241 [.var 1]))) (ts.map fun t=>[((.s,t):W)]) [w0,none] []=.ok ([]++ts.map (fun t=>((.d,.bl (g t)):W)),[w0,none]) :=
 aG _ _ [] fun u hu=>⟨_,[w0,some (.s,u)],rfl,by
  have h:=fun m=>hg u hu m
  simp_all only [h],rfl⟩
theorem bT (g:T->Bool)(ts:List T):trees (ts.map (fun t=>((.d,.bl (g t)):W)))=(ts.map g).map T.bl:=by rw [aA (fun _=>Md.d) (fun u=>T.bl (g u)),a0N]; rfl
theorem k5 (n:Nat)(ts:List T)(g:T->Bool)(hg:∀ t∈ts,∀ m,C n 241 [(m,t)]=.ok ((.d,.bl (g t)),[]))(hb:(ts.map g).all id=false)(m:Md):C (n+1) 252 [(m,.tup ts)]=.ok ((.d,.bl false),[]):=by
 by_cases hl:6 < ts.length
 ·exact fZ n ts hl m
 ·have c1:decide ((6:Int) < ((ts.length:Nat):Int))=false:=decide_eq_false (by omega)
  have c2:=fun w0=>i0 n ts g hg w0
  have t1:=bT g ts
  rw [bL,x_run _ _ _ rfl]
  simp_all only [aY,bX,c1,c2,t1,cn,hb]
noncomputable def gW (L:List (Str×T)):Prop:=∀ p∈L,nmA p.1=true/\KK 5 p.2
theorem ndB (ss:List Str)(hs:ss.length < 1000):((((distS ss).length:Nat):Int)==((ss.length:Nat):Int))=decide ss.Nodup:=by
 have:=uW ss
 by_cases h:ss.Nodup
 ·rw [decide_eq_true h,this.mpr h]; exact beq_self_eq_true _
 ·rw [decide_eq_false h]
  exact beq_eq_false_iff_ne.mpr fun e=>h (this.mp (by omega))
theorem oF (n:Nat)(L:List (Str×T))(h:gW L)(m:Md):C (n+9) 252 [(m,.tup (hT L))]=.ok ((.d,.bl (decide (L.length<=6)&&decide (L.map (·.1)).Nodup)),[]):=by
 by_cases hl:L.length<=6
 ·have hg:∀ t∈hT L,∀ m,C (n+8) 241 [(m,t)]=.ok ((.d,.bl true),[]):=fun t ht m=>by
   obtain ⟨p,hp,rfl⟩:=a1k.mp ht
   exact eM n p.1 p.2 (h p hp).1 (h p hp).2 m
  have c1:decide ((6:Int) < (((hT L).length:Nat):Int))=false:=decide_eq_false (by rw [a0b]; omega)
  have c2:=fun w0=>i0 (n+8) (hT L) (fun _=>true) hg w0
  have t1:=bT (fun _=>true) (hT L)
  have a1:((hT L).map fun _=>true).all id=true:=tI _ _ fun _ _=>rfl
  obtain ⟨μ,e1⟩:=iP (n+7) L
  have s1:=o8 (L.map (·.1))
  have s2:decide ((L.map (·.1)).length < 1000)=true:=decide_eq_true (by rw [a0b]; omega)
  have s3:=ndB (L.map (·.1)) (by rw [a0b]; omega)
  have s4:(((L.map (·.1)).length:Nat):Int)=(((hT L).length:Nat):Int):=by rw [a0b,a0b]
  rw [s4] at s3
  rw [decide_eq_true hl,a0J,bL,x_run _ _ _ rfl]
  simp_all only [aY,bX,c1,c2,t1,cn,a1,e1,s1,s2,s3]
 ·rw [decide_eq_false hl,a0B]
  exact fZ (n+8) _ (by rw [a0b]; omega) m
theorem KK.up1:∀ {j:Nat} {t:T},KK j t->KK (j+1) t
 | 0,_,h=>nomatch h
 | j+1,_,h=>by
  cases h with
  | num=>exact .num
  | truth=>exact .truth
  | row h=>exact .row (KK.up1 h)
  | pair h1 h2=>exact .pair (KK.up1 h1) (KK.up1 h2)
noncomputable abbrev NH:List String:=["x","q","rowy","abcdefgh","b","n","addx","numbs","cuts","zz"]
noncomputable abbrev mG:List T:=[.str (q "x"),.str (q "q"),.str (q "rowy"),.str (q "abcdefgh"),.str (q "b"),.str (q "n"),.str (q "addx"),.str (q "numbs"),.str (q "cuts"),.str (q "zz")]
theorem nhA:∀ s∈NH,nmA (q s)=true:=by decide +kernel
theorem atH (j:Nat)(hj:j < 10):∃ s∈NH,atI mG (j:Int)=some (.str (q s)):=by
 have hm:NH.getD j ""∈NH:=by
  rw [a0p,a0h (show j < NH.length from hj)]
  exact a1y _
 refine ⟨NH.getD j "",hm,atN rfl ?_⟩
 have:mG=NH.map fun s=>T.str (q s):=rfl
 rw [this,a0A,a0h (show j < NH.length from hj),a0p,a0h (show j < NH.length from hj)]
 rfl
noncomputable abbrev HB:List S:=[
   .asg (.q [] [1,4]) 5 (.op .mod false [.op .add false [.op .mod false [.op .fdiv false [.var 1,.cst (.int 8)],.cst (.int 10)],.op .mul false [.var 4,.op .add false [.cst (.int 1),.op .mod false [.op .fdiv false [.var 1,.cst (.int 80)],.cst (.int 3)]]]],.cst (.int 10)]),
   .app (.q [2] [1,4,5]) 3 (.tup [.op .ix false [.var 2,.var 5],.call 171 [.op .fdiv false [.var 1,.op .add false [.cst (.int 7),.var 4]],.op .add false [.cst (.int 3),.op .int false [.op .eq false [.var 4,.cst (.int 2)]]]]])]
theorem tO (n:Nat)(w0 o5:Option W)(m2:Md)(c:Int)(L:List (Str×T))(hL:L.length<=10)(k:Nat)(hk:k < 8):∃ m2' o5' p,evSs (C (n+5)) HB [w0,some (.d,.int c),some (m2,.lst mG),some (.o .s,.lst (hT L)),some (.d,.int (k:Int)),o5]=.nx [w0,some (.d,.int c),some (m2',.lst mG),some (.o .s,.lst (hT (L++[p]))),some (.d,.int (k:Int)),o5']/\nmA p.1=true/\KK 5 p.2:=by
 obtain ⟨j,hj,ej⟩:=mdj (c / 8 % 10+(k:Int) * (1+c / 80 % 3)) 10 (by decide)
 have ej:(c / 8 % 10+(k:Int) * (1+c / 80 % 3)) % 10=(j:Int):=ej
 obtain ⟨s,hs,a1⟩:=atH j hj
 have hkind:∃ md t,(∀ m m',C (n+5) 171 [(m,.int (c / (7+(k:Int)))),(m',.int (3+b2i ((k:Int)==2)))]=.ok ((md,t),[]))/\KK 5 t:=by
  by_cases h2:k=2
  ·subst h2
   exact c6 4 n (c / (7+2))
  ·have e:(3:Int)+b2i ((k:Int)==2)=((3:Nat):Int):=by
    rw [beq_eq_false_iff_ne.mpr (by omega)]; rfl
   rw [e]
   obtain ⟨md,t,h,hk⟩:=c6 3 (n+1) (c / (7+(k:Int)))
   exact ⟨md,t,h,hk.up1⟩
 obtain ⟨md,t,e1,kk⟩:=hkind
 have p1:decide ((0:Int) < 8)=true:=rfl
 have p2:decide ((8:Int) < 1073741824)=true:=rfl
 have p3:decide ((0:Int) < 10)=true:=rfl
 have p4:decide ((0:Int) < 80)=true:=rfl
 have p5:decide ((80:Int) < 1073741824)=true:=rfl
 have p6:decide ((0:Int) < 3)=true:=rfl
 have p7:decide ((0:Int) < 7+(k:Int))=true:=decide_eq_true (by omega)
 have p8:decide (7+(k:Int) < 1073741824)=true:=decide_eq_true (by omega)
 have p9:decide ((k:Int).natAbs < 18446744073709551616)=true:=decide_eq_true (by omega)
 have p10:decide ((hT L).length < LIM)=true:=decide_eq_true (by rw [a0b]; show _ < 16777215; omega)
 have p11:(L.length < LIM)=True:=eq_true (by show _ < 16777215; omega)
 have e2:hT L++[T.tup [.str (q s),t]]=hT (L++[(q s,t)]):=by simp only [a0Z,a0m,a05]
 cases hz:((lf md t).meet Md.d).up with
 | s=>exact ⟨_,_,(q s,t),by simp_all only [a11,p1,p2,p3,p4,p5,p6,p7,p8,p9,ej,a1,e1,p10,p11,e2,if_true,hz,a0b]; rfl,nhA s hs,kk⟩
 | d=>exact ⟨_,_,(q s,t),by simp_all only [a11,p1,p2,p3,p4,p5,p6,p7,p8,p9,ej,a1,e1,p10,p11,e2,if_true,hz,a0b]; rfl,nhA s hs,kk⟩
 | o y=>exact ⟨_,_,(q s,t),by simp_all only [a11,p1,p2,p3,p4,p5,p6,p7,p8,p9,ej,a1,e1,p10,p11,e2,if_true,hz,a0b]; rfl,nhA s hs,kk⟩
theorem nW (n:Nat)(ns:List Int)(m:Md):∃ md L,C (n+6) 248 [(m,.scr ns)]=.ok ((md,.tup (hT L)),[])/\gW L/\L.length<=7:=by
 have h1:∃ c,evE (C (n+5)) (.ifx (.op .gt false [.op .len false [.var 0],.cst (.int 0)]) (.op .ix false [.var 0,.cst (.int 0)]) (.cst (.int 0))) [some (.s,.scr ns),none,none,none,none,none]=.ok ((.d,.int c),[some (.s,.scr ns),none,none,none,none,none]):=by
  cases ns with
  | nil =>
   have e:decide ((0:Int) < (([]:List Int).length:Nat))=false:=rfl
   exact ⟨0,by simp_all only [e]⟩
  | cons a ns =>
   have e:decide ((0:Int) < ((a::ns).length:Nat))=true:=decide_eq_true (by rw [a0c]; omega)
   have e2:atI (a::ns) 0=some a:=at0 _ _
   exact ⟨a,by simp_all only [e,e2,vL]⟩
 obtain ⟨c,h1⟩:=h1
 obtain ⟨r,hr,er⟩:=mdj c 8 (by decide)
 have er:c % 8=(r:Int):=er
 obtain ⟨η',lp,L,hl,m2,o4,o5,hL,rfl⟩:=dC (tg:=[4]) (f:=evSs (C (n+5)) HB) (g:=fun (k:Nat)=>[((.d,.int k):W)])
  (fun pre η=>∃ (L:List (Str×T)) (_:L.length=pre.length) (m2:Md) (o4 o5:Option W),gW L/\η=[some (m,.scr ns),some (.d,.int c),some (m2,.lst mG),some (.o .s,.lst (hT L)),o4,o5])
  (a0M r) [] [some (m,.scr ns),some (.d,.int c),some (.o .s,.lst mG),some (.o .s,.lst []),none,none] ⟨[],rfl,.o .s,none,none,(fun p hp=>nomatch hp),rfl⟩ (fun p k z η hp ⟨L,hl,m2,o4,o5,hL,he⟩=>by
   subst he
   have hpl:=congrArg a0V hp
   simp only [a0T,a1i,a0e,a0c] at hpl
   have hk:k < r:=by
    have:k∈a0M r:=by rw [a0T] at hp; rw [hp]; exact a0l _ a0f
    exact a1O.mp this
   obtain ⟨m2',o5',pp,e,h1,h2⟩:=tO n (some (m,.scr ns)) o5 m2 c L (by omega) k (by omega)
   refine ⟨_,_,rfl,e,L++[pp],by rw [a0e,a0e,hl]; rfl,m2',_,o5',?_,rfl⟩
   intro x hx
   rcases a0S.mp hx with hx | hx
   ·exact hL x hx
   ·rw [a0t.mp hx]; exact ⟨h1,h2⟩)
 rw [a0T,a1i] at hl
 refine ⟨.o .s,L,?_,hL,by omega⟩
 have r1:(decide ((r:Int).natAbs < 4611686018427387904)&&fits r)=true:=by
  rw [a0j]
  exact ⟨decide_eq_true (by omega),decide_eq_true (by show _<=16777215; omega)⟩
 have r2:(r:Int).toNat=r:=by omega
 have p1:decide ((0:Int) < 8)=true:=rfl
 have l8:∀ m,lf m (T.scr ns)=.d:=fun m=>by cases m<;>rfl
 rw [gG,x_run _ _ _ rfl]
 simp_all only [bE,h1,er,p1,r1,r2,lp,l8]
theorem WT.up1:∀ {d:Nat} {t:T},WT d t->WT (d+1) t
 | 0,_,h=>nomatch h
 | d+1,_,h=>by
  cases h with
  | num h0 h1=>exact .num h0 h1
  | name hs=>exact .name hs
  | none hk=>exact .none hk
  | node hs hl hp=>exact .node hs hl fun p h=>WT.up1 (hp p h)
  | bind hs hx hl hp=>exact .bind hs hx hl fun p h=>WT.up1 (hp p h)
theorem WT.up {d:Nat}{t:T}(h:WT d t):∀ {d':Nat},d<=d'->WT d' t
 | 0,hd=>by
  have e:d=0:=by omega
  rw [e] at h
  exact h
 | d'+1,hd=>by
  by_cases e:d=d'+1
  ·rw [<- e]; exact h
  ·exact (WT.up h (d':=d') (by omega)).up1
theorem WT.pts {d:Nat}{t:T}(h:WT (d+1) t):(∀ p∈bz t,WT d p)/\(bz t).length<=3:=by
 obtain ⟨s,r,k,ps,rfl,h1,h2,h3,h4,h5,h6⟩:=dP h
 rw [h4]; exact ⟨h6,h5⟩
theorem q8:∀ {d:Nat} {t:T},WT d t->dpF (d+1) t=dpF d t
 | 0,_,h=>nomatch h
 | d+1,t,h=>by
  show 1+mxN ((bz t).map (dpF (d+1)))=1+mxN ((bz t).map (dpF d))
  rw [a1A fun p hp=>q8 (h.pts.1 p hp)]
theorem kr {d:Nat}{t:T}(h:WT d t):∀ d',d<=d'->dpF d' t=dpF d t
 | 0,hd=>by
  have e:d=0:=by omega
  rw [e]
 | d'+1,hd=>by
  by_cases e:d=d'+1
  ·rw [<- e]
  ·rw [q8 (h.up (show d<=d' by omega)),kr h d' (by omega)]
theorem CV {l:List Nat}{k:Nat}(h:∀ x∈l,x<=k):mxN l<=k:=by
 induction l with
 | nil=>exact a1f _
 | cons a l ih=>exact Nat.max_le.mpr ⟨h a a0f,ih fun x hx=>h x (a0g _ hx)⟩
theorem C1 {l:List Nat}{x:Nat}(h:x∈l):x<=mxN l:=by
 induction l with
 | nil=>cases h
 | cons a l ih =>
  rcases a0s.mp h with rfl | h
  ·exact Nat.le_max_left _ _
  ·exact a0z (ih h) (Nat.le_max_right _ _)
theorem jY:∀ {d:Nat} {t:T},WT d t->dpF d t<=d
 | 0,_,h=>nomatch h
 | d+1,t,h=>by
  have:mxN ((bz t).map (dpF d))<=d:=CV fun x hx=>by
   obtain ⟨p,hp,rfl⟩:=a1k.mp hx
   exact jY (h.pts.1 p hp)
  show 1+mxN ((bz t).map (dpF d))<=d+1
  omega
theorem fw:∀ {d:Nat} {t:T},WT d t->WT (dpF d t) t
 | 0,_,h=>nomatch h
 | d+1,t,h=>by
  have key:∀ p∈bz t,WT (mxN ((bz t).map (dpF d))) p:=fun p hp=>(fw (h.pts.1 p hp)).up (C1 (List.mem_map_of_mem hp))
  show WT (1+mxN ((bz t).map (dpF d))) t
  generalize mxN ((bz t).map (dpF d))=e at key
  rw [a1X]
  cases h with
  | num h0 h1=>exact .num h0 h1
  | name hs=>exact .name hs
  | none hk=>exact .none hk
  | node hs hl hp=>rw [jD _ (ahN _ hs)] at key; exact .node hs hl key
  | bind hs hx hl hp=>rw [gB _ (jJ _ hs).2.1] at key; exact .bind hs hx hl key
noncomputable def TW (e:Nat)(t:T):Prop:=WT e t/\dpF e t=e
theorem BS {d:Nat}{t:T}(h:WT d t):∃ e,e<=d/\TW e t/\1<=e:=by
 refine ⟨dpF d t,jY h,⟨fw h,(kr (fw h) d (jY h)).symm⟩,?_⟩
 cases d with
 | zero=>exact nomatch h
 | succ d=>show 1<=1+_; omega
theorem kE (t:T):bz (.tup [.str (q "not"),t])=[t]:=jD "not" (ahN "not" (by decide)) [t]
theorem pb (t u:T):bz (.tup [.str (q "pair"),t,u])=[t,u]:=jD "pair" (ahN "pair" (by decide)) [t,u]
theorem pJ {d:Nat}{t:T}(h:WT d t):WT (d+1) (.tup [.str (q "not"),t]):=.node (s:="not") (ps:=[t]) (by decide) rfl fun p hp=>by rw [a0t.mp hp]; exact h
theorem u9 {d:Nat}{t u:T}(h:WT d t)(h2:WT d u):WT (d+1) (.tup [.str (q "pair"),t,u]):=.node (s:="pair") (ps:=[t,u]) (by decide) rfl fun p hp=>by
 rcases a0s.mp hp with rfl | hp
 ·exact h
 ·rw [a0t.mp hp]; exact h2
theorem zU {e:Nat}{t:T}(h:TW e t):TW (e+1) (.tup [.str (q "not"),t]):=by
 refine ⟨pJ h.1,?_⟩
 rw [dpF,kE]
 show 1+max (dpF e t) 0=_
 rw [h.2]; omega
noncomputable def szF (d:Nat)(t:T):Nat:=(ax d t).length
theorem lR (d:Nat)(t:T):szF (d+1) t=((bz t).map (szF d)).sum+1:=by
 show (cz (ax d) 0 (bz t)++[[]]).length=_
 rw [a0e,eY]; rfl
theorem m8:∀ {d:Nat} {t:T},WT d t->szF (d+1) t=szF d t
 | 0,_,h=>nomatch h
 | d+1,t,h=>by
  rw [lR,lR,a1A fun p hp=>m8 (h.pts.1 p hp)]
theorem qo {d:Nat}{t:T}(h:WT d t):∀ d',d<=d'->szF d' t=szF d t
 | 0,hd=>by
  have e:d=0:=by omega
  rw [e]
 | d'+1,hd=>by
  by_cases e:d=d'+1
  ·rw [<- e]
  ·rw [m8 (h.up (show d<=d' by omega)),qo h d' (by omega)]
theorem DV {l:List Nat}{k:Nat}(h:∀ x∈l,x<=k)(hl:l.length<=3):l.sum<=3 * k:=by
 have:∀ (l:List Nat),(∀ x∈l,x<=k)->l.sum<=l.length * k:=by
  intro l
  induction l with
  | nil=>intro _; simp
  | cons a l ih =>
   intro h
   have h1:=h a a0f
   have h2:=ih fun x hx=>h x (a0g _ hx)
   rw [a1m,a0c,a25]; omega
 exact a0z (this l h) (Nat.mul_le_mul_right k hl)
theorem qw:∀ {d:Nat} {t:T},WT d t->szF d t+1<=4 ^ d
 | 0,_,h=>nomatch h
 | d+1,t,h=>by
  have:=DV (l:=(bz t).map (szF d)) (k:=4 ^ d-1) (fun x hx=>by
   obtain ⟨p,hp,rfl⟩:=a1k.mp hx
   have:=qw (h.pts.1 p hp); omega) (by rw [a0b]; exact h.pts.2)
  have p4:0 < 4 ^ d:=Nat.pow_pos (by decide)
  rw [lR,a2G]; omega
theorem oY {d:Nat}{t:T}:szF (d+1) (.tup [.str (q "not"),t])=szF d t+1:=by rw [lR,kE]; rfl
theorem uN {d:Nat}{t u:T}:szF (d+1) (.tup [.str (q "pair"),t,u])=szF d t+szF d u+1:=by rw [lR,pb]; simp
theorem hU {c:Env->Res (Bool×Env)}{f:Env->Fl}(I:Nat->Env->Prop)(P:Env->Prop):∀ (N m:Nat) (η:Env),m < N->I m η->(∀ m η,I m η->(∃ η',c η=.ok (false,η')/\P η')\/∃ η1 η2 m',c η=.ok (true,η1)/\f η1=.nx η2/\m' < m/\I m' η2) ->
  ∃ η',fN c f N η=.nx η'/\P η'
 | 0,_,_,h,_,_=>by omega
 | N+1,m,η,h,hi,k=>by
  rcases k m η hi with ⟨η',h1,h2⟩ | ⟨η1,η2,m',h1,h2,h3,h4⟩
  ·refine ⟨η',?_,h2⟩
   show Fl.of η (c η) _=_
   rw [h1]; rfl
  ·obtain ⟨η',e,p⟩:=hU I P N m' η2 (by omega) h4 k
   refine ⟨η',?_,p⟩
   show Fl.of η (c η) _=_
   rw [h1]
   show Fl.turn (f η1) _=_
   rw [h2]; exact e
noncomputable abbrev WC:E:=.op .lt false [.call 246 [.var 0],.op .add false [.cst (.int 17),.op .mod false [.op .fdiv false [.var 1,.cst (.int 3)],.cst (.int 5)]]]
noncomputable abbrev WB:List S:=[.asg (.q [0] []) 0 (.tup [.cst (.str (q "not")),.var 0])]
theorem oA (t:T){e:Nat}(h:WT e t)(m0:Md)(w1:Option W)(L:Nat):∃ m0',evSs (C L) WB [some (m0,t),w1,none,none,none]=.nx [some (m0',.tup [.str (q "not"),t]),w1,none,none,none]:=by
 obtain ⟨s,r,rfl,_⟩:=h.sg
 exact ⟨_,by simp_all only []; rfl⟩
theorem sE (t:T)(h:WT 7 t)(c:Int)(m0:Md):∃ m0' t' e,fN (evT (C 38) (.q [0] [1]) WC) (evSs (C 38) WB) ji [some (m0,t),some (.d,.int c),none,none,none]=.nx [some (m0',t'),some (.d,.int c),none,none,none]/\e<=21/\WT e t'/\szF e t'<=50000:=by
 obtain ⟨e0,he0,tw0,_⟩:=BS h
 have sz0:szF e0 t<=16384:=by
  have:=qw tw0.1
  have p:4 ^ e0<=4 ^ 7:=Nat.pow_le_pow_right (by decide) he0
  omega
 obtain ⟨r,hr,er⟩:=mdj (c / 3) 5 (by decide)
 have er:c / 3 % 5=(r:Int):=er
 have p1:decide ((0:Int) < 3)=true:=rfl
 have p2:decide ((3:Int) < 1073741824)=true:=rfl
 have p3:decide ((0:Int) < 5)=true:=rfl
 obtain ⟨η',lp,m0',t',e,h1,h2,h3,rfl⟩:=hU (c:=evT (C 38) (.q [0] [1]) WC) (f:=evSs (C 38) WB)
  (fun k η=>∃ m0 t e,e<=21/\TW e t/\szF e t<=20000+e/\k=30-e/\η=[some (m0,t),some (.d,.int c),none,none,none])
  (fun η=>∃ m0 t e,e<=21/\WT e t/\szF e t<=50000/\η=[some (m0,t),some (.d,.int c),none,none,none])
  ji (30-e0) [some (m0,t),some (.d,.int c),none,none,none] (by show _ < 1000000000000; omega) ⟨m0,t,e0,by omega,tw0,by omega,rfl,rfl⟩ (fun k η ⟨m0,t,e,he,tw,hz,hk,hη⟩=>by
   subst hη
   have d1:∀ m,C 38 246 [(m,t)]=.ok ((.d,.int (e:Nat)),[]):=fun m=>by
    have:=gP e t tw.1 (37-e) m
    rw [show 37-e+e+1=38 by omega,tw.2] at this
    exact this
   by_cases hd:e < 17+r
   ·have p4:decide (((e:Nat):Int) < 17+(r:Int))=true:=decide_eq_true (by omega)
    obtain ⟨m0',nt⟩:=oA t tw.1 m0 (some (.d,.int c)) 38
    exact .inr ⟨_,_,30-(e+1),by simp_all only [d1,p1,p2,p3,er,p4],nt,by omega,m0',_,e+1,by omega,zU tw,by rw [oY]; omega,rfl,rfl⟩
   ·have p4:decide (((e:Nat):Int) < 17+(r:Int))=false:=decide_eq_false (by omega)
    exact .inl ⟨_,by simp_all only [d1,p1,p2,p3,er,p4],m0,t,e,he,tw.1,by omega,rfl⟩)
 exact ⟨m0',t',e,lp,h1,h2,h3⟩
noncomputable abbrev prT (a b:T):T:=.tup [.str (q "pair"),a,b]
noncomputable def br:List T->List T
 | a::b::r=>prT a b::br r
 | [a]=>[a]
 | []=>[]
theorem iR:∀ ts:List T,(a0M (ts.length / 2)).map (fun k=>prT (ts.getD (2 * k) .non) (ts.getD (2 * k+1) .non))++ts.drop (2 * (ts.length / 2))=br ts
 | []=>rfl
 | [a]=>by simp [br]
 | a::b::r=>by
  have e:(a::b::r).length / 2=r.length / 2+1:=by simp only [a0c]; omega
  rw [e,a2f,a0m,a0N,br,<- iR r,a1n,show 2 * (r.length / 2+1)=2 * (r.length / 2)+1+1 by omega,a0o,a0o]
  rfl
theorem cV:∀ ts:List T,(br ts).length=(ts.length+1) / 2
 | []=>rfl
 | [a]=>by simp [br]
 | a::b::r=>by rw [br,a0c,cV r]; simp only [a0c]; omega
theorem la {d:Nat}:∀ ts:List T,(∀ t∈ts,WT d t)->∀ t∈br ts,WT (d+1) t
 | [],_,_,h=>nomatch h
 | [a],h,t,ht=>by rw [a0t.mp ht]; exact (h a a0f).up1
 | a::b::r,h,t,ht=>by
  rcases a0s.mp ht with rfl | ht
  ·exact u9 (h a a0f) (h b (a0g _ a0f))
  ·exact la r (fun x hx=>h x (a0g _ (a0g _ hx))) t ht
theorem kA {d:Nat}:∀ ts:List T,(∀ t∈ts,WT d t)->((br ts).map (szF (d+1))).sum+(br ts).length=(ts.map (szF d)).sum+ts.length
 | [],_=>rfl
 | [a],h=>by
  show szF (d+1) a+0+1=szF d a+0+1
  rw [m8 (h a a0f)]
 | a::b::r,h=>by
  have ih:=kA r (fun x hx=>h x (a0g _ (a0g _ hx)))
  rw [br,a0m,a1m,uN]
  simp only [a0c,a0m,a1m]
  omega
noncomputable abbrev PC:E:=.op .gt false [.op .len false [.var 2],.cst (.int 1)]
noncomputable abbrev PBd:List S:=[
    .asg (.q [2] []) 3 (.comp false .rng [.op .fdiv false [.op .len false [.var 2],.cst (.int 2)]] [4] none (.tup [.cst (.str (q "pair")),.op .ix false [.var 2,.op .mul false [.cst (.int 2),.var 4]],.op .ix false [.var 2,.op .add false [.op .mul false [.cst (.int 2),.var 4],.cst (.int 1)]]])),
    .asg (.q [2,3] []) 2 (.op .add false [.var 3,.op .sl1 false [.var 2,.op .mul false [.cst (.int 2),.op .len false [.var 3]]]])]
theorem DY {α:Type}(l:List α)(k:Nat)(h:k<=l.length):cut l (some (k:Int)) none=l.drop k:=by
 have e:sIx l.length 0 (some (k:Int))=k:=by
  show (if (k:Int) < 0 then ((k:Int)+(l.length:Int)).toNat else min (k:Int).toNat l.length)=k
  rw [if_neg (by omega)]; omega
 have e2:sIx l.length l.length none=l.length:=rfl
 rw [cut,e,e2]
 exact a1p (by rw [a1a]; omega)
theorem mX (ts:List T)(hl:ts.length<=1000)(m2:Md)(w0 w1 o3:Option W)(L:Nat):∃ m2' o3',evSs (C L) PBd [w0,w1,some (m2,.lst ts),o3,none]=.nx [w0,w1,some (m2',.lst (br ts)),o3',none]:=by
 have c1:aC [4] (bZ (evE (C L) (.tup [.cst (.str (q "pair")),.op .ix false [.var 2,.op .mul false [.cst (.int 2),.var 4]],.op .ix false [.var 2,.op .add false [.op .mul false [.cst (.int 2),.var 4],.cst (.int 1)]]]))) ((a0M (ts.length / 2)).map fun (k:Nat)=>[((.d,.int k):W)]) [none,none,some (.s,.lst ts),none,none] []=.ok ([]++(a0M (ts.length / 2)).map (fun k=>(((lf .s (ts.getD (2 * k) .non)).meet ((lf .s (ts.getD (2 * k+1) .non)).meet .d)).up,prT (ts.getD (2 * k) .non) (ts.getD (2 * k+1) .non))),[none,none,some (.s,.lst ts),none,none]):=aG _ _ [] fun k hk=>⟨_,[none,none,some (.s,.lst ts),none,some (.d,.int (k:Int))],rfl,by
  have hk:=a1O.mp hk
  have a1:atI ts (2 * (k:Int))=some (ts.getD (2 * k) .non):=by
   have:=jC (ts:=ts) (j:=2 * k) (by omega)
   rw [<- this]; congr 1
  have a2:atI ts (2 * (k:Int)+1)=some (ts.getD (2 * k+1) .non):=by
   have:=jC (ts:=ts) (j:=2 * k+1) (by omega)
   rw [<- this]; congr 1
  have p0:decide ((2:Int).natAbs < 18446744073709551616)=true:=rfl
  simp_all only [p0,a1,a2,a11],rfl⟩
 have t1:=aA (fun k=>((lf .s (ts.getD (2 * k) .non)).meet ((lf .s (ts.getD (2 * k+1) .non)).meet .d)).up) (fun k=>prT (ts.getD (2 * k) .non) (ts.getD (2 * k+1) .non)) (a0M (ts.length / 2))
 have r0:((ts.length:Nat):Int) / 2=((ts.length / 2:Nat):Int):=by omega
 have r1:(decide (((ts.length / 2:Nat):Int).natAbs < 4611686018427387904)&&fits (ts.length / 2))=true:=by
  rw [a0j]
  exact ⟨decide_eq_true (by omega),decide_eq_true (by show _<=16777215; omega)⟩
 have r2:((ts.length / 2:Nat):Int).toNat=ts.length / 2:=by omega
 have p1:decide ((0:Int) < 2)=true:=rfl
 have p2:decide ((2:Int) < 1073741824)=true:=rfl
 have p3:decide ((2:Int).natAbs < 18446744073709551616)=true:=rfl
 generalize hP:(a0M (ts.length / 2)).map (fun k=>prT (ts.getD (2 * k) .non) (ts.getD (2 * k+1) .non))=P at t1
 have hPl:P.length=ts.length / 2:=by rw [<- hP,a0b,a1i]
 have d1:cut ts (some (2 * ((P.length:Nat):Int))) none=ts.drop (2 * (ts.length / 2)):=by
  have:=DY ts (2 * (ts.length / 2)) (by omega)
  rw [<- this,hPl]; congr 2
 have d2:P++ts.drop (2 * (ts.length / 2))=br ts:=by rw [<- hP]; exact iR ts
 have f1:fits (P.length+(ts.drop (2 * (ts.length / 2))).length)=true:=decide_eq_true (by rw [hPl,a1a]; show _<=16777215; omega)
 exact ⟨_,_,by simp_all only [r0,r1,r2,p1,p2,p3,c1,t1,a11,d1,d2,f1,pE]; rfl⟩
theorem pK (ts:List T)(hl:ts.length<=128)(h1:1<=ts.length)(hw:∀ t∈ts,WT 7 t)(K:Nat)(hK:(ts.map (szF 7)).sum+ts.length<=K)(m2:Md)(w0 w1 o3:Option W)(L:Nat):∃ m2' o3' t,fN (evT (C L) (.q [2] []) PC) (evSs (C L) PBd) ji [w0,w1,some (m2,.lst ts),o3,none]=.nx [w0,w1,some (m2',.lst [t]),o3',none]/\WT 14 t/\szF 14 t<=K:=by
 obtain ⟨η',lp,m2',o3',t,h1,h2,rfl⟩:=hU (c:=evT (C L) (.q [2] []) PC) (f:=evSs (C L) PBd)
  (fun k η=>∃ m2 ts o3 d j,ts.length<=2 ^ j/\1<=ts.length/\ts.length<=128/\d+j<=14/\(∀ t∈ts,WT d t)/\(ts.map (szF d)).sum+ts.length<=K/\k=ts.length/\η=[w0,w1,some (m2,.lst ts),o3,none])
  (fun η=>∃ m2 o3 t,WT 14 t/\szF 14 t<=K/\η=[w0,w1,some (m2,.lst [t]),o3,none])
  ji ts.length [w0,w1,some (m2,.lst ts),o3,none] (by show _ < 1000000000000; omega) ⟨m2,ts,o3,7,7,hl,h1,hl,by omega,hw,hK,rfl,rfl⟩ (fun k η ⟨m2,ts,o3,d,j,a1,a2,a3,a4,a5,a6,a7,hη⟩=>by
   subst hη
   by_cases hd:1 < ts.length
   ·have p4:decide ((1:Int) < ((ts.length:Nat):Int))=true:=decide_eq_true (by omega)
    obtain ⟨m2',o3',pt⟩:=mX ts (by omega) m2 w0 w1 o3 L
    have hj:1<=j:=by
     cases j with
     | zero=>rw [Nat.pow_zero] at a1; omega
     | succ j=>omega
    obtain ⟨j,rfl⟩:∃ i,j=i+1:=⟨j-1,by omega⟩
    refine .inr ⟨_,_,(br ts).length,by simp_all only [p4],pt,by rw [cV]; omega,m2',_,o3',d+1,j,?_,by rw [cV]; omega,by rw [cV]; omega,by omega,la ts a5,by rw [kA ts a5]; exact a6,rfl,rfl⟩
    rw [cV]
    rw [a2G] at a1
    omega
   ·have p4:decide ((1:Int) < ((ts.length:Nat):Int))=false:=decide_eq_false (by omega)
    obtain ⟨t,rfl⟩:∃ t,ts=[t]:=List.length_eq_one_iff.mp (by omega)
    have wt:=a5 t a0f
    have a6:szF d t+0+1<=K:=a6
    refine .inl ⟨_,by simp_all only [p4],m2,o3,t,wt.up (by omega),by rw [qo wt 14 (by omega)]; omega,rfl⟩)
 exact ⟨m2',o3',t,lp,h1,h2⟩
theorem qh (t:T)(h:WT 7 t)(c:Int):∃ md t' e,C 39 249 [(.s,t),(.d,.int c)]=.ok ((md,t'),[])/\e<=21/\WT e t'/\szF e t'<=50000:=by
 have z7:szF 7 t+1<=16384:=qw h
 have p1:decide ((0:Int) < 3)=true:=rfl
 have p2:decide ((3:Int) < 1073741824)=true:=rfl
 have p3:decide ((0:Int) < 6)=true:=rfl
 have e01:((0:Int)==1)=false:=rfl
 by_cases c0:c % 3=0
 ·obtain ⟨m0',t',e,lp,h1,h2,h3⟩:=sE t h c .s
  have b0:(c % 3==0)=true:=by rw [c0]; rfl
  have b1:(c % 3==1)=false:=by rw [c0]; rfl
  exact ⟨_,t',e,by rw [bK,x_run _ _ _ rfl]; simp_all only [aZ,p1,b0,b1,lp]; rfl,h1,h2,h3⟩
 ·have b0:(c % 3==0)=false:=beq_eq_false_iff_ne.mpr c0
  by_cases c1:c % 3=1
  ·have b1:(c % 3==1)=true:=by rw [c1]; rfl
   obtain ⟨r,hr,er⟩:=mdj (c / 3) 6 (by decide)
   have er:c / 3 % 6=(r:Int):=er
   have mo:∀ m,C 38 245 [(m,t)]=.ok ((.d,.int (szF 7 t:Nat)),[]):=fun m=>gH 7 t h 30 m
   have hk:∃ k:Nat,(if ((197:Int)+(r:Int)-((szF 7 t:Nat):Int)) / 2 > 0 then ((197:Int)+(r:Int)-((szF 7 t:Nat):Int)) / 2 else 0)=(k:Int)/\k<=101:=by
    generalize szF 7 t=z
    split
    ·exact ⟨(((197:Int)+(r:Int)-((z:Nat):Int)) / 2).toNat,by omega,by omega⟩
    ·exact ⟨0,rfl,by omega⟩
   obtain ⟨k,ek,hk⟩:=hk
   have k1:(decide ((k:Int).natAbs < 4611686018427387904)&&fits (1 * k))=true:=by
    rw [a0j]
    exact ⟨decide_eq_true (by omega),decide_eq_true (by show _<=16777215; omega)⟩
   have k2:(k:Int).toNat=k:=by omega
   have k3:(a0i k [T.tup [.str (q "yes")]]).flatten=a0i k (T.tup [.str (q "yes")]):=List.flatten_replicate_singleton
   have k4:fits (1+k)=true:=decide_eq_true (by show _<=16777215; omega)
   have wy:∀ {d:Nat},WT (d+1) (.tup [.str (q "yes")]):=.node (s:="yes") (ps:=[]) (by decide) rfl (by intro p hp; cases hp)
   have zy:szF 7 (.tup [.str (q "yes")])=1:=by rw [lR,show bz (.tup [.str (q "yes")])=[] from jD "yes" (ahN "yes" (by decide)) []]; rfl
   have zs:∀ k,((a0i k (T.tup [.str (q "yes")])).map (szF 7)).sum=k:=fun k=>by
    induction k with
    | zero=>rfl
    | succ k ih=>rw [a0Q,a0m,a1m,ih,zy]; omega
   have p5:decide ((0:Int) < 2)=true:=rfl
   have p6:decide ((2:Int) < 1073741824)=true:=rfl
   have p7:decide ((0:Int) < 18)=true:=rfl
   have p8:decide ((18:Int) < 1073741824)=true:=rfl
   obtain ⟨m2',o3',u,lp,h1,h2⟩:=pK (t::a0i k (T.tup [.str (q "yes")])) (by rw [a0c,a0F]; omega) (by rw [a0c]; omega) (fun x hx=>by
    rcases a0s.mp hx with rfl | hx
    ·exact h
    ·rw [(List.mem_replicate.mp hx).2]; exact wy) 20000 (by rw [a0m,a1m,zs,a0c,a0F]; omega) (.o .s) (some (.s,t)) (some (.d,.int c)) none 38
   have lr:(a0i k (T.tup [.str (q "yes")])).length=k:=a0F
   generalize a0i k (T.tup [.str (q "yes")])=R at k3 lp lr
   have a0:atI [u] 0=some u:=at0 _ _
   have lu:lf .s u=.s:=by obtain ⟨s,r,rfl,_⟩:=h1.sg; rfl
   cases hq:c / 18 % 2==0 with
   | true=>exact ⟨_,u,14,by rw [bK,x_run _ _ _ rfl]; simp_all only [aZ,p1,p2,p3,p5,p6,p7,p8,b0,b1,er,mo,pU,ek,kg,k1,k2,k3,k4,lr,a0c,a00,a09,a1n,a0T,lp,hq,a0,lu]; rfl,by omega,h1,by omega⟩
   | false=>exact ⟨_,_,15,by rw [bK,x_run _ _ _ rfl]; simp_all only [aZ,p1,p2,p3,p5,p6,p7,p8,b0,b1,er,mo,pU,ek,kg,k1,k2,k3,k4,lr,a0c,a00,a09,a1n,a0T,lp,hq,a0,lu]; rfl,by omega,pJ h1,by rw [oY]; omega⟩
  ·have b1:(c % 3==1)=false:=beq_eq_false_iff_ne.mpr c1
   exact ⟨_,t,7,by rw [bK,x_run _ _ _ rfl]; simp_all only [aZ,p1,b0,b1]; rfl,by omega,h,by omega⟩
theorem CT:∀ l:List Nat,l≠[]->maxI (l.map fun (k:Nat)=>(k:Int))=(mxN l:Nat)
 | [],h=>absurd rfl h
 | [a],_=>by simp [maxI,mxN]
 | a::b::l,_=>by
  have ih:=CT (b::l) (by simp)
  rw [a0m] at ih
  show max (a:Int) (maxI ((b:Int)::l.map fun (k:Nat)=>(k:Int)))=_
  rw [ih]
  show max (a:Int) ((mxN (b::l):Nat):Int)=((max a (mxN (b::l)):Nat):Int)
  omega
theorem vT:∀ l:List Nat,intsOf (l.map fun (k:Nat)=>T.int (k:Int))=some (l.map fun (k:Nat)=>(k:Int))
 | []=>rfl
 | p::ps=>by
  have ih:=vT ps
  rw [a0m,a0m]
  simp only [intsOf,ih,a2q,a1z]
noncomputable def due (e:Nat)(L:List (Str×T))(t:T):Bool:=(decide (L.length<=6)&&decide (L.map (·.1)).Nodup)&&(decide (szF e t<=200)&&(decide (dpF e t<=20)&&bJ e (L.map (·.1)) t))
theorem uH (L:List (Str×T))(hL:gW L)(hl:L.length<=7)(t:T)(e:Nat)(he:e<=21)(h:WT e t)(hz:szF e t<=50000)(m:Md):C 39 255 [(m,.tup [.tup (hT L),t])]=.ok ((.d,.bl (due e L t)),[]):=by
 have c2:(!((([T.tup (hT L),t].length:Nat):Int)==2))=false:=rfl
 have a1:=fun m=>oF 29 L hL m
 have a2:∀ m,C 38 227 [(m,t)]=.ok ((.d,.bl true),[]):=fun m=>by
  have:=oM h (26-e) m
  rw [show 26-e+e+12=38 by omega] at this
  exact this
 have a3:∀ m,C 38 253 [(m,t)]=.ok ((.o .s,.lst (plT [] (ax e t))),[]):=fun m=>by
  have hz2:(ax e t).length<=100000:=a0z (show (ax e t).length<=50000 from hz) (by decide)
  have:=lG e t h (by omega) hz2 (34-e) m
  rw [show 34-e+e+4=38 by omega] at this
  exact this
 obtain ⟨μ,a4⟩:=iP 37 L
 have a5:∀ m m',C 38 243 [(m,t),(m',.tup (aI (L.map (·.1))))]=.ok ((.d,.bl (bJ e (L.map (·.1)) t)),[]):=fun m m'=>by
  have:=eP e t h (35-e) (L.map (·.1)) m m' (by rw [a0b]; omega)
  rw [show 35-e+e+3=38 by omega] at this
  exact this
 have az:atI [T.tup (hT L),t] 0=some (T.tup (hT L)):=at0 _ _
 have ao:atI [T.tup (hT L),t] 1=some t:=at1 _ _ _
 have n1:((ax e t).map a0V)≠[]:=fun z=>pX h (List.map_eq_nil_iff.mp z)
 have n2:=qY e t h
 rw [DH] at a3
 have c3:∀ w0,aC [2] (bZ (evE (C 38) (.op .len false [.var 2]))) (((ax e t).map fun l=>T.tup (nT l)).map fun t=>[((.s,t):W)]) [w0,some (.s,.lst ((ax e t).map fun l=>T.tup (nT l))),none] []=.ok ([]++(ax e t).map (fun l=>((.d,.int (l.length:Nat)):W)),[w0,some (.s,.lst ((ax e t).map fun l=>T.tup (nT l))),none]):=fun w0=>by
  rw [a0N]
  refine aG _ _ [] fun l _=>⟨_,[w0,some (.s,.lst ((ax e t).map fun l=>T.tup (nT l))),some (.s,.tup (nT l))],rfl,?_,rfl⟩
  have e1:(((nT l).length:Nat):Int)=((l.length:Nat):Int):=by rw [a0b]
  generalize (ax e t).map (fun l=>T.tup (nT l))=q
  simp_all only [e1]
 have t1:trees ((ax e t).map (fun l=>((.d,.int (l.length:Nat)):W)))=((ax e t).map a0V).map fun (k:Nat)=>T.int (k:Int):=by rw [aA (fun _=>Md.d) (fun l:List Nat=>T.int (l.length:Nat)),a0N]; rfl
 have t2:=vT ((ax e t).map a0V)
 have t3:=CT _ n1
 have t4:(((ax e t).map a0V).map fun (k:Nat)=>(k:Int)).isEmpty=false:=by
  cases hq:((ax e t).map a0V) with
  | nil=>exact absurd hq n1
  | cons a l=>rfl
 have t5:decide ((200:Int) < ((((ax e t).map fun l=>T.tup (nT l)).length:Nat):Int))=!decide (szF e t<=200):=by
  rw [a0b,<- decide_not]
  show decide ((200:Int) < ((szF e t:Nat):Int))=_
  exact decide_eq_decide.mpr (by omega)
 have t6:decide ((20:Int)<=((mxN ((ax e t).map a0V):Nat):Int))=!decide (dpF e t<=20):=by
  rw [<- decide_not]
  exact decide_eq_decide.mpr (by omega)
 unfold due
 generalize (ax e t).map (fun l=>T.tup (nT l))=q at a3 c3 t5
 cases h1:decide (L.length<=6)&&decide (L.map (·.1)).Nodup with
 | false =>
  rw [h1] at a1
  rw [aD,x_run _ _ _ rfl]
  simp_all only [aq,bX,c2,az,ao,a1,a0B]
 | true =>
  rw [h1] at a1
  cases h2:decide (szF e t<=200) with
  | false =>
   rw [h2] at t5
   rw [aD,x_run _ _ _ rfl]
   simp_all only [aq,bX,c2,az,ao,a1,a2,a3,t5,a0U,a0B,a0R]
  | true =>
   rw [h2] at t5
   cases h3:decide (dpF e t<=20) with
   | false =>
    rw [h3] at t6
    rw [aD,x_run _ _ _ rfl]
    simp_all only [aq,bX,c2,az,ao,a1,a2,a3,t5,c3,t1,t2,t3,t4,t6,a0U,a1V,a0B,a0R]
   | true =>
    rw [h3] at t6
    rw [aD,x_run _ _ _ rfl]
    simp_all only [aq,bX,c2,az,ao,a1,a2,a3,t5,c3,t1,t2,t3,t4,t6,a4,a5,a0U,a1V,a0J]
theorem nL (ts:List T):(["tuple"].any fun c=>isOne c (T.lst ts))=false:=rfl
theorem B5:(["tuple"].any fun c=>isOne c T.non)=false:=rfl
theorem Aj (i:Int):(["tuple"].any fun c=>isOne c (T.int i))=false:=rfl
theorem AN (x:Str):(["tuple"].any fun c=>isOne c (T.str x))=false:=rfl
theorem yJ (n:Nat)(i:Int)(m:Md):C (n+1) 241 [(m,.int i)]=.ok ((.d,.bl false),[]):=by
 rw [cP,x_run _ _ _ rfl]
 simp_all only [bg,Aj]
theorem dm (n:Nat)(i:Str)(m:Md):C (n+1) 241 [(m,.str i)]=.ok ((.d,.bl false),[]):=by
 rw [cP,x_run _ _ _ rfl]
 simp_all only [bg,AN]
theorem il (n:Nat)(s:String)(r:List T)(h:nmA (q s)=false)(m:Md):C (n+2) 241 [(m,.tup (.str (q s)::r))]=.ok ((.d,.bl false),[]):=by
 have e:=fun m=>jG n (q s) m
 rw [h] at e
 have az:atI (T.str (q s)::r) 0=some (T.str (q s)):=at0 _ _
 rw [cP,x_run _ _ _ rfl]
 cases hc:!((((T.str (q s)::r).length:Nat):Int)==2) with
 | true=>simp_all only [bg,bX,hc]
 | false=>simp_all only [bg,bX,hc,az,e]
theorem nmL:∀ s∈LF,nmA (q s)=false:=by decide +kernel
theorem nmN:∀ s∈NF,nmA (q s)=false:=by decide +kernel
theorem Dy:∀ s∈BF,nmA (q s)=false:=by decide +kernel
theorem nmK:∀ s∈["num","truth","row","pair"],nmA (q s)=false:=by decide +kernel
theorem wd (n:Nat){d:Nat}{t:T}(h:WT d t)(m:Md):C (n+2) 241 [(m,t)]=.ok ((.d,.bl false),[]):=by
 obtain ⟨s,r,rfl,hs⟩:=h.sg
 refine il n s r ?_ m
 rcases hs with hs | hs | hs
 ·exact nmL s hs
 ·exact Dy s hs
 ·exact nmN s hs
theorem CU (n:Nat){d:Nat}{t:T}(h:KK d t)(m:Md):C (n+2) 241 [(m,t)]=.ok ((.d,.bl false),[]):=by
 cases h with
 | num=>exact il n "num" [] (nmK _ (by decide)) m
 | truth=>exact il n "truth" [] (nmK _ (by decide)) m
 | row _=>exact il n "row" _ (nmK _ (by decide)) m
 | pair _ _=>exact il n "pair" _ (nmK _ (by decide)) m
theorem Br (n:Nat){d:Nat}{ts:List T}(h:WT d (.tup ts)):∃ x r,ts=x::r/\∀ u∈ts,∀ m,C (n+2) 241 [(m,u)]=.ok ((.d,.bl false),[]):=by
 cases h with
 | num h0 h1=>exact ⟨_,_,rfl,fun u hu m=>by
   rcases a0s.mp hu with rfl | hu
   ·exact dm _ _ m
   ·rw [a0t.mp hu]; exact yJ _ _ m⟩
 | name hs=>exact ⟨_,_,rfl,fun u hu m=>by
   rcases a0s.mp hu with rfl | hu
   ·exact dm _ _ m
   ·rw [a0t.mp hu]; exact dm _ _ m⟩
 | none hk=>exact ⟨_,_,rfl,fun u hu m=>by
   rcases a0s.mp hu with rfl | hu
   ·exact dm _ _ m
   ·rw [a0t.mp hu]; exact CU n hk m⟩
 | node hs hl hp=>exact ⟨_,_,rfl,fun u hu m=>by
   rcases a0s.mp hu with rfl | hu
   ·exact dm _ _ m
   ·exact wd n (hp u hu) m⟩
 | bind hs hx hl hp=>exact ⟨_,_,rfl,fun u hu m=>by
   rcases a0s.mp hu with rfl | hu
   ·exact dm _ _ m
   ·rcases a0s.mp hu with rfl | hu
    ·exact dm _ _ m
    ·exact wd n (hp u hu) m⟩
theorem oX (n:Nat){d:Nat}{t:T}(h:WT d t)(m:Md):C (n+3) 252 [(m,t)]=.ok ((.d,.bl false),[]):=by
 obtain ⟨s,r,rfl,_⟩:=h.sg
 obtain ⟨x,r',e,hu⟩:=Br n h
 exact k5 (n+2) _ (fun _=>false) hu rfl m
theorem tq (n:Nat)(ts:List T)(m:Md):C (n+1) 252 [(m,.lst ts)]=.ok ((.d,.bl false),[]):=by
 rw [bL,x_run _ _ _ rfl]
 simp_all only [aY,nL]
open Classical in
theorem uS (n:Nat)(L:List (Str×T))(hL:gW L)(o:T)(ho:∀ m,C (n+8) 241 [(m,o)]=.ok ((.d,.bl false),[]))(m:Md):C (n+9) 252 [(m,.tup (hT L++[o]))]=.ok ((.d,.bl false),[]):=by
 have hno:¬ ∀ m,C (n+8) 241 [(m,o)]=.ok ((.d,.bl true),[]):=fun z=>by
  have:=(z .s).symm.trans (ho .s)
  cases this
 refine k5 (n+8) _ (fun u=>decide (∀ m,C (n+8) 241 [(m,u)]=.ok ((.d,.bl true),[]))) (fun u hu m=>?_) ?_ m
 ·rcases a0S.mp hu with hu | hu
  ·obtain ⟨p,hp,rfl⟩:=a1k.mp hu
   have z:=fun m=>eM n p.1 p.2 (hL p hp).1 (hL p hp).2 m
   rw [decide_eq_true z]
   exact z m
  ·rw [a0t.mp hu,decide_eq_false hno]
   exact ho m
 ·rw [a0Z,List.all_append,a0m,decide_eq_false hno]
  show (_&&(false&&_))=false
  rw [a0B,a0R]
theorem n9 (ts:List T)(h:(!(((ts.length:Nat):Int)==2))=true)(m:Md):C 39 255 [(m,.tup ts)]=.ok ((.d,.bl false),[]):=by
 rw [aD,x_run _ _ _ rfl]
 simp_all only [aq,bX,h]
theorem wV (ts:List T)(m:Md):C 39 255 [(m,.lst ts)]=.ok ((.d,.bl false),[]):=by
 rw [aD,x_run _ _ _ rfl]
 simp_all only [aq,nL]
theorem yK (m:Md):C 39 255 [(m,.non)]=.ok ((.d,.bl false),[]):=by
 rw [aD,x_run _ _ _ rfl]
 simp_all only [aq,B5]
theorem dM (a b:T)(h:∀ m,C 38 252 [(m,a)]=.ok ((.d,.bl false),[]))(m:Md):C 39 255 [(m,.tup [a,b])]=.ok ((.d,.bl false),[]):=by
 have c2:(!((([a,b].length:Nat):Int)==2))=false:=rfl
 have az:atI [a,b] 0=some a:=at0 _ _
 rw [aD,x_run _ _ _ rfl]
 simp_all only [aq,bX,c2,az,h]
theorem gD (a b:T)(x:Bool)(h:∀ m,C 38 252 [(m,a)]=.ok ((.d,.bl x),[]))(h2:∀ m,C 38 227 [(m,b)]=.ok ((.d,.bl false),[]))(m:Md):C 39 255 [(m,.tup [a,b])]=.ok ((.d,.bl false),[]):=by
 cases x with
 | false=>exact dM a b h m
 | true =>
  have c2:(!((([a,b].length:Nat):Int)==2))=false:=rfl
  have az:atI [a,b] 0=some a:=at0 _ _
  have ao:atI [a,b] 1=some b:=at1 _ _ _
  rw [aD,x_run _ _ _ rfl]
  simp_all only [aq,bX,c2,az,ao,h,h2]
theorem zE (n:Nat)(ts:List T)(m:Md):C (n+1) 227 [(m,.lst ts)]=.ok ((.d,.bl false),[]):=by
 rw [aU,x_run _ _ _ rfl]
 simp_all only [aF,nL]
theorem zO (n:Nat)(m:Md):C (n+1) 227 [(m,.tup [])]=.ok ((.d,.bl false),[]):=by
 have c0:(((([]:List T).length:Nat):Int)==0)=true:=rfl
 rw [aU,x_run _ _ _ rfl]
 simp_all only [aF,bX,c0]
theorem qp (n:Nat)(x:T)(r:List T)(hx:(["str"].any fun c=>isOne c x)=false)(hg:x.isG=false)(m:Md):C (n+1) 227 [(m,.tup (x::r))]=.ok ((.d,.bl false),[]):=by
 have c0:((((x::r).length:Nat):Int)==0)=false:=by rw [dh]; exact beq_eq_false_iff_ne.mpr (by omega)
 have az:atI (x::r) 0=some x:=at0 _ _
 rw [aU,x_run _ _ _ rfl]
 simp_all only [aF,bX,c0,az,hx,we,hg]
theorem rm (n:Nat)(L:List (Str×T))(m:Md):C (n+1) 227 [(m,.tup (hT L))]=.ok ((.d,.bl false),[]):=by
 cases L with
 | nil=>exact zO n m
 | cons p L=>exact qp n _ _ rfl rfl m
noncomputable abbrev nu:T:=.tup [.str (q "num")]
noncomputable def W7:List T:=[.str (q "add"),.str (q "x y"),.str (q "abcdefghi"),.str (q ""),.int 5,.non,.bl true]
noncomputable def dpK:T:=.tup [.str (q "row"),.tup [.str (q "row"),.tup [.str (q "row"),.tup [.str (q "row"),.tup [.str (q "row"),.tup [.str (q "num")]]]]]]
noncomputable def O7:List T:=[.tup [.str (q "k")],.tup [.str (q "k"),nu,.int 1],.tup [.str (q "row"),nu],.tup [.str (q "k"),.tup [.str (q "nums")]],.lst [.str (q "k"),nu],.tup [.str (q "k"),dpK],.tup [.str (q "ab")]]
noncomputable def O16:List T:=O7++W7.map (fun w=>.tup [w,nu])++[.tup [.lst [],nu],.tup []]
theorem yf (o:T)(h:o∈O16)(m:Md):C 37 241 [(m,o)]=.ok ((.d,.bl false),[]):=by
 simp only [O16,O7,W7,a0m,a05,a1n,a0T,a0s,a08,or_false] at h
 rcases h with rfl | rfl | rfl | rfl | rfl | rfl | rfl | rfl | rfl | rfl | rfl | rfl | rfl | rfl | rfl | rfl
 ·exact aV (by kernel_rfl)
 ·exact aV (by kernel_rfl)
 ·exact aV (by kernel_rfl)
 ·exact aV (by kernel_rfl)
 ·exact aV (by kernel_rfl)
 ·exact aV (by kernel_rfl)
 ·exact aV (by kernel_rfl)
 ·exact aV (by kernel_rfl)
 ·exact aV (by kernel_rfl)
 ·exact aV (by kernel_rfl)
 ·exact aV (by kernel_rfl)
 ·exact aV (by kernel_rfl)
 ·exact aV (by kernel_rfl)
 ·exact aV (by kernel_rfl)
 ·exact aV (by kernel_rfl)
 ·exact aV (by kernel_rfl)
noncomputable def B7 (hs:List T)(t:T):List T:=[.lst [.tup hs,t],.tup [.lst hs,t],.tup [.tup hs,t,.tup hs],.tup [.tup hs],.non,.tup [.tup hs,.tup hs],.tup [t,.tup hs]]
noncomputable def A25 (hs:List T)(t:T):List T:=B7 hs t++O16.map (fun o=>.tup [.tup (hs++[o]),t])++[.tup [.tup hs,.lst [.str (q "yes")]],.tup [.tup hs,.tup [.lst []]]]
theorem wU (L:List (Str×T))(hL:gW L)(t:T){e:Nat}(h:WT e t)(x:T)(hx:x∈A25 (hT L) t)(m:Md):C 39 255 [(m,x)]=.ok ((.d,.bl false),[]):=by
 have a1:=fun m=>oF 29 L hL m
 rcases a0S.mp hx with hx | hx
 ·rcases a0S.mp hx with hx | hx
  ·simp only [B7,a0s,a08,or_false] at hx
   rcases hx with rfl | rfl | rfl | rfl | rfl | rfl | rfl
   ·exact wV _ m
   ·exact dM _ _ (fun m=>tq 37 _ m) m
   ·exact n9 _ rfl m
   ·exact n9 _ rfl m
   ·exact yK m
   ·exact gD _ _ _ a1 (fun m=>rm 37 L m) m
   ·exact dM _ _ (fun m=>oX 35 h m) m
  ·obtain ⟨o,ho,rfl⟩:=a1k.mp hx
   exact dM _ _ (fun m=>uS 29 L hL o (fun m=>yf o ho m) m) m
 ·simp only [a0s,a08,or_false] at hx
  rcases hx with rfl | rfl
  ·exact gD _ _ _ a1 (fun m=>zE 37 _ m) m
  ·exact gD _ _ _ a1 (fun m=>qp 37 _ _ rfl rfl m) m
theorem DB (L:Nat)(m:Md)(hs:List T)(t:T)(ht:lf .s t=.s)(w1:Option W):∃ m0 m2 m3 m4,evSs (C L) (Bk f_law_amiss 0 2) [some (m,.tup [.tup hs,t]),w1,none,none,none,none,none,none,none]=.nx [some (m0,.tup [.tup hs,t]),w1,some (m2,.tup hs),some (m3,t),some (m4,.lst (B7 hs t)),none,none,none,none]:=by
 exact ⟨_,_,_,_,by simp_all only [Bk,f_law_amiss,a0o,a0x,a0q,a0D,ht,a0m,a05,k8]; rfl⟩
theorem Eh (L:Nat)(w0 w1 w2 w3 w4:Option W):∃ m5 m6,evSs (C L) (Bk f_law_amiss 2 2) [w0,w1,w2,w3,w4,none,none,none,none]=.nx [w0,w1,w2,w3,w4,some (m5,dpK),some (m6,.lst O7),none,none]:=by
 exact ⟨_,_,by simp_all only [Bk,f_law_amiss,a0o,a0x,a0q,a0D]; rfl⟩
theorem C3 (L:Nat)(w0 w1 w2 w3 w4 w5:Option W)(m6:Md)(o7:List T)(h7:o7.length=7)(W:List T)(hW:[T.str (q "add"),.str (q "x y"),.str (q "abcdefghi"),.str (q ""),.int 5,.non,.bl true]=W)(hWl:W.length=7):∃ m6',evSs (C L) (Bk f_law_amiss 4 1) [w0,w1,w2,w3,w4,w5,some (m6,.lst o7),none,none]=.nx [w0,w1,w2,w3,w4,w5,some (m6',.lst (o7++W.map (fun w=>.tup [w,nu])++[.tup [.lst [],nu],.tup []])),none,none]:=by
 have c1:∀ w6,aC [7] (bZ (evE (C L) (.tup [.var 7,.tup [.cst (.str (q "num"))]]))) (W.map fun t=>[((.s,t):M.W)]) [none,none,none,none,none,none,w6,none,none] []=.ok ([]++W.map (fun x=>(((lf .s x).meet .d).up,T.tup [x,nu])),[none,none,none,none,none,none,w6,none,none]):=fun w6=>aG _ _ [] fun x hx=>⟨_,[none,none,none,none,none,none,w6,some (.s,x),none],rfl,by simp_all only [],rfl⟩
 have t1:=aA (fun x=>((lf .s x).meet .d).up) (fun x=>T.tup [x,nu]) W
 have f1:fits (7+7)=true:=rfl
 have f2:fits (14+2)=true:=rfl
 have l1:(o7++W.map (fun w=>T.tup [w,nu])).length=14:=by rw [a0e,a0b,h7,hWl]
 have l2:(W.map (fun w=>T.tup [w,nu])).length=7:=by rw [a0b,hWl]
 exact ⟨_,by simp_all only [Bk,f_law_amiss,a0o,a0x,a0q,a0D,hW,c1,t1,h7,l1,l2,f1,f2,a0c,a00,a09,a2C]; rfl⟩
theorem Es (L:Nat)(w0 w1 w5:Option W)(m2 m3 m4 m6:Md)(hs:List T)(hh:hs.length<=100)(t:T)(ht:lf .s t=.s)(b7:List T)(h7:b7.length=7)(o16:List T)(h16:o16.length=16):∃ m2' m3' m4' w6,evSs (C L) (Bk f_law_amiss 5 1) [w0,w1,some (m2,.tup hs),some (m3,t),some (m4,.lst b7),w5,some (m6,.lst o16),none,none]=.nx [w0,w1,some (m2',.tup hs),some (m3',t),some (m4',.lst (b7++o16.map (fun o=>.tup [.tup (hs++[o]),t])++[.tup [.tup hs,.lst [.str (q "yes")]],.tup [.tup hs,.tup [.lst []]]])),w5,w6,none,none]:=by
 have f0:∀ o:T,fits (hs.length+[o].length)=true:=fun o=>decide_eq_true (by rw [a0v]; show _<=16777215; omega)
 have c1:∀ w4 w6,aC [8] (bZ (evE (C L) (.tup [.op .catT false [.var 2,.tup [.var 8]],.var 3]))) (o16.map fun t=>[((.s,t):W)]) [none,none,some (.s,.tup hs),some (.s,t),w4,none,w6,none,none] []=.ok ([]++o16.map (fun o=>(.o .s,T.tup [.tup (hs++[o]),t])),[none,none,some (.s,.tup hs),some (.s,t),w4,none,w6,none,none]):=fun w4 w6=>aG _ _ [] fun x hx=>⟨_,[none,none,some (.s,.tup hs),some (.s,t),w4,none,w6,none,some (.s,x)],rfl,by
  have f0':=f0 x
  simp_all only [oO,f0',ht],rfl⟩
 have t1:=aA (fun _=>Md.o .s) (fun o=>T.tup [.tup (hs++[o]),t]) o16
 have f1:fits (7+16)=true:=rfl
 have f2:fits (23+2)=true:=rfl
 have l1:(b7++o16.map (fun o=>T.tup [.tup (hs++[o]),t])).length=23:=by rw [a0e,a0b,h7,h16]
 have l2:(o16.map (fun o=>T.tup [.tup (hs++[o]),t])).length=16:=by rw [a0b,h16]
 exact ⟨_,_,_,_,by simp_all only [Bk,f_law_amiss,a0o,a0x,a0q,a0D,c1,t1,h7,l1,l2,f1,f2,ht,a0c,a00,a09,a2C]; rfl⟩
theorem DC (L:Nat)(w0 w2 w3 w5 w6:Option W)(m4:Md)(ts:List T)(h:ts.length=25)(c:Int):∃ md x η,evSs (C L) (Bk f_law_amiss 6 1) [w0,some (.d,.int c),w2,w3,some (m4,.lst ts),w5,w6,none,none]=.rt (md,x) η/\x∈ts:=by
 obtain ⟨k,hk,ek⟩:=mdj c 25 (by decide)
 have ek:c % 25=(k:Int):=ek
 have a1:=jC (ts:=ts) (j:=k) (by omega)
 have p1:decide ((0:Int) < 25)=true:=rfl
 have h':((ts.length:Nat):Int)=25:=by rw [h]; rfl
 refine ⟨_,ts.getD k .non,_,by simp_all only [Bk,f_law_amiss,a0o,a0x,a0q,a0D,h',p1,ek,a1]; rfl,?_⟩
 rw [a0p,a0h (show k < ts.length by omega)]
 exact a1y _
theorem qr (L:List (Str×T))(hl:L.length<=7)(t:T){e:Nat}(h:WT e t)(c:Int)(m:Md):∃ md x,C 39 256 [(m,.tup [.tup (hT L),t]),(.d,.int c)]=.ok ((md,x),[])/\x∈A25 (hT L) t:=by
 have ht:lf .s t=.s:=by obtain ⟨s,r,rfl,_⟩:=h.sg; rfl
 obtain ⟨m0,m2,m3,m4,h1⟩:=DB 38 m (hT L) t ht (some (.d,.int c))
 obtain ⟨m5,m6,h2⟩:=Eh 38 (some (m0,.tup [.tup (hT L),t])) (some (.d,.int c)) (some (m2,.tup (hT L))) (some (m3,t)) (some (m4,.lst (B7 (hT L) t)))
 obtain ⟨m6',h3⟩:=C3 38 (some (m0,.tup [.tup (hT L),t])) (some (.d,.int c)) (some (m2,.tup (hT L))) (some (m3,t)) (some (m4,.lst (B7 (hT L) t))) (some (m5,dpK)) m6 O7 rfl W7 rfl rfl
 obtain ⟨m2',m3',m4',w6,h4⟩:=Es 38 (some (m0,.tup [.tup (hT L),t])) (some (.d,.int c)) (some (m5,dpK)) m2 m3 m4 m6' (hT L) (by rw [a0b]; omega) t ht (B7 (hT L) t) rfl O16 rfl
 obtain ⟨md,x,η,h5,hx⟩:=DC 38 (some (m0,.tup [.tup (hT L),t])) (some (m2',.tup (hT L))) (some (m3',t)) (some (m5,dpK)) w6 m4' (A25 (hT L) t) rfl c
 refine ⟨md,x,?_,hx⟩
 rw [gy,x_run _ _ _ rfl,show f_law_amiss.body=Bk f_law_amiss 0 2++(Bk f_law_amiss 2 2++(Bk f_law_amiss 4 1++(Bk f_law_amiss 5 1++Bk f_law_amiss 6 1))) from rfl]
 show Fl.out [] (evSs (C 38) (Bk f_law_amiss 0 2++(Bk f_law_amiss 2 2++(Bk f_law_amiss 4 1++(Bk f_law_amiss 5 1++Bk f_law_amiss 6 1)))) [some (m,.tup [.tup (hT L),t]),some (.d,.int c),none,none,none,none,none,none,none])=_
 rw [go1 h1,go1 h2,go1 h3]
 show Fl.out [] (evSs (C 38) (Bk f_law_amiss 5 1++Bk f_law_amiss 6 1) [some (m0,.tup [.tup (hT L),t]),some (.d,.int c),some (m2,.tup (hT L)),some (m3,t),some (m4,.lst (B7 (hT L) t)),some (m5,dpK),some (m6',.lst O16),none,none])=_
 rw [go1 h4]
 show Fl.out [] (evSs (C 38) (Bk f_law_amiss 6 1) [some (m0,.tup [.tup (hT L),t]),some (.d,.int c),some (m2',.tup (hT L)),some (m3',t),some (m4',.lst (A25 (hT L) t)),some (m5,dpK),w6,none,none])=_
 rw [h5]
 rfl
noncomputable abbrev LB:List S:=[
   .asg (.q [2] [3]) 4 (.call 249 [.var 2,.op .fdiv false [.var 3,.cst (.int 5)]]),
   .asg (.q [1] []) 5 (.comp false .seq [.var 1] [8] none (.op .ix false [.var 8,.cst (.int 0)])),
   .asg (.q [1,5] []) 6 (.and (.op .le false [.op .len false [.var 1],.cst (.int 6)]) (.op .eq false [.op .len false [.comp false .seq [.var 5] [9] (some (.op .gt false [.op .countS false [.var 5,.var 9],.cst (.int 1)])) (.var 9)],.cst (.int 0)])),
   .asg (.q [4,5,6] []) 6 (.and (.var 6) (.and (.op .le false [.call 245 [.var 4],.cst (.int 200)]) (.and (.op .le false [.call 246 [.var 4],.cst (.int 20)]) (.call 247 [.var 4,.var 5])))),
   .asg (.q [1,4] []) 7 (.call 255 [.tup [.var 1,.var 4]]),
   .ite (.q [6,7] []) (.or (.not (.op (.isI ["bool"]) false [.var 7])) (.op .ne false [.var 7,.var 6])) [
    .ret [] (.cst (.bl false))] [],
   .ite (.q [1,4] [3]) (.op .isnB false [.call 255 [.call 256 [.tup [.var 1,.var 4],.op .fdiv false [.var 3,.cst (.int 2)]]],.cst (.bl false)]) [
    .ret [] (.cst (.bl false))] []]
noncomputable abbrev Lk (i j:Nat):List S:=(LB.drop i).take j
theorem BM (b:Bool):(b==b)=true:=by cases b<;>rfl
theorem Ek (w0 w1:Option W)(m2:Md)(t:T)(c:Int)(w4 w5 w6 w7:Option W)(md:Md)(t':T)(h:C 39 249 [(.s,t),(.d,.int (c / 5))]=.ok ((md,t'),[])):∃ m2' m4,evSs (C 39) (Lk 0 1) [w0,w1,some (m2,t),some (.s,.int c),w4,w5,w6,w7,none,none]=.nx [w0,w1,some (m2',t),some (.s,.int c),some (m4,t'),w5,w6,w7,none,none]:=by
 have p1:decide ((0:Int) < 5)=true:=rfl
 have p2:decide ((5:Int) < 1073741824)=true:=rfl
 have hz:evSs (C 39) (Lk 0 1) [w0,w1,some (m2,t),some (.s,.int c),w4,w5,w6,w7,none,none]=.nx (put (after (lf md t') [2] [w0,w1,some (m2,t),some (.s,.int c),w4,w5,w6,w7,none,none]) 4 (lf md t',t')):=by
  simp_all only [Lk,a0x,a0q,a0D,p1,p2,h]
 rw [hz]
 cases lf md t' with
 | s=>exact ⟨_,_,rfl⟩
 | d=>exact ⟨_,_,rfl⟩
 | o y=>exact ⟨_,_,rfl⟩
theorem Ef (w0 w2 w3 w4 w5 w6 w7:Option W)(m1:Md)(L:List (Str×T)):∃ m1' m5,evSs (C 39) (Lk 1 1) [w0,some (m1,.tup (hT L)),w2,w3,w4,w5,w6,w7,none,none]=.nx [w0,some (m1',.tup (hT L)),w2,w3,w4,some (m5,.lst (aI (L.map (·.1)))),w6,w7,none,none]:=by
 have c1:∀ w1,aC [8] (bZ (evE (C 39) (.op .ix false [.var 8,.cst (.int 0)]))) ((hT L).map fun t=>[((.s,t):W)]) [none,w1,none,none,none,none,none,none,none,none] []=.ok ([]++L.map (fun p=>((.s,.str p.1):W)),[none,w1,none,none,none,none,none,none,none,none]):=fun w1=>by
  rw [hT,a0N]
  refine aG _ _ [] fun p hp=>⟨_,[none,w1,none,none,none,none,none,none,some (.s,.tup [.str p.1,p.2]),none],rfl,?_,rfl⟩
  simp_all only [zu,lfS]
 have t1:trees (L.map (fun p=>((.s,.str p.1):W)))=aI (L.map (·.1)):=by rw [aA (fun _=>Md.s) (fun p:Str×T=>T.str p.1),aI,a0N]; rfl
 exact ⟨_,_,by simp_all only [Lk,a0o,a0x,a0q,a0D,c1,t1]; rfl⟩
theorem jW (f:Str->Bool):∀ ss:List Str,(ss.filterMap fun x=>if f x then some ((.s,.str x):W) else none).length=(ss.filter f).length
 | []=>rfl
 | x::ss=>by
  rw [a0O,List.filter_cons]
  cases f x with
  | true=>simp [jW f ss]
  | false=>simp [jW f ss]
theorem Er (w0 w2 w3 w4 w6 w7:Option W)(m1 m5:Md)(L:List (Str×T)):∃ m1' m5' m6,evSs (C 39) (Lk 2 1) [w0,some (m1,.tup (hT L)),w2,w3,w4,some (m5,.lst (aI (L.map (·.1)))),w6,w7,none,none]=.nx [w0,some (m1',.tup (hT L)),w2,w3,w4,some (m5',.lst (aI (L.map (·.1)))),some (m6,.bl (decide (L.length<=6)&&decide (L.map (·.1)).Nodup)),w7,none,none]:=by
 have s1:=o8 (L.map (·.1))
 have le:(((hT L).length:Nat):Int)=((L.length:Nat):Int):=by rw [a0b]
 have cg:∀ (ss:List Str) (zz:List T),strsOf zz=some ss->∀ w1,aC [9] (iN (evE (C 39) (.op .gt false [.op .countS false [.var 5,.var 9],.cst (.int 1)])) (evE (C 39) (.var 9))) (ss.map fun x=>[((.s,.str x):W)]) [none,w1,none,none,none,some (.s,.lst zz),none,none,none,none] []=.ok ([]++ss.filterMap (fun x=>if decide (1 < ss.count x) then some ((.s,.str x):W) else none),[none,w1,none,none,none,some (.s,.lst zz),none,none,none,none]):=fun ss zz s1 w1=>by
  refine f6 _ _ [] fun x hx=>⟨_,[none,w1,none,none,none,some (.s,.lst zz),none,none,none,some (.s,.str x)],rfl,?_,rfl⟩
  cases hq:decide (1 < ss.count x) with
  | true =>
   have hq':decide ((1:Int) < ((ss.count x:Nat):Int))=true:=decide_eq_true (by have:=of_decide_eq_true hq; omega)
   simp_all only [eV,s1,hq',if_true]
  | false =>
   have hq':decide ((1:Int) < ((ss.count x:Nat):Int))=false:=decide_eq_false (by have:=of_decide_eq_false hq; omega)
   simp_all only [eV,s1,hq',if_false,a2A]
 have em:(aI (L.map (·.1))).map (fun t=>[((.s,t):W)])=(L.map (·.1)).map fun x=>[((.s,.str x):W)]:=by rw [a0N]; rfl
 have c1:=fun w1=>cg (L.map (·.1)) (aI (L.map (·.1))) s1 w1
 rw [<- em] at c1
 have t1:((((trees ((L.map (·.1)).filterMap (fun x=>if decide (1 < (L.map (·.1)).count x) then some ((.s,.str x):W) else none))).length:Nat):Int)==0)=decide (L.map (·.1)).Nodup:=by
  rw [mE,jW (fun x=>decide (1 < (L.map (·.1)).count x))]
  have:=wX (L.map (·.1))
  by_cases h:(L.map (·.1)).Nodup
  ·rw [decide_eq_true h,this.mpr h]; rfl
  ·rw [decide_eq_false h]
   exact beq_eq_false_iff_ne.mpr fun e=>h (this.mp (by omega))
 generalize (L.map (·.1)).filterMap (fun x=>if decide (1 < (L.map (·.1)).count x) then some ((.s,.str x):W) else none)=F at c1 t1
 generalize aI (L.map (·.1))=ss at c1 s1
 have dd:decide (((L.length:Nat):Int)<=6)=decide (L.length<=6):=decide_eq_decide.mpr (by omega)
 cases hq:decide (L.length<=6) with
 | true =>
  rw [hq] at dd
  exact ⟨_,_,_,by simp_all only [Lk,a0o,a0x,a0q,a0D,le,dd,c1,t1,a0J]; rfl⟩
 | false =>
  rw [hq] at dd
  exact ⟨_,_,_,by simp_all only [Lk,a0o,a0x,a0q,a0D,le,dd,a0B]; rfl⟩
theorem D7 (w0 w1 w2 w3 w7:Option W)(m4 m5 m6:Md)(L:List (Str×T))(hl:L.length<=7)(t:T)(e:Nat)(he:e<=21)(h:WT e t):∃ m4' m5' m6',evSs (C 39) (Lk 3 1) [w0,w1,w2,w3,some (m4,t),some (m5,.lst (aI (L.map (·.1)))),some (m6,.bl (decide (L.length<=6)&&decide (L.map (·.1)).Nodup)),w7,none,none]=.nx [w0,w1,w2,w3,some (m4',t),some (m5',.lst (aI (L.map (·.1)))),some (m6',.bl (due e L t)),w7,none,none]:=by
 have a1:∀ m,C 39 245 [(m,t)]=.ok ((.d,.int (szF e t:Nat)),[]):=fun m=>by
  have:=gH e t h (38-e) m
  rw [show 38-e+e+1=39 by omega] at this
  exact this
 have a2:∀ m,C 39 246 [(m,t)]=.ok ((.d,.int (dpF e t:Nat)),[]):=fun m=>by
  have:=gP e t h (38-e) m
  rw [show 38-e+e+1=39 by omega] at this
  exact this
 have a3:∀ m m',C 39 247 [(m,t),(m',.lst (aI (L.map (·.1))))]=.ok ((.d,.bl (bJ e (L.map (·.1)) t)),[]):=fun m m'=>by
  have:=iD e t h (38-e) (L.map (·.1)) m m' (by rw [a0b]; omega)
  rw [show 38-e+e+1=39 by omega] at this
  exact this
 unfold due
 have d1:decide (((szF e t:Nat):Int)<=200)=decide (szF e t<=200):=decide_eq_decide.mpr (by omega)
 have d2:decide (((dpF e t:Nat):Int)<=20)=decide (dpF e t<=20):=decide_eq_decide.mpr (by omega)
 generalize bJ e (L.map (·.1)) t=b4 at a3
 generalize aI (L.map (·.1))=ss at a3
 generalize (decide (L.length<=6)&&decide (L.map (·.1)).Nodup)=b1
 generalize decide (szF e t<=200)=b2 at d1
 generalize decide (dpF e t<=20)=b3 at d2
 cases b1 with
 | false=>exact ⟨_,_,_,by simp_all only [Lk,a0o,a0x,a0q,a0D,a0B]; rfl⟩
 | true =>
  cases b2 with
  | false=>exact ⟨_,_,_,by simp_all only [Lk,a0o,a0x,a0q,a0D,a1,d1,a0B,a0R]; rfl⟩
  | true =>
   cases b3 with
   | false=>exact ⟨_,_,_,by simp_all only [Lk,a0o,a0x,a0q,a0D,a1,a2,d1,d2,a0B,a0R]; rfl⟩
   | true=>exact ⟨_,_,_,by simp_all only [Lk,a0o,a0x,a0q,a0D,a1,a2,a3,d1,d2,a0J]; rfl⟩
theorem DA (w0 w2 w5 w7:Option W)(m1 m4 m6:Md)(c:Int)(L:List (Str×T))(hL:gW L)(hl:L.length<=7)(t:T)(e:Nat)(he:e<=21)(h:WT e t)(hz:szF e t<=50000):∃ m1' m4' m6' m7,evSs (C 39) (Lk 4 3) [w0,some (m1,.tup (hT L)),w2,some (.s,.int c),some (m4,t),w5,some (m6,.bl (due e L t)),w7,none,none]=.nx [w0,some (m1',.tup (hT L)),w2,some (.s,.int c),some (m4',t),w5,some (m6',.bl (due e L t)),some (m7,.bl (due e L t)),none,none]:=by
 have a1:=fun m=>uH L hL hl t e he h hz m
 have p1:decide ((0:Int) < 2)=true:=rfl
 have p2:decide ((2:Int) < 1073741824)=true:=rfl
 have ht:lf .s t=.s:=by obtain ⟨s,r,rfl,_⟩:=h.sg; rfl
 obtain ⟨md,x,a2,hx⟩:=qr L hl t h (c / 2) (.o .s)
 have a3:=fun m=>wU L hL t h x hx m
 generalize due e L t=b at a1
 have bff:(!(false==false))=false:=rfl
 exact ⟨_,_,_,_,by simp_all only [Lk,a0o,a0x,a0q,a0D,a1,ht,AY,BM,p1,p2,a2,a3,bff]; rfl⟩
theorem tH (w0:Option W)(m1 m2:Md)(c:Int)(o4 o5 o6 o7:Option W)(L:List (Str×T))(hL:gW L)(hl:L.length<=7)(t:T)(h:WT 7 t):∃ m1' m2' o4' o5' o6' o7',evSs (C 39) LB [w0,some (m1,.tup (hT L)),some (m2,t),some (.s,.int c),o4,o5,o6,o7,none,none]=.nx [w0,some (m1',.tup (hT L)),some (m2',t),some (.s,.int c),o4',o5',o6',o7',none,none]:=by
 obtain ⟨md,t',e,g,he,hw,hz⟩:=qh t h (c / 5)
 obtain ⟨m2',m4,h1⟩:=Ek w0 (some (m1,.tup (hT L))) m2 t c o4 o5 o6 o7 md t' g
 obtain ⟨m1',m5,h2⟩:=Ef w0 (some (m2',t)) (some (.s,.int c)) (some (m4,t')) o5 o6 o7 m1 L
 obtain ⟨m1'',m5',m6,h3⟩:=Er w0 (some (m2',t)) (some (.s,.int c)) (some (m4,t')) o6 o7 m1' m5 L
 obtain ⟨m4',m5'',m6',h4⟩:=D7 w0 (some (m1'',.tup (hT L))) (some (m2',t)) (some (.s,.int c)) o7 m4 m5' m6 L hl t' e he hw
 obtain ⟨m1q,m4q,m6q,m7q,h5⟩:=DA w0 (some (m2',t)) (some (m5'',.lst (aI (L.map (·.1))))) o7 m1'' m4' m6' c L hL hl t' e he hw hz
 refine ⟨m1q,m2',some (m4q,t'),some (m5'',.lst (aI (L.map (·.1)))),some (m6q,.bl (due e L t')),some (m7q,.bl (due e L t')),?_⟩
 rw [show LB=Lk 0 1++(Lk 1 1++(Lk 2 1++(Lk 3 1++Lk 4 3))) from rfl,go1 h1,go1 h2,go1 h3,go1 h4,h5]
theorem ku (w0:Option W)(m1 m2:Md)(L:List (Str×T))(hL:gW L)(hl:L.length<=7)(t:T)(h:WT 7 t)(cs:List Int):∃ η',dk [3] (evSs (C 39) LB) ((cs.map T.int).map fun t=>[((.s,t):W)]) [w0,some (m1,.tup (hT L)),some (m2,t),none,none,none,none,none,none,none]=.nx η':=by
 have e:(cs.map T.int).map (fun t=>[((.s,t):W)])=cs.map fun i=>[((.s,.int i):W)]:=by rw [a0N]; rfl
 rw [e]
 obtain ⟨η',lp,_⟩:=dC (tg:=[3]) (f:=evSs (C 39) LB) (g:=fun (i:Int)=>[((.s,.int i):W)])
  (fun _ η=>∃ (m1 m2:Md) (o3 o4 o5 o6 o7:Option W),η=[w0,some (m1,.tup (hT L)),some (m2,t),o3,o4,o5,o6,o7,none,none]) cs [] [w0,some (m1,.tup (hT L)),some (m2,t),none,none,none,none,none,none,none] ⟨m1,m2,none,none,none,none,none,rfl⟩ (fun p c r η hp ⟨m1,m2,o3,o4,o5,o6,o7,he⟩=>by
   subst he
   obtain ⟨m1',m2',o4',o5',o6',o7',ht⟩:=tH w0 m1 m2 c o4 o5 o6 o7 L hL hl t h
   exact ⟨_,_,rfl,ht,m1',m2',_,o4',o5',o6',o7',rfl⟩)
 exact ⟨η',lp⟩
theorem pure_law (ns:List Int):∃ m bs,C 40 0 [(.d,.scr ns)]=.ok ((m,.bl true),bs):=by
 obtain ⟨mh,L,e0,hL,hl⟩:=nW 33 ns .s
 rw [show 33+6=39 from rfl] at e0
 obtain ⟨md,t,ns',e1,wt⟩:=kC 6 25 (cut ns none (some 40))
 rw [show 25+6+8=39 from rfl,show ((6:Nat):Int)=6 from rfl] at e1
 have hA:∃ m0 m1,evSs (C 39) (Bk f_law 0 1) [some (.d,.scr ns),none,none,none,none,none,none,none,none,none]=.nx [some (m0,.scr ns),some (m1,.tup (hT L)),none,none,none,none,none,none,none,none]:=by
  have hz:evSs (C 39) (Bk f_law 0 1) [some (.d,.scr ns),none,none,none,none,none,none,none,none,none]=.nx (put (after (lf mh (.tup (hT L))) [0] [some (.d,.scr ns),none,none,none,none,none,none,none,none,none]) 1 (lf mh (.tup (hT L)),.tup (hT L))):=by simp_all only [Bk,f_law,a0x,a0q,a0D,e0]
  rw [hz]
  cases lf mh (.tup (hT L)) with
  | s=>exact ⟨_,_,rfl⟩
  | d=>exact ⟨_,_,rfl⟩
  | o y=>exact ⟨_,_,rfl⟩
 obtain ⟨m0,m1,hA⟩:=hA
 have hB:∃ m0' m2,evSs (C 39) (Bk f_law 1 1) [some (m0,.scr ns),some (m1,.tup (hT L)),none,none,none,none,none,none,none,none]=.nx [some (m0',.scr ns),some (m1,.tup (hT L)),some (m2,t),none,none,none,none,none,none,none]:=by
  have hz:evSs (C 39) (Bk f_law 1 1) [some (m0,.scr ns),some (m1,.tup (hT L)),none,none,none,none,none,none,none,none]=.nx (put (after (lf md t) [0] [some (m0,.scr ns),some (m1,.tup (hT L)),none,none,none,none,none,none,none,none]) 2 (lf md t,t)):=by simp_all only [Bk,f_law,a0o,a0x,a0q,a0D,e1]
  rw [hz]
  cases lf md t with
  | s=>exact ⟨_,_,rfl⟩
  | d=>exact ⟨_,_,rfl⟩
  | o y=>exact ⟨_,_,rfl⟩
 obtain ⟨m0',m2,hB⟩:=hB
 have hD:∃ η,evSs (C 39) (f_law.body.drop 2) [some (m0',.scr ns),some (m1,.tup (hT L)),some (m2,t),none,none,none,none,none,none,none]=.rt (.d,.bl true) η:=by
  cases h:decide (0 < ((ns.length:Nat):Int)) with
  | true =>
   obtain ⟨η',lp⟩:=ku (some (.s,.scr ns)) m1 m2 L hL hl t wt (cut ns none (some 6))
   exact ⟨η',by simp_all only [f_law,a0o,a0x,h,lp]⟩
  | false =>
   obtain ⟨η',lp⟩:=ku (some (.s,.scr ns)) m1 m2 L hL hl t wt [0]
   rw [show [(0:Int)].map T.int=[T.int 0] from rfl,a0m,a05] at lp
   exact ⟨η',by simp_all only [f_law,a0o,a0x,h,lp]⟩
 obtain ⟨η,hD⟩:=hD
 rw [show C 40 0 [(.d,.scr ns)]=runF (C 39) f_law [(.d,.scr ns)] from rfl,x_run _ _ _ rfl,show f_law.body=Bk f_law 0 1++(Bk f_law 1 1++f_law.body.drop 2) from rfl]
 refine ⟨.d,[],?_⟩
 show Fl.out [] (evSs (C 39) (Bk f_law 0 1++(Bk f_law 1 1++f_law.body.drop 2)) [some (.d,.scr ns),none,none,none,none,none,none,none,none,none])=_
 rw [go1 hA,go1 hB,hD]
 rfl
end
end P11

namespace A11
open PySem PySem.Spec PyProof.Rows L2 L3 MR
noncomputable def top (i:Nat):Stmt:=PySem.Challenge.pw_broadrow_k11_programs_known.main.body.getD i (.Pass ⟨0,0,0,0⟩)
noncomputable abbrev qN:Stmt:=top 3
noncomputable abbrev pI:Stmt:=top 4
noncomputable abbrev s2:Stmt:=top 8
noncomputable abbrev s3:Stmt:=top 9
noncomputable abbrev qP:Stmt:=top 17
noncomputable abbrev nD:Stmt:=top 18
noncomputable abbrev rl:Stmt:=top 19
noncomputable abbrev oN:Stmt:=top 20
noncomputable abbrev pP:Stmt:=top 21
noncomputable abbrev pL:Stmt:=top 22
noncomputable abbrev nE:Stmt:=top 23
noncomputable abbrev nB:Stmt:=top 24
noncomputable abbrev pS:Stmt:=top 29
noncomputable abbrev ov:Stmt:=top 30
noncomputable abbrev pA:Stmt:=top 31
noncomputable abbrev rB:Stmt:=top 32
noncomputable abbrev qQ:Stmt:=top 33
noncomputable abbrev oQ:Stmt:=top 35
noncomputable abbrev oP:Stmt:=top 36
noncomputable abbrev pO:Stmt:=top 37
noncomputable abbrev qU:Stmt:=top 38
noncomputable abbrev nQ:Stmt:=top 39
noncomputable abbrev ro:Stmt:=top 40
noncomputable abbrev q0:Stmt:=top 41
noncomputable abbrev qS:Stmt:=top 42
noncomputable abbrev qK:Stmt:=top 43
noncomputable abbrev pG:Stmt:=top 44
noncomputable abbrev s0:Stmt:=top 45
structure Glb (K:a0a)(w:World)(mg:Str->Option Value):Prop where
 DEEPEST_kinds:∃ t,mg "DEEPEST_kinds"=some (.int 5 t)
 DEEPEST_programs:∃ t,mg "DEEPEST_programs"=some (.int 20 t)
 GREATEST:∃ t,mg "GREATEST"=some (.int 1000000000000000000 t)
 LONGEST_NAME:∃ t,mg "LONGEST_NAME"=some (.int 8 t)
 MOST_HEADS:∃ t,mg "MOST_HEADS"=some (.int 6 t)
 MOST_PIECES:∃ t,mg "MOST_PIECES"=some (.int 200 t)
 k_AHEAD:mz K w mg "AHEAD" keys_AHEAD
 c_AHEAD:j7 K w mg "AHEAD" tab_AHEAD
 c_BINDING:j7 K w mg "BINDING" tab_BINDING
 k_PARTS:mz K w mg "PARTS" keys_PARTS
 c_PARTS:j7 K w mg "PARTS" tab_PARTS
 k_WITHIN:mz K w mg "WITHIN" keys_WITHIN
 c_WITHIN:j7 K w mg "WITHIN" tab_WITHIN
structure Calls (P:Program)(w:World)(K:a0a)(mg:Str->Option Value)(base:Heap)(n:Nat)(C:M.Call):Prop where
 c215:ae P w K mg base n C "is_kind" 215 []
 c216:ae P w K mg base n C "is_kind_within" 216 []
 c2:ae P w K mg base n C "is_worth" 2 []
 c3:ae P w K mg base n C "is_number" 3 []
 c226:ae P w K mg base n C "is_name" 226 []
 c227:ae P w K mg base n C "is_tree" 227 []
 c228:ae P w K mg base n C "may_stand_ahead" 228 []
 c175:ae P w K mg base n C "parts_start" 175 []
 c176:ae P w K mg base n C "parts" 176 []
 c233:ae P w K mg base n C "binding" 233 []
 c253:ae P w K mg base n C "places" 253 []
 c254:ae P w K mg base n C "add_places" 254 [2]
 c255:ae P w K mg base n C "is_program" 255 []
 c252:ae P w K mg base n C "are_heads" 252 []
 c241:ae P w K mg base n C "is_head" 241 []
 c242:ae P w K mg base n C "names_of" 242 []
 c243:ae P w K mg base n C "binds_well" 243 []
 c171:ae P w K mg base n C "_law_kind" 171 []
 c220:ae P w K mg base n C "_law_leaf" 220 []
 c229:ae P w K mg base n C "_law_tree" 229 [0]
 c244:ae P w K mg base n C "_law_start" 244 []
 c245:ae P w K mg base n C "_law_many" 245 []
 c246:ae P w K mg base n C "_law_deep" 246 []
 c247:ae P w K mg base n C "_law_clear" 247 []
 c248:ae P w K mg base n C "_law_heads" 248 []
 c249:ae P w K mg base n C "_law_great" 249 []
 c256:ae P w K mg base n C "_law_amiss" 256 []
 c4:∀ ws,C 4 ws=.no
 c5:∀ ws,C 5 ws=.no
noncomputable abbrev DD (x:Str)(st:Stmt)(N:List Str)(fn:M.Fn):Prop:=∀ {P:Program} {w:World} {K:a0a} {mg:Str->Option Value} {base:Heap} {n:Nat} {C:M.Call} {f:Addr} {cdv:Value} {A:Around} {outer:List Env} {s:Shared} {H:Hp} {E:XK},Calls P w K mg base n C->Txt mg->Glb K w mg->Room n (A.deeper (envOfC x (defScope st) s.heap.objs.size f cdv))->SSs (gL CX0 P w K mg base N x (defScope st) f cdv A outer s H E).nox (slN N.length) fn.io C (defBody st) fn.body
theorem B6:ag ["thing"] ["thing"] (defScope qN):=fsc
theorem DQ:DD "is_kind" qN ["thing"] bM:=fun {_ _ _ _ _ _ _ _ _ _ _ s _ _} cs T G hr =>
 have S:=B6
 (@ss1 _ _ _ _ _ _ (@aB _ _ _ _ _ _ _ _ (ah cs.c216 hr (@av _ _ _ _ _ _ _ (sM 0) (@av _ _ _ _ _ _ _ (sGc G.DEEPEST_kinds) sa0 (by intro _ z; cases z) (by rfl)) (by intro _ z; cases z) (by rfl)))))
theorem BO:ag ["thing","depth"] ["thing","depth"] (defScope pI):=fsc
theorem DP:DD "is_kind_within" pI ["thing","depth"] aW:=fun {_ _ _ _ _ _ _ _ _ _ _ s _ _} cs T G hr =>
 have S:=BO
 (@ssc _ _ _ _ _ _ _ _ (@zIf _ _ _ _ _ _ _ _ _ _ _ _ (tW (wOr (cZ hr (sV 1) sI) (wOr (bD (tB (cQ (by decide) a0Y T.isin T.tup (sV 0)))) (wO1 (cZ hr (b6 (hm:=T.len) (ha:=(sV 0))) sI))))) (@ss1 _ _ _ _ _ _ (@aB _ _ _ _ _ _ _ _ sO)) ss0)
    (@ssc _ _ _ _ _ _ _ _ (@zIf _ _ _ _ _ _ _ _ _ _ _ _ (tW (wOr (bD (tB (cQ (by decide) a1S T.isin T.str (@aN _ _ _ _ _ _ _ _ _ (sV 0) sI (by intro _ _; rfl))))) (wO1 (lh G.k_WITHIN (@aN _ _ _ _ _ _ _ _ _ (sV 0) sI (by intro _ _; rfl)))))) (@ss1 _ _ _ _ _ _ (@aB _ _ _ _ _ _ _ _ sO)) ss0)
    (@ssc _ _ _ _ _ _ _ _ (@zIf _ _ _ _ _ _ _ _ _ _ _ _ (o9 hr (b6 (hm:=T.len) (ha:=(sV 0))) (bF sI (wM G.c_WITHIN (@aN _ _ _ _ _ _ _ _ _ (sV 0) sI (by intro _ _; rfl))))) (@ss1 _ _ _ _ _ _ (@aB _ _ _ _ _ _ _ _ sO)) ss0)
    (@ss1 _ _ _ _ _ _ (@aB _ _ _ _ _ _ _ _ (rO (hm:=T.all) (ha:=(sC1 [1] [1] [("depth",s.heap.objs.size+1)] ["depth"] (eA (lM (sM 0) sI)) (fun _ _ _ _=>(ah cs.c216 hr (@av _ _ _ _ _ _ _ (sV 0) (@av _ _ _ _ _ _ _ (jS (sV 1) sI) sa0 (by intro _ z; cases z) (by rfl)) (by intro _ z; cases z) (by rfl)))) csc (oi .nil) (frc .nil)))))))))
theorem S2:ag ["kind","thing"] ["kind","thing"] (defScope s2):=fsc
theorem D2:DD "is_worth" s2 ["kind","thing"] bS:=fun {_ _ _ _ _ _ _ _ _ _ _ s _ _} cs T G hr =>
 have S:=S2
 (@ssc _ _ _ _ _ _ _ _ (@zIf _ _ _ _ _ _ _ _ _ _ _ _ (cZ hr (@aN _ _ _ _ _ _ _ _ _ (sV 0) sI (by intro _ _; rfl)) sS) (@ss1 _ _ _ _ _ _ (@aB _ _ _ _ _ _ _ _ (ah cs.c3 hr (@av _ _ _ _ _ _ _ (sM 1) sa0 (by intro _ z; cases z) (by rfl))))) ss0)
    (@ssc _ _ _ _ _ _ _ _ (@zIf _ _ _ _ _ _ _ _ _ _ _ _ (cZ hr (@aN _ _ _ _ _ _ _ _ _ (sV 0) sI (by intro _ _; rfl)) sS) (@ss1 _ _ _ _ _ _ (@aB _ _ _ _ _ _ _ _ (cQ (by decide) a1K T.isin T.bool (sM 1)))) ss0)
    (@ssc _ _ _ _ _ _ _ _ (@zIf _ _ _ _ _ _ _ _ _ _ _ _ (cZ hr (@aN _ _ _ _ _ _ _ _ _ (sV 0) sI (by intro _ _; rfl)) sS) (@ss1 _ _ _ _ _ _ (@aB _ _ _ _ _ _ _ _ (AE cs.c4))) ss0)
    (@ss1 _ _ _ _ _ _ (@aB _ _ _ _ _ _ _ _ (AE cs.c5))))))
theorem S3:ag ["thing"] ["thing"] (defScope s3):=fsc
theorem D3:DD "is_number" s3 ["thing"] bB:=fun {_ _ _ _ _ _ _ _ _ _ _ s _ _} cs T G hr =>
 have S:=S3
 (@ssc _ _ _ _ _ _ _ _ (@zIf _ _ _ _ _ _ _ _ _ _ _ _ (tW (wOr (bD (tB (cQ (by decide) a2m T.isin T.int (sV 0)))) (wO1 (tB (cQ (by decide) a1K T.isin T.bool (sV 0)))))) (@ss1 _ _ _ _ _ _ (@aB _ _ _ _ _ _ _ _ sO)) ss0)
    (@ss1 _ _ _ _ _ _ (@aB _ _ _ _ _ _ _ _ (tm (DF (sGc G.GREATEST)) (sM 0) (sGc G.GREATEST)))))
theorem CS:ag ["thing"] ["thing"] (defScope qP):=fsc
theorem DK:DD "is_name" qP ["thing"] bh:=fun {_ _ _ _ _ _ _ _ _ _ _ s _ _} cs T G hr =>
 have S:=CS
 (@ssc _ _ _ _ _ _ _ _ (@zIf _ _ _ _ _ _ _ _ _ _ _ _ (tW (wOr (bD (tB (cQ (by decide) a1S T.isin T.str (sV 0)))) (wO1 (bD (tY sI (b6 (hm:=T.len) (ha:=(sV 0))) (sGc G.LONGEST_NAME)))))) (@ss1 _ _ _ _ _ _ (@aB _ _ _ _ _ _ _ _ sO)) ss0)
    (@ssc _ _ _ _ _ _ _ _ (@zIf _ _ _ _ _ _ _ _ _ _ _ _ (tW (wOr (BE G.k_PARTS (sV 0)) (wO1 (dY (sV 0) (@sTx _ _ _ _ _ _ _ (by decide) (@slx _ _ _ _ _ _ _ sS (@slx _ _ _ _ _ _ _ sS sl0 (by rfl)) (by rfl))))))) (@ss1 _ _ _ _ _ _ (@aB _ _ _ _ _ _ _ _ sO)) ss0)
    (@ss1 _ _ _ _ _ _ (@aB _ _ _ _ _ _ _ _ (rO (hm:=T.all) (ha:=(sC1 [] [] [] [] (Dl (sM 0)) (fun _ _ _ _=>(lJ sS (sV 0) sS)) csc .nil .nil)))))))
theorem Bq:ag ["thing","start"] ["thing"] (defScope nD):=fsc
theorem Dh:DD "is_tree" nD ["thing","start"] aF:=fun {_ _ _ _ _ _ _ _ _ _ _ s _ _} cs T G hr =>
 have S:=Bq
 (@ssc _ _ _ _ _ _ _ _ (@zIf _ _ _ _ _ _ _ _ _ _ _ _ (tW (wOr (bD (tB (cQ (by decide) a0Y T.isin T.tup (sV 0)))) (wO1 (cZ hr (b6 (hm:=T.len) (ha:=(sV 0))) sI)))) (@ss1 _ _ _ _ _ _ (@aB _ _ _ _ _ _ _ _ sO)) ss0)
    (@ssc _ _ _ _ _ _ _ _ (@zIf _ _ _ _ _ _ _ _ _ _ _ _ (tW (wOr (bD (tB (cQ (by decide) a1S T.isin T.str (@aN _ _ _ _ _ _ _ _ _ (sV 0) sI (by intro _ _; rfl))))) (wO1 (lh G.k_PARTS (@aN _ _ _ _ _ _ _ _ _ (sV 0) sI (by intro _ _; rfl)))))) (@ss1 _ _ _ _ _ _ (@aB _ _ _ _ _ _ _ _ sO)) ss0)
    (@ssc _ _ _ _ _ _ _ _ (@a8 _ _ _ _ _ _ _ 1 _ _ _ _ S.nd (ah cs.c175 hr (@av _ _ _ _ _ _ _ (@aN _ _ _ _ _ _ _ _ _ (sV 0) sI (by intro _ _; rfl)) sa0 (by intro _ z; cases z) (by rfl))) (by decide) (by rfl) (by rfl) (by first | exact a0G rfl | exact a0E rfl) (by rfl) (by first | exact .inl rfl | exact .inr rfl))
    (@ssc _ _ _ _ _ _ _ _ (@zIf _ _ _ _ _ _ _ _ _ _ _ _ (o9 hr (b6 (hm:=T.len) (ha:=(sV 0))) (bF (sV 1) (wM G.c_PARTS (@aN _ _ _ _ _ _ _ _ _ (sV 0) sI (by intro _ _; rfl))))) (@ss1 _ _ _ _ _ _ (@aB _ _ _ _ _ _ _ _ sO)) ss0)
    (@ssc _ _ _ _ _ _ _ _ (@zIf _ _ _ _ _ _ _ _ _ _ _ _ (tW (yi (cZ hr (sV 1) sI) (wA1 (bD (tB (ah cs.c228 hr (@av _ _ _ _ _ _ _ (wM G.c_AHEAD (@aN _ _ _ _ _ _ _ _ _ (sV 0) sI (by intro _ _; rfl))) (@av _ _ _ _ _ _ _ (@aN _ _ _ _ _ _ _ _ _ (sV 0) sI (by intro _ _; rfl)) sa0 (by intro _ z; cases z) (by rfl)) (by intro _ z; cases z) (by rfl)))))))) (@ss1 _ _ _ _ _ _ (@aB _ _ _ _ _ _ _ _ sO)) ss0)
    (@ss1 _ _ _ _ _ _ (@aB _ _ _ _ _ _ _ _ (rO (hm:=T.all) (ha:=(sC1 [] [] [] [] (eA (lM (sM 0) (sM 1))) (fun _ _ _ _=>(ah cs.c227 hr (@av _ _ _ _ _ _ _ (sV 0) sa0 (by intro _ z; cases z) (by rfl)))) csc .nil .nil))))))))))
theorem AQ:ag ["what","thing"] ["what","thing"] (defScope rl):=fsc
theorem DS:DD "may_stand_ahead" rl ["what","thing"] ay:=fun {_ _ _ _ _ _ _ _ _ _ _ s _ _} cs T G hr =>
 have S:=AQ
 (@ssc _ _ _ _ _ _ _ _ (@zIf _ _ _ _ _ _ _ _ _ _ _ _ (cZ hr (sV 0) sS) (@ss1 _ _ _ _ _ _ (@aB _ _ _ _ _ _ _ _ (sBW (jZ (ah cs.c2 hr (@av _ _ _ _ _ _ _ (@sTx _ _ _ _ _ _ _ (by decide) (@slx _ _ _ _ _ _ _ sS sl0 (by rfl))) (@av _ _ _ _ _ _ _ (sV 1) sa0 (by intro _ z; cases z) (by rfl)) (by intro _ z; cases z) (by rfl))) (vA1 (sGe (sV 1) sI)))))) ss0)
    (@ssc _ _ _ _ _ _ _ _ (@zIf _ _ _ _ _ _ _ _ _ _ _ _ (cZ hr (sV 0) sS) (@ss1 _ _ _ _ _ _ (@aB _ _ _ _ _ _ _ _ (ah cs.c215 hr (@av _ _ _ _ _ _ _ (sM 1) sa0 (by intro _ z; cases z) (by rfl))))) ss0)
    (@ss1 _ _ _ _ _ _ (@aB _ _ _ _ _ _ _ _ (ah cs.c226 hr (@av _ _ _ _ _ _ _ (sM 1) sa0 (by intro _ z; cases z) (by rfl)))))))
theorem BJ:ag ["sign"] ["sign"] (defScope oN):=fsc
theorem D9:DD "parts_start" oN ["sign"] ba:=fun {_ _ _ _ _ _ _ _ _ _ _ s _ _} cs T G hr =>
 have S:=BJ
 (@ss1 _ _ _ _ _ _ (@aB _ _ _ _ _ _ _ _ (sIf (BE G.k_AHEAD (sM 0)) sI sI)))
theorem CJ:ag ["tree"] ["tree"] (defScope pP):=fsc
theorem C5:DD "parts" pP ["tree"] c9:=fun {_ _ _ _ _ _ _ _ _ _ _ s _ _} cs T G hr =>
 have S:=CJ
 (@ss1 _ _ _ _ _ _ (@aB _ _ _ _ _ _ _ _ (lM (sV 0) (ah cs.c175 hr (@av _ _ _ _ _ _ _ (@aN _ _ _ _ _ _ _ _ _ (sV 0) sI (by intro _ _; rfl)) sa0 (by intro _ z; cases z) (by rfl))))))
theorem Bd:ag ["tree"] ["tree"] (defScope pL):=fsc
theorem C9:DD "binding" pL ["tree"] cw:=fun {_ _ _ _ _ _ _ _ _ _ _ s _ _} cs T G hr =>
 have S:=Bd
 (@ss1 _ _ _ _ _ _ (@aB _ _ _ _ _ _ _ _ (Ap G.c_BINDING (@aN _ _ _ _ _ _ _ _ _ (sM 0) sI (by intro _ _; rfl)))))
theorem Ak:ag ["tree","told"] ["tree"] (defScope nE):=fsc
theorem DR:DD "places" nE ["tree","told"] cT:=fun {_ _ _ _ _ _ _ _ _ _ _ s _ _} cs T G hr =>
 have S:=Ak
 (@ssc _ _ _ _ _ _ _ _ (@a8 _ _ _ _ _ _ _ 1 _ _ _ _ S.nd (@sLx _ _ _ _ _ _ _ (by decide) sl0) (by decide) (by rfl) (by rfl) (by first | exact a0G rfl | exact a0E rfl) (by rfl) (by first | exact .inl rfl | exact .inr rfl))
    (@ssc _ _ _ _ _ _ _ _ (Bx (ah cs.c254 hr (@av _ _ _ _ _ _ _ (sV 0) (@av _ _ _ _ _ _ _ (@sTx _ _ _ _ _ _ _ (by decide) sl0) (sai 1 sa0) (by intro _ z; cases z) (by rfl)) (by intro _ z; cases z) (by rfl))))
    (@ss1 _ _ _ _ _ _ (@aB _ _ _ _ _ _ _ _ (sM 1)))))
theorem Ac:ag ["tree","place","told","number","part"] ["tree","place","told"] (defScope nB):=fsc
theorem DT:DD "add_places" nB ["tree","place","told","number","part"] bp:=fun {_ _ _ _ _ _ _ _ _ _ _ s _ _} cs T G hr =>
 have S:=Ac
 (@ssc _ _ _ _ _ _ _ _ (vM 3 4 S.nd (rC (hm:=T.enum) (ha:=(ah cs.c176 hr (@av _ _ _ _ _ _ _ (sV 0) sa0 (by intro _ z; cases z) (by rfl))))) (@ss1 _ _ _ _ _ _ (Bx (ah cs.c254 hr (@av _ _ _ _ _ _ _ (sV 4) (@av _ _ _ _ _ _ _ (rk (sV 1) (@sTx _ _ _ _ _ _ _ (by decide) (@slx _ _ _ _ _ _ _ (sV 3) sl0 (by rfl)))) (sai 2 sa0) (by intro _ z; cases z) (by rfl)) (by intro _ z; cases z) (by rfl))))))
    (@ss1 _ _ _ _ _ _ (AU 2 (sV 1))))
theorem BY:ag ["thing","told"] ["thing"] (defScope pS):=fsc
theorem Eb:DD "is_program" pS ["thing","told"] aq:=fun {_ _ _ _ _ _ _ _ _ _ _ s _ _} cs T G hr =>
 have S:=BY
 (@ssc _ _ _ _ _ _ _ _ (@zIf _ _ _ _ _ _ _ _ _ _ _ _ (tW (wOr (bD (tB (cQ (by decide) a0Y T.isin T.tup (sV 0)))) (wO1 (o9 hr (b6 (hm:=T.len) (ha:=(sV 0))) sI)))) (@ss1 _ _ _ _ _ _ (@aB _ _ _ _ _ _ _ _ sO)) ss0)
    (@ssc _ _ _ _ _ _ _ _ (@zIf _ _ _ _ _ _ _ _ _ _ _ _ (tW (wOr (bD (tB (ah cs.c252 hr (@av _ _ _ _ _ _ _ (@aN _ _ _ _ _ _ _ _ _ (sV 0) sI (by intro _ _; rfl)) sa0 (by intro _ z; cases z) (by rfl))))) (wO1 (bD (tB (ah cs.c227 hr (@av _ _ _ _ _ _ _ (@aN _ _ _ _ _ _ _ _ _ (sV 0) sI (by intro _ _; rfl)) sa0 (by intro _ z; cases z) (by rfl)))))))) (@ss1 _ _ _ _ _ _ (@aB _ _ _ _ _ _ _ _ sO)) ss0)
    (@ssc _ _ _ _ _ _ _ _ (@a8 _ _ _ _ _ _ _ 1 _ _ _ _ S.nd (ah cs.c253 hr (@av _ _ _ _ _ _ _ (@aN _ _ _ _ _ _ _ _ _ (sV 0) sI (by intro _ _; rfl)) sa0 (by intro _ z; cases z) (by rfl))) (by decide) (by rfl) (by rfl) (by first | exact a0G rfl | exact a0E rfl) (by rfl) (by first | exact .inl rfl | exact .inr rfl))
    (@ssc _ _ _ _ _ _ _ _ (@zIf _ _ _ _ _ _ _ _ _ _ _ _ (tW (wOr (jo (b6 (hm:=T.len) (ha:=(sV 1))) (sGc G.MOST_PIECES)) (wO1 (DX (vS (hm:=T.max) (ha:=(sC1 [] [] [] [] (eA (sV 1)) (fun _ _ _ _=>(b6 (hm:=T.len) (ha:=(sV 0)))) csc .nil .nil))) (sGc G.DEEPEST_programs))))) (@ss1 _ _ _ _ _ _ (@aB _ _ _ _ _ _ _ _ sO)) ss0)
    (@ss1 _ _ _ _ _ _ (@aB _ _ _ _ _ _ _ _ (ah cs.c243 hr (@av _ _ _ _ _ _ _ (@aN _ _ _ _ _ _ _ _ _ (sV 0) sI (by intro _ _; rfl)) (@av _ _ _ _ _ _ _ (ah cs.c242 hr (@av _ _ _ _ _ _ _ (@aN _ _ _ _ _ _ _ _ _ (sV 0) sI (by intro _ _; rfl)) sa0 (by intro _ z; cases z) (by rfl))) sa0 (by intro _ z; cases z) (by rfl)) (by intro _ z; cases z) (by rfl)))))))))
theorem Bg:ag ["thing"] ["thing"] (defScope ov):=fsc
theorem D8:DD "are_heads" ov ["thing"] aY:=fun {_ _ _ _ _ _ _ _ _ _ _ s _ _} cs T G hr =>
 have S:=Bg
 (@ssc _ _ _ _ _ _ _ _ (@zIf _ _ _ _ _ _ _ _ _ _ _ _ (tW (wOr (bD (tB (cQ (by decide) a0Y T.isin T.tup (sV 0)))) (wO1 (jo (b6 (hm:=T.len) (ha:=(sV 0))) (sGc G.MOST_HEADS))))) (@ss1 _ _ _ _ _ _ (@aB _ _ _ _ _ _ _ _ sO)) ss0)
    (@ssc _ _ _ _ _ _ _ _ (@zIf _ _ _ _ _ _ _ _ _ _ _ _ (bD (tB (rO (hm:=T.all) (ha:=(sC1 [] [] [] [] (eA (sV 0)) (fun _ _ _ _=>(ah cs.c241 hr (@av _ _ _ _ _ _ _ (sV 0) sa0 (by intro _ z; cases z) (by rfl)))) csc .nil .nil))))) (@ss1 _ _ _ _ _ _ (@aB _ _ _ _ _ _ _ _ sO)) ss0)
    (@ss1 _ _ _ _ _ _ (@aB _ _ _ _ _ _ _ _ (sEq hr (tv (hm:=T.len) (hm2:=T.set) (ha:=(ah cs.c242 hr (@av _ _ _ _ _ _ _ (sV 0) sa0 (by intro _ z; cases z) (by rfl))))) (b6 (hm:=T.len) (ha:=(sV 0))))))))
theorem AA:ag ["thing"] ["thing"] (defScope pA):=fsc
theorem DO:DD "is_head" pA ["thing"] bg:=fun {_ _ _ _ _ _ _ _ _ _ _ s _ _} cs T G hr =>
 have S:=AA
 (@ssc _ _ _ _ _ _ _ _ (@zIf _ _ _ _ _ _ _ _ _ _ _ _ (tW (wOr (bD (tB (cQ (by decide) a0Y T.isin T.tup (sV 0)))) (wO1 (o9 hr (b6 (hm:=T.len) (ha:=(sV 0))) sI)))) (@ss1 _ _ _ _ _ _ (@aB _ _ _ _ _ _ _ _ sO)) ss0)
    (@ss1 _ _ _ _ _ _ (@aB _ _ _ _ _ _ _ _ (sBW (jZ (ah cs.c226 hr (@av _ _ _ _ _ _ _ (@aN _ _ _ _ _ _ _ _ _ (sV 0) sI (by intro _ _; rfl)) sa0 (by intro _ z; cases z) (by rfl))) (vA1 (ah cs.c215 hr (@av _ _ _ _ _ _ _ (@aN _ _ _ _ _ _ _ _ _ (sV 0) sI (by intro _ _; rfl)) sa0 (by intro _ z; cases z) (by rfl)))))))))
theorem Cm:ag ["heads"] ["heads"] (defScope rB):=fsc
theorem Du:DD "names_of" rB ["heads"] bO:=fun {_ _ _ _ _ _ _ _ _ _ _ s _ _} cs T G hr =>
 have S:=Cm
 (@ss1 _ _ _ _ _ _ (@aB _ _ _ _ _ _ _ _ (oa (hm:=T.tup) (ha:=(sC1 [] [] [] [] (eA (sM 0)) (fun _ _ _ _=>(@aN _ _ _ _ _ _ _ _ _ (sV 0) sI (by intro _ _; rfl))) csc .nil .nil)))))
theorem A6:ag ["tree","bound","where","number","part"] ["tree","bound"] (defScope qQ):=fsc
theorem Ee:DD "binds_well" qQ ["tree","bound","where","number","part"] aK:=fun {_ _ _ _ _ _ _ _ _ _ _ s _ _} cs T G hr =>
 have S:=A6
 (@ssc _ _ _ _ _ _ _ _ (@a8 _ _ _ _ _ _ _ 2 _ _ _ _ S.nd (ah cs.c233 hr (@av _ _ _ _ _ _ _ (sV 0) sa0 (by intro _ z; cases z) (by rfl))) (by decide) (by rfl) (by rfl) (by first | exact a0G rfl | exact a0E rfl) (by rfl) (by first | exact .inl rfl | exact .inr rfl))
    (@ssc _ _ _ _ _ _ _ _ (@zIf _ _ _ _ _ _ _ _ _ _ _ _ (tW (yi (DJ (sV 2) sN) (wA1 (dY (@aN _ _ _ _ _ _ _ _ _ (sV 0) sI (by intro _ _; rfl)) (sV 1))))) (@ss1 _ _ _ _ _ _ (@aB _ _ _ _ _ _ _ _ sO)) ss0)
    (@ssc _ _ _ _ _ _ _ _ (vM 3 4 S.nd (rC (hm:=T.enum) (ha:=(ah cs.c176 hr (@av _ _ _ _ _ _ _ (sV 0) sa0 (by intro _ z; cases z) (by rfl))))) (@ss1 _ _ _ _ _ _ (@zIf _ _ _ _ _ _ _ _ _ _ _ _ (bD (tB (ah cs.c243 hr (@av _ _ _ _ _ _ _ (sV 4) (@av _ _ _ _ _ _ _ (sIf (cZ hr (sV 3) (sV 2)) (rk (sV 1) (@sTx _ _ _ _ _ _ _ (by decide) (@slx _ _ _ _ _ _ _ (@aN _ _ _ _ _ _ _ _ _ (sV 0) sI (by intro _ _; rfl)) sl0 (by rfl)))) (sV 1)) sa0 (by intro _ z; cases z) (by rfl)) (by intro _ z; cases z) (by rfl))))) (@ss1 _ _ _ _ _ _ (@aB _ _ _ _ _ _ _ _ sO)) ss0)))
    (@ss1 _ _ _ _ _ _ (@aB _ _ _ _ _ _ _ _ sO)))))
theorem B4:ag ["cell","left","way"] ["cell","left"] (defScope oQ):=fsc
theorem Dm:DD "_law_kind" oQ ["cell","left","way"] aT:=fun {_ _ _ _ _ _ _ _ _ _ _ s _ _} cs T G hr =>
 have S:=B4
 (@ssc _ _ _ _ _ _ _ _ (@a8 _ _ _ _ _ _ _ 2 _ _ _ _ S.nd (cH (sV 0) sI) (by decide) (by rfl) (by rfl) (by first | exact a0G rfl | exact a0E rfl) (by rfl) (by first | exact .inl rfl | exact .inr rfl))
    (@ssc _ _ _ _ _ _ _ _ (@zIf _ _ _ _ _ _ _ _ _ _ _ _ (tW (wOr (cZ hr (sV 1) sI) (wO1 (A7 (sV 2) sI)))) (@ss1 _ _ _ _ _ _ (@aB _ _ _ _ _ _ _ _ (@aN _ _ _ _ _ _ _ _ _ (@sLx _ _ _ _ _ _ _ (by decide) (@slx _ _ _ _ _ _ _ (@sTx _ _ _ _ _ _ _ (by decide) (@slx _ _ _ _ _ _ _ sS sl0 (by rfl))) (@slx _ _ _ _ _ _ _ (@sTx _ _ _ _ _ _ _ (by decide) (@slx _ _ _ _ _ _ _ sS sl0 (by rfl))) sl0 (by rfl)) (by rfl))) (cH (sM 0) sI) (by intro _ _; rfl)))) ss0)
    (@ssc _ _ _ _ _ _ _ _ (@zIf _ _ _ _ _ _ _ _ _ _ _ _ (cZ hr (sV 2) sI) (@ss1 _ _ _ _ _ _ (@aB _ _ _ _ _ _ _ _ (@sTx _ _ _ _ _ _ _ (by decide) (@slx _ _ _ _ _ _ _ sS (@slx _ _ _ _ _ _ _ (ah cs.c171 hr (@av _ _ _ _ _ _ _ (cK (sV 0) sI) (@av _ _ _ _ _ _ _ (jS (sV 1) sI) sa0 (by intro _ z; cases z) (by rfl)) (by intro _ z; cases z) (by rfl))) (@slx _ _ _ _ _ _ _ (ah cs.c171 hr (@av _ _ _ _ _ _ _ (cK (sV 0) sI) (@av _ _ _ _ _ _ _ (jS (sV 1) sI) sa0 (by intro _ z; cases z) (by rfl)) (by intro _ z; cases z) (by rfl))) sl0 (by rfl)) (by rfl)) (by rfl))))) ss0)
    (@ss1 _ _ _ _ _ _ (@aB _ _ _ _ _ _ _ _ (@sTx _ _ _ _ _ _ _ (by decide) (@slx _ _ _ _ _ _ _ sS (@slx _ _ _ _ _ _ _ (ah cs.c171 hr (@av _ _ _ _ _ _ _ (cK (sM 0) sI) (@av _ _ _ _ _ _ _ (jS (sM 1) sI) sa0 (by intro _ z; cases z) (by rfl)) (by intro _ z; cases z) (by rfl))) sl0 (by rfl)) (by rfl))))))))
theorem CZ:ag ["cell","name","number","some"] ["cell"] (defScope oP):=fsc
theorem DM:DD "_law_leaf" oP ["cell","name","number","some"] bR:=fun {_ _ _ _ _ _ _ _ _ _ _ s _ _} cs T G hr =>
 have S:=CZ
 (@ssc _ _ _ _ _ _ _ _ (@a8 _ _ _ _ _ _ _ 1 _ _ _ _ S.nd (@aN _ _ _ _ _ _ _ _ _ (@sLx _ _ _ _ _ _ _ (by decide) (@slx _ _ _ _ _ _ _ sS (@slx _ _ _ _ _ _ _ sS (@slx _ _ _ _ _ _ _ sS (@slx _ _ _ _ _ _ _ sS (@slx _ _ _ _ _ _ _ sS (@slx _ _ _ _ _ _ _ sS (@slx _ _ _ _ _ _ _ sS (@slx _ _ _ _ _ _ _ sS (@slx _ _ _ _ _ _ _ sS (@slx _ _ _ _ _ _ _ sS sl0 (by rfl)) (by rfl)) (by rfl)) (by rfl)) (by rfl)) (by rfl)) (by rfl)) (by rfl)) (by rfl)) (by rfl))) (cH (cK (sV 0) sI) sI) (by intro _ _; rfl)) (by decide) (by rfl) (by rfl) (by first | exact a0G rfl | exact a0E rfl) (by rfl) (by first | exact .inl rfl | exact .inr rfl))
    (@ssc _ _ _ _ _ _ _ _ (@a8 _ _ _ _ _ _ _ 2 _ _ _ _ S.nd (@aN _ _ _ _ _ _ _ _ _ (@sLx _ _ _ _ _ _ _ (by decide) (@slx _ _ _ _ _ _ _ sI (@slx _ _ _ _ _ _ _ sI (@slx _ _ _ _ _ _ _ (Cd sI sI) (@slx _ _ _ _ _ _ _ sI (@slx _ _ _ _ _ _ _ (cH (sV 0) (bF (Cd sI sI) sI)) sl0 (by rfl)) (by rfl)) (by rfl)) (by rfl)) (by rfl))) (cH (cK (sV 0) sI) sI) (by intro _ _; rfl)) (by decide) (by rfl) (by rfl) (by first | exact a0G rfl | exact a0E rfl) (by rfl) (by first | exact .inl rfl | exact .inr rfl))
    (@ssc _ _ _ _ _ _ _ _ (@a8 _ _ _ _ _ _ _ 3 _ _ _ _ S.nd (@sLx _ _ _ _ _ _ _ (by decide) (@slx _ _ _ _ _ _ _ (@sTx _ _ _ _ _ _ _ (by decide) (@slx _ _ _ _ _ _ _ sS (@slx _ _ _ _ _ _ _ (sV 2) sl0 (by rfl)) (by rfl))) (@slx _ _ _ _ _ _ _ (@sTx _ _ _ _ _ _ _ (by decide) (@slx _ _ _ _ _ _ _ sS sl0 (by rfl))) (@slx _ _ _ _ _ _ _ (@sTx _ _ _ _ _ _ _ (by decide) (@slx _ _ _ _ _ _ _ sS sl0 (by rfl))) (@slx _ _ _ _ _ _ _ (@sTx _ _ _ _ _ _ _ (by decide) (@slx _ _ _ _ _ _ _ sS (@slx _ _ _ _ _ _ _ (sV 1) sl0 (by rfl)) (by rfl))) (@slx _ _ _ _ _ _ _ (@sTx _ _ _ _ _ _ _ (by decide) (@slx _ _ _ _ _ _ _ sS (@slx _ _ _ _ _ _ _ (ah cs.c171 hr (@av _ _ _ _ _ _ _ (cK (sV 0) sI) (@av _ _ _ _ _ _ _ sI sa0 (by intro _ z; cases z) (by rfl)) (by intro _ z; cases z) (by rfl))) sl0 (by rfl)) (by rfl))) sl0 (by rfl)) (by rfl)) (by rfl)) (by rfl)) (by rfl))) (by decide) (by rfl) (by rfl) (by first | exact a0G rfl | exact a0E rfl) (by rfl) (by first | exact .inl rfl | exact .inr rfl))
    (@ss1 _ _ _ _ _ _ (@aB _ _ _ _ _ _ _ _ (@aN _ _ _ _ _ _ _ _ _ (sM 3) (cH (sM 0) sI) (by intro _ _; rfl)))))))
theorem Bm:ag ["cells","left","cell","some","at","many","made","k"] ["cells","left"] (defScope pO):=fsc
theorem D5:DD "_law_tree" pO ["cells","left","cell","some","at","many","made","k"] f_law_tree:=fun {_ _ _ _ _ _ _ _ _ _ _ s _ _} cs T G hr =>
 have S:=Bm
 (@ssc _ _ _ _ _ _ _ _ (@a8 _ _ _ _ _ _ _ 2 _ _ _ _ S.nd (sIf (jo (Aw 0 T.len) sI) (AG 0) sI) (by decide) (by rfl) (by rfl) (by first | exact a0G rfl | exact a0E rfl) (by rfl) (by first | exact .inl rfl | exact .inr rfl))
    (@ssc _ _ _ _ _ _ _ _ (@zIf _ _ _ _ _ _ _ _ _ _ _ _ (tW (wOr (cZ hr (sV 1) sI) (wO1 (cZ hr (cH (sV 2) sI) sI)))) (@ss1 _ _ _ _ _ _ (@aB _ _ _ _ _ _ _ _ (ah cs.c220 hr (@av _ _ _ _ _ _ _ (cK (sM 2) sI) sa0 (by intro _ z; cases z) (by rfl))))) ss0)
    (@ssc _ _ _ _ _ _ _ _ (@a8 _ _ _ _ _ _ _ 3 _ _ _ _ S.nd (@sLx _ _ _ _ _ _ _ (by decide) (@slx _ _ _ _ _ _ _ sS (@slx _ _ _ _ _ _ _ sS (@slx _ _ _ _ _ _ _ sS (@slx _ _ _ _ _ _ _ sS (@slx _ _ _ _ _ _ _ sS (@slx _ _ _ _ _ _ _ sS (@slx _ _ _ _ _ _ _ sS (@slx _ _ _ _ _ _ _ sS (@slx _ _ _ _ _ _ _ sS (@slx _ _ _ _ _ _ _ sS (@slx _ _ _ _ _ _ _ sS (@slx _ _ _ _ _ _ _ sS (@slx _ _ _ _ _ _ _ sS (@slx _ _ _ _ _ _ _ sS sl0 (by rfl)) (by rfl)) (by rfl)) (by rfl)) (by rfl)) (by rfl)) (by rfl)) (by rfl)) (by rfl)) (by rfl)) (by rfl)) (by rfl)) (by rfl)) (by rfl))) (by decide) (by rfl) (by rfl) (by first | exact a0G rfl | exact a0E rfl) (by rfl) (by first | exact .inl rfl | exact .inr rfl))
    (@ssc _ _ _ _ _ _ _ _ (@a8 _ _ _ _ _ _ _ 3 _ _ _ _ S.nd (bF (sV 3) (@sLx _ _ _ _ _ _ _ (by decide) (@slx _ _ _ _ _ _ _ sS (@slx _ _ _ _ _ _ _ sS (@slx _ _ _ _ _ _ _ sS (@slx _ _ _ _ _ _ _ sS (@slx _ _ _ _ _ _ _ sS (@slx _ _ _ _ _ _ _ sS (@slx _ _ _ _ _ _ _ sS (@slx _ _ _ _ _ _ _ sS (@slx _ _ _ _ _ _ _ sS (@slx _ _ _ _ _ _ _ sS (@slx _ _ _ _ _ _ _ sS (@slx _ _ _ _ _ _ _ sS (@slx _ _ _ _ _ _ _ sS sl0 (by rfl)) (by rfl)) (by rfl)) (by rfl)) (by rfl)) (by rfl)) (by rfl)) (by rfl)) (by rfl)) (by rfl)) (by rfl)) (by rfl)) (by rfl)))) (by decide) (by rfl) (by rfl) (by first | exact a0G rfl | exact a0E rfl) (by rfl) (by first | exact .inl rfl | exact .inr rfl))
    (@ssc _ _ _ _ _ _ _ _ (@a8 _ _ _ _ _ _ _ 4 _ _ _ _ S.nd (cH (cK (sV 2) sI) sI) (by decide) (by rfl) (by rfl) (by first | exact a0G rfl | exact a0E rfl) (by rfl) (by first | exact .inl rfl | exact .inr rfl))
    (@ssc _ _ _ _ _ _ _ _ (@a8 _ _ _ _ _ _ _ 5 _ _ _ _ S.nd (bF (bF sI (tU (hm:=T.int) (ha:=(sGt (sV 4) sI)))) (tU (hm:=T.int) (ha:=(qi (@aN _ _ _ _ _ _ _ _ _ (sV 3) (sV 4) (by intro _ _; rfl)) (@sTx _ _ _ _ _ _ _ (by decide) (@slx _ _ _ _ _ _ _ sS (@slx _ _ _ _ _ _ _ sS sl0 (by rfl)) (by rfl))))))) (by decide) (by rfl) (by rfl) (by first | exact a0G rfl | exact a0E rfl) (by rfl) (by first | exact .inl rfl | exact .inr rfl))
    (@ssc _ _ _ _ _ _ _ _ (@a8 _ _ _ _ _ _ _ 6 _ _ _ _ S.nd (@sTx _ _ _ _ _ _ _ (by decide) (@slx _ _ _ _ _ _ _ (@aN _ _ _ _ _ _ _ _ _ (sV 3) (sV 4) (by intro _ _; rfl)) sl0 (by rfl))) (by decide) (by rfl) (by rfl) (by first | exact a0G rfl | exact a0E rfl) (by rfl) (by first | exact .inl rfl | exact .inr rfl))
    (@ssc _ _ _ _ _ _ _ _ (@zIf _ _ _ _ _ _ _ _ _ _ _ _ (dY (@aN _ _ _ _ _ _ _ _ _ (sV 3) (sV 4) (by intro _ _; rfl)) (@sTx _ _ _ _ _ _ _ (by decide) (@slx _ _ _ _ _ _ _ sS (@slx _ _ _ _ _ _ _ sS (@slx _ _ _ _ _ _ _ sS sl0 (by rfl)) (by rfl)) (by rfl)))) (@ss1 _ _ _ _ _ _ (@a8 _ _ _ _ _ _ _ 6 _ _ _ _ S.nd (bF (sV 6) (@sTx _ _ _ _ _ _ _ (by decide) (@slx _ _ _ _ _ _ _ (@aN _ _ _ _ _ _ _ _ _ (@sLx _ _ _ _ _ _ _ (by decide) (@slx _ _ _ _ _ _ _ sS (@slx _ _ _ _ _ _ _ sS (@slx _ _ _ _ _ _ _ sS (@slx _ _ _ _ _ _ _ sS (@slx _ _ _ _ _ _ _ sS sl0 (by rfl)) (by rfl)) (by rfl)) (by rfl)) (by rfl))) (cH (cK (sV 2) sI) sI) (by intro _ _; rfl)) sl0 (by rfl)))) (by decide) (by rfl) (by rfl) (by first | exact a0G rfl | exact a0E rfl) (by rfl) (by first | exact .inl rfl | exact .inr rfl))) ss0)
    (@ssc _ _ _ _ _ _ _ _ (kh 7 S.nd (zJ (hm:=T.range) (ha:=(sV 5))) (@ss1 _ _ _ _ _ _ (@a8 _ _ _ _ _ _ _ 6 _ _ _ _ S.nd (bF (sV 6) (@sTx _ _ _ _ _ _ _ (by decide) (@slx _ _ _ _ _ _ _ (ah cs.c229 hr (sai 0 (@av _ _ _ _ _ _ _ (jS (sV 1) sI) sa0 (by intro _ z; cases z) (by rfl)))) sl0 (by rfl)))) (by decide) (by rfl) (by rfl) (by first | exact a0G rfl | exact a0E rfl) (by rfl) (by first | exact .inl rfl | exact .inr rfl))))
    (@ss1 _ _ _ _ _ _ (@aB _ _ _ _ _ _ _ _ (sM 6))))))))))))
theorem CN:ag ["tree"] ["tree"] (defScope qU):=fsc
theorem Dn:DD "_law_start" qU ["tree"] bf:=fun {_ _ _ _ _ _ _ _ _ _ _ s _ _} cs T G hr =>
 have S:=CN
 (@ssc _ _ _ _ _ _ _ _ (@zIf _ _ _ _ _ _ _ _ _ _ _ _ (dY (@aN _ _ _ _ _ _ _ _ _ (sV 0) sI (by intro _ _; rfl)) (@sTx _ _ _ _ _ _ _ (by decide) (@slx _ _ _ _ _ _ _ sS (@slx _ _ _ _ _ _ _ sS (@slx _ _ _ _ _ _ _ sS sl0 (by rfl)) (by rfl)) (by rfl)))) (@ss1 _ _ _ _ _ _ (@aB _ _ _ _ _ _ _ _ (b6 (hm:=T.len) (ha:=(sM 0))))) ss0)
    (@ss1 _ _ _ _ _ _ (@aB _ _ _ _ _ _ _ _ (bF sI (tU (hm:=T.int) (ha:=(qi (@aN _ _ _ _ _ _ _ _ _ (sM 0) sI (by intro _ _; rfl)) (@sTx _ _ _ _ _ _ _ (by decide) (@slx _ _ _ _ _ _ _ sS (@slx _ _ _ _ _ _ _ sS (@slx _ _ _ _ _ _ _ sS sl0 (by rfl)) (by rfl)) (by rfl))))))))))
theorem Ar:ag ["tree"] ["tree"] (defScope nQ):=fsc
theorem Dq:DD "_law_many" nQ ["tree"] bY:=fun {_ _ _ _ _ _ _ _ _ _ _ s _ _} cs T G hr =>
 have S:=Ar
 (@ss1 _ _ _ _ _ _ (@aB _ _ _ _ _ _ _ _ (bF sI (DZ (hm:=T.sum) (ha:=(sC1 [] [] [] [] (eA (lM (sV 0) (ah cs.c244 hr (@av _ _ _ _ _ _ _ (sV 0) sa0 (by intro _ z; cases z) (by rfl))))) (fun _ _ _ _=>(ah cs.c245 hr (@av _ _ _ _ _ _ _ (sV 0) sa0 (by intro _ z; cases z) (by rfl)))) csc .nil .nil))))))
theorem CM:ag ["tree"] ["tree"] (defScope ro):=fsc
theorem Eg:DD "_law_deep" ro ["tree"] bW:=fun {_ _ _ _ _ _ _ _ _ _ _ s _ _} cs T G hr =>
 have S:=CM
 (@ss1 _ _ _ _ _ _ (@aB _ _ _ _ _ _ _ _ (bF sI (vS (hm:=T.max) (ha:=(bF (@sLx _ _ _ _ _ _ _ (by decide) (@slx _ _ _ _ _ _ _ sI sl0 (by rfl))) (sC1 [] [] [] [] (eA (lM (sV 0) (ah cs.c244 hr (@av _ _ _ _ _ _ _ (sV 0) sa0 (by intro _ z; cases z) (by rfl))))) (fun _ _ _ _=>(ah cs.c246 hr (@av _ _ _ _ _ _ _ (sV 0) sa0 (by intro _ z; cases z) (by rfl)))) csc .nil .nil)))))))
theorem Ct:ag ["tree","outer","start","at","inner"] ["tree","outer"] (defScope q0):=fsc
theorem Ds:DD "_law_clear" q0 ["tree","outer","start","at","inner"] aR:=fun {_ _ _ _ _ _ _ _ _ _ _ s _ _} cs T G hr =>
 have S:=Ct
 (@ssc _ _ _ _ _ _ _ _ (@zIf _ _ _ _ _ _ _ _ _ _ _ _ (tW (yi (dY (@aN _ _ _ _ _ _ _ _ _ (sV 0) sI (by intro _ _; rfl)) (@sTx _ _ _ _ _ _ _ (by decide) (@slx _ _ _ _ _ _ _ sS (@slx _ _ _ _ _ _ _ sS (@slx _ _ _ _ _ _ _ sS sl0 (by rfl)) (by rfl)) (by rfl)))) (wA1 (dY (@aN _ _ _ _ _ _ _ _ _ (sV 0) sI (by intro _ _; rfl)) (sV 1))))) (@ss1 _ _ _ _ _ _ (@aB _ _ _ _ _ _ _ _ sO)) ss0)
    (@ssc _ _ _ _ _ _ _ _ (@a8 _ _ _ _ _ _ _ 2 _ _ _ _ S.nd (ah cs.c244 hr (@av _ _ _ _ _ _ _ (sV 0) sa0 (by intro _ z; cases z) (by rfl))) (by decide) (by rfl) (by rfl) (by first | exact a0G rfl | exact a0E rfl) (by rfl) (by first | exact .inl rfl | exact .inr rfl))
    (@ssc _ _ _ _ _ _ _ _ (kh 3 S.nd (zp (hm:=T.range) (ha:=(sV 2)) (hb:=(b6 (hm:=T.len) (ha:=(sV 0))))) (@ssc _ _ _ _ _ _ _ _ (@a8 _ _ _ _ _ _ _ 4 _ _ _ _ S.nd (sBW (jZ (sEq hr (sV 3) (jS (b6 (hm:=T.len) (ha:=(sV 0))) sI)) (vA1 (qi (@aN _ _ _ _ _ _ _ _ _ (sV 0) sI (by intro _ _; rfl)) (@sTx _ _ _ _ _ _ _ (by decide) (@slx _ _ _ _ _ _ _ sS (@slx _ _ _ _ _ _ _ sS (@slx _ _ _ _ _ _ _ sS sl0 (by rfl)) (by rfl)) (by rfl))))))) (by decide) (by rfl) (by rfl) (by first | exact a0G rfl | exact a0E rfl) (by rfl) (by first | exact .inl rfl | exact .inr rfl))
     (@ss1 _ _ _ _ _ _ (@zIf _ _ _ _ _ _ _ _ _ _ _ _ (bD (tB (ah cs.c247 hr (@av _ _ _ _ _ _ _ (@aN _ _ _ _ _ _ _ _ _ (sV 0) (sV 3) (by intro _ _; rfl)) (@av _ _ _ _ _ _ _ (sIf (tB (sV 4)) (bF (sV 1) (@sLx _ _ _ _ _ _ _ (by decide) (@slx _ _ _ _ _ _ _ (@aN _ _ _ _ _ _ _ _ _ (sV 0) sI (by intro _ _; rfl)) sl0 (by rfl)))) (sV 1)) sa0 (by intro _ z; cases z) (by rfl)) (by intro _ z; cases z) (by rfl))))) (@ss1 _ _ _ _ _ _ (@aB _ _ _ _ _ _ _ _ sO)) ss0))))
    (@ss1 _ _ _ _ _ _ (@aB _ _ _ _ _ _ _ _ sO)))))
theorem AB:ag ["script","cell","some","found","k","at"] ["script"] (defScope qS):=fsc
theorem Dj:DD "_law_heads" qS ["script","cell","some","found","k","at"] bE:=fun {_ _ _ _ _ _ _ _ _ _ _ s _ _} cs T G hr =>
 have S:=AB
 (@ssc _ _ _ _ _ _ _ _ (@a8 _ _ _ _ _ _ _ 1 _ _ _ _ S.nd (sIf (jo (b6 (hm:=T.len) (ha:=(sV 0))) sI) (@aN _ _ _ _ _ _ _ _ _ (sV 0) sI (by intro _ _; rfl)) sI) (by decide) (by rfl) (by rfl) (by first | exact a0G rfl | exact a0E rfl) (by rfl) (by first | exact .inl rfl | exact .inr rfl))
    (@ssc _ _ _ _ _ _ _ _ (@a8 _ _ _ _ _ _ _ 2 _ _ _ _ S.nd (@sLx _ _ _ _ _ _ _ (by decide) (@slx _ _ _ _ _ _ _ sS (@slx _ _ _ _ _ _ _ sS (@slx _ _ _ _ _ _ _ sS (@slx _ _ _ _ _ _ _ sS (@slx _ _ _ _ _ _ _ sS (@slx _ _ _ _ _ _ _ sS (@slx _ _ _ _ _ _ _ sS (@slx _ _ _ _ _ _ _ sS (@slx _ _ _ _ _ _ _ sS (@slx _ _ _ _ _ _ _ sS sl0 (by rfl)) (by rfl)) (by rfl)) (by rfl)) (by rfl)) (by rfl)) (by rfl)) (by rfl)) (by rfl)) (by rfl))) (by decide) (by rfl) (by rfl) (by first | exact a0G rfl | exact a0E rfl) (by rfl) (by first | exact .inl rfl | exact .inr rfl))
    (@ssc _ _ _ _ _ _ _ _ (@a8 _ _ _ _ _ _ _ 3 _ _ _ _ S.nd (@sLx _ _ _ _ _ _ _ (by decide) sl0) (by decide) (by rfl) (by rfl) (by first | exact a0G rfl | exact a0E rfl) (by rfl) (by first | exact .inl rfl | exact .inr rfl))
    (@ssc _ _ _ _ _ _ _ _ (kh 4 S.nd (zJ (hm:=T.range) (ha:=(cH (sV 1) sI))) (@ssc _ _ _ _ _ _ _ _ (@a8 _ _ _ _ _ _ _ 5 _ _ _ _ S.nd (cH (bF (cH (cK (sV 1) sI) sI) (n5 (sV 4) (bF sI (cH (cK (sV 1) sI) sI)))) sI) (by decide) (by rfl) (by rfl) (by first | exact a0G rfl | exact a0E rfl) (by rfl) (by first | exact .inl rfl | exact .inr rfl))
     (@ss1 _ _ _ _ _ _ (AU 3 (@sTx _ _ _ _ _ _ _ (by decide) (@slx _ _ _ _ _ _ _ (@aN _ _ _ _ _ _ _ _ _ (sV 2) (sV 5) (by intro _ _; rfl)) (@slx _ _ _ _ _ _ _ (ah cs.c171 hr (@av _ _ _ _ _ _ _ (cK (sV 1) (bF sI (sV 4))) (@av _ _ _ _ _ _ _ (bF sI (tU (hm:=T.int) (ha:=(sEq hr (sV 4) sI)))) sa0 (by intro _ z; cases z) (by rfl)) (by intro _ z; cases z) (by rfl))) sl0 (by rfl)) (by rfl)))))))
    (@ss1 _ _ _ _ _ _ (@aB _ _ _ _ _ _ _ _ (oa (hm:=T.tup) (ha:=(sM 3)))))))))
theorem CP:ag ["tree","cell","some","twos"] ["tree","cell"] (defScope qK):=fsc
theorem El:DD "_law_great" qK ["tree","cell","some","twos"] aZ:=fun {_ _ _ _ _ _ _ _ _ _ _ s _ _} cs T G hr =>
 have S:=CP
 (@ssc _ _ _ _ _ _ _ _ (@zIf _ _ _ _ _ _ _ _ _ _ _ _ (cZ hr (cH (sV 1) sI) sI) (@ss1 _ _ _ _ _ _ (AJ (A7 (ah cs.c246 hr (@av _ _ _ _ _ _ _ (sV 0) sa0 (by intro _ z; cases z) (by rfl))) (bF sI (cH (cK (sV 1) sI) sI))) (@ss1 _ _ _ _ _ _ (@a8 _ _ _ _ _ _ _ 0 _ _ _ _ S.nd (@sTx _ _ _ _ _ _ _ (by decide) (@slx _ _ _ _ _ _ _ sS (@slx _ _ _ _ _ _ _ (sV 0) sl0 (by rfl)) (by rfl))) (by decide) (by rfl) (by rfl) (by first | exact a0G rfl | exact a0E rfl) (by rfl) (by first | exact .inl rfl | exact .inr rfl))))) ss0)
    (@ssc _ _ _ _ _ _ _ _ (@zIf _ _ _ _ _ _ _ _ _ _ _ _ (cZ hr (cH (sV 1) sI) sI) (@ssc _ _ _ _ _ _ _ _ (@a8 _ _ _ _ _ _ _ 2 _ _ _ _ S.nd (bF (@sLx _ _ _ _ _ _ _ (by decide) (@slx _ _ _ _ _ _ _ (sV 0) sl0 (by rfl))) (n5 (@sLx _ _ _ _ _ _ _ (by decide) (@slx _ _ _ _ _ _ _ (@sTx _ _ _ _ _ _ _ (by decide) (@slx _ _ _ _ _ _ _ sS sl0 (by rfl))) sl0 (by rfl))) (DI (hm:=T.max) (ha:=sI) (hb:=(cK (jS (bF sI (cH (cK (sV 1) sI) sI)) (ah cs.c245 hr (@av _ _ _ _ _ _ _ (sV 0) sa0 (by intro _ z; cases z) (by rfl)))) sI))))) (by decide) (by rfl) (by rfl) (by first | exact a0G rfl | exact a0E rfl) (by rfl) (by first | exact .inl rfl | exact .inr rfl))
     (@ssc _ _ _ _ _ _ _ _ (AJ (jo (b6 (hm:=T.len) (ha:=(sV 2))) sI) (@ssc _ _ _ _ _ _ _ _ (zC1 3 [2] [2] [("some",s.heap.objs.size+1)] ["some"] (zJ (hm:=T.range) (ha:=(cK (b6 (hm:=T.len) (ha:=(sV 2))) sI))) (fun _ _ _ _=>(@sTx _ _ _ _ _ _ _ (by decide) (@slx _ _ _ _ _ _ _ sS (@slx _ _ _ _ _ _ _ (@aN _ _ _ _ _ _ _ _ _ (sV 1) (n5 sI (sV 0)) (by intro _ _; rfl)) (@slx _ _ _ _ _ _ _ (@aN _ _ _ _ _ _ _ _ _ (sV 1) (bF (n5 sI (sV 0)) sI) (by intro _ _; rfl)) sl0 (by rfl)) (by rfl)) (by rfl)))) csc (oi .nil) (frc .nil) S.nd)
      (@ss1 _ _ _ _ _ _ (@a8 _ _ _ _ _ _ _ 2 _ _ _ _ S.nd (bF (sV 3) (lM (sV 2) (n5 sI (b6 (hm:=T.len) (ha:=(sV 3)))))) (by decide) (by rfl) (by rfl) (by first | exact a0G rfl | exact a0E rfl) (by rfl) (by first | exact .inl rfl | exact .inr rfl)))))
     (@ss1 _ _ _ _ _ _ (@a8 _ _ _ _ _ _ _ 0 _ _ _ _ S.nd (sIf (cZ hr (cH (cK (sV 1) sI) sI) sI) (@aN _ _ _ _ _ _ _ _ _ (sV 2) sI (by intro _ _; rfl)) (@sTx _ _ _ _ _ _ _ (by decide) (@slx _ _ _ _ _ _ _ sS (@slx _ _ _ _ _ _ _ (@aN _ _ _ _ _ _ _ _ _ (sV 2) sI (by intro _ _; rfl)) sl0 (by rfl)) (by rfl)))) (by decide) (by rfl) (by rfl) (by first | exact a0G rfl | exact a0E rfl) (by rfl) (by first | exact .inl rfl | exact .inr rfl))))) ss0)
    (@ss1 _ _ _ _ _ _ (@aB _ _ _ _ _ _ _ _ (sM 0)))))
theorem BR:ag ["program","cell","heads","tree","some","deep","odd"] ["program","cell"] (defScope pG):=fsc
theorem DW:DD "_law_amiss" pG ["program","cell","heads","tree","some","deep","odd"] f_law_amiss:=fun {_ _ _ _ _ _ _ _ _ _ _ s _ _} cs T G hr =>
 have S:=BR
 (@ssc _ _ _ _ _ _ _ _ (Cs 2 3 S.nd (sV 0))
    (@ssc _ _ _ _ _ _ _ _ (@a8 _ _ _ _ _ _ _ 4 _ _ _ _ S.nd (@sLx _ _ _ _ _ _ _ (by decide) (@slx _ _ _ _ _ _ _ (@sLx _ _ _ _ _ _ _ (by decide) (@slx _ _ _ _ _ _ _ (sV 2) (@slx _ _ _ _ _ _ _ (sV 3) sl0 (by rfl)) (by rfl))) (@slx _ _ _ _ _ _ _ (@sTx _ _ _ _ _ _ _ (by decide) (@slx _ _ _ _ _ _ _ (vD (hm:=T.list) (ha:=(sV 2))) (@slx _ _ _ _ _ _ _ (sV 3) sl0 (by rfl)) (by rfl))) (@slx _ _ _ _ _ _ _ (@sTx _ _ _ _ _ _ _ (by decide) (@slx _ _ _ _ _ _ _ (sV 2) (@slx _ _ _ _ _ _ _ (sV 3) (@slx _ _ _ _ _ _ _ (sV 2) sl0 (by rfl)) (by rfl)) (by rfl))) (@slx _ _ _ _ _ _ _ (@sTx _ _ _ _ _ _ _ (by decide) (@slx _ _ _ _ _ _ _ (sV 2) sl0 (by rfl))) (@slx _ _ _ _ _ _ _ sN (@slx _ _ _ _ _ _ _ (@sTx _ _ _ _ _ _ _ (by decide) (@slx _ _ _ _ _ _ _ (sV 2) (@slx _ _ _ _ _ _ _ (sV 2) sl0 (by rfl)) (by rfl))) (@slx _ _ _ _ _ _ _ (@sTx _ _ _ _ _ _ _ (by decide) (@slx _ _ _ _ _ _ _ (sV 3) (@slx _ _ _ _ _ _ _ (sV 2) sl0 (by rfl)) (by rfl))) sl0 (by rfl)) (by rfl)) (by rfl)) (by rfl)) (by rfl)) (by rfl)) (by rfl))) (by decide) (by rfl) (by rfl) (by first | exact a0G rfl | exact a0E rfl) (by rfl) (by first | exact .inl rfl | exact .inr rfl))
    (@ssc _ _ _ _ _ _ _ _ (@a8 _ _ _ _ _ _ _ 5 _ _ _ _ S.nd (@sTx _ _ _ _ _ _ _ (by decide) (@slx _ _ _ _ _ _ _ sS (@slx _ _ _ _ _ _ _ (@sTx _ _ _ _ _ _ _ (by decide) (@slx _ _ _ _ _ _ _ sS (@slx _ _ _ _ _ _ _ (@sTx _ _ _ _ _ _ _ (by decide) (@slx _ _ _ _ _ _ _ sS (@slx _ _ _ _ _ _ _ (@sTx _ _ _ _ _ _ _ (by decide) (@slx _ _ _ _ _ _ _ sS (@slx _ _ _ _ _ _ _ (@sTx _ _ _ _ _ _ _ (by decide) (@slx _ _ _ _ _ _ _ sS (@slx _ _ _ _ _ _ _ (@sTx _ _ _ _ _ _ _ (by decide) (@slx _ _ _ _ _ _ _ sS sl0 (by rfl))) sl0 (by rfl)) (by rfl))) sl0 (by rfl)) (by rfl))) sl0 (by rfl)) (by rfl))) sl0 (by rfl)) (by rfl))) sl0 (by rfl)) (by rfl))) (by decide) (by rfl) (by rfl) (by first | exact a0G rfl | exact a0E rfl) (by rfl) (by first | exact .inl rfl | exact .inr rfl))
    (@ssc _ _ _ _ _ _ _ _ (@a8 _ _ _ _ _ _ _ 6 _ _ _ _ S.nd (@sLx _ _ _ _ _ _ _ (by decide) (@slx _ _ _ _ _ _ _ (@sTx _ _ _ _ _ _ _ (by decide) (@slx _ _ _ _ _ _ _ sS sl0 (by rfl))) (@slx _ _ _ _ _ _ _ (@sTx _ _ _ _ _ _ _ (by decide) (@slx _ _ _ _ _ _ _ sS (@slx _ _ _ _ _ _ _ (@sTx _ _ _ _ _ _ _ (by decide) (@slx _ _ _ _ _ _ _ sS sl0 (by rfl))) (@slx _ _ _ _ _ _ _ sI sl0 (by rfl)) (by rfl)) (by rfl))) (@slx _ _ _ _ _ _ _ (@sTx _ _ _ _ _ _ _ (by decide) (@slx _ _ _ _ _ _ _ sS (@slx _ _ _ _ _ _ _ (@sTx _ _ _ _ _ _ _ (by decide) (@slx _ _ _ _ _ _ _ sS sl0 (by rfl))) sl0 (by rfl)) (by rfl))) (@slx _ _ _ _ _ _ _ (@sTx _ _ _ _ _ _ _ (by decide) (@slx _ _ _ _ _ _ _ sS (@slx _ _ _ _ _ _ _ (@sTx _ _ _ _ _ _ _ (by decide) (@slx _ _ _ _ _ _ _ sS sl0 (by rfl))) sl0 (by rfl)) (by rfl))) (@slx _ _ _ _ _ _ _ (@sLx _ _ _ _ _ _ _ (by decide) (@slx _ _ _ _ _ _ _ sS (@slx _ _ _ _ _ _ _ (@sTx _ _ _ _ _ _ _ (by decide) (@slx _ _ _ _ _ _ _ sS sl0 (by rfl))) sl0 (by rfl)) (by rfl))) (@slx _ _ _ _ _ _ _ (@sTx _ _ _ _ _ _ _ (by decide) (@slx _ _ _ _ _ _ _ sS (@slx _ _ _ _ _ _ _ (sV 5) sl0 (by rfl)) (by rfl))) (@slx _ _ _ _ _ _ _ (@sTx _ _ _ _ _ _ _ (by decide) (@slx _ _ _ _ _ _ _ sS sl0 (by rfl))) sl0 (by rfl)) (by rfl)) (by rfl)) (by rfl)) (by rfl)) (by rfl)) (by rfl))) (by decide) (by rfl) (by rfl) (by first | exact a0G rfl | exact a0E rfl) (by rfl) (by first | exact .inl rfl | exact .inr rfl))
    (@ssc _ _ _ _ _ _ _ _ (@a8 _ _ _ _ _ _ _ 6 _ _ _ _ S.nd (bF (bF (sV 6) (sC1 [] [] [] [] (eA (@sLx _ _ _ _ _ _ _ (by decide) (@slx _ _ _ _ _ _ _ sS (@slx _ _ _ _ _ _ _ sS (@slx _ _ _ _ _ _ _ sS (@slx _ _ _ _ _ _ _ sS (@slx _ _ _ _ _ _ _ sI (@slx _ _ _ _ _ _ _ sN (@slx _ _ _ _ _ _ _ sO sl0 (by rfl)) (by rfl)) (by rfl)) (by rfl)) (by rfl)) (by rfl)) (by rfl)))) (fun _ _ _ _=>(@sTx _ _ _ _ _ _ _ (by decide) (@slx _ _ _ _ _ _ _ (sV 0) (@slx _ _ _ _ _ _ _ (@sTx _ _ _ _ _ _ _ (by decide) (@slx _ _ _ _ _ _ _ sS sl0 (by rfl))) sl0 (by rfl)) (by rfl)))) csc .nil .nil)) (@sLx _ _ _ _ _ _ _ (by decide) (@slx _ _ _ _ _ _ _ (@sTx _ _ _ _ _ _ _ (by decide) (@slx _ _ _ _ _ _ _ (@sLx _ _ _ _ _ _ _ (by decide) sl0) (@slx _ _ _ _ _ _ _ (@sTx _ _ _ _ _ _ _ (by decide) (@slx _ _ _ _ _ _ _ sS sl0 (by rfl))) sl0 (by rfl)) (by rfl))) (@slx _ _ _ _ _ _ _ (@sTx _ _ _ _ _ _ _ (by decide) sl0) sl0 (by rfl)) (by rfl)))) (by decide) (by rfl) (by rfl) (by first | exact a0G rfl | exact a0E rfl) (by rfl) (by first | exact .inl rfl | exact .inr rfl))
    (@ssc _ _ _ _ _ _ _ _ (@a8 _ _ _ _ _ _ _ 4 _ _ _ _ S.nd (bF (bF (sV 4) (sC1 [2,3] [2,3] [("tree",s.heap.objs.size+2),("heads",s.heap.objs.size+1)] ["heads","tree"] (eA (sV 6)) (fun _ _ _ _=>(@sTx _ _ _ _ _ _ _ (by decide) (@slx _ _ _ _ _ _ _ (rk (sV 1) (@sTx _ _ _ _ _ _ _ (by decide) (@slx _ _ _ _ _ _ _ (sV 0) sl0 (by rfl)))) (@slx _ _ _ _ _ _ _ (sV 2) sl0 (by rfl)) (by rfl)))) csc (oi (oi .nil)) (frc (frc .nil)))) (@sLx _ _ _ _ _ _ _ (by decide) (@slx _ _ _ _ _ _ _ (@sTx _ _ _ _ _ _ _ (by decide) (@slx _ _ _ _ _ _ _ (sV 2) (@slx _ _ _ _ _ _ _ (@sLx _ _ _ _ _ _ _ (by decide) (@slx _ _ _ _ _ _ _ sS sl0 (by rfl))) sl0 (by rfl)) (by rfl))) (@slx _ _ _ _ _ _ _ (@sTx _ _ _ _ _ _ _ (by decide) (@slx _ _ _ _ _ _ _ (sV 2) (@slx _ _ _ _ _ _ _ (@sTx _ _ _ _ _ _ _ (by decide) (@slx _ _ _ _ _ _ _ (@sLx _ _ _ _ _ _ _ (by decide) sl0) sl0 (by rfl))) sl0 (by rfl)) (by rfl))) sl0 (by rfl)) (by rfl)))) (by decide) (by rfl) (by rfl) (by first | exact a0G rfl | exact a0E rfl) (by rfl) (by first | exact .inl rfl | exact .inr rfl))
    (@ss1 _ _ _ _ _ _ (@aB _ _ _ _ _ _ _ _ (@aN _ _ _ _ _ _ _ _ _ (sV 4) (cH (sM 1) (b6 (hm:=T.len) (ha:=(sV 4)))) (by intro _ _; rfl))))))))))
theorem S0:ag ["script","heads","tree","cell","great","names","due","told"] ["script"] (defScope s0):=fsc
theorem D0:DD "law" s0 ["script","heads","tree","cell","great","names","due","told"] f_law:=fun {_ _ _ _ _ _ _ _ _ _ _ s _ _} cs T G hr =>
 have S:=S0
 (@ssc _ _ _ _ _ _ _ _ (@a8 _ _ _ _ _ _ _ 1 _ _ _ _ S.nd (ah cs.c248 hr (@av _ _ _ _ _ _ _ (sV 0) sa0 (by intro _ z; cases z) (by rfl))) (by decide) (by rfl) (by rfl) (by first | exact a0G rfl | exact a0E rfl) (by rfl) (by first | exact .inl rfl | exact .inr rfl))
    (@ssc _ _ _ _ _ _ _ _ (@a8 _ _ _ _ _ _ _ 2 _ _ _ _ S.nd (ah cs.c229 hr (@av _ _ _ _ _ _ _ (vD (hm:=T.list) (ha:=(Bz (sV 0) sI))) (@av _ _ _ _ _ _ _ sI sa0 (by intro _ z; cases z) (by rfl)) (by intro _ z; cases z) (by rfl))) (by decide) (by rfl) (by rfl) (by first | exact a0G rfl | exact a0E rfl) (by rfl) (by first | exact .inl rfl | exact .inr rfl))
    (@ssc _ _ _ _ _ _ _ _ (kh 3 S.nd (eA (sIf (jo (b6 (hm:=T.len) (ha:=(sV 0))) sI) (Bz (sV 0) sI) (@sLx _ _ _ _ _ _ _ (by decide) (@slx _ _ _ _ _ _ _ sI sl0 (by rfl))))) (@ssc _ _ _ _ _ _ _ _ (@a8 _ _ _ _ _ _ _ 4 _ _ _ _ S.nd (ah cs.c249 hr (@av _ _ _ _ _ _ _ (sV 2) (@av _ _ _ _ _ _ _ (cK (sV 3) sI) sa0 (by intro _ z; cases z) (by rfl)) (by intro _ z; cases z) (by rfl))) (by decide) (by rfl) (by rfl) (by first | exact a0G rfl | exact a0E rfl) (by rfl) (by first | exact .inl rfl | exact .inr rfl))
     (@ssc _ _ _ _ _ _ _ _ (@a8 _ _ _ _ _ _ _ 5 _ _ _ _ S.nd (sC1 [] [] [] [] (eA (sV 1)) (fun _ _ _ _=>(@aN _ _ _ _ _ _ _ _ _ (sV 0) sI (by intro _ _; rfl))) csc .nil .nil) (by decide) (by rfl) (by rfl) (by first | exact a0G rfl | exact a0E rfl) (by rfl) (by first | exact .inl rfl | exact .inr rfl))
     (@ssc _ _ _ _ _ _ _ _ (@a8 _ _ _ _ _ _ _ 6 _ _ _ _ S.nd (sBW (jZ (sLe (b6 (hm:=T.len) (ha:=(sV 1))) sI) (vA1 (sEq hr (b6 (hm:=T.len) (ha:=(Ec [5] [5] [("names",s.heap.objs.size+1)] ["names"] (eA (sV 5)) (fun _ _ _ _=>(jo (s9 (sV 1) (sV 0)) sI)) (fun _ _ _ _=>(sV 0)) csc (oi .nil) (frc .nil)))) sI)))) (by decide) (by rfl) (by rfl) (by first | exact a0G rfl | exact a0E rfl) (by rfl) (by first | exact .inl rfl | exact .inr rfl))
     (@ssc _ _ _ _ _ _ _ _ (@a8 _ _ _ _ _ _ _ 6 _ _ _ _ S.nd (sBW (jZ (sV 6) (jZ (sLe (ah cs.c245 hr (@av _ _ _ _ _ _ _ (sV 4) sa0 (by intro _ z; cases z) (by rfl))) sI) (jZ (sLe (ah cs.c246 hr (@av _ _ _ _ _ _ _ (sV 4) sa0 (by intro _ z; cases z) (by rfl))) sI) (vA1 (ah cs.c247 hr (@av _ _ _ _ _ _ _ (sV 4) (@av _ _ _ _ _ _ _ (sV 5) sa0 (by intro _ z; cases z) (by rfl)) (by intro _ z; cases z) (by rfl)))))))) (by decide) (by rfl) (by rfl) (by first | exact a0G rfl | exact a0E rfl) (by rfl) (by first | exact .inl rfl | exact .inr rfl))
     (@ssc _ _ _ _ _ _ _ _ (@a8 _ _ _ _ _ _ _ 7 _ _ _ _ S.nd (ah cs.c255 hr (@av _ _ _ _ _ _ _ (@sTx _ _ _ _ _ _ _ (by decide) (@slx _ _ _ _ _ _ _ (sV 1) (@slx _ _ _ _ _ _ _ (sV 4) sl0 (by rfl)) (by rfl))) sa0 (by intro _ z; cases z) (by rfl))) (by decide) (by rfl) (by rfl) (by first | exact a0G rfl | exact a0E rfl) (by rfl) (by first | exact .inl rfl | exact .inr rfl))
     (@ssc _ _ _ _ _ _ _ _ (@zIf _ _ _ _ _ _ _ _ _ _ _ _ (tW (wOr (bD (tB (cQ (by decide) a1K T.isin T.bool (sV 7)))) (wO1 (o9 hr (sV 7) (sV 6))))) (@ss1 _ _ _ _ _ _ (@aB _ _ _ _ _ _ _ _ sO)) ss0)
     (@ss1 _ _ _ _ _ _ (@zIf _ _ _ _ _ _ _ _ _ _ _ _ (xE (ah cs.c255 hr (@av _ _ _ _ _ _ _ (ah cs.c256 hr (@av _ _ _ _ _ _ _ (@sTx _ _ _ _ _ _ _ (by decide) (@slx _ _ _ _ _ _ _ (sV 1) (@slx _ _ _ _ _ _ _ (sV 4) sl0 (by rfl)) (by rfl))) (@av _ _ _ _ _ _ _ (cK (sV 3) sI) sa0 (by intro _ z; cases z) (by rfl)) (by intro _ z; cases z) (by rfl))) sa0 (by intro _ z; cases z) (by rfl))) sO) (@ss1 _ _ _ _ _ _ (@aB _ _ _ _ _ _ _ _ sO)) ss0)))))))))
    (@ss1 _ _ _ _ _ _ (@aB _ _ _ _ _ _ _ _ sO)))))
end A11

namespace A11
open PySem PySem.Spec PyProof.Rows L2 L3 MR
noncomputable abbrev Cl (n:Nat):M.Call:=M.callR prog 1000000 1000001 n
section
variable {P:Program}{w:World}{K:a0a}{mg:Str->Option Value}{base:Heap}
theorem all (d215:Df K mg "is_kind" qN ["thing"])(d216:Df K mg "is_kind_within" pI ["thing","depth"])(d2:Df K mg "is_worth" s2 ["kind","thing"])(d3:Df K mg "is_number" s3 ["thing"])(d226:Df K mg "is_name" qP ["thing"])(d227:Df K mg "is_tree" nD ["thing"])(d228:Df K mg "may_stand_ahead" rl ["what","thing"])(d175:Df K mg "parts_start" oN ["sign"])(d176:Df K mg "parts" pP ["tree"])(d233:Df K mg "binding" pL ["tree"])(d253:Df K mg "places" nE ["tree"])(d254:Df K mg "add_places" nB ["tree","place","told"])(d255:Df K mg "is_program" pS ["thing"])(d252:Df K mg "are_heads" ov ["thing"])(d241:Df K mg "is_head" pA ["thing"])(d242:Df K mg "names_of" rB ["heads"])(d243:Df K mg "binds_well" qQ ["tree","bound"])(d171:Df K mg "_law_kind" oQ ["cell","left"])(d220:Df K mg "_law_leaf" oP ["cell"])(d229:Df K mg "_law_tree" pO ["cells","left"])(d244:Df K mg "_law_start" qU ["tree"])(d245:Df K mg "_law_many" nQ ["tree"])(d246:Df K mg "_law_deep" ro ["tree"])(d247:Df K mg "_law_clear" q0 ["tree","outer"])(d248:Df K mg "_law_heads" qS ["script"])(d249:Df K mg "_law_great" qK ["tree","cell"])(d256:Df K mg "_law_amiss" pG ["program","cell"])  (T:Txt mg)(G:Glb K w mg):∀ n,Calls P w K mg base n (Cl n)
 | 0 =>
  have c215:ae P w K mg base 0 (Cl 0) "is_kind" 215 []:=d215.z
  have c216:ae P w K mg base 0 (Cl 0) "is_kind_within" 216 []:=d216.z
  have c2:ae P w K mg base 0 (Cl 0) "is_worth" 2 []:=d2.z
  have c3:ae P w K mg base 0 (Cl 0) "is_number" 3 []:=d3.z
  have c226:ae P w K mg base 0 (Cl 0) "is_name" 226 []:=d226.z
  have c227:ae P w K mg base 0 (Cl 0) "is_tree" 227 []:=d227.z
  have c228:ae P w K mg base 0 (Cl 0) "may_stand_ahead" 228 []:=d228.z
  have c175:ae P w K mg base 0 (Cl 0) "parts_start" 175 []:=d175.z
  have c176:ae P w K mg base 0 (Cl 0) "parts" 176 []:=d176.z
  have c233:ae P w K mg base 0 (Cl 0) "binding" 233 []:=d233.z
  have c253:ae P w K mg base 0 (Cl 0) "places" 253 []:=d253.z
  have c254:ae P w K mg base 0 (Cl 0) "add_places" 254 [2]:=d254.z
  have c255:ae P w K mg base 0 (Cl 0) "is_program" 255 []:=d255.z
  have c252:ae P w K mg base 0 (Cl 0) "are_heads" 252 []:=d252.z
  have c241:ae P w K mg base 0 (Cl 0) "is_head" 241 []:=d241.z
  have c242:ae P w K mg base 0 (Cl 0) "names_of" 242 []:=d242.z
  have c243:ae P w K mg base 0 (Cl 0) "binds_well" 243 []:=d243.z
  have c171:ae P w K mg base 0 (Cl 0) "_law_kind" 171 []:=d171.z
  have c220:ae P w K mg base 0 (Cl 0) "_law_leaf" 220 []:=d220.z
  have c229:ae P w K mg base 0 (Cl 0) "_law_tree" 229 [0]:=d229.z
  have c244:ae P w K mg base 0 (Cl 0) "_law_start" 244 []:=d244.z
  have c245:ae P w K mg base 0 (Cl 0) "_law_many" 245 []:=d245.z
  have c246:ae P w K mg base 0 (Cl 0) "_law_deep" 246 []:=d246.z
  have c247:ae P w K mg base 0 (Cl 0) "_law_clear" 247 []:=d247.z
  have c248:ae P w K mg base 0 (Cl 0) "_law_heads" 248 []:=d248.z
  have c249:ae P w K mg base 0 (Cl 0) "_law_great" 249 []:=d249.z
  have c256:ae P w K mg base 0 (Cl 0) "_law_amiss" 256 []:=d256.z
  ⟨c215,c216,c2,c3,c226,c227,c228,c175,c176,c233,c253,c254,c255,c252,c241,c242,c243,c171,c220,c229,c244,c245,c246,c247,c248,c249,c256,fun _=>rfl,fun _=>rfl⟩
 | n+1 =>
  have c:=all d215 d216 d2 d3 d226 d227 d228 d175 d176 d233 d253 d254 d255 d252 d241 d242 d243 d171 d220 d229 d244 d245 d246 d247 d248 d249 d256  T G n
  have c215:ae P w K mg base (n+1) (Cl (n+1)) "is_kind" 215 []:=d215.s bM B6 (C:=Cl n) (by intro f cdv A outer s H E h; exact @DQ P w K mg base n (Cl n) f cdv A outer s H E c T G h)
  have c216:ae P w K mg base (n+1) (Cl (n+1)) "is_kind_within" 216 []:=d216.s aW BO (C:=Cl n) (by intro f cdv A outer s H E h; exact @DP P w K mg base n (Cl n) f cdv A outer s H E c T G h)
  have c2:ae P w K mg base (n+1) (Cl (n+1)) "is_worth" 2 []:=d2.s bS S2 (C:=Cl n) (by intro f cdv A outer s H E h; exact @D2 P w K mg base n (Cl n) f cdv A outer s H E c T G h)
  have c3:ae P w K mg base (n+1) (Cl (n+1)) "is_number" 3 []:=d3.s bB S3 (C:=Cl n) (by intro f cdv A outer s H E h; exact @D3 P w K mg base n (Cl n) f cdv A outer s H E c T G h)
  have c226:ae P w K mg base (n+1) (Cl (n+1)) "is_name" 226 []:=d226.s bh CS (C:=Cl n) (by intro f cdv A outer s H E h; exact @DK P w K mg base n (Cl n) f cdv A outer s H E c T G h)
  have c227:ae P w K mg base (n+1) (Cl (n+1)) "is_tree" 227 []:=d227.s aF Bq (C:=Cl n) (by intro f cdv A outer s H E h; exact @Dh P w K mg base n (Cl n) f cdv A outer s H E c T G h)
  have c228:ae P w K mg base (n+1) (Cl (n+1)) "may_stand_ahead" 228 []:=d228.s ay AQ (C:=Cl n) (by intro f cdv A outer s H E h; exact @DS P w K mg base n (Cl n) f cdv A outer s H E c T G h)
  have c175:ae P w K mg base (n+1) (Cl (n+1)) "parts_start" 175 []:=d175.s ba BJ (C:=Cl n) (by intro f cdv A outer s H E h; exact @D9 P w K mg base n (Cl n) f cdv A outer s H E c T G h)
  have c176:ae P w K mg base (n+1) (Cl (n+1)) "parts" 176 []:=d176.s c9 CJ (C:=Cl n) (by intro f cdv A outer s H E h; exact @C5 P w K mg base n (Cl n) f cdv A outer s H E c T G h)
  have c233:ae P w K mg base (n+1) (Cl (n+1)) "binding" 233 []:=d233.s cw Bd (C:=Cl n) (by intro f cdv A outer s H E h; exact @C9 P w K mg base n (Cl n) f cdv A outer s H E c T G h)
  have c253:ae P w K mg base (n+1) (Cl (n+1)) "places" 253 []:=d253.s cT Ak (C:=Cl n) (by intro f cdv A outer s H E h; exact @DR P w K mg base n (Cl n) f cdv A outer s H E c T G h)
  have c254:ae P w K mg base (n+1) (Cl (n+1)) "add_places" 254 [2]:=d254.s bp Ac (C:=Cl n) (by intro f cdv A outer s H E h; exact @DT P w K mg base n (Cl n) f cdv A outer s H E c T G h)
  have c255:ae P w K mg base (n+1) (Cl (n+1)) "is_program" 255 []:=d255.s aq BY (C:=Cl n) (by intro f cdv A outer s H E h; exact @Eb P w K mg base n (Cl n) f cdv A outer s H E c T G h)
  have c252:ae P w K mg base (n+1) (Cl (n+1)) "are_heads" 252 []:=d252.s aY Bg (C:=Cl n) (by intro f cdv A outer s H E h; exact @D8 P w K mg base n (Cl n) f cdv A outer s H E c T G h)
  have c241:ae P w K mg base (n+1) (Cl (n+1)) "is_head" 241 []:=d241.s bg AA (C:=Cl n) (by intro f cdv A outer s H E h; exact @DO P w K mg base n (Cl n) f cdv A outer s H E c T G h)
  have c242:ae P w K mg base (n+1) (Cl (n+1)) "names_of" 242 []:=d242.s bO Cm (C:=Cl n) (by intro f cdv A outer s H E h; exact @Du P w K mg base n (Cl n) f cdv A outer s H E c T G h)
  have c243:ae P w K mg base (n+1) (Cl (n+1)) "binds_well" 243 []:=d243.s aK A6 (C:=Cl n) (by intro f cdv A outer s H E h; exact @Ee P w K mg base n (Cl n) f cdv A outer s H E c T G h)
  have c171:ae P w K mg base (n+1) (Cl (n+1)) "_law_kind" 171 []:=d171.s aT B4 (C:=Cl n) (by intro f cdv A outer s H E h; exact @Dm P w K mg base n (Cl n) f cdv A outer s H E c T G h)
  have c220:ae P w K mg base (n+1) (Cl (n+1)) "_law_leaf" 220 []:=d220.s bR CZ (C:=Cl n) (by intro f cdv A outer s H E h; exact @DM P w K mg base n (Cl n) f cdv A outer s H E c T G h)
  have c229:ae P w K mg base (n+1) (Cl (n+1)) "_law_tree" 229 [0]:=d229.s f_law_tree Bm (C:=Cl n) (by intro f cdv A outer s H E h; exact @D5 P w K mg base n (Cl n) f cdv A outer s H E c T G h)
  have c244:ae P w K mg base (n+1) (Cl (n+1)) "_law_start" 244 []:=d244.s bf CN (C:=Cl n) (by intro f cdv A outer s H E h; exact @Dn P w K mg base n (Cl n) f cdv A outer s H E c T G h)
  have c245:ae P w K mg base (n+1) (Cl (n+1)) "_law_many" 245 []:=d245.s bY Ar (C:=Cl n) (by intro f cdv A outer s H E h; exact @Dq P w K mg base n (Cl n) f cdv A outer s H E c T G h)
  have c246:ae P w K mg base (n+1) (Cl (n+1)) "_law_deep" 246 []:=d246.s bW CM (C:=Cl n) (by intro f cdv A outer s H E h; exact @Eg P w K mg base n (Cl n) f cdv A outer s H E c T G h)
  have c247:ae P w K mg base (n+1) (Cl (n+1)) "_law_clear" 247 []:=d247.s aR Ct (C:=Cl n) (by intro f cdv A outer s H E h; exact @Ds P w K mg base n (Cl n) f cdv A outer s H E c T G h)
  have c248:ae P w K mg base (n+1) (Cl (n+1)) "_law_heads" 248 []:=d248.s bE AB (C:=Cl n) (by intro f cdv A outer s H E h; exact @Dj P w K mg base n (Cl n) f cdv A outer s H E c T G h)
  have c249:ae P w K mg base (n+1) (Cl (n+1)) "_law_great" 249 []:=d249.s aZ CP (C:=Cl n) (by intro f cdv A outer s H E h; exact @El P w K mg base n (Cl n) f cdv A outer s H E c T G h)
  have c256:ae P w K mg base (n+1) (Cl (n+1)) "_law_amiss" 256 []:=d256.s f_law_amiss BR (C:=Cl n) (by intro f cdv A outer s H E h; exact @DW P w K mg base n (Cl n) f cdv A outer s H E c T G h)
  ⟨c215,c216,c2,c3,c226,c227,c228,c175,c176,c233,c253,c254,c255,c252,c241,c242,c243,c171,c220,c229,c244,c245,c246,c247,c248,c249,c256,fun ws=>M.zf_no _ ws,fun ws=>M.zf_no _ ws⟩
end
theorem pure_law:∀ ns:List Int,ns.length<=63->∃ m bs,Cl 40 0 [(.d,.scr ns)]=.ok ((m,.bl true),bs):=fun ns _=>P11.pure_law ns
theorem all_mk {l:a2k}{w:World}{K:a0a}{h:Heap}{mg:Str->Option Value}{fa:Addr}(X:K.In h)(G:h.Ns mainGlobals mg)(hfa:mg "law"=some (.ref fa))(r215:Raw K "is_kind" qN .none)(r216:Raw K "is_kind_within" pI .none)(r2:Raw K "is_worth" s2 .none)(r3:Raw K "is_number" s3 .none)(r226:Raw K "is_name" qP .none)(r227:Raw K "is_tree" nD .none)(r228:Raw K "may_stand_ahead" rl .none)(r175:Raw K "parts_start" oN .none)(r176:Raw K "parts" pP .none)(r233:Raw K "binding" pL .none)(r253:Raw K "places" nE .none)(r254:Raw K "add_places" nB .none)(r255:Raw K "is_program" pS .none)(r252:Raw K "are_heads" ov .none)(r241:Raw K "is_head" pA .none)(r242:Raw K "names_of" rB .none)(r243:Raw K "binds_well" qQ .none)(r171:Raw K "_law_kind" oQ .none)(r220:Raw K "_law_leaf" oP .none)(r229:Raw K "_law_tree" pO .none)(r244:Raw K "_law_start" qU .none)(r245:Raw K "_law_many" nQ .none)(r246:Raw K "_law_deep" ro .none)(r247:Raw K "_law_clear" q0 .none)(r248:Raw K "_law_heads" qS .none)(r249:Raw K "_law_great" qK .none)(r256:Raw K "_law_amiss" pG .none)(r0:Raw K "law" s0 .none)(g0:∃ t,a1d K mainGlobals "DEEPEST_kinds"=some (some (.int 5 t)))(g1:∃ t,a1d K mainGlobals "DEEPEST_programs"=some (some (.int 20 t)))(g2:∃ t,a1d K mainGlobals "GREATEST"=some (some (.int 1000000000000000000 t)))(g3:∃ t,a1d K mainGlobals "LONGEST_NAME"=some (some (.int 8 t)))(g4:∃ t,a1d K mainGlobals "MOST_HEADS"=some (some (.int 6 t)))(g5:∃ t,a1d K mainGlobals "MOST_PIECES"=some (some (.int 200 t)))(q_AHEAD:∃ T,TabRaw K w "AHEAD" T/\T.map a19=keys_AHEAD/\CstL K tab_AHEAD T)(q_BINDING:∃ T,TabRaw K w "BINDING" T/\CstL K tab_BINDING T)(q_PARTS:∃ T,TabRaw K w "PARTS" T/\T.map a19=keys_PARTS/\CstL K tab_PARTS T)(q_WITHIN:∃ T,TabRaw K w "WITHIN" T/\T.map a19=keys_WITHIN/\CstL K tab_WITHIN T)(tx:xp K ["isinstance","int","tuple","list","bool","sum","len","all","zip","range","enumerate","any","max","min","sorted","str","repr","abs","dict","set","reversed"]) :
  ∃ fd:FuncData,(∀ (s:Shared) (v:Value),BindsTo s fd ⟨[v],[]⟩ [("script",v)])/\∀ base:Heap,K.In base->base.Ns mainGlobals mg->dG l.prog w K mg base CX0 40 fa fd ["script"] (spS K (Cl 40) 0 []):=by
 have d215:Df K mg "is_kind" qN ["thing"]:=aX X G r215 fun _ _ _ _ _ _ us hl=>match us,hl with | [_],_=>rfl
 have d216:Df K mg "is_kind_within" pI ["thing","depth"]:=aX X G r216 fun _ _ _ _ _ _ us hl=>match us,hl with | [_,_],_=>rfl
 have d2:Df K mg "is_worth" s2 ["kind","thing"]:=aX X G r2 fun _ _ _ _ _ _ us hl=>match us,hl with | [_,_],_=>rfl
 have d3:Df K mg "is_number" s3 ["thing"]:=aX X G r3 fun _ _ _ _ _ _ us hl=>match us,hl with | [_],_=>rfl
 have d226:Df K mg "is_name" qP ["thing"]:=aX X G r226 fun _ _ _ _ _ _ us hl=>match us,hl with | [_],_=>rfl
 have d227:Df K mg "is_tree" nD ["thing"]:=aX X G r227 fun _ _ _ _ _ _ us hl=>match us,hl with | [_],_=>rfl
 have d228:Df K mg "may_stand_ahead" rl ["what","thing"]:=aX X G r228 fun _ _ _ _ _ _ us hl=>match us,hl with | [_,_],_=>rfl
 have d175:Df K mg "parts_start" oN ["sign"]:=aX X G r175 fun _ _ _ _ _ _ us hl=>match us,hl with | [_],_=>rfl
 have d176:Df K mg "parts" pP ["tree"]:=aX X G r176 fun _ _ _ _ _ _ us hl=>match us,hl with | [_],_=>rfl
 have d233:Df K mg "binding" pL ["tree"]:=aX X G r233 fun _ _ _ _ _ _ us hl=>match us,hl with | [_],_=>rfl
 have d253:Df K mg "places" nE ["tree"]:=aX X G r253 fun _ _ _ _ _ _ us hl=>match us,hl with | [_],_=>rfl
 have d254:Df K mg "add_places" nB ["tree","place","told"]:=aX X G r254 fun _ _ _ _ _ _ us hl=>match us,hl with | [_,_,_],_=>rfl
 have d255:Df K mg "is_program" pS ["thing"]:=aX X G r255 fun _ _ _ _ _ _ us hl=>match us,hl with | [_],_=>rfl
 have d252:Df K mg "are_heads" ov ["thing"]:=aX X G r252 fun _ _ _ _ _ _ us hl=>match us,hl with | [_],_=>rfl
 have d241:Df K mg "is_head" pA ["thing"]:=aX X G r241 fun _ _ _ _ _ _ us hl=>match us,hl with | [_],_=>rfl
 have d242:Df K mg "names_of" rB ["heads"]:=aX X G r242 fun _ _ _ _ _ _ us hl=>match us,hl with | [_],_=>rfl
 have d243:Df K mg "binds_well" qQ ["tree","bound"]:=aX X G r243 fun _ _ _ _ _ _ us hl=>match us,hl with | [_,_],_=>rfl
 have d171:Df K mg "_law_kind" oQ ["cell","left"]:=aX X G r171 fun _ _ _ _ _ _ us hl=>match us,hl with | [_,_],_=>rfl
 have d220:Df K mg "_law_leaf" oP ["cell"]:=aX X G r220 fun _ _ _ _ _ _ us hl=>match us,hl with | [_],_=>rfl
 have d229:Df K mg "_law_tree" pO ["cells","left"]:=aX X G r229 fun _ _ _ _ _ _ us hl=>match us,hl with | [_,_],_=>rfl
 have d244:Df K mg "_law_start" qU ["tree"]:=aX X G r244 fun _ _ _ _ _ _ us hl=>match us,hl with | [_],_=>rfl
 have d245:Df K mg "_law_many" nQ ["tree"]:=aX X G r245 fun _ _ _ _ _ _ us hl=>match us,hl with | [_],_=>rfl
 have d246:Df K mg "_law_deep" ro ["tree"]:=aX X G r246 fun _ _ _ _ _ _ us hl=>match us,hl with | [_],_=>rfl
 have d247:Df K mg "_law_clear" q0 ["tree","outer"]:=aX X G r247 fun _ _ _ _ _ _ us hl=>match us,hl with | [_,_],_=>rfl
 have d248:Df K mg "_law_heads" qS ["script"]:=aX X G r248 fun _ _ _ _ _ _ us hl=>match us,hl with | [_],_=>rfl
 have d249:Df K mg "_law_great" qK ["tree","cell"]:=aX X G r249 fun _ _ _ _ _ _ us hl=>match us,hl with | [_,_],_=>rfl
 have d256:Df K mg "_law_amiss" pG ["program","cell"]:=aX X G r256 fun _ _ _ _ _ _ us hl=>match us,hl with | [_,_],_=>rfl
 have T:=yx X G tx
 obtain ⟨_,q_AHEAD,qk_AHEAD,qc_AHEAD⟩:=q_AHEAD
 obtain ⟨_,q_BINDING,qc_BINDING⟩:=q_BINDING
 obtain ⟨_,q_PARTS,qk_PARTS,qc_PARTS⟩:=q_PARTS
 obtain ⟨_,q_WITHIN,qk_WITHIN,qc_WITHIN⟩:=q_WITHIN
 have Gm:Glb K w mg:=⟨(let ⟨t,z⟩:=g0; ⟨t,a1e X G z⟩),(let ⟨t,z⟩:=g1; ⟨t,a1e X G z⟩),(let ⟨t,z⟩:=g2; ⟨t,a1e X G z⟩),(let ⟨t,z⟩:=g3; ⟨t,a1e X G z⟩),(let ⟨t,z⟩:=g4; ⟨t,a1e X G z⟩),(let ⟨t,z⟩:=g5; ⟨t,a1e X G z⟩),(gZ X G q_AHEAD qk_AHEAD),(eE X G q_AHEAD qc_AHEAD),(eE X G q_BINDING qc_BINDING),(gZ X G q_PARTS qk_PARTS),(eE X G q_PARTS qc_PARTS),(gZ X G q_WITHIN qk_WITHIN),(eE X G q_WITHIN qc_WITHIN)⟩
 exact tf X G hfa r0 (fun _ _ _ _ _ _ _ _=>.of_eq rfl) fun f fd F base=>Fun.okM F S0 rfl (by decide) (by decide) (by decide) (fun _ _ _ _ _ _ h=>D0 (all d215 d216 d2 d3 d226 d227 d228 d175 d176 d233 d253 d254 d255 d252 d241 d242 d243 d171 d220 d229 d244 d245 d246 d247 d248 d249 d256  T Gm 39) T Gm h) fun _=>rfl
end A11

set_option maxHeartbeats 0
namespace H11
open PySem PySem.W TP
noncomputable abbrev pr:Program:=PySem.Challenge.pw_broadrow_k11_programs_known
noncomputable def tn (i:Nat):Stmt:=pr.main.body.getD i (.Pass p0)
noncomputable def rc:List Rc:=[.m,
.c,
.x "WITHIN" 203 (.ref 15) (fun P=>[di [en P "num" 191 (.int (0) 192),en P "truth" 193 (.int (0) 194),en P "pair" 195 (.int (2) 196),en P "row" 197 (.int (1) 198)] 4]) [] 16 204,
.d,
.d,
.m,
.c,
.c,
.d,
.d,
.d,
.d,
.m,
.x "PARTS" 350 (.ref 54) (fun P=>[di [en P "num" 254 (.int (0) 255),en P "yes" 257 (.int (0) 258),en P "no" 260 (.int (0) 261),en P "name" 263 (.int (0) 264),en P "none" 266 (.int (0) 267),en P "not" 269 (.int (1) 270),en P "first" 272 (.int (1) 273),en P "second" 275 (.int (1) 276),en P "one" 278 (.int (1) 279),en P "upto" 281 (.int (1) 282),en P "long" 284 (.int (1) 285),en P "sum" 287 (.int (1) 288),en P "sums" 290 (.int (1) 291),en P "most" 293 (.int (1) 294),en P "flat" 296 (.int (1) 297),en P "add" 299 (.int (2) 300),en P "sub" 302 (.int (2) 303),en P "mul" 305 (.int (2) 306),en P "div" 307 (.int (2) 308),en P "rest" 309 (.int (2) 310),en P "less" 311 (.int (2) 312),en P "same" 313 (.int (2) 314),en P "both" 315 (.int (2) 316),en P "pair" 317 (.int (2) 318),en P "pick" 319 (.int (2) 320),en P "join" 321 (.int (2) 322),en P "keep" 323 (.int (2) 324),en P "cut" 325 (.int (2) 326),en P "let" 327 (.int (2) 328),en P "if" 329 (.int (3) 330),en P "each" 331 (.int (2) 332),en P "times" 333 (.int (3) 334)] 32,di [en P "mul" 305 (.int (2) 306),en P "div" 307 (.int (2) 308),en P "rest" 309 (.int (2) 310),en P "less" 311 (.int (2) 312),en P "same" 313 (.int (2) 314),en P "both" 315 (.int (2) 316),en P "pair" 317 (.int (2) 318),en P "pick" 319 (.int (2) 320),en P "join" 321 (.int (2) 322),en P "keep" 323 (.int (2) 324),en P "cut" 325 (.int (2) 326),en P "let" 327 (.int (2) 328),en P "if" 329 (.int (3) 330),en P "each" 331 (.int (2) 332),en P "times" 333 (.int (3) 334)] 15]) [] 56 351,
.x "AHEAD" 369 (.ref 56) (fun P=>[di [en P "num" 351 (.str "number" 352),en P "name" 353 (.str "name" 354),en P "none" 355 (.str "kind" 356),en P "let" 357 (.str "name" 358),en P "each" 359 (.str "name" 360),en P "times" 361 (.str "name" 362)] 6]) [] 57 370,
.x "BINDING" 379 (.ref 57) (fun P=>[di [en P "let" 370 (.int (1) 371),en P "each" 372 (.int (1) 373),en P "times" 374 (.int (2) 375)] 3]) [] 58 380,
.c,
.d,
.d,
.d,
.d,
.d,
.d,
.d,
.d,
.m,
.c,
.c,
.c,
.d,
.d,
.d,
.d,
.d,
.m,
.d,
.d,
.d,
.d,
.d,
.d,
.d,
.d,
.d,
.d,
.d]
theorem c0 (w:World):Cut pr rc 0 15 187 p0 2 19 15 191 ⟨2,0,2,13⟩ w:=fun o=>by kernel_rfl
theorem c2 (w:World):Cut pr rc 2 15 191 ⟨2,0,2,13⟩ 1 71 16 204 ⟨3,0,3,6⟩ w:=byRow2 (P:=Cut pr rc 2 15 191 ⟨2,0,2,13⟩ 1 71 16 204 ⟨3,0,3,6⟩) "special-get-raises" (fun w o=>by kernel_rfl) (fun w o=>by kernel_rfl) w
theorem c3 (w:World):Cut pr rc 3 16 204 ⟨3,0,3,6⟩ 10 207 54 254 ⟨37,0,37,8⟩ w:=fun o=>by kernel_rfl
theorem c13 (w:World):Cut pr rc 13 54 254 ⟨37,0,37,8⟩ 1 588 56 351 ⟨38,0,38,5⟩ w:=byRow2 (P:=Cut pr rc 13 54 254 ⟨37,0,37,8⟩ 1 588 56 351 ⟨38,0,38,5⟩) "special-get-raises" (fun w o=>by kernel_rfl) (fun w o=>by kernel_rfl) w
theorem c14 (w:World):Cut pr rc 14 56 351 ⟨38,0,38,5⟩ 1 101 57 370 ⟨39,0,39,5⟩ w:=byRow2 (P:=Cut pr rc 14 56 351 ⟨38,0,38,5⟩ 1 101 57 370 ⟨39,0,39,5⟩) "special-get-raises" (fun w o=>by kernel_rfl) (fun w o=>by kernel_rfl) w
theorem c15 (w:World):Cut pr rc 15 57 370 ⟨39,0,39,5⟩ 1 56 58 380 ⟨40,0,40,7⟩ w:=byRow2 (P:=Cut pr rc 15 57 370 ⟨39,0,39,5⟩ 1 56 58 380 ⟨40,0,40,7⟩) "special-get-raises" (fun w o=>by kernel_rfl) (fun w o=>by kernel_rfl) w
theorem c16 (w:World):Cut pr rc 16 58 380 ⟨40,0,40,7⟩ 28 700 196 569 ⟨164,0,174,15⟩ w:=fun o=>by kernel_rfl
theorem c44 (w:World):Cut pr rc 44 196 569 ⟨164,0,174,15⟩ 2 53 206 581 ⟨183,0,196,15⟩ w:=fun o=>by kernel_rfl
theorem ch:Ch pr rc 46 206 581 0 15 187 p0 (19+(71+(207+(588+(101+(56+(700+(53+(2))))))))):=cm c0 ( cm c2 ( cm c3 ( cm c13 ( cm c14 ( cm c15 ( cm c16 ( cm c44 (zL (by kernel_rfl)))))))))
noncomputable def q:Program:=view pr [45]
noncomputable def lo:List Str:=(["DEEPEST_kinds","WITHIN","is_kind","is_kind_within","GREATEST","LONGEST","is_worth","is_number","is_pair","is_row","PARTS","AHEAD","BINDING","LONGEST_NAME","is_name","is_tree","may_stand_ahead","parts_start","parts","binding","places","add_places","MOST_HEADS","MOST_PIECES","DEEPEST_programs","is_program","are_heads","is_head","names_of","binds_well","_law_kind","_law_leaf","_law_tree","_law_start","_law_many","_law_deep","_law_clear","_law_heads","_law_great","_law_amiss"]:List String).map Str.ofString
noncomputable def as:List Addr:=[3,15,21,22,26,27,33,34,40,41,47,48,52,53,54,56,57,61,62,66,67,73,74,80,81,87,88,94,95,101,102,108,109,113,114,118,119,125,126,130,131,137,138,144,145,151,152,158,159,165,166,170,171,175,176,182,183,189,190,194,195,199,200,204,205]
noncomputable def K:Params->Frag:=kK pr rc 46 as
noncomputable def hk:Hook:=hkk pr rc 46 206
noncomputable abbrev Xt (s:Shared):Bool:=xlAt q [] s&&recOk (RowW.records (OpenRow.toRowW (OpenLaw.row PySem.Challenge.rw_broadrow_k11_programs_known))) s
theorem kin (w:World)(h:Heap)(Y:hk.says w h):(K w.params).In h:=Ej (by kernel_rfl) (by kernel_rfl) Y
theorem lk (w:World):(fun o=>((staticsOk (importedModules pr.main.body) (boot_heap w.params) (hp pr rc 46 206 w.params)&&namesBound pr (hp pr rc 46 206 w.params)&&gensDone ⟨hp pr rc 46 206 w.params,#[],{},581,o⟩&&laidKept (boot_heap w.params) (hp pr rc 46 206 w.params)),openSeen q lo (importedModules pr.main.body) Xt true ⟨hp pr rc 46 206 w.params,#[],{},581,o⟩,Hook.obs hk ⟨hp pr rc 46 206 w.params,#[],{},581,o⟩))=fun _=>(true,openGood q lo,Hook.val hk w):=by kernel_rfl
theorem e1:opening pr=plainProg pr.main.scope.names:=by kernel_rfl
theorem e2:behindTheImports pr=pr.main.body:=by kernel_rfl
theorem e3 (s:Shared):fenceModules? pr s=some s:=by kernel_rfl
theorem pre (w:World)(o:OsState):topGo treeTable pr w 11 an 12 ⟨boot_heap w.params,a21 [],boot_drawn,boot_toks,o⟩ (topStub pr)=some ((sT pr rc w.params 0 15 187 o).abs,⟨denote treeTable (cE pr),cE pr,p0,B0⟩):=by kernel_rfl
theorem blk (w:World)(o:OsState):segRun treeTable pr w 11 an 1 1 (sT pr rc w.params 0 15 187 o).abs (blockOf (behindTheImports pr) (ev pr) (cE pr) p0 B0)=some (.next,(sT pr rc w.params 0 15 187 o).abs,cE pr,p0):=by kernel_rfl
theorem left:LeftO pr q lo Xt (Hook.obs hk) (Hook.val hk) 3700:=vg e1 (by kernel_rfl) e3 e2 rJ pre blk ch (by kernel_rfl) lk
end H11

set_option maxHeartbeats 4000000
open PySem PySem.W PyProof.Rows
set_option maxRecDepth 100000 in
set_option maxHeartbeats 0 in
theorem PySem.Challenge.cw_broadrow_k11_programs_known_holds : PySem.Challenge.rw_broadrow_k11_programs_known.Holds := by
 w_on; o_law
 refine holds_open (q:=H11.q) (loose:=H11.lo) (Xt:=H11.Xt) (XP:=XL H11.q []) (Yf:=Hook.obs H11.hk) (Ya:=Hook.val H11.hk) (YP:=Hook.says H11.hk) (N:=3700) (d:=TP.drec (H11.tn 45)) (kwd:=[]) H11.left (Hook.of H11.hk) (Hook.keeps H11.hk) (fun s e=>xl_of s (a0H.mp e).1) XL.keeps (by kernel_rfl) (by kernel_rfl) (by kernel_rfl) (fun s e=>recFacts_of (a0H.mp e).2) (by rfl) (by first | assumption | decide +kernel) (by decide +kernel) ⟨rfl,rfl,rfl,rfl,rfl,by decide +kernel⟩ ?hw ?hc
 case hw=>w_witness2
 refine MR.walkX (sx:="script") (l:=PySem.Challenge.rw_broadrow_k11_programs_known) (k:=40) (C:=A11.Cl 40) (ix:=0) (K:=H11.K) A11.pure_law rfl (by kernel_rfl) ⟨rfl,by decide,by decide,rfl⟩ H11.kin ?F
 case F =>
  intro w mg fa h KX G hmg
  refine' A11.all_mk KX G hmg ?zr215 ?zr216 ?zr2 ?zr3 ?zr226 ?zr227 ?zr228 ?zr175 ?zr176 ?zr233 ?zr253 ?zr254 ?zr255 ?zr252 ?zr241 ?zr242 ?zr243 ?zr171 ?zr220 ?zr229 ?zr244 ?zr245 ?zr246 ?zr247 ?zr248 ?zr249 ?zr256 ?zr0 ?zg0 ?zg1 ?zg2 ?zg3 ?zg4 ?zg5 ?zq_AHEAD ?zq_BINDING ?zq_PARTS ?zq_WITHIN ?ztx
  case zg0=>exact ⟨TP.tkO (nsIn (H11.K w.params) mainGlobals "DEEPEST_kinds"),by kernel_rfl⟩
  case zg1=>exact ⟨TP.tkO (nsIn (H11.K w.params) mainGlobals "DEEPEST_programs"),by kernel_rfl⟩
  case zg2=>exact ⟨TP.tkO (nsIn (H11.K w.params) mainGlobals "GREATEST"),by kernel_rfl⟩
  case zg3=>exact ⟨TP.tkO (nsIn (H11.K w.params) mainGlobals "LONGEST_NAME"),by kernel_rfl⟩
  case zg4=>exact ⟨TP.tkO (nsIn (H11.K w.params) mainGlobals "MOST_HEADS"),by kernel_rfl⟩
  case zg5=>exact ⟨TP.tkO (nsIn (H11.K w.params) mainGlobals "MOST_PIECES"),by kernel_rfl⟩
  case zq_AHEAD=>exact ⟨_,TP.tab_mk (by kernel_rfl) (by kernel_rfl) (by kernel_rfl) (by kernel_rfl),by kernel_rfl,TP.cst_of (n:=9) (by kernel_rfl)⟩
  case zq_BINDING=>exact ⟨_,TP.tab_mk (by kernel_rfl) (by kernel_rfl) (by kernel_rfl) (by kernel_rfl),TP.cst_of (n:=9) (by kernel_rfl)⟩
  case zq_PARTS=>exact ⟨_,TP.tab_mk (by kernel_rfl) (by kernel_rfl) (by kernel_rfl) (by kernel_rfl),by kernel_rfl,TP.cst_of (n:=9) (by kernel_rfl)⟩
  case zq_WITHIN=>exact ⟨_,TP.tab_mk (by kernel_rfl) (by kernel_rfl) (by kernel_rfl) (by kernel_rfl),by kernel_rfl,TP.cst_of (n:=9) (by kernel_rfl)⟩
  case ztx=>refine' ⟨?_,?_,?_,?_,?_,?_,?_,?_,?_,?_,?_,?_,?_,?_,?_,?_,?_,?_,?_,?_,?_,trivial⟩<;>kernel_rfl
  all_goals exact TP.raw_mk (by kernel_rfl) (by kernel_rfl) (by kernel_rfl) (by kernel_rfl)
