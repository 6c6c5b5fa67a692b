import PyProof.Rows.All
import Wide.All
import OpenK.AllK
import Wide.FinOn
import Lean
import PyProof.EqAt
import PyProof.EqKinds
import PyProof.TupleCall
import PySem.Challenge.RW_lazyhoist_k21_whole_runs_row_by_row
set_option Elab.async false
set_option linter.all false
set_option maxRecDepth 100000
def aw:=@PySem.wpAny_bind
def aC:=@Option.bind_some
def aO:=@PySem.wpAny_pure
def aR:=@Nat.le_refl
def a6:=@Bool.false_ne_true
def a7:=@List.length_map
def bt:=@List.getElem?_eq_some_iff
def bu:=@of_decide_eq_true
def bx:=@PySem.Heap.lt_size
def bE:=@List.map_cons
def bP:=@List.getElem?_eq_getElem
def bS:=@Nat.le_trans
def cf:=@congrArg
def cg:=@List.length_append
def cA:=@PySem.Heap.get?_push_of_some
def cB:=@List.length_cons
def cC:=@PySem.SeqAt.room_here
def cG:=@List.getElem?_map
def cK:=@PySem.Paired.length
def cL:=@Nat.ne_of_lt
def cM:=@List.mem_cons_self
def cP:=@Int.emod_nonneg
def cT:=@List.mem_cons_of_mem
def cU:=@List.getElem?_set_ne
def c9:=@Option.some.inj
def de:=@List.mem_map
def dh:=@List.map_append
def di:=@Int.emod_lt_of_pos
def dI:=@Nat.lt_of_lt_of_le
def dJ:=@Nat.lt_of_le_of_lt
def eU:=@PySem.Heap.get?_push_size
def fA:=@PySem.wpAny_mono
def fB:=@List.mem_of_getElem?
def fC:=@List.isEmpty_iff
def fJ:=@decide_eq_false
def fK:=@List.mem_cons
def fL:=@decide_eq_true
def fX:=@List.mem_append
def fY:=@List.size_toArray
def gx:=@Bool.and_eq_true
def hV:=@List.length_set
def hX:=@Nat.lt_or_ge
def iP:=@PySem.wpAny_truthy_bool
def iQ:=@List.mem_append_right
def iR:=@List.nodup_cons
def jD:=@Nat.lt_irrefl
def jE:=@Ne.symm
def jF:=@List.all_cons
def jG:=@List.all_eq_true
def jH:=@List.getElem?_eq_none
def kH:=@List.length_take
def kJ:=@PySem.wpAny_newObj_type
def kK:=@List.lookup_cons
def lS:=@PySem.wpAny_holding
def lT:=@PySem.mem_of_lookup
def lU:=@List.getElem?_append_left
def lV:=@List.drop_eq_getElem_cons
def lW:=@PySem.W.kia_one
def lX:=@List.getElem_map
def ny:=@PySem.wpAny_call_entry
def nA:=@PySem.wpAny_passesOwn
def nB:=@List.append_nil
def nC:=@Nat.zero_le
def pJ:=@PySem.SeqAt.EqAt.same
def pK:=@PyProof.Rows.slot_tuple_getitem
def pL:=@PySem.call_meetsIn
def pM:=@Nat.le_of_eq
def pN:=@List.getD_eq_getElem?_getD
def pO:=@List.getElem_mem
def pP:=@List.cons.inj
def pQ:=@List.getElem?_mapIdx
def r6:=@List.mem_range
def r9:=@List.mem_append_left
def sf:=@List.any_cons
def sj:=@PySem.Calls.callWith_builtin
def sr:=@List.length_nil
def su:=@PySem.tupleKind_room_in1
def sv:=@PySem.F.slot_dict_keyiterator_next
def sx:=@Classical.choose_spec
def sC:=@PySem.W.mg_of
def wG:=@PySem.typeIs_none
def wH:=@PySem.F.slot_NoneType_hash
def wI:=@PySem.wpAny_execs_nil
def wJ:=@PySem.wpAny_standAt
def wK:=@PyProof.Rows.callWith_type1
def wL:=@Bool.eq_iff_iff
def wM:=@PySem.sizeLine_eq
def wN:=@PySem.Calls.spliced_cons
def wO:=@PySem.concat_meets
def wQ:=@PySem.wpAny_callSpecial?_slot
def wR:=@List.replicate_succ
def wU:=@List.flatten_cons
def wV:=@PySem.wpAny_typeNameOfWhole_keyiter
def wW:=@PySem.wpAny_typeNameOf_keyiter
def wX:=@PySem.SeqAt.room_in
def wY:=@PySem.wpAny_getItem_str_slice
def wZ:=@PySem.post_val_or_str
def w4:=@PySem.Txt.slice_le
def w5:=@List.eq_of_mem_replicate
def w6:=@List.map_map
def w9:=@List.nodup_append
def As:=@PySem.wpAny_specialOf
def Au:=@PySem.SeqAt.EqAt.int_str
def Av:=@PySem.SeqAt.EqAt.int_none
def Aw:=@PySem.SeqAt.EqAt.str_int
def Ax:=@PySem.SeqAt.EqAt.str_none
def Ay:=@PySem.SeqAt.EqAt.none_int
def Az:=@PySem.SeqAt.EqAt.none_str
def AA:=@List.filterMap_cons
def AF:=@PySem.wpAny_Call_Name_kw
def AG:=@List.of_mem_zip
def AH:=@List.getElem?_replicate
def AI:=@PySem.noFill_tuple_add
def AJ:=@PySem.F.slot_tuple_add
def AK:=@PySem.F.entry_tuple_add
def AO:=@PySem.F.args_tuple_add_2
def AQ:=@Array.length_toList
def AU:=@List.map_nil
def AV:=@Option.isSome_map
def AW:=@PySem.F.slot_dict_get
def AX:=@PySem.F.plainAttrs_dict
def AY:=@PySem.wpAny_dictEntries
def AZ:=@PySem.wpAny_dictEpoch
def A0:=@Nat.not_lt_zero
def A1:=@List.drop_length
def A2:=@Array.getElem?_toList
def Ja:=@PySem.F.entry_dict_get
def Jb:=@PySem.F.args_dict_get_3
def Jc:=@PySem.F.entry_dict_keyiterator_next
def Jd:=@PySem.F.args_dict_keyiterator_next_1
def Je:=@Array.getElem?_eq_some_iff
def Jf:=@List.getElem?_cons_zero
def Jg:=@List.mem_of_find?_eq_some
def Jh:=@List.getElem?_eq_none_iff
namespace L2
open PySem PySem.Spec PyProof.Rows
inductive Key where|inl (i:Int)|inr (x:Str)|non
 deriving DecidableEq
noncomputable def GK:Value→Bool
 |.none=>true
 |_=>false
theorem Nq{v:Value}(h:GK v=true):v=.none:=by cases v<;>first|rfl|cases h
noncomputable def oM:Key→Value→Bool
 |.inl k,v=>Value.isInt k v
 |.inr x,v=>Value.isStrOf x v
 |.non,v=>GK v
noncomputable def Vm(w:World):Key→Int
 |.inl k=>hashInt k
 |.inr x=>hashStr w x
 |.non=>4238894112
theorem i6:∀{k:Key}{v:Value},oM k v=true→(∃i t,k=.inl i∧v=Value.int i t)∨(∃x t,k=.inr x∧v=Value.str x t)∨(k=.non∧v=.none)
 |.inl i,v,h=>by
  obtain⟨t,e⟩:=Value.isInt_shape (k:=i) (v:=v) h
  exact .inl ⟨i,t,rfl,e⟩
 |.inr x,v,h=>by
  obtain⟨t,e⟩:=Value.isStrOf_shape (x:=x) (v:=v) h
  exact .inr (.inl ⟨x,t,rfl,e⟩)
 |.non,v,h=>.inr (.inr ⟨rfl,Nq h⟩)
theorem Mh(i:Int)(t:Tok):oM (.inl i) (.int i t)=true:=by simp[oM,Value.isInt]
theorem Mi(x:Str)(t:Tok):oM (.inr x) (.str x t)=true:=by simp[oM,Value.isStrOf]
theorem Ra(a b:Int):decide ((Key.inl a:Key)=.inl b)=(a==b):=by
 by_cases e:a=b
 ·subst e;simp
 ·rw[fJ fun q=>e (Key.inl.inj q)]
  exact(beq_eq_false_iff_ne.mpr e).symm
theorem Rb(a b:Str):decide ((Key.inr a:Key)=.inr b)=decide (a=b):=by
 by_cases e:a=b
 ·subst e;simp
 ·rw[fJ fun q=>e (Key.inr.inj q),fJ e]
theorem Mj{prog:Program}{w:World}{A:Around}{E:Value→Shared→Prop}{s:Shared}{Q:Int→Shared→Prop}(h:Q 4238894112 { s with toks:=s.toks+1 }):wpAny (model prog w) A (PySem.pyHash .none) Q E s:=by
 unfold PySem.pyHash
 have hv:[Value.none].any Value.onHeap=false:=rfl
 refine aw ?_
 rw[cRoomFor,if_neg (by rw[hv];exact a6)];refine aO ?_
 refine aw (As (wG s) wH.lookup ?_)
 show wpAny _ _ (if (some (Value.builtin "NoneType.__hash__")==some Value.none)=true then _ else _) Q E s
 rw[if_neg (by rw[beq_builtin_none];exact a6)]
 refine aw (As (wG s) wH.lookup ?_)
 show wpAny _ _ (callSpecialIfBoundUnlessNone? .none "__hash__" _ >>= _) Q E s
 refine aw (wpAny_callSpecialIfBoundUnlessNone?_slot (wG s) wH
  (ny wH (wG s) PySem.F.entry_NoneType_hash
   (show wpAny _ _ (do ret (←mkInt 4238894112)) _ _ s from wpAny_ret_mkInt ?_) (PySem.F.args_NoneType_hash_1 _)))
 exact aO h
noncomputable def cv(prog:Program)(w:World):PySem.KeyKind prog w Key where
 is:=oM
 hash:=Vm w
 inj:=fun v a b ha hb=>by
  rcases i6 ha with⟨i,t,rfl,rfl⟩|⟨x,t,rfl,rfl⟩|⟨rfl,rfl⟩<;>rcases i6 hb with⟨j,u,rfl,e⟩|⟨y,u,rfl,e⟩|⟨rfl,e⟩<;>first|rfl | (injection e with e1 _;rw[e1];done) | (cases e;done)
 byValue:=fun k v h=>by
  rcases i6 h with⟨i,t,rfl,rfl⟩|⟨x,t,rfl,rfl⟩|⟨rfl,rfl⟩<;>rfl
 pyHash:=fun hv h=>by
  rcases i6 hv with⟨i,t,rfl,rfl⟩|⟨x,t,rfl,rfl⟩|⟨rfl,rfl⟩
  ·exact wpAny_pyHash_int h
  ·exact wpAny_pyHash_str h
  ·exact Mj h
 eqBool:=fun hu hv h=>by
  rcases i6 hu with⟨i,t,rfl,rfl⟩|⟨x,t,rfl,rfl⟩|⟨rfl,rfl⟩
  ·rcases i6 hv with⟨j,u,rfl,rfl⟩|⟨y,u,rfl,rfl⟩|⟨rfl,rfl⟩
   ·rw[Ra]at h;exact wpAny_eqBool_int h
   ·exact Au i t y u _ _ _ _ h
   ·exact Av i t _ _ _ _ h
  ·rcases i6 hv with⟨j,u,rfl,rfl⟩|⟨y,u,rfl,rfl⟩|⟨rfl,rfl⟩
   ·exact Aw x t j u _ _ _ _ h
   ·rw[Rb]at h;exact wpAny_eqBool_str h
   ·exact Ax x t _ _ _ _ h
  ·rcases i6 hv with⟨j,u,rfl,rfl⟩|⟨y,u,rfl,rfl⟩|⟨rfl,rfl⟩
   ·exact Ay j u _ _ _ _ h
   ·exact Az y u _ _ _ _ h
   ·exact pJ .none _ _ _ _ h
 «strs»:=fun k x t v h=>by
  rcases i6 h with⟨i,u,rfl,e⟩|⟨y,u,rfl,e⟩|⟨rfl,e⟩
  ·exact nomatch e
  ·injection e with e1 _
   subst e1
   cases v<;>rfl
  ·exact nomatch e
theorem Lp(prog:Program)(w:World)(i:Int)(t:Tok):(cv prog w).is (.inl i) (.int i t)=true:=Mh i t
theorem Lr(prog:Program)(w:World)(x:Str)(t:Tok):(cv prog w).is (.inr x) (.str x t)=true:=Mi x t
theorem Ls(prog:Program)(w:World):(cv prog w).is .non .none=true:=rfl
inductive V where
 |non|bl (b:Bool)|int (i:Int)|str (x:Str)|fZ (b:Array UInt8)|sE (b:UInt64)|ref (a:Addr)|ty (n:String)
 deriving DecidableEq
noncomputable def RelV:V→Value→Prop
 |.non,u=>u=Value.none
 |.bl b,u=>u=Value.bool b
 |.int i,u=>∃t,u=Value.int i t
 |.str x,u=>∃t,u=Value.str x t
 |.fZ b,u=>∃t,u=Value.bytes b t
 |.sE b,u=>∃t,u=Value.float b t
 |.ref a,u=>u=Value.ref a
 |.ty n,u=>u=Value.type n
abbrev Vals:List V→List Value→Prop:=Paired RelV
theorem Vals.length{xs:List V}{us:List Value}(r:Vals xs us):xs.length=us.length:=cK r
theorem Vals.get:∀{xs:List V}{us:List Value}{i:Nat}{x:V},Vals xs us→xs[i]?=some x→∃u,us[i]?=some u∧RelV x u
 |_,_,_,_,.nil,e=>by simp at e
 |_,_,0,_,.cons r _,e=>by simp at e;subst e;exact⟨_,rfl,r⟩
 |_,_,i+1,x,.cons _ t,e=>by
  obtain⟨u,h1,h2⟩:=Vals.get (i:=i) (x:=x) t (by simpa using e)
  exact⟨u,by simpa using h1,h2⟩
theorem Vals.set{x:V}{u:Value}(r:RelV x u):∀{xs:List V}{us:List Value} (i:Nat),Vals xs us→Vals (xs.set i x) (us.set i u)
 |_,_,_,.nil=>.nil
 |_,_,0,.cons _ t=>.cons r t
 |_,_,i+1,.cons q t=>.cons q (Vals.set r i t)
theorem Vals.append:∀{xs ys:List V}{us ws:List Value},Vals xs us→Vals ys ws→Vals (xs++ys) (us++ws)
 |_,_,_,_,.nil,s=>s
 |_,_,_,_,.cons r t,s=>.cons r (Vals.append t s)
theorem Vals.take:∀{xs:List V}{us:List Value} (n:Nat),Vals xs us→Vals (xs.take n) (us.take n)
 |_,_,0,_=>.nil
 |_,_,_+1,.nil=>.nil
 |_,_,n+1,.cons r t=>.cons r (Vals.take n t)
theorem Vals.drop:∀{xs:List V}{us:List Value} (n:Nat),Vals xs us→Vals (xs.drop n) (us.drop n)
 |_,_,0,r=>r
 |_,_,_+1,.nil=>.nil
 |_,_,n+1,.cons _ t=>Vals.drop n t
noncomputable def g9:Option V→Option Value→Prop
 |some v,some u=>RelV v u
 |none,none=>True
 |_,_=>False
def KV{κ:Type}:List (κ×V)→List (κ×Value)→Prop:=Paired fun(p:κ×V) (q:κ×Value)=>p.1=q.1∧RelV p.2 q.2
noncomputable def kV:Key→V
 |.inl i=>.int i
 |.inr x=>.str x
 |.non=>.non
inductive HO where
 |lst (xs:List V)
 |tup (xs:List V)
 |dK (kvs:List (Key×V))|dT (kvs:List (List Key×V))
 |set (S:Int→Bool) (n:Nat)
 |ins (C dx:Addr) (fs:List (Str×V))
 |own (x:Addr)
 |xd (fs:List (Str×V))
 |met (f x:Addr)
 |fM (lo hi:Int)
 |aL (o:Obj) (u:HO)
 |kM (ps:Array Value)
 |ext (φ:Heap→Prop)
noncomputable abbrev Hp:=Addr→Option HO
noncomputable def upd(H:Hp)(a:Addr)(o:HO):Hp:=fun b=>if b=a then some o else H b
theorem bf{H:Hp}{a:Addr}{o:HO}:upd H a o a=some o:=by unfold upd;rw[if_pos rfl]
theorem az{H:Hp}{a b:Addr}{o:HO}(h:b≠a):upd H a o b=H b:=by unfold upd;rw[if_neg h]
theorem lF{H:Hp}{a b:Addr}{o u:HO}(h:H a=some o)(h':H b=some u)(d:o≠u):a≠b:=by
 intro e;subst e;rw[h]at h';exact d (c9 h')
theorem eC{H:Hp}{a b:Addr}{o:HO}(h:H a=some o)(h':H b=none):a≠b:=by
 intro e;subst e;rw[h]at h';cases h'
def mW(h:Heap)(a:Addr)(items:Array Value):Prop:=∃o,h.get? a=some o∧o.cls=.type "tuple" ∧ o.dict=none∧∃n,o.data=.seq items n
theorem mW.tup{h:Heap}{a:Addr}{items:Array Value}(q:mW h a items):IsTup h a items:=let ⟨o,h1,h2,_,h3⟩:=q;⟨o,h1,h2,h3⟩
theorem mW.new(h:Heap)(items:Array Value):mW (h.push { cls:=.type "tuple",data:=.seq items }) h.objs.size items:=⟨_,eU _ rfl,rfl,rfl,_,rfl⟩
section
variable (P:Program)(w:World)
noncomputable def bU(H:Hp)(h:Heap)(a:Addr):HO→Prop
 |.lst xs=>xs.length≤sizeLine∧∃(its:List Value) (n:Nat),Vals xs its∧h.get? a=some { cls:=.type "list",data:=.seq its.toArray n }
 |.tup xs=>xs.length≤sizeLine∧∃its:List Value,Vals xs its∧mW h a its.toArray
 |.dK kvs=>kvs.length≤sizeLine∧(a==sysModules)=false∧∃vs,KV kvs vs∧h.DictOf (cv P w) a vs
 |.dT kvs=>kvs.length≤sizeLine∧(a==sysModules)=false∧∃xs:List (List Key×Addr×Value),
  Paired (fun(p:List Key×V) (q:List Key×Addr×Value)=>p.1=q.1∧H q.2.1=some (.tup (p.1.map kV))∧RelV p.2 q.2.2) kvs xs ∧
  ∃o es ep,h.get? a=some o∧o.ExactDict∧o.data=.dict es ep∧es.toList=xs.map (entryOfKey (tupleKind (cv P w)))∧(xs.map (·.1)).Nodup
 |.set S n=>h.SetOf (intKind P w) a S n
 |.ins C dx fs=>H dx=some (.own a)∧fs.length≤1000∧dx≠a∧h.get? a=some (PySem.W.instObj C dx) ∧
  ∃mA,h.Ns1 dx mA∧(∀f,g9 (fs.lookup f) (mA f))∧PySem.Within mA (fs.map (·.1))
 |.own _=>∃o,h.get? a=some o
 |.xd fs=>∃mA,h.Ns1 a mA∧∀f,g9 (fs.lookup f) (mA f)
 |.fM lo hi=>∃t u v,h.get? a=some { cls:=.type "range",data:=.fields #[.int lo t,.int hi u,.int 1 v] }
 |.aL o u=>h.get? a=some o∧bU H h a u
 |.kM ps=>h.get? a=some { cls:=.none,data:=.fields ps }
 |.met f x=>h.get? a=some (PySem.W.methodObj (.ref f) (.ref x))
 |.ext φ=>φ h∧(∃o,h.get? a=some o)∧∀h1 h2:Heap,φ h1→(∀o,h1.get? a=some o→h2.get? a=some o)→φ h2
def cn(H:Hp)(h:Heap):Prop:=∀a o,H a=some o→bU P w H h a o
end
section
variable {P:Program}{w:World}{H H':Hp}{h h':Heap}{a:Addr}{o:HO}
theorem bU.lt(x:bU P w H h a o):a<h.objs.size:=by
 cases o with
 |lst xs=>obtain⟨_,_,_,_,e⟩:=x;exact bx e
 |tup xs=>obtain⟨_,_,_,p⟩:=x;exact p.tup.lt
 |dK kvs=>obtain⟨_,_,_,_,o,_,_,e,_⟩:=x;exact bx e
 |dT kvs=>obtain⟨_,_,_,_,o,_,_,e,_⟩:=x;exact bx e
 |set S n=>obtain⟨o,_,_,_,e,_⟩:=x;exact bx e
 |ins C dx fs=>obtain⟨_,_,_,e,_⟩:=x;exact bx e
 |own y=>obtain⟨_,e⟩:=x;exact bx e
 |xd fs=>obtain⟨_,⟨_,_,_,e,_⟩,_⟩:=x;exact bx e
 |fM lo hi=>obtain⟨_,_,_,e⟩:=x;exact bx e
 |aL ob u=>obtain⟨e,_⟩:=x;exact bx e
 |kM ps=>exact bx (show h.get? a=some _ from x)
 |met f y=>exact bx (show h.get? a=some _ from x)
 |ext φ=>obtain⟨_,⟨_,e⟩,_⟩:=x;exact bx e
theorem Paired.kj{α β:Type}{F G:α→β→Prop}:∀{l₁:List α}{l₂:List β},Paired F l₁ l₂→(∀a b,F a b→G a b)→Paired G l₁ l₂
 |_,_,.nil,_=>.nil
 |_,_,.cons r t,f=>.cons (f _ _ r) (Paired.kj t f)
theorem bU.lM(x:bU P w H h a o)(k:∀b u,(b=a∨H b=some (.own a))→h.get? b=some u→h'.get? b=some u)
  (ho:∀b,H b=some (.own a)→H' b=some (.own a)) (ht:∀b xs,H b=some (.tup xs)→H' b=some (.tup xs)):bU P w H' h' a o:=by
 induction o with
 |lst xs=>obtain⟨z,its,n,r,e⟩:=x;exact⟨z,its,n,r,k _ _ (.inl rfl) e⟩
 |tup xs=>obtain⟨z,its,r,ob,e,c⟩:=x;exact⟨z,its,r,ob,k _ _ (.inl rfl) e,c⟩
 |dK kvs=>obtain⟨z,y,vs,r,ob,es,ep,e,c⟩:=x;exact⟨z,y,vs,r,ob,es,ep,k _ _ (.inl rfl) e,c⟩
 |dT kvs =>
  obtain⟨z,y,xs,r,ob,es,ep,e,c⟩:=x
  exact⟨z,y,xs,Paired.kj r fun p q z=>⟨z.1,ht _ _ z.2.1,z.2.2⟩,ob,es,ep,k _ _ (.inl rfl) e,c⟩
 |set S n=>obtain⟨ob,es,ep,t,e,c⟩:=x;exact⟨ob,es,ep,t,k _ _ (.inl rfl) e,c⟩
 |ins C dx fs =>
  obtain⟨d,z,ne,e,mA,⟨od,es,ep,e2,c⟩,r⟩:=x
  exact⟨ho _ d,z,ne,k _ _ (.inl rfl) e,mA,⟨od,es,ep,k _ _ (.inr d) e2,c⟩,r⟩
 |own y=>obtain⟨ob,e⟩:=x;exact⟨ob,k _ _ (.inl rfl) e⟩
 |xd fs=>obtain⟨mA,⟨od,es,ep,e,c⟩,r⟩:=x;exact⟨mA,⟨od,es,ep,k _ _ (.inl rfl) e,c⟩,r⟩
 |fM lo hi=>obtain⟨t,u,v,e⟩:=x;exact⟨t,u,v,k _ _ (.inl rfl) e⟩
 |aL ob u ih=>obtain⟨e,q⟩:=x;exact⟨k _ _ (.inl rfl) e,ih q⟩
 |kM ps =>
  have e:h.get? a=some { cls:=.none,data:=.fields ps }:=x
  show h'.get? a=some { cls:=.none,data:=.fields ps }
  exact k a _ (.inl rfl) e
 |met f y =>
  have e:h.get? a=some (PySem.W.methodObj (.ref f) (.ref y)):=x
  show h'.get? a=some (PySem.W.methodObj (.ref f) (.ref y))
  exact k a _ (.inl rfl) e
 |ext φ=>obtain⟨p,⟨o,e⟩,st⟩:=x;exact⟨st _ _ p fun o q=>k _ _ (.inl rfl) q,⟨o,k _ _ (.inl rfl) e⟩,st⟩
theorem cn.lt(x:cn P w H h)(e:H a=some o):a<h.objs.size:=(x a o e).lt
theorem cn.fresh(x:cn P w H h)(e:h.objs.size≤a):H a=none:=by
 cases q:H a with
 |none=>rfl
 |some u=>exact absurd (dI (x.lt q) e) (jD _)
theorem cn.kept(x:cn P w H h)(k:∀b u,h.get? b=some u→h'.get? b=some u):cn P w H h':=fun a o e =>
 (x a o e).lM (fun b u _ q=>k b u q) (fun _ q=>q) fun _ _ q=>q
theorem cn.laid(x:cn P w H h)(k:∀b u,h.get? b=some u→h'.get? b=some u)(hp:h.objs.size≤a)(new:bU P w (upd H a o) h' a o):cn P w (upd H a o) h':=fun b u e=>by
 have hn:=x.fresh hp
 by_cases hb:b=a
 ·subst hb;rw[bf]at e;cases e;exact new
 ·rw[az hb]at e
  exact(x b u e).lM (fun c v _ q=>k c v q) (fun c q=>by rw[az (eC q hn)];exact q) fun c xs q=>by rw[az (eC q hn)];exact q
end
def Rd(H:Hp)(a:Addr)(u:HO):Prop:=H a=some u∨∃o,H a=some (.aL o u)
theorem Rd.ok{P:Program}{w:World}{H:Hp}{h:Heap}{a:Addr}{u:HO}(r:Rd H a u)(x:cn P w H h):bU P w H h a u:=by
 rcases r with r|⟨o,r⟩
 ·exact x a u r
 ·obtain⟨_,q⟩:=x a _ r
  exact q
noncomputable def sF:Option HO→Prop
 |some (.lst _)=>True
 |some (.dK _)=>True
 |some (.dT _)=>True
 |some (.set _ _)=>True
 |some (.ins _ _ _)=>True
 |some (.ext _)=>True
 |_=>False
section
variable {P:Program}{w:World}{H:Hp}{h h':Heap}{x e:Addr}{o':HO}
theorem cn.write(ok:cn P w H h)(mu:sF (H x))(he:e=x∨H e=some (.own x))(k:∀b u,b≠e→h.get? b=some u→h'.get? b=some u)(pR:∃u,h'.get? e=some u)
  (new:bU P w (upd H x o') h' x o'):cn P w (upd H x o') h':=fun b u q=>by
 have HG:∀c y,H c=some (.own y)→c≠x:=fun c y r z=>by subst z;rw[r]at mu;exact mu
 have Vn:∀c xs,H c=some (.tup xs)→c≠x:=fun c xs r z=>by subst z;rw[r]at mu;exact mu
 by_cases hb:b=x
 ·subst hb;rw[bf]at q;cases q;exact new
 ·rw[az hb]at q
  by_cases nE:b=e
  ·have q':H b=some (.own x):=by
    rcases he with z|z
    ·exact absurd (nE.trans z) hb
    ·rw[nE];exact z
   rw[q]at q';cases q'
   obtain⟨v,hv⟩:=pR
   exact⟨v,by rw[nE];exact hv⟩
  ·refine(ok b u q).lM (fun c v hc r=>k c v ?_ r) (fun c r=>by rw[az (HG c b r)];exact r) fun c xs r=>by rw[az (Vn c xs r)];exact r
   rcases hc with rfl|hc
   ·exact nE
   ·rintro rfl
    rcases he with z|z
    ·exact HG c b hc z
    ·rw[hc]at z;cases z;exact hb rfl
end
structure Un (fs ex:List Addr)(H H':Hp)(h h':Heap):Prop where
 keep:∀b o,h.get? b=some o→H b=none→b∉fs→b∉ex→h'.get? b=some o
 slot:∀b o,h.get? b=some o→H b=none→b∈fs→b∉ex→∃sl,h'.get? b=some { o with slots:=sl }
 free:∀b o,h.get? b=some o→H b=none→b∉ex→H' b=none
 there:∀b o,h.get? b=some o→b∉ex→∃o',h'.get? b=some o'
 hG:∀b xs,H b=some (.tup xs)→H' b=some (.tup xs)
 fV:∀b o u,H b=some (.aL o u)→H' b=some (.aL o u)
 hJ:∀b ps,H b=some (.kM ps)→∃more,H' b=some (.kM (ps++more))
section
variable {fs Ws ex YV:List Addr}{H H1 H2:Hp}{h h1 h2 h':Heap}{a x e:Addr}{o:HO}
theorem Un.any(u:Un fs ex H H1 h h1){b:Addr}{ob:Obj}(q:h.get? b=some ob)(n:H b=none)(hx:b∉ex):∃sl,h1.get? b=some { ob with slots:=sl }:=by
 by_cases hb:b∈fs
 ·exact u.slot b ob q n hb hx
 ·exact⟨ob.slots,u.keep b ob q n hb hx⟩
theorem Un.trans(a:Un fs ex H H1 h h1)(b:Un fs ex H1 H2 h1 h2):Un fs ex H H2 h h2 where
 keep:=fun c ob q n hc hx=>b.keep c ob (a.keep c ob q n hc hx) (a.free c ob q n hx) hc hx
 slot:=fun c ob q n hc hx=>by
  obtain⟨sl,e1⟩:=a.slot c ob q n hc hx
  obtain⟨jI,e2⟩:=b.slot c _ e1 (a.free c ob q n hx) hc hx
  exact⟨jI,e2⟩
 free:=fun c ob q n hx=>by
  obtain⟨o',e1⟩:=a.there c ob q hx
  exact b.free c o' e1 (a.free c ob q n hx) hx
 there:=fun c ob q hx=>by
  obtain⟨o',e1⟩:=a.there c ob q hx
  exact b.there c o' e1 hx
 hG:=fun c xs q=>b.hG c xs (a.hG c xs q)
 fV:=fun c ob xs q=>b.fV c ob xs (a.fV c ob xs q)
 hJ:=fun c ps q=>by
  obtain⟨m1,e1⟩:=a.hJ c ps q
  obtain⟨m2,e2⟩:=b.hJ c _ e1
  exact⟨m1++m2,by rw[e2,Array.append_assoc]⟩
theorem Un.kept(k:∀b u,h.get? b=some u→h'.get? b=some u):Un fs ex H H h h' :=
 ⟨fun b ob q _ _ _=>k b ob q,fun b ob q _ _ _=>⟨ob.slots,k b ob q⟩,fun _ _ _ n _=>n,fun b ob q _=>⟨ob,k b ob q⟩,fun _ _ q=>q,fun _ _ _ q=>q,fun _ ps q=>⟨#[],by rw[q];simp⟩⟩
theorem Un.refl:Un fs ex H H h h:=Un.kept fun _ _ q=>q
theorem Un.laid(k:∀b u,h.get? b=some u→h'.get? b=some u)(hp:h.objs.size≤a)(hn:H a=none):Un fs ex H (upd H a o) h h' where
 keep:=fun b u q _ _ _=>k b u q
 slot:=fun b u q _ _ _=>⟨u.slots,k b u q⟩
 free:=fun b u q n _=>by rw[az (cL (dI (bx q) hp))];exact n
 there:=fun b u q _=>⟨u,k b u q⟩
 hG:=fun b xs q=>by rw[az (eC q hn)];exact q
 fV:=fun b u xs q=>by rw[az (eC q hn)];exact q
 hJ:=fun b ps q=>⟨#[],by rw[az (eC q hn),q];simp⟩
theorem Un.write(mu:sF (H x))(he:e=x∨H e=some (.own x))(k:∀b u,b≠e→h.get? b=some u→h'.get? b=some u)(pR:∃u,h'.get? e=some u):Un fs ex H (upd H x o) h h':=by
 have hx:∀b,H b=none→b≠x:=fun b n z=>by subst z;rw[n]at mu;exact mu
 have hb:∀b,H b=none→b≠e:=fun b n z=>by
  subst z
  rcases he with r|r
  ·exact hx b n r
  ·rw[n]at r;cases r
 have hm:∀b u,H b=some u→¬sF (some u)→b≠x:=fun b u q nm z=>by subst z;rw[q]at mu;exact nm mu
 refine⟨fun b u q n _ _=>k b u (hb b n) q,fun b u q n _ _=>⟨u.slots,k b u (hb b n) q⟩,fun b u q n _=>by rw[az (hx b n)];exact n,fun b u q _=>?_,
  fun b xs q=>by rw[az (hm b _ q fun z=>z)];exact q,fun b u xs q=>by rw[az (hm b _ q fun z=>z)];exact q,fun b ps q=>⟨#[],by rw[az (hm b _ q fun z=>z),q];simp⟩⟩
 by_cases nE:b=e
 ·subst nE;exact pR
 ·exact⟨u,k b u nE q⟩
end
noncomputable def xa(h:Heap)(H:Hp):List Addr:=(List.range h.objs.size).filter fun a=>(H a).isSome
noncomputable def km(h:Heap)(H:Hp):Heap:=PySem.W.hideAll h (xa h H)
theorem Ml(h:Heap)(H:Hp):(km h H).objs.size=h.objs.size:=PySem.W.hideAll_size _ _
theorem Nr{h:Heap}{H:Hp}{b:Addr}{o:Obj}(e:h.get? b=some o)(n:H b=none):(km h H).get? b=some o :=
 PySem.W.hideAll_get _ e fun hm=>by
  have q:(H b).isSome=true:=(List.mem_filter.mp hm).2
  rw[n]at q;simp at q
theorem OX{h:Heap}{H:Hp}{b:Addr}{o:Obj}(e:(km h H).get? b=some o):h.get? b=some o∧H b=none:=by
 have e':h.get? b=some o:=PySem.W.of_hideAll (xa h H) e
 refine⟨e',?_⟩
 cases q:H b with
 |none=>rfl
 |some x =>
  have hm:b∈xa h H:=List.mem_filter.mpr ⟨r6.mpr (bx e'),by simp[q]⟩
  have z:(km h H).get? b=none:=PySem.W.hideAll_none (xa h H) hm
  rw[z]at e;cases e
noncomputable def OY(g h:Heap)(L:Addr):List (Addr×Obj):=(List.range h.objs.size).filterMap fun a=>if a=L∨(g.get? a).isSome=true then none else (h.get? a).map fun o=>(a,o)
noncomputable def rest(g h:Heap)(L d:Addr):List (Addr×Obj):=(OY g h L).filter fun p=>decide (p.1≠d)
structure Mod (K:PySem.W.Frag)(mg:Str→Option Value)(base:Heap):Prop where
 A3:K.In base
 glob:base.Ns mainGlobals mg
 blt:∃mb,base.Ns builtinsNs mb∧∀x:Str,x ≠ "__name__" → mb x=bootBuiltins x
 nolimit:base.NoLimit
structure Cx where
 prog:Program
 w:World
 K:PySem.W.Frag
 mg:Str→Option Value
 base:Heap
 A:Around
 N:List Str
 s₀:Shared
 H₀:Hp
 env:Env
 outer:List Env
 stack:List Env
 ex:List Addr
 fn:Str→Bool
 calm:Bool
 pn:List (Addr×Obj)
 xe:Value→Shared→Prop
noncomputable def hZ(l:List Env):List Addr:=l.filterMap (·.frame)
noncomputable abbrev Cx.fs(X:Cx):List Addr:=hZ X.outer
def sH(sc:Scope)(x:Str):Prop:=sc.names.lookup x=some .local∨sc.names.lookup x=some .cell∨sc.names.lookup x=some .free
def Loc(sc:Scope)(x:Str):Prop:=sc.names.lookup x=some .local∨sc.names.lookup x=some .cell
def Look(env:Env)(h:Heap)(m:Str→Option Value)(x:Str)(u:Value):Prop :=
 (env.kindOf x=some .local∧m x=some u)∨((env.kindOf x=some .cell∨env.kindOf x=some .free)∧∃c,env.cells.lookup x=some c∧h.IsCell c (some u))
structure Cx.Ok (X:Cx):Prop where
 mod:Mod X.K X.mg X.base
 kind:X.env.scope.kind=.function
 glob:X.env.globals=mainGlobals
 blt:X.env.builtins=builtinsNs
 above:X.s₀.heap.objs.size≤X.env.locals
 inj:∀x y c,X.env.cells.lookup x=some c→X.env.cells.lookup y=some c→x=y
 has:∀x,(X.env.kindOf x=some .cell∨X.env.kindOf x=some .free)→∃c,X.env.cells.lookup x=some c
 sJ:∀x c,X.fn x=true→X.env.cells.lookup x=some c→X.s₀.heap.objs.size≤c
 hd:X.calm=true→X.A.handled=none
 frames:X.A.frames=some X.stack
 xc:X.stack=X.outer∨(X.stack=X.env::X.outer∧X.env.frame=some X.env.locals)
 Ji:∀b∈X.ex,b≠X.env.locals∧∀x c,X.env.cells.lookup x=some c→c≠b
 bs:∀b o,X.base.get? b=some o→X.s₀.heap.get? b=some o∧X.H₀ b=none
 kO:X.base.objs.size≤X.s₀.heap.objs.size
 rF:∀b o,X.base.get? b=some o→b∉X.ex
 vU:∀b∈X.ex,b∉X.fs
 iE:X.s₀.heap.FunFrames X.base X.outer
 pT:∀b∈X.fs,X.H₀ b=none
structure Inv (X:Cx)(pins:List (Addr×Obj))(σ:List (Option V))(H:Hp)(s:Shared):Prop where
 ok:X.Ok
 os:s.os=X.s₀.os
 bare:AllBare s.gens
 base:Un X.fs X.ex X.H₀ H X.s₀.heap s.heap
 loc:∃m,s.heap.Ns X.env.locals m∧∀(i:Nat) (x:Str) (v:V),X.N[i]?=some x→σ[i]?=some (some v)→sH X.env.scope x→∃u,RelV v u∧Look X.env s.heap m x u
 cell:∀x c,X.env.cells.lookup x=some c→∃v,s.heap.IsCell c v
 free:H X.env.locals=none
 gE:∀x c,X.env.cells.lookup x=some c→H c=none
 pin:∀p∈X.pn++pins,s.heap.get? p.1=some p.2∧H p.1=none∧p.1≠X.env.locals∧p.1∉X.fs∧∀v,p.2.data≠.cell v
 aA:cn X.prog X.w H s.heap
 len:σ.length=X.N.length
section
variable {X:Cx}{pins:List (Addr×Obj)}{σ:List (Option V)}{H H':Hp}{s:Shared}{h':Heap}
theorem Cx.Ok.Vo(ok:X.Ok){b:Addr}{o:Obj}(e:X.base.get? b=some o):b∉X.fs:=fun hb=>by
 have:=(ok.iE.mem hb).1
 rw[e]at this;cases this
theorem Inv.bs(I:Inv X pins σ H s):∀b o,X.base.get? b=some o→s.heap.get? b=some o∧H b=none:=fun b o e =>
 ⟨I.base.keep b o (I.ok.bs b o e).1 (I.ok.bs b o e).2 (I.ok.Vo e) (I.ok.rF b o e),I.base.free b o (I.ok.bs b o e).1 (I.ok.bs b o e).2 (I.ok.rF b o e)⟩
theorem Inv.bk(I:Inv X pins σ H s):∀b o,X.base.get? b=some o→s.heap.get? b=some o:=fun b o e=>(I.bs b o e).1
theorem Inv.mod(I:Inv X pins σ H s):Mod X.K X.mg X.base:=I.ok.mod
theorem Inv.gy(I:Inv X pins σ H s):X.K.In s.heap:=I.ok.mod.A3.keeps I.bk
theorem Inv.fr(I:Inv X pins σ H s):∃m,Fr X.base X.env.locals s.heap m :=
 let ⟨m,hn,_⟩:=I.loc
 ⟨m,hn,I.bk,bS I.ok.kO I.ok.above⟩
theorem Inv.lt(I:Inv X pins σ H s):X.env.locals<s.heap.objs.size:=let ⟨_,hn,_⟩:=I.loc;hn.lt
theorem Inv.sz(I:Inv X pins σ H s):X.s₀.heap.objs.size≤s.heap.objs.size:=bS I.ok.above (Nat.le_of_lt I.lt)
theorem Inv.Vp(I:Inv X pins σ H s){a:Addr}(h:s.heap.objs.size≤a):a∉X.fs:=fun hb=>by
 obtain⟨_,o,ho,_⟩:=I.ok.iE.mem hb
 exact absurd (dI (bx ho) (bS I.sz h)) (jD _)
theorem Inv.nF(I:Inv X pins σ H s):∀x c,X.env.cells.lookup x=some c→c≠X.env.locals:=fun x c e z=>by
 obtain⟨v,o,ho,hd⟩:=I.cell x c e
 obtain⟨m,⟨o',es,ep,dE,jJ,_⟩,_⟩:=I.loc
 rw[z,dE]at ho;cases ho;rw[jJ]at hd;cases hd
theorem Inv.iE(I:Inv X pins σ H s):s.heap.FunFrames X.base X.outer:=by
 have all:∀(l:List Env),(∀b∈hZ l,b∈X.fs)→X.s₀.heap.FunFrames X.base l→s.heap.FunFrames X.base l:=by
  intro l
  induction l with
  |nil=>intro _ _;trivial
  |cons env r ih =>
   intro hs hl
   obtain⟨hk,⟨L,o,hf,hn,ho,hd⟩,hr⟩:=hl
   have hL:L∈X.fs:=hs L (by unfold hZ;rw[AA,hf];exact cM)
   obtain⟨sl,e⟩:=I.base.slot L o ho (I.ok.pT L hL) hL fun z=>I.ok.vU L z hL
   exact⟨hk,⟨L,_,hf,hn,e,hd⟩,ih (fun b hb=>hs b (by unfold hZ;rw[AA,hf];exact cT _ hb)) hr⟩
 exact all X.outer (fun _ hb=>hb) I.ok.iE
theorem Inv.stack(I:Inv X pins σ H s):s.heap.FunFrames X.base X.stack:=by
 rcases I.ok.xc with e|⟨e,hf⟩
 ·rw[e];exact I.iE
 ·rw[e]
  obtain⟨m,hn,_⟩:=I.loc
  refine .cons (by rw[I.ok.kind];decide) hf hn ?_ I.iE
  exact Heap.get?_none_of_le (bS I.ok.kO I.ok.above)
theorem Inv.y8(I:Inv X pins σ H s):∀b∈hZ X.stack,b∈X.env.locals::X.fs:=fun b hb=>by
 rcases I.ok.xc with e|⟨e,hf⟩
 ·rw[e]at hb;exact cT _ hb
 ·rw[e]at hb
  unfold hZ at hb
  rw[AA,hf]at hb
  exact hb
theorem Inv.EA(I:Inv X pins σ H s):∀b∈hZ X.stack,H b=none:=fun b hb=>by
 rcases fK.mp (I.y8 b hb)with e|hb
 ·rw[e];exact I.free
 ·obtain⟨_,o,ho,_⟩:=I.ok.iE.mem hb
  exact I.base.free b o ho (I.ok.pT b hb) fun z=>I.ok.vU b z hb
theorem Inv.step{g':Array GenState}{t':Nat}{d':Drawn}{ch:List Addr}(I:Inv X pins σ H s)
  (ia:∀b∈ch,(b∈X.ex∨X.s₀.heap.objs.size≤b)∧b≠X.env.locals∧(∀x c,X.env.cells.lookup x=some c→c≠b)∧∀p∈X.pn++pins,p.1≠b)
  (keep:∀b o,b≠X.env.locals→b∉X.fs→b∉ch→s.heap.get? b=some o→H b=none→h'.get? b=some o)
  (slot:∀b o,b≠X.env.locals→b∈X.fs→b∉ch→s.heap.get? b=some o→H b=none→∃sl,h'.get? b=some { o with slots:=sl }) (free:∀b o,b∉ch→s.heap.get? b=some o→H b=none→H' b=none)
  (there:∀b o,b∉ch→s.heap.get? b=some o→∃o',h'.get? b=some o')
  (hG:∀b xs,H b=some (.tup xs)→H' b=some (.tup xs)) (fV:∀b o u,H b=some (.aL o u)→H' b=some (.aL o u)) (hJ:∀b ps,H b=some (.kM ps)→∃more,H' b=some (.kM (ps++more)))
  (ns:∀m,s.heap.Ns X.env.locals m→h'.Ns X.env.locals m) (aA:cn X.prog X.w H' h') (hg:AllBare g') :
  Inv X pins σ H' { s with heap:=h',gens:=g',drawn:=d',toks:=t' }:=by
 have nG:∀b o,X.s₀.heap.get? b=some o→b≠X.env.locals:=fun b o e=>cL (dI (bx e) I.ok.above)
 have kQ:∀b o,X.s₀.heap.get? b=some o→b∉X.ex→b∉ch:=fun b o e hx hb=>by
  rcases (ia b hb).1 with z|z
  ·exact hx z
  ·exact absurd (dI (bx e) z) (jD _)
 have cellK:∀x c,X.env.cells.lookup x=some c→∀v,s.heap.IsCell c v→h'.IsCell c v:=fun x c e v ⟨o,ho,hd⟩=>by
  have sM:c∉ch:=fun z=>(ia c z).2.2.1 x c e rfl
  by_cases hc:c∈X.fs
  ·obtain⟨sl,q⟩:=slot c o (I.nF x c e) hc sM ho (I.gE x c e)
   exact⟨_,q,hd⟩
  ·exact⟨o,keep c o (I.nF x c e) hc sM ho (I.gE x c e),hd⟩
 refine⟨I.ok,I.os,hg,⟨fun b o e n hb hx=>?_,fun b o e n hb hx=>?_,fun b o e n hx=>?_,fun b o e hx=>?_,fun b xs e=>hG b xs (I.base.hG b xs e),fun b o xs e=>fV b o xs (I.base.fV b o xs e),fun b ps e=>?_⟩,?_,fun x c e=>?_,?_,fun x c e=>?_,fun p hp=>?_,aA,I.len⟩
 ·exact keep b o (nG b o e) hb (kQ b o e hx) (I.base.keep b o e n hb hx) (I.base.free b o e n hx)
 ·obtain⟨sl,e1⟩:=I.base.slot b o e n hb hx
  obtain⟨jI,e2⟩:=slot b _ (nG b o e) hb (kQ b o e hx) e1 (I.base.free b o e n hx)
  exact⟨jI,e2⟩
 ·obtain⟨o',e1⟩:=I.base.there b o e hx
  exact free b o' (kQ b o e hx) e1 (I.base.free b o e n hx)
 ·obtain⟨o',e1⟩:=I.base.there b o e hx
  exact there b o' (kQ b o e hx) e1
 ·obtain⟨m1,e1⟩:=I.base.hJ b ps e
  obtain⟨m2,e2⟩:=hJ b _ e1
  exact⟨m1++m2,by rw[e2,Array.append_assoc]⟩
 ·obtain⟨m,hn,hl⟩:=I.loc
  refine⟨m,ns m hn,fun i x v e1 e2 e3=>?_⟩
  obtain⟨u,r,l⟩:=hl i x v e1 e2 e3
  refine⟨u,r,?_⟩
  rcases l with l|⟨k,c,e,z⟩
  ·exact .inl l
  ·exact .inr ⟨k,c,e,cellK x c e _ z⟩
 ·obtain⟨v,z⟩:=I.cell x c e
  exact⟨v,cellK x c e v z⟩
 ·obtain⟨m,⟨o,_,_,ho,_⟩,_⟩:=I.loc
  exact free _ o (fun z=>(ia _ z).2.1 rfl) ho I.free
 ·obtain⟨v,o,ho,hd⟩:=I.cell x c e
  exact free c o (fun z=>(ia c z).2.2.1 x c e rfl) ho (I.gE x c e)
 ·obtain⟨e,n,ne,nf,d⟩:=I.pin p hp
  have sM:p.1∉ch:=fun z=>(ia p.1 z).2.2.2 p hp rfl
  exact⟨keep p.1 p.2 ne nf sM e n,free p.1 p.2 sM e n,ne,nf,d⟩
theorem Inv.un{t':Nat}(I:Inv X pins σ H s)(u:Un X.fs [] H H' s.heap h')(aA:cn X.prog X.w H' h'):Inv X pins σ H' { s with heap:=h',toks:=t' }:=by
 obtain⟨m,⟨o,es,ep,ho,r⟩,_⟩:=id I.loc
 obtain⟨sl,hL⟩:=u.any ho I.free (by simp)
 exact I.step (g':=s.gens) (d':=s.drawn) (ch:=[]) (fun _ z=>nomatch z) (fun b o _ hb _ e n=>u.keep b o e n hb (by simp)) (fun b o _ hb _ e n=>u.slot b o e n hb (by simp)) (fun b o _ e n=>u.free b o e n (by simp)) (fun b o _ e=>u.there b o e (by simp)) u.hG u.fV u.hJ (fun m' hm=>by
  obtain⟨o',sN,sO,dE,r'⟩:=hm
  rw[ho]at dE;cases dE
  exact⟨_,sN,sO,hL,r'⟩) aA I.bare
theorem Inv.call{g':Array GenState}{t':Nat}{d':Drawn}{ch:List Addr}(I:Inv X pins σ H s)(u:Un (hZ X.stack) ch H H' s.heap h')(aA:cn X.prog X.w H' h')(hg:AllBare g')
  (ia:∀b∈ch,(b∈X.ex∨X.s₀.heap.objs.size≤b)∧b≠X.env.locals∧(∀x c,X.env.cells.lookup x=some c→c≠b)∧∀p∈X.pn++pins,p.1≠b) :
  Inv X pins σ H' { s with heap:=h',gens:=g',drawn:=d',toks:=t' }:=by
 obtain⟨m,⟨o,es,ep,ho,r⟩,_⟩:=id I.loc
 obtain⟨sl,hL⟩:=u.any ho I.free fun z=>(ia _ z).2.1 rfl
 exact I.step (ch:=ch) ia (fun b o hL hb hc e n=>u.keep b o e n (fun z=>(fK.mp (I.y8 b z)).elim hL hb) hc) (fun b o _ _ hc e n=>u.any e n hc) (fun b o hc e n=>u.free b o e n hc) (fun b o hc e=>u.there b o e hc) u.hG u.fV u.hJ (fun m' hm=>by
  obtain⟨o',sN,sO,dE,r'⟩:=hm
  rw[ho]at dE;cases dE
  exact⟨_,sN,sO,hL,r'⟩) aA hg
theorem Inv.turned{t':Nat}{it:Addr}(I:Inv X pins σ H s)(k:∀b o,b≠it→s.heap.get? b=some o→h'.get? b=some o)(hn:H it=none)(hL:it≠X.env.locals)
  (h1:it∈X.ex∨X.s₀.heap.objs.size≤it) (h2:∀x c,X.env.cells.lookup x=some c→c≠it) (h3:∀p∈X.pn++pins,p.1≠it):Inv X pins σ H { s with heap:=h',toks:=t' }:=by
 have lY:∀b u,H b=some u→b≠it:=fun b u e z=>by rw[z,hn]at e;cases e
 refine I.step (g':=s.gens) (d':=s.drawn) (ch:=[it]) (fun b hb=>?_) (fun b o _ _ hc e _=>k b o (fun z=>hc (by simp[z])) e) (fun b o _ _ hc e _=>⟨o.slots,k b o (fun z=>hc (by simp[z])) e⟩) (fun _ _ _ _ n=>n)
  (fun b o hc e=>⟨o,k b o (fun z=>hc (by simp[z])) e⟩) (fun _ _ e=>e) (fun _ _ _ e=>e) (fun b ps e=>⟨#[],by rw[e];simp⟩) (fun m hm=>?_) (fun b u e=>?_) I.bare
 ·have e:b=it:=by simpa using hb
  subst e
  exact⟨h1,hL,h2,h3⟩
 ·obtain⟨o,es,ep,ho,r⟩:=hm
  exact⟨o,es,ep,k _ o (jE hL) ho,r⟩
 ·refine(I.aA b u e).lM (fun c v hc q=>k c v ?_ q) (fun _ q=>q) fun _ _ q=>q
  rcases hc with z|z
  ·rw[z];exact lY b u e
  ·exact lY c _ z
theorem Inv.tok(I:Inv X pins σ H s)(t:Nat):Inv X pins σ H { s with toks:=t }:=I.un (h':=s.heap) (t':=t) Un.refl I.aA
theorem Inv.kept{t':Nat}(I:Inv X pins σ H s)(k:∀b u,s.heap.get? b=some u→h'.get? b=some u):Inv X pins σ H { s with heap:=h',toks:=t' }:=I.un (Un.kept k) (I.aA.kept k)
theorem Inv.laid{a:Addr}{o:HO}{t':Nat}(I:Inv X pins σ H s)(k:∀b u,s.heap.get? b=some u→h'.get? b=some u)(hp:s.heap.objs.size≤a)(new:bU X.prog X.w (upd H a o) h' a o) :
 Inv X pins σ (upd H a o) { s with heap:=h',toks:=t' }:=I.un (Un.laid k hp (I.aA.fresh hp)) (I.aA.laid k hp new)
theorem Inv.write{x e:Addr}{o:HO}{t':Nat}(I:Inv X pins σ H s)(mu:sF (H x))(he:e=x∨H e=some (.own x))(k:∀b u,b≠e→s.heap.get? b=some u→h'.get? b=some u)(pR:∃u,h'.get? e=some u)
 (new:bU X.prog X.w (upd H x o) h' x o):Inv X pins σ (upd H x o) { s with heap:=h',toks:=t' }:=I.un (Un.write mu he k pR) (I.aA.write mu he k pR new)
theorem Inv.weak{σ':List (Option V)}(I:Inv X pins σ H s)(hl:σ'.length=σ.length)(w:∀(i:Nat) v,σ'[i]?=some (some v)→σ[i]?=some (some v)):Inv X pins σ' H s :=
 ⟨I.ok,I.os,I.bare,I.base,let ⟨m,hn,kR⟩:=I.loc;⟨m,hn,fun i x v e1 e2 e3=>kR i x v e1 (w i v e2) e3⟩,I.cell,I.free,I.gE,I.pin,I.aA,hl.trans I.len⟩
theorem Inv.EB{GL:List (Addr×Obj)}(I:Inv X pins σ H s)(h:∀p∈GL,s.heap.get? p.1=some p.2∧H p.1=none∧p.1≠X.env.locals∧p.1∉X.fs∧∀v,p.2.data≠.cell v):Inv X GL σ H s :=
 ⟨I.ok,I.os,I.bare,I.base,I.loc,I.cell,I.free,I.gE,fun p hp=>(fX.mp hp).elim (fun z=>I.pin p (r9 _ z)) (h p),I.aA,I.len⟩
theorem qz{N:List Str}(hN:N.Nodup){i j:Nat}{x:Str}(a:N[i]?=some x)(b:N[j]?=some x):i=j:=by
 obtain⟨h1,e1⟩:=bt.mp a
 obtain⟨h2,e2⟩:=bt.mp b
 exact(List.getElem_inj hN).mp (e1.trans e2.symm)
theorem Dy{M:Model}{A:Around}{E:Value→Shared→Prop}{i:Nat}{x:Str}{v:V}{u:Value}{Q:Unit→Shared→Prop}(I:Inv X pins σ H s)(hN:X.N.Nodup)(hi:X.N[i]?=some x)(hx:Loc X.env.scope x)(r:RelV v u)
  (h:∀s',Inv X pins (σ.set i (some v)) H s'→(∃a,Heap.SameBut a s.heap s'.heap∧(a=X.env.locals∨X.env.cells.lookup x=some a))→Q () s') (hf:X.fn x=true∨X.env.scope.names.lookup x=some .local:=by first|exact .inl rfl|exact .inr rfl|assumption):wpAny M A (storeName X.env x u) Q E s:=by
 obtain⟨m,hn,hl⟩:=id I.loc
 have Vq:(X.env.scope.kind==.class||(X.env.scope.kind==.module&&X.env.locals != X.env.globals))=false:=by rw[I.ok.kind];rfl
 have HJ:i<σ.length:=by rw[I.len];exact(bt.mp hi).1
 have nF:=I.nF
 have tracked:∀{a:Addr}{h':Heap},(∃o,s.heap.get? a=some o∧H a=none)→Heap.SameBut a s.heap h'→cn X.prog X.w H h':=fun {a h'} ha hs b ob e=>by
  obtain⟨_,_,vq⟩:=ha
  refine(I.aA b ob e).lM (fun c w' hc q=>(hs.2 c ?_).trans q) (fun _ q=>q) fun _ _ q=>q
  rintro rfl
  rcases hc with rfl|hc
  ·rw[vq]at e;cases e
  ·rw[vq]at hc;cases hc
 rcases hx with hk|hk
 ·refine wpAny_storeName_local hk hn (fun h' A4 hs=>?_) Vq
  obtain⟨oL,_,_,Wt,_⟩:=id hn
  refine h _ ⟨I.ok,I.os,I.bare,⟨fun b o e n hb hx=>?_,fun b o e n hb hx=>?_,I.base.free,fun b o e hx=>?_,I.base.hG,I.base.fV,I.base.hJ⟩,⟨_,A4,fun j y v' e1 e2 e3=>?_⟩,fun y c e=>?_,I.free,I.gE,fun p hp=>?_,tracked ⟨oL,Wt,I.free⟩ hs,by simpa using I.len⟩ ⟨_,hs,.inl rfl⟩
  ·exact(hs.2 b (cL (dI (bx e) I.ok.above))).trans (I.base.keep b o e n hb hx)
  ·obtain⟨sl,e1⟩:=I.base.slot b o e n hb hx
   exact⟨sl,(hs.2 b (cL (dI (bx e) I.ok.above))).trans e1⟩
  ·obtain⟨o',e1⟩:=I.base.there b o e hx
   exact⟨o',(hs.2 b (cL (dI (bx e) I.ok.above))).trans e1⟩
  ·by_cases hj:j=i
   ·subst hj
    rw[hi]at e1;cases e1
    rw[List.getElem?_set_self HJ]at e2
    cases e2
    exact⟨u,r,.inl ⟨hk,by simp⟩⟩
   ·rw[cU (jE hj)]at e2
    obtain⟨u',r',q⟩:=hl j y v' e1 e2 e3
    refine⟨u',r',?_⟩
    rcases q with⟨k,e⟩|⟨k,c,e,z⟩
    ·refine .inl ⟨k,?_⟩
     have:y≠x:=fun e=>hj (qz hN e1 (e▸hi))
     simp[this,e]
    ·exact .inr ⟨k,c,e,z.sameBut hs (nF y c e)⟩
  ·obtain⟨w',z⟩:=I.cell y c e
   exact⟨w',z.sameBut hs (nF y c e)⟩
  ·obtain⟨e,n,ne,nf,d⟩:=I.pin p hp
   exact⟨(hs.2 p.1 ne).trans e,n,ne,nf,d⟩
 ·have A5:X.fn x=true:=by
   rcases hf with z|z
   ·exact z
   ·rw[z]at hk;cases hk
  obtain⟨c,hc⟩:=I.ok.has x (.inl hk)
  obtain⟨w',z⟩:=I.cell x c hc
  refine wpAny_storeName_cell I.ok.kind hk hc z (fun h' sQ hs=>?_)
  obtain⟨oc,Jj,Vr⟩:=id z
  refine h { s with heap:=h' } ⟨I.ok,I.os,I.bare,⟨fun b o e n hb hx=>?_,fun b o e n hb hx=>?_,I.base.free,fun b o e hx=>?_,I.base.hG,I.base.fV,I.base.hJ⟩,⟨m,hn.sameBut hs (jE (nF x c hc)),fun j y v' e1 e2 e3=>?_⟩,fun y c' e=>?_,I.free,I.gE,fun p hp=>?_,tracked ⟨oc,Jj,I.gE x c hc⟩ hs,by simpa using I.len⟩ ⟨c,hs,.inr hc⟩
  ·exact(hs.2 b (cL (dI (bx e) (I.ok.sJ x c A5 hc)))).trans (I.base.keep b o e n hb hx)
  ·obtain⟨sl,e1⟩:=I.base.slot b o e n hb hx
   exact⟨sl,(hs.2 b (cL (dI (bx e) (I.ok.sJ x c A5 hc)))).trans e1⟩
  ·obtain⟨o',e1⟩:=I.base.there b o e hx
   exact⟨o',(hs.2 b (cL (dI (bx e) (I.ok.sJ x c A5 hc)))).trans e1⟩
  ·by_cases hj:j=i
   ·subst hj
    rw[hi]at e1;cases e1
    rw[List.getElem?_set_self HJ]at e2
    cases e2
    exact⟨u,r,.inr ⟨.inl hk,c,hc,sQ⟩⟩
   ·rw[cU (jE hj)]at e2
    obtain⟨u',r',q⟩:=hl j y v' e1 e2 e3
    refine⟨u',r',?_⟩
    rcases q with q|⟨k,c',e,z'⟩
    ·exact .inl q
    ·refine .inr ⟨k,c',e,z'.sameBut hs ?_⟩
     rintro rfl
     exact hj (qz hN e1 (I.ok.inj _ _ _ e hc▸hi))
  ·by_cases Jk:c'=c
   ·subst Jk;exact⟨_,sQ⟩
   ·obtain⟨w2,z2⟩:=I.cell y c' e
    exact⟨w2,z2.sameBut hs Jk⟩
  ·obtain⟨e,n,ne,nf,d⟩:=I.pin p hp
   refine⟨(hs.2 p.1 ?_).trans e,n,ne,nf,d⟩
   intro q
   rw[q,Jj]at e
   have q':oc=p.2:=c9 e
   exact d w' (by rw[←q'];exact Vr)
theorem D2{M:Model}{A:Around}{E:Value→Shared→Prop}{i:Nat}{x:Str}{v:V}{u:Value}{Q:Unit→Shared→Prop}(I:Inv X pins σ H s)(hN:X.N.Nodup)(hi:X.N[i]?=some x)(hx:Loc X.env.scope x)(r:RelV v u)
  (h:∀s',Inv X pins (σ.set i (some v)) H s'→Q () s') (hf:X.fn x=true∨X.env.scope.names.lookup x=some .local:=by first|exact .inl rfl|exact .inr rfl|assumption):wpAny M A (storeName X.env x u) Q E s :=
 Dy I hN hi hx r (fun s' I' _=>h s' I') hf
theorem Inv.T9{s':Shared}{ch:List Addr}(I:Inv X pins σ H s)(ho:s'.os=s.os)(u:Un (hZ X.stack) ch H H' s.heap s'.heap)(aA:cn X.prog X.w H' s'.heap)(hg:AllBare s'.gens)
  (ia:∀b∈ch,(b∈X.ex∨X.s₀.heap.objs.size≤b)∧b≠X.env.locals∧(∀x c,X.env.cells.lookup x=some c→c≠b)∧∀p∈X.pn++pins,p.1≠b):Inv X pins σ H' s':=by
 obtain⟨h',g',d',t',o'⟩:=s'
 have e:o'=s.os:=ho
 subst e
 exact I.call (g':=g') (t':=t') (d':=d') u aA hg ia
end
noncomputable abbrev XK:=Value→Option Addr→Hp→Prop
noncomputable abbrev St:=List (Option V)
noncomputable abbrev VK:=V→Hp→Prop
noncomputable abbrev TE:=St→Hp→VK→Prop
noncomputable abbrev TT:=St→Hp→(Bool→Hp→Prop)→Prop
noncomputable abbrev TA:=St→Hp→(List V→Hp→Prop)→Prop
structure Ends where
 nx:St→Hp→Prop
 rt:VK
 bk:St→Hp→Prop:=fun _ _=>False
 ct:St→Hp→Prop:=fun _ _=>False
noncomputable abbrev TS:=Ends→St→Hp→Prop
def EP(X:Cx)(pins:List (Addr×Obj))(σ:St)(Q:VK)(u:Value)(s':Shared):Prop:=∃v H',Inv X pins σ H' s'∧RelV v u∧Q v H'
def TP(X:Cx)(pins:List (Addr×Obj))(σ:St)(Q:Bool→Hp→Prop)(b:Bool)(s':Shared):Prop:=∃H',Inv X pins σ H' s'∧Q b H'
def AP(X:Cx)(pins:List (Addr×Obj))(σ:St)(Q:List V→Hp→Prop)(us:List Value)(s':Shared):Prop:=∃vs H',Inv X pins σ H' s'∧Vals vs us∧Q vs H'
def SP(X:Cx)(pins:List (Addr×Obj))(D:Ends)(f:Flow)(s':Shared):Prop :=
 match f with
 |.next=>∃σ' H',Inv X pins σ' H' s'∧D.nx σ' H'
 |.brk=>∃σ' H',Inv X pins σ' H' s'∧D.bk σ' H'
 |.cont=>∃σ' H',Inv X pins σ' H' s'∧D.ct σ' H'
 |.ret u=>∃v σ' H',Inv X pins σ' H' s'∧RelV v u∧D.rt v H'
def PE(X:Cx)(e:Expr)(t:TE):Prop :=
 ∀(pins:List (Addr×Obj)) (s:Shared) (σ:St) (H:Hp) (Q:VK),Inv X pins σ H s→t σ H Q→wpAny (model X.prog X.w) X.A (eval e X.env) (EP X pins σ Q) X.xe s
def PT(X:Cx)(e:Expr)(t:TT):Prop :=
 ∀(pins:List (Addr×Obj)) (s:Shared) (σ:St) (H:Hp) (Q:Bool→Hp→Prop),Inv X pins σ H s→t σ H Q→wpAny (model X.prog X.w) X.A (isTrue e X.env (eval e X.env)) (TP X pins σ Q) X.xe s
def PW(X:Cx)(e:Expr)(t:TT):Prop :=
 ∀(whole:Sem Value) (pins:List (Addr×Obj)) (s:Shared) (σ:St) (H:Hp) (Q:Bool→Hp→Prop),Inv X pins σ H s→t σ H Q→wpAny (model X.prog X.w) X.A (isTrue e X.env whole) (TP X pins σ Q) X.xe s
theorem PW.pt{X:Cx}{e:Expr}{t:TT}(h:PW X e t):PT X e t:=h _
def PA(X:Cx)(es:List Expr)(t:TA):Prop :=
 ∀(pos:Pos) (pins:List (Addr×Obj)) (s:Shared) (σ:St) (H:Hp) (Q:List V→Hp→Prop),Inv X pins σ H s→t σ H Q→wpAny (model X.prog X.w) X.A (spliced (backTo pos (starEach es X.env))) (AP X pins σ Q) X.xe s
def PS(X:Cx)(st:Stmt)(t:TS):Prop :=
 ∀(pins:List (Addr×Obj)) (s:Shared) (σ:St) (H:Hp) (D:Ends),Inv X pins σ H s→t D σ H→wpAny (model X.prog X.w) X.A (exec st X.env) (SP X pins D) X.xe s
def f6(X:Cx)(st:List Stmt)(t:TS):Prop :=
 ∀(pins:List (Addr×Obj)) (s:Shared) (σ:St) (H:Hp) (D:Ends),Inv X pins σ H s→t D σ H→wpAny (model X.prog X.w) X.A (execs st X.env) (SP X pins D) X.xe s
theorem aD{α:Type}{t:Sem α}{Q Q':α→Shared→Prop}{M:Model}{A:Around}{E:Value→Shared→Prop}{s:Shared}(h:wpAny M A t Q E s)(hQ:∀a s,Q a s→Q' a s):wpAny M A t Q' E s:=fA h hQ fun _ _ x=>x
section
variable {X:Cx}
noncomputable def gq(i:Nat):TE:=fun σ H Q=>∃v,σ[i]?=some (some v)∧Q v H
noncomputable def tC(v:V):TE:=fun _ H Q=>Q v H
theorem y9 {i:Nat}{x:Str}{pos:Pos} (hN:X.N[i]?=some x) (hv:sH X.env.scope x) (hd:(x==("__debug__" : Str))=false:=by decide) (dM:(x==("__classdict__" : Str))=false:=by decide):PE X (.Name x pos) (gq i):=by
 intro pins s σ H Q I h
 obtain⟨v,e,h⟩:=h
 obtain⟨m,hn,hl⟩:=I.loc
 obtain⟨u,r,l⟩:=hl i x v hN e hv
 have fin:EP X pins σ Q u s:=⟨v,H,I,r,h⟩
 rcases l with⟨hk,hm⟩|⟨hk,c,hc,GN⟩
 ·exact wpAny_Name (wpAny_loadName_local I.ok.kind hk hn hm fin) hd
 ·rcases hk with hk|hk
  ·exact wpAny_Name (wpAny_loadName_cell I.ok.kind hk hc GN fin) hd
  ·exact wpAny_Name (wpAny_loadName_free I.ok.kind hk hc GN fin dM) hd
theorem Rc{i j pos}:PE X (.Constant (.int i) j pos) (tC (.int i)):=fun _ _ _ H _ I h=>wpAny_Constant_int ⟨.int i,H,I.tok _,⟨_,rfl⟩,h⟩
theorem Ua{b j pos}:PE X (.Constant (.bool b) j pos) (tC (.bl b)):=fun _ _ _ H _ I h=>Constant_bool ⟨.bl b,H,I,rfl,h⟩
theorem Rf{j pos}:PE X (.Constant .none j pos) (tC .non):=fun _ _ _ H _ I h=>Constant_none ⟨.non,H,I,rfl,h⟩
theorem Rg{x j pos}:PE X (.Constant (.str x) j pos) (tC (.str x)):=fun _ _ _ H _ I h=>Calls.Constant_str ⟨.str x,H,I.tok _,⟨_,rfl⟩,h⟩
def Gl(X:Cx)(x:Str):Prop:=X.env.kindOf x=some .globalImplicit
theorem OZ{E:Value→Shared→Prop}{pins:List (Addr×Obj)}{s:Shared}{σ:St}{H:Hp}{x:Str}{u:Value}{pos:Pos}{Q:Value→Shared→Prop}(I:Inv X pins σ H s)(hg:Gl X x)(hm:X.mg x=some u)(h:Q u s)
  (hd:(x==("__debug__" : Str))=false:=by decide):wpAny (model X.prog X.w) X.A (eval (.Name x pos) X.env) Q E s :=
 Calls.Name_function_global I.ok.kind hg (Calls.loadGlobal_global (by rw[I.ok.glob];exact I.mod.glob.keeps I.bk) hm h) hd
theorem oy{E:Value→Shared→Prop}{pins:List (Addr×Obj)}{s:Shared}{σ:St}{H:Hp}{x:Str}{u:Value}{pos:Pos}{Q:Value→Shared→Prop}(I:Inv X pins σ H s)(hg:Gl X x)(hm:X.mg x=none)(hv:bootBuiltins x=some u)(h:Q u s)
  (hn:x ≠ "__name__" := by decide) (hd:(x==("__debug__" : Str))=false:=by decide):wpAny (model X.prog X.w) X.A (eval (.Name x pos) X.env) Q E s:=by
 obtain⟨mb,h1,h2⟩:=I.mod.blt
 exact Calls.Name_function_global I.ok.kind hg (Calls.loadGlobal_builtin (by rw[I.ok.glob];exact I.mod.glob.keeps I.bk) hm (by rw[I.ok.blt];exact h1.keeps I.bk) ((h2 x hn).trans hv) h) hd
theorem O4 {x:Str}{v:V}{u:Value}{pos:Pos} (hg:Gl X x) (hm:X.mg x=none) (hv:bootBuiltins x=some u) (r:RelV v u) (hn:x ≠ "__name__" := by decide) (hd:(x==("__debug__" : Str))=false:=by decide):PE X (.Name x pos) (tC v) :=
 fun _ _ _ H _ I h=>oy I hg hm hv ⟨v,H,I,r,h⟩ hn hd
variable {a b:Expr}{ta tb:TE}{pos:Pos}
def PC(X:Cx)(op:CmpOp)(a b:Expr)(t:TE):Prop :=
 ∀(pins:List (Addr×Obj)) (s:Shared) (σ:St) (H:Hp) (Q:VK),Inv X pins σ H s→t σ H Q →
  wpAny (model X.prog X.w) X.A (eval a X.env) (fun v s₁=>wpAny (model X.prog X.w) X.A (eval b X.env) (fun u s₂=>wpAny (model X.prog X.w) X.A (compareOp op v u) (EP X pins σ Q) X.xe s₂) X.xe s₁) X.xe s
noncomputable def tB(t:TE):TT:=fun σ H Q=>t σ H fun x H1=>∃c,x=.bl c∧Q c H1
theorem u5{op:CmpOp}{t:TE}(h:PC X op a b t)(h1:behindInMarks op b=false:=by first|exact YJ _ (by decide) (by decide)|rfl):PT X (.Compare a [op] [b] pos) (tB t):=by
 intro pins s σ H Q I hw
 refine wpAny_isTrue_Compare1 (aD (h pins s σ H _ I hw) fun v s1 h1=>aD h1 fun u s2 h2=>aD h2 fun c s3 ⟨x,H1,I1,r1,q1⟩=>?_) h1
 obtain⟨d,rfl,q⟩:=q1
 cases r1
 exact iP ⟨H1,I1,q⟩
variable {tA xg:TT}{rest:List Expr}
noncomputable def HK(t u:TT):TT:=fun σ H Q=>t σ H fun c H1=>if c=true then u σ H1 Q else Q false H1
noncomputable def Jl(t u:TT):TT:=fun σ H Q=>t σ H fun c H1=>if c=true then Q true H1 else u σ H1 Q
noncomputable def HL(t:TT):TT:=fun σ H Q=>t σ H fun c H1=>Q (!c) H1
theorem O6(ha:PT X a tA):PW X (.BoolOp .And [a] pos) tA:=by
 intro wh pins s σ H Q I h
 refine isTrue_and (aD (ha pins s σ H Q I h) fun c s1 e=>?_)
 cases c with
 |true=>exact isTrue_and_nil e
 |false=>exact e
theorem Rh(ha:PT X a tA):PW X (.BoolOp .Or [a] pos) tA:=by
 intro wh pins s σ H Q I h
 refine isTrue_or (aD (ha pins s σ H Q I h) fun c s1 e=>?_)
 cases c with
 |false=>exact isTrue_or_nil e
 |true=>exact e
theorem Ri(ha:PT X a tA)(hb:PW X (.BoolOp .And (b::rest) pos) xg):PW X (.BoolOp .And (a::b::rest) pos) (HK tA xg):=by
 intro wh pins s σ H Q I h
 refine isTrue_and (aD (ha pins s σ H _ I h) fun c s1 ⟨H1,I1,q1⟩=>?_)
 cases c with
 |true=>exact hb wh pins s1 σ H1 Q I1 q1
 |false=>exact⟨H1,I1,q1⟩
theorem Ub(ha:PT X a tA)(hb:PW X (.BoolOp .Or (b::rest) pos) xg):PW X (.BoolOp .Or (a::b::rest) pos) (Jl tA xg):=by
 intro wh pins s σ H Q I h
 refine isTrue_or (aD (ha pins s σ H _ I h) fun c s1 ⟨H1,I1,q1⟩=>?_)
 cases c with
 |true=>exact⟨H1,I1,q1⟩
 |false=>exact hb wh pins s1 σ H1 Q I1 q1
theorem Rj(ha:PT X a tA):PT X (.UnaryOp .Not a pos) (HL tA):=by
 intro pins s σ H Q I h
 exact isTrue_not (ha pins s σ H (fun c H1=>Q (!c) H1) I h)
noncomputable def GO(ta tb:TE):TE:=fun σ H Q=>ta σ H fun x H1=>∃c,x=.bl c∧if c=true then tb σ H1 Q else Q (.bl false) H1
noncomputable def HM(ta tb:TE):TE:=fun σ H Q=>ta σ H fun x H1=>∃c,x=.bl c∧if c=true then Q (.bl true) H1 else tb σ H1 Q
noncomputable def GP(ta:TE):TE:=fun σ H Q=>ta σ H fun x H1=>∃c,x=.bl c∧Q (.bl (!c)) H1
theorem FG{op}{t:TE}(h:PE X a t):PE X (.BoolOp op [a] pos) t:=fun pins s σ H Q I hw=>BoolOp_one (h pins s σ H Q I hw)
theorem Rk(ha:PE X a ta)(hb:PE X (.BoolOp .And (b::rest) pos) tb):PE X (.BoolOp .And (a::b::rest) pos) (GO ta tb):=by
 intro pins s σ H Q I h
 refine BoolOp_and (aD (ha pins s σ H _ I h) fun v s1 ⟨x,H1,I1,r1,q1⟩=>?_)
 obtain⟨c,rfl,q1⟩:=q1
 cases r1
 refine iP ?_
 cases c with
 |true=>exact hb pins s1 σ H1 Q I1 q1
 |false=>exact⟨.bl false,H1,I1,rfl,q1⟩
theorem Uc(ha:PE X a ta)(hb:PE X (.BoolOp .Or (b::rest) pos) tb):PE X (.BoolOp .Or (a::b::rest) pos) (HM ta tb):=by
 intro pins s σ H Q I h
 refine BoolOp_or (aD (ha pins s σ H _ I h) fun v s1 ⟨x,H1,I1,r1,q1⟩=>?_)
 obtain⟨c,rfl,q1⟩:=q1
 cases r1
 refine iP ?_
 cases c with
 |false=>exact hb pins s1 σ H1 Q I1 q1
 |true=>exact⟨.bl true,H1,I1,rfl,q1⟩
theorem Rl(ha:PE X a ta):PE X (.UnaryOp .Not a pos) (GP ta):=by
 intro pins s σ H Q I h
 refine UnaryOp_ (aD (ha pins s σ H _ I h) fun v s1 ⟨x,H1,I1,r1,q1⟩=>?_)
 obtain⟨c,rfl,q1⟩:=q1
 cases r1
 exact not_of (iP ⟨.bl (!c),H1,I1,rfl,q1⟩)
noncomputable def Jm(t:TT)(ta tb:TE):TE:=fun σ H Q=>t σ H fun c H1=>if c=true then ta σ H1 Q else tb σ H1 Q
theorem Nt{c:Expr}(hc:PT X c tA)(ha:PE X a ta)(hb:PE X b tb):PE X (.IfExp c a b pos) (Jm tA ta tb):=by
 intro pins s σ H Q I h
 refine wpAny_IfExp (aD (hc pins s σ H _ I h) fun d s1 ⟨H1,I1,q1⟩=>?_)
 cases d with
 |true=>exact ha pins s1 σ H1 Q I1 q1
 |false=>exact hb pins s1 σ H1 Q I1 q1
end
def bw(K:PySem.W.Frag)(H:Hp)(a:Addr)(xs:List V):Prop :=
 Rd H a (.lst xs) ∨
  ∃(o:Obj) (its:Array Value) (n:Nat),K.lookup a=some o∧o.cls=.type "list" ∧ o.dict=none∧o.data=.seq its n∧its.size≤sizeLine∧Vals xs its.toList
def bh(K:PySem.W.Frag)(H:Hp)(a:Addr)(xs:List V):Prop :=
 H a=some (.tup xs) ∨
  ∃(o:Obj) (its:Array Value) (n:Nat),K.lookup a=some o∧o.cls=.type "tuple" ∧ o.dict=none∧o.data=.seq its n∧its.size≤sizeLine∧4≤its.size∧Vals xs its.toList
theorem bh.own{K:PySem.W.Frag}{H:Hp}{a:Addr}{xs:List V}(h:bh K H a xs)(hl:xs.length<4):H a=some (.tup xs):=by
 rcases h with h|⟨_,its,_,_,_,_,_,_,h4,r⟩
 ·exact h
 ·have:=r.length
  simp only[Array.length_toList]at this
  omega
noncomputable def oY:Value→Option V
 |.none=>some .non
 |.bool b=>some (.bl b)
 |.int i _=>some (.int i)
 |.str x _=>some (.str x)
 |.bytes b _=>some (.fZ b)
 |.float b _=>some (.sE b)
 |.ref a=>some (.ref a)
 |.type n=>some (.ty n)
 |_=>none
theorem RelV.abs{x:V}{u:Value}(r:RelV x u):oY u=some x:=by
 cases x with
 |non=>cases r;rfl
 |bl _=>cases r;rfl
 |int _=>obtain⟨t,rfl⟩:=r;rfl
 |str _=>obtain⟨t,rfl⟩:=r;rfl
 |fZ _=>obtain⟨t,rfl⟩:=r;rfl
 |sE _=>obtain⟨t,rfl⟩:=r;rfl
 |ref _=>cases r;rfl
 |ty _=>cases r;rfl
theorem RelV.inj{x y:V}{u:Value}(r:RelV x u)(q:RelV y u):x=y:=c9 (r.abs.symm.trans q.abs)
theorem Vals.inj:∀{xs ys:List V}{us:List Value},Vals xs us→Vals ys us→xs=ys
 |_,_,_,.nil,.nil=>rfl
 |_,_,_,.cons r t,.cons r' t'=>by rw[r.inj r',Vals.inj t t']
section
variable {X:Cx}{pins:List (Addr×Obj)}{σ:St}{H:Hp}{s:Shared}{a:Addr}{xs ys:List V}
theorem bh.of{K:PySem.W.Frag}(h:H a=some (.tup xs)):bh K H a xs:=.inl h
theorem Inv.list(I:Inv X pins σ H s)(h:bw X.K H a xs):∃its:List Value,Vals xs its∧PlainL s.heap a its.toArray∧xs.length≤sizeLine:=by
 rcases h with h|⟨o,its,n,hk,hc,hd,hs,hz,r⟩
 ·obtain⟨z,its,n,r,e⟩:=h.ok I.aA
  exact⟨its,r,⟨_,n,e,rfl,rfl,rfl⟩,z⟩
 ·refine⟨its.toList,r,⟨o,n,I.gy a o hk,hc,hd,by simpa using hs⟩,?_⟩
  have e:=r.length
  simp only[Array.length_toList]at e
  omega
theorem Inv.tuple(I:Inv X pins σ H s)(h:bh X.K H a xs):∃its:List Value,Vals xs its∧IsTup s.heap a its.toArray∧xs.length≤sizeLine:=by
 rcases h with h|⟨o,its,n,hk,hc,_,hs,hz,_,r⟩
 ·obtain⟨z,its,r,p⟩:=I.aA _ _ h
  exact⟨its,r,p.tup,z⟩
 ·refine⟨its.toList,r,⟨o,I.gy a o hk,hc,n,by simpa using hs⟩,?_⟩
  have e:=r.length
  simp only[Array.length_toList]at e
  omega
theorem Inv.uB(I:Inv X pins σ H s)(h:bw X.K H a xs)(h':bw X.K H a ys):xs=ys:=by
 obtain⟨its,r,⟨o,n,e,_,_,d⟩,_⟩:=I.list h
 obtain⟨its',r',⟨o',n',e',_,_,d'⟩,_⟩:=I.list h'
 rw[e]at e';cases e'
 rw[d]at d'
 injection d' with d1 _
 have:its=its':=by simpa using cf Array.toList d1
 subst this
 exact r.inj r'
theorem Inv.yx(I:Inv X pins σ H s)(h:bh X.K H a xs)(h':bh X.K H a ys):xs=ys:=by
 obtain⟨its,r,⟨o,e,_,n,d⟩,_⟩:=I.tuple h
 obtain⟨its',r',⟨o',e',_,n',d'⟩,_⟩:=I.tuple h'
 rw[e]at e';cases e'
 rw[d]at d'
 injection d' with d1 _
 have:its=its':=by simpa using cf Array.toList d1
 subst this
 exact r.inj r'
end
noncomputable abbrev Cx.wish(X:Cx)(E:Value→Shared→Prop):Cx:={ X with xe:=E }
noncomputable abbrev Cx.nH(X:Cx):Cx:=X.wish fun _ _=>False
theorem Cx.Ok.wish{X:Cx}(ok:X.Ok)(E:Value→Shared→Prop):(X.wish E).Ok :=
 ⟨ok.mod,ok.kind,ok.glob,ok.blt,ok.above,ok.inj,ok.has,ok.sJ,ok.hd,ok.frames,ok.xc,ok.Ji,ok.bs,ok.kO,ok.rF,ok.vU,ok.iE,ok.pT⟩
theorem Cx.Ok.lD{X:Cx}{E:Value→Shared→Prop}(ok:(X.wish E).Ok):X.Ok :=
 ⟨ok.mod,ok.kind,ok.glob,ok.blt,ok.above,ok.inj,ok.has,ok.sJ,ok.hd,ok.frames,ok.xc,ok.Ji,ok.bs,ok.kO,ok.rF,ok.vU,ok.iE,ok.pT⟩
section
variable {X:Cx}{pins:List (Addr×Obj)}{σ:St}{H:Hp}{s:Shared}{E:Value→Shared→Prop}
theorem Inv.wish(I:Inv X pins σ H s)(E:Value→Shared→Prop):Inv (X.wish E) pins σ H s:=⟨I.ok.wish E,I.os,I.bare,I.base,I.loc,I.cell,I.free,I.gE,I.pin,I.aA,I.len⟩
theorem Inv.lD(I:Inv (X.wish E) pins σ H s):Inv X pins σ H s:=⟨I.ok.lD,I.os,I.bare,I.base,I.loc,I.cell,I.free,I.gE,I.pin,I.aA,I.len⟩
theorem SP.lD{D:Ends}{f:Flow}{s':Shared}(h:SP (X.wish E) pins D f s'):SP X pins D f s':=by
 cases f with
 |next=>obtain⟨σ',H',I,q⟩:=h;exact⟨σ',H',I.lD,q⟩
 |brk=>obtain⟨σ',H',I,q⟩:=h;exact⟨σ',H',I.lD,q⟩
 |cont=>obtain⟨σ',H',I,q⟩:=h;exact⟨σ',H',I.lD,q⟩
 |ret u=>obtain⟨v,σ',H',I,r,q⟩:=h;exact⟨v,σ',H',I.lD,r,q⟩
theorem f6.nH{st:List Stmt}{t:TS}(h:f6 X.nH st t):f6 X st t:=fun pins s σ H D I hw =>
 fA (h pins s σ H D (I.wish _) hw) (fun _ _ q=>q.lD) fun _ _ z=>False.elim z
end
section
variable {X:Cx}{st:Stmt}{rest:List Stmt}{t u:TS}{e:Expr}{te:TE}{pos:Pos}
noncomputable def vt:TS:=fun D σ H=>D.nx σ H
noncomputable def lN(t u:TS):TS:=fun D σ H=>t { D with nx:=u D } σ H
theorem O7:f6 X [] vt:=fun _ _ σ H _ I h=>wI ⟨σ,H,I,h⟩
theorem Nu(h1:PS X st t)(h2:f6 X rest u):f6 X (st::rest) (lN t u):=by
 intro pins s σ H D I h
 refine wpAny_execs_cons (aD (h1 pins s σ H { D with nx:=u D } I h) fun f s1 q=>?_)
 cases f with
 |next =>
  obtain⟨σ',H',I',q⟩:=q
  exact h2 pins s1 σ' H' D I' q
 |ret v=>exact q
 |brk=>exact q
 |cont=>exact q
theorem O8(h1:PS X st t):f6 X [st] t:=by
 intro pins s σ H D I h
 refine wpAny_execs_cons (aD (h1 pins s σ H D I h) fun f s1 q=>?_)
 cases f with
 |next=>exact wI q
 |ret v=>exact q
 |brk=>exact q
 |cont=>exact q
theorem Inv.quiet{pins:List (Addr×Obj)}{σ:St}{H:Hp}{s:Shared}(I:Inv X pins σ H s):interactive X.env=false:=by simp[interactive,I.ok.kind]
noncomputable def oN(te:TE):TS:=fun D σ H=>te σ H fun _ H1=>D.nx σ H1
theorem O9(he:PE X e te)(hs:swapsWith e none pos.line X.env=pure false:=by rfl):PS X (.Expr e pos) (oN te):=by
 intro pins s σ H D I h
 exact wpAny_Expr_any (aD (he pins s σ H _ I h) fun v s1 ⟨x,H1,I1,r1,q1⟩=>⟨σ,H1,I1,q1⟩) I.quiet hs
noncomputable def rG(te:TE):TS:=fun D σ H=>te σ H D.rt
theorem Rm(he:PE X e te):PS X (.Return (some e) pos) (rG te):=by
 intro pins s σ H D I h
 exact wpAny_Return_some (aD (he pins s σ H _ I h) fun v s1 ⟨x,H1,I1,r1,q1⟩=>⟨x,σ,H1,I1,r1,q1⟩)
noncomputable def vV(c:TT)(t u:TS):TS:=fun D σ H=>c σ H fun b H1=>if b=true then t D σ H1 else u D σ H1
theorem Ud{c:Expr}{a b:List Stmt}{tc:TT}(hc:PT X c tc)(ha:f6 X a t)(hb:f6 X b u):PS X (.If c a b pos) (vV tc t u):=by
 intro pins s σ H D I h
 refine wpAny_If (aD (hc pins s σ H _ I h) fun d s1 ⟨H1,I1,q1⟩=>?_)
 cases d with
 |true=>exact ha pins s1 σ H1 D I1 q1
 |false=>exact hb pins s1 σ H1 D I1 q1
end
noncomputable abbrev TG:=V→St→Hp→(St→Hp→Prop)→Prop
noncomputable abbrev gP:=List V→St→Hp→(St→Hp→Prop)→Prop
def PG(X:Cx)(target:Expr)(t:TG):Prop :=
 ∀(pins:List (Addr×Obj)) (s:Shared) (σ:St) (H:Hp) (v:V) (u:Value) (Q:St→Hp→Prop),Inv X pins σ H s→RelV v u→t v σ H Q →
  wpAny (model X.prog X.w) X.A (assign target X.env u) (fun _ s'=>∃σ' H',Inv X pins σ' H' s'∧Q σ' H') X.xe s
def pU(X:Cx)(ts:List Expr)(t:gP):Prop :=
 ∀(pins:List (Addr×Obj)) (s:Shared) (σ:St) (H:Hp) (vs:List V) (us:List Value) (Q:St→Hp→Prop),Inv X pins σ H s→Vals vs us→t vs σ H Q →
  wpAny (model X.prog X.w) X.A (assignInOrder ((assignEach ts X.env).map (·.2)) us) (fun _ s'=>∃σ' H',Inv X pins σ' H' s'∧Q σ' H') X.xe s
noncomputable abbrev zP:=V→V→V→Hp→(Hp→Prop)→Prop
def HN(X:Cx)(t:zP):Prop :=
 ∀(pins:List (Addr×Obj)) (s:Shared) (σ:St) (H:Hp) (o i v:V) (ov iv u:Value) (Q:Hp→Prop),Inv X pins σ H s→RelV o ov→RelV i iv→RelV v u→t o i v H Q →
  wpAny (model X.prog X.w) X.A (setItem ov iv u) (fun _ s'=>∃H',Inv X pins σ H' s'∧Q H') X.xe s
section
variable {X:Cx}{pos:Pos}
noncomputable def g7(i:Nat):TG:=fun v σ H Q=>Q (σ.set i (some v)) H
theorem EC{i:Nat}{x:Str}(hN:X.N.Nodup)(hi:X.N[i]?=some x)(hx:Loc X.env.scope x)(hf:X.fn x=true∨X.env.scope.names.lookup x=some .local:=by first|exact .inl rfl|exact .inr rfl|assumption):PG X (.Name x pos) (g7 i):=by
 intro pins s σ H v u Q I r h
 exact wpAny_assign_Name (D2 I hN hi hx r (fun s' I'=>⟨_,H,I',h⟩) hf)
noncomputable def HQ:gP:=fun vs σ H Q=>vs=[]∧Q σ H
noncomputable def GQ(t:TG)(u:gP):gP:=fun vs σ H Q=>∃v r,vs=v::r∧t v σ H fun σ' H'=>u r σ' H' Q
theorem Pa:pU X [] HQ:=by
 intro pins s σ H vs us Q I r h
 obtain⟨e,h⟩:=h
 subst e
 cases r
 exact assignInOrder_nil ⟨σ,H,I,h⟩
theorem Nv{e:Expr}{es:List Expr}{t:TG}{u:gP}(h1:PG X e t)(h2:pU X es u)
  (hs:(assignEach (e::es) X.env).map (·.2)=assign e X.env::(assignEach es X.env).map (·.2):=by rfl):pU X (e::es) (GQ t u):=by
 intro pins s σ H vs us Q I r h
 obtain⟨v,vr,e1,h⟩:=h
 subst e1
 cases r with
 |cons r rr =>
  rw[hs]
  refine assignInOrder_cons (aD (h1 pins s σ H _ _ _ I r h) fun _ s1 ⟨σ1,H1,I1,q1⟩=>?_)
  exact h2 pins s1 σ1 H1 _ _ Q I1 rr q1
noncomputable def HR(K:PySem.W.Frag)(n:Nat)(t:gP):TG:=fun v σ H Q=>∃a xs,v=.ref a∧bh K H a xs∧xs.length=n∧t xs σ H Q
theorem Rn{es:List Expr}{k:Nat}{t:gP}{n:Nat}(hc:X.calm=true)(h:pU X es t)
  (hn:(assignEach es X.env).length=n:=by rfl) (A6:(assignEach es X.env).findIdx? (·.1)=none:=by rfl):PG X (.Tuple es k pos) (HR X.K n t):=by
 intro pins s σ H v u Q I r hw
 obtain⟨a,xs,e1,hq,hl,hw⟩:=hw
 subst e1
 cases r
 obtain⟨its,rv,ht,hz⟩:=I.tuple hq
 refine assign_Tuple_tuple (I.ok.hd hc) ht (by simp[hn,←hl,rv.length]) A6 fun h' hx=>?_
 have I1:Inv X pins σ H { s with heap:=h' }:=I.kept (t':=s.toks) fun b o e=>hx b o (cL (bx e)) e
 exact h pins _ σ H xs _ Q I1 (by simpa using rv) hw
noncomputable def HS(to ti:TE)(t:zP):TG:=fun v σ H Q=>to σ H fun o H1=>ti σ H1 fun i H2=>t o i v H2 fun H3=>Q σ H3
theorem Ro{o i:Expr}{to ti:TE}{t:zP}(ho:PE X o to)(hi:PE X i ti)(hs:HN X t)
  (ha:∀v,assign (.Subscript o i pos) X.env v=(do
   let ov ←holding [v] (eval o X.env)
   let iv ←holding [v,ov] (eval i X.env)
   standAt pos
   holding [v,ov,iv] (setItem ov iv v)
   release [v,ov,iv] []):=by intro _;rfl):PG X (.Subscript o i pos) (HS to ti t):=by
 intro pins s σ H v u Q I r h
 rw[ha]
 refine aw (lS (aD (ho pins s σ H _ I h) fun ov s1 ⟨x,H1,I1,r1,q1⟩=>?_))
 refine aw (lS (aD (hi pins s1 σ H1 _ I1 q1) fun iv s2 ⟨y,H2,I2,r2,q2⟩=>?_))
 refine aw (wJ (aw (lS (aD (hs pins s2 σ H2 x y v ov iv u _ I2 r1 r2 r q2) fun _ s3 ⟨H3,I3,q3⟩=>?_))))
 exact wpAny_release ⟨σ,H3,I3,q3⟩
noncomputable def gK(te:TE)(g:TG):TS:=fun D σ H=>te σ H fun x H1=>g x σ H1 D.nx
theorem Rq{tg e:Expr}{te:TE}{g:TG}(he:PE X e te)(hg:PG X tg g)(hs:swapsWithSole [tg] e pos.line X.env=pure false:=by rfl)(hw:swappedStores [tg] e X.env=pure none:=by rfl)
  (h1:(assignEach [tg] X.env).map (·.2)=[assign tg X.env]:=by rfl):PS X (.Assign [tg] e pos) (gK te g):=by
 intro pins s σ H D I h
 refine wpAny_Assign_stores (aD (he pins s σ H _ I h) fun v s1 ⟨x,H1,I1,r1,q1⟩=>?_) hs hw
 rw[h1]
 exact aD (hg pins s1 σ H1 x v _ I1 r1 q1) fun _ s2 q=>q
theorem Rr{i:Nat}{x:Str}{e:Expr}{te:TE}{pos':Pos}(hN:X.N.Nodup)(hi:X.N[i]?=some x)(hx:Loc X.env.scope x)(he:PE X e te)(hs:swapsWith e (some (.Name x pos')) pos.line X.env=pure false:=by rfl)(hf:X.fn x=true∨X.env.scope.names.lookup x=some .local:=by first|exact .inl rfl|exact .inr rfl|assumption) :
  PS X (.Assign [.Name x pos'] e pos) (gK te (g7 i)):=by
 intro pins s σ H D I h
 refine wpAny_Assign_Name (aD (he pins s σ H _ I h) fun v s1 ⟨y,H1,I1,r1,q1⟩=>?_) hs
 exact D2 I1 hN hi hx r1 (fun s2 I2=>⟨_,H1,I2,q1⟩) hf
end
section
variable {X:Cx}{pos:Pos}
noncomputable def za(c:TT)(tb:TS):TS:=fun D σ H=>∃W:Nat→St→Hp→Prop,(∃m,W m σ H)∧∀m σ H,W m σ H →
 c σ H fun b H1=>if b=true then ∃N:St→Hp→Prop,(∀σ' H',N σ' H'→∃m',m'<m∧W m' σ' H')∧tb { D with nx:=N,ct:=N,bk:=D.nx } σ H1 else D.nx σ H1
theorem Nw{c:Expr}{body:List Stmt}{tc:TT}{tb:TS}(hp:PassesOwn (model X.prog X.w) X.A X.env X.xe)(hc:PT X c tc)(hb:f6 X body tb):PS X (.While c body [] pos) (za tc tb):=by
 intro pins s σ H D I h
 obtain⟨W,⟨m0,w0⟩,turn⟩:=h
 refine wpAny_While (codeAny_whileLoop (fun n s'=>∃σ' H',Inv X pins σ' H' s'∧W n σ' H') ?_ m0 ⟨σ,H,I,w0⟩)
 rintro n s1 ⟨σ1,H1,I1,w1⟩
 refine nA hp (aD (hc pins s1 σ1 H1 _ I1 (turn n σ1 H1 w1)) fun b s2 ⟨H2,I2,q2⟩=>?_)
 cases b with
 |true =>
  obtain⟨N,hN,q2⟩:=q2
  rw[if_pos rfl]
  refine nA hp (aD (hb pins s2 σ1 H2 _ I2 q2) fun f s3 q3=>?_)
  cases f with
  |next =>
   obtain⟨σ3,H3,I3,n3⟩:=q3
   obtain⟨m',hm,w3⟩:=hN σ3 H3 n3
   exact⟨m',hm,σ3,H3,I3,w3⟩
  |cont =>
   obtain⟨σ3,H3,I3,n3⟩:=q3
   obtain⟨m',hm,w3⟩:=hN σ3 H3 n3
   exact⟨m',hm,σ3,H3,I3,w3⟩
  |brk=>exact q3
  |ret v=>exact q3
 |false =>
  rw[if_neg a6]
  exact wI ⟨σ1,H2,I2,q2⟩
end
structure It where
 go:Nat→Hp→Prop
 ib:Nat→Hp→V→Hp→Prop
 stop:Nat→Hp→Prop
def iF(X:Cx)(pins:List (Addr×Obj))(H:Hp)(b:Addr):Prop :=
 H b=none∧b≠X.env.locals∧b∉X.fs∧(b∈X.ex∨X.s₀.heap.objs.size≤b)∧(∀x c,X.env.cells.lookup x=some c→c≠b)∧∀p∈X.pn++pins,p.1≠b
theorem Inv.mX{X:Cx}{pins:List (Addr×Obj)}{σ:St}{H H':Hp}{s:Shared}{b:Addr}(I:Inv X pins σ H s)(hb:s.heap.objs.size≤b)(hn:H' b=none):iF X pins H' b:=by
 refine⟨hn,Nat.ne_of_gt (dI I.lt hb),I.Vp hb,.inr (bS I.sz hb),fun x c e z=>?_,fun p hp z=>?_⟩
 ·obtain⟨v,q⟩:=I.cell x c e
  exact absurd (dI q.lt (by rw[z];exact hb)) (jD _)
 ·exact absurd (dI (bx (I.pin p hp).1) (by rw[z];exact hb)) (jD _)
structure Turn (P:Program)(w:World)(K:PySem.W.Frag)(tg:Expr)(J:It)(fp:List Addr)(it:Addr)(tn:Nat→Heap→Prop):Prop where
 mem:it∈fp
 obj:∀i h,tn i h→∀b∈fp,∃o,h.get? b=some o∧∀v,o.data≠.cell v
 keep:∀i h h',tn i h→(∀b∈fp,∀o,h.get? b=some o→h'.get? b=some o)→tn i h'
 item:∀(X:Cx),X.prog=P→X.w=w→X.K=K→X.calm=true→∀(i:Nat) (pins:List (Addr×Obj)) (s:Shared) (σ:St) (H:Hp) (E:Value→Shared→Prop),Inv X pins σ H s→(∀b∈fp,iF X pins H b)→tn i s.heap→J.go i H →
  wpAny (model P w) X.A (pyNext (.ref it)) (fun r s1=>∃u,r=some u ∧
   wpAny (model P w) X.A (letOwnedTupleGo tg (.ref it) u) (fun _ s2=>∃x H',Inv X pins σ H' s2∧RelV x u∧J.ib i H x H'∧tn (i+1) s2.heap∧∀b∈fp,H' b=none) E s1) E s
 done:∀(X:Cx),X.prog=P→X.w=w→X.K=K→X.calm=true→∀(i:Nat) (pins:List (Addr×Obj)) (s:Shared) (σ:St) (H:Hp) (E:Value→Shared→Prop),Inv X pins σ H s→(∀b∈fp,iF X pins H b)→tn i s.heap→J.stop i H →
  wpAny (model P w) X.A (pyNext (.ref it)) (fun r s1=>r=none∧Inv X pins σ H s1) E s
 self:∀(A:Around) (i:Nat) (s:Shared) (Q:Value→Shared→Prop) (E:Value→Shared→Prop),tn i s.heap→Q (.ref it) s→wpAny (model P w) A (pyIter (.ref it)) Q E s
noncomputable abbrev TI:=St→Hp→(It→Hp→Prop)→Prop
def Jn(X:Cx)(pins:List (Addr×Obj))(σ:St)(tg:Expr)(R:It→Hp→Prop)(xh:Value)(s2:Shared):Prop :=
 ∃(it:Addr) (fp:List Addr) (tn:Nat→Heap→Prop) (J:It) (H':Hp),xh=.ref it∧Inv X pins σ H' s2∧Turn X.prog X.w X.K tg J fp it tn∧tn 0 s2.heap∧(∀b∈fp,iF X pins H' b)∧R J H'
def PI(X:Cx)(tg iter:Expr)(wi:TI):Prop :=
 ∀(pins:List (Addr×Obj)) (s:Shared) (σ:St) (H:Hp) (R:It→Hp→Prop),Inv X pins σ H s→wi σ H R →
  wpAny (model X.prog X.w) X.A (eval iter X.env) (fun v s1=>wpAny (model X.prog X.w) X.A (pyIter v) (Jn X pins σ tg R) X.xe s1) X.xe s
theorem qV{M:Model}{A:Around}{E:Value→Shared→Prop}{s:Shared}{tg:Expr}{it:Addr}{u:Value}{o:Obj}{n:String}{vs:Array Value}{Q:Unit→Shared→Prop}(ho:s.heap.get? it=some o)(hc:o.cls=.type n)(hd:o.data=.fields vs)
    (hn:["enumerate", "zip", "dict_itemiterator", "dict_reverseitemiterator", "odict_iterator", "itertools.zip_longest", "itertools.pairwise"].contains n=false) (hQ:Q () s):wpAny M A (letOwnedTupleGo tg (.ref it) u) Q E s:=by
  unfold letOwnedTupleGo
  cases tg<;>first
    |exact aO hQ
    | (cases u<;>first
        |exact aO hQ
        | (refine aw (wpAny_load ho ?_)
           rw[hc,hd]
           show wpAny M A (if (["enumerate", "zip", "dict_itemiterator", "dict_reverseitemiterator", "odict_iterator", "itertools.zip_longest", "itertools.pairwise"].contains n&&vs[0]?==some (rawInt _))=true then _ else _) Q E s
           rw[if_neg (by intro h;rw[hn,Bool.false_and]at h;cases h)]
           exact aO hQ))
noncomputable def A7(K:PySem.W.Frag)(a:Addr):It :=
 ⟨fun i H=>∃xs x,bw K H a xs∧xs[i]?=some x,fun i H x H'=>H'=H∧∀xs,bw K H a xs→xs[i]?=some x,fun i H=>∃xs,bw K H a xs∧xs.length≤i⟩
noncomputable def A8(K:PySem.W.Frag)(a:Addr):It :=
 ⟨fun i H=>∃xs x,bh K H a xs∧xs[i]?=some x,fun i H x H'=>H'=H∧∀xs,bh K H a xs→xs[i]?=some x,fun i H=>∃xs,bh K H a xs∧xs.length≤i⟩
noncomputable def xi(lo:Int)(n:Nat):It:=⟨fun i _=>i<n,fun i H x H'=>H'=H∧x=.int (lo+i),fun i _=>n≤i⟩
theorem Mm{P:Program}{w:World}{K:PySem.W.Frag}{tg:Expr}(a it:Addr):Turn P w K tg (A7 K a) [it] it (fun i h=>h.IsListIter it a i) where
 mem:=by simp
 obj:=fun i h st b hb=>by
  have e:b=it:=by simpa using hb
  subst e
  obtain⟨o,e,c,d⟩:=st
  exact⟨o,e,fun v z=>by rw[d]at z;cases z⟩
 keep:=fun i h h' st k=>st.at fun o e=>k it (by simp) o e
 item:=by
  intro X hP hw hK hc i pins s σ H E I hf st hg
  subst hP hw hK
  obtain⟨xs,x,hq,hx⟩:=hg
  obtain⟨its,rv,p,hz⟩:=I.list hq
  obtain⟨u,hu,ru⟩:=rv.get hx
  obtain⟨f0,f1,f2,f3,f4,f5⟩:=hf it (by simp)
  refine wpAny_pyNext_list_item st p.isList (x:=u) (by simpa using hu) fun h' gA sb=>?_
  have I1:Inv X pins σ H { s with heap:=h' }:=I.turned (t':=s.toks) (fun b o hb e=>(sb.2 b hb).trans e) f0 f1 f3 f4 f5
  obtain⟨o,e,c,d⟩:=id gA
  exact⟨u,rfl,qV (s:={ s with heap:=h' }) e c d (by decide) ⟨x,H,I1,ru,⟨rfl,fun ys hy=>by rw[I.uB hy hq];exact hx⟩,gA,fun b hb=>(hf b hb).1⟩⟩
 done:=by
  intro X hP hw hK hc i pins s σ H E I hf st hg
  subst hP hw hK
  obtain⟨xs,hq,hx⟩:=hg
  obtain⟨its,rv,p,hz⟩:=I.list hq
  obtain⟨f0,f1,f2,f3,f4,f5⟩:=hf it (by simp)
  have hl:=rv.length
  exact wpAny_pyNext_list_end (I.ok.hd hc) st p.isList (by simp;omega) fun h' eb=>⟨rfl,I.turned (t':=s.toks) (fun b o hb e=>eb b o hb e) f0 f1 f3 f4 f5⟩
 self:=fun _ _ _ _ _ st h=>wpAny_pyIter_listiter st h
theorem LK{P:Program}{w:World}{K:PySem.W.Frag}{tg:Expr}(a it:Addr):Turn P w K tg (A8 K a) [it] it (fun i h=>h.IsTupleIter it a i) where
 mem:=by simp
 obj:=fun i h st b hb=>by
  have e:b=it:=by simpa using hb
  subst e
  obtain⟨o,e,c,d⟩:=st
  exact⟨o,e,fun v z=>by rw[d]at z;cases z⟩
 keep:=fun i h h' st k=>st.at fun o e=>k it (by simp) o e
 item:=by
  intro X hP hw hK hc i pins s σ H E I hf st hg
  subst hP hw hK
  obtain⟨xs,x,hq,hx⟩:=hg
  obtain⟨its,rv,p,hz⟩:=I.tuple hq
  obtain⟨u,hu,ru⟩:=rv.get hx
  obtain⟨f0,f1,f2,f3,f4,f5⟩:=hf it (by simp)
  refine wpAny_pyNext_tuple_item st (show s.heap.IsTuple a its.toArray from p) (x:=u) (by simpa using hu) fun h' gA sb=>?_
  have I1:Inv X pins σ H { s with heap:=h' }:=I.turned (t':=s.toks) (fun b o hb e=>(sb.2 b hb).trans e) f0 f1 f3 f4 f5
  obtain⟨o,e,c,d⟩:=id gA
  exact⟨u,rfl,qV (s:={ s with heap:=h' }) e c d (by decide) ⟨x,H,I1,ru,⟨rfl,fun ys hy=>by rw[I.yx hy hq];exact hx⟩,gA,fun b hb=>(hf b hb).1⟩⟩
 done:=by
  intro X hP hw hK hc i pins s σ H E I hf st hg
  subst hP hw hK
  obtain⟨xs,hq,hx⟩:=hg
  obtain⟨its,rv,p,hz⟩:=I.tuple hq
  obtain⟨f0,f1,f2,f3,f4,f5⟩:=hf it (by simp)
  have hl:=rv.length
  exact wpAny_pyNext_tuple_end (I.ok.hd hc) st (show s.heap.IsTuple a its.toArray from p) (by simp;omega) fun h' eb=>⟨rfl,I.turned (t':=s.toks) (fun b o hb e=>eb b o hb e) f0 f1 f3 f4 f5⟩
 self:=fun _ _ _ _ _ st h=>wpAny_pyIter_tupleiter st h
theorem LN{P:Program}{w:World}{K:PySem.W.Frag}{tg:Expr}(it:Addr)(lo:Int)(n:Nat):Turn P w K tg (xi lo n) [it] it (fun i h=>IsRangeIter h it (lo+(i:Nat)*1) ((n:Int)-(i:Nat)) 1) where
 mem:=by simp
 obj:=fun i h st b hb=>by
  have e:b=it:=by simpa using hb
  subst e
  exact⟨_,st,fun v z=>by
   have z':Data.fields _=Data.cell v:=z
   cases z'⟩
 keep:=fun i h h' st k=>k it (by simp) _ st
 item:=by
  intro X hP hw hK hc i pins s σ H E I hf st hg
  subst hP hw hK
  obtain⟨f0,f1,f2,f3,f4,f5⟩:=hf it (by simp)
  have W:=Walks.range (prog:=X.prog) (w:=X.w) (I.ok.hd hc) it lo 1 n
  refine W.item i s _ _ hg st fun v h' tk hv gA kk=>?_
  obtain⟨t,rfl⟩:=hv
  have I1:Inv X pins σ H { s with heap:=h',toks:=tk }:=I.turned (fun b o hb e=>kk b o (by simpa using hb) e) f0 f1 f3 f4 f5
  refine⟨_,rfl,qV (s:={ s with heap:=h',toks:=tk }) (n := "range_iterator") gA rfl rfl (by decide) ⟨.int (lo+i),H,I1,⟨t,?_⟩,⟨rfl,rfl⟩,gA,fun b hb=>(hf b hb).1⟩⟩
  rw[Int.mul_one]
 done:=by
  intro X hP hw hK hc i pins s σ H E I hf st hg
  subst hP hw hK
  obtain⟨f0,f1,f2,f3,f4,f5⟩:=hf it (by simp)
  exact wpAny_pyNext_range_end (I.ok.hd hc) st (by have:n≤i:=hg;omega) fun h' eb=>⟨rfl,I.turned (t':=s.toks) (fun b o hb e=>eb b o hb e) f0 f1 f3 f4 f5⟩
 self:=fun _ _ _ _ _ st h=>wpAny_pyIter_rangeiter st h
section
variable {X:Cx}{tg:Expr}
noncomputable def zC(K:PySem.W.Frag)(tl:TE):TI:=fun σ H R=>tl σ H fun x H1=>∃a,x=.ref a∧(∃xs,bw K H1 a xs)∧R (A7 K a) H1
noncomputable def zQ(K:PySem.W.Frag)(tl:TE):TI:=fun σ H R=>tl σ H fun x H1=>∃a,x=.ref a∧(∃xs,bh K H1 a xs)∧R (A8 K a) H1
theorem Pb{l:Expr}{tl:TE}(hl:PE X l tl):PI X tg l (zC X.K tl):=by
 intro pins s σ H R I h
 refine aD (hl pins s σ H _ I h) fun v s1 ⟨x,H1,I1,r1,q1⟩=>?_
 obtain⟨a,e,⟨xs,hq⟩,q⟩:=q1
 subst e
 cases r1
 obtain⟨its,rv,p,hz⟩:=I1.list hq
 refine wpAny_pyIter_list p.isList ?_
 refine⟨s1.heap.objs.size,[s1.heap.objs.size],_,_,H1,rfl,I1.kept (t':=s1.toks) fun b o e=>cA _ e,Mm a _,⟨_,eU _ rfl,rfl,rfl⟩,fun b hb=>?_,q⟩
 have e:b=s1.heap.objs.size:=by simpa using hb
 subst e
 exact I1.mX (aR _) (I1.aA.fresh (aR _))
theorem Rt{l:Expr}{tl:TE}(hl:PE X l tl):PI X tg l (zQ X.K tl):=by
 intro pins s σ H R I h
 refine aD (hl pins s σ H _ I h) fun v s1 ⟨x,H1,I1,r1,q1⟩=>?_
 obtain⟨a,e,⟨xs,hq⟩,q⟩:=q1
 subst e
 cases r1
 obtain⟨its,rv,p,hz⟩:=I1.tuple hq
 refine wpAny_pyIter_tuple (show s1.heap.IsTuple a its.toArray from p) ?_
 refine⟨s1.heap.objs.size,[s1.heap.objs.size],_,_,H1,rfl,I1.kept (t':=s1.toks) fun b o e=>cA _ e,LK a _,⟨_,eU _ rfl,rfl,rfl⟩,fun b hb=>?_,q⟩
 have e:b=s1.heap.objs.size:=by simpa using hb
 subst e
 exact I1.mX (aR _) (I1.aA.fresh (aR _))
theorem Nx{pins:List (Addr×Obj)}{σ:St}{H:Hp}{s:Shared}{R:It→Hp→Prop}{E:Value→Shared→Prop}{lo hi:Int}{t u v:Tok}{tk:Nat}(I:Inv X pins σ H s)(h1:-(2^62)≤lo)(h2:lo<2^62)(h3:-(2^62)≤hi)(h4:hi<2^62)
  (q:R (xi lo (hi-lo).toNat) H):wpAny (model X.prog X.w) X.A (pyIter (.ref s.heap.objs.size)) (Jn X pins σ tg R) E { s with heap:=s.heap.push { cls:=.type "range",data:=.fields #[.int lo t,.int hi u,.int 1 v] },toks:=tk }:=by
 refine wpAny_pyIter_range (IsRange.new ..) (small_one h1 h2 h3 h4) ?_
 have I1:Inv X pins σ H { s with heap:=s.heap.push { cls:=.type "range",data:=.fields #[.int lo t,.int hi u,.int 1 v] },toks:=tk }:=I.kept fun b o e=>cA _ e
 refine⟨(s.heap.push { cls:=.type "range",data:=.fields #[.int lo t,.int hi u,.int 1 v] }).objs.size,[(s.heap.push { cls:=.type "range",data:=.fields #[.int lo t,.int hi u,.int 1 v] }).objs.size],_,_,H,rfl,
  I1.kept (t':=tk) fun b o e=>cA _ e,LN _ lo (hi-lo).toNat,?_,fun b hb=>?_,q⟩
 ·have e1:lo+((0:Nat):Int)*1=lo:=by simp
  have e2:(((hi-lo).toNat:Nat):Int)-((0:Nat):Int)=Builtin.Range.rangeSize lo hi 1:=by rw[rangeSize_one];split<;>omega
  show IsRangeIter _ _ (lo+((0:Nat):Int)*1) ((((hi-lo).toNat:Nat):Int)-((0:Nat):Int)) 1
  rw[e1,e2]
  exact eU _ rfl
 ·have e:b=(s.heap.push { cls:=.type "range",data:=.fields #[.int lo t,.int hi u,.int 1 v] }).objs.size:=by simpa using hb
  subst e
  exact I1.mX (aR _) (I1.aA.fresh (aR _))
noncomputable def GR(ta:TA):TI:=fun σ H R=>ta σ H fun vs H1=>∃j:Int,vs=[.int j]∧-(2^62)≤j∧j<2^62∧R (xi 0 j.toNat) H1
theorem Mp {a:Expr}{ta:TA}{p pos:Pos} (hg:Gl X "range") (hm:X.mg "range" = none) (ha:PA X [a] ta) (hs:starEach [a] X.env=[(false,eval a X.env)]:=by rfl):PI X tg (.Call (.Name "range" p) [a] [] pos) (GR ta):=by
 intro pins s σ H R I h
 refine Call_ (oy I hg hm boot_range (wK (aD (ha pos pins s σ H _ I h) fun us s1 ⟨vs,H1,I1,r1,q1⟩=>?_) hs rfl))
 obtain⟨j,e,q1,q2,q⟩:=q1
 subst e
 cases r1 with
 |cons r rr =>
  cases rr
  obtain⟨t,rfl⟩:=r
  exact call_range_1 (Nx I1 (by omega) (by omega) q1 q2 (by simpa using q))
noncomputable def ko(wi:TI)(g:TG)(tb:TS):TS:=fun D σ H=>wi σ H fun J H1=>∃W:Nat→Nat→St→Hp→Prop,(∃m,W 0 m σ H1)∧∀i m σ H,W i m σ H →
 (J.stop i H∧D.nx σ H)∨(J.go i H∧∃N:St→Hp→Prop,(∀σ' H',N σ' H'→∃m',m'<m∧W (i+1) m' σ' H')∧∀x H',J.ib i H x H'→g x σ H' fun σ2 H2=>tb { D with nx:=N,ct:=N,bk:=D.nx } σ2 H2)
noncomputable def qJ(fp:List Addr)(h:Heap):List (Addr×Obj):=fp.filterMap fun b=>(h.get? b).map fun o=>(b,o)
theorem uA{fp:List Addr}{h:Heap}{b:Addr}{o:Obj}(hb:b∈fp)(e:h.get? b=some o):(b,o)∈qJ fp h:=List.mem_filterMap.mpr ⟨b,hb,by rw[e];rfl⟩
theorem Mq{fp:List Addr}{h:Heap}{p:Addr×Obj}(hp:p∈qJ fp h):p.1∈fp∧h.get? p.1=some p.2:=by
 obtain⟨b,hb,e⟩:=List.mem_filterMap.mp hp
 cases q:h.get? b with
 |none=>rw[q]at e;cases e
 |some o =>
  rw[q]at e
  have e':(b,o)=p:=c9 e
  subst e'
  exact⟨hb,q⟩
theorem Inv.pinned{pins:List (Addr×Obj)}{σ:St}{H:Hp}{s:Shared}{fp:List Addr}(I:Inv X pins σ H s)(hf:∀b∈fp,iF X pins H b)(ho:∀b∈fp,∃o,s.heap.get? b=some o∧∀v,o.data≠.cell v):Inv X (pins++qJ fp s.heap) σ H s :=
 I.EB fun p hp=>(fX.mp hp).elim (fun z=>I.pin p (iQ _ z)) fun z=>by
  obtain⟨hb,e⟩:=Mq z
  obtain⟨f0,f1,f2,_⟩:=hf p.1 hb
  obtain⟨o,e',d⟩:=ho p.1 hb
  rw[e]at e';cases e'
  exact⟨e,f0,f1,f2,d⟩
theorem Inv.uC{pins pl:List (Addr×Obj)}{σ:St}{H:Hp}{s:Shared}(I:Inv X (pins++pl) σ H s):Inv X pins σ H s:=I.EB fun p hp=>I.pin p (iQ _ (r9 _ hp))
theorem Ru{iter:Expr}{body:List Stmt}{wi:TI}{g:TG}{tb:TS}{pos:Pos}(hp:PassesOwn (model X.prog X.w) X.A X.env X.xe)(hc:X.calm=true)(hi:PI X tg iter wi)(hg:PG X tg g)(hb:f6 X body tb)
  (hs:∀x,foldedSetIterable iter X.env x=pure x:=by intro _;rfl):PS X (.For tg iter body [] pos) (ko wi g tb):=by
 intro pins s σ H D I h
 refine wpAny_For (aD (hi pins s σ H _ I h) fun v s1 h1=>aD h1 fun xh s2 h2=>?_) hs
 obtain⟨it,fp,tn,J,H2,e,I2,T,eV,f2,W,⟨m0,w0⟩,turn⟩:=h2
 subst e
 have stat:∀{H':Hp},(∀b∈fp,H' b=none)→∀b∈fp,iF X pins H' b:=fun hn b hb=>⟨hn b hb,(f2 b hb).2⟩
 refine codeAny_forLoop_any (fun n s'=>∃i σ' H',Inv X pins σ' H' s'∧tn i s'.heap∧(∀b∈fp,H' b=none)∧W i n σ' H') ?_ m0 ⟨0,σ,H2,I2,eV,fun b hb=>(f2 b hb).1,w0⟩
 rintro n s3 ⟨i,σ3,H3,I3,f7,sR,w3⟩
 rcases turn i n σ3 H3 w3 with⟨stop,qn⟩|⟨go,N,hN,step⟩
 ·refine nA hp (aD (T.done X rfl rfl rfl hc i pins s3 σ3 H3 X.xe I3 (stat sR) f7 stop) fun r s4 ⟨hr,I4⟩=>?_)
  subst hr
  exact wI ⟨σ3,H3,I4,qn⟩
 ·refine nA hp (aD (T.item X rfl rfl rfl hc i pins s3 σ3 H3 X.xe I3 (stat sR) f7 go) fun r s4 ⟨u,hr,h4⟩=>?_)
  subst hr
  refine nA hp (aD h4 fun _ s5 ⟨x,H5,I5,r5,y5,dR,A9⟩=>?_)
  have Ba:=I5.pinned (stat A9) (T.obj _ _ dR)
  refine nA hp (aD (hg _ s5 σ3 H5 x u _ Ba r5 (step x H5 y5)) fun _ s6 ⟨σ6,H6,I6,q6⟩=>?_)
  refine nA hp (aD (hb _ s6 σ6 H6 _ I6 q6) fun f s7 q7=>?_)
  have again:∀{σ7:St}{H7:Hp},Inv X (pins++qJ fp s5.heap) σ7 H7 s7→N σ7 H7→∃m,m<n∧∃i σ' H',Inv X pins σ' H' s7∧tn i s7.heap∧(∀b∈fp,H' b=none)∧W i m σ' H':=fun {σ7 H7} I7 n7=>by
   obtain⟨m',hm,w7⟩:=hN σ7 H7 n7
   refine⟨m',hm,i+1,σ7,H7,I7.uC,T.keep _ _ _ dR fun b hb o e=>(I7.pin (b,o) (iQ _ (iQ _ (uA hb e)))).1,fun b hb=>?_,w7⟩
   obtain⟨o,e,d⟩:=T.obj _ _ dR b hb
   exact(I7.pin (b,o) (iQ _ (iQ _ (uA hb e)))).2.1
  cases f with
  |next=>obtain⟨σ7,H7,I7,n7⟩:=q7;exact again I7 n7
  |cont=>obtain⟨σ7,H7,I7,n7⟩:=q7;exact again I7 n7
  |brk=>obtain⟨σ7,H7,I7,q7⟩:=q7;exact⟨σ7,H7,I7.uC,q7⟩
  |ret v=>obtain⟨x7,σ7,H7,I7,r7,q7⟩:=q7;exact⟨x7,σ7,H7,I7.uC,r7,q7⟩
end
noncomputable abbrev R2:=V→V→Hp→VK→Prop
def bz(X:Cx)(f:Value→Value→Sem Value)(r:R2):Prop :=
 ∀(pins:List (Addr×Obj)) (s:Shared) (σ:St) (H:Hp) (x y:V) (v u:Value) (Q:VK),Inv X pins σ H s→RelV x v→RelV y u→r x y H Q →
  wpAny (model X.prog X.w) X.A (f v u) (EP X pins σ Q) X.xe s
def xj(X:Cx)(f:Value→Sem Value)(r:V→Hp→VK→Prop):Prop :=
 ∀(pins:List (Addr×Obj)) (s:Shared) (σ:St) (H:Hp) (x:V) (v:Value) (Q:VK),Inv X pins σ H s→RelV x v→r x H Q →
  wpAny (model X.prog X.w) X.A (f v) (EP X pins σ Q) X.xe s
def gp(X:Cx)(f:Value)(r:List V→Hp→VK→Prop):Prop :=
 ∀(pins:List (Addr×Obj)) (s:Shared) (σ:St) (H:Hp) (xs:List V) (us:List Value) (Q:VK),Inv X pins σ H s→Vals xs us→r xs H Q →
  wpAny (model X.prog X.w) X.A (call f us) (EP X pins σ Q) X.xe s
def Vs(X:Cx)(r:V→Hp→(Bool→Hp→Prop)→Prop):Prop :=
 ∀(pins:List (Addr×Obj)) (s:Shared) (σ:St) (H:Hp) (x:V) (v:Value) (Q:Bool→Hp→Prop),Inv X pins σ H s→RelV x v→r x H Q →
  wpAny (model X.prog X.w) X.A (truthy v) (TP X pins σ Q) X.xe s
noncomputable def lZ(r:R2)(ta tb:TE):TE:=fun σ H Q=>ta σ H fun x H1=>tb σ H1 fun y H2=>r x y H2 Q
noncomputable def Jo(r:V→Hp→VK→Prop)(ta:TE):TE:=fun σ H Q=>ta σ H fun x H1=>r x H1 Q
noncomputable def rI(C:Int→Int→Prop)(g:Int→Int→V):R2:=fun x y H Q=>∃i j,x=.int i∧y=.int j∧C i j∧Q (g i j) H
noncomputable def dS(g:Int→Int→V):R2:=fun x y H Q=>∃i j,x=.int i∧y=.int j∧Q (g i j) H
def rU(g:Int→V):V→Hp→VK→Prop:=fun x H Q=>∃i,x=.int i∧Q (g i) H
section
variable {X:Cx}{a b c:Expr}{ta tb tc:TE}{pos:Pos}
theorem zR(ha:PE X a ta)(hb:PE X b tb){pins:List (Addr×Obj)}{s:Shared}{σ:St}{H:Hp}{R:V→V→Hp→Prop}(I:Inv X pins σ H s)
  (h:ta σ H fun x H1=>tb σ H1 fun y H2=>R x y H2) {Q:Value→Shared→Prop}{f:Value→Value→Sem Value}
  (hf:∀v u s2 x y H2,Inv X pins σ H2 s2→RelV x v→RelV y u→R x y H2→wpAny (model X.prog X.w) X.A (f v u) Q X.xe s2) :
  wpAny (model X.prog X.w) X.A (eval a X.env) (fun v s₁=>wpAny (model X.prog X.w) X.A (eval b X.env) (fun u s₂=>wpAny (model X.prog X.w) X.A (f v u) Q X.xe s₂) X.xe s₁) X.xe s:=by
 refine aD (ha pins s σ H _ I h) fun v s1 ⟨x,H1,I1,r1,q1⟩=>?_
 refine aD (hb pins s1 σ H1 _ I1 q1) fun u s2 ⟨y,H2,I2,r2,q2⟩=>?_
 exact hf v u s2 x y H2 I2 r1 r2 q2
theorem Ue{op:Operator}{r:R2}(ho:bz X (binaryOp op) r)(ha:PE X a ta)(hb:PE X b tb):PE X (.BinOp a op b pos) (lZ r ta tb):=by
 intro pins s σ H Q I h
 exact wpAny_BinOp (zR ha hb I h fun v u s2 x y H2 I2 rx ry q=>ho pins s2 σ H2 x y v u Q I2 rx ry q)
theorem Ug{op:UnaryOp}{r:V→Hp→VK→Prop}(ho:xj X (unaryOp op) r)(ha:PE X a ta):PE X (.UnaryOp op a pos) (Jo r ta):=by
 intro pins s σ H Q I h
 exact UnaryOp_ (aD (ha pins s σ H _ I h) fun v s1 ⟨x,H1,I1,r1,q1⟩=>ho pins s1 σ H1 x v Q I1 r1 q1)
theorem xk{f:Value→Value→Sem Value}{C:Int→Int→Prop}{g:Int→Int→Int}
  (rule:∀(i j:Int) (t u:Tok) (s:Shared) (Q:Value→Shared→Prop) (E:Value→Shared→Prop),C i j→Q (.int (g i j) s.toks) { s with toks:=s.toks+1 }→wpAny (model X.prog X.w) X.A (f (.int i t) (.int j u)) Q E s) :
  bz X f (rI C fun i j=>.int (g i j)):=by
 intro pins s σ H x y v u Q I rx ry h
 obtain⟨i,j,rfl,rfl,hc,q⟩:=h
 obtain⟨t,rfl⟩:=rx
 obtain⟨t',rfl⟩:=ry
 exact rule i j t t' s _ _ hc ⟨.int (g i j),H,I.tok _,⟨_,rfl⟩,q⟩
theorem rH{f:Value→Value→Sem Value}{g:Int→Int→Int}
  (rule:∀(i j:Int) (t u:Tok) (s:Shared) (Q:Value→Shared→Prop) (E:Value→Shared→Prop),Q (.int (g i j) s.toks) { s with toks:=s.toks+1 }→wpAny (model X.prog X.w) X.A (f (.int i t) (.int j u)) Q E s) :
  bz X f (dS fun i j=>.int (g i j)):=by
 intro pins s σ H x y v u Q I rx ry h
 obtain⟨i,j,rfl,rfl,q⟩:=h
 obtain⟨t,rfl⟩:=rx
 obtain⟨t',rfl⟩:=ry
 exact rule i j t t' s _ _ ⟨.int (g i j),H,I.tok _,⟨_,rfl⟩,q⟩
theorem HV{f:Value→Value→Sem Value}{g:Int→Int→Bool}
  (rule:∀(i j:Int) (t u:Tok) (s:Shared) (Q:Value→Shared→Prop) (E:Value→Shared→Prop),Q (.bool (g i j)) s→wpAny (model X.prog X.w) X.A (f (.int i t) (.int j u)) Q E s) :
  bz X f (dS fun i j=>.bl (g i j)):=by
 intro pins s σ H x y v u Q I rx ry h
 obtain⟨i,j,rfl,rfl,q⟩:=h
 obtain⟨t,rfl⟩:=rx
 obtain⟨t',rfl⟩:=ry
 exact rule i j t t' s _ _ ⟨.bl (g i j),H,I,rfl,q⟩
def HW(i j:Int):Prop:=0≤j∧j≤1000000∧i.natAbs<2^64
def rJ(i j:Int):Prop:=(-(2^64)<i∧i<2^64)∨(-(2^64)<j∧j<2^64)
theorem rJ.ok{i j:Int}(h:rJ i j):IntMulOk i j:=by
 rcases h with⟨h1,h2⟩|⟨h1,h2⟩
 ·exact .of_left (intBits_le_64 h1 h2)
 ·exact .of_right (intBits_le_64 h1 h2)
theorem Rv:bz X (binaryOp .Add) (dS fun i j=>.int (i+j)):=rH fun _ _ _ _ _ _ _ q=>add_int q
theorem Rx:bz X (binaryOp .Sub) (dS fun i j=>.int (i-j)):=rH fun _ _ _ _ _ _ _ q=>sub_int q
theorem Ry:bz X (binaryOp .Mult) (rI rJ fun i j=>.int (i*j)):=xk fun _ _ _ _ _ _ _ hc q=>mul_int q hc.ok
theorem Rz:bz X (binaryOp .Mod) (rI (fun _ j=>0<j) fun i j=>.int (i%j)):=xk fun i j _ _ _ _ _ hc q=>by
 have h1:(0:Int)<j:=hc
 exact mod_int' (by omega) (by rw[Int.fmod_eq_emod_of_nonneg i (by omega)];exact q)
theorem RA:bz X (binaryOp .Pow) (rI HW fun i j=>.int (i^j.toNat)):=xk fun _ _ _ _ _ _ _ hc q=>pow_int_small hc.1 hc.2.1 hc.2.2 q
theorem RB:bz X (binaryOp .BitAnd) (dS fun i j=>.int (Builtin.bitAnd i j)):=rH fun _ _ _ _ _ _ _ q=>and_int q
theorem Uh:bz X (binaryOp .BitOr) (dS fun i j=>.int (Builtin.bitOr i j)):=rH fun _ _ _ _ _ _ _ q=>or_int q
theorem RC:bz X (binaryOp .BitXor) (dS fun i j=>.int (Builtin.bitXor i j)):=rH fun _ _ _ _ _ _ _ q=>xor_int q
theorem Wu{f:Value→Sem Value}{g:Int→Int}
  (rule:∀(i:Int) (t:Tok) (s:Shared) (Q:Value→Shared→Prop) (E:Value→Shared→Prop),Q (.int (g i) s.toks) { s with toks:=s.toks+1 }→wpAny (model X.prog X.w) X.A (f (.int i t)) Q E s) :
  xj X f (rU fun i=>.int (g i)):=by
 intro pins s σ H x v Q I rx h
 obtain⟨i,rfl,q⟩:=h
 obtain⟨t,rfl⟩:=rx
 exact rule i t s _ _ ⟨.int (g i),H,I.tok _,⟨_,rfl⟩,q⟩
theorem RD:xj X (unaryOp .USub) (rU fun i=>.int (-i)):=Wu fun _ _ _ _ _ q=>neg_int q
end
noncomputable def vW:V→V→Bool
 |.non,.non=>true|.non,.int _=>true|.int _,.non=>true|.non,.bl _=>true|.bl _,.non=>true|.non,.str _=>true|.str _,.non=>true
 |.int _,.int _=>true|.bl _,.bl _=>true|.str _,.str _=>true|.fZ _,.fZ _=>true
 |.int _,.str _=>true|.str _,.int _=>true|.bl _,.str _=>true|.str _,.bl _=>true
 |_,_=>false
noncomputable def Jp:R2:=fun x y H Q=>vW x y=true∧Q (.bl (decide (x=y))) H
noncomputable def Jq:R2:=fun x y H Q=>vW x y=true∧Q (.bl (!decide (x=y))) H
theorem ED{i j:Int}:decide (V.int i=V.int j)=(i==j):=by
 rw[wL]
 simp
theorem FH{i j:Bool}:decide (V.bl i=V.bl j)=(i==j):=by
 rw[wL]
 simp
theorem EE{i j:Str}:decide (V.str i=V.str j)=(i==j):=by
 rw[wL]
 simp
theorem EF{i j:Array UInt8}:decide (V.fZ i=V.fZ j)=(i.toList==j.toList):=by
 rw[wL]
 cases i
 cases j
 simp
section
variable {X:Cx}{a b c:Expr}{ta tb tc:TE}{pos:Pos}
theorem bW{pins:List (Addr×Obj)}{σ:St}{H:Hp}{s:Shared}{Q:VK}{k k':Bool}(I:Inv X pins σ H s)(q:Q (.bl k) H)(e:k=k'):EP X pins σ Q (.bool k') s:=by
 subst e
 exact⟨.bl k,H,I,rfl,q⟩
theorem Ui:bz X (compareOp .Eq) Jp:=by
 intro pins s σ H x y v u Q I rx ry h
 obtain⟨hs,q⟩:=h
 cases x with
 |non =>
  cases rx
  cases y with
  |non=>cases ry;exact PySem.EqNone.eq_none_none (bW I q (by simp))
  |bl j=>cases ry;exact PySem.EqNone.eq_none_bool (bW I q (by simp))
  |int j=>obtain⟨t',rfl⟩:=ry;exact PySem.EqNone.eq_none_int (bW I q (by simp))
  |str j=>obtain⟨t',rfl⟩:=ry;exact PySem.EqNone.eq_none_str (bW I q (by simp))
  |_=>exact absurd (show false=true from hs) a6
 |bl i =>
  cases rx
  cases y with
  |non=>cases ry;exact PySem.EqNone.eq_bool_none (bW I q (by simp))
  |bl j=>cases ry;exact eq_bool (bW I q FH)
  |str j=>obtain⟨t',rfl⟩:=ry;exact PySem.EqMixed.eq_bool_str (bW I q (by simp))
  |_=>exact absurd (show false=true from hs) a6
 |int i =>
  obtain⟨t,rfl⟩:=rx
  cases y with
  |non=>cases ry;exact PySem.EqNone.eq_int_none (bW I q (by simp))
  |int j=>obtain⟨t',rfl⟩:=ry;exact eq_int (bW I q ED)
  |str j=>obtain⟨t',rfl⟩:=ry;exact PySem.EqMixed.eq_int_str (bW I q (by simp))
  |_=>exact absurd (show false=true from hs) a6
 |str i =>
  obtain⟨t,rfl⟩:=rx
  cases y with
  |non=>cases ry;exact PySem.EqNone.eq_str_none (bW I q (by simp))
  |bl j=>cases ry;exact PySem.EqMixed.eq_str_bool (bW I q (by simp))
  |int j=>obtain⟨t',rfl⟩:=ry;exact PySem.EqMixed.eq_str_int (bW I q (by simp))
  |str j=>obtain⟨t',rfl⟩:=ry;exact eq_str (bW I q EE)
  |_=>exact absurd (show false=true from hs) a6
 |fZ i =>
  obtain⟨t,rfl⟩:=rx
  cases y with
  |fZ j=>obtain⟨t',rfl⟩:=ry;exact PySem.W.eq_bytes (bW I q EF)
  |_=>exact absurd (show false=true from hs) a6
 |_=>cases y<;>exact absurd (show false=true from hs) a6
theorem Uj:bz X (compareOp .NotEq) Jq:=by
 intro pins s σ H x y v u Q I rx ry h
 obtain⟨hs,q⟩:=h
 cases x with
 |non =>
  cases rx
  cases y with
  |non=>cases ry;exact PySem.EqNone.ne_none_none (bW I q (by simp))
  |bl j=>cases ry;exact PySem.EqNone.ne_none_bool (bW I q (by simp))
  |int j=>obtain⟨t',rfl⟩:=ry;exact PySem.EqNone.ne_none_int (bW I q (by simp))
  |str j=>obtain⟨t',rfl⟩:=ry;exact PySem.EqNone.ne_none_str (bW I q (by simp))
  |_=>exact absurd (show false=true from hs) a6
 |bl i =>
  cases rx
  cases y with
  |non=>cases ry;exact PySem.EqNone.ne_bool_none (bW I q (by simp))
  |bl j=>cases ry;exact ne_bool (bW I q (cf not FH))
  |str j=>obtain⟨t',rfl⟩:=ry;exact PySem.EqMixed.ne_bool_str (bW I q (by simp))
  |_=>exact absurd (show false=true from hs) a6
 |int i =>
  obtain⟨t,rfl⟩:=rx
  cases y with
  |non=>cases ry;exact PySem.EqNone.ne_int_none (bW I q (by simp))
  |int j=>obtain⟨t',rfl⟩:=ry;exact ne_int (bW I q (cf not ED))
  |str j=>obtain⟨t',rfl⟩:=ry;exact PySem.EqMixed.ne_int_str (bW I q (by simp))
  |_=>exact absurd (show false=true from hs) a6
 |str i =>
  obtain⟨t,rfl⟩:=rx
  cases y with
  |non=>cases ry;exact PySem.EqNone.ne_str_none (bW I q (by simp))
  |bl j=>cases ry;exact PySem.EqMixed.ne_str_bool (bW I q (by simp))
  |int j=>obtain⟨t',rfl⟩:=ry;exact PySem.EqMixed.ne_str_int (bW I q (by simp))
  |str j=>obtain⟨t',rfl⟩:=ry;exact ne_str (bW I q (cf not EE))
  |_=>exact absurd (show false=true from hs) a6
 |fZ i =>
  obtain⟨t,rfl⟩:=rx
  cases y with
  |fZ j=>obtain⟨t',rfl⟩:=ry;exact PySem.W.ne_bytes (bW I q (cf not EF))
  |_=>exact absurd (show false=true from hs) a6
 |_=>cases y<;>exact absurd (show false=true from hs) a6
theorem Uk:bz X (compareOp .Lt) (dS fun i j=>.bl (decide (i<j))):=HV fun _ _ _ _ _ _ _ q=>lt_int q
theorem Ul:bz X (compareOp .Gt) (dS fun i j=>.bl (decide (j<i))):=HV fun _ _ _ _ _ _ _ q=>gt_int q
theorem RG:bz X (compareOp .Is) (fun x y H Q=>y=.non∧Q (.bl (decide (x=.non))) H):=by
 intro pins s σ H x y v u Q I rx ry h
 obtain⟨rfl,q⟩:=h
 cases ry
 refine is_none_gen (bW I q ?_)
 cases x<;>first
  | (cases rx;rfl)
  | (obtain⟨t,rfl⟩:=rx;rfl)
theorem Pg:bz X (compareOp .IsNot) (fun x y H Q=>y=.non∧Q (.bl (!decide (x=.non))) H):=by
 intro pins s σ H x y v u Q I rx ry h
 obtain⟨rfl,q⟩:=h
 cases ry
 refine isnot_none_gen (bW I q ?_)
 cases x<;>first
  | (cases rx;rfl)
  | (obtain⟨t,rfl⟩:=rx;rfl)
theorem Ph{op:CmpOp}{r:R2}(ho:bz X (compareOp op) r)(ha:PE X a ta)(hb:PE X b tb)(hm:behindInMarks op b=false):PE X (.Compare a [op] [b] pos) (lZ r ta tb):=by
 intro pins s σ H Q I h
 exact wpAny_Compare1 (zR ha hb I h fun v u s2 x y H2 I2 rx ry q=>ho pins s2 σ H2 x y v u Q I2 rx ry q) hm
noncomputable def zD(t:TE):TT:=fun σ H Q=>t σ H fun x H'=>∃k,x=.bl k∧Q k H'
theorem Pj{op:CmpOp}{r:R2}(ho:bz X (compareOp op) r)(ha:PE X a ta)(hb:PE X b tb)(hm:behindInMarks op b=false):PT X (.Compare a [op] [b] pos) (zD (lZ r ta tb)):=by
 intro pins s σ H Q I h
 refine wpAny_isTrue_Compare1 (aD (ha pins s σ H _ I h) fun v s1 ⟨x,H1,I1,r1,q1⟩=>aD (hb pins s1 σ H1 _ I1 q1) fun u s2 ⟨y,H2,I2,r2,q2⟩ =>
  aD (ho pins s2 σ H2 x y v u _ I2 r1 r2 q2) fun c s3 ⟨z,H3,I3,r3,k,e,q3⟩=>?_) hm
 subst e
 cases r3
 exact iP ⟨H3,I3,q3⟩
noncomputable def FI(r r':R2)(ta tb tc:TE):TE:=fun σ H Q=>ta σ H fun x H1=>tb σ H1 fun y H2=>r x y H2 fun z H3=>∃k,z=.bl k ∧
 (if k=true then tc σ H3 fun w' H4=>r' y w' H4 Q else Q (.bl false) H3)
theorem Ny{op op':CmpOp}{r r':R2}(ho:bz X (compareOp op) r)(dE:bz X (compareOp op') r')(ha:PE X a ta)(hb:PE X b tb)(hc:PE X c tc)
  (hm:lastMarks [op,op'] [b,c]=false:=by with_unfolding_all rfl):PT X (.Compare a [op,op'] [b,c] pos) (zD (FI r r' ta tb tc)):=by
 intro pins s σ H Q I h
 refine isTrue_chain (aD (ha pins s σ H _ I h) fun v s1 ⟨x,H1,I1,r1,q1⟩=>test_link (aD (hb pins s1 σ H1 _ I1 q1) fun u s2 ⟨y,H2,I2,r2,q2⟩ =>
  aD (ho pins s2 σ H2 x y v u _ I2 r1 r2 q2) fun d s3 ⟨z,H3,I3,r3,k,e,q3⟩=>?_)) hm
 subst e
 cases r3
 refine iP ?_
 cases k with
 |false =>
  obtain⟨k',e',q'⟩:=q3
  cases e'
  exact ite_ff ⟨H3,I3,q'⟩
 |true =>
  refine ite_tt (test_last (aD (hc pins s3 σ H3 _ I3 q3) fun w' s4 ⟨z',H4,I4,r4,q4⟩=>aD (dE pins s4 σ H4 y z' u w' _ I4 r2 r4 q4) fun d' s5 ⟨z2,H5,I5,r5,k2,e2,q5⟩=>?_))
  subst e2
  cases r5
  exact iP ⟨H5,I5,q5⟩
def vX(K:PySem.W.Frag)(x:V)(H:Hp)(k:Bool):Prop :=
 match x with
 |.non=>k=false
 |.bl b=>k=b
 |.int i=>k=(i != 0)
 |.str y=>y.length≤sizeLine∧k=((y.length:Int) != 0)
 |.fZ y=>y.size≤sizeLine∧k=((y.size:Int) != 0)
 |.ref p=>(∃xs,bw K H p xs∧k=!xs.isEmpty)∨(∃xs,bh K H p xs∧k=!xs.isEmpty)∨∃kvs,H p=some (.dK kvs)∧k=!kvs.isEmpty
 |_=>False
theorem LQ{κ:Type}{kvs:List (κ×V)}{vs:List (κ×Value)}(r:KV kvs vs):(!vs.isEmpty)=!kvs.isEmpty:=by
 cases r<;>rfl
theorem Dc{xs:List V}{its:List Value}(r:Vals xs its):(!its.toArray.isEmpty)=!xs.isEmpty:=by
 cases r<;>simp
theorem oz:(sizeLine:Nat)<2^63:=by rw[wM];decide
theorem RH:Vs X (fun x H Q=>∃k,vX X.K x H k∧Q k H):=by
 intro pins s σ H x v Q I rx h
 obtain⟨k,e,q⟩:=h
 have hl:=oz
 have hs:sizeLine=16777216:=wM
 cases x with
 |non =>
  cases rx
  have e':k=false:=e
  subst e'
  exact truthy_none ⟨H,I,q⟩
 |bl b =>
  cases rx
  have e':k=b:=e
  subst e'
  exact iP ⟨H,I,q⟩
 |int i =>
  obtain⟨t,rfl⟩:=rx
  have e':k=(i != 0):=e
  subst e'
  exact PySem.P.truthy_int ⟨H,I,q⟩
 |str y =>
  obtain⟨t,rfl⟩:=rx
  obtain⟨hy,e'⟩:y.length≤sizeLine∧k=((y.length:Int) != 0):=e
  subst e'
  exact PySem.P.truthy_str (by omega) ⟨H,I.tok _,q⟩
 |fZ y =>
  obtain⟨t,rfl⟩:=rx
  obtain⟨hy,e'⟩:y.size≤sizeLine∧k=((y.size:Int) != 0):=e
  subst e'
  exact PySem.W.truthy_bytes (by omega) ⟨H,I.tok _,q⟩
 |ref p =>
  cases rx
  have e':(∃xs,bw X.K H p xs∧k=!xs.isEmpty)∨(∃xs,bh X.K H p xs∧k=!xs.isEmpty)∨∃kvs,H p=some (.dK kvs)∧k=!kvs.isEmpty:=e
  rcases e' with⟨xs,hx,e'⟩|⟨xs,hx,e'⟩|⟨kvs,hx,e'⟩
  ·subst e'
   obtain⟨its,r,pl,hz⟩:=I.list hx
   have hlen:=r.length
   exact wpAny_truthy_list pl.isList (by simp only[List.size_toArray];omega) ⟨H,I.tok _,by rw[Dc r];exact q⟩
  ·subst e'
   obtain⟨its,r,pl,hz⟩:=I.tuple hx
   have hlen:=r.length
   exact truthy_tuple pl (by simp only[List.size_toArray];omega) ⟨H,I.tok _,by rw[Dc r];exact q⟩
  ·subst e'
   obtain⟨hz,hS,vs,r,m⟩:kvs.length≤sizeLine∧(p==sysModules)=false∧∃vs,KV kvs vs∧s.heap.DictOf (cv X.prog X.w) p vs:=I.aA p _ hx
   have hlen:kvs.length=vs.length:=cK r
   exact wpAny_truthy_dict hS m (by omega) ⟨H,I.tok _,by rw[LQ r];exact q⟩
 |_=>exact(show False from e).elim
theorem Nz(ha:PE X a ta)(he:∀whole,isTrue a X.env whole=(do let v ←whole;standAt a.pos;holding [v] (truthy v))) :
  PT X a (fun σ H Q=>ta σ H fun x H'=>∃k,vX X.K x H' k∧Q k H'):=by
 intro pins s σ H Q I h
 exact isTrue_plain (aD (ha pins s σ H _ I h) fun v s1 ⟨x,H1,I1,r1,q1⟩=>RH pins s1 σ H1 x v Q I1 r1 q1) (he _)
theorem LR:bz X (binaryOp .Add) (fun x y H Q=>∃i j,x=.str i∧y=.str j∧i.length+j.length≤sizeLine∧Q (.str (i++j)) H):=by
 intro pins s σ H x y v u Q I rx ry h
 obtain⟨i,j,rfl,rfl,hz,q⟩:=h
 obtain⟨t,rfl⟩:=rx
 obtain⟨t',rfl⟩:=ry
 exact add_str (fun t' tk=>⟨.str (i++j),H,I.tok _,⟨_,rfl⟩,q⟩) hz
theorem vals1{x:V}{us:List Value}(r:Vals [x] us):∃u,us=[u]∧RelV x u:=by
 cases r with
 |cons r1 r2=>cases r2;exact⟨_,rfl,r1⟩
theorem vals2{x y:V}{us:List Value}(r:Vals [x,y] us):∃u w',us=[u,w']∧RelV x u∧RelV y w':=by
 cases r with
 |cons r1 r2 =>
  cases r2 with
  |cons r3 r4=>cases r4;exact⟨_,_,rfl,r1,r3⟩
theorem NB:gp X (.builtin "abs") (fun xs H Q=>∃i,xs=[.int i]∧Q (.int (if i<0 then -i else i)) H):=by
 intro pins s σ H xs us Q I r h
 obtain⟨i,rfl,q⟩:=h
 obtain⟨u,rfl,t,rfl⟩:=vals1 r
 exact call_abs_int fun u tk=>⟨.int (if i<0 then -i else i),H,I.tok _,⟨_,rfl⟩,q⟩
theorem Mr:gp X (.type "int") (fun xs H Q=>(∃i,xs=[.int i]∧Q (.int i) H)∨∃k,xs=[.bl k]∧Q (.int (if k then 1 else 0)) H):=by
 intro pins s σ H xs us Q I r h
 rcases h with⟨i,rfl,q⟩|⟨k,rfl,q⟩
 ·obtain⟨u,rfl,t,rfl⟩:=vals1 r
  exact call_int_int ⟨.int i,H,I,⟨_,rfl⟩,q⟩
 ·obtain⟨u,rfl,r1⟩:=vals1 r
  cases r1
  exact call_int_bool ⟨.int (if k then 1 else 0),H,I.tok _,⟨_,rfl⟩,q⟩
def zS(K:PySem.W.Frag)(x:V)(H:Hp)(n:Nat):Prop :=
 match x with
 |.str y=>y.length≤sizeLine∧n=y.length
 |.fZ y=>y.size≤sizeLine∧n=y.size
 |.ref p=>(∃xs,bw K H p xs∧n=xs.length)∨∃xs,bh K H p xs∧n=xs.length
 |_=>False
theorem NC:gp X (.builtin "len") (fun xs H Q=>∃x n,xs=[x]∧zS X.K x H n∧Q (.int n) H):=by
 intro pins s σ H xs us Q I r h
 obtain⟨x,n,rfl,e,q⟩:=h
 obtain⟨u,rfl,rx⟩:=vals1 r
 have hl:=oz
 have hs:sizeLine=16777216:=wM
 cases x with
 |str y =>
  obtain⟨t,rfl⟩:=rx
  obtain⟨hy,e'⟩:y.length≤sizeLine∧n=y.length:=e
  subst e'
  exact len_str (by omega) ⟨.int _,H,I.tok _,⟨_,rfl⟩,q⟩
 |fZ y =>
  obtain⟨t,rfl⟩:=rx
  obtain⟨hy,e'⟩:y.size≤sizeLine∧n=y.size:=e
  subst e'
  exact PySem.W.len_bytes (by omega) ⟨.int _,H,I.tok _,⟨_,rfl⟩,q⟩
 |ref p =>
  cases rx
  have e':(∃xs,bw X.K H p xs∧n=xs.length)∨∃xs,bh X.K H p xs∧n=xs.length:=e
  rcases e' with⟨xs,hx,e'⟩|⟨xs,hx,e'⟩
  ·subst e'
   obtain⟨its,r',pl,hz⟩:=I.list hx
   have hlen:=r'.length
   exact Calls.call_len_list pl.isList (by simp only[List.size_toArray];omega) ⟨.int xs.length,H,I.tok _,⟨_,by simp only[List.size_toArray];rw[hlen]⟩,q⟩
  ·subst e'
   obtain⟨its,r',pl,hz⟩:=I.tuple hx
   have hlen:=r'.length
   exact len_tuple pl (by simp only[List.size_toArray];omega) ⟨.int xs.length,H,I.tok _,⟨_,by simp only[List.size_toArray];rw[hlen]⟩,q⟩
 |_=>exact(show False from e).elim
end
structure YM (h:Heap)(x dx C:Addr)(mA:Str→Option Value):Prop where
 obj:h.get? x=some (PySem.W.instObj C dx)
 ns:h.Ns1 dx mA
 ne:dx≠x
section
variable {prog:Program}{w:World}{A:Around}{E:Value→Shared→Prop}{s:Shared}{K:PySem.W.Frag}{x dx C f:Addr}{mA:Str→Option Value}{name:Str}{v:Value}
end
theorem g9.some_of{v:V}{o:Option Value}(r:g9 (some v) o):∃u,o=some u∧RelV v u:=by
 cases o with
 |none=>exact(show False from r).elim
 |some u=>exact⟨u,rfl,r⟩
section
variable {P:Program}{w:World}{H H':Hp}{h h':Heap}{a C dx:Addr}{fs Ws:List (Str×V)}
end
structure Bb (K:PySem.W.Frag)(C:Addr):Prop where
 pg:PySem.W.plainGet K C Str.empty=true
 hd:PySem.W.hasDictIn K C=true
 po:PySem.W.plainOver K C=true
 sa:PySem.W.findIn K (.ref C) "__setattr__" = some (some (.builtin "object.__setattr__"))
theorem Bb.get{K:PySem.W.Frag}{C:Addr}(c:Bb K C)(f:Str):PySem.W.plainGet K C f=true:=c.pg
structure YW (K:PySem.W.Frag)(C:Addr)(f:Str)(v:V)(u:Value):Prop where
 at_:PySem.W.findIn K (.ref C) f=some (some u)
 rel:RelV v u
 get:PySem.W.specialIn K u "__get__" = some none
 cp:PySem.W.copiedNames.contains f=false
structure Meth (K:PySem.W.Frag)(C:Addr)(m:Str)(f:Addr):Prop where
 at_:PySem.W.findIn K (.ref C) m=some (some (.ref f))
 fn:PySem.W.isFn K (.ref f)=true
 kp:PySem.W.keepIn K (.ref f)=true
section
variable {X:Cx}{pins:List (Addr×Obj)}{σ:St}{H:Hp}{s:Shared}{a C dx:Addr}{fs:List (Str×V)}{f:Str}{v:V}{A:Around}{E:Value→Shared→Prop}
end
section
variable {X:Cx}{o e value:Expr}{f:Str}{pos pos' Vt:Pos}{ta tv:TE}
def zT:V→V→Hp→VK→Prop:=fun x y H Q=>∃i j,x=.int i∧y=.int j∧Q (.int (i+j)) H
end
section
variable {X:Cx}{pins:List (Addr×Obj)}{σ:St}{H:Hp}{s:Shared}{A:Around}{E:Value→Shared→Prop}{Q:Value→Shared→Prop}{c:Value}{b:Bool}
inductive iG (K:PySem.W.Frag)(H:Hp):V→Value→Prop where
 |non:iG K H .non (.type "NoneType")
 |bl (x:Bool):iG K H (.bl x) (.type "bool")
 |int (i:Int):iG K H (.int i) (.type "int")
 |str (x:Str):iG K H (.str x) (.type "str")
 |sE (x:UInt64):iG K H (.sE x) (.type "float")
 |lst {a:Addr}{xs:List V} (e:H a=some (.lst xs)):iG K H (.ref a) (.type "list")
 |aL {a:Addr}{o:Obj}{xs:List V} (e:H a=some (.aL o (.lst xs))):iG K H (.ref a) (.type "list")
 |tup {a:Addr}{xs:List V} (e:H a=some (.tup xs)):iG K H (.ref a) (.type "tuple")
 |dK {a:Addr}{kvs:List (Key×V)} (e:H a=some (.dK kvs)):iG K H (.ref a) (.type "dict")
 |dT {a:Addr}{kvs:List (List Key×V)} (e:H a=some (.dT kvs)):iG K H (.ref a) (.type "dict")
 |ins {a C dx:Addr}{fs:List (Str×V)} (e:H a=some (.ins C dx fs)) (cl:Bb K C) (ha:PySem.W.findIn K (.ref C) "__class__" = some (some (.builtin "object.__class__")))
  (hn:PySem.W.specialIn K (.builtin "object.__class__") "__get__" = some (some (.builtin "getset_descriptor.__get__"))) (YX:PySem.W.takesIn K (.builtin "object.__class__")=some true)
  (hm:PySem.W.mroIn K C (.type "object")=some true):iG K H (.ref a) (.ref C)
end
structure dw (k:Nat)(A:Around):Prop where
 hd:A.handled=none
 dp:A.depth+3*k+5<recursionLimit
 un:A.units+16*k+200<cLine
theorem dw.mono{j k:Nat}{A:Around}(r:dw k A)(h:j≤k):dw j A:=⟨r.hd,by have:=r.dp;omega,by have:=r.un;omega⟩
theorem dw.deeper{k:Nat}{A:Around}(r:dw (k+1) A)(env:Env):dw k (A.deeper env) :=
 ⟨r.hd,by have:=r.dp;show A.depth+1+3*k+5<_;omega,by have:=r.un;show A.units+3+16*k+200<_;omega⟩
theorem dw.depth{k:Nat}{A:Around}(r:dw k A):A.depth<recursionLimit:=by have:=r.dp;omega
theorem dw.units{k:Nat}{A:Around}(r:dw k A):A.units+64<cLine:=by have:=r.un;omega
noncomputable def kr:TA:=fun _ H Q=>Q [] H
noncomputable def lG(ta:TE)(tr:TA):TA:=fun σ H Q=>ta σ H fun x H1=>tr σ H1 fun xs H2=>Q (x::xs) H2
section
variable {X:Cx}{e:Expr}{es:List Expr}{te:TE}{t:TA}{pos:Pos}
theorem qK:PA X [] kr:=fun _ _ _ _ H Q I h=>Calls.spliced_nil ⟨[],H,I,.nil,h⟩
theorem uJ(ha:PE X e te)(hr:PA X es t)(hs:starEach (e::es) X.env=(false,eval e X.env)::starEach es X.env:=by rfl):PA X (e::es) (lG te t):=by
 intro pos pins s σ H Q I h
 rw[hs]
 show wpAny _ _ (spliced ((false,eval e X.env)::backTo pos (starEach es X.env))) _ _ s
 refine wN (aD (ha pins s σ H _ I h) fun u s1 ⟨x,H1,I1,r1,q1⟩=>?_)
 exact aD (hr pos pins s1 σ H1 _ I1 q1) fun us s2 ⟨xs,H2,I2,r2,q2⟩=>⟨x::xs,H2,I2,.cons r1 r2,q2⟩
noncomputable def zU(t:TA):TE:=fun σ H Q=>t σ H fun xs H1=>xs.length≤sizeLine∧∀p,H1 p=none→Q (.ref p) (upd H1 p (.tup xs))
noncomputable def vY(t:TA):TE:=fun σ H Q=>t σ H fun xs H1=>xs.length≤sizeLine∧∀p,H1 p=none→Q (.ref p) (upd H1 p (.lst xs))
theorem FJ{x1}(h:PA X es t):PE X (.Tuple es x1 pos) (zU t):=by
 intro pins s σ H Q I hq
 refine wpAny_Tuple_spliced (aD (h pos pins s σ H _ I hq) fun us s1 ⟨xs,H1,I1,r,z,q⟩=>⟨by rw[←r.length];exact z,?_⟩)
 have hf:H1 s1.heap.objs.size=none:=I1.aA.fresh (aR _)
 refine⟨.ref s1.heap.objs.size,upd H1 s1.heap.objs.size (.tup xs),I1.laid (t':=s1.toks) (fun b u e=>cA _ e) (aR _) ?_,rfl,q _ hf⟩
 exact⟨z,us,r,⟨_,eU _ rfl,rfl,rfl,_,rfl⟩⟩
theorem zb(h:PA X es t):PE X (.List es pos) (vY t):=by
 intro pins s σ H Q I hq
 refine wpAny_List_spliced (aD (h pos pins s σ H _ I hq) fun us s1 ⟨xs,H1,I1,r,z,q⟩=>⟨by rw[←r.length];exact z,?_⟩)
 have hf:H1 s1.heap.objs.size=none:=I1.aA.fresh (aR _)
 refine⟨.ref s1.heap.objs.size,upd H1 s1.heap.objs.size (.lst xs),I1.laid (t':=s1.toks) (fun b u e=>cA _ e) (aR _) ?_,rfl,q _ hf⟩
 exact⟨z,us,0,r,eU _ rfl⟩
end
noncomputable abbrev Sp:=List V→Hp→VK→XK→Prop
noncomputable abbrev iT:=List Env→Hp→Shared→XK→Value→Shared→Prop
structure vZ (P:Program)(w:World)(K:PySem.W.Frag)(mg:Str→Option Value)(base:Heap)(A:Around)(outer:List Env)(s:Shared)(H:Hp):Prop where
 frames:A.frames=some outer
 mod:Mod K mg base
 bs:∀b o,base.get? b=some o→s.heap.get? b=some o∧H b=none
 kO:base.objs.size≤s.heap.objs.size
 iE:s.heap.FunFrames base outer
 pT:∀b∈hZ outer,H b=none
 aA:cn P w H s.heap
 bare:AllBare s.gens
def CE(outer:List Env)(P:Program)(w:World)(H:Hp)(s:Shared)(Q:VK)(u:Value)(s':Shared):Prop :=
 ∃v H',s'.os=s.os∧AllBare s'.gens∧Un (hZ outer) [] H H' s.heap s'.heap∧cn P w H' s'.heap∧RelV v u∧Q v H'
def CR(CX:iT)(outer:List Env)(P:Program)(w:World)(H:Hp)(s:Shared)(Q:VK)(E:XK)(r:Result)(s':Shared):Prop :=
 match r with
 |.ok (.ret u)=>CE outer P w H s Q u s'
 |.ok _=>False
 |.error e=>CX outer H s E e s'
structure ku (P:Program)(w:World)(K:PySem.W.Frag)(mg:Str→Option Value)(base:Heap)(CX:iT)(k:Nat)(f:Addr)(fd:FuncData)(ps:List Str)(sp:Sp):Prop where
 len:∀vs H Q E,sp vs H Q E→vs.length=ps.length
 run:∀(A:Around) (outer:List Env) (s:Shared) (H:Hp) (args:Args) (us:List Value) (vs:List V) (Q:VK) (E:XK),dw k A→vZ P w K mg base A outer s H→BindsTo s fd args (ps.zip us)→Vals vs us→sp vs H Q E →
  codeAny (model P w) A (.call (.ref f) args) (CR CX outer P w H s Q E) s
section
variable {X:Cx}{pins:List (Addr×Obj)}{σ:St}{H:Hp}{s s':Shared}
theorem Inv.Vu(I:Inv X pins σ H s):vZ X.prog X.w X.K X.mg X.base X.A X.stack s H :=
 ⟨I.ok.frames,I.ok.mod,I.bs,bS I.ok.kO I.sz,I.stack,I.EA,I.aA,I.bare⟩
theorem Inv.after{Q:VK}{u:Value}(I:Inv X pins σ H s)(h:CE X.stack X.prog X.w H s Q u s'):EP X pins σ Q u s':=by
 obtain⟨v,H',os,bare,un,aA,r,q⟩:=h
 obtain⟨hh,g,d,t,nI⟩:=s'
 obtain rfl:nI=s.os:=os
 exact⟨v,H',I.call (h':=hh) (g':=g) (d':=d) (t':=t) (ch:=[]) un aA bare (fun b z=>absurd z (by simp)),r,q⟩
end
noncomputable def j8(sp:Sp)(l0:List V)(E:XK)(t:TA):TE:=fun σ H Q=>t σ H fun vs H1=>sp (vs++l0) H1 Q E
def Binds(K:PySem.W.Frag)(fd:FuncData)(ps:List Str)(ds:List Value):Prop :=
 ∀(s:Shared) (us:List Value),K.In s.heap→(us++ds).length=ps.length→BindsTo s fd ⟨us,[]⟩ (ps.zip (us++ds))
theorem Binds.all{K:PySem.W.Frag}{fd:FuncData}{ps:List Str}(h:∀us:List Value,us.length=ps.length→bindArgs fd ⟨us,[]⟩=pure (ps.zip us)):Binds K fd ps []:=fun s us _ hl=>by
 rw[nB]at hl ⊢
 exact .of_eq (h us hl)
def Passes(CX:iT)(X:Cx)(E:XK):Prop:=∀(pins:List (Addr×Obj)) (σ:St) (H:Hp) (s:Shared) (e:Value) (s':Shared),Inv X pins σ H s→CX X.stack H s E e s'→X.xe e s'
section
variable {X:Cx}{CX:iT}{k:Nat}{f C:Addr}{fd:FuncData}{ps:List Str}{sp:Sp}{l0:List V}{ds:List Value}{E:XK}{x m:Str}{p pos apos:Pos}{e o:Expr}{es:List Expr}{ta:TE}{t:TA}
theorem RJ{pins:List (Addr×Obj)}{σ:St}{H:Hp}{s:Shared}{Q:VK}{us:List Value}{vs:List V}(F:ku X.prog X.w X.K X.mg X.base CX k f fd ps sp)(hr:dw k X.A)(hb:Binds X.K fd ps ds)(hd:Vals l0 ds)(hx:Passes CX X E)
  (I:Inv X pins σ H s) (r:Vals vs us) (h:sp (vs++l0) H Q E):wpAny (model X.prog X.w) X.A (call (.ref f) us) (EP X pins σ Q) X.xe s:=by
 have r2:Vals (vs++l0) (us++ds):=r.append hd
 have hl:(us++ds).length=ps.length:=by rw[←r2.length];exact F.len _ _ _ _ h
 refine wpAny_call (codeAny_mono (F.run X.A X.stack s H ⟨us,[]⟩ (us++ds) (vs++l0) Q E hr I.Vu (hb s us I.gy hl) r2 h) fun r s' hq=>?_)
 cases r with
 |error e=>exact hx pins σ H s e s' I hq
 |ok fl =>
  cases fl with
  |ret u=>exact I.after hq
  |next=>exact False.elim hq
  |brk=>exact False.elim hq
  |cont=>exact False.elim hq
theorem yL(F:ku X.prog X.w X.K X.mg X.base CX k f fd ps sp)(hr:dw k X.A)(hg:Gl X x)(hm:X.mg x=some (.ref f))(hk:PySem.W.keepIn X.K (.ref f)=true)(hb:Binds X.K fd ps ds)(hd:Vals l0 ds)(hx:Passes CX X E)
  (ha:PA X (e::es) t) (sU:(x==("__debug__" : Str))=false:=by decide) (he:starEach (e::es) X.env=(false,eval e X.env)::starEach es X.env:=by rfl) (pV:(backTo pos (starEach es X.env)).any (·.1)=false:=by rfl) :
  PE X (.Call (.Name x p) (e::es) [] pos) (j8 sp l0 E t):=by
 intro pins s σ H Q I h
 refine AF (OZ I hg hm ?_ sU)
 refine PySem.W.callWith_K (h₀:=X.base) I.ok.mod.A3 hk (aD (ha pos pins s σ H _ I h) fun us s1 ⟨vs,H1,I1,r,q⟩=>⟨I1.gy,?_⟩) he pV
 exact RJ F hr hb hd hx I1 r q
structure Mk (K:PySem.W.Frag)(C f:Addr):Prop where
 makes:PySem.W.makesIn K C=true
 init:PySem.W.findIn K (.ref C) "__init__" = some (some (.ref f))
 fn:PySem.W.isFn K (.ref f)=true
 kp:PySem.W.keepIn K (.ref C)=true
end
section
variable {X:Cx}{CX:iT}{k:Nat}{f C:Addr}{fd:FuncData}{ps ks:List Str}{sp:Sp}{E:XK}{x m:Str}{p pos apos YN:Pos}{e o:Expr}{es:List Expr}{kws:List Keyword}{te ta:TE}{t tk:TA}{nm:Option Str}
structure YK (K:PySem.W.Frag)(fd:FuncData)(ps ks:List Str)(g:List Value→List Value→List Value)(gV:List V→List V→List V):Prop where
 to:∀(s:Shared) (us ws:List Value),K.In s.heap→(g us ws).length=ps.length→BindsTo s fd ⟨us,ks.zip ws⟩ (ps.zip (g us ws))
 rel:∀{vs:List V}{us:List Value}{zs:List V}{ws:List Value},Vals vs us→Vals zs ws→Vals (gV vs zs) (g us ws)
variable {g:List Value→List Value→List Value}{gV:List V→List V→List V}
end
structure qD (N P:List Str)(sc:Scope):Prop where
 kind:sc.kind=.function
 co:sc.isCoroutine=false
 gen:sc.isGenerator=false
 nd:N.Nodup
 pre:N.take P.length=P
 par:∀x∈P,sc.names.lookup x=some .local∨sc.names.lookup x=some .cell
 RK:∀y∈sc.names,y.2≠.free
theorem Dz{kindOf:Str→Option NameKind}{x:Str}:∀{binds:List (Str×Value)}{m:Str→Option Value},(∀v,(x,v)∉binds)→bindL kindOf binds m x=m x
  |[],_,_=>rfl
  | (n,v)::r,m,h=>by
    unfold bindL
    rw[Dz fun w hw=>h w (cT _ hw)]
    split
    · have:x≠n:=by rintro rfl;exact h v cM
      simp[this]
    · rfl
theorem DB{kindOf:Str→Option NameKind}{x:Str}:∀{binds:List (Str×Value)}{m:Str→Option Value},(∀v,(x,v)∉binds)→bindC kindOf binds m x=m x
  |[],_,_=>rfl
  | (n,v)::r,m,h=>by
    unfold bindC
    rw[DB fun w hw=>h w (cT _ hw)]
    split
    · rfl
    · have:x≠n:=by rintro rfl;exact h v cM
      simp[this]
theorem DC{kindOf:Str→Option NameKind}{x:Str}{v:Value}:∀{P:List Str}{vs:List Value}{i:Nat}{m:Str→Option Value},P.Nodup→P[i]?=some x→vs[i]?=some v→kindOf x=some .local →
  bindL kindOf (P.zip vs) m x=some v
 |[],_,_,_,_,h,_,_=>by simp at h
 |_::_,[],_,_,_,_,h,_=>by simp at h
 |p::P,w::vs,0,m,nd,h1,h2,hk=>by
  simp at h1 h2;subst h1;subst h2
  show bindL kindOf ((p,w)::P.zip vs) m p=_
  unfold bindL
  rw[Dz fun v hv=>(iR.mp nd).1 (AG hv).1,if_pos hk]
  simp
 |p::P,w::vs,i+1,m,nd,h1,h2,hk=>by
  show bindL kindOf ((p,w)::P.zip vs) m x=_
  unfold bindL
  exact DC (i:=i) (iR.mp nd).2 (by simpa using h1) (by simpa using h2) hk
theorem DF{kindOf:Str→Option NameKind}{x:Str}{v:Value}:∀{P:List Str}{vs:List Value}{i:Nat}{m:Str→Option Value},P.Nodup→P[i]?=some x→vs[i]?=some v→kindOf x≠some .local →
  bindC kindOf (P.zip vs) m x=some v
 |[],_,_,_,_,h,_,_=>by simp at h
 |_::_,[],_,_,_,_,h,_=>by simp at h
 |p::P,w::vs,0,m,nd,h1,h2,hk=>by
  simp at h1 h2;subst h1;subst h2
  show bindC kindOf ((p,w)::P.zip vs) m p=_
  unfold bindC
  rw[DB fun v hv=>(iR.mp nd).1 (AG hv).1,if_neg hk]
  simp
 |p::P,w::vs,i+1,m,nd,h1,h2,hk=>by
  show bindC kindOf ((p,w)::P.zip vs) m x=_
  unfold bindC
  exact DF (i:=i) (iR.mp nd).2 (by simpa using h1) (by simpa using h2) hk
noncomputable def start(N:List Str)(vs:List V):St:=vs.map some++List.replicate (N.length-vs.length) none
noncomputable def lO(CX:iT)(P:Program)(w:World)(K:PySem.W.Frag)(mg:Str→Option Value)(base:Heap)(N:List Str)(qual:Str)(scope:Scope)(f:Addr)(cd:Value)(A:Around)(outer:List Env)(s:Shared)(H:Hp)(E:XK):Cx where
 prog:=P
 w:=w
 K:=K
 mg:=mg
 base:=base
 A:=A.deeper (envOfC qual scope s.heap.objs.size f cd)
 N:=N
 s₀:=s
 H₀:=H
 env:=envOfC qual scope s.heap.objs.size f cd
 outer:=outer
 stack:=envOfC qual scope s.heap.objs.size f cd::outer
 ex:=[]
 calm:=true
 fn:=fun _=>true
 pn:=[]
 xe:=fun e s'=>wpAny (model P w) (A.deeper (envOfC qual scope s.heap.objs.size f cd)) (leaving (envOfC qual scope s.heap.objs.size f cd) e) (fun _ Bc=>CX outer H s E e Bc) (fun e' Bc=>CX outer H s E e' Bc) s'
theorem D3{sc:Scope}{n:Nat}{x:Str}(h:sc.names.lookup x=some .cell):∃c,(cellsFrom n sc.names []).lookup x=some c:=by
 have q:=PySem.W.cellsFrom_some sc.names n [] (.inl h)
 exact Option.isSome_iff_exists.mp q
theorem Mt{CX:iT}{P:Program}{w:World}{K:PySem.W.Frag}{mg:Str→Option Value}{base:Heap}{N ps:List Str}{qual:Str}{scope:Scope}{f:Addr}{cd:Value}{A:Around}{outer:List Env}{s s1:Shared}{H:Hp}{E:XK}{us:List Value}{vs:List V}
  (S:qD N ps scope) (hd:A.handled=none) (e0:vZ P w K mg base A outer s H) (hl:vs.length=ps.length) (r:Vals vs us)
  (x:InCallC s s.heap.objs.size (bindL (envOfC qual scope s.heap.objs.size f cd).kindOf (ps.zip us) fun _=>none) (cellsFrom (s.heap.objs.size+1) scope.names []) (bindC (envOfC qual scope s.heap.objs.size f cd).kindOf (ps.zip us) fun _=>none) s1) :
  Inv (lO CX P w K mg base N qual scope f cd A outer s H E) [] (start N vs) H s1:=by
 have pV:ps.length≤N.length:=by have:=cf List.length S.pre;rw[kH]at this;omega
 obtain⟨h1,tk,rfl,hk⟩:=x.done
 have sW:∀b:Addr,b∉(lO CX P w K mg base N qual scope f cd A outer s H E).ex:=fun b z=>absurd (show b∈([]:List Addr)from z) (by simp)
 refine⟨⟨e0.mod,S.kind,rfl,rfl,aR _,fun y z c h1 h2=>?_,fun y hy=>?_,fun y c _ h=>?_,fun _=>hd,Around.frames_deeper e0.frames,.inr ⟨rfl,rfl⟩,fun b z=>absurd z (sW b),e0.bs,e0.kO,fun b _ _=>sW b,fun b z=>absurd z (sW b),e0.iE,e0.pT⟩,
  rfl,e0.bare,Un.kept hk,⟨_,x.toInCall.ns,fun i y v h1 h2 h3=>?_⟩,fun y c h=>⟨_,x.cell y c h⟩,e0.aA.fresh (aR _),fun y c h=>?_,fun p hp=>absurd (show p∈([]:List (Addr×Obj))from hp) (by simp),e0.aA.kept hk,?_⟩
 ·exact name_of_addr x.apart (lT h1) (lT h2)
 ·have hy:scope.names.lookup y=some .cell∨scope.names.lookup y=some .free:=hy
  rcases hy with hy|hy
  ·exact D3 hy
  ·exact absurd rfl (S.RK _ (lT hy))
 ·exact Nat.le_of_lt (x.above y c (lT h))
 ·have hi:i<vs.length:=by
   unfold start at h2
   by_cases hi:i<vs.length
   ·exact hi
   ·rw[List.getElem?_append_right (by simpa using hi)]at h2
    rw[AH]at h2
    split at h2<;>cases h2
  have ha:vs[i]?=some v:=by
   unfold start at h2
   rw[lU (by simpa using hi),cG]at h2
   cases e:vs[i]? with
   |none=>rw[e]at h2;cases h2
   |some a=>rw[e]at h2;cases h2;rfl
  obtain⟨u,hu,rv⟩:=r.get ha
  have hp:ps[i]?=some y:=by
   rw[←S.pre,List.getElem?_take_of_lt (by omega)];exact h1
  have Jr:ps.Nodup:=by rw[←S.pre];exact S.nd.sublist (List.take_sublist _ _)
  refine⟨u,rv,?_⟩
  rcases S.par y (fB hp)with k|k
  ·exact .inl ⟨k,DC Jr hp hu k⟩
  ·obtain⟨c,e⟩:=D3 (n:=s.heap.objs.size+1) k
   refine .inr ⟨.inl k,c,e,?_⟩
   have q:=x.cell y c e
   rw[DF Jr hp hu (by show scope.names.lookup y≠_;rw[k];decide)]at q
   exact q
 ·exact e0.aA.fresh (Nat.le_of_lt (x.above y c (lT h)))
 ·unfold start
  show _=N.length
  rw[cg,a7,List.length_replicate]
  omega
theorem GU{CX:iT}{P:Program}{w:World}{K:PySem.W.Frag}{mg:Str→Option Value}{base:Heap}{k:Nat}{f:Addr}{name qual:Str}{params:Arguments}{body:List Stmt}{scope:Scope}{dV kV doc pm bq ct oc:Value}{an od:Option Addr}
  {iU:Array (Option Value)}{N ps:List Str}{sp:Sp} (lk:K.lookup f=some ⟨oc,od,.func (PySem.W.fnOf name qual params body scope dV kV doc pm an bq ct),iU⟩) (dM:PySem.W.codeIn K bq qual=true) (S:qD N ps scope)
  (len:∀vs H Q E,sp vs H Q E→vs.length=ps.length)
  (qW:∀(A:Around) (outer:List Env) (s:Shared) (H:Hp) (vs:List V) (Q:VK) (E:XK),dw k (A.deeper (envOfC qual scope s.heap.objs.size f bq))→sp vs H Q E →
   ∃t,f6 (lO CX P w K mg base N qual scope f bq A outer s H E) body t∧t { nx:=fun _ H'=>Q .non H',rt:=Q } (start N vs) H) :
  ku P w K mg base CX (k+1) f (PySem.W.fnOf name qual params body scope dV kV doc pm an bq ct) ps sp:=by
 refine⟨len,fun A outer s H args us vs Q E hr e0 hb r jK=>?_⟩
 have hl:=len _ _ _ _ jK
 have KX:K.In s.heap:=e0.mod.A3.keeps fun b o e=>(e0.bs b o e).1
 have lim:s.heap.NoLimit:=e0.mod.nolimit.keeps fun b o e=>(e0.bs b o e).1
 have Um:∀y∈ps.zip us,scope.names.lookup y.1=some .local∨(scope.names.lookup y.1=some .cell∧((cellsFrom (s.heap.objs.size+1) scope.names []).lookup y.1).isSome=true):=fun⟨n,v⟩ hy=>by
  rcases S.par n (AG hy).1 with q|q
  ·exact .inl q
  ·exact .inr ⟨q,PySem.W.cellsFrom_some _ _ _ (.inl q)⟩
 refine codeAny_call_function hr.depth (KX _ _ lk) rfl S.co S.gen rfl (PySem.W.codeRec_of KX dM) (hb _ _ _ _ ?_)
 refine wpAny_newFunctionEnv_cells S.kind Um fun env he s1 x=>?_
 subst he
 refine⟨lim.keeps x.toInCall.keep,codeAny_func ?_⟩
 obtain⟨t,ht,hq⟩:=qW A outer s H vs Q E (hr.deeper _) jK
 have I:Inv (lO CX P w K mg base N qual scope f bq A outer s H E) [] (start N vs) H s1:=Mt S hr.hd e0 hl r x
 refine fA (ht [] s1 (start N vs) H _ I hq) (fun fl s' hs=>?_) fun e s' hs=>hs
 have fin:∀{σ':St}{H':Hp}{v:V}{u:Value},Inv (lO CX P w K mg base N qual scope f bq A outer s H E) [] σ' H' s'→RelV v u→Q v H'→CE outer P w H s Q u s' :=
  fun {σ' H' v u} J rv q=>⟨v,H',J.os,J.bare,J.base,J.aA,rv,q⟩
 cases fl with
 |ret u =>
  obtain⟨v,σ',H',J,rv,q⟩:=hs
  exact fin J rv q
 |next =>
  obtain⟨σ',H',J,q⟩:=hs
  exact fin (v:=V.non) (u:=Value.none) J rfl q
 |brk =>
  obtain⟨_,_,_,q⟩:=hs
  exact False.elim q
 |cont =>
  obtain⟨_,_,_,q⟩:=hs
  exact False.elim q
section
variable {X:Cx}{x:Str}{p pos:Pos}{e:Expr}{es:List Expr}{t:TA}{id T:String}{r:List V→Hp→VK→Prop}
noncomputable def xn(r:List V→Hp→VK→Prop)(t:TA):TE:=fun σ H Q=>t σ H fun vs H1=>r vs H1 Q
theorem qA (hc:gp X (.builtin id) r) (hg:Gl X x) (hm:X.mg x=none) (hv:bootBuiltins x=some (.builtin id)) (ha:PA X (e::es) t) (hn:x ≠ "__name__" := by decide) (sU:(x==("__debug__" : Str))=false:=by decide)
  (he:starEach (e::es) X.env=(false,eval e X.env)::starEach es X.env:=by rfl) (pV:(backTo pos (starEach es X.env)).any (·.1)=false:=by rfl):PE X (.Call (.Name x p) (e::es) [] pos) (xn r t):=by
 intro pins s σ H Q I h
 refine AF (oy I hg hm hv ?_ hn sU)
 exact PyProof.Rows.callWith_builtin1 (aD (ha pos pins s σ H _ I h) fun us s1 ⟨vs,H1,I1,r1,q1⟩=>hc pins s1 σ H1 vs us Q I1 r1 q1) he pV
theorem yy (hc:gp X (.type T) r) (hg:Gl X x) (hm:X.mg x=none) (hv:bootBuiltins x=some (.type T)) (ha:PA X (e::es) t) (hn:x ≠ "__name__" := by decide) (sU:(x==("__debug__" : Str))=false:=by decide)
  (he:starEach (e::es) X.env=(false,eval e X.env)::starEach es X.env:=by rfl) (pV:(backTo pos (starEach es X.env)).any (·.1)=false:=by rfl):PE X (.Call (.Name x p) (e::es) [] pos) (xn r t):=by
 intro pins s σ H Q I h
 refine AF (oy I hg hm hv ?_ hn sU)
 exact wK (aD (ha pos pins s σ H _ I h) fun us s1 ⟨vs,H1,I1,r1,q1⟩=>hc pins s1 σ H1 vs us Q I1 r1 q1) he pV
end
end L2
namespace HT
open PySem PyProof.Rows
section
open PySem.SeqAt
open PySem.AutoSeq1 (wpAny_loadPart')
open PySem.MeetsSeq PySem.MeetsSeq2 PySem.MeetsSeq3
end
section
variable {prog:Program}{w:World}{A:Around}{E:Value→Shared→Prop}{s:Shared}
theorem Pk{t b:Addr}{vs ws:List Value}{Q:Value→Shared→Prop}(ht:IsTup s.heap t vs.toArray)(hb:IsTup s.heap b ws.toArray)(hv:vs≠[])
  (h1:ws=[]→Q (.ref t) s) (h2:ws≠[]→Q (.ref s.heap.objs.size) { s with heap:=s.heap.push { cls:=.type "tuple",data:=.seq (vs++ws).toArray } })
  (hsz:vs.length+ws.length≤sizeLine):wpAny (model prog w) A (binaryOp .Add (.ref t) (.ref b)) Q E s:=by
 obtain⟨⟨cls,dd,data,sl⟩,ho,hc,n,hd⟩:=id ht
 obtain⟨⟨Vv,xq,data2,pW⟩,jL,mh,n2,hd2⟩:=id hb
 simp only at hc hd mh hd2
 subst hc hd mh hd2
 have e:vs.toArray++ws.toArray=(vs++ws).toArray:=by simp
 by_cases hw:ws=[]
 ·exact wO ⟨_,ho,rfl⟩ ⟨_,jL,rfl⟩ AI seq_tuple_add AJ AK (AO _ _)
   (tuple_addW1 t b vs.toArray ws.toArray n n2 dd xq sl pW (by simpa using hv) (by simp[hw])) ⟨ho,jL,h1 hw⟩
 ·refine wO ⟨_,ho,rfl⟩ ⟨_,jL,rfl⟩ AI seq_tuple_add AJ AK (AO _ _)
   (tuple_addW2 t b vs.toArray ws.toArray n n2 dd xq sl pW (by simpa using hv) (by simpa using hw) (by rw[List.size_toArray,List.size_toArray];exact hsz)) ⟨ho,jL,?_⟩
  rw[e]
  exact h2 hw
noncomputable def aS(n d:Nat):Option Int→Nat
 |none=>d
 |some v=>if v<0 then (v+(n:Int)).toNat else min v.toNat n
theorem RL(n d:Nat)(hd:d≤n)(o:Option Int):aS n d o≤n:=by
 cases o with
 |none=>exact hd
 |some v =>
  show(if v<0 then (v+(n:Int)).toNat else min v.toNat n)≤n
  by_cases hv:v<0
  ·rw[if_pos hv];omega
  ·rw[if_neg hv];exact Nat.min_le_right _ _
theorem EG(v:Int)(n d:Nat):(if v<0 then max (v+(n:Int)) 0 else min v (n:Int))=((aS n d (some v):Nat):Int):=by
 show(if v<0 then max (v+(n:Int)) 0 else min v (n:Int))=(((if v<0 then (v+(n:Int)).toNat else min v.toNat n):Nat):Int)
 by_cases hv:v<0
 ·simp only[if_pos hv];omega
 ·simp only[if_neg hv];omega
theorem LV(lo hi:Option Int)(n:Nat):Builtin.Slice.sliceAdjust lo hi 1 (n:Int)=(((aS n 0 lo:Nat):Int),((aS n n hi:Nat):Int)):=by
 have h1:¬((1:Int)<0):=by omega
 unfold Builtin.Slice.sliceAdjust
 simp only[h1,if_false]
 refine Prod.ext ?_ ?_
 ·cases lo with
  |none=>rfl
  |some v=>exact EG v n 0
 ·cases hi with
  |none=>rfl
  |some v=>exact EG v n n
theorem LW(i j:Nat):Builtin.Slice.slicePlaces (i:Int) (j:Int) 1=j-i:=by
 unfold Builtin.Slice.slicePlaces
 have h1:(1:Int)>0:=by omega
 simp only[h1,if_true,Int.ediv_one]
 split<;>omega
theorem De{v:Value}{o:Option Int}{Q:Option Int→Shared→Prop}(p:IsPart v o)(h:Q o s):wpAny (model prog w) A (Builtin.Slice.slicePartIndex v) Q E s:=by
 cases p with
 |none=>exact slicePart_none h
 |int i t=>exact slicePart_int h
theorem CJ{sl:Addr}{vl vu:Value}{lo hi:Option Int}{n:Nat}{Q:Int×Int×Nat→Shared→Prop}(hs:s.heap.IsSliceOf sl vl vu .none)(pl:IsPart vl lo)(pu:IsPart vu hi)
  (h:Q (((aS n 0 lo:Nat):Int),1,aS n n hi-aS n 0 lo) s):wpAny (model prog w) A (Builtin.Slice.sliceApplied (.ref sl) (pure (n:Int))) Q E s:=by
 obtain⟨os,nJ,fN,sY⟩:=id hs
 unfold Builtin.Slice.sliceApplied Builtin.Slice.sliceFields
 refine aw (aw (wpAny_field nJ sY (x:=vl) rfl (aw (wpAny_field nJ sY (x:=vu) rfl (aw (wpAny_field nJ sY (x:=.none) rfl (aO ?_)))))))
 refine aw (slicePart_none ?_)
 show wpAny _ _ (if ((1:Int)==0)=true then _ else _) _ _ s
 rw[if_neg (by decide)]
 refine aw (De pl (aw (De pu (aw (aO ?_)))))
 show wpAny _ _ (match Builtin.Slice.sliceAdjust lo hi 1 (n:Int)with | (lo,hi)=>pure (lo,(1:Int),Builtin.Slice.slicePlaces lo hi 1)) _ _ s
 rw[LV lo hi n]
 show wpAny _ _ (pure (((aS n 0 lo:Nat):Int),(1:Int),Builtin.Slice.slicePlaces ((aS n 0 lo:Nat):Int) ((aS n n hi:Nat):Int) 1)) _ _ s
 rw[LW]
 exact aO h
theorem NF(xs:Array Value)(i k:Nat):((List.range k).filterMap fun(m:Nat)=>xs[((i:Int)+(m:Int)*1).toNat]?).toArray=((xs.toList.drop i).take k).toArray:=by
 have e:(fun(m:Nat)=>xs[((i:Int)+(m:Int)*1).toNat]?)=fun m=>xs[i+m]?:=by
  funext m
  have:((i:Int)+(m:Int)*1).toNat=i+m:=by omega
  rw[this]
 rw[e]
 have:=pick_run xs i k
 rw[List.filterMap_map]at this
 have e2:((fun x=>xs[x]?)∘fun x=>i+x)=fun m=>xs[i+m]?:=rfl
 rw[e2]at this
 rw[this]
theorem Lc{t sl:Addr}{items:Array Value}{vl vu:Value}{lo hi:Option Int}{Q:Value→Shared→Prop}(ht:IsTup s.heap t items)(hs:s.heap.IsSliceOf sl vl vu .none)(pl:IsPart vl lo)(pu:IsPart vu hi)
  (hw:¬(aS items.size 0 lo=0∧aS items.size items.size hi=items.size))
  (h:Q (.ref s.heap.objs.size) { s with heap:=s.heap.push { cls:=.type "tuple",data:=.seq ((items.toList.drop (aS items.size 0 lo)).take (aS items.size items.size hi-aS items.size 0 lo)).toArray } })
  (hsz:items.size≤sizeLine):wpAny (model prog w) A (getItem (.ref t) (.ref sl)) Q E s:=by
 have vv:sizeOk (.seq ((items.toList.drop (aS items.size 0 lo)).take (aS items.size items.size hi-aS items.size 0 lo)).toArray):=by
  show((items.toList.drop (aS items.size 0 lo)).take (aS items.size items.size hi-aS items.size 0 lo)).toArray.size≤sizeLine
  rw[fY,kH,List.length_drop,AQ]
  omega
 have hj:aS items.size items.size hi≤items.size:=RL _ _ (aR _) hi
 obtain⟨os,nJ,fN,sY⟩:=id hs
 have Bd:s.TypeIs (.ref sl) "slice" := ⟨os,nJ,fN⟩
 unfold getItem
 try with_reducible refine lS ?_
 first|refine aw (aO ?_)|skip
 refine aw (wpAny_sequenceKey ht.typeIs (by decide) ?_)
 refine aw (wQ (name:=Str.ofString "__getitem__") ht.typeIs pK
  (ny pK ht.typeIs entry_tuple_getitem ?_ (args_tuple_getitem _ _)))
 show wpAny _ _ (Builtin.Tuple.tupleItemsOf (.ref t) >>= _) _ _ s
 refine aw (tupleItemsOf_ ht ?_)
 refine aw (wpAny_typeOf Bd ?_)
 rw[if_pos (by decide)]
 refine aw (CJ hs pl pu ?_)
 have Wv:¬((((aS items.size 0 lo:Nat):Int)==0&&(1:Int)==1&&(aS items.size items.size hi-aS items.size 0 lo)==items.size)=true):=by
  intro q
  rw[gx,gx]at q
  have q1:((aS items.size 0 lo:Nat):Int)=0:=eq_of_beq q.1.1
  have q2:aS items.size items.size hi-aS items.size 0 lo=items.size:=eq_of_beq q.2
  exact hw ⟨by omega,by omega⟩
 show wpAny _ _ (if (((aS items.size 0 lo:Nat):Int)==0&&(1:Int)==1&&(aS items.size items.size hi-aS items.size 0 lo)==items.size)=true then _ else _) _ _ s
 rw[if_neg Wv,NF]
 first
  |exact aw (m:=Builtin.Tuple.tupleExact _) (kJ (aO ⟨_,rfl,aO h⟩) vv)
  |exact aw (m:=Builtin.Tuple.tupleExact _) (kJ (aw (aO (aO ⟨_,rfl,aO h⟩))) vv)
  |exact aw (aw (m:=Builtin.Tuple.tupleExact _) (kJ (aO (aO ⟨_,rfl,aO h⟩)) vv))
  |exact aw (aw (m:=Builtin.Tuple.tupleExact _) (kJ (aO ⟨_,rfl,aO h⟩) vv))
end
end HT
namespace L2
open PySem PySem.Spec PyProof.Rows
noncomputable abbrev TO:=St→Hp→(Option Int→Hp→Prop)→Prop
def PO(X:Cx)(e:Option Expr)(t:TO):Prop :=
 ∀(pins:List (Addr×Obj)) (s:Shared) (σ:St) (H:Hp) (Q:Option Int→Hp→Prop),Inv X pins σ H s→t σ H Q →
  wpAny (model X.prog X.w) X.A (evalPart e X.env) (fun u s'=>∃o H',Inv X pins σ H' s'∧IsPart u o∧Q o H') X.xe s
noncomputable def EH:TO:=fun _ H Q=>Q none H
noncomputable def GW(t:TE):TO:=fun σ H Q=>t σ H fun x H1=>∃i,x=.int i∧Q (some i) H1
section
variable {X:Cx}{e:Expr}{te:TE}{lo hi:Option Expr}{tl th:TO}{pos p2:Pos}
theorem Pl:PO X none EH:=by
 intro pins s σ H Q I h
 rw[evalPart_none]
 exact aO ⟨none,H,I,.none,h⟩
theorem Pm(h:PE X e te):PO X (some e) (GW te):=by
 intro pins s σ H Q I hw
 rw[evalPart_some]
 refine aD (h pins s σ H _ I hw) fun u s1 ⟨x,H1,I1,r1,q1⟩=>?_
 obtain⟨i,rfl,q⟩:=q1
 obtain⟨t,rfl⟩:=r1
 exact⟨some i,H1,I1,.int i t,q⟩
def kU(X:Cx)(r:V→Option Int→Option Int→Hp→VK→Prop):Prop :=
 ∀(pins:List (Addr×Obj)) (s:Shared) (σ:St) (H:Hp) (x:V) (v vl vu:Value) (lo hi:Option Int) (sl:Addr) (Q:VK),Inv X pins σ H s→RelV x v→s.heap.IsSliceOf sl vl vu .none→IsPart vl lo→IsPart vu hi→r x lo hi H Q →
  ∃T id,typeLookup (.type T) "__getitem__" = pure (some (.builtin id))∧s.TypeIs v T∧wpAny (model X.prog X.w) X.A (getItem v (.ref sl)) (EP X pins σ Q) X.xe s
noncomputable def Js(r:V→Option Int→Option Int→Hp→VK→Prop)(te:TE)(tl th:TO):TE:=fun σ H Q=>te σ H fun x H1=>tl σ H1 fun l H2=>th σ H2 fun u H3=>r x l u H3 Q
theorem NK{r:V→Option Int→Option Int→Hp→VK→Prop}(hr:kU X r)(he:PE X e te)(hl:PO X lo tl)(hu:PO X hi th):PE X (.Subscript e (.Slice lo hi none p2) pos) (Js r te tl th):=by
 intro pins s σ H Q I h
 refine Subscript_ (aD (he pins s σ H _ I h) fun v s1 ⟨x,H1,I1,r1,q1⟩=>?_)
 refine wpAny_Slice (aD (hl pins s1 σ H1 _ I1 q1) fun vl s2 ⟨l,H2,I2,pl,q2⟩=>aD (hu pins s2 σ H2 _ I2 q2) fun vu s3 ⟨u,H3,I3,pu,q3⟩=>?_)
 rw[evalPart_none]
 refine aO ?_
 have I4:Inv X pins σ H3 { s3 with heap:=s3.heap.push { cls:=.type "slice",data:=.fields #[vl,vu,.none] } }:=I3.kept (t':=s3.toks) fun b ob q=>cA _ q
 obtain⟨T,id,hT,ht,hg⟩:=hr pins { s3 with heap:=s3.heap.push { cls:=.type "slice",data:=.fields #[vl,vu,.none] } } σ H3 x v vl vu l u s3.heap.objs.size Q I4 r1 (Heap.IsSliceOf.new ..) pl pu q3
 show wpAny (model X.prog X.w) X.A (subscriptTail e (.Slice lo hi none p2) v (.ref s3.heap.objs.size)) (EP X pins σ Q) X.xe { s3 with heap:=s3.heap.push { cls:=.type "slice",data:=.fields #[vl,vu,.none] } }
 exact tail_any (ops:=[.ref s3.heap.objs.size,v]) ht hT hg (by with_unfolding_all rfl)
noncomputable def iH(xs:List V)(lo hi:Option Int):List V:=(xs.drop (HT.aS xs.length 0 lo)).take (HT.aS xs.length xs.length hi-HT.aS xs.length 0 lo)
theorem CY(xs:List V)(lo hi:Option Int):(iH xs lo hi).length≤xs.length:=by
 unfold iH
 rw[kH,List.length_drop]
 omega
def Vw(K:PySem.W.Frag):V→Option Int→Option Int→Hp→VK→Prop:=fun x lo hi H Q=>∃a xs,x=.ref a∧bh K H a xs ∧
 ¬(HT.aS xs.length 0 lo=0∧HT.aS xs.length xs.length hi=xs.length)∧∀p,H p=none→Q (.ref p) (upd H p (.tup (iH xs lo hi)))
theorem RM:kU X (Vw X.K):=by
 intro pins s σ H x v vl vu lo hi sl Q I rx hs pl pu h
 obtain⟨a,xs,rfl,hx,hw,q⟩:=h
 cases rx
 obtain⟨its,r,ht,hz⟩:=I.tuple hx
 have hlen:its.toArray.size=xs.length:=by rw[fY];exact r.length.symm
 refine⟨"tuple",_,pK.lookup,ht.typeIs,?_⟩
 refine HT.Lc ht hs pl pu (by rw[hlen];exact hw) ?_ (by rw[hlen];exact hz)
 rw[hlen]
 refine⟨.ref s.heap.objs.size,_,I.laid (t':=s.toks) (o:=.tup (iH xs lo hi)) (fun b ob q=>cA _ q) (aR _) ?_,rfl,q _ (I.aA.fresh (aR _))⟩
 exact⟨bS (CY xs lo hi) hz,_,(r.drop (HT.aS xs.length 0 lo)).take (HT.aS xs.length xs.length hi-HT.aS xs.length 0 lo),mW.new _ _⟩
noncomputable def Up(K:PySem.W.Frag):R2:=fun x y H Q=>∃a b xs ys,x=.ref a∧y=.ref b∧bh K H a xs∧bh K H b ys∧xs≠[]∧xs.length+ys.length≤sizeLine ∧
 (ys=[]→Q (.ref a) H)∧(ys≠[]→∀p,H p=none→Q (.ref p) (upd H p (.tup (xs++ys))))
theorem Vals.yM{xs:List V}{us:List Value}(r:Vals xs us):us=[]↔xs=[]:=by
 cases r with
 |nil=>simp
 |cons _ _=>simp
theorem Pn:bz X (binaryOp .Add) (Up X.K):=by
 intro pins s σ H x y v u Q I rx ry h
 obtain⟨a,b,xs,ys,rfl,rfl,ha,hb,hx,hz,q1,q2⟩:=h
 cases rx
 cases ry
 obtain⟨its,r1,p1,_⟩:=I.tuple ha
 obtain⟨rK,r2,p2,_⟩:=I.tuple hb
 refine HT.Pk p1 p2 (fun z=>hx (r1.yM.mp z)) (fun z=>⟨.ref a,H,I,rfl,q1 (r2.yM.mp z)⟩) (fun z=>?_) (by rw[←r1.length,←r2.length];exact hz)
 refine⟨.ref s.heap.objs.size,_,I.laid (t':=s.toks) (o:=.tup (xs++ys)) (fun b ob q=>cA _ q) (aR _) ?_,rfl,q2 (fun w=>z (r2.yM.mpr w)) _ (I.aA.fresh (aR _))⟩
 exact⟨by rw[cg];exact hz,_,r1.append r2,mW.new _ _⟩
end
noncomputable def dF(n:Nat)(i:Int):Option Nat:=if 0≤i then (if i<n then some i.toNat else none)else if -(n:Int)≤i then some (i+n).toNat else none
noncomputable def aX{α:Type}(xs:List α)(i:Int):Option α:=(dF xs.length i).bind fun j=>xs[j]?
theorem EI{n:Nat}{i:Int}{j:Nat}(h:dF n i=some j):seqIndex? i n=some j∧j<n∧-(n:Int)≤i∧i<n:=by
 unfold dF at h
 by_cases h0:0≤i
 ·rw[if_pos h0]at h
  by_cases h1:i<n
  ·rw[if_pos h1]at h
   have e:i.toNat=j:=c9 h
   exact⟨by rw[seqIndex_of h0 h1,e],by omega,by omega,h1⟩
  ·rw[if_neg h1]at h;cases h
 ·rw[if_neg h0]at h
  by_cases h1:-(n:Int)≤i
  ·rw[if_pos h1]at h
   have e:(i+n).toNat=j:=c9 h
   exact⟨by rw[seqIndex_neg (by omega) h1,e],by omega,h1,by omega⟩
  ·rw[if_neg h1]at h;cases h
theorem i7{α:Type}{xs:List α}{i:Int}{v:α}(h:aX xs i=some v):∃j,seqIndex? i xs.length=some j∧xs[j]?=some v∧j<xs.length∧-(xs.length:Int)≤i∧i<xs.length:=by
 unfold aX at h
 cases e:dF xs.length i with
 |none=>rw[e]at h;cases h
 |some j =>
  rw[e]at h
  obtain⟨h1,h2,h3,h4⟩:=EI e
  exact⟨j,h1,h,h2,h3,h4⟩
theorem gZ{α:Type}{xs:List α}{j:Nat}{v:α}(h:xs[j]?=some v):aX xs (j:Int)=some v:=by
 have hj:j<xs.length:=(bt.mp h).1
 have e:dF xs.length (j:Int)=some j:=by
  unfold dF
  rw[if_pos (by omega),if_pos (by omega)];simp
 unfold aX;rw[e];exact h
def EJ(b:Expr):Prop:=∀o i,subscripted b false o i=operate [o,i] (getItem o i)
def jM(X:Cx)(r:R2):Prop :=
 ∀(value slice:Expr) (pins:List (Addr×Obj)) (s:Shared) (σ:St) (H:Hp) (x y:V) (v u:Value) (Q:VK),Inv X pins σ H s→RelV x v→RelV y u→r x y H Q →
  subscripted slice false v u=operate [v,u] (getItem v u)→wpAny (model X.prog X.w) X.A (subscriptTail value slice v u) (EP X pins σ Q) X.xe s
def xt(X:Cx)(id:String)(r:V→List V→Hp→VK→Prop):Prop :=
 ∀(pins:List (Addr×Obj)) (s:Shared) (σ:St) (H:Hp) (x:V) (xs:List V) (v:Value) (us:List Value) (Q:VK),Inv X pins σ H s→RelV x v→Vals xs us→r x xs H Q →
  wpAny (model X.prog X.w) X.A (call (.builtin id) (v::us)) (EP X pins σ Q) X.xe s
section
variable {X:Cx}{a b:Expr}{ta tb:TE}{pos:Pos}
theorem jM.or{r r':R2}(h:jM X r)(h':jM X r'):jM X (fun x y H Q=>r x y H Q∨r' x y H Q):=by
 intro value slice pins s σ H x y v u Q I rx ry q hs
 rcases q with q|q
 ·exact h value slice pins s σ H x y v u Q I rx ry q hs
 ·exact h' value slice pins s σ H x y v u Q I rx ry q hs
theorem vw{r:R2}(hr:jM X r)(ha:PE X a ta)(hb:PE X b tb)(hs:EJ b):PE X (.Subscript a b pos) (lZ r ta tb):=by
 intro pins s σ H Q I h
 exact Subscript_ (zR ha hb I h fun v u s2 x y H2 I2 rx ry q=>hr a b pins s2 σ H2 x y v u Q I2 rx ry q (hs _ _))
noncomputable def HX(K:PySem.W.Frag):R2:=fun x y H Q=>∃p xs i v,x=.ref p∧y=.int i∧bw K H p xs∧aX xs i=some v∧Q v H
noncomputable def HY(K:PySem.W.Frag):R2:=fun x y H Q=>∃p xs i v,x=.ref p∧y=.int i∧bh K H p xs∧aX xs i=some v∧Q v H
noncomputable def HZ:R2:=fun x y H Q=>∃z i c,x=.str z∧y=.int i∧z.length≤sizeLine∧aX z.cps.toList i=some c∧Q (.str ⟨#[c]⟩) H
theorem Pq:jM X (HX X.K):=by
 intro value slice pins s σ H x y v u Q I rx ry h hs
 obtain⟨p,xs,i,z,rfl,rfl,hq,he,q⟩:=h
 cases rx
 obtain⟨t,rfl⟩:=ry
 obtain⟨its,r,pl,hz⟩:=I.list hq
 obtain⟨j,h1,h2,h3,h4,h5⟩:=i7 he
 obtain⟨w,ew,gB⟩:=r.get h2
 have hl:=r.length
 have hn:=oz
 have fin:EP X pins σ Q w s:=⟨z,H,I,gB,q⟩
 by_cases h0:0≤i
 ·have hj:i.toNat=j:=by
   rw[seqIndex_of h0 h5]at h1
   exact c9 h1
  exact item_listR pl.isList h0 (by omega) (by rw[hj];simpa using ew) fin hs
 ·have hj:(i+(its.toArray.size:Int)).toNat=j:=by
   rw[seqIndex_neg (by omega) h4]at h1
   rw[fY,←hl]
   exact c9 h1
  exact subscriptTail_builtinR (x:=w) pl.isList.typeIs slot_list_getitem.lookup
   (wpAny_getItem_list_neg (Q:=fun r s'=>r=w∧EP X pins σ Q r s') pl.isList (by omega) (by rw[fY]<;>omega) (by omega) (by rw[hj];simpa using ew) ⟨rfl,fin⟩) hs
theorem RN:jM X (HY X.K):=by
 intro value slice pins s σ H x y v u Q I rx ry h hs
 obtain⟨p,xs,i,z,rfl,rfl,hq,he,q⟩:=h
 cases rx
 obtain⟨t,rfl⟩:=ry
 obtain⟨its,r,pl,hz⟩:=I.tuple hq
 obtain⟨j,h1,h2,h3,h4,h5⟩:=i7 he
 obtain⟨w,ew,gB⟩:=r.get h2
 have hl:=r.length
 have hn:=oz
 have fin:EP X pins σ Q w s:=⟨z,H,I,gB,q⟩
 exact subscriptTail_builtinR (x:=w) pl.typeIs slot_tuple_getitem.lookup
  (getItem_tuple (j:=j) (Q:=fun r s'=>r=w∧EP X pins σ Q r s') pl (by omega) (by omega) (by rw[fY,←hl];exact h1) (by simpa using ew) ⟨rfl,fin⟩) hs
theorem RP:jM X HZ:=by
 intro value slice pins s σ H x y v u Q I rx ry h hs
 obtain⟨z,i,c,rfl,rfl,hz,he,q⟩:=h
 obtain⟨t,rfl⟩:=rx
 obtain⟨t',rfl⟩:=ry
 obtain⟨j,h1,h2,h3,h4,h5⟩:=i7 he
 have hl:z.cps.toList.length=z.length:=by simp[Str.length]
 rw[hl]at h1 h4 h5
 have hn:=oz
 exact tail_any (typeIs_str s z t) slot_str_getitem.lookup (getItem_str (c:=c) (by
  have e1:decide (i < -(2^63:Int))=false:=fJ (by omega)
  have e2:decide (i≥2^63)=false:=fJ (by omega)
  rw[e1,e2,Bool.or_false]) (by rw[h1];simpa using h2) ⟨.str ⟨#[c]⟩,H,I.tok _,⟨_,rfl⟩,q⟩) hs
noncomputable def pX(K:PySem.W.Frag):R2:=fun x y H Q=>HX K x y H Q∨HY K x y H Q∨HZ x y H Q
theorem RQ:jM X (pX X.K):=Pq.or (RN.or RP)
theorem LX(its:List Value)(n j:Nat)(u:Value):Obj.mapSeq (·.setIfInBounds j u) { cls:=.type "list",data:=.seq its.toArray n }={ cls:=.type "list",data:=.seq (its.set j u).toArray n }:=by
 simp[Obj.mapSeq]
theorem Inv.lst{pins:List (Addr×Obj)}{σ:St}{H:Hp}{s:Shared}{p:Addr}{xs:List V}(I:Inv X pins σ H s)(h:H p=some (.lst xs)) :
  ∃(its:List Value) (n:Nat),Vals xs its∧s.heap.get? p=some { cls:=.type "list",data:=.seq its.toArray n }∧xs.length≤sizeLine:=by
 obtain⟨z,its,n,r,e⟩:=I.aA p _ h
 exact⟨its,n,r,e,z⟩
theorem Inv.RT{pins:List (Addr×Obj)}{σ:St}{H:Hp}{s:Shared}{p:Addr}{xs ys:List V}{its its':List Value}{n n':Nat}{f:Obj→Obj}(I:Inv X pins σ H s)(h:H p=some (.lst xs))
  (ho:s.heap.get? p=some { cls:=.type "list",data:=.seq its.toArray n }) (hf:f { cls:=.type "list",data:=.seq its.toArray n }={ cls:=.type "list",data:=.seq its'.toArray n' }) (r:Vals ys its') (hz:ys.length≤sizeLine) (t:Nat) :
  Inv X pins σ (upd H p (.lst ys)) { s with heap:=s.heap.update p f,toks:=t }:=by
 have e:(s.heap.update p f).get? p=some { cls:=.type "list",data:=.seq its'.toArray n' }:=by
  rw[Heap.get?_update_self f ho (by rw[hf]<;>rfl),hf]
 refine I.write (x:=p) (e:=p) (by rw[h];trivial) (.inl rfl) (fun b u hb q=>(Heap.get?_update_other _ _ (jE hb)).trans q) ⟨_,e⟩ ?_
 exact⟨hz,its',n',r,e⟩
def GX:V→V→V→Hp→(Hp→Prop)→Prop:=fun o i v H Q=>∃p xs k j,o=.ref p∧i=.int k∧H p=some (.lst xs)∧dF xs.length k=some j∧Q (upd H p (.lst (xs.set j v)))
theorem set_list:HN X GX:=by
 intro pins s σ H o i v ov iv u Q I ro ri rv h
 obtain⟨p,xs,k,j,rfl,rfl,hp,hj,q⟩:=h
 cases ro
 obtain⟨t,rfl⟩:=ri
 obtain⟨its,n,r,ho,hz⟩:=I.lst hp
 obtain⟨h1,h2,h3,h4⟩:=EI hj
 have hl:=r.length
 have hn:=oz
 have I':Inv X pins σ (upd H p (.lst (xs.set j v))) { s with heap:=s.heap.update p (Obj.mapSeq (·.setIfInBounds j u)) } :=
  I.RT hp ho (LX its n j u) (r.set rv j) (by rw[hV];exact hz) s.toks
 by_cases h0:0≤k
 ·have hk:k.toNat=j:=by
   rw[seqIndex_of h0 h4]at h1
   exact c9 h1
  exact PySem.W.ki_setAt ho h0 (by omega) (by rw[fY,←hl];exact h4) (by rw[hk];exact⟨_,I',q⟩)
 ·have hk:(k+(its.toArray.size:Int)).toNat=j:=by
   rw[seqIndex_neg (by omega) h3]at h1
   rw[fY,←hl]
   exact c9 h1
  exact PySem.W.ki_setBack ho (by omega) (by rw[fY,←hl];exact h3) (by omega) (by rw[hk];exact⟨_,I',q⟩)
theorem Lh(lo hi:Option Int)(n:Nat):(sliceBounds lo hi none n).1=((HT.aS n 0 lo:Nat):Int)∧(sliceBounds lo hi none n).2.1=((HT.aS n n hi:Nat):Int)∧(sliceBounds lo hi none n).2.2=1:=by
 refine⟨?_,?_,rfl⟩
 ·cases lo with
  |none=>simp[sliceBounds,HT.aS]
  |some i =>
   simp only[sliceBounds,HT.aS,Option.getD_none,show(1:Int)>0 by decide,if_true]
   by_cases h:i<0
   ·simp only[h,if_true]<;>omega
   ·simp only[h,if_false]<;>omega
 ·cases hi with
  |none=>simp[sliceBounds,HT.aS]
  |some i =>
   simp only[sliceBounds,HT.aS,Option.getD_none,show(1:Int)>0 by decide,if_true]
   by_cases h:i<0
   ·simp only[h,if_true]<;>omega
   ·simp only[h,if_false]<;>omega
theorem Lf(its:List Value)(lo hi:Option Int):slicePick its.toArray lo hi none=((its.drop (HT.aS its.length 0 lo)).take (HT.aS its.length its.length hi-HT.aS its.length 0 lo)).toArray:=by
 obtain⟨h1,h2,h3⟩:=Lh lo hi its.toArray.size
 unfold slicePick
 rw[h1,h2,h3]
 simp only[sliceRange_one,pick_run,List.size_toArray]<;>rfl
def zV(K:PySem.W.Frag):V→Option Int→Option Int→Hp→VK→Prop:=fun x lo hi H Q=>∃a xs,x=.ref a∧bw K H a xs∧∀p,H p=none→Q (.ref p) (upd H p (.lst (iH xs lo hi)))
theorem Pr:kU X (zV X.K):=by
 intro pins s σ H x v vl vu lo hi sl Q I rx hs pl pu h
 obtain⟨a,xs,rfl,hx,q⟩:=h
 cases rx
 obtain⟨its,r,ht,hz⟩:=I.list hx
 have hlen:=r.length
 refine⟨"list",_,slot_list_getitem.lookup,ht.isList.typeIs,?_⟩
 refine wpAny_getItem_list_slice ht.isList hs pl pu .none (by simp) ?_ (by rw[List.size_toArray]<;>omega)
 rw[Lf,←hlen]
 refine⟨.ref s.heap.objs.size,_,I.laid (t':=s.toks) (o:=.lst (iH xs lo hi)) (fun b ob q=>cA _ q) (aR _) ?_,rfl,q _ (I.aA.fresh (aR _))⟩
 exact⟨bS (CY xs lo hi) hz,_,0,(r.drop (HT.aS xs.length 0 lo)).take (HT.aS xs.length xs.length hi-HT.aS xs.length 0 lo),eU _ rfl⟩
noncomputable def jm:V→Bool
 |.non=>true
 |.bl _=>true
 |.int _=>true
 |.str _=>true
 |_=>false
noncomputable def jN:V→V→Bool
 |.non,.non=>true
 |.bl a,.bl b=>a==b
 |.bl a,.int b=>(if a then 1 else 0)==b
 |.int a,.bl b=>a==(if b then 1 else 0)
 |.int a,.int b=>a==b
 |.str a,.str b=>a==b
 |_,_=>false
theorem RW{A:Around}{s:Shared}{y x:V}{u v:Value}(ry:RelV y u)(rx:RelV x v)(fy:jm y=true)(fx:jm x=true):SeqAt.EqAt A s u v (jN y x):=by
 cases y with
 |non =>
  cases ry
  cases x with
  |non=>cases rx;exact pJ _
  |bl b=>cases rx;exact SeqAt.EqAt.none_bool b
  |int b=>obtain⟨t,rfl⟩:=rx;exact Ay b t
  |str b=>obtain⟨t,rfl⟩:=rx;exact Az b t
  |_=>exact absurd (show false=true from fx) a6
 |bl a =>
  cases ry
  cases x with
  |non=>cases rx;exact SeqAt.EqAt.bool_none a
  |bl b=>cases rx;exact SeqAt.EqAt.bool_bool a b
  |int b=>obtain⟨t,rfl⟩:=rx;exact SeqAt.EqAt.bool_int a b t
  |str b=>obtain⟨t,rfl⟩:=rx;exact SeqAt.EqAt.bool_str a b t
  |_=>exact absurd (show false=true from fx) a6
 |int a =>
  obtain⟨t',rfl⟩:=ry
  cases x with
  |non=>cases rx;exact Av a t'
  |bl b=>cases rx;exact SeqAt.EqAt.int_bool a t' b
  |int b=>obtain⟨t,rfl⟩:=rx;exact SeqAt.EqAt.int_int a t' b t
  |str b=>obtain⟨t,rfl⟩:=rx;exact Au a t' b t
  |_=>exact absurd (show false=true from fx) a6
 |str a =>
  obtain⟨t',rfl⟩:=ry
  cases x with
  |non=>cases rx;exact Ax a t'
  |bl b=>cases rx;exact SeqAt.EqAt.str_bool a t' b
  |int b=>obtain⟨t,rfl⟩:=rx;exact Aw a t' b t
  |str b=>obtain⟨t,rfl⟩:=rx;exact SeqAt.EqAt.str_str a t' b t
  |_=>exact absurd (show false=true from fx) a6
 |_=>exact absurd (show false=true from fy) a6
noncomputable def kW(x:V)(u:Value):Bool:=match u with
 |.none=>jN .non x
 |.bool b=>jN (.bl b) x
 |.int i _=>jN (.int i) x
 |.str z _=>jN (.str z) x
 |_=>false
theorem FK{x y:V}{u:Value}(r:RelV y u)(f:jm y=true):kW x u=jN y x:=by
 cases y with
 |non=>cases r;rfl
 |bl b=>cases r;rfl
 |int i=>obtain⟨t,rfl⟩:=r;rfl
 |str z=>obtain⟨t,rfl⟩:=r;rfl
 |_=>exact absurd (show false=true from f) a6
theorem yN{x:V}:∀{xs:List V}{us:List Value},Vals xs us→xs.all jm=true→us.any (kW x)=xs.any fun y=>jN y x
 |_,_,.nil,_=>rfl
 |y::xs,u::us,.cons r t,f=>by
  rw[jF,gx]at f
  rw[sf,sf,FK r f.1,yN t f.2]
theorem yD{A:Around}{s:Shared}{x:V}{v:Value}(rx:RelV x v)(fx:jm x=true):∀{xs:List V}{us:List Value},Vals xs us→xs.all jm=true→∀u∈us,SeqAt.EqAt A s u v (kW x u)
 |_,_,.nil,_=>fun u hu=>by cases hu
 |y::xs,u::us,.cons r t,f=>fun u' hu=>by
  rw[jF,gx]at f
  rcases fK.mp hu with rfl|hu
  ·rw[FK r f.1];exact RW r rx f.1 fx
  ·exact yD rx fx t f.2 u' hu
noncomputable def dU(x:V)(xs:List V):Bool:=xs.any fun y=>jN y x
noncomputable def Be(K:PySem.W.Frag)(neg:Bool):R2:=fun x y H Q=>∃p xs,y=.ref p∧(bw K H p xs∨bh K H p xs)∧jm x=true∧xs.all jm=true∧Q (.bl (if neg then !dU x xs else dU x xs)) H
theorem Mu:bz X (compareOp .In) (Be X.K false):=by
 intro pins s σ H x y v u Q I rx ry h
 obtain⟨p,xs,rfl,hq,fx,fs,q⟩:=h
 cases ry
 rcases hq with hq|hq
 ·obtain⟨its,r,pl,hz⟩:=I.list hq
  refine SeqAt.in_listAt (kW x) pl.isList (fun w hw=>yD rx fx r fs w (by simpa using hw)) ⟨.bl _,H,I,rfl,?_⟩
  rw[show its.toArray.any (kW x)=its.any (kW x) by simp,yN r fs]
  exact q
 ·obtain⟨its,r,pl,hz⟩:=I.tuple hq
  refine SeqAt.in_tupleAt (kW x) pl (fun w hw=>yD rx fx r fs w (by simpa using hw)) ⟨.bl _,H,I,rfl,?_⟩
  rw[show its.toArray.any (kW x)=its.any (kW x) by simp,yN r fs]
  exact q
theorem Li:gp X (.type "list") (fun xs H Q=>∃p ys,xs=[.ref p]∧(bw X.K H p ys∨bh X.K H p ys)∧∀l,H l=none→Q (.ref l) (upd H l (.lst ys))):=by
 intro pins s σ H xs us Q I r h
 obtain⟨p,ys,rfl,hq,q⟩:=h
 obtain⟨u,rfl,rx⟩:=vals1 r
 cases rx
 have fin:∀(its:List Value),Vals ys its→ys.length≤sizeLine→∀(h':Heap) (c':Nat),(∀b o',s.heap.get? b=some o'→h'.get? b=some o') →
   h'.get? s.heap.objs.size=some { cls:=.type "list",dict:=none,data:=.seq its.toArray c',slots:=#[] }→EP X pins σ Q (.ref s.heap.objs.size) { s with heap:=h' }:=fun its r' hz h' c' kp e =>
  ⟨.ref s.heap.objs.size,_,I.laid (t':=s.toks) kp (aR _) (show bU X.prog X.w _ h' _ (.lst ys) from⟨hz,its,c',r',e⟩),rfl,q _ (I.aA.fresh (aR _))⟩
 rcases hq with hq|hq
 ·obtain⟨its,r',pl,hz⟩:=I.list hq
  have hlen:=r'.length
  obtain⟨o,ho,hc,n,hd⟩:=pl.isList
  exact call_list_seq p (.inl rfl) ho hc hd (fun h' c' kp e=>fin its r' hz h' c' kp e) (by simp only[List.size_toArray]<;>omega)
 ·obtain⟨its,r',pl,hz⟩:=I.tuple hq
  have hlen:=r'.length
  obtain⟨o,ho,hc,n,hd⟩:=pl
  exact call_list_seq p (.inr rfl) ho hc hd (fun h' c' kp e=>fin its r' hz h' c' kp e) (by simp only[List.size_toArray]<;>omega)
def Bf(K:PySem.W.Frag)(T:String)(x:V)(H:Hp):Prop:=match x with
 |.str _=>T = "str"
 |.int _=>T = "int"
 |.ref p=>(T = "list" ∧ ∃xs,bw K H p xs)∨(T = "tuple" ∧ ∃o,K.lookup p=some o∧o.cls=.type "tuple" ∧ o.dict=none) ∨
  (T = "dict" ∧ ((∃kvs,H p=some (.dK kvs))∨∃kvs,H p=some (.dT kvs)))∨(T = "set" ∧ ∃S n,H p=some (.set S n))
 |_=>False
theorem FL{pins:List (Addr×Obj)}{σ:St}{H:Hp}{s:Shared}{T:String}{x:V}{v:Value}(I:Inv X pins σ H s)(r:RelV x v)(ty:Bf X.K T x H) :
  s.TypeIs v T∧∀a,v=.ref a→∃ob,s.heap.get? a=some ob∧ob.dict=none:=by
 cases x with
 |str z =>
  obtain⟨t,rfl⟩:=r
  cases (show T = "str" from ty)
  exact⟨typeIs_str s z t,fun _ e=>nomatch e⟩
 |int i =>
  obtain⟨t,rfl⟩:=r
  cases (show T = "int" from ty)
  exact⟨typeIs_int s i t,fun _ e=>nomatch e⟩
 |ref p =>
  cases r
  rcases ty with⟨rfl,xs,hq⟩|⟨rfl,o,hk,hc,hd⟩|⟨rfl,hk⟩|⟨rfl,S,n,hk⟩
  ·obtain⟨its,_,pl,_⟩:=I.list hq
   refine⟨pl.isList.typeIs,fun a e=>?_⟩
   cases e
   obtain⟨o,n,e,c,hd,_⟩:=pl
   exact⟨o,e,hd⟩
  ·refine⟨⟨o,I.gy p o hk,hc⟩,fun a e=>?_⟩
   cases e
   exact⟨o,I.gy _ o hk,hd⟩
  ·have z:∃o,s.heap.get? p=some o∧o.ExactDict:=by
    rcases hk with⟨kvs,hk⟩|⟨kvs,hk⟩
    ·obtain⟨_,_,_,_,o,_,_,e,ex,_⟩:=I.aA p _ hk
     exact⟨o,e,ex⟩
    ·obtain⟨_,_,_,_,o,_,_,e,ex,_⟩:=I.aA p _ hk
     exact⟨o,e,ex⟩
   obtain⟨o,e,ex⟩:=z
   refine⟨⟨o,e,ex.1⟩,fun a e2=>?_⟩
   cases e2
   exact⟨o,e,ex.2.1⟩
  ·obtain⟨o,_,_,_,e,ex,_⟩:=I.aA p _ hk
   refine⟨⟨o,e,ex.1⟩,fun a e2=>?_⟩
   cases e2
   exact⟨o,e,ex.2.1⟩
 |_=>exact False.elim ty
noncomputable def H0(K:PySem.W.Frag)(T:String)(r:V→List V→Hp→VK→Prop)(to:TE):TE:=fun σ H Q=>to σ H fun x H1=>Bf K T x H1∧r x [] H1 Q
noncomputable def nK(K:PySem.W.Frag)(T:String)(r:V→List V→Hp→VK→Prop)(to:TE)(t:TA):TE:=fun σ H Q=>to σ H fun x H1=>Bf K T x H1∧t σ H1 fun xs H2=>r x xs H2 Q
variable {o e:Expr}{es:List Expr}{to:TE}{t:TA}{name:Str}{apos bX:Pos}{T id:String}{r:V→List V→Hp→VK→Prop}
theorem RX (pa:PlainAttrs T) (slot:Slot T name id) (jO:typeOf (.builtin id)=pure (.type "method_descriptor")) (hm:xt X id r) (ho:PE X o to)
  (mM:attributeBase o name X.env (eval o X.env)=eval o X.env:=by rfl) (hline:(apos.endLine==bX.line)=true:=by rfl):PE X (.Call (.Attribute o name apos) [] [] bX) (H0 X.K T r to):=by
 intro pins s σ H Q I h
 refine wpAny_Call_method0_late mM hline (aD (ho pins s σ H _ I h) fun v s1 ⟨x,H1,I1,r1,ty,q1⟩=>?_)
 obtain⟨h1,h2⟩:=FL I1 r1 ty
 exact⟨T,id,pa,slot,jO,h1,h2,sj rfl (PySem.evalArgs_none (hm pins s1 σ H1 x [] v [] Q I1 r1 .nil q1))⟩
theorem GY (pa:PlainAttrs T) (slot:Slot T name id) (jO:typeOf (.builtin id)=pure (.type "method_descriptor")) (hm:xt X id r) (ho:PE X o to) (ha:PA X (e::es) t)
  (mM:attributeBase o name X.env (eval o X.env)=eval o X.env:=by rfl)
  (Vx:((backTo bX (starEach (e::es) X.env)).all (fun x=>!x.1)&&(backToKw bX (keywordEach [] X.env)).all (fun x=>x.1.isSome)
   && decide ((e::es).length+([]:List Keyword).length+(if ([]:List Keyword).isEmpty then 0 else 1)<30))=true:=by rfl)
  (hline:(apos.endLine==bX.line)=true:=by rfl) (hs:starEach (e::es) X.env=(false,eval e X.env)::starEach es X.env:=by rfl) (RZ:(backTo bX (starEach es X.env)).any (·.1)=false:=by rfl) :
  PE X (.Call (.Attribute o name apos) (e::es) [] bX) (nK X.K T r to t):=by
 intro pins s σ H Q I h
 refine wpAny_Call_method_late mM Vx hline rfl (aD (ho pins s σ H _ I h) fun v s1 ⟨x,H1,I1,r1,ty,q1⟩=>?_)
 obtain⟨h1,h2⟩:=FL I1 r1 ty
 refine⟨T,id,pa,slot,jO,h1,h2,?_⟩
 have hA:=ha bX pins s1 σ H1 _ I1 q1
 rw[hs]at hA ⊢
 refine sj (by show(false||(backTo bX (starEach es X.env)).any (·.1))=false;rw[RZ]<;>rfl) (Calls.evalArgs_plain ?_)
 exact aD hA fun us s2 ⟨vs,H2,I2,r2,q2⟩=>hm pins s2 σ H2 x vs v us Q I2 r1 r2 q2
end
def Ww(X:Cx)(id:String)(r:V→List V→Hp→VK→Prop):Prop :=
 ∀(pins:List (Addr×Obj)) (s:Shared) (σ:St) (H:Hp) (x:V) (xs:List V) (v:Value) (us:List Value) (Q:VK),Inv X pins σ H s→RelV x v→Vals xs us→r x xs H Q →
  wpAny (model X.prog X.w) X.A (call (.builtin id) (v::us)) (EP X pins σ Q) X.xe s
theorem Vals.zero{us:List Value}(h:Vals [] us):us=[]:=by cases h;rfl
theorem Vals.one{x:V}{us:List Value}(h:Vals [x] us):∃u,us=[u]∧RelV x u:=by
 cases h with|cons r t=>cases t;exact⟨_,rfl,r⟩
theorem Vals.two{x y:V}{us:List Value}(h:Vals [x,y] us):∃u v,us=[u,v]∧RelV x u∧RelV y v:=by
 cases h with|cons r t=>obtain⟨v,rfl,q⟩:=Vals.one t;exact⟨_,_,rfl,r,q⟩
theorem Vals.dropLast{xs:List V}{us:List Value}(h:Vals xs us):Vals xs.dropLast us.dropLast:=by
 induction h with
 |nil=>exact .nil
 |cons r t ih =>
  cases t with
  |nil=>exact .nil
  |cons q t'=>exact .cons r ih
theorem Vals.rep{xs:List V}{us:List Value}(h:Vals xs us):∀k:Nat,Vals (List.replicate k xs).flatten (List.replicate k us).flatten
 |0=>.nil
 |k+1=>by
  rw[wR,wR,wU,wU]
  exact Vals.append h (Vals.rep h k)
section
variable {X:Cx}{pins:List (Addr×Obj)}{σ:St}{H:Hp}{s:Shared}{l b:Addr}{xs ys zs:List V}
theorem Inv.Vy{its its':List Value}{n:Nat}{f:Array Value→Array Value}{t':Nat}(I:Inv X pins σ H s)(hH:H l=some (.lst xs))
  (e:s.heap.get? l=some { cls:=.type "list",data:=.seq its.toArray n }) (hf:f its.toArray=its'.toArray) (hv:Vals ys its') (hz:ys.length≤sizeLine) :
  Inv X pins σ (upd H l (.lst ys)) { s with heap:=s.heap.update l (Obj.mapSeq f),toks:=t' }:=by
 have q:=PySem.IsL.update e f
 rw[hf]at q
 refine I.write (x:=l) (e:=l) (by rw[hH];exact trivial) (.inl rfl) (fun b' u hb hu=>(Heap.get?_update_other s.heap (Obj.mapSeq f) (jE hb)).trans hu) ⟨_,q⟩ ?_
 exact⟨hz,its',_,hv,q⟩
theorem Inv.Vz{its:List Value}{t':Nat}(I:Inv X pins σ H s)(hv:Vals ys its)(hz:ys.length≤sizeLine) :
  Inv X pins σ (upd H s.heap.objs.size (.lst ys)) { s with heap:=s.heap.push { cls:=.type "list",data:=.seq its.toArray },toks:=t' } :=
 I.laid (fun _ _ q=>cA _ q) (aR _) ⟨hz,its,0,hv,eU _ rfl⟩
theorem Inv.fresh(I:Inv X pins σ H s):H s.heap.objs.size=none:=I.aA.fresh (aR _)
theorem Inv.VA(I:Inv X pins σ H s)(hH:H l=some (.lst xs)):xs.length≤sizeLine∧∃(its:List Value) (n:Nat),Vals xs its∧xs.length=its.length∧s.heap.get? l=some { cls:=.type "list",data:=.seq its.toArray n }:=by
 obtain⟨z,its,n,r,e⟩:=I.aA l _ hH
 exact⟨z,its,n,r,r.length,e⟩
end
section
variable {X:Cx}
def qE:V→List V→Hp→VK→Prop:=fun x vs H Q=>∃l xs y,x=.ref l∧vs=[y]∧H l=some (.lst xs)∧xs.length<sizeLine∧Q .non (upd H l (.lst (xs++[y])))
theorem DG:Ww X "list.append" qE:=by
 intro pins s σ H x vs v us Q I rx rv h
 obtain⟨l,xs,y,rfl,rfl,hH,hz,q⟩:=h
 cases rx
 obtain⟨u,rfl,ru⟩:=rv.one
 obtain⟨z,its,n,r,hl,e⟩:=I.VA hH
 refine call_meets F.slot_list_append ⟨_,e,rfl⟩ F.entry_list_append (F.args_list_append_2 _ _) (PySem.list_append l its.toArray n u (by rw[fY];omega)) ⟨e,?_⟩
 refine⟨.non,_,I.Vy (its':=its++[u]) hH e (by simp) (r.append (.cons ru .nil)) ?_,rfl,q⟩
 rw[cg,List.length_singleton]
 omega
end
section
variable {prog:Program}{w:World}{A:Around}{E:Value→Shared→Prop}{s:Shared}
end
section
variable {X:Cx}
end
section
variable {κ:Type}[DecidableEq κ]
noncomputable def dH(kvs:List (κ×V))(k:κ):Option V:=(kvs.find? fun kv=>decide (kv.1=k)).map (·.2)
noncomputable def putK(kvs:List (κ×V))(k:κ)(v:V):List (κ×V) :=
 if (kvs.any fun kv=>decide (kv.1=k))=true then kvs.map (fun kv=>if kv.1=k then (kv.1,v)else kv)else kvs++[(k,v)]
noncomputable def YL(kvs:List (κ×V))(k:κ):List (κ×V):=kvs.filter fun kv=>decide (kv.1≠k)
theorem uD{p:κ×V}{r:List (κ×V)}{k:κ}(e:p.1=k):dH (p::r) k=some p.2:=by simp[dH,List.find?_cons,e]
theorem uE{p:κ×V}{r:List (κ×V)}{k:κ}(e:¬p.1=k):dH (p::r) k=dH r k:=by simp[dH,List.find?_cons,e]
theorem D4(k:κ):∀kvs:List (κ×V),(kvs.any fun kv=>decide (kv.1=k))=(dH kvs k).isSome
 |[]=>rfl
 |p::r=>by
  rw[sf]
  by_cases e:p.1=k
  ·simp only[uD e,decide_eq_true e,Bool.true_or,Option.isSome_some]
  ·rw[uE e,fJ e,Bool.false_or];exact D4 k r
theorem ux(kvs:List (κ×V))(k:κ)(v:V):(putK kvs k v).length≤kvs.length+1:=by
 unfold putK
 split
 ·rw[a7];omega
 ·rw[cg,cB,sr];omega
theorem g9.qx{o:Option V}{u:Option Value}(r:g9 o u):o.isSome=u.isSome:=by
 cases o with
 |none=>cases u with
  |none=>rfl
  |some _=>exact(show False from r).elim
 |some _=>cases u with
  |none=>exact(show False from r).elim
  |some _=>rfl
theorem g9.getD{o:Option V}{u:Option Value}{d:V}{d':Value}(r:g9 o u)(rd:RelV d d'):RelV (o.getD d) (u.getD d'):=by
 cases o with
 |none=>cases u with
  |none=>exact rd
  |some _=>exact(show False from r).elim
 |some _=>cases u with
  |none=>exact(show False from r).elim
  |some _=>exact r
theorem KV.val{kvs:List (κ×V)}{vs:List (κ×Value)}(r:KV kvs vs)(k:κ):g9 (dH kvs k) (valueAt vs k):=by
 unfold KV at r
 induction r with
 |nil=>exact True.intro
 |@cons p q ps qs h t ih =>
  obtain⟨h1,h2⟩:=h
  by_cases e:p.1=k
  ·have e':q.1=k:=h1.symm.trans e
   have b:valueAt (q::qs) k=some q.2:=by simp[valueAt,List.find?_cons,e']
   rw[uD e,b];exact h2
  ·have e':¬q.1=k:=fun z=>e (h1.trans z)
   have b:valueAt (q::qs) k=valueAt qs k:=by simp[valueAt,List.find?_cons,e']
   rw[uE e,b];exact ih
theorem KV.any{kvs:List (κ×V)}{vs:List (κ×Value)}(r:KV kvs vs)(k:κ):(kvs.any fun kv=>decide (kv.1=k))=vs.any fun kv=>decide (kv.1=k):=by
 unfold KV at r
 induction r with
 |nil=>rfl
 |cons h t ih=>rw[sf,sf,ih,h.1]
theorem KV.repl{kvs:List (κ×V)}{vs:List (κ×Value)}(r:KV kvs vs)(k:κ){y:V}{u:Value}(ry:RelV y u) :
  KV (kvs.map fun kv=>if kv.1=k then (kv.1,y)else kv) (vs.map fun kv=>if kv.1=k then (kv.1,u)else kv):=by
 unfold KV at r ⊢
 induction r with
 |nil=>exact .nil
 |@cons p q ps qs h t ih =>
  rw[bE,bE]
  refine .cons ?_ ih
  obtain⟨h1,h2⟩:=h
  by_cases e:p.1=k
  ·rw[if_pos e,if_pos (h1.symm.trans e)];exact⟨h1,ry⟩
  ·rw[if_neg e,if_neg (fun z=>e (h1.trans z))];exact⟨h1,h2⟩
theorem KV.put{kvs:List (κ×V)}{vs:List (κ×Value)}(r:KV kvs vs)(k:κ){y:V}{u:Value}(ry:RelV y u):KV (putK kvs k y) (stored vs k u):=by
 unfold putK stored
 rw[r.any k]
 by_cases e:(vs.any fun kv=>decide (kv.1=k))=true
 ·rw[if_pos e,if_pos e];exact r.repl k ry
 ·rw[if_neg e,if_neg e];exact Paired.snoc r ⟨rfl,ry⟩
theorem KV.keys{kvs:List (κ×V)}{vs:List (κ×Value)}(r:KV kvs vs):kvs.map (·.1)=vs.map (·.1):=by
 unfold KV at r
 induction r with
 |nil=>rfl
 |cons h t ih=>rw[bE,bE,ih,h.1]
theorem KV.length{kvs:List (κ×V)}{vs:List (κ×Value)}(r:KV kvs vs):kvs.length=vs.length:=cK r
end
theorem mN{P:Program}{w:World}{k:Key}{u:Value}(r:RelV (kV k) u):(cv P w).is k u=true:=by
 cases k with
 |inl i=>obtain⟨t,e⟩:=(show ∃t,u=Value.int i t from r);subst e;exact Lp P w i t
 |inr x=>obtain⟨t,e⟩:=(show ∃t,u=Value.str x t from r);subst e;exact Lr P w x t
 |non=>rw[show u=Value.none from r];exact Ls P w
theorem DH{P:Program}{w:World}:∀{ks:List Key}{us:List Value},Vals (ks.map kV) us→ItemsAre (cv P w) ks us
 |[],_,r=>by rw[AU]at r;cases r;exact .nil
 |k::ks,_,r=>by
  rw[bE]at r
  cases r with
  |cons h t=>exact .cons (mN h) (DH t)
abbrev KT(H:Hp):List (List Key×V)→List (List Key×Addr×Value)→Prop:=Paired fun p q=>p.1=q.1∧H q.2.1=some (.tup (p.1.map kV))∧RelV p.2 q.2.2
theorem KT.val{H:Hp}{kvs:List (List Key×V)}{xs:List (List Key×Addr×Value)}(r:KT H kvs xs)(k:List Key):g9 (dH kvs k) ((atKey xs k).map (·.2)):=by
 induction r with
 |nil=>exact True.intro
 |@cons p q ps qs h t ih =>
  obtain⟨h1,_,h2⟩:=h
  by_cases e:p.1=k
  ·have e':q.1=k:=h1.symm.trans e
   have b:atKey (q::qs) k=some q.2:=by simp[atKey,List.find?_cons,e']
   rw[uD e,b];exact h2
  ·have e':¬q.1=k:=fun z=>e (h1.trans z)
   have b:atKey (q::qs) k=atKey qs k:=by simp[atKey,List.find?_cons,e']
   rw[uE e,b];exact ih
theorem KT.repl{H:Hp}{kvs:List (List Key×V)}{xs:List (List Key×Addr×Value)}(r:KT H kvs xs)(k:List Key){y:V}{u:Value}(ry:RelV y u) :
  KT H (kvs.map fun kv=>if kv.1=k then (kv.1,y)else kv) (xs.map (putAt k u)):=by
 induction r with
 |nil=>exact .nil
 |@cons p q ps qs h t ih =>
  rw[bE,bE]
  refine .cons ?_ ih
  obtain⟨h1,h2,h3⟩:=h
  unfold putAt
  by_cases e:p.1=k
  ·rw[if_pos e,if_pos (h1.symm.trans e)];exact⟨h1,h2,ry⟩
  ·rw[if_neg e,if_neg (fun z=>e (h1.trans z))];exact⟨h1,h2,h3⟩
theorem KT.put{H:Hp}{kvs:List (List Key×V)}{xs:List (List Key×Addr×Value)}(r:KT H kvs xs)(k:List Key){b:Addr}{y:V}{u:Value}(hb:H b=some (.tup (k.map kV)))(ry:RelV y u) :
  KT H (putK kvs k y) (storedH xs k b u):=by
 have e:(kvs.any fun kv=>decide (kv.1=k))=(atKey xs k).isSome:=by
  rw[D4,(r.val k).qx,AV]
 unfold putK storedH
 rw[e]
 by_cases q:(atKey xs k).isSome=true
 ·rw[if_pos q,if_pos q];exact r.repl k ry
 ·rw[if_neg q,if_neg q];exact Paired.snoc r ⟨rfl,hb,ry⟩
theorem KT.keeps{H H':Hp}{kvs:List (List Key×V)}{xs:List (List Key×Addr×Value)}(r:KT H kvs xs)(ht:∀b ys,H b=some (.tup ys)→H' b=some (.tup ys)):KT H' kvs xs :=
 Paired.kj r fun _ _ z=>⟨z.1,ht _ _ z.2.1,z.2.2⟩
section
variable {P:Program}{w:World}{H:Hp}{h:Heap}{a:Addr}
theorem GZ{u:HO}(ok:cn P w H h)(e:Rd H a u):bU P w H h a u:=e.ok ok
theorem iy{kvs:List (Key×V)}(ok:cn P w H h)(e:Rd H a (.dK kvs)):kvs.length≤sizeLine∧(a==sysModules)=false∧∃vs,KV kvs vs∧h.DictOf (cv P w) a vs :=
 show bU P w H h a (.dK kvs)from GZ ok e
theorem G0{kvs:List (Key×V)}(ok:cn P w H h)(e:H a=some (.dK kvs)):kvs.length≤sizeLine∧(a==sysModules)=false∧∃vs,KV kvs vs∧h.DictOf (cv P w) a vs:=iy ok (.inl e)
theorem oA{ks:List Key}(ok:cn P w H h)(e:H a=some (.tup (ks.map kV))):(tupleKind (cv P w)).is h ks a:=by
 obtain⟨_,its,r,o,h1,h2,_,n,h3⟩:=(show bU P w H h a (.tup (ks.map kV))from ok a _ e)
 exact⟨o,its.toArray,n,h1,h2,h3,by simpa using DH r⟩
theorem mO{kvs:List (List Key×V)}(ok:cn P w H h)(e:Rd H a (.dT kvs)):kvs.length≤sizeLine∧(a==sysModules)=false ∧
  ∃xs,KT H kvs xs∧h.DictOfH (tupleKind (cv P w)) a xs:=by
 obtain⟨z,y,xs,r,o,es,ep,h1,h2,h3,h4,h5⟩:=(show bU P w H h a (.dT kvs)from GZ ok e)
 refine⟨z,y,xs,r,o,es,ep,h1,h2,h3,h4,fun x hx=>?_,h5⟩
 have all:∀{l:List (List Key×V)}{m:List (List Key×Addr×Value)},KT H l m→∀x∈m,(tupleKind (cv P w)).is h x.1 x.2.1:=by
  intro l m q
  induction q with
  |nil=>intro x hx;exact nomatch hx
  |@cons p q ps qs hq t ih =>
   intro x hx
   rcases fK.mp hx with e|hx
   ·subst e
    exact oA ok (by rw[←hq.1];exact hq.2.1)
   ·exact ih x hx
 exact all r x hx
theorem Uq{kvs:List (List Key×V)}(ok:cn P w H h)(e:H a=some (.dT kvs)):kvs.length≤sizeLine∧(a==sysModules)=false ∧
 ∃xs,KT H kvs xs∧h.DictOfH (tupleKind (cv P w)) a xs:=mO ok (.inl e)
end
def gM(H:Hp)(a:Addr)(y:V)(r:Option V):Prop :=
 (∃kvs k,Rd H a (.dK kvs)∧y=kV k∧r=dH kvs k)∨∃kvs k b,Rd H a (.dT kvs)∧y=.ref b∧H b=some (.tup (k.map kV))∧r=dH kvs k
def oZ(H:Hp)(a:Addr)(y v:V)(H':Hp):Prop :=
 (∃kvs k,H a=some (.dK kvs)∧y=kV k∧kvs.length<sizeLine∧H'=upd H a (.dK (putK kvs k v))) ∨
 ∃kvs k b,H a=some (.dT kvs)∧y=.ref b∧H b=some (.tup (k.map kV))∧kvs.length<sizeLine∧H'=upd H a (.dT (putK kvs k v))
theorem gM.k{H:Hp}{a:Addr}{kvs:List (Key×V)}{k:Key}(e:H a=some (.dK kvs)):gM H a (kV k) (dH kvs k):=.inl ⟨kvs,k,.inl e,rfl,rfl⟩
theorem gM.t{H:Hp}{a b:Addr}{kvs:List (List Key×V)}{k:List Key}(e:H a=some (.dT kvs))(eb:H b=some (.tup (k.map kV))):gM H a (.ref b) (dH kvs k):=.inr ⟨kvs,k,b,.inl e,rfl,eb,rfl⟩
theorem oZ.k{H:Hp}{a:Addr}{kvs:List (Key×V)}{k:Key}{v:V}(e:H a=some (.dK kvs))(hl:kvs.length<sizeLine):oZ H a (kV k) v (upd H a (.dK (putK kvs k v))):=.inl ⟨kvs,k,e,rfl,hl,rfl⟩
theorem oZ.t{H:Hp}{a b:Addr}{kvs:List (List Key×V)}{k:List Key}{v:V}(e:H a=some (.dT kvs))(eb:H b=some (.tup (k.map kV)))(hl:kvs.length<sizeLine) :
 oZ H a (.ref b) v (upd H a (.dT (putK kvs k v))):=.inr ⟨kvs,k,b,e,rfl,eb,hl,rfl⟩
section
variable {X:Cx}{pins:List (Addr×Obj)}{σ:St}{H:Hp}{s:Shared}{a:Addr}{y v:V}{u r:Value}{o:Option V}{A:Around}{E:Value→Shared→Prop}
theorem Inv.big(I:Inv X pins σ H s):sysModules<s.heap.objs.size:=by
 have h:mainGlobals<s.heap.objs.size:=(I.mod.glob.keeps I.bk).lt
 exact Nat.lt_trans (by decide) h
theorem Mv{Q:Value→Shared→Prop}(hu:A.units+1<cLine)(I:Inv X pins σ H s)(g:gM H a y (some v))(ry:RelV y u)(h:∀w' s',Inv X pins σ H s'→RelV v w'→Q w' s') :
  wpAny (model X.prog X.w) A (getItem (.ref a) u) Q E s:=by
 rcases g with⟨kvs,k,e,ey,l⟩|⟨kvs,k,b,e,ey,eb,l⟩
 ·subst ey
  obtain⟨z,hd,vs,rel,dd⟩:=iy I.aA e
  obtain⟨w',hw,gB⟩:=g9.some_of (v:=v) (o:=valueAt vs k) (by rw[l];exact rel.val k)
  exact wpAny_getItem_of (mN ry) dd.mapOf hw (h w' _ (I.tok _) gB)
 ·subst ey
  cases (show u=Value.ref b from ry)
  obtain⟨z,hd,xs,rel,dd⟩:=mO I.aA e
  obtain⟨w',hw,gB⟩:=g9.some_of (v:=v) (o:=(atKey xs k).map (·.2)) (by rw[l];exact rel.val k)
  obtain⟨p,hp,xu⟩:=Option.map_eq_some_iff.mp hw
  refine wpAny_getItem_heap (su hu) (oA I.aA eb) dd hp ?_
  rw[xu]
  exact h w' _ (I.tok _) gB
theorem VB{Q:Value→Shared→Prop}(hu:A.units+1<cLine)(I:Inv X pins σ H s)(g:gM H a y o)(ry:RelV y u)(h:∀s',Inv X pins σ H s'→Q (.bool o.isSome) s') :
  wpAny (model X.prog X.w) A (compareOp .In u (.ref a)) Q E s:=by
 rcases g with⟨kvs,k,e,ey,l⟩|⟨kvs,k,b,e,ey,eb,l⟩
 ·subst ey
  obtain⟨z,hd,vs,rel,dd⟩:=iy I.aA e
  refine wpAny_in_of (mN ry) hd dd.mapOf ?_
  rw[←(rel.val k).qx,←l]
  exact h _ (I.tok _)
 ·subst ey
  cases (show u=Value.ref b from ry)
  obtain⟨z,hd,xs,rel,dd⟩:=mO I.aA e
  refine wpAny_in_heap (su hu) (oA I.aA eb) hd dd ?_
  have q:=(rel.val k).qx
  rw[AV]at q
  rw[←q,←l]
  exact h _ (I.tok _)
theorem Pt{Q:Value→Shared→Prop}(hu:A.units+1<cLine)(I:Inv X pins σ H s)(g:gM H a y o)(ry:RelV y u)(h:∀s',Inv X pins σ H s'→Q (.bool (!o.isSome)) s') :
  wpAny (model X.prog X.w) A (compareOp .NotIn u (.ref a)) Q E s:=by
 rcases g with⟨kvs,k,e,ey,l⟩|⟨kvs,k,b,e,ey,eb,l⟩
 ·subst ey
  obtain⟨z,hd,vs,rel,dd⟩:=iy I.aA e
  refine wpAny_notIn_of (mN ry) hd dd.mapOf ?_
  rw[←(rel.val k).qx,←l]
  exact h _ (I.tok _)
 ·subst ey
  cases (show u=Value.ref b from ry)
  obtain⟨z,hd,xs,rel,dd⟩:=mO I.aA e
  refine wpAny_notIn_heap (su hu) (oA I.aA eb) hd dd ?_
  have q:=(rel.val k).qx
  rw[AV]at q
  rw[←q,←l]
  exact h _ (I.tok _)
theorem yO{h':Heap}{t':Nat}{ob:HO}(I:Inv X pins σ H s)(mu:sF (H a))(hs:Heap.SameBut a s.heap h')(he:∃q,h'.get? a=some q)(new:bU X.prog X.w (upd H a ob) h' a ob) :
  Inv X pins σ (upd H a ob) { s with heap:=h',toks:=t' } :=
 I.write (x:=a) (e:=a) mu (.inl rfl) (fun b q hb z=>(hs.2 b hb).trans z) he new
theorem zc{P:Program}{w:World}{H':Hp}{h':Heap}{kvs:List (Key×V)}{vs:List (Key×Value)}(z:kvs.length≤sizeLine)(hd:(a==sysModules)=false)(rel:KV kvs vs)(dd:h'.DictOf (cv P w) a vs) :
 bU P w H' h' a (.dK kvs):=⟨z,hd,vs,rel,dd⟩
theorem Mw{H':Hp}{Q:Unit→Shared→Prop}(hu:A.units+1<cLine)(I:Inv X pins σ H s)(g:oZ H a y v H')(ry:RelV y u)(rv:RelV v r)(h:∀s',Inv X pins σ H' s'→Q () s') :
  wpAny (model X.prog X.w) A (setItem (.ref a) u r) Q E s:=by
 rcases g with⟨kvs,k,e,ey,l,eH⟩|⟨kvs,k,b,e,ey,eb,l,eH⟩
 ·subst ey eH
  obtain⟨z,hd,vs,rel,dd⟩:=G0 I.aA e
  have hz:vs.length≤sizeLine:=by rw[←rel.length];exact z
  have hl:(putK kvs k v).length≤sizeLine:=by have:=ux kvs k v;omega
  refine wpAny_setItem_pairs (hsz:=hz) (mN ry) dd fun h' fO hs=>h _ ?_
  have he:∃q,h'.get? a=some q:=let ⟨q,_,_,hq,_⟩:=fO;⟨q,hq⟩
  exact yO I (by rw[e];exact True.intro) hs he (zc hl hd (rel.put k rv) fO)
 ·subst ey eH
  cases (show u=Value.ref b from ry)
  obtain⟨z,hd,xs,rel,dd⟩:=Uq I.aA e
  have hz:xs.length≤sizeLine:=by rw[←cK rel];exact z
  have hl:(putK kvs k v).length≤sizeLine:=by have:=ux kvs k v;omega
  refine wpAny_setItem_heap (hsz:=hz) (su hu) (oA I.aA eb) dd fun h' fO hs=>h _ ?_
  obtain⟨q,es,ep,hq,h2,h3,h4,_,h5⟩:=fO
  refine yO I (by rw[e];exact True.intro) hs ⟨q,hq⟩ ⟨hl,hd,_,(rel.put k eb rv).keeps fun c ys ec=>?_,q,es,ep,hq,h2,h3,h4,h5⟩
  rw[az (lF ec e (fun z=>nomatch z))]
  exact ec
end
section
variable {X:Cx}{pins:List (Addr×Obj)}{σ:St}{H:Hp}{s:Shared}{a:Addr}{kvs:List (Key×V)}{k:Key}{u:Value}{A:Around}{E:Value→Shared→Prop}
end
def zW(i:Expr):Prop:=∀ov iv,subscripted i false ov iv=operate [ov,iv] (getItem ov iv)
theorem Pu{prog:Program}{w:World}{A:Around}{E:Value→Shared→Prop}{s:Shared}{env:Env}{value slice:Expr}{pos:Pos}{T id:String}{Q:Value→Shared→Prop}
  (hl:typeLookup (.type T) "__getitem__" = pure (some (.builtin id))) (hs:zW slice)
  (h:wpAny (model prog w) A (eval value env) (fun o s₁=>wpAny (model prog w) A (eval slice env) (fun i s₂=>s₂.TypeIs o T∧wpAny (model prog w) A (getItem o i) Q E s₂) E s₁) E s) :
  wpAny (model prog w) A (eval (.Subscript value slice pos) env) Q E s:=by
 refine Subscript_ (fA h (fun o s₁ h₁=>fA h₁ (fun i s₂ h₂=>?_) fun _ _ x=>x) fun _ _ x=>x)
 obtain⟨hT,h₂⟩:=h₂
 unfold subscriptTail
 refine aw ?_
 rw[getitemInPython_of_ne hT.not_modules]
 refine aw (As hT hl ?_)
 have fin:wpAny (model prog w) A (subscripted slice false o i) (fun r s₃=>wpAny (model prog w) A (letTemporaryGo value o r >>= fun _=>pure r) Q E s₃) E s₂:=by
  rw[hs o i]
  exact wpAny_operating (fA h₂ (fun r s₃ h₃=>aw (wpAny_letTemporaryGo (aO h₃))) fun _ _ x=>x)
 first
  |exact aO (aw fin)
  |exact aw (aO (aw fin))
  |exact aw fin
theorem Lv{X:Cx}{pins:List (Addr×Obj)}{σ:St}{H:Hp}{s:Shared}{a:Addr}{y:V}{o:Option V}(I:Inv X pins σ H s)(g:gM H a y o):s.TypeIs (.ref a) "dict" := by
 rcases g with⟨kvs,k,e,_,_⟩|⟨kvs,k,b,e,_,_,_⟩
 ·obtain⟨_,_,vs,_,dd⟩:=iy I.aA e
  exact dd.typeIs
 ·obtain⟨_,_,xs,_,dd⟩:=mO I.aA e
  exact dd.typeIs
noncomputable def G3(td ty:TE):TE:=fun σ H Q=>td σ H fun x H1=>ty σ H1 fun y H2=>∃a v,x=.ref a∧gM H2 a y (some v)∧Q v H2
noncomputable def zX(ty td:TE):TE:=fun σ H Q=>ty σ H fun y H1=>td σ H1 fun x H2=>∃a o,x=.ref a∧gM H2 a y o∧Q (.bl o.isSome) H2
noncomputable def yP(ty td:TE):TE:=fun σ H Q=>ty σ H fun y H1=>td σ H1 fun x H2=>∃a o,x=.ref a∧gM H2 a y o∧Q (.bl (!o.isSome)) H2
noncomputable def vx(td ty tv:TE):TS:=fun D σ H=>tv σ H fun v H1=>td σ H1 fun x H2=>ty σ H2 fun y H3=>∃a H4,x=.ref a∧oZ H3 a y v H4∧D.nx σ H4
section
variable {X:Cx}{o i e value:Expr}{pos pos' Vt:Pos}{td ty tv:TE}
theorem Pw(hu:X.A.units+1<cLine)(ho:PE X o td)(hi:PE X i ty)(hs:zW i):PE X (.Subscript o i pos) (G3 td ty):=by
 intro pins s σ H Q I h
 refine Pu PySem.F.slot_dict_getitem.lookup hs (aD (ho pins s σ H _ I h) fun u s1 ⟨x,H1,I1,rx,q1⟩=>aD (hi pins s1 σ H1 _ I1 q1) fun iv s2 ⟨y,H2,I2,ry,a,v,ex,g,q2⟩=>?_)
 subst ex
 obtain rfl:u=Value.ref a:=rx
 exact⟨Lv I2 g,Mv hu I2 g ry fun w' s3 I3 gB=>⟨v,H2,I3,gB,q2⟩⟩
theorem FN(hu:X.A.units+1<cLine)(hi:PE X i ty)(ho:PE X o td):PC X .In i o (zX ty td):=by
 intro pins s σ H Q I h
 refine aD (hi pins s σ H _ I h) fun iv s1 ⟨y,H1,I1,ry,q1⟩=>aD (ho pins s1 σ H1 _ I1 q1) fun u s2 ⟨x,H2,I2,rx,a,ov,ex,g,q2⟩=>?_
 subst ex
 obtain rfl:u=Value.ref a:=rx
 exact VB hu I2 g ry fun s3 I3=>⟨.bl ov.isSome,H2,I3,rfl,q2⟩
theorem DI(hu:X.A.units+1<cLine)(hi:PE X i ty)(ho:PE X o td):PC X .NotIn i o (yP ty td):=by
 intro pins s σ H Q I h
 refine aD (hi pins s σ H _ I h) fun iv s1 ⟨y,H1,I1,ry,q1⟩=>aD (ho pins s1 σ H1 _ I1 q1) fun u s2 ⟨x,H2,I2,rx,a,ov,ex,g,q2⟩=>?_
 subst ex
 obtain rfl:u=Value.ref a:=rx
 exact Pt hu I2 g ry fun s3 I3=>⟨.bl (!ov.isSome),H2,I3,rfl,q2⟩
theorem Px(hu:X.A.units+1<cLine)(ho:PE X o td)(hi:PE X i ty)(hv:PE X value tv)(hs:swapsWith value (some (.Subscript o i pos')) pos.line X.env=pure false) :
  PS X (.Assign [.Subscript o i pos'] value pos) (vx td ty tv):=by
 intro pins s σ H D I h
 refine wpAny_Assign_Subscript (aD (hv pins s σ H _ I h) fun r s1 ⟨v,H1,I1,rv,q1⟩=>aD (ho pins s1 σ H1 _ I1 q1) fun u s2 ⟨x,H2,I2,rx,q2⟩=>aD (hi pins s2 σ H2 _ I2 q2) fun iv s3 ⟨y,H3,I3,ry,a,H4,ex,g,q3⟩=>?_) hs
 subst ex
 obtain rfl:u=Value.ref a:=rx
 exact Mw hu I3 g ry rv fun s4 I4=>⟨σ,H4,I4,q3⟩
end
theorem D5{P:Program}{w:World}{H:Hp}(h:Heap)(hb:sysModules<h.objs.size):bU P w H (h.push { cls:=.type "dict",data:=.dict #[] }) h.objs.size (.dK []) :=
 ⟨nC _,beq_eq_false_iff_ne.mpr (jE (cL hb)),[],.nil,Heap.DictOf.new h⟩
noncomputable def FP:TE:=fun _ H Q=>∀p,H p=none→Q (.ref p) (upd H p (.dK []))
section
variable {X:Cx}{pos:Pos}
theorem NP:PE X (.Dict [] [] pos) FP:=fun pins s σ H Q I h =>
 wpAny_Dict_empty ⟨.ref s.heap.objs.size,_,I.laid (a:=s.heap.objs.size) (o:=.dK []) (t':=s.toks) (fun _ _ q=>cA _ q) (aR _) (D5 s.heap I.big),rfl,h _ (I.aA.fresh (aR _))⟩
end
noncomputable def u6:List (TE×TE)→St→Hp→(List (V×V)→Hp→Prop)→Prop
 |[],_,H,Q=>Q [] H
 | (tk,tv)::r,σ,H,Q=>tk σ H fun x H1=>tv σ H1 fun y H2=>u6 r σ H2 fun ps H3=>Q ((x,y)::ps) H3
abbrev VV:List (V×V)→List (Value×Value)→Prop:=Paired fun p q=>RelV p.1 q.1∧RelV p.2 q.2
def sZ(X:Cx)(pos:Pos)(keys:List (Option Expr))(values:List Expr)(kY:List (TE×TE)):Prop :=
 ∀(pins:List (Addr×Obj)) (s:Shared) (σ:St) (H:Hp) (Q:List (V×V)→Hp→Prop),Inv X pins σ H s→u6 kY σ H Q →
  wpAny (model X.prog X.w) X.A (evalPairs (pairTrees keys values X.env pos)) (fun vs s'=>∃ps H',Inv X pins σ H' s'∧VV ps vs∧Q ps H') X.xe s
theorem Py{X:Cx}{pos:Pos}:sZ X pos [] [] []:=fun pins s σ H Q I h=>pairTrees_nil_walk ⟨[],H,I,.nil,h⟩
theorem NQ{X:Cx}{pos:Pos}{k v:Expr}{ks:List (Option Expr)}{vs:List Expr}{tk tv:TE}{kY:List (TE×TE)}(hk:PE X k tk)(hv:PE X v tv)(hr:sZ X pos ks vs kY) :
  sZ X pos (some k::ks) (v::vs) ((tk,tv)::kY):=fun pins s σ H Q I h =>
 pairTrees_cons_walk (aD (hk pins s σ H _ I h) fun u s1 ⟨x,H1,I1,rx,q1⟩=>aD (hv pins s1 σ H1 _ I1 q1) fun w2 s2 ⟨y,H2,I2,ry,q2⟩ =>
  aD (hr pins s2 σ H2 _ I2 q2) fun ws s3 ⟨ps,H3,I3,rel,q3⟩=>⟨(x,y)::ps,H3,I3,.cons ⟨rx,ry⟩ rel,q3⟩)
noncomputable def jf(kvs more:List (Key×V)):List (Key×V):=more.foldl (fun acc kv=>putK acc kv.1 kv.2) kvs
theorem KV.merge:∀{more:List (Key×V)}{rs:List (Key×Value)}{kvs:List (Key×V)}{vs:List (Key×Value)},KV more rs→KV kvs vs→KV (jf kvs more) (merged vs rs):=by
 intro more rs kvs vs r
 unfold KV at r
 induction r generalizing kvs vs with
 |nil=>intro q;exact q
 |@cons p q ps qs h t ih =>
  intro r0
  have e:KV (putK kvs p.1 p.2) (stored vs q.1 q.2):=by
   have:=r0.put p.1 h.2
   rw[←h.1];exact this
  exact ih e
theorem CL:∀(more kvs:List (Key×V)),(jf kvs more).length≤kvs.length+more.length
 |[],kvs=>by show kvs.length≤kvs.length+0;omega
 |p::r,kvs=>by
  have h1:=CL r (putK kvs p.1 p.2)
  have h2:=ux kvs p.1 p.2
  show(jf (putK kvs p.1 p.2) r).length≤_
  rw[cB];omega
theorem Dg{P:Program}{w:World}:∀{kvs:List (Key×V)}{ws:List (Value×Value)},VV (kvs.map fun kv=>(kV kv.1,kv.2)) ws→∃rs,Carries (cv P w) ws rs∧KV kvs rs
 |[],_,r=>by rw[AU]at r;cases r;exact⟨[],True.intro,.nil⟩
 |p::kvs,_,r=>by
  rw[bE]at r
  cases r with
  |@cons a b as bs h t =>
   obtain⟨rs,c,q⟩:=Dg (P:=P) (w:=w) t
   obtain⟨b1,b2⟩:=b
   exact⟨(p.1,b2)::rs,⟨mN h.1,rfl,c⟩,.cons ⟨rfl,h.2⟩ q⟩
noncomputable def G4(kY:List (TE×TE)):TE:=fun σ H Q=>∀p,H p=none→u6 kY σ (upd H p (.dK [])) fun ps H2=>H2 p=some (.dK [])∧∃kvs:List (Key×V),ps=kvs.map (fun kv=>(kV kv.1,kv.2))∧kvs.length≤15∧Q (.ref p) (upd H2 p (.dK (jf [] kvs)))
theorem Pz{X:Cx}{pos:Pos}{keys:List (Option Expr)}{values:List Expr}{kY:List (TE×TE)}(h:sZ X pos keys values kY)(zY:keys.all (·.isSome)=true)(hl:keys.length=values.length)(h0:keys≠[])
  (Wx:keys.length≤15):PE X (.Dict keys values pos) (G4 kY):=by
 intro pins s σ H Q I q
 have hn:=I.aA.fresh (aR s.heap.objs.size)
 have I1:=I.laid (a:=s.heap.objs.size) (o:=.dK []) (h':=s.heap.push { cls:=.type "dict",data:=.dict #[] }) (t':=s.toks) (fun _ _ q=>cA _ q) (aR _) (D5 s.heap I.big)
 refine wpAny_Dict_walk (knd:=cv X.prog X.w) zY hl h0 Wx (aD (h pins _ σ _ _ I1 (q _ hn)) fun ws s2 ⟨ps,H2,I2,rel,e,kvs,ep,lk,q2⟩=>?_)
 subst ep
 obtain⟨rs,c,rk⟩:=Dg (P:=X.prog) (w:=X.w) rel
 obtain⟨z,hd,YY,r0,dd⟩:=G0 I2.aA e
 cases r0
 refine⟨rs,c,dd,fun h' fO hs=>⟨.ref s.heap.objs.size,_,?_,rfl,q2⟩⟩
 have hz:(jf [] kvs).length≤sizeLine:=by
  have h1:=CL kvs []
  rw[sr]at h1
  rw[wM];omega
 have he:∃q,h'.get? s.heap.objs.size=some q:=let ⟨q,_,_,hq,_⟩:=fO;⟨q,hq⟩
 exact yO I2 (by rw[e];exact True.intro) hs he (zc hz hd (rk.merge .nil) fO)
structure M1 (X:Cx)(o:Expr)(m:Str)(apos:Pos)(e:Expr)(bX:Pos):Prop where
 base:attributeBase o m X.env (eval o X.env)=eval o X.env
 few:((backTo bX (starEach [e] X.env)).all (fun x=>!x.1)&&(backToKw bX (keywordEach [] X.env)).all (fun x=>x.1.isSome)
  && decide (([e]:List Expr).length+([]:List Keyword).length+(if ([]:List Keyword).isEmpty then 0 else 1)<30))=true
 line:(apos.endLine==bX.line)=true
 trees:backTo bX (starEach [e] X.env)=[(false,eval e X.env)]
structure M2 (X:Cx)(o:Expr)(m:Str)(apos:Pos)(e f:Expr)(bX:Pos):Prop where
 base:attributeBase o m X.env (eval o X.env)=eval o X.env
 few:((backTo bX (starEach [e,f] X.env)).all (fun x=>!x.1)&&(backToKw bX (keywordEach [] X.env)).all (fun x=>x.1.isSome)
  && decide (([e,f]:List Expr).length+([]:List Keyword).length+(if ([]:List Keyword).isEmpty then 0 else 1)<30))=true
 line:(apos.endLine==bX.line)=true
 trees:backTo bX (starEach [e,f] X.env)=[(false,eval e X.env),(false,eval f X.env)]
def Bg(H:Hp)(a:Addr):Prop:=(∃kvs,Rd H a (.dK kvs))∨∃kvs,Rd H a (.dT kvs)
theorem R0{X:Cx}{pins:List (Addr×Obj)}{σ:St}{H:Hp}{s:Shared}{a:Addr}(I:Inv X pins σ H s)(d:Bg H a) :
  s.TypeIs (.ref a) "dict" ∧ (∀b,Value.ref a=.ref b→∃ob,s.heap.get? b=some ob∧ob.dict=none)∧(a==sysModules)=false:=by
 rcases d with⟨kvs,e⟩|⟨kvs,e⟩
 ·obtain⟨_,hd,vs,_,dd⟩:=iy I.aA e
  refine⟨dd.typeIs,fun b q=>?_,hd⟩
  cases q
  obtain⟨ob,_,_,h1,h2,_⟩:=dd
  exact⟨ob,h1,h2.2.1⟩
 ·obtain⟨_,hd,xs,_,dd⟩:=mO I.aA e
  refine⟨dd.typeIs,fun b q=>?_,hd⟩
  cases q
  obtain⟨ob,_,_,h1,h2,_⟩:=dd
  exact⟨ob,h1,h2.2.1⟩
section
variable {X:Cx}{pins:List (Addr×Obj)}{σ:St}{H:Hp}{s:Shared}{a:Addr}{y d:V}{u r:Value}{o:Option V}{A:Around}{E:Value→Shared→Prop}
theorem R6{Q:Value→Shared→Prop}(hu:A.units+1<cLine)(I:Inv X pins σ H s)(g:gM H a y o)(ry:RelV y u)(rd:RelV d r)(h:∀w' s',Inv X pins σ H s'→RelV (o.getD d) w'→Q w' s') :
  wpAny (model X.prog X.w) A (call (.builtin "dict.get") [.ref a,u,r]) Q E s:=by
 rcases g with⟨kvs,k,e,ey,l⟩|⟨kvs,k,b,e,ey,eb,l⟩
 ·subst ey
  obtain⟨z,hd,vs,rel,dd⟩:=iy I.aA e
  refine pL AW dd.typeIs Ja (Jb _ _ _) (meets_dict_get_default (cv X.prog X.w) a (mN ry) hd r) ⟨_,dd.mapOf,h _ _ (I.tok _) ?_⟩
  rw[l]
  exact(rel.val k).getD rd
 ·subst ey
  cases (show u=Value.ref b from ry)
  obtain⟨z,hd,xs,rel,dd⟩:=mO I.aA e
  refine pL AW dd.typeIs Ja (Jb _ _ _) (meetsH_dict_get_default (tupleKind (cv X.prog X.w)) a b hd r) ⟨su hu,k,xs,oA I.aA eb,dd,h _ _ (I.tok _) ?_⟩
  rw[l]
  exact(rel.val k).getD rd
end
noncomputable def FQ(td ty tx:TE):TE:=fun σ H Q=>td σ H fun x H1=>∃a,x=.ref a∧Bg H1 a∧ty σ H1 fun y H2=>tx σ H2 fun z H3=>∃o,gM H3 a y o∧Q (o.getD z) H3
section
variable {X:Cx}{o e f:Expr}{apos bX:Pos}{td ty tx:TE}
theorem NR (hu:X.A.units+1<cLine) (ho:PE X o td) (he:PE X e ty) (hf:PE X f tx) (m:M2 X o "get" apos e f bX):PE X (.Call (.Attribute o "get" apos) [e,f] [] bX) (FQ td ty tx):=by
 intro pins s σ H Q I h
 refine wpAny_Call_method m.base m.few m.line AX AW PySem.F.type_dict_get (aD (ho pins s σ H _ I h) fun u s1 ⟨x,H1,I1,rx,a,ex,d,q1⟩=>?_)
 subst ex
 obtain rfl:u=Value.ref a:=rx
 obtain⟨t1,t2,_⟩:=R0 I1 d
 refine⟨t1,t2,?_⟩
 rw[m.trees]
 refine sj rfl (Calls.evalArgs_plain (wN (aD (he pins s1 σ H1 _ I1 q1) fun iv s2 ⟨y,H2,I2,ry,q2⟩ =>
  wN (aD (hf pins s2 σ H2 _ I2 q2) fun fv s3 ⟨z,H3,I3,rz,ov,g,q3⟩=>Calls.spliced_nil ?_))))
 exact R6 hu I3 g ry rz fun w' s4 I4 gB=>⟨_,H3,I4,gB,q3⟩
end
section
variable {X:Cx}{pins:List (Addr×Obj)}{σ:St}{H:Hp}{s:Shared}{a:Addr}{kvs:List (Key×V)}{A:Around}{E:Value→Shared→Prop}
theorem NS{Q:Value→Shared→Prop}(I:Inv X pins σ H s)(e:Rd H a (.dK kvs))(h:∀p s',H p=none→Inv X pins σ (upd H p (.dK kvs)) s'→Q (.ref p) s'):wpAny (model X.prog X.w) A (call (.type "dict") [.ref a]) Q E s:=by
 obtain⟨z,hd,vs,rel,dd⟩:=iy I.aA e
 refine kt_call_dict hd dd (by rw[←rel.length];exact z) fun h' fO hs=>?_
 refine h _ _ (I.aA.fresh (aR _)) (I.laid (a:=s.heap.objs.size) (o:=.dK kvs) (t':=s.toks) (fun b q hq=>?_) (aR _) (zc z (beq_eq_false_iff_ne.mpr (jE (cL I.big))) rel fO))
 exact(hs.2 b (cL (bx hq))).trans (cA _ hq)
end
section
variable {X:Cx}{pins:List (Addr×Obj)}{σ:St}{H:Hp}{s:Shared}{a:Addr}{y:V}{u:Value}{A:Around}{E:Value→Shared→Prop}
end
end L2
namespace Jt
open PySem PySem.W PySem.Calls PyProof.Rows
theorem Le{P:Params}{h:Heap}:∀(ns:List Int) (vs:List Value),WellAll P h vs (ns.map WData.int)→IntsAre vs ns:=by
 intro ns
 induction ns with
 |nil =>
  intro vs w
  rw[AU]at w
  cases w
  exact .nil
 |cons n ns ih =>
  intro vs w
  rw[bE]at w
  cases w with
  |cons a b =>
   cases a
   exact .cons _ _ (ih _ b)
theorem Mx{l:OpenLaw}{n:Nat}(hn:l.most=some n){P:Params}{h:Heap}{args:List WData}{vals:List Value}
  (v3:l.row.toRowW.claim.pre args=true) (Bh:WellAll P h vals args) :
  ∃a vs ns,vals=[Value.ref a]∧args=[WData.list (ns.map WData.int)]∧h.get? a=some { cls:=.type "list",data:=.seq vs.toArray }∧IntsAre vs ns∧ns.length≤n:=by
 have Wy:WShape.hasAll [] args [.list .int]=true:=(pre_splitW v3).1
 have hc:l.pre.holds [] { args:=args }=true:=(pre_splitW v3).2
 obtain⟨d,r,rfl,h1,h2⟩:=hasAllW_cons Wy
 obtain rfl:=hasAllW_nil h2
 obtain⟨xs,rfl,h3⟩:=hasW_list h1
 obtain⟨ns,rfl⟩:=items_int h3
 have hlen:ns.length≤n:=by
  unfold OpenLaw.pre at hc
  have h4:(WTm.not (.lt (.lit (.int (n:Int))) (.len (.arg 0)))).holds [] { args:=[.list (ns.map .int)] }=true:=by
   have h4:=(holds_andW hc).1
   rw[hn]at h4
   exact h4
  have h5:=condW_of h4 (w_not (w_lt w_lit (w_len_list (w_arg rfl))))
  rw[a7]at h5
  refine Nat.le_of_not_lt fun q=>?_
  have q':(n:Int)<((ns.length:Nat):Int):=by omega
  first
   | (rw[fL q']at h5;exact absurd h5 (by decide))
   | (simp at h5;omega)
 cases Bh with
 |cons w1 w2 =>
  cases w2
  cases w1 with
  |list ho zY=>exact⟨_,_,ns,rfl,rfl,ho,Le ns _ zY,hlen⟩
theorem Mz(l:OpenLaw)(args:List WData):l.row.toRowW.claim.post args (.bool true) args=true :=
 postW_of (r:=l.row.toRowW) (X:=(true==true))
  (show WShape.has [] (.bool true) .bool=true by first|rfl|decide|simp[WShape.has,WShape.arms,WShape.armsAll])
  (show(WTm.eq .res (.lit (.bool true))).value [] { args:=args,res:=some (.bool true),after:=args }=some (.bool (true==true))from w_eq_bool (w_res rfl) w_lit) rfl
theorem Lw{l:OpenLaw}{n:Nat}{q:Program}{loose:List Str}{XP:(Str→Option Value)→Heap→Prop}{YP:World→Heap→Prop}{d:DefRec}
  (hn:l.most=some n) (tf:d.params.defaults=[])
  (call:∀(w:World) (s₀ s₁:Shared) (mg mb:Str→Option Value) (fa:Addr) (o:Obj) (pm cd doc:Value) (a:Addr) (vs:List Value) (ns:List Int),
   Ground q loose [] XP w s₀ mg mb s₁.heap→YP w s₁.heap →
   s₁.heap.get? fa=some o→o.data=.func (docDef d.name d.params d.body d.scope pm cd doc)→s₁.heap.CodeRec cd d.name→mg d.name=some (.ref fa) →
   s₁.heap.get? a=some { cls:=.type "list",data:=.seq vs.toArray }→IntsAre vs ns→ns.length≤n→s₁.gens=#[] →
   codeAny (model l.prog w) callerA (.call (.ref fa) ⟨[.ref a],[]⟩) (fun r s'=>r=.ok (.ret (.bool true))∧OldK s₁.heap s'.heap∧s'.os=s₁.os∧AllBare s'.gens) s₁) :
  WalkO q loose XP YP l.row.toRowW d [] (fun f vs=>PySem.call f vs):=by
 intro w s₀ s₁ mg mb G Y fa o pm cd doc dV kV ho hd dM hD Bi hg args vals as v3 hlay YZ Bh Y0
 obtain rfl:dV=.none:=Dflts.none hD tf
 obtain rfl:kV=.none:=Dflts.noKw hD
 obtain⟨a,vs,ns,rfl,rfl,zZ,hints,hlen⟩:=Mx hn v3 Bh
 refine enter_call (codeAny_mono (call w s₀ s₁ mg mb fa o pm cd doc a vs ns G Y ho (fd_plain hd) dM Bi zZ hints hlen hg) fun r s' hq=>?_)
 obtain⟨rfl,h2,h3,h4⟩:=hq
 exact⟨.inl ⟨.bool true,.bool true,[],rfl,fun _=>rfl,.bool true,Mz l _,fun _=>⟨List.Pairwise.nil,fun _ hm=>(nomatch hm)⟩⟩,h2,h3,h4⟩
section
variable {prog:Program}{w:World}{A:Around}{E:Value→Shared→Prop}{s:Shared}{K:Frag}
end
end Jt
namespace L2
open PySem PySem.Spec PyProof.Rows
theorem mE:∀{vs:List Value}{ns:List Int},IntsAre vs ns→Vals (ns.map V.int) vs
 |_,_,.nil=>.nil
 |_,_,.cons n t h=>.cons ⟨t,rfl⟩ (mE h)
def Only(H:Hp):Prop:=∀b,H b=none∨∃o xs,H b=some (.aL o (.lst xs))
theorem NT{P:Program}{w:World}{K:PySem.W.Frag}{mg mb:Str→Option Value}{CX:iT}{k:Nat}{fa a:Addr}{fd:FuncData}{x:Str}{sp:Sp}{s₁:Shared}{vs:List Value}{ns:List Int}
  (KX:K.In s₁.heap) (pY:s₁.heap.Ns mainGlobals mg) (hb:s₁.heap.Ns builtinsNs mb) (Wz:∀x:Str,x ≠ "__name__" → mb x=bootBuiltins x) (VC:s₁.heap.NoLimit) (hg:s₁.gens=#[])
  (ha:s₁.heap.get? a=some { cls:=.type "list",data:=.seq vs.toArray }) (hi:IntsAre vs ns) (hl:ns.length≤sizeLine) (hr:dw k callerA)
  (F:∀base:Heap,K.In base→base.Ns mainGlobals mg→ku P w K mg base CX k fa fd [x] sp) (Ur:∀(s:Shared) (u:Value),BindsTo s fd ⟨[u],[]⟩ [(x,u)])
  (jK:∀H:Hp,Only H→bw K H a (ns.map V.int)→sp [.ref a] H (fun v _=>v=.bl true) fun _ _ _=>False)
  (Bj:∀H e s',CX [] H s₁ (fun _ _ _=>False) e s'→False) :
  codeAny (model P w) callerA (.call (.ref fa) ⟨[.ref a],[]⟩) (fun r s'=>r=.ok (.ret (.bool true))∧OldK s₁.heap s'.heap∧s'.os=s₁.os∧AllBare s'.gens) s₁:=by
 have rv:=mE hi
 have VD:=hi.length
 have core:∀H:Hp,Only H→bw K H a (ns.map V.int)→cn P w H s₁.heap→(∀b,H b≠none→b=a)→(H a≠none→K.lookup a=none) →
   codeAny (model P w) callerA (.call (.ref fa) ⟨[.ref a],[]⟩) (fun r s'=>r=.ok (.ret (.bool true))∧OldK s₁.heap s'.heap∧s'.os=s₁.os∧AllBare s'.gens) s₁:=by
  intro H hO hS aA hA hK
  have EK:∀{b:Addr}{o:Obj},s₁.heap.get? b=some o→H b=none→(km s₁.heap H).get? b=some o:=fun e n=>Nr e n
  have sW:∀{b:Addr}{o:Obj}{es:Array DictEntry}{ep:Nat},s₁.heap.get? b=some o→o.data=.dict es ep→H b=none:=fun {b o es ep} e d=>by
   cases q:H b with
   |none=>rfl
   |some u =>
    have e':b=a:=hA b (by rw[q];simp)
    subst e'
    rw[ha]at e;cases e
    have d':Data.seq vs.toArray _=Data.dict es ep:=d
    cases d'
  have xv:∀{b:Addr}{m:Str→Option Value},s₁.heap.Ns b m→(km s₁.heap H).Ns b m:=fun {b m} ⟨o,es,ep,e,d,r⟩=>⟨o,es,ep,EK e (sW e d),d,r⟩
  have Ju:K.In (km s₁.heap H):=fun b o e=>EK (KX b o e) (by
   cases q:H b with
   |none=>rfl
   |some u =>
    have e':b=a:=hA b (by rw[q];simp)
    subst e'
    rw[hK (by rw[q];simp)]at e;cases e)
  have hM:Mod K mg (km s₁.heap H):=⟨Ju,xv pY,⟨mb,xv hb,Wz⟩,let ⟨mc,h1,h2⟩:=VC;⟨mc,xv h1,h2⟩⟩
  have e0:vZ P w K mg (km s₁.heap H) callerA [] s₁ H:=⟨rfl,hM,fun b o e=>OX e,pM (Ml _ _),trivial,fun b hb=>absurd (show b∈([]:List Addr)from hb) (by simp),aA,.of_eq hg⟩
  refine codeAny_mono ((F _ Ju (xv pY)).run callerA [] s₁ H ⟨[.ref a],[]⟩ [.ref a] [.ref a] _ _ hr e0 (Ur s₁ (.ref a)) (.cons rfl .nil) (jK H hO hS)) fun r s' h=>?_
  cases r with
  |error e=>exact(Bj H e s' h).elim
  |ok fl =>
   cases fl with
   |next=>exact False.elim h
   |brk=>exact False.elim h
   |cont=>exact False.elim h
   |ret u =>
    obtain⟨v,H',os,bare,un,VF,r',q⟩:=h
    have q':v=.bl true:=q
    subst q'
    obtain rfl:u=Value.bool true:=r'
    refine⟨rfl,OldK.of_keep fun b o e=>?_,os,bare⟩
    cases q:H b with
    |none=>exact un.keep b o e q (by intro z;exact absurd (show b∈([]:List Addr)from z) (by simp)) (by simp)
    |some u =>
     rcases hO b with z|⟨ob,xs,z⟩
     ·rw[q]at z;cases z
     ·have z2:=un.fV b ob _ z
      obtain⟨e1,_⟩:=aA b _ z
      obtain⟨e2,_⟩:=VF b _ z2
      rw[e]at e1;cases e1
      exact e2
 cases hk:K.lookup a with
 |some o =>
  have e:=KX a o hk
  rw[ha]at e
  cases e
  refine core (fun _=>none) (fun _=>.inl rfl) (.inr ⟨_,vs.toArray,_,hk,rfl,rfl,rfl,by rw[fY,VD];exact hl,by simpa using rv⟩) (fun b u z=>by have z':(none:Option HO)=some u:=z;cases z') (fun b z=>absurd rfl z) fun z=>absurd rfl z
 |none =>
  refine core (fun b=>if b=a then some (.aL { cls:=.type "list",data:=.seq vs.toArray } (.lst (ns.map V.int)))else none) (fun b=>?_) (.inl (.inr ⟨{ cls:=.type "list",data:=.seq vs.toArray },if_pos rfl⟩)) (fun b u z=>?_) (fun b z=>?_) fun _=>hk
  ·by_cases hb:b=a
   ·exact .inr ⟨_,_,if_pos hb⟩
   ·exact .inl (if_neg hb)
  ·by_cases hb:b=a
   ·have z':=(if_pos hb).symm.trans z
    cases z'
    subst hb
    exact⟨ha,by rw[a7];exact hl,vs,_,rv,ha⟩
   ·have z':=(if_neg hb).symm.trans z
    cases z'
  ·by_cases hb:b=a
   ·exact hb
   ·exact absurd (if_neg hb) z
theorem PB{l:PySem.W.OpenLaw}{n k:Nat}{q:Program}{loose:List Str}{XP:(Str→Option Value)→Heap→Prop}{YP:World→Heap→Prop}{d:DefRec}{K:Params→PySem.W.Frag}{CX:World→iT}{sp:World→Sp}{x:Str}
  (hn:l.most=some n) (WB:n≤sizeLine) (tf:d.params.defaults=[]) (hr:dw k callerA)
  (hY:∀(w:World) (h:Heap),YP w h→(K w.params).In h)
  (F:∀(w:World) (mg:Str→Option Value) (fa:Addr) (h:Heap),(K w.params).In h→h.Ns mainGlobals mg→mg d.name=some (.ref fa) →
   ∃fd:FuncData,(∀(s:Shared) (u:Value),BindsTo s fd ⟨[u],[]⟩ [(x,u)]) ∧
    ∀base:Heap,(K w.params).In base→base.Ns mainGlobals mg→ku l.prog w (K w.params) mg base (CX w) k fa fd [x] (sp w))
  (jK:∀(w:World) (H:Hp) (a:Addr) (ns:List Int),ns.length≤n→Only H→bw (K w.params) H a (ns.map V.int)→sp w [.ref a] H (fun v _=>v=.bl true) fun _ _ _=>False)
  (Bj:∀(w:World) (H:Hp) (s:Shared) (e:Value) (s':Shared),CX w [] H s (fun _ _ _=>False) e s'→False) :
  PySem.W.WalkO q loose XP YP l.row.toRowW d [] (fun f vs=>PySem.call f vs):=by
 refine Jt.Lw hn tf fun w s₀ s₁ mg mb fa o pm cd doc a vs ns G Y ho hd dM Bi zZ hints hlen hg=>?_
 have KX:=hY w _ Y
 obtain⟨fd,hb,hF⟩:=F w mg fa _ KX G.T.g Bi
 exact NT KX G.T.g G.T.b G.T.builtins G.T.nolimit hg zZ hints (bS hlen WB) hr hF hb (fun H hO hS=>jK w H a ns hlen hO hS) fun H e s'=>Bj w H s₁ e s'
noncomputable def eD(s:Stmt):Arguments:=match s with
 |.FunctionDef _ a _ _ _ _ _ _ _ _=>a
 |_=>{ posonlyargs:=[],args:=[],vararg:=none,kwonlyargs:=[],kw_defaults:=[],kwarg:=none,defaults:=[] }
noncomputable def dn(s:Stmt):List Stmt:=match s with
 |.FunctionDef _ _ b _ _ _ _ _ _ _=>b
 |_=>[]
noncomputable def bQ(s:Stmt):Scope:=match s with
 |.FunctionDef _ _ _ _ _ _ sc _ _ _=>sc
 |_=>{ kind:=.function,names:=[],isGenerator:=false,isCoroutine:=false }
noncomputable abbrev kZ:iT:=fun _ _ _ _ _ _=>False
noncomputable abbrev E0:XK:=fun _ _ _=>False
theorem zE{X:Cx}:Passes kZ X E0:=fun _ _ _ _ _ _ _ h=>h.elim
structure pZ (K:PySem.W.Frag)(x qual:Str)(st:Stmt)(f:Addr)(fd:FuncData):Prop where
 ex:∃(oc:Value) (od:Option Addr) (kV doc pm:Value) (an:Option Addr) (bq ct:Value) (iU:Array (Option Value)),
  fd=PySem.W.fnOf x qual (eD st) (dn st) (bQ st) .none kV doc pm an bq ct∧K.lookup f=some ⟨oc,od,.func fd,iU⟩∧PySem.W.codeIn K bq qual=true
 kp:PySem.W.keepIn K (.ref f)=true
section
variable {P:Program}{w:World}{K:PySem.W.Frag}{mg:Str→Option Value}{base:Heap}
theorem pZ.ok{x qual:Str}{st:Stmt}{f:Addr}{fd:FuncData}{N ps:List Str}{k:Nat}{sp:Sp}(F:pZ K x qual st f fd)(S:qD N ps (bQ st))(len:∀vs H Q E,sp vs H Q E→vs.length=ps.length)
  (qW:∀(bq:Value) (A:Around) (outer:List Env) (s:Shared) (H:Hp) (vs:List V) (Q:VK) (E:XK),dw k (A.deeper (envOfC qual (bQ st) s.heap.objs.size f bq))→sp vs H Q E →
   ∃t,f6 (lO kZ P w K mg base N qual (bQ st) f bq A outer s H E).nH (dn st) t∧t { nx:=fun _ H'=>Q .non H',rt:=Q } (start N vs) H):ku P w K mg base kZ (k+1) f fd ps sp:=by
 obtain⟨oc,od,kV,doc,pm,an,bq,ct,iU,rfl,lk,dM⟩:=F.ex
 refine GU lk dM S len fun A outer s H vs Q E hr jK=>?_
 obtain⟨t,h,q⟩:=qW bq A outer s H vs Q E hr jK
 exact⟨t,h.nH,q⟩
theorem pZ.binds{x qual:Str}{st:Stmt}{f:Addr}{fd:FuncData}{ps:List Str}(F:pZ K x qual st f fd)
  (h:∀(kV doc pm:Value) (an:Option Addr) (bq ct:Value) (us:List Value),us.length=ps.length→bindArgs (PySem.W.fnOf x qual (eD st) (dn st) (bQ st) .none kV doc pm an bq ct) ⟨us,[]⟩=pure (ps.zip us)):Binds K fd ps []:=by
 obtain⟨oc,od,kV,doc,pm,an,bq,ct,iU,rfl,lk,dM⟩:=F.ex
 exact .all (h kV doc pm an bq ct)
theorem FU{x qual:Str}{st:Stmt}{f:Addr}{oc:Value}{od an:Option Addr}{iU:Array (Option Value)}{kV doc pm bq ct:Value}(l:K.lookup f=some ⟨oc,od,.func (PySem.W.fnOf x qual (eD st) (dn st) (bQ st) .none kV doc pm an bq ct),iU⟩)
 (c:PySem.W.codeIn K bq qual=true) (k:PySem.W.keepIn K (.ref f)=true):pZ K x qual st f (PySem.W.fnOf x qual (eD st) (dn st) (bQ st) .none kV doc pm an bq ct):=⟨⟨oc,od,kV,doc,pm,an,bq,ct,iU,rfl,l,c⟩,k⟩
end
theorem lH{A:Around}{k:Nat}(hr:dw k A):A.units+1<cLine:=dJ (Nat.add_le_add_left (by decide:1≤64) _) hr.units
section
variable {X:Cx}
theorem pv (i:Nat) {x:Str}{pos:Pos} (hN:X.N[i]?=some x:=by rfl) (hv:sH X.env.scope x:=by first|exact Or.inl rfl|exact Or.inr (Or.inl rfl)|exact Or.inr (Or.inr rfl)) (hd:(x==("__debug__" : Str))=false:=by decide)
 (dM:(x==("__classdict__" : Str))=false:=by decide):PE X (.Name x pos) (gq i):=y9 hN hv hd dM
end
theorem VG{A B:Prop}(h:A):if true=true then A else B:=by
 rw[if_pos rfl]
 exact h
def aB(H H':Hp):Prop:=∀b o,H b=some o→H' b=some o
theorem aB.refl(H:Hp):aB H H:=fun _ _ h=>h
theorem aB.trans{H H1 H2:Hp}(a:aB H H1)(b:aB H1 H2):aB H H2:=fun c o h=>b c o (a c o h)
theorem aB.free{H H':Hp}(e:aB H H'){l:Addr}(h:H' l=Option.none):H l=Option.none:=by
 cases q:H l with
 |none=>rfl
 |some o =>
  rw[e l o q]at h
  cases h
section
variable {κ:Type}[DecidableEq κ]
end
theorem Lj{α β:Type}{l:List α}{f:α→β→Sem (ForInStep β)}(g:α→β→β):∀(c:β),(∀x∈l,∀c,f x c=pure (.yield (g x c)))→forIn l c f=pure (l.foldl (fun c x=>g x c) c):=by
 induction l with
 |nil=>intro c _;rfl
 |cons x l ih =>
  intro c h
  rw[List.forIn_cons,h x cM,pure_bind]
  exact ih (g x c) fun y hy=>h y (cT _ hy)
noncomputable def g0(env:Env)(x:Str×NameKind)(cs:List (Str×Addr)):List (Str×Addr):=if (x.2==NameKind.free)=true then (x.1,(env.cells.lookup x.1).getD 0)::cs else cs
noncomputable def mY(sc:Scope)(env:Env):List (Str×Addr):=sc.names.foldl (fun cs x=>g0 env x cs) []
theorem CP{sc:Scope}{env:Env}(h:∀x∈sc.names,x.2=.free→∃c,env.cells.lookup x.1=some c):closureFor sc env=pure (mY sc env):=by
 simp only[closureFor]
 rw[Lj (g0 env) [] (fun x hx c=>?_)]
 ·rfl
 ·obtain⟨n,kind⟩:=x
  cases hk:kind==NameKind.free with
  |false=>simp[g0,hk]
  |true =>
   obtain⟨a,ha⟩:=h (n,kind) hx (by simpa using hk)
   have WC:env.cells.lookup n=some a:=ha
   simp[g0,hk,cellOf,WC]
theorem FV(env:Env)(hh:∀(x:Str×NameKind),x.2=.free→True):∀(names:List (Str×NameKind)) (acc:List (Str×Addr)),(∀x∈names,x.2=.free→∃c,env.cells.lookup x.1=some c)→(∀x c,acc.lookup x=some c→env.cells.lookup x=some c) →
  ∀x c,(names.foldl (fun cs x=>g0 env x cs) acc).lookup x=some c→env.cells.lookup x=some c
 |[],acc,_,ha,x,c,h=>ha x c h
 |y::r,acc,hf,ha,x,c,h=>by
  refine FV env hh r (g0 env y acc) (fun z hz=>hf z (cT _ hz)) (fun z d hd=>?_) x c h
  unfold g0 at hd
  split at hd
  ·rename_i hk
   obtain⟨a,e⟩:=hf y cM (by simpa using hk)
   by_cases q:z=y.1
   ·subst q
    simp[e]at hd
    rw[e,hd]
   ·have q':(z==y.1)=false:=by simpa using q
    rw[kK,q']at hd
    exact ha z d hd
  ·exact ha z d hd
theorem FW(env:Env):∀(names:List (Str×NameKind)) (acc:List (Str×Addr)) (x:Str),((∃c,acc.lookup x=some c)∨(x,NameKind.free)∈names)→∃c,(names.foldl (fun cs x=>g0 env x cs) acc).lookup x=some c
  |[],acc,x,h=>by
    rcases h with h|h
    · exact h
    · exact nomatch h
  |y::r,acc,x,h=>by
    refine FW env r (g0 env y acc) x ?_
    by_cases hk:(y.2==NameKind.free)=true
    · by_cases q:x=y.1
      · refine .inl ⟨(env.cells.lookup y.1).getD 0,?_⟩
        unfold g0
        rw[if_pos hk,q]
        simp
      · have q':(x==y.1)=false:=by simpa using q
        rcases h with⟨c,h⟩|h
        · refine .inl ⟨c,?_⟩
          unfold g0
          rw[if_pos hk,kK,q']
          exact h
        · rcases fK.mp h with e|e
          · exact absurd (cf (·.1) e) q
          · exact .inr e
    · rcases h with⟨c,h⟩|h
      · refine .inl ⟨c,?_⟩
        unfold g0
        rw[if_neg hk]
        exact h
      · rcases fK.mp h with e|e
        · refine absurd ?_ hk
          rw[←e]
          rfl
        · exact .inr e
theorem uv{env:Env}{x:Str}{k:NameKind}:∀{names:List (Str×NameKind)},(names.map fun(n,k)=>if (k==NameKind.free&&env.scope.kind==.function&&env.kindOf n==some .cell)then (n,NameKind.cell)else (n,k)).lookup x=some k →
    names.lookup x=some k∨(k=.cell∧names.lookup x=some .free)
  |[],h=>by simp at h
  | (n,j)::r,h=>by
    have ih:=@uv env x k r
    rw[bE]at h
    cases hx:x==n with
    |true =>
      by_cases hc:(j==NameKind.free&&env.scope.kind==.function&&env.kindOf n==some .cell)=true
      · simp only[hc,if_true]at h
        rw[kK,hx]at h
        have e:NameKind.cell=k:=c9 h
        refine .inr ⟨e.symm,?_⟩
        rw[kK,hx]
        simp only[Bool.and_eq_true]at hc
        have ej:j=.free:=by simpa using hc.1.1
        rw[ej]
      · simp only[hc,Bool.false_eq_true,if_false]at h
        rw[kK,hx]at h
        exact .inl (by rw[kK,hx];exact h)
    |false =>
      have h':(r.map fun(n,k)=>if (k==NameKind.free&&env.scope.kind==.function&&env.kindOf n==some .cell)then (n,NameKind.cell)else (n,k)).lookup x=some k:=by
        by_cases hc:(j==NameKind.free&&env.scope.kind==.function&&env.kindOf n==some .cell)=true
        · simp only[hc,if_true]at h
          rw[kK,hx]at h
          exact h
        · simp only[hc,Bool.false_eq_true,if_false]at h
          rw[kK,hx]at h
          exact h
      rw[kK,hx]
      exact ih h'
noncomputable def Cx.bV(X:Cx)(N:List Str)(sc:Scope)(C:Addr)(s₂:Shared)(H₂:Hp)(fp:List Addr)(pn:List (Addr×Obj)):Cx where
 prog:=X.prog
 w:=X.w
 K:=X.K
 mg:=X.mg
 base:=X.base
 A:=X.A
 N:=N
 s₀:=s₂
 H₀:=H₂
 env:=compEnvC sc (mY sc X.env) C X.env
 outer:=X.stack
 stack:=X.stack
 ex:=fp
 fn:=fun _=>false
 calm:=X.calm
 pn:=pn
 xe:=fun _ _=>False
def mj(X:Cx)(ifs:List Expr)(t:TT):Prop :=
 ∀(pins:List (Addr×Obj)) (s:Shared) (σ:St) (H:Hp) (Q:Bool→Hp→Prop),Inv X pins σ H s→t σ H Q →
  wpAny (model X.prog X.w) X.A (forIn ifs true fun c r=>if r=true then do let ok ←isTrue c X.env (eval c X.env);pure (ForInStep.yield ok)else pure (ForInStep.yield r)) (TP X pins σ Q) X.xe s
noncomputable def v7:TT:=fun _ H Q=>Q true H
theorem uK{X:Cx}:mj X [] v7:=fun _ _ _ H _ I h=>wpAny_tests_nil ⟨H,I,h⟩
theorem EL{X:Cx}{c:Expr}{t:TT}(h:PT X c t):mj X [c] t:=fun pins s σ H Q I hq=>wpAny_tests_one (h pins s σ H Q I hq)
noncomputable def eZ(σ:St)(ix:List Nat):St:=ix.map fun i=>(σ[i]?).getD none
def qX(J:It)(D:Addr)(H1:Hp)(fr:St)(tc:TT)(te:TE)(Q:Addr→Hp→Prop):Prop :=
 ∃W:Nat→Nat→Hp→Prop,(∃m,W 0 m (upd H1 D (.lst [])))∧∀i m H,W i m H→(J.stop i H∧Q D H) ∨
  (J.go i H∧∀x H',J.ib i H x H'→tc (some x::fr) H' fun b H3=>if b=true then te (some x::fr) H3 fun y H4=>∃ys,H4 D=some (.lst ys)∧ys.length<sizeLine∧∃m',m'<m∧W (i+1) m' (upd H4 D (.lst (ys++[y])))
   else ∃m',m'<m∧W (i+1) m' H3)
def FX(gg:TG)(n:Nat)(J:It)(D:Addr)(H1:Hp)(fr:St)(tc:TT)(te:TE)(Q:Addr→Hp→Prop):Prop :=
 ∃W:Nat→Nat→Hp→Prop,(∃m,W 0 m (upd H1 D (.lst [])))∧∀i m H,W i m H→(J.stop i H∧Q D H) ∨
  (J.go i H∧∀x H',J.ib i H x H'→gg x (List.replicate n none++fr) H' fun σ' H2=>H2=H'∧(∃ow:St,ow.length=n∧σ'=ow++fr)∧tc σ' H' fun b H3=>if b=true then te σ' H3 fun y H4=>∃ys,H4 D=some (.lst ys)∧ys.length<sizeLine∧∃m',m'<m∧W (i+1) m' (upd H4 D (.lst (ys++[y])))
   else ∃m',m'<m∧W (i+1) m' H3)
theorem qX.g{J:It}{D:Addr}{H1:Hp}{fr:St}{tc:TT}{te:TE}{Q:Addr→Hp→Prop}(h:qX J D H1 fr tc te Q):FX (g7 0) 1 J D H1 fr tc te Q:=by
 obtain⟨W,h0,h⟩:=h
 refine⟨W,h0,fun i m H w=>?_⟩
 rcases h i m H w with z|⟨g,z⟩
 ·exact .inl z
 ·exact .inr ⟨g,fun x H' y=>⟨rfl,⟨[some x],rfl,rfl⟩,z x H' y⟩⟩
noncomputable def oO(wi:TI)(ix:List Nat)(tc:TT)(te:TE):TE:=fun σ H Q=>wi σ H fun J H1=>∀D,H1 D=none→qX J D H1 (eZ σ ix) tc te fun D H=>Q (.ref D) H
theorem Lx{prog:Program}{w:World}{A:Around}{s:Shared}{R:Result→Shared→Prop}{elt target iter:Expr}{ifs:List Expr}{scope:Scope}{pos:Pos}{it acc:Value}{env:Env}(I:Nat→Shared→Prop)
  (turn:∀n s,I n s→wpAny (model prog w) A (pyNext it) (fun r s₁=>match r with
   |none=>R (.ok .next) s₁
   |some v=>wpAny (model prog w) A (letOwnedTupleGo target it v) (fun _ s₂=>wpAny (model prog w) A (assign target env v) (fun _ s₃ =>
    wpAny (model prog w) A (forIn ifs true fun c r=>if r=true then do let ok ←isTrue c env (eval c env);pure (ForInStep.yield ok)else pure (ForInStep.yield r)) (fun ok s₄ =>
     if ok=true then wpAny (model prog w) A (eval elt env) (fun x s₅ =>
      wpAny (model prog w) A (call (.builtin "list.append") [acc,x]) (fun _ s₆=>∃m,m<n∧I m s₆) (notedBy (model prog w) A env fun e s'=>R (.error e) s') s₅) (notedBy (model prog w) A env fun e s'=>R (.error e) s') s₄
     else ∃m,m<n∧I m s₄) (notedBy (model prog w) A env fun e s'=>R (.error e) s') s₃) (notedBy (model prog w) A env fun e s'=>R (.error e) s') s₂) (notedBy (model prog w) A env fun e s'=>R (.error e) s') s₁) (notedBy (model prog w) A env fun e s'=>R (.error e) s') s)
  (n:Nat) (h:I n s) :
  codeAny (model prog w) A (.compLoop (.ListComp elt [⟨target,iter,ifs,0⟩] scope pos) 0 it acc env) R s:=by
 refine codeAny_loop rfl I (fun n s hI=>?_) n h
 show wpAny _ A ((compTurn (.ListComp elt [⟨target,iter,ifs,0⟩] scope pos) 0 it acc env).onRaise (fun x=>do noteFrame x env;theTreesLotGoes x)) _ _ s
 refine wpAny_noted ?_
 rw[compTurn_list]
 refine aw (wJ (aw (fA (turn n s hI) (fun r s₁ h₁=>?_) fun _ _ h'=>h')))
 cases r with
 |none=>exact aO h₁
 |some v =>
  refine aw (fA h₁ (fun _ s₂ h₂=>?_) fun _ _ h'=>h')
  refine aw (fA h₂ (fun _ s₃ h₃=>aw (fA h₃ (fun ok s₄ h₄=>?_) fun _ _ h'=>h')) fun _ _ h'=>h')
  cases ok with
  |false=>exact aO ⟨rfl,h₄⟩
  |true =>
   exact aw (aw (fA h₄ (fun x s₅ h₅=>aw (fA h₅ (fun _ s₆ h₆=>aO (aO ⟨rfl,h₆⟩)) fun _ _ h'=>h')) fun _ _ h'=>h'))
structure j5 (N N':List Str)(sc au:Scope)(x:Str)(ix:List Nat):Prop where
 kind:au.kind=.function
 u9:∀y∈au.names,y.2≠.cell
 names:∀y∈au.names,y.2=.local→au.names.lookup y.1=some .local
 loc:au.names.lookup x=some .local
 free:∀y∈au.names,y.2=.free→sc.names.lookup y.1=some .cell
 nd:N'.Nodup
 hd:N'[0]?=some x
 len:N'.length=ix.length+1
 fr:∀p∈ix.zip N'.tail,N[p.1]?=some p.2∧sc.names.lookup p.2=some .cell∧au.names.lookup p.2=some .free
structure ER (n:Nat)(N N':List Str)(sc au:Scope)(ix:List Nat):Prop where
 kind:au.kind=.function
 u9:∀y∈au.names,y.2≠.cell
 names:∀y∈au.names,y.2=.local→au.names.lookup y.1=some .local
 free:∀y∈au.names,y.2=.free→sc.names.lookup y.1=some .cell
 len:N'.length=ix.length+n
 fr:∀p∈ix.zip (N'.drop n),N[p.1]?=some p.2∧sc.names.lookup p.2=some .cell∧au.names.lookup p.2=some .free
theorem j5.g{N N':List Str}{sc au:Scope}{x:Str}{ix:List Nat}(h:j5 N N' sc au x ix):ER 1 N N' sc au ix :=
 ⟨h.kind,h.u9,h.names,h.free,h.len,by rw[List.drop_one];exact h.fr⟩
section
variable {X:Cx}{N':List Str}{au:Scope}{x:Str}{ix:List Nat}{px pos:Pos}{elt iter:Expr}{ifs:List Expr}{wi:TI}{tc:TT}{te:TE}
theorem Ly{n:Nat}{tg:Expr}{gg:TG}{pins:List (Addr×Obj)}{σ:St}{H2:Hp}{s2:Shared}{it:Addr}{fp:List Addr}{tn:Nat→Heap→Prop}{J:It}{RR:Value→Addr→Result→Shared→Prop}{E:Value→Shared→Prop}{Qd:Addr→Hp→Prop}
  (ok:ER n X.N N' X.env.scope au ix) (hg:∀C s₂ H₂ fp pn,PG (X.bV N' au C s₂ H₂ fp pn) tg gg) (hc:X.calm=true) (I2:Inv X pins σ H2 s2) (T:Turn X.prog X.w X.K tg J fp it tn) (eV:tn 0 s2.heap) (f2:∀b∈fp,iF X pins H2 b)
  (fN:∀C s₂ H₂ fp pn,mj (X.bV N' au C s₂ H₂ fp pn) ifs tc) (k5:∀C s₂ H₂ fp pn,PE (X.bV N' au C s₂ H₂ fp pn) elt te)
  (hW:∀D,H2 D=none→FX gg n J D H2 (eZ σ ix) tc te Qd)
  (Bk:∀D C s4 H4 m,Inv X pins σ H4 s4→s4.heap.Ns C m→(∀(h':Heap) (t':Nat) (σ':St) (s5:Shared),Inv X pins σ' H4 s5→Heap.SameBut C s5.heap h'→Inv X pins σ' H4 { s5 with heap:=h',toks:=t' })→C≠X.env.locals→(∀y c,X.env.cells.lookup y=some c→c≠C)→Qd D H4→RR (.ref D) C (.ok .next) s4) :
  wpAny (model X.prog X.w) X.A (newList []) (fun acc s₃=>wpAny (model X.prog X.w) X.A (newFunctionEnv au X.env.globals (mY au X.env) [] X.env.qual none .none (some X.env)) (fun rL s₄ =>
   codeAny (model X.prog X.w) X.A (.compStart (.ListComp elt [⟨tg,iter,ifs,0⟩] au pos) 0 (.ref it) acc { rL with scope:=relabel au X.env }) (RR acc rL.locals) s₄) E s₃) E s2:=by
 refine kJ (wpAny_newFunctionEnv ok.u9 (by intro y hy;simp at hy) (fun h₁ hns₁ hsb₁=>?_) ok.kind)
 dsimp only at hns₁ hsb₁ ⊢
 generalize Bl:s2.heap.push { cls:=.type "list",dict:=none,data:=.seq ([]:List Value).toArray }=HP at hns₁ hsb₁ ⊢
 have hC:HP.objs.size=s2.heap.objs.size+1:=by rw[←Bl,Heap.size_push]
 have xx:s2.heap.objs.size≠HP.objs.size:=by rw[hC];exact cL (Nat.lt_succ_self _)
 have rM:s2.heap.objs.size≤HP.objs.size:=by rw[hC];exact Nat.le_succ _
 have below:∀b,b<s2.heap.objs.size→b≠HP.objs.size∧b≠s2.heap.objs.size:=fun b hb=>⟨by rw[hC];exact cL (Nat.lt_succ_of_lt hb),cL hb⟩
 have old:∀b o,s2.heap.get? b=some o→h₁.get? b=some o:=fun b o e=>hsb₁.extBut b o (below b (bx e)).1 (cA _ (Bl▸cA _ e))
 have rN:h₁.get? s2.heap.objs.size=some { cls:=.type "list",dict:=none,data:=.seq ([]:List Value).toArray }:=hsb₁.extBut _ _ xx (cA _ (Bl▸eU _ rfl))
 have Bm:H2 s2.heap.objs.size=none:=I2.aA.fresh (aR _)
 have Jv:H2 HP.objs.size=none:=I2.aA.fresh rM
 generalize hD:s2.heap.objs.size=D at xx rN Bm ⊢
 generalize Y1:HP.objs.size=C at hns₁ hsb₁ xx Jv rM below ⊢
 have vq:∀y∈au.names,y.2=.free→∃c,X.env.cells.lookup y.1=some c:=fun y hy e=>I2.ok.has y.1 (.inl (ok.free y hy e))
 have ml:∀y c,(mY au X.env).lookup y=some c→X.env.cells.lookup y=some c:=FV X.env (fun _ _=>trivial) au.names [] vq (fun _ _ z=>by simp at z)
 have Jw:∀y,(y,NameKind.free)∈au.names→∃c,(mY au X.env).lookup y=some c:=fun y hy=>FW X.env au.names [] y (.inr hy)
 have FY:∀y c,X.env.cells.lookup y=some c→c<s2.heap.objs.size:=fun y c e=>by
  obtain⟨v,o,ho,_⟩:=I2.cell y c e
  exact bx ho
 have z0:∀b∈fp,b<s2.heap.objs.size:=fun b hb=>by
  obtain⟨o,e,_⟩:=T.obj 0 _ eV b hb
  exact bx e
 have z4:∀b,b≠X.env.locals→b∉X.fs→b∉hZ X.stack:=fun b h1 h2 z=>(fK.mp (I2.y8 b z)).elim h1 h2
 have WD:(X.bV N' au C s2 H2 fp (X.pn++pins)).Ok:=by
  refine⟨I2.ok.mod,ok.kind,I2.ok.glob,I2.ok.blt,rM,fun y z c h1 h2=>?_,fun y hy=>?_,fun y c z=>?_,I2.ok.hd,I2.ok.frames,.inl rfl,fun b hb=>?_,I2.bs,bS I2.ok.kO I2.sz,fun b o e hb=>?_,fun b hb=>?_,I2.stack,I2.EA⟩
  ·exact I2.ok.inj y z c (ml y c h1) (ml z c h2)
  ·have tm:(relabel au X.env).names.lookup y=some .cell∨(relabel au X.env).names.lookup y=some .free:=hy
   have hf:au.names.lookup y=some .free:=by
    rcases tm with z|z
    ·rcases uv z with q|q
     ·exact absurd rfl (ok.u9 _ (lT q))
     ·exact q.2
    ·rcases uv z with q|q
     ·exact q
     ·exact absurd q.1 (by decide)
   exact Jw y (lT hf)
  ·exact nomatch z
  ·exact⟨(below b (z0 b hb)).1,fun y c e=>(f2 b hb).2.2.2.2.1 y c (ml y c e)⟩
  ·rcases (f2 b hb).2.2.2.1 with z|z
   ·exact I2.ok.rF b o e z
   ·exact absurd (dI (bx e) (bS I2.ok.kO z)) (jD _)
  ·exact z4 b (f2 b hb).2.1 (f2 b hb).2.2.1
 have Bn:∀{H':Hp},(∀b∈fp,H' b=none)→∀b∈fp,iF (X.bV N' au C s2 H2 fp (X.pn++pins)) [] H' b:=fun hn b hb =>
  ⟨hn b hb,(below b (z0 b hb)).1,z4 b (f2 b hb).2.1 (f2 b hb).2.2.1,.inl hb,fun y c e=>(f2 b hb).2.2.2.2.1 y c (ml y c e),fun p hp=>(f2 b hb).2.2.2.2.2 p (by simpa using (show p∈(X.pn++pins)++[] from hp))⟩
 obtain⟨mL,Y2,Us⟩:=id I2.loc
 have IB:Inv (X.bV N' au C s2 H2 fp (X.pn++pins)) [] (List.replicate n none++eZ σ ix) (upd H2 D (.lst [])) { s2 with heap:=h₁,toks:=s2.toks+([]:List (Str×Value)).length }:=by
  refine⟨WD,rfl,I2.bare,Un.laid old (pM hD) Bm,⟨_,hns₁,fun i y v h1 h2 h3=>?_⟩,fun y c e=>?_,?_,fun y c e=>?_,fun p hp=>?_,I2.aA.laid old (pM hD) ⟨nC _,[],_,.nil,rN⟩,?_⟩
  ·by_cases Jx:i<n
   ·rw[lU (by simpa using Jx),AH,if_pos Jx]at h2
    cases h2
   ·obtain⟨j,rfl⟩:∃j,i=n+j:=⟨i-n,by omega⟩
    have p5:(eZ σ ix)[j]?=some (some v):=by
     rw[List.getElem?_append_right (by simp)]at h2
     simpa using h2
    unfold eZ at p5
    rw[cG]at p5
    cases ei:ix[j]? with
    |none=>rw[ei]at p5;cases p5
    |some i =>
     rw[ei]at p5
     have v8:(σ[i]?).getD none=some v:=c9 p5
     have hσ:σ[i]?=some (some v):=by
      cases es:σ[i]? with
      |none=>rw[es]at v8;cases v8
      |some q=>rw[es]at v8;exact cf some v8
     have VH:(N'.drop n)[j]?=some y:=by rw[List.getElem?_drop];exact h1
     obtain⟨n1,n2,n3⟩:=ok.fr (i,y) (fB (i:=j) (by rw[List.getElem?_zip_eq_some];exact⟨ei,VH⟩))
     obtain⟨u,ru,lk⟩:=Us i y v n1 hσ (.inr (.inl n2))
     refine⟨u,ru,?_⟩
     rcases lk with⟨k,_⟩|⟨_,c,ec,z⟩
     ·have k':X.env.scope.names.lookup y=some .local:=k
      rw[n2]at k'
      cases k'
     ·obtain⟨c',Jy⟩:=Jw y (lT n3)
      have e3:=ml y c' Jy
      rw[ec]at e3
      cases e3
      have kk:(relabel au X.env).names.lookup y=some .cell∨(relabel au X.env).names.lookup y=some .free:=by
       rcases h3 with q|q|q
       ·have q':(relabel au X.env).names.lookup y=some .local:=q
        rcases uv q' with r|r
        ·rw[n3]at r;cases r
        ·exact absurd r.1 (by decide)
       ·exact .inl q
       ·exact .inr q
      exact .inr ⟨kk,c,Jy,z.keeps old⟩
  ·obtain⟨v,z⟩:=I2.cell y c (ml y c e)
   exact⟨v,z.keeps old⟩
  ·show upd H2 D (.lst []) C=none
   rw[az (jE xx)]
   exact Jv
  ·show upd H2 D (.lst []) c=none
   have l:=FY y c (ml y c e)
   rw[az (fun q=>by rw[q,←hD]at l;exact jD _ l)]
   exact I2.gE y c (ml y c e)
  ·have mn:p∈X.pn++pins:=by simpa using (show p∈(X.pn++pins)++[] from hp)
   obtain⟨e,n,ne,nf,d⟩:=I2.pin p mn
   have l:=bx e
   refine⟨old _ _ e,?_,(below p.1 l).1,z4 p.1 ne nf,d⟩
   rw[az (fun q=>by rw[q,←hD]at l;exact jD _ l)]
   exact n
  ·show(List.replicate n none++eZ σ ix:St).length=N'.length
   rw[ok.len]
   simp[eZ,Nat.add_comm]
 have back:∀{H4:Hp}{s4:Shared}{σ4:St}{ps:List (Addr×Obj)},Inv (X.bV N' au C s2 H2 fp (X.pn++pins)) ps σ4 H4 s4→Inv X pins σ H4 s4:=fun I4 =>
  I2.T9 I4.os I4.base I4.aA I4.bare fun b hb=>⟨(f2 b hb).2.2.2.1,(f2 b hb).2.1,(f2 b hb).2.2.2.2.1,(f2 b hb).2.2.2.2.2⟩
 have nG:C≠X.env.locals:=fun z=>by
  have l:=I2.lt
  rw[←z]at l
  exact absurd (dI l rM) (jD _)
 have kQ:∀y c,X.env.cells.lookup y=some c→c≠C:=fun y c e=>(below c (FY y c e)).1
 have WG:∀p∈X.pn++pins,p.1≠C:=fun p hp=>(below p.1 (bx (I2.pin p hp).1)).1
 have loop:∀s₃:Shared,s₃={ s2 with heap:=h₁,toks:=s2.toks+([]:List (Str×Value)).length } →
   codeAny (model X.prog X.w) X.A (.compLoop (.ListComp elt [⟨tg,iter,ifs,0⟩] au pos) 0 (.ref it) (.ref D) (compEnvC au (mY au X.env) C X.env)) (RR (.ref D) C) s₃:=by
  rintro s₃ rfl
  obtain⟨W,⟨m0,WH⟩,turn⟩:=hW D Bm
  refine Lx (fun k s'=>∃i H',Inv (X.bV N' au C s2 H2 fp (X.pn++pins)) [] (List.replicate n none++eZ σ ix) H' s'∧tn i s'.heap∧(∀b∈fp,H' b=none)∧W i k H') ?_ m0
   ⟨0,_,IB,T.keep _ _ _ eV fun b _ o e=>old b o e,fun b hb=>?_,WH⟩
  ·rintro k s3 ⟨i,H3,I3,f7,sR,w3⟩
   rcases turn i k H3 w3 with⟨stop,qn⟩|⟨go,step⟩
   ·refine aD (T.done (X.bV N' au C s2 H2 fp (X.pn++pins)) rfl rfl rfl hc i [] s3 _ H3 _ I3 (Bn sR) f7 stop) fun r s4 ⟨hr,I4⟩=>?_
    subst hr
    obtain⟨m4,WL,_⟩:=id I4.loc
    refine Bk D C s4 H3 m4 (back I4) WL (fun h' t' σ' s5 I5 sb=>I5.turned (it:=C) (fun b o hb e=>(sb.2 b hb).trans e) I4.free nG (.inr (bS I2.sz rM)) kQ WG) nG kQ qn
   ·refine aD (T.item (X.bV N' au C s2 H2 fp (X.pn++pins)) rfl rfl rfl hc i [] s3 _ H3 _ I3 (Bn sR) f7 go) fun r s4 ⟨u,hr,h4⟩=>?_
    subst hr
    refine aD h4 fun _ s5 ⟨v,H5,I5,r5,y5,dR,A9⟩=>?_
    have Ba:=I5.pinned (Bn A9) (T.obj _ _ dR)
    have fin:∀{ow:St}{H7:Hp}{s7:Shared},ow.length=n→Inv (X.bV N' au C s2 H2 fp (X.pn++pins)) ([]++qJ fp s5.heap) (ow++eZ σ ix) H7 s7→∀{m':Nat},m'<k→W (i+1) m' H7 →
      ∃m,m<k∧∃i H',Inv (X.bV N' au C s2 H2 fp (X.pn++pins)) [] (List.replicate n none++eZ σ ix) H' s7∧tn i s7.heap∧(∀b∈fp,H' b=none)∧W i m H':=fun {ow H7 s7} how I7 {m'} hm w7=>by
     refine⟨m',hm,i+1,H7,I7.uC.weak (by rw[cg,cg,how,List.length_replicate]) (fun j q e=>?_),T.keep _ _ _ dR fun b hb o e=>(I7.pin (b,o) (iQ _ (iQ _ (uA hb e)))).1,fun b hb=>?_,w7⟩
     ·by_cases hj:j<n
      ·rw[lU (by simpa using hj),AH,if_pos hj]at e
       cases e
      ·rw[List.getElem?_append_right (by simpa using hj)]at e
       rw[List.getElem?_append_right (by omega),how]
       simpa using e
     ·obtain⟨o,e,d⟩:=T.obj _ _ dR b hb
      exact(I7.pin (b,o) (iQ _ (iQ _ (uA hb e)))).2.1
    refine fA (hg C s2 H2 fp (X.pn++pins) _ s5 _ H5 v u _ Ba r5 (step v H5 y5)) (fun _ s6 ⟨σ6,H6,I6,e1,⟨ow,how,e2⟩,q6⟩=>?_) fun _ _ z=>z.elim
    subst e1 e2
    refine fA (fN C s2 H2 fp (X.pn++pins) _ s6 _ _ _ I6 q6) (fun b s7 ⟨H7,I7,q7⟩=>?_) fun _ _ z=>z.elim
    cases b with
    |false =>
     rw[if_neg a6]at q7 ⊢
     obtain⟨m',hm,w7⟩:=q7
     exact fin how I7 hm w7
    |true =>
     rw[if_pos rfl]at q7 ⊢
     refine fA (k5 C s2 H2 fp (X.pn++pins) _ s7 _ _ _ I7 q7) (fun uy s8 ⟨y,H8,I8,r8,ys,nL,hl,m',hm,w8⟩=>?_) fun _ _ z=>z.elim
     refine fA (DG (X:=X.bV N' au C s2 H2 fp (X.pn++pins)) _ s8 _ H8 (.ref D) [y] (.ref D) [uy] (fun _ H'=>H'=upd H8 D (.lst (ys++[y]))) I8 rfl (.cons r8 .nil) ⟨D,ys,y,rfl,rfl,nL,hl,rfl⟩) (fun _ s9 ⟨z,H9,I9,_,q9⟩=>?_) fun _ _ z=>z.elim
     subst q9
     exact fin how I9 hm w8
  ·show upd H2 D (.lst []) b=none
   have l:=z0 b hb
   rw[az (fun q=>by rw[q,←hD]at l;exact jD _ l)]
   exact(f2 b hb).1
 exact codeAny_compStart_list (loop _ rfl) (T.self X.A 0 _ _ _ (T.keep _ _ _ eV fun b _ o e=>old b o e) (loop _ rfl))
theorem Dh{pins:List (Addr×Obj)}{σ:St}{H2:Hp}{s2:Shared}{it:Addr}{fp:List Addr}{tn:Nat→Heap→Prop}{J:It}{RR:Value→Addr→Result→Shared→Prop}{E:Value→Shared→Prop}{Qd:Addr→Hp→Prop}
  (ok:j5 X.N N' X.env.scope au x ix) (hc:X.calm=true) (I2:Inv X pins σ H2 s2) (T:Turn X.prog X.w X.K (.Name x px) J fp it tn) (eV:tn 0 s2.heap) (f2:∀b∈fp,iF X pins H2 b)
  (fN:∀C s₂ H₂ fp pn,mj (X.bV N' au C s₂ H₂ fp pn) ifs tc) (k5:∀C s₂ H₂ fp pn,PE (X.bV N' au C s₂ H₂ fp pn) elt te)
  (hW:∀D,H2 D=none→qX J D H2 (eZ σ ix) tc te Qd)
  (Bk:∀D C s4 H4 m,Inv X pins σ H4 s4→s4.heap.Ns C m→(∀(h':Heap) (t':Nat) (σ':St) (s5:Shared),Inv X pins σ' H4 s5→Heap.SameBut C s5.heap h'→Inv X pins σ' H4 { s5 with heap:=h',toks:=t' })→C≠X.env.locals→(∀y c,X.env.cells.lookup y=some c→c≠C)→Qd D H4→RR (.ref D) C (.ok .next) s4) :
  wpAny (model X.prog X.w) X.A (newList []) (fun acc s₃=>wpAny (model X.prog X.w) X.A (newFunctionEnv au X.env.globals (mY au X.env) [] X.env.qual none .none (some X.env)) (fun rL s₄ =>
   codeAny (model X.prog X.w) X.A (.compStart (.ListComp elt [⟨.Name x px,iter,ifs,0⟩] au pos) 0 (.ref it) acc { rL with scope:=relabel au X.env }) (RR acc rL.locals) s₄) E s₃) E s2:=by
 have nM:∀C s₂ H₂ fp pn,(X.bV N' au C s₂ H₂ fp pn).env.scope.names.lookup x=some .local:=fun _ _ _ _ _=>lookup_relabel_local ok.loc
 exact Ly ok.g (fun C s₂ H₂ fp pn=>EC (X:=X.bV N' au C s₂ H₂ fp pn) (i:=0) ok.nd ok.hd (.inl (nM C s₂ H₂ fp pn)) (.inr (nM C s₂ H₂ fp pn))) hc I2 T eV f2 fN k5 (fun D hD=>(hW D hD).g) Bk
theorem uL(ok:j5 X.N N' X.env.scope au x ix)(hc:X.calm=true)(hi:PI X (.Name x px) iter wi)(fN:∀C s₂ H₂ fp pn,mj (X.bV N' au C s₂ H₂ fp pn) ifs tc)(k5:∀C s₂ H₂ fp pn,PE (X.bV N' au C s₂ H₂ fp pn) elt te)
  (hs:∀x,foldedSetIterable iter X.env x=pure x:=by intro _;rfl):PE X (.ListComp elt [⟨.Name x px,iter,ifs,0⟩] au pos) (oO wi ix tc te):=by
 intro pins s σ H Q I h
 rw[eval_ListComp]
 refine wpAny_comprehension_free (use:=none) rfl hs (CP fun y hy e=>I.ok.has y.1 (.inl (ok.free y hy e))) ok.kind ok.names (aD (hi pins s σ H _ I h) fun v s1 h1=>aD h1 fun xh s2 h2=>?_)
 obtain⟨it,fp,tn,J,H2,e,I2,T,eV,f2,hW⟩:=h2
 subst e
 refine Dh (RR:=fun acc C=>compPost (model X.prog X.w) X.A X.xe none (EP X pins σ Q) acc C) (Qd:=fun D H=>Q (.ref D) H) ok hc I2 T eV f2 fN k5 hW ?_
 intro D C s4 H4 m I4 pY tr _ _ q
 exact⟨m,pY,fun h' sb=>⟨.ref D,H4,tr h' s4.toks σ s4 I4 sb,rfl,q⟩⟩
theorem LY{i:Nat}{y:Str}{py rO:Pos}(hN:X.N.Nodup)(Bp:X.N[i]?=some y)(hy:X.env.scope.names.lookup y=some .local)(ok:j5 X.N N' X.env.scope au x ix)(hc:X.calm=true)(hi:PI X (.Name x px) iter wi)(fN:∀C s₂ H₂ fp pn,mj (X.bV N' au C s₂ H₂ fp pn) ifs tc)
  (k5:∀C s₂ H₂ fp pn,PE (X.bV N' au C s₂ H₂ fp pn) elt te) (Bq:swapsWith (.ListComp elt [⟨.Name x px,iter,ifs,0⟩] au pos) (some (.Name y py)) rO.line X.env=pure true:=by rfl)
  (hs:∀x,foldedSetIterable iter X.env x=pure x:=by intro _;rfl):PS X (.Assign [.Name y py] (.ListComp elt [⟨.Name x px,iter,ifs,0⟩] au pos) rO) (gK (oO wi ix tc te) (g7 i)):=by
 intro pins s σ H D I h
 rw[exec_Assign_Name_used _ _ _ _ Bq]
 refine aw (wJ (aw ?_))
 show wpAny _ X.A (do let _ ←comprehension (.ListComp elt [⟨.Name x px,iter,ifs,0⟩] au pos) au X.env _ (newList []) false (eval iter X.env) (some (assign (.Name y py) X.env))) _ _ s
 refine aw (fA (wpAny_comprehension_free (use:=some (assign (.Name y py) X.env)) (Q:=fun _ s'=>SP X pins D .next s') rfl hs (CP fun y hy e=>I.ok.has y.1 (.inl (ok.free y hy e))) ok.kind ok.names
  (aD (hi pins s σ H _ I h) fun v s1 h1=>aD h1 fun xh s2 h2=>?_)) (fun _ s' hq=>aO (aO hq)) fun _ _ e=>e)
 obtain⟨it,fp,tn,J,H2,e,I2,T,eV,f2,hW⟩:=h2
 subst e
 refine Dh (RR:=fun acc C=>compPost (model X.prog X.w) X.A X.xe (some (assign (.Name y py) X.env)) (fun _ s'=>SP X pins D .next s') acc C) (Qd:=fun B H=>D.nx (σ.set i (some (.ref B))) H) ok hc I2 T eV f2 fN k5 hW ?_
 intro B C s4 H4 m I4 pY tr nG kQ q
 show wpAny _ X.A (assign (.Name y py) X.env (.ref B)) _ _ s4
 refine wpAny_assign_Name (Dy I4 hN Bp (.inl hy) (show RelV (.ref B) (.ref B)from rfl) (fun s5 I5 ⟨a,sb,ha⟩=>?_) (.inr hy))
 have WM:C≠a:=by
  rcases ha with e|e
  ·rw[e];exact nG
  ·exact jE (kQ y a e)
 exact⟨m,pY.sameBut sb WM,fun h' WN=>⟨_,H4,tr h' s5.toks _ s5 I5 WN,q⟩⟩
end
def iz(h:Heap)(d:Addr)(es:Array DictEntry)(ep:Nat):Prop:=∃o,h.get? d=some o∧o.ExactDict∧o.data=.dict es ep
theorem iz.ty{s:Shared}{d:Addr}{es:Array DictEntry}{ep:Nat}(x:iz s.heap d es ep):s.TypeIs (.ref d) "dict" := let ⟨o,ho,hc,_⟩:=x;⟨o,ho,hc.1⟩
theorem iz.at{h h':Heap}{d:Addr}{es:Array DictEntry}{ep:Nat}(x:iz h d es ep)(e:∀o,h.get? d=some o→h'.get? d=some o):iz h' d es ep:=let ⟨o,ho,r⟩:=x;⟨o,e _ ho,r⟩
theorem iz.lt{h:Heap}{d:Addr}{es:Array DictEntry}{ep:Nat}(x:iz h d es ep):d<h.objs.size:=let ⟨_,ho,_⟩:=x;bx ho
section
variable {prog:Program}{w:World}{A:Around}{E:Value→Shared→Prop}{s:Shared}{d it:Addr}{es:Array DictEntry}{i ep:Nat}
theorem LZ{Q:Value→Shared→Prop}(hd:(d==sysModules)=false)(hm:iz s.heap d es ep)
  (hQ:Q (.ref s.heap.objs.size) { s with heap:=s.heap.push { cls:=.type "dict_keyiterator",data:=.fields #[.ref d,.int 0 0,.int es.size 0,.int ep 0] } }):wpAny (model prog w) A (pyIter (.ref d)) Q E s:=by
 obtain⟨o,ho,hc,Ia⟩:=id hm
 have hT:=hm.ty
 refine wpAny_pyIter_slot hT F.slot_dict_iter (ny F.slot_dict_iter hT F.entry_dict_iter ?_ (F.args_dict_iter_1 _));unfold Builtin.«dict.__iter__»
 refine aw ?_;unfold Builtin.Dict.dictSlotNone;refine aw (wpAny_notOrdered_dict hT ?_)
 show wpAny _ _ (pure (Value.ref d)) _ _ s;refine aO ?_
 show wpAny _ _ (Builtin.Dict.showsAll d >>= _) _ _ s;unfold Builtin.Dict.showsAll
 rw[if_neg (by rw[hd];exact a6)];refine aw (aO ?_)
 refine aw (AY ho Ia ?_);refine aw (AZ ho Ia ?_)
 refine aw (kJ (aO ⟨_,rfl, "dict_keyiterator",_,⟨_,eU _ rfl,rfl⟩,sv.lookup,?_⟩));simpa[rawInt]using hQ
theorem L0{e:DictEntry}{Q:Option Value→Shared→Prop}(hit:s.heap.IsKeyIter it d i es.size ep)(hm:iz s.heap d es ep)(hx:es[i]?=some e)
  (hQ:∀h',h'.IsKeyIter it d (i+1) es.size ep→Heap.SameBut it s.heap h'→Q (some e.key) { s with heap:=h' }):wpAny (model prog w) A (pyNext (.ref it)) Q E s:=by
 obtain⟨o,ho,hc,hd⟩:=id hit;obtain⟨od,tD,dM,tE⟩:=id hm
 unfold pyNext;refine aw (wpAny_attempt (wQ (name:=Str.ofString "__next__") hit.typeIs sv (ny sv hit.typeIs Jc ?_ (Jd _))))
 refine aw (aO ?_);refine aw ?_;refine aw ?_
 (first|refine aw (wV hit.typeIs (aO ?_))|refine aw (wW hit.typeIs (aO ?_)));refine aw (wpAny_fieldsOf ho hd ?_)
 have z5:Builtin.Dict_items.ownsTuple "dict_keyiterator" = false:=by decide +kernel
 simp only[z5,Bool.false_eq_true,if_false];show wpAny _ _ (if (Value.ref d==Value.none)=true then _ else _) _ _ s
 rw[if_neg (show ¬((Value.ref d==Value.none)=true)from a6)];refine aw (aO ?_)
 refine aw (AY tD tE ?_);rw[if_neg (by simp)];refine aw (aO ?_)
 refine aw (AZ tD tE ?_);rw[if_neg (by simp)];refine aO ?_
 have aT:i<es.size:=(Je.mp hx).1
 have xA:es[i]=e:=(Je.mp hx).2
 simp only[show ¬((i:Int)<0)from by omega,if_false,Int.toNat_natCast,Array.getElem?_eq_getElem aT];refine aw ?_
 (first|refine aw (wV hit.typeIs (aO ?_))|refine aw (wW hit.typeIs (aO ?_)));refine aw (wpAny_isOneOf_keyiter hit.typeIs ?_)
 show wpAny _ _ (setField (.ref it) 1 (rawInt ((i:Int)+1)) >>= _) _ _ s;refine aw (wpAny_setField ho hd (by simp) ?_)
 have Ib:(s.heap.update it (Obj.mapFields (·.setIfInBounds 1 (rawInt ((i:Int)+1))))).IsKeyIter it d (i+1) es.size ep:=⟨_,Heap.get?_update_self _ ho (Obj.isFreed_of_fields (Obj.data_mapFields hd _)),(Obj.cls_mapFields ..).trans hc,by rw[Obj.data_mapFields hd];simp[rawInt]⟩
 refine aw (lS ?_);refine aw (wpAny_isOneOf_keyiter (s:={ s with heap:=s.heap.update it (Obj.mapFields (·.setIfInBounds 1 (rawInt ((i:Int)+1)))) }) Ib.typeIs ?_)
 show wpAny _ _ (pure es[i].key) _ _ _;rw[xA]
 exact aO (aO ⟨_,rfl,aO (hQ _ Ib (Heap.SameBut.update ..))⟩)
theorem MA{Q:Option Value→Shared→Prop}(hh:A.handled=none)(hit:s.heap.IsKeyIter it d i es.size ep)(hm:iz s.heap d es ep)(hx:es.size≤i)
  (hQ:∀h',Heap.ExtBut it s.heap h'→Q none { s with heap:=h' }):wpAny (model prog w) A (pyNext (.ref it)) Q E s:=by
 obtain⟨o,ho,hc,hd⟩:=id hit;obtain⟨od,tD,dM,tE⟩:=id hm
 unfold pyNext;refine aw (wpAny_attempt (wQ (name:=Str.ofString "__next__") hit.typeIs sv (ny sv hit.typeIs Jc ?_ (Jd _))))
 refine aw (aO ?_);refine aw ?_;refine aw ?_
 (first|refine aw (wV hit.typeIs (aO ?_))|refine aw (wW hit.typeIs (aO ?_)));refine aw (wpAny_fieldsOf ho hd ?_)
 have z5:Builtin.Dict_items.ownsTuple "dict_keyiterator" = false:=by decide +kernel
 simp only[z5,Bool.false_eq_true,if_false];show wpAny _ _ (if (Value.ref d==Value.none)=true then _ else _) _ _ s
 rw[if_neg (show ¬((Value.ref d==Value.none)=true)from a6)];refine aw (aO ?_)
 refine aw (AY tD tE ?_);rw[if_neg (by simp)];refine aw (aO ?_)
 refine aw (AZ tD tE ?_);rw[if_neg (by simp)];refine aO ?_
 simp only[show ¬((i:Int)<0)from by omega,if_false,Int.toNat_natCast,Array.getElem?_eq_none hx];refine aw ?_
 (first|refine aw (wV hit.typeIs (aO ?_))|refine aw (wW hit.typeIs (aO ?_)));show wpAny _ _ (setField (.ref it) 0 .none >>= _) _ _ s
 refine aw (wpAny_setField ho hd (by simp) ?_);show wpAny _ _ (newExc (.type "StopIteration") [] >>= _) _ _ _
 refine aw ?_;simp only[newExc,newTuple];refine aw (kJ ?_ (by size_fits))
 refine aw (m:=firstArgMember _ _) (wpAny_of_eq (a:=Value.none) (by first|rfl | (simp only[firstArgMember];rfl)) ?_);refine kJ ?_ (by size_fits)
 simp only[raiseNew];refine aw (wpAny_handled ?_);rw[show A.in1.handled=none from hh]
 refine aw (aO (wpAny_throw ?_));refine aw (wpAny_isInstance (T := "StopIteration") (b:=true) ⟨_,eU _ rfl,rfl⟩ isSubtype_stop ?_)
 exact aO (hQ _ (((Heap.SameBut.update ..).extBut.push _).push _))
end
section
variable {X:Cx}
theorem Lk(hc:X.calm=true):gp X (.builtin "all") (fun xs H Q=>∃(p:Addr) (bs:List Bool),xs=[.ref p]∧bw X.K H p (bs.map V.bl)∧Q (.bl (bs.all id)) H):=by
 intro pins s σ H xs us Q I r h
 obtain⟨p,bs,rfl,hq,q⟩:=h
 obtain⟨u,rfl,rx⟩:=vals1 r
 cases rx
 obtain⟨its,rv,pl,hz⟩:=I.list hq
 have hlen:bs.length=its.length:=by simpa using rv.length
 have tF:p≠s.heap.objs.size:=by
  obtain⟨o,n,e,_⟩:=pl
  exact cL (bx e)
 refine call_all_walk (wpAny_pyIter_list pl.isList ?_)
 refine⟨s.heap.objs.size,_,_,_,_,_,fun i=>bs.getD i true,rfl,Walks.list (show X.A.in1.handled=none from I.ok.hd hc) s.heap.objs.size p tF its.toArray,⟨⟨_,eU _ rfl,rfl,rfl⟩,?_⟩,fun i v s' Q' E' hv Br=>?_,fun h' tk kp=>?_⟩
 ·obtain⟨o,n,e,e2,e3,e4⟩:=pl
  exact⟨o,cA _ e,e2,n,e4⟩
 ·have cH:its[i]?=some v:=by simpa using hv
  have hi:i<its.length:=(bt.mp cH).1
  have hb:(bs.map V.bl)[i]?=some (V.bl (bs.getD i true)):=by
   rw[cG,bP (by omega),pN,bP (by omega)];rfl
  obtain⟨u,hu,ru⟩:=rv.get hb
  rw[cH]at hu
  cases hu
  cases (show v=Value.bool _ from ru)
  exact iP Br
 ·have eb:(List.range its.toArray.size).all (fun i=>bs.getD i true)=bs.all id:=by
   rw[fY,←hlen]
   conv=>rhs;rw[←range_getD bs true]
   rw[List.all_map];rfl
  refine⟨.bl (bs.all id),H,?_,?_,q⟩
  ·have I1:Inv X pins σ H { s with heap:=s.heap.push { cls:=.type "list_iterator",data:=.fields #[.ref p,.int 0 0] },toks:=s.toks }:=I.kept fun b o e=>cA _ e
   refine I1.turned (it:=s.heap.objs.size) (fun b o hb e=>kp b o (by simpa using hb) e) (I.aA.fresh (aR _)) (Nat.ne_of_gt I.lt) (.inr I.sz) (fun x c e=>?_) fun z hz=>?_
   ·obtain⟨v,o,ho,_⟩:=I.cell x c e
    exact cL (bx ho)
   ·exact cL (bx (I.pin z hz).1)
  ·rw[eb];rfl
noncomputable def Ic(K:PySem.W.Frag)(n:Nat)(t:gP):TG:=fun v σ H Q=>∃a xs,v=.ref a∧bw K H a xs∧xs.length=n∧t xs σ H Q
theorem R7{es:List Expr}{k:Nat}{pos:Pos}{t:gP}{n:Nat}(hc:X.calm=true)(h:pU X es t)
  (hn:(assignEach es X.env).length=n:=by rfl) (A6:(assignEach es X.env).findIdx? (·.1)=none:=by rfl):PG X (.Tuple es k pos) (Ic X.K n t):=by
 intro pins s σ H v u Q I r hw
 obtain⟨a,xs,e1,hq,hl,hw⟩:=hw
 subst e1
 cases r
 obtain⟨its,rv,pl,hz⟩:=I.list hq
 rw[assign_Tuple]
 refine aw (wJ ?_)
 unfold unpack
 have hlen:(assignEach es X.env).length=its.toArray.size:=by rw[hn,←hl,rv.length];simp
 rw[hlen,A6]
 refine aw (lS (PySem.W.kun_itemsOf (I.ok.hd hc) pl.isList fun h' hx=>?_))
 have I1:Inv X pins σ H { s with heap:=h' }:=I.kept (t':=s.toks) fun b o e=>hx b o (cL (bx e)) e
 exact h pins _ σ H xs _ Q I1 (by simpa using rv) hw
theorem Di:∀{zs:List Str}{us:List Value},Vals (zs.map V.str) us→StrsAre us zs
 |[],_,.nil=>.nil
 |z::zs,_,.cons r t=>by
  obtain⟨tk,e⟩:=(show ∃t,_=Value.str z t from r)
  subst e
  exact .cons z tk (Di t)
theorem PD:xt X "str.join" (fun x xs H Q=>∃(z:Str) (p:Addr) (ys:List Str),x=.str z∧xs=[.ref p]∧bw X.K H p (ys.map V.str)∧(ys.map (·.length)).sum+ys.length*z.length≤16777216∧Q (.str (Txt.join z ys)) H):=by
 intro pins s σ H x xs v us Q I rx r h
 obtain⟨z,p,ys,rfl,rfl,hq,hl,q⟩:=h
 obtain⟨u,rfl,ru⟩:=vals1 r
 cases ru
 obtain⟨tk,e⟩:=(show ∃t,v=Value.str z t from rx)
 subst e
 obtain⟨its,rv,pl,hz⟩:=I.list hq
 exact join_list pl.isList (by simpa using Di rv) hl fun t' k=>⟨.str (Txt.join z ys),H,I.tok k,⟨_,rfl⟩,q⟩
mutual
inductive Dn (K:PySem.W.Frag)(H:Hp):V→PyData→Prop
 |non:Dn K H .non .none
 |bl (b:Bool):Dn K H (.bl b) (.bool b)
 |int (i:Int):Dn K H (.int i) (.int i)
 |str (x:Str):Dn K H (.str x) (.str x)
 |lst {a:Addr}{xs:List V}{ds:List PyData}:bw K H a xs→bF K H xs ds→Dn K H (.ref a) (.list ds)
 |tup {a:Addr}{xs:List V}{ds:List PyData}:bh K H a xs→bF K H xs ds→Dn K H (.ref a) (.tuple ds)
inductive bF (K:PySem.W.Frag)(H:Hp):List V→List PyData→Prop
 |nil:bF K H [] []
 |cons {v:V}{d:PyData}{vs:List V}{ds:List PyData}:Dn K H v d→bF K H vs ds→bF K H (v::vs) (d::ds)
end
noncomputable def dV:V→PyData
 |.non=>.none
 |.bl b=>.bool b
 |.int i=>.int i
 |.str x=>.str x
 |_=>.none
theorem Inv.EV{pins:List (Addr×Obj)}{σ:St}{H:Hp}{s:Shared}{a:Addr}{xs ys:List V}(I:Inv X pins σ H s)(h:bw X.K H a xs)(h':bh X.K H a ys):False:=by
 obtain⟨_,_,⟨o,n,e1,e2,_⟩,_⟩:=I.list h
 obtain⟨_,_,⟨o',k1,k2,_⟩,_⟩:=I.tuple h'
 rw[e1]at k1;cases k1;rw[e2]at k2;exact absurd k2 (by simp)
mutual
theorem Dn.unique{pins:List (Addr×Obj)}{σ:St}{H:Hp}{s:Shared}(I:Inv X pins σ H s):∀{v:V}{d d':PyData},Dn X.K H v d→Dn X.K H v d'→d=d'
 |_,_,_,.non,h=>by cases h;rfl
 |_,_,_,.bl _,h=>by cases h;rfl
 |_,_,_,.int _,h=>by cases h;rfl
 |_,_,_,.str _,h=>by cases h;rfl
 |_,_,_,.lst hq hs,h=>by
  cases h with
  |lst kq ks=>cases I.uB hq kq;rw[bF.unique I hs ks]
  |tup kq ks=>exact(I.EV hq kq).elim
 |_,_,_,.tup hq hs,h=>by
  cases h with
  |tup kq ks=>cases I.yx hq kq;rw[bF.unique I hs ks]
  |lst kq ks=>exact(I.EV kq hq).elim
theorem bF.unique{pins:List (Addr×Obj)}{σ:St}{H:Hp}{s:Shared}(I:Inv X pins σ H s):∀{vs:List V}{ds mq:List PyData},bF X.K H vs ds→bF X.K H vs mq→ds=mq
 |_,_,_,.nil,h=>by cases h;rfl
 |_,_,_,.cons h t,k=>by
  cases k with
  |cons h' t'=>rw[Dn.unique I h h',bF.unique I t t']
end
mutual
theorem Dn.refl{K:PySem.W.Frag}{H:Hp}:∀{v:V}{d:PyData},Dn K H v d→PyData.eqv d d=true
 |_,_,.non=>by simp[PyData.eqv]
 |_,_,.bl _=>by simp[PyData.eqv]
 |_,_,.int _=>by simp[PyData.eqv]
 |_,_,.str _=>by simp[PyData.eqv]
 |_,_,.lst _ hs=>by simp only[PyData.eqv];exact bF.refl hs
 |_,_,.tup _ hs=>by simp only[PyData.eqv];exact bF.refl hs
theorem bF.refl{K:PySem.W.Frag}{H:Hp}:∀{vs:List V}{ds:List PyData},bF K H vs ds→PyData.eqvAll ds ds=true
 |_,_,.nil=>by simp[PyData.eqvAll]
 |_,_,.cons h t=>by rw[PyData.eqvAll,Dn.refl h,bF.refl t];rfl
end
theorem bF.length{K:PySem.W.Frag}{H:Hp}:∀{vs:List V}{ds:List PyData},bF K H vs ds→vs.length=ds.length
 |_,_,.nil=>rfl
 |_,_,.cons _ t=>by simp[bF.length t]
theorem PlainL.f9{h:Heap}{a:Addr}{its:Array Value}(x:PlainL h a its):h.IsList a its:=x.isList
mutual
theorem Dn.kx{pins:List (Addr×Obj)}{σ:St}{H:Hp}{s:Shared}(I:Inv X pins σ H s):∀{v:V}{d:PyData},Dn X.K H v d→∀{v':V}{d':PyData},Dn X.K H v' d'→∀{u u':Value},RelV v u→RelV v' u'→∀{A:Around},A.units+min d.depth d'.depth<cLine→SeqAt.EqAt A s u u' (PyData.eqv d d')
 |_,_,.non,_,_,h',_,_,r,r',A,hu=>by
  cases (show _=Value.none from r)
  cases h' with
  |non=>cases (show _=Value.none from r');exact pJ _
  |bl y=>cases (show _=Value.bool y from r');exact SeqAt.EqAt.none_bool y
  |int y=>obtain⟨t,e⟩:=(show ∃t,_=Value.int y t from r');subst e;exact Ay y t
  |str y=>obtain⟨t,e⟩:=(show ∃t,_=Value.str y t from r');subst e;exact Az y t
  |@lst a xs ds q hs=>cases (show _=Value.ref a from r');obtain⟨its,rv,pl,_⟩:=I.list q;exact SeqAt.EqAt.none_list pl.isList (cC hu)
  |@tup a xs ds q hs=>cases (show _=Value.ref a from r');obtain⟨its,rv,pl,_⟩:=I.tuple q;exact SeqAt.EqAt.none_tuple pl (cC hu)
 |_,_,.bl x,_,_,h',_,_,r,r',A,hu=>by
  cases (show _=Value.bool x from r)
  cases h' with
  |non=>cases (show _=Value.none from r');exact SeqAt.EqAt.bool_none x
  |bl y=>cases (show _=Value.bool y from r');exact SeqAt.EqAt.bool_bool x y
  |int y=>obtain⟨t,e⟩:=(show ∃t,_=Value.int y t from r');subst e;exact SeqAt.EqAt.bool_int x y t
  |str y=>obtain⟨t,e⟩:=(show ∃t,_=Value.str y t from r');subst e;exact SeqAt.EqAt.bool_str x y t
  |@lst a xs ds q hs=>cases (show _=Value.ref a from r');obtain⟨its,rv,pl,_⟩:=I.list q;exact SeqAt.EqAt.bool_list x pl.isList (cC hu)
  |@tup a xs ds q hs=>cases (show _=Value.ref a from r');obtain⟨its,rv,pl,_⟩:=I.tuple q;exact SeqAt.EqAt.bool_tuple x pl (cC hu)
 |_,_,.int x,_,_,h',_,_,r,r',A,hu=>by
  obtain⟨tx,ex⟩:=(show ∃t,_=Value.int x t from r);subst ex
  cases h' with
  |non=>cases (show _=Value.none from r');exact Av x tx
  |bl y=>cases (show _=Value.bool y from r');exact SeqAt.EqAt.int_bool x tx y
  |int y=>obtain⟨t,e⟩:=(show ∃t,_=Value.int y t from r');subst e;exact SeqAt.EqAt.int_int x tx y t
  |str y=>obtain⟨t,e⟩:=(show ∃t,_=Value.str y t from r');subst e;exact Au x tx y t
  |@lst a xs ds q hs=>cases (show _=Value.ref a from r');obtain⟨its,rv,pl,_⟩:=I.list q;exact SeqAt.EqAt.int_list x tx pl.isList (cC hu)
  |@tup a xs ds q hs=>cases (show _=Value.ref a from r');obtain⟨its,rv,pl,_⟩:=I.tuple q;exact SeqAt.EqAt.int_tuple x tx pl (cC hu)
 |_,_,.str x,_,_,h',_,_,r,r',A,hu=>by
  obtain⟨tx,ex⟩:=(show ∃t,_=Value.str x t from r);subst ex
  cases h' with
  |non=>cases (show _=Value.none from r');exact Ax x tx
  |bl y=>cases (show _=Value.bool y from r');exact SeqAt.EqAt.str_bool x tx y
  |int y=>obtain⟨t,e⟩:=(show ∃t,_=Value.int y t from r');subst e;exact Aw x tx y t
  |str y=>obtain⟨t,e⟩:=(show ∃t,_=Value.str y t from r');subst e;exact SeqAt.EqAt.str_str x tx y t
  |@lst a xs ds q hs=>cases (show _=Value.ref a from r');obtain⟨its,rv,pl,_⟩:=I.list q;exact SeqAt.EqAt.str_list x tx pl.isList (cC hu)
  |@tup a xs ds q hs=>cases (show _=Value.ref a from r');obtain⟨its,rv,pl,_⟩:=I.tuple q;exact SeqAt.EqAt.str_tuple x tx pl (cC hu)
 |_,_,.lst (a:=b) hq hs,_,_,h',_,_,r,r',A,hu=>by
  cases (show _=Value.ref b from r)
  obtain⟨gb,rb,dm,_⟩:=I.list hq
  cases h' with
  |non=>cases (show _=Value.none from r');exact SeqAt.EqAt.list_none dm.isList (cC hu)
  |bl y=>cases (show _=Value.bool y from r');exact SeqAt.EqAt.list_bool y dm.isList (cC hu)
  |int y=>obtain⟨t,e⟩:=(show ∃t,_=Value.int y t from r');subst e;exact SeqAt.EqAt.list_int y t dm.isList (cC hu)
  |str y=>obtain⟨t,e⟩:=(show ∃t,_=Value.str y t from r');subst e;exact SeqAt.EqAt.list_str y t dm.isList (cC hu)
  |@tup a xs ds q ks=>cases (show _=Value.ref a from r');obtain⟨its,rv,pl,_⟩:=I.tuple q;exact SeqAt.EqAt.list_tuple dm.isList pl (cC hu)
  |@lst a xs ds q ks =>
   cases (show _=Value.ref a from r')
   by_cases e:b=a
   ·subst e
    cases I.uB hq q
    rw[bF.unique I ks hs]
    simp only[PyData.eqv];rw[bF.refl hs];exact pJ _
   ·obtain⟨its,rv,pl,_⟩:=I.list q
    have n1:=rb.length;have n2:=rv.length;have n3:=bF.length hs;have n4:=bF.length ks
    simp only[PyData.eqv]
    have he:∀j (j1:j<gb.toArray.size) (j2:j<its.toArray.size),SeqAt.EqAt A.in1 s gb.toArray[j] its.toArray[j] (SeqAt.pairEq _ _ j):=fun j j1 j2=>by
     have z:=bF.kx I hs ks rb rv (A:=A.in1) (wX hu) j (by simpa using j1) (by simpa using j2)
     simpa using z
    refine SeqAt.EqAt.of_refs e ?_
    by_cases hsz:gb.toArray.size=its.toArray.size
    ·rw[←SeqAt.eqvAll_same_length (by simp at hsz;omega),show List.length _=gb.toArray.size by simp;omega]
     exact SeqAt.RcAt.lists dm.isList pl.isList hsz (cC hu) he
    ·rw[SeqAt.eqvAll_other_length (by simp at hsz;omega)]
     exact SeqAt.RcAt.lists_lengths dm.isList pl.isList (by simpa using hsz) (cC hu)
 |_,_,.tup (a:=b) hq hs,_,_,h',_,_,r,r',A,hu=>by
  cases (show _=Value.ref b from r)
  obtain⟨gb,rb,dm,_⟩:=I.tuple hq
  cases h' with
  |non=>cases (show _=Value.none from r');exact SeqAt.EqAt.tuple_none dm (cC hu)
  |bl y=>cases (show _=Value.bool y from r');exact SeqAt.EqAt.tuple_bool y dm (cC hu)
  |int y=>obtain⟨t,e⟩:=(show ∃t,_=Value.int y t from r');subst e;exact SeqAt.EqAt.tuple_int y t dm (cC hu)
  |str y=>obtain⟨t,e⟩:=(show ∃t,_=Value.str y t from r');subst e;exact SeqAt.EqAt.tuple_str y t dm (cC hu)
  |@lst a xs ds q ks=>cases (show _=Value.ref a from r');obtain⟨its,rv,pl,_⟩:=I.list q;exact SeqAt.EqAt.tuple_list dm pl.isList (cC hu)
  |@tup a xs ds q ks =>
   cases (show _=Value.ref a from r')
   by_cases e:b=a
   ·subst e
    cases I.yx hq q
    rw[bF.unique I ks hs]
    simp only[PyData.eqv];rw[bF.refl hs];exact pJ _
   ·obtain⟨its,rv,pl,_⟩:=I.tuple q
    have n1:=rb.length;have n2:=rv.length;have n3:=bF.length hs;have n4:=bF.length ks
    simp only[PyData.eqv]
    have he:∀j (j1:j<gb.toArray.size) (j2:j<its.toArray.size),SeqAt.EqAt A.in1 s gb.toArray[j] its.toArray[j] (SeqAt.pairEq _ _ j):=fun j j1 j2=>by
     have z:=bF.kx I hs ks rb rv (A:=A.in1) (wX hu) j (by simpa using j1) (by simpa using j2)
     simpa using z
    refine SeqAt.EqAt.of_refs e ?_
    rw[←SeqAt.eqvAll_eq,←n3,←n4,n1,n2]
    have z:=SeqAt.RcAt.tuples dm pl (cC hu) he
    simpa using z
theorem bF.kx{pins:List (Addr×Obj)}{σ:St}{H:Hp}{s:Shared}(I:Inv X pins σ H s):∀{vs:List V}{ds:List PyData},bF X.K H vs ds→∀{mr:List V}{mq:List PyData},bF X.K H mr mq→∀{us Bs:List Value},Vals vs us→Vals mr Bs→∀{A:Around},A.units+min (PyData.depthAll ds) (PyData.depthAll mq)<cLine →
  ∀j (h1:j<us.length) (h2:j<Bs.length),SeqAt.EqAt A s us[j] Bs[j] (SeqAt.pairEq ds mq j)
 |_,_,.nil,_,_,_,_,_,.nil,_,_,_,j,h1,_=>absurd h1 (A0 _)
 |_,_,.cons _ _,_,_,.nil,_,_,_,.nil,_,_,j,_,h2=>absurd h2 (A0 _)
 |_,_,.cons h t,_,_,.cons h' t',_,_,.cons r q,.cons r' q',A,hu,j,h1,h2=>by
  cases j with
  |zero=>exact Dn.kx I h h' r r' (SeqAt.room_head hu)
  |succ j=>exact bF.kx I t t' q q' (SeqAt.room_tail hu) j (Nat.lt_of_succ_lt_succ h1) (Nat.lt_of_succ_lt_succ h2)
end
inductive mZ:PyData→PyData→Prop
 |lst (xs ys:List PyData):mZ (.list xs) (.list ys)
 |tup (xs ys:List PyData):mZ (.tuple xs) (.tuple ys)
 |non:mZ .none .none
noncomputable def z6(K:PySem.W.Frag):R2:=fun x y H Q=>∃dx dy,Dn K H x dx∧Dn K H y dy∧mZ dx dy∧min dx.depth dy.depth≤60∧Q (.bl (PyData.eqv dx dy)) H
noncomputable def z7(K:PySem.W.Frag):R2:=fun x y H Q=>∃dx dy,Dn K H x dx∧Dn K H y dy∧mZ dx dy∧min dx.depth dy.depth≤60∧Q (.bl (!PyData.eqv dx dy)) H
theorem D6{pins:List (Addr×Obj)}{σ:St}{H:Hp}{s:Shared}(I:Inv X pins σ H s){A:Around}{x y:V}{u u':Value}{dx dy:PyData}(hx:Dn X.K H x dx)(hy:Dn X.K H y dy)(l:mZ dx dy)(rx:RelV x u)(ry:RelV y u')(hu:A.units+min dx.depth dy.depth<cLine) :
  SeqAt.RcAt A s u u' (PyData.eqv dx dy)∧SeqAt.RcNeAt A s u u' (!PyData.eqv dx dy):=by
 cases l with
 |non =>
  cases hx;cases hy
  cases (show u=Value.none from rx)
  cases (show u'=Value.none from ry)
  exact⟨SeqAt.RcAt.none_none,SeqAt.RcNeAt.none_none⟩
 |lst ds es =>
  cases hx with
  |@lst b _ _ hq hs =>
  cases hy with
  |@lst a _ _ q ks =>
   cases (show u=Value.ref b from rx)
   cases (show u'=Value.ref a from ry)
   obtain⟨gb,rb,dm,_⟩:=I.list hq
   obtain⟨its,rv,pl,_⟩:=I.list q
   have n1:=rb.length;have n2:=rv.length;have n3:=bF.length hs;have n4:=bF.length ks
   simp only[PyData.eqv]
   have he:∀j (j1:j<gb.toArray.size) (j2:j<its.toArray.size),SeqAt.EqAt A.in1 s gb.toArray[j] its.toArray[j] (SeqAt.pairEq ds es j):=fun j j1 j2=>by
    have z:=bF.kx I hs ks rb rv (A:=A.in1) (wX hu) j (by simpa using j1) (by simpa using j2)
    simpa using z
   by_cases hsz:gb.toArray.size=its.toArray.size
   ·have e:ds.length=gb.toArray.size:=by simp;omega
    rw[←SeqAt.eqvAll_same_length (show ds.length=es.length by simp at hsz;omega),e]
    exact⟨SeqAt.RcAt.lists dm.isList pl.isList hsz (cC hu) he,SeqAt.RcNeAt.lists dm.isList pl.isList hsz (cC hu) he⟩
   ·rw[SeqAt.eqvAll_other_length (show ds.length≠es.length by simp at hsz;omega)]
    exact⟨SeqAt.RcAt.lists_lengths dm.isList pl.isList (by simpa using hsz) (cC hu),SeqAt.RcNeAt.lists_lengths dm.isList pl.isList (by simpa using hsz) (cC hu)⟩
 |tup ds es =>
  cases hx with
  |@tup b _ _ hq hs =>
  cases hy with
  |@tup a _ _ q ks =>
   cases (show u=Value.ref b from rx)
   cases (show u'=Value.ref a from ry)
   obtain⟨gb,rb,dm,_⟩:=I.tuple hq
   obtain⟨its,rv,pl,_⟩:=I.tuple q
   have n1:=rb.length;have n2:=rv.length;have n3:=bF.length hs;have n4:=bF.length ks
   simp only[PyData.eqv]
   have he:∀j (j1:j<gb.toArray.size) (j2:j<its.toArray.size),SeqAt.EqAt A.in1 s gb.toArray[j] its.toArray[j] (SeqAt.pairEq ds es j):=fun j j1 j2=>by
    have z:=bF.kx I hs ks rb rv (A:=A.in1) (wX hu) j (by simpa using j1) (by simpa using j2)
    simpa using z
   have z1:=SeqAt.RcAt.tuples dm pl (cC hu) he
   have z2:=SeqAt.RcNeAt.tuples dm pl (cC hu) he
   rw[←SeqAt.eqvAll_eq ds es,←n3,←n4,n1,n2]
   exact⟨by simpa using z1,by simpa using z2⟩
theorem R8(hu:X.A.units+64<cLine):bz X (compareOp .Eq) (z6 X.K):=by
 intro pins s σ H x y v u Q I rx ry h
 obtain⟨dx,dy,hx,hy,l,hd,q⟩:=h
 exact(D6 I hx hy l rx ry (A:=X.A) (by omega)).1 X.prog X.w X.xe _ ⟨.bl _,H,I,rfl,q⟩
theorem R9(hu:X.A.units+64<cLine):bz X (compareOp .NotEq) (z7 X.K):=by
 intro pins s σ H x y v u Q I rx ry h
 obtain⟨dx,dy,hx,hy,l,hd,q⟩:=h
 exact(D6 I hx hy l rx ry (A:=X.A) (by omega)).2 X.prog X.w X.xe _ ⟨.bl _,H,I,rfl,q⟩
end
def vy(D:Addr)(H H':Hp):Prop:=∀b o,b≠D→H b=some o→H' b=some o
theorem vy.trans{D:Addr}{H H1 H2:Hp}(a:vy D H H1)(b:vy D H1 H2):vy D H H2:=fun c o h e=>b c o h (a c o h e)
section
variable {X:Cx}{K:PySem.W.Frag}
theorem uM(h:X.K=K):jM X (pX K):=by subst h;exact RQ
theorem L1(h:X.K=K):bz X (compareOp .In) (Be K false):=by subst h;exact Mu
theorem MB(h:X.K=K):gp X (.builtin "len") (fun xs H Q=>∃x n,xs=[x]∧zS K x H n∧Q (.int n) H):=by subst h;exact NC
theorem MC{a:Expr}{ta:TE}(h:X.K=K)(ha:PE X a ta)(he:∀whole,isTrue a X.env whole=(do let v ←whole;standAt a.pos;holding [v] (truthy v))):PT X a (fun σ H Q=>ta σ H fun x H'=>∃k,vX K x H' k∧Q k H'):=by subst h;exact Nz ha he
theorem NV{tg l:Expr}{tl:TE}(h:X.K=K)(hl:PE X l tl):PI X tg l (zC K tl):=by subst h;exact Pb hl
end
end L2
namespace My
open PySem PySem.Spec PyProof.Rows L2
theorem aB.none{H H':Hp}{p:Addr}(s:aB H H')(h:H' p=none):H p=none:=s.free h
theorem VJ{σ:L2.St}{H:Hp}{A B:Hp→Prop}(h:A H):v7 σ H fun b H3=>if b=true then A H3 else B H3:=by
 show if true=true then A H else B H
 exact VG h
theorem Paired.at{α β:Type}{F:α→β→Prop}:∀{l:List α}{m:List β},Paired F l m→∀{i:Nat}{b:β},m[i]?=some b→∃a,l[i]?=some a∧F a b
 |_,_,.nil,_,_,h=>by simp at h
 |_,_,.cons r t,0,_,h=>by simp at h;subst h;exact⟨_,rfl,r⟩
 |_,_,.cons r t,i+1,b,h=>by
  obtain⟨a,e,q⟩:=Paired.at t (i:=i) (b:=b) (by simpa using h)
  exact⟨a,by simpa using e,q⟩
inductive Rw where
 |reckon (x s:Str) (a b:Key)|copy (x:Str) (a:Key)|say (a:Key)|go (n:Int)|part (a:Key) (n:Int)|fin
noncomputable def Rw.vs:Rw→List V
 |.reckon x s a b=>[.str "reckon",.str x,.str s,kV a,kV b]
 |.copy x a=>[.str "copy",.str x,kV a]
 |.say a=>[.str "say",kV a]
 |.go n=>[.str "go",.int n]
 |.part a n=>[.str "part",kV a,.int n]
 |.fin=>[.str "end"]
noncomputable def Rw.word:Rw→Str
 |.reckon .. => "reckon" |.copy .. => "copy" |.say _ => "say" |.go _ => "go" |.part .. => "part" |.fin => "end"
noncomputable def Rw.rk:Rw→Option (List Key)
 |.reckon _ s a b=>some [.inr s,a,b]|_=>none
theorem n1:¬(("copy" : Str) = "reckon"):=by decide +kernel
theorem n2:¬(("say" : Str) = "reckon"):=by decide +kernel
theorem n3:¬(("go" : Str) = "reckon"):=by decide +kernel
theorem n4:¬(("part" : Str) = "reckon"):=by decide +kernel
theorem take_snoc{α:Type}{l:List α}{i:Nat}{x:α}(h:l[i]?=some x):l.take (i+1)=l.take i++[x]:=by
 rw[List.take_add_one,h];rfl
structure Df (K:PySem.W.Frag)(mg:Str→Option Value)(x:Str)(st:Stmt)(ps:List Str)(f:Addr)(fd:FuncData):Prop where
 mg:mg x=some (.ref f)
 fn:pZ K x x st f fd
 bd:Binds K fd ps []
end My
namespace L2
open PySem PySem.Spec PyProof.Rows
noncomputable def xB(z:Str):It:=⟨fun i _=>i<z.cps.size,fun i H x H'=>H'=H∧∃c,z.cps[i]?=some c∧x=.str ⟨#[c]⟩,fun i _=>z.cps.size≤i⟩
theorem NW {P:Program}{w:World}{K:PySem.W.Frag}{tg:Expr} (it:Addr) (x:Str) (t:Tok) (ty:String) (jO:ty = "str_ascii_iterator" ∨ ty = "str_iterator"):Turn P w K tg (xB x) [it] it (fun i h=>h.IsStrIter it ty x t i) where
 mem:=by simp
 obj:=fun i h st b hb=>by
  have e:b=it:=by simpa using hb
  subst e
  obtain⟨o,e,c,d⟩:=st
  exact⟨o,e,fun v z=>by rw[d]at z;cases z⟩
 keep:=fun i h h' st k=>by obtain⟨o,e,r⟩:=st;exact⟨o,k it (by simp) o e,r⟩
 item:=by
  intro X hP hw hK hc i pins s σ H E I hf st hg
  subst hP hw hK
  have hi:i<x.cps.size:=hg
  obtain⟨f0,f1,f2,f3,f4,f5⟩:=hf it (by simp)
  have fin:∀h',h'.IsStrIter it ty x t (i+1)→Heap.SameBut it s.heap h'→∃u,some (Value.str ⟨#[x.cps[i]]⟩ s.toks)=some u ∧
    wpAny (model X.prog X.w) X.A (letOwnedTupleGo tg (.ref it) u) (fun _ s2=>∃y H',Inv X pins σ H' s2∧RelV y u∧(xB x).ib i H y H'∧s2.heap.IsStrIter it ty x t (i+1)∧∀b∈[it],H' b=none) E { s with heap:=h',toks:=s.toks+1 }:=fun h' gA sb=>by
   have I1:Inv X pins σ H { s with heap:=h',toks:=s.toks+1 }:=I.turned (fun b o hb e=>(sb.2 b hb).trans e) f0 f1 f3 f4 f5
   obtain⟨o,e,c,d⟩:=id gA
   refine⟨_,rfl,qV (s:={ s with heap:=h',toks:=s.toks+1 }) e c d (by rcases jO with q|q<;>(rw[q];decide)) ⟨.str ⟨#[x.cps[i]]⟩,H,I1,⟨_,rfl⟩,⟨rfl,x.cps[i],by simp[hi],rfl⟩,gA,fun b hb=>(hf b hb).1⟩⟩
  rcases jO with q|q
  ·subst q;exact wpAny_pyNext_ascii_item st (c:=x.cps[i]) (by simp[hi]) fin
  ·subst q;exact wpAny_pyNext_wide_item st (c:=x.cps[i]) (by simp[hi]) fin
 done:=by
  intro X hP hw hK hc i pins s σ H E I hf st hg
  subst hP hw hK
  have hi:x.cps.size≤i:=hg
  obtain⟨f0,f1,f2,f3,f4,f5⟩:=hf it (by simp)
  have fin:∀h',Heap.ExtBut it s.heap h'→(none:Option Value)=none∧Inv X pins σ H { s with heap:=h' }:=fun h' eb=>⟨rfl,I.turned (t':=s.toks) (fun b o hb e=>eb b o hb e) f0 f1 f3 f4 f5⟩
  rcases jO with q|q
  ·subst q;exact wpAny_pyNext_ascii_end (I.ok.hd hc) st (by simp[hi]) fin
  ·subst q;exact wpAny_pyNext_wide_end (I.ok.hd hc) st (by simp[hi]) fin
 self:=fun _ _ _ _ _ st h=>by
  rcases jO with q|q
  ·subst q;exact wpAny_pyIter_striter_ascii st h
  ·subst q;exact wpAny_pyIter_striter_wide st h
section
variable {X:Cx}{tg:Expr}
noncomputable def Ie(tl:TE):TI:=fun σ H R=>tl σ H fun x H1=>∃z,x=.str z∧R (xB z) H1
theorem Sb{l:Expr}{tl:TE}(hl:PE X l tl):PI X tg l (Ie tl):=by
 intro pins s σ H R I h
 refine aD (hl pins s σ H _ I h) fun v s1 ⟨x,H1,I1,r1,q1⟩=>?_
 obtain⟨z,e,q⟩:=q1
 subst e
 obtain⟨t,e⟩:=(show ∃t,v=Value.str z t from r1)
 subst e
 have jO:strIterType z = "str_ascii_iterator" ∨ strIterType z = "str_iterator" := by unfold strIterType;split<;>simp
 refine wpAny_pyIter_strU ?_
 refine⟨s1.heap.objs.size,[s1.heap.objs.size],_,_,H1,rfl,I1.kept (t':=s1.toks) fun b o e=>cA _ e,NW s1.heap.objs.size z t _ jO,⟨_,eU _ rfl,rfl,rfl⟩,fun b hb=>?_,q⟩
 have e:b=s1.heap.objs.size:=by simpa using hb
 subst e
 exact I1.mX (aR _) (I1.aA.fresh (aR _))
theorem Sd:kU X (fun x lo hi H Q=>∃z:Str,x=.str z∧z.length≤sizeLine∧Q (.str (Txt.slice z lo hi)) H):=by
 intro pins s σ H x v vl vu lo hi sl Q I rx hs pl pu h
 obtain⟨z,rfl,hz,q⟩:=h
 obtain⟨t,e⟩:=(show ∃t,v=Value.str z t from rx)
 subst e
 have fin:∀t' k,EP X pins σ Q (.str (Txt.slice z lo hi) t') { s with toks:=k }:=fun t' k=>⟨.str (Txt.slice z lo hi),H,I.tok k,⟨_,rfl⟩,q⟩
 refine⟨"str",_,F.slot_str_getitem.lookup,typeIs_str _ _ _,?_⟩
 cases pl with
 |none =>
  cases pu with
  |none=>exact wY (l:=none) (u:=none) (st:=none) hs rfl (wZ ⟨bS (w4 z _ _) hz,fin⟩)
  |int j tj=>exact wY (l:=none) (u:=some (j,tj)) (st:=none) hs rfl (wZ ⟨bS (w4 z _ _) hz,fin⟩)
 |int i ti =>
  cases pu with
  |none=>exact wY (l:=some (i,ti)) (u:=none) (st:=none) hs rfl (wZ ⟨bS (w4 z _ _) hz,fin⟩)
  |int j tj=>exact wY (l:=some (i,ti)) (u:=some (j,tj)) (st:=none) hs rfl (wZ ⟨bS (w4 z _ _) hz,fin⟩)
theorem NX{prog:Program}{w:World}{A:Around}{E:Value→Shared→Prop}{s:Shared}{t b:Addr}{ws:List Value}{Q:Value→Shared→Prop}(ht:IsTup s.heap t ([]:List Value).toArray)(hb:IsTup s.heap b ws.toArray)(h:Q (.ref b) s):wpAny (model prog w) A (binaryOp .Add (.ref t) (.ref b)) Q E s:=by
 obtain⟨⟨c1,d1,Y3,nP⟩,ho,hc,n,hd⟩:=id ht;obtain⟨⟨c2,d2,Y4,pW⟩,jL,mh,n2,hd2⟩:=id hb
 simp only at hc hd mh hd2;subst hc hd mh hd2
 exact wO ⟨_,ho,rfl⟩ ⟨_,jL,rfl⟩ AI seq_tuple_add AJ AK (AO _ _) (tuple_addW0 t b ([]:List Value).toArray ws.toArray n n2 d1 d2 nP pW (by simp)) ⟨ho,jL,h⟩
theorem Ld{prog:Program}{w:World}{A:Around}{E:Value→Shared→Prop}{s:Shared}{t sl:Addr}{items:Array Value}{vl vu:Value}{lo hi:Option Int}{Q:Value→Shared→Prop}(ht:IsTup s.heap t items)(hs:s.heap.IsSliceOf sl vl vu .none)(pl:IsPart vl lo)(pu:IsPart vu hi)
  (h0:HT.aS items.size 0 lo=0) (h1:HT.aS items.size items.size hi=items.size) (h:Q (.ref t) s):wpAny (model prog w) A (getItem (.ref t) (.ref sl)) Q E s:=by
 obtain⟨os,nJ,fN,sY⟩:=id hs;have Bd:s.TypeIs (.ref sl) "slice" := ⟨os,nJ,fN⟩
 unfold getItem;try with_reducible refine lS ?_
 first|refine aw (aO ?_)|skip
 refine aw (wpAny_sequenceKey ht.typeIs (by decide) ?_);refine aw (wQ (name:=Str.ofString "__getitem__") ht.typeIs pK (ny pK ht.typeIs entry_tuple_getitem ?_ (args_tuple_getitem _ _)))
 show wpAny _ _ (Builtin.Tuple.tupleItemsOf (.ref t) >>= _) _ _ s;refine aw (tupleItemsOf_ ht ?_);refine aw (wpAny_typeOf Bd ?_)
 rw[if_pos (by decide)];refine aw (HT.CJ hs pl pu ?_)
 show wpAny _ _ (if (((HT.aS items.size 0 lo:Nat):Int)==0&&(1:Int)==1&&(HT.aS items.size items.size hi-HT.aS items.size 0 lo)==items.size)=true then _ else _) _ _ s
 rw[if_pos (by rw[h0,h1];simp)]
 refine aw ?_;unfold Builtin.Tuple.tupleIsExact;refine aw (wpAny_typeOf ht.typeIs ?_)
 refine aO ?_;rw[if_pos (by decide)]
 first
  |exact aw (wpAny_rule (aO ⟨_,rfl,aO h⟩))
  |exact aw (wpAny_rule (aw (aO (aO ⟨_,rfl,aO h⟩))))
  |exact aw (aw (wpAny_rule (aO (aO ⟨_,rfl,aO h⟩))))
end
section
variable {X:Cx}{pins:List (Addr×Obj)}{σ:St}{H:Hp}{s:Shared}{A:Around}{E:Value→Shared→Prop}
def qF(H:Hp)(ys:List V)(ps:List (Key×V)):Prop:=Paired (fun(v:V) (kv:Key×V)=>∃a,v=.ref a∧H a=some (.tup [kV kv.1,kv.2])) ys ps
theorem qF.at{ys:List V}{ps:List (Key×V)}(h:qF H ys ps):∀{i:Nat},i<ys.length→∃a kv,ys[i]?=some (.ref a)∧ps[i]?=some kv∧H a=some (.tup [kV kv.1,kv.2]):=by
 induction h with
 |nil=>intro i hi;exact absurd hi (A0 i)
 |@cons v kv ys ps hv t ih =>
  intro i hi
  cases i with
  |zero=>obtain⟨a,rfl,ha⟩:=hv;exact⟨a,kv,rfl,rfl,ha⟩
  |succ i=>exact ih (by simpa using hi)
theorem qF.put{ys:List V}{ps:List (Key×V)}{d:Addr}{kvs VL:List (Key×V)}(h:qF H ys ps)(hd:H d=some (.dK kvs)):qF (upd H d (.dK VL)) ys ps:=by
 induction h with
 |nil=>exact .nil
 |@cons v kv ys ps hv t ih =>
  obtain⟨a,rfl,ha⟩:=hv
  refine .cons ⟨a,rfl,?_⟩ ih
  rw[az (fun z=>by rw[z,hd]at ha;cases ha)];exact ha
end
end L2
set_option maxHeartbeats 4000000
namespace J
open PySem L2
inductive D where
 |non|bl (b:Bool)|int (i:Int)|str (x:Str)|ty (n:String)
 |tup (ds:List D)|lst (ds:List D)|dk (ks:List (Key×D))|dt (ks:List (List Key×D))
mutual
noncomputable def D.bG:D→Bool
 |.tup ds=>D.bH ds
 |.lst _=>false
 |.dk _=>false
 |.dt _=>false
 |.non=>true
 |.bl _=>true
 |.int _=>true
 |.str _=>true
 |.ty _=>true
noncomputable def D.bH:List D→Bool
 |[]=>true
 |d::ds=>d.bG&&D.bH ds
end
def xC(K:PySem.W.Frag)(a:Addr)(xs:List V):Prop:=∃(o:Obj) (its:Array Value) (n:Nat),K.lookup a=some o∧o.cls=.type "list" ∧ o.dict=none∧o.data=.seq its n∧its.size≤sizeLine∧Vals xs its.toList
mutual
inductive Rp (K:PySem.W.Frag)(N:Addr→Prop)(H:Hp):V→D→Prop
 |non:Rp K N H .non .non
 |bl (b:Bool):Rp K N H (.bl b) (.bl b)
 |int (i:Int):Rp K N H (.int i) (.int i)
 |str (x:Str):Rp K N H (.str x) (.str x)
 |ty (n:String):Rp K N H (.ty n) (.ty n)
 |tup {a:Addr}{xs:List V}{ds:List D}:bh K H a xs→aq K N H xs ds→Rp K N H (.ref a) (.tup ds)
 |lst {a:Addr}{xs:List V}{ds:List D}:Rd H a (.lst xs)→N a→aq K N H xs ds→Rp K N H (.ref a) (.lst ds)
 |lstK {a:Addr}{xs:List V}{ds:List D}:xC K a xs→aq K N H xs ds→Rp K N H (.ref a) (.lst ds)
 |dk {a:Addr}{kvs:List (Key×V)}{ks:List (Key×D)}:Rd H a (.dK kvs)→N a→kvs.map (·.1)=ks.map (·.1)→aq K N H (kvs.map (·.2)) (ks.map (·.2))→Rp K N H (.ref a) (.dk ks)
 |dt {a:Addr}{kvs:List (List Key×V)}{ks:List (List Key×D)}:Rd H a (.dT kvs)→N a→kvs.map (·.1)=ks.map (·.1)→aq K N H (kvs.map (·.2)) (ks.map (·.2))→Rp K N H (.ref a) (.dt ks)
inductive aq (K:PySem.W.Frag)(N:Addr→Prop)(H:Hp):List V→List D→Prop
 |nil:aq K N H [] []
 |cons {v:V}{d:D}{vs:List V}{ds:List D}:Rp K N H v d→aq K N H vs ds→aq K N H (v::vs) (d::ds)
end
noncomputable def fP:HO→Prop
 |.tup _=>True
 |.aL _ (.tup _)=>True
 |_=>False
def Keeps(N:Addr→Prop)(H H':Hp):Prop:=∀a o,H a=some o→(N a∨fP o)→H' a=some o
section
variable {K:PySem.W.Frag}{N N':Addr→Prop}{H H':Hp}
theorem Keeps.same(s:aB H H'):Keeps N H H':=fun a o e _=>s a o e
theorem Keeps.sq{a:Addr}{xs:List V}(k:Keeps N H H')(h:bh K H a xs):bh K H' a xs:=by
 rcases h with h|h
 ·exact .inl (k _ _ h (.inr trivial))
 ·exact .inr h
theorem Keeps.rd{a:Addr}{u:HO}(k:Keeps N H H')(n:N a)(h:Rd H a u):Rd H' a u:=by
 rcases h with h|⟨o,h⟩
 ·exact .inl (k _ _ h (.inl n))
 ·exact .inr ⟨o,k _ _ h (.inl n)⟩
mutual
theorem Rp.keep(k:Keeps N H H'):∀{v:V}{d:D},Rp K N H v d→Rp K N H' v d
 |_,_,.non=>.non
 |_,_,.bl b=>.bl b
 |_,_,.int i=>.int i
 |_,_,.str x=>.str x
 |_,_,.ty n=>.ty n
 |_,_,.tup h r=>.tup (k.sq h) (aq.keep k r)
 |_,_,.lst h n r=>.lst (k.rd n h) n (aq.keep k r)
 |_,_,.lstK h r=>.lstK h (aq.keep k r)
 |_,_,.dk h n e r=>.dk (k.rd n h) n e (aq.keep k r)
 |_,_,.dt h n e r=>.dt (k.rd n h) n e (aq.keep k r)
theorem aq.keep(k:Keeps N H H'):∀{vs:List V}{ds:List D},aq K N H vs ds→aq K N H' vs ds
 |_,_,.nil=>.nil
 |_,_,.cons h r=>.cons (Rp.keep k h) (aq.keep k r)
end
theorem Rd.some{a:Addr}{u:HO}(h:Rd H a u):∃o,H a=some o:=by
 rcases h with h|⟨o,h⟩
 ·exact⟨_,h⟩
 ·exact⟨_,h⟩
mutual
theorem Rp.wk(w:∀a,N a→(∃o,H a=some o)→N' a):∀{v:V}{d:D},Rp K N H v d→Rp K N' H v d
 |_,_,.non=>.non
 |_,_,.bl b=>.bl b
 |_,_,.int i=>.int i
 |_,_,.str x=>.str x
 |_,_,.ty n=>.ty n
 |_,_,.tup h r=>.tup h (aq.wk w r)
 |_,_,.lst h n r=>.lst h (w _ n (Rd.some h)) (aq.wk w r)
 |_,_,.lstK h r=>.lstK h (aq.wk w r)
 |_,_,.dk h n e r=>.dk h (w _ n (Rd.some h)) e (aq.wk w r)
 |_,_,.dt h n e r=>.dt h (w _ n (Rd.some h)) e (aq.wk w r)
theorem aq.wk(w:∀a,N a→(∃o,H a=some o)→N' a):∀{vs:List V}{ds:List D},aq K N H vs ds→aq K N' H vs ds
 |_,_,.nil=>.nil
 |_,_,.cons h r=>.cons (Rp.wk w h) (aq.wk w r)
end
mutual
theorem Rp.im:∀{v:V}{d:D},d.bG=true→Rp K N H v d→Rp K N' H v d
 |_,_,_,.non=>.non
 |_,_,_,.bl b=>.bl b
 |_,_,_,.int i=>.int i
 |_,_,_,.str x=>.str x
 |_,_,_,.ty n=>.ty n
 |_,.tup ds,e,.tup h r=>.tup h (aq.im (by simpa only[D.bG]using e) r)
 |_,.lst ds,e,.lst h n r=>by simp[D.bG]at e
 |_,.lst ds,e,.lstK h r=>by simp[D.bG]at e
 |_,.dk ds,e,.dk h n _ r=>by simp[D.bG]at e
 |_,.dt ds,e,.dt h n _ r=>by simp[D.bG]at e
theorem aq.im:∀{vs:List V}{ds:List D},D.bH ds=true→aq K N H vs ds→aq K N' H vs ds
 |_,_,_,.nil=>.nil
 |_,d::ds,e,.cons h r=>by
  have e':d.bG=true∧D.bH ds=true:=by simpa[D.bH]using e
  exact .cons (Rp.im e'.1 h) (aq.im e'.2 r)
end
theorem aq.paired:∀{vs:List V}{ds:List D},aq K N H vs ds→Paired (fun d v=>Rp K N H v d) ds vs
 |_,_,.nil=>.nil
 |_,_,.cons h r=>.cons h (aq.paired r)
theorem aq.of:∀{ds:List D}{vs:List V},Paired (fun d v=>Rp K N H v d) ds vs→aq K N H vs ds
 |_,_,.nil=>.nil
 |_,_,.cons h r=>.cons h (aq.of r)
theorem aq.len{vs:List V}{ds:List D}(r:aq K N H vs ds):vs.length=ds.length:=(cK r.paired).symm
theorem aq.get:∀{vs:List V}{ds:List D}{i:Nat}{d:D},aq K N H vs ds→ds[i]?=some d→∃v,vs[i]?=some v∧Rp K N H v d
 |_,_,_,_,.nil,e=>by simp at e
 |_,_,0,_,.cons h _,e=>by simp at e;subst e;exact⟨_,rfl,h⟩
 |_,_,i+1,d,.cons _ r,e=>by
  obtain⟨v,h1,h2⟩:=aq.get (i:=i) (d:=d) r (by simpa using e)
  exact⟨v,by simpa using h1,h2⟩
theorem aq.app:∀{vs ws:List V}{ds es:List D},aq K N H vs ds→aq K N H ws es→aq K N H (vs++ws) (ds++es)
 |_,_,_,_,.nil,s=>s
 |_,_,_,_,.cons h r,s=>.cons h (aq.app r s)
theorem aq.set{v:V}{d:D}(q:Rp K N H v d):∀{vs:List V}{ds:List D} (i:Nat),aq K N H vs ds→aq K N H (vs.set i v) (ds.set i d)
 |_,_,_,.nil=>.nil
 |_,_,0,.cons _ t=>.cons q t
 |_,_,i+1,.cons h t=>.cons h (aq.set q i t)
theorem aq.take:∀{vs:List V}{ds:List D} (n:Nat),aq K N H vs ds→aq K N H (vs.take n) (ds.take n)
 |_,_,0,_=>.nil
 |_,_,_+1,.nil=>.nil
 |_,_,n+1,.cons r t=>.cons r (aq.take n t)
theorem aq.drop:∀{vs:List V}{ds:List D} (n:Nat),aq K N H vs ds→aq K N H (vs.drop n) (ds.drop n)
 |_,_,0,r=>r
 |_,_,_+1,.nil=>.nil
 |_,_,n+1,.cons _ t=>aq.drop n t
theorem aq.dl{vs:List V}{ds:List D}(h:aq K N H vs ds):aq K N H vs.dropLast ds.dropLast:=by
 rw[List.dropLast_eq_take,List.dropLast_eq_take,h.len]
 exact h.take _
theorem aq.rep:∀{vs:List V}{ds:List D} (n:Nat),aq K N H vs ds→aq K N H (List.replicate n vs).flatten (List.replicate n ds).flatten
 |_,_,0,_=>.nil
 |_,_,n+1,h=>by
  rw[wR,wR,wU,wU]
  exact h.app (aq.rep n h)
theorem aq.aX{vs:List V}{ds:List D}{i:Int}{d:D}(r:aq K N H vs ds)(e:L2.aX ds i=some d):∃v,L2.aX vs i=some v∧Rp K N H v d:=by
 unfold L2.aX at e ⊢
 rw[r.len]
 cases q:dF ds.length i with
 |none=>rw[q]at e;cases e
 |some j =>
  rw[q]at e
  exact r.get e
end
inductive M where|al|fr|un|bo|bi|rb|nb|ut
 deriving DecidableEq
noncomputable abbrev Ev:=List (Option (M×D))
noncomputable def Cell(K:PySem.W.Frag)(N:Addr→Prop)(H:Hp)(p:Addr):D→Prop
 |.lst ds=>∃xs,H p=some (.lst xs)∧aq K N H xs ds
 |.dk ks=>∃kvs,H p=some (.dK kvs)∧kvs.map (·.1)=ks.map (·.1)∧aq K N H (kvs.map (·.2)) (ks.map (·.2))
 |.dt ks=>∃kvs,H p=some (.dT kvs)∧kvs.map (·.1)=ks.map (·.1)∧aq K N H (kvs.map (·.2)) (ks.map (·.2))
 |_=>False
noncomputable def NM(H₀:Hp)(O:Addr→Prop):M→Addr→Prop
 |.al,a=>¬O a
 |.rb,a=>H₀ a=none
 |_,a=>¬O a∧H₀ a=none
def hU(K:PySem.W.Frag)(H₀:Hp)(O:Addr→Prop)(H:Hp)(d:D)(v:V):Prop :=
 ∃(p:Addr) (qs:List Addr) (aK:List (List D)),v=.ref p∧d=.lst (aK.map D.lst)∧O p∧H₀ p=none∧H p=some (.lst (qs.map V.ref))∧qs.Nodup∧(∀q∈qs,O q∧H₀ q=none∧q≠p) ∧
  Paired (fun q ds=>∃xs,H q=some (.lst xs)∧aq K (fun a=>¬O a∧H₀ a=none) H xs ds) qs aK
def UT(K:PySem.W.Frag)(F:Addr→Prop)(H:Hp)(d:D)(v:V):Prop:=(d.bG=true∧Rp K (fun _=>False) H v d)∨∃q,v=.ref q∧F q∧Cell K (fun _=>False) H q d
def dz(K:PySem.W.Frag)(F:Addr→Prop)(H:Hp)(d:D)(v:V):Prop:=∃a xs ds,v=.ref a∧d=.tup ds∧bh K H a xs∧Paired (UT K F H) ds xs
noncomputable def Val(K:PySem.W.Frag)(H₀:Hp)(O:Addr→Prop)(Hb H:Hp):M→D→V→Prop
 |.al,d,v=>Rp K (fun a=>¬O a) H v d
 |.fr,d,v=>Rp K (fun a=>¬O a∧H₀ a=none) H v d
 |.rb,d,v=>Rp K (fun a=>H₀ a=none) H v d
 |.un,d,v=>∃p,v=.ref p∧Hb p=none∧H₀ p=none∧¬O p∧Cell K (fun a=>(¬O a∧H₀ a=none)∧a≠p) H p d
 |.bo,d,v=>∃p,v=.ref p∧O p∧H₀ p=none∧Cell K (fun a=>¬O a∧H₀ a=none) H p d
 |.bi,d,v=>∃p,v=.ref p∧O p∧Cell K (fun a=>¬O a∧H₀ a=none) H p d
 |.nb,d,v=>hU K H₀ O H d v
 |.ut,d,v=>dz K (fun q=>Hb q=none∧H₀ q=none∧¬O q) H d v
noncomputable def aI:M→M
 |.al=>.al
 |.rb=>.rb
 |.nb=>.rb
 |_=>.fr
noncomputable abbrev HE:Hp:=fun _=>none
section
variable {K:PySem.W.Frag}{N N':Addr→Prop}{H H' H₀ Hb Jz:Hp}{O:Addr→Prop}{m:M}{d:D}{v:V}{p:Addr}
theorem Cell.keep(k:Keeps N H H')(e:H' p=H p)(h:Cell K N H p d):Cell K N H' p d:=by
 cases d<;>simp only[Cell]at h ⊢
 ·obtain⟨xs,q,r⟩:=h;exact⟨xs,e.trans q,r.keep k⟩
 ·obtain⟨xs,q,z,r⟩:=h;exact⟨xs,e.trans q,z,r.keep k⟩
 ·obtain⟨xs,q,z,r⟩:=h;exact⟨xs,e.trans q,z,r.keep k⟩
theorem Cell.some(h:Cell K N H p d):∃o,H p=some o∧¬fP o:=by
 cases d<;>simp only[Cell]at h
 ·obtain⟨xs,q,r⟩:=h;exact⟨_,q,fun z=>z⟩
 ·obtain⟨xs,q,z,r⟩:=h;exact⟨_,q,fun z=>z⟩
 ·obtain⟨xs,q,z,r⟩:=h;exact⟨_,q,fun z=>z⟩
theorem Cell.wk(w:∀a,N a→(∃o,H a=Option.some o)→N' a)(h:Cell K N H p d):Cell K N' H p d:=by
 cases d<;>simp only[Cell]at h ⊢
 ·obtain⟨xs,q,r⟩:=h;exact⟨xs,q,r.wk w⟩
 ·obtain⟨xs,q,z,r⟩:=h;exact⟨xs,q,z,r.wk w⟩
 ·obtain⟨xs,q,z,r⟩:=h;exact⟨xs,q,z,r.wk w⟩
theorem Cell.rp(n:N p)(h:Cell K N H p d):Rp K N H (.ref p) d:=by
 cases d<;>simp only[Cell]at h
 ·obtain⟨xs,q,r⟩:=h;exact .lst (.inl q) n r
 ·obtain⟨xs,q,z,r⟩:=h;exact .dk (.inl q) n z r
 ·obtain⟨xs,q,z,r⟩:=h;exact .dt (.inl q) n z r
theorem jh{F G:Addr→List D→Prop}:∀{qs:List Addr}{aK:List (List D)},(∀q ds,q∈qs→F q ds→G q ds)→Paired F qs aK→Paired G qs aK
 |_,_,_,.nil=>.nil
 |_,_,h,.cons a t=>.cons (h _ _ cM a) (jh (fun q ds m=>h q ds (cT _ m)) t)
theorem hU.keep(s:aB H H')(h:hU K H₀ O H d v):hU K H₀ O H' d v:=by
 obtain⟨p,qs,aK,e1,e2,h1,h2,h3,h4,h5,h6⟩:=h
 exact⟨p,qs,aK,e1,e2,h1,h2,s _ _ h3,h4,h5,jh (fun q ds _ ⟨xs,a,b⟩=>⟨xs,s _ _ a,b.keep (.same s)⟩) h6⟩
theorem hU.gf{F:Addr→Prop}(w:∀a,H₀ a=none→F a):∀{qs:List Addr}{aK:List (List D)},(∀q∈qs,O q∧H₀ q=none∧q≠p)→Paired (fun q ds=>∃xs,H q=some (.lst xs)∧aq K (fun a=>¬O a∧H₀ a=none) H xs ds) qs aK→aq K F H (qs.map V.ref) (aK.map D.lst)
 |_,_,_,.nil=>.nil
 |_,_,h,.cons ⟨xs,a,b⟩ t=>.cons (.lst (.inl a) (w _ (h _ cM).2.1) (b.wk fun x z _=>w x z.2)) (hU.gf w (fun q m=>h q (cT _ m)) t)
theorem hU.rp{F:Addr→Prop}(w:∀a,H₀ a=none→F a)(h:hU K H₀ O H d v):Rp K F H v d:=by
 obtain⟨p,qs,aK,rfl,rfl,h1,h2,h3,h4,h5,h6⟩:=h
 exact .lst (.inl h3) (w _ h2) (hU.gf w h5 h6)
theorem dz.keep{F:Addr→Prop}(s:aB H H')(h:dz K F H d v):dz K F H' d v:=by
 obtain⟨a,xs,ds,e1,e2,h1,h2⟩:=h
 refine⟨a,xs,ds,e1,e2,(Keeps.same (N:=fun _=>True) s).sq h1,Paired.kj h2 fun d v z=>?_⟩
 rcases z with⟨z1,z2⟩|⟨q,z1,z2,c⟩
 ·exact .inl ⟨z1,z2.keep (.same s)⟩
 ·obtain⟨o,e,_⟩:=c.some
  exact .inr ⟨q,z1,z2,c.keep (.same s) ((s _ _ e).trans e.symm)⟩
theorem dz.wk{F F':Addr→Prop}(w:∀q,F q→F' q)(h:dz K F H d v):dz K F' H d v:=by
 obtain⟨a,xs,ds,e1,e2,h1,h2⟩:=h
 exact⟨a,xs,ds,e1,e2,h1,Paired.kj h2 fun d v z=>z.imp id fun⟨q,z1,z2,c⟩=>⟨q,z1,w q z2,c⟩⟩
theorem dz.gf{F:Addr→Prop}(w:∀q,F q→N q){ds:List D}{xs:List V}(h:Paired (UT K F H) ds xs):aq K N H xs ds:=aq.of (Paired.kj h fun d v z=>by
 rcases z with⟨z1,z2⟩|⟨q,rfl,z2,c⟩
 ·exact z2.im z1
 ·exact(c.wk fun _ z _=>z.elim).rp (w q z2))
theorem dz.rp{F:Addr→Prop}(w:∀q,F q→N q)(h:dz K F H d v):Rp K N H v d:=by
 obtain⟨a,xs,ds,rfl,rfl,h1,h2⟩:=h
 exact .tup h1 (dz.gf w h2)
theorem Val.keep(s:aB H H')(h:Val K H₀ O Hb H m d v):Val K H₀ O Hb H' m d v:=by
 cases m<;>simp only[Val]at h ⊢
 ·exact h.keep (.same s)
 ·exact h.keep (.same s)
 ·obtain⟨p,e,h1,h2,h3,c⟩:=h
  obtain⟨o,q,_⟩:=c.some
  exact⟨p,e,h1,h2,h3,c.keep (.same s) ((s _ _ q).trans q.symm)⟩
 ·obtain⟨p,e,h1,h2,c⟩:=h
  obtain⟨o,q,_⟩:=c.some
  exact⟨p,e,h1,h2,c.keep (.same s) ((s _ _ q).trans q.symm)⟩
 ·obtain⟨p,e,h1,c⟩:=h
  obtain⟨o,q,_⟩:=c.some
  exact⟨p,e,h1,c.keep (.same s) ((s _ _ q).trans q.symm)⟩
 ·exact h.keep (.same s)
 ·exact h.keep s
 ·exact h.keep s
theorem Val.hb(w:∀a,Hb a=none→Jz a=none)(h:Val K H₀ O Hb H m d v):Val K H₀ O Jz H m d v:=by
 cases m<;>simp only[Val]at h ⊢
 ·exact h
 ·exact h
 ·obtain⟨p,e,h1,r⟩:=h;exact⟨p,e,w _ h1,r⟩
 ·exact h
 ·exact h
 ·exact h
 ·exact h
 ·exact h.wk fun q z=>⟨w _ z.1,z.2⟩
theorem Val.h0(h:Val K H₀ O Hb H m d v):Val K H₀ O HE H m d v:=h.hb fun _ _=>rfl
theorem Val.weak(h:Val K H₀ O Hb H m d v):Rp K (fun _=>True) H v d:=by
 cases m<;>simp only[Val]at h
 ·exact h.wk fun _ _ _=>trivial
 ·exact h.wk fun _ _ _=>trivial
 ·obtain⟨p,rfl,_,_,_,c⟩:=h;exact(c.wk fun _ _ _=>trivial).rp trivial
 ·obtain⟨p,rfl,_,_,c⟩:=h;exact(c.wk fun _ _ _=>trivial).rp trivial
 ·obtain⟨p,rfl,_,c⟩:=h;exact(c.wk fun _ _ _=>trivial).rp trivial
 ·exact h.wk fun _ _ _=>trivial
 ·exact h.rp fun _ _=>trivial
 ·exact h.rp fun _ _=>trivial
theorem Rp.int_inv{i:Int}(h:Rp K N H v (.int i)):v=.int i:=by cases h;rfl
theorem Rp.zf{b:Bool}(h:Rp K N H v (.bl b)):v=.bl b:=by cases h;rfl
theorem Rp.str_inv{x:Str}(h:Rp K N H v (.str x)):v=.str x:=by cases h;rfl
theorem Rp.EW(h:Rp K N H v .non):v=.non:=by cases h;rfl
theorem Rp.Se{n:String}(h:Rp K N H v (.ty n)):v=.ty n:=by cases h;rfl
theorem Val.int{i:Int}(h:Val K H₀ O Hb H m (.int i) v):v=.int i:=h.weak.int_inv
theorem Val.bl{b:Bool}(h:Val K H₀ O Hb H m (.bl b) v):v=.bl b:=h.weak.zf
theorem Val.str{x:Str}(h:Val K H₀ O Hb H m (.str x) v):v=.str x:=h.weak.str_inv
theorem Val.non(h:Val K H₀ O Hb H m .non v):v=.non:=h.weak.EW
theorem Val.ty{x:String}(h:Val K H₀ O Hb H m (.ty x) v):v=.ty x:=h.weak.Se
theorem Val.lst{ds:List D}(h:Val K H₀ O Hb H m (.lst ds) v):∃a xs,v=.ref a∧bw K H a xs∧aq K (NM H₀ O (aI m)) H xs ds:=by
 cases m<;>simp only[Val,Cell]at h
 ·cases h with
  |lst r n q=>exact⟨_,_,rfl,.inl r,q⟩
  |lstK r q=>exact⟨_,_,rfl,.inr r,q⟩
 ·cases h with
  |lst r n q=>exact⟨_,_,rfl,.inl r,q⟩
  |lstK r q=>exact⟨_,_,rfl,.inr r,q⟩
 ·obtain⟨p,rfl,_,_,_,xs,q,r⟩:=h;exact⟨_,_,rfl,.inl (.inl q),r.wk fun a h _=>h.1⟩
 ·obtain⟨p,rfl,_,_,xs,q,r⟩:=h;exact⟨_,_,rfl,.inl (.inl q),r⟩
 ·obtain⟨p,rfl,_,xs,q,r⟩:=h;exact⟨_,_,rfl,.inl (.inl q),r⟩
 ·cases h with
  |lst r n q=>exact⟨_,_,rfl,.inl r,q⟩
  |lstK r q=>exact⟨_,_,rfl,.inr r,q⟩
 ·obtain⟨p,qs,aK,rfl,e2,h1,h2,h3,h4,h5,h6⟩:=h
  cases e2
  exact⟨p,_,rfl,.inl (.inl h3),hU.gf (fun _ z=>z) h5 h6⟩
 ·obtain⟨_,_,_,_,e2,_⟩:=h;cases e2
theorem Val.tup{ds:List D}(h:Val K H₀ O Hb H m (.tup ds) v):∃a xs,v=.ref a∧bh K H a xs∧aq K (NM H₀ O (aI m)) H xs ds:=by
 cases m<;>simp only[Val,Cell]at h
 ·cases h with|tup r q=>exact⟨_,_,rfl,r,q⟩
 ·cases h with|tup r q=>exact⟨_,_,rfl,r,q⟩
 ·obtain⟨p,rfl,_,_,_,z⟩:=h;exact z.elim
 ·obtain⟨p,rfl,_,_,z⟩:=h;exact z.elim
 ·obtain⟨p,rfl,_,z⟩:=h;exact z.elim
 ·cases h with|tup r q=>exact⟨_,_,rfl,r,q⟩
 ·obtain⟨p,qs,aK,rfl,e2,_⟩:=h;cases e2
 ·obtain⟨a,xs,mq,rfl,e2,h1,h2⟩:=h;cases e2;exact⟨a,xs,rfl,h1,dz.gf (fun q z=>⟨z.2.2,z.2.1⟩) h2⟩
theorem Val.el{a:V}{e:D}(h:Rp K (NM H₀ O (aI m)) H a e):Val K H₀ O Hb H (aI m) e a:=by
 cases m<;>exact h
noncomputable def bO:M→D→Bool
 |.fr,_=>true
 |.un,_=>true
 |.ut,_=>true
 |_,d=>d.bG
noncomputable def gi:M→D→Bool
 |.fr,_=>true
 |.un,_=>true
 |.ut,_=>true
 |.al,_=>true
 |_,d=>d.bG
noncomputable def tG:M→D→Bool
 |.fr,_=>true
 |.un,_=>true
 |.ut,_=>true
 |.bo,_=>true
 |.rb,_=>true
 |_,d=>d.bG
theorem Val.bO(h:Val K H₀ O Hb H m d v)(e:J.bO m d=true):Rp K (fun a=>¬O a∧H₀ a=none) H v d:=by
 cases m<;>simp only[J.bO]at e
 ·exact h.weak.im e
 ·exact h
 ·obtain⟨p,rfl,_,h1,h2,c⟩:=h
  exact(c.wk fun a h _=>h.1).rp ⟨h2,h1⟩
 ·exact h.weak.im e
 ·exact h.weak.im e
 ·exact h.weak.im e
 ·exact Rp.im e h.weak
 ·exact dz.rp (fun q z=>⟨z.2.2,z.2.1⟩) h
theorem Val.gi(h:Val K H₀ O Hb H m d v)(e:J.gi m d=true):Rp K (fun a=>¬O a) H v d:=by
 cases m<;>simp only[J.gi]at e
 ·exact h
 ·exact Rp.wk (fun a h _=>h.1) (show Rp K (fun a=>¬O a∧H₀ a=none) H v d from h)
 ·exact Rp.wk (fun a h _=>h.1) (h.bO rfl)
 ·exact h.weak.im e
 ·exact h.weak.im e
 ·exact h.weak.im e
 ·exact Rp.im e h.weak
 ·exact dz.rp (fun q z=>z.2.2) h
theorem Val.tG(h:Val K H₀ O Hb H m d v)(e:J.tG m d=true):Rp K (fun a=>H₀ a=none) H v d:=by
 cases m<;>simp only[J.tG]at e
 ·exact h.weak.im e
 ·exact Rp.wk (fun a h _=>h.2) (show Rp K (fun a=>¬O a∧H₀ a=none) H v d from h)
 ·exact Rp.wk (fun a h _=>h.2) (h.bO rfl)
 ·obtain⟨p,rfl,_,h1,c⟩:=h
  exact(c.wk fun a h _=>h.2).rp h1
 ·exact h.weak.im e
 ·exact h
 ·exact Rp.im e h.weak
 ·exact dz.rp (fun q z=>z.2.1) h
end
noncomputable def ic:M→Bool
 |.un=>false
 |.rb=>false
 |.ut=>false
 |_=>true
structure cZ (K:PySem.W.Frag)(H₀:Hp)(O:Addr→Prop)(H:Hp)(σ:St)(env:Ev):Prop where
 sl:Paired (fun(e:Option (M×D)) (x:Option V)=>∀m d,e=some (m,d)→ic m=true∧∃v,x=some v∧Val K H₀ O HE H m d v) env σ
 od:∀a,O a→∃o,H a=some o
 hd:∀a o,H₀ a=some o→∃o',H a=some o'
 on:∀a o,O a→H a=some o→¬fP o
def JT(K:PySem.W.Frag)(te:TE)(f:Ev→Option (M×D)):Prop :=
 ∀H₀ O H σ env Q m d,cZ K H₀ O H σ env→f env=some (m,d)→(∀v H',aB H H'→Val K H₀ O H H' m d v→Q v H')→te σ H Q
def dW(K:PySem.W.Frag)(tt:TT)(f:Ev→Option Bool):Prop :=
 ∀H₀ O H σ env Q b,cZ K H₀ O H σ env→f env=some b→(∀H',aB H H'→Q b H')→tt σ H Q
def fh(K:PySem.W.Frag)(H₀:Hp)(O:Addr→Prop)(Hb H:Hp)(ak:List (M×D))(vs:List V):Prop:=Paired (fun md v=>Val K H₀ O Hb H md.1 md.2 v) ak vs
def gQ(K:PySem.W.Frag)(ta:TA)(f:Ev→Option (List (M×D))):Prop :=
 ∀H₀ O H σ env Q ak,cZ K H₀ O H σ env→f env=some ak→(∀vs H',aB H H'→fh K H₀ O H H' ak vs→Q vs H')→ta σ H Q
section
variable {K:PySem.W.Frag}{H H' H₀:Hp}{O:Addr→Prop}{σ:St}{env:Ev}
theorem j9{α β:Type}{F G:α→β→Prop}(h:∀a b,F a b→G a b):∀{l:List α}{r:List β},Paired F l r→Paired G l r
 |_,_,.nil=>.nil
 |_,_,.cons q t=>.cons (h _ _ q) (j9 h t)
theorem cZ.keep(R:cZ K H₀ O H σ env)(s:aB H H'):cZ K H₀ O H' σ env :=
 ⟨j9 (fun e x h m d q=>⟨(h m d q).1,let ⟨v,e,z⟩:=(h m d q).2;⟨v,e,z.keep s⟩⟩) R.sl,fun a h=>let ⟨o,q⟩:=R.od a h;⟨o,s _ _ q⟩,fun a o h=>let ⟨o,q⟩:=R.hd a o h;⟨o,s _ _ q⟩,fun a o h e=>by
  obtain⟨o',q⟩:=R.od a h
  have z:=s _ _ q
  rw[e]at z;cases z
  exact R.on a _ h q⟩
theorem z8{α β:Type}{F:α→β→Prop}:∀{l:List α}{r:List β}{i:Nat}{a:α},Paired F l r→l[i]?=some a→∃b,r[i]?=some b∧F a b
 |_,_,_,_,.nil,e=>by simp at e
 |_,_,0,_,.cons h _,e=>by simp at e;subst e;exact⟨_,rfl,h⟩
 |_,_,i+1,a,.cons _ r,e=>by
  obtain⟨v,h1,h2⟩:=z8 (i:=i) (a:=a) r (by simpa using e)
  exact⟨v,by simpa using h1,h2⟩
theorem cZ.at{i:Nat}{m:M}{d:D}(R:cZ K H₀ O H σ env)(e:env[i]?=some (some (m,d))):∃v,σ[i]?=some (some v)∧ic m=true∧Val K H₀ O HE H m d v:=by
 obtain⟨x,hx,h⟩:=z8 R.sl e
 obtain⟨h0,v,rfl,hz⟩:=h m d rfl
 exact⟨v,hx,h0,hz⟩
theorem Val.G5{m:M}{d:D}{v:V}{Hb:Hp}(n:ic m=true)(h:Val K H₀ O HE H m d v):Val K H₀ O Hb H m d v:=by
 cases m<;>first|exact h|cases n
noncomputable def jV(i:Nat):Ev→Option (M×D):=fun e=>(e[i]?).bind id
theorem Sf{i:Nat}:JT K (gq i) (jV i):=by
 intro H₀ O H σ env Q m d R h q
 unfold jV at h
 cases e:env[i]? with
 |none=>rw[e]at h;cases h
 |some x =>
  rw[e]at h
  obtain rfl:x=some (m,d):=h
  obtain⟨v,hv,n,hm⟩:=R.at e
  exact⟨v,hv,q v H (aB.refl H) (hm.G5 n)⟩
noncomputable def jC(d:D):Ev→Option (M×D):=fun _=>some (.fr,d)
noncomputable def cD:V→Option D
 |.non=>some .non
 |.bl b=>some (.bl b)
 |.int i=>some (.int i)
 |.str x=>some (.str x)
 |.ty n=>some (.ty n)
 |_=>none
theorem pf{v:V}{d:D}(e:cD v=some d):JT K (tC v) (jC d):=by
 intro H₀ O H σ env Q m d' R h q
 cases h
 refine q v H (aB.refl H) ?_
 cases v<;>simp only[cD]at e<;>cases e<;>constructor
def JR(K:PySem.W.Frag)(r:R2)(g:M×D→M×D→Option (M×D)):Prop :=
 ∀H₀ O H x y a b Q m d,(∀a,O a→∃o,H a=some o)→(∀a o,H₀ a=some o→∃o',H a=some o')→Val K H₀ O HE H (Prod.fst a) a.2 x→Val K H₀ O HE H (Prod.fst b) b.2 y→g a b=some (m,d)→(∀v H',aB H H'→Val K H₀ O H H' m d v→Q v H')→r x y H Q
noncomputable def ae(g:M×D→M×D→Option (M×D))(fa fb:Ev→Option (M×D)):Ev→Option (M×D):=fun e=>(fa e).bind fun x=>(fb e).bind fun y=>g x y
theorem vz{r:R2}{g:M×D→M×D→Option (M×D)}{ta tb:TE}{fa fb:Ev→Option (M×D)}(hr:JR K r g)(ha:JT K ta fa)(hb:JT K tb fb):JT K (lZ r ta tb) (ae g fa fb):=by
 intro H₀ O H σ env Q m d R h q
 unfold ae at h
 cases ea:fa env with
 |none=>rw[ea]at h;cases h
 |some a =>
  cases eb:fb env with
  |none=>rw[ea,eb]at h;cases h
  |some b =>
   rw[ea,eb]at h
   refine ha H₀ O H σ env _ a.1 a.2 R ea fun x H1 s1 h1=>?_
   refine hb H₀ O H1 σ env _ b.1 b.2 (R.keep s1) eb fun y H2 s2 h2=>?_
   have R2:=(R.keep s1).keep s2
   refine hr H₀ O H2 x y a b Q m d R2.od R2.hd (h1.keep s2).h0 h2.h0 h fun v H3 s3 h3=>?_
   exact q v H3 ((s1.trans s2).trans s3) (h3.hb fun a z=>(s1.trans s2).free z)
noncomputable def cQ(g:M×D→Option (M×D))(fa:Ev→Option (M×D)):Ev→Option (M×D):=fun e=>(fa e).bind g
def JU(K:PySem.W.Frag)(r:V→Hp→VK→Prop)(g:M×D→Option (M×D)):Prop :=
 ∀H₀ O H x a Q m d,(∀a,O a→∃o,H a=some o)→(∀a o,H₀ a=some o→∃o',H a=some o')→Val K H₀ O HE H (Prod.fst a) a.2 x→g a=some (m,d)→(∀v H',aB H H'→Val K H₀ O H H' m d v→Q v H')→r x H Q
theorem Ut{r:V→Hp→VK→Prop}{g:M×D→Option (M×D)}{ta:TE}{fa:Ev→Option (M×D)}(hr:JU K r g)(ha:JT K ta fa):JT K (Jo r ta) (cQ g fa):=by
 intro H₀ O H σ env Q m d R h q
 unfold cQ at h
 cases ea:fa env with
 |none=>rw[ea]at h;cases h
 |some a =>
  rw[ea]at h
  refine ha H₀ O H σ env _ a.1 a.2 R ea fun x H1 s1 h1=>?_
  have R1:=R.keep s1
  exact hr H₀ O H1 x a Q m d R1.od R1.hd h1.h0 h fun v H3 s3 h3=>q v H3 (s1.trans s3) (h3.hb fun a z=>s1.free z)
theorem kc{H:Hp}{Hb:Hp}{i:Int}:Val K H₀ O Hb H .fr (.int i) (.int i):=Rp.int i
theorem dG{H:Hp}{Hb:Hp}{i:Bool}:Val K H₀ O Hb H .fr (.bl i) (.bl i):=Rp.bl i
theorem vA{H:Hp}{Hb:Hp}{i:Str}:Val K H₀ O Hb H .fr (.str i) (.str i):=Rp.str i
noncomputable def gI(c:Int→Int→Prop)[∀i j,Decidable (c i j)](f:Int→Int→Int):M×D→M×D→Option (M×D)
 | (_,.int i),(_,.int j)=>if c i j then some (.fr,.int (f i j))else none
 |_,_=>none
noncomputable def p6(f:Int→Int→Int):M×D→M×D→Option (M×D)
 | (_,.int i),(_,.int j)=>some (.fr,.int (f i j))
 |_,_=>none
noncomputable def tH(f:Int→Int→Bool):M×D→M×D→Option (M×D)
 | (_,.int i),(_,.int j)=>some (.fr,.bl (f i j))
 |_,_=>none
theorem v9{C:Int→Int→Prop}{c:Int→Int→Prop}[∀i j,Decidable (c i j)]{f:Int→Int→Int}(w:∀i j,c i j→C i j):JR K (rI C fun i j=>.int (f i j)) (gI c f):=by
 intro H₀ O H x y a b Q m d _ _ h1 h2 h q
 obtain⟨ma,da⟩:=a;obtain⟨mb,db⟩:=b
 cases da<;>try (cases h;done)
 cases db<;>try (cases h;done)
 rename_i i j
 simp only[gI]at h
 split at h
 ·rename_i hc
  cases h
  exact⟨i,j,h1.int,h2.int,w i j hc,q _ H (aB.refl H) kc⟩
 ·cases h
theorem qY{f:Int→Int→Int}:JR K (dS fun i j=>.int (f i j)) (p6 f):=by
 intro H₀ O H x y a b Q m d _ _ h1 h2 h q
 obtain⟨ma,da⟩:=a;obtain⟨mb,db⟩:=b
 cases da<;>try (cases h;done)
 cases db<;>try (cases h;done)
 rename_i i j
 cases h
 exact⟨i,j,h1.int,h2.int,q _ H (aB.refl H) kc⟩
theorem G6{f:Int→Int→Bool}:JR K (dS fun i j=>.bl (f i j)) (tH f):=by
 intro H₀ O H x y a b Q m d _ _ h1 h2 h q
 obtain⟨ma,da⟩:=a;obtain⟨mb,db⟩:=b
 cases da<;>try (cases h;done)
 cases db<;>try (cases h;done)
 rename_i i j
 cases h
 exact⟨i,j,h1.int,h2.int,q _ H (aB.refl H) dG⟩
noncomputable def Ig:=p6 (·+·)
noncomputable def fj:=p6 (· - ·)
noncomputable def c6:=gI (fun i j=>(-18446744073709551616<i∧i<18446744073709551616)∨(-18446744073709551616<j∧j<18446744073709551616)) (· * ·)
noncomputable def aZ:=gI (fun _ j=>0<j) (· % ·)
noncomputable def m3:=gI (fun i j=>0≤j∧j≤1000000∧i.natAbs<2^64) (fun i j=>i^j.toNat)
noncomputable def VM:=gI (fun i j=>0≤j∧j≤1000000∧i.natAbs<2^64) (fun i j=>i*2^j.toNat)
noncomputable def dX:=tH (fun i j=>decide (i<j))
noncomputable def WO:=tH (fun i j=>decide (i≤j))
noncomputable def dN:=tH (fun i j=>decide (j<i))
noncomputable def WQ:=tH (fun i j=>decide (j≤i))
theorem Sg:JR K (dS fun i j=>.int (i+j)) Ig:=qY
theorem Sh:JR K (dS fun i j=>.int (i-j)) fj:=qY
theorem JA:(2:Int)^64=18446744073709551616:=by decide
theorem Si:JR K (rI rJ fun i j=>.int (i*j)) c6:=v9 fun i j h=>by
 unfold rJ;rw[JA];exact h
theorem Sj:JR K (rI (fun _ j=>0<j) fun i j=>.int (i%j)) aZ:=v9 fun _ _ h=>h
theorem Sl:JR K (rI HW fun i j=>.int (i^j.toNat)) m3:=v9 fun _ _ h=>h
theorem Uu:JR K (dS fun i j=>.bl (decide (i<j))) dX:=G6
theorem Uv:JR K (dS fun i j=>.bl (decide (j<i))) dN:=G6
noncomputable def eW:D→Option V
 |.non=>some .non
 |.bl b=>some (.bl b)
 |.int i=>some (.int i)
 |.str x=>some (.str x)
 |_=>none
theorem oP{N:Addr→Prop}{d:D}{v w:V}(h:Rp K N H v d)(e:eW d=some w):v=w:=by
 cases h<;>simp only[eW]at e<;>cases e<;>rfl
noncomputable def aQ:M×D→M×D→Option (M×D):=fun a b=>(eW a.2).bind fun x=>(eW b.2).bind fun y=>if vW x y=true then some (.fr,.bl (decide (x=y)))else none
noncomputable def b8:M×D→M×D→Option (M×D):=fun a b=>(eW a.2).bind fun x=>(eW b.2).bind fun y=>if vW x y=true then some (.fr,.bl (!decide (x=y)))else none
theorem Uw:JR K Jp aQ:=by
 intro H₀ O H x y a b Q m d _ _ h1 h2 h q
 unfold aQ at h
 cases e1:eW a.2 with
 |none=>rw[e1]at h;cases h
 |some x' =>
  cases e2:eW b.2 with
  |none=>rw[e1,e2]at h;cases h
  |some y' =>
   rw[e1,e2]at h
   obtain rfl:=oP h1.weak e1
   obtain rfl:=oP h2.weak e2
   simp only[Option.bind_some]at h
   split at h
   ·rename_i hc
    cases h
    exact⟨hc,q _ H (aB.refl H) dG⟩
   ·cases h
theorem Ux:JR K Jq b8:=by
 intro H₀ O H x y a b Q m d _ _ h1 h2 h q
 unfold b8 at h
 cases e1:eW a.2 with
 |none=>rw[e1]at h;cases h
 |some x' =>
  cases e2:eW b.2 with
  |none=>rw[e1,e2]at h;cases h
  |some y' =>
   rw[e1,e2]at h
   obtain rfl:=oP h1.weak e1
   obtain rfl:=oP h2.weak e2
   simp only[Option.bind_some]at h
   split at h
   ·rename_i hc
    cases h
    exact⟨hc,q _ H (aB.refl H) dG⟩
   ·cases h
noncomputable def jo:M×D→M×D→Option (M×D)
 | (_,.non),(_,.non)=>some (.fr,.bl true)
 | (_,_),(_,.non)=>some (.fr,.bl false)
 |_,_=>none
noncomputable def kf:M×D→M×D→Option (M×D)
 | (_,.non),(_,.non)=>some (.fr,.bl false)
 | (_,_),(_,.non)=>some (.fr,.bl true)
 |_,_=>none
theorem FZ{N:Addr→Prop}{d:D}{v:V}(h:Rp K N H v d):(v=.non↔d=.non):=by
 cases h<;>simp
theorem Sn:JR K (fun x y H Q=>y=.non∧Q (.bl (decide (x=.non))) H) jo:=by
 intro H₀ O H x y a b Q m d _ _ h1 h2 h q
 obtain⟨ma,da⟩:=a;obtain⟨mb,db⟩:=b
 have e:=FZ h1.weak
 cases db<;>try (cases da<;>cases h;done)
 refine⟨h2.non,?_⟩
 cases da<;>cases h<;>(simp only[e,reduceCtorEq,decide_true,decide_false];exact q _ H (aB.refl H) dG)
theorem PF:JR K (fun x y H Q=>y=.non∧Q (.bl (!decide (x=.non))) H) kf:=by
 intro H₀ O H x y a b Q m d _ _ h1 h2 h q
 obtain⟨ma,da⟩:=a;obtain⟨mb,db⟩:=b
 have e:=FZ h1.weak
 cases db<;>try (cases da<;>cases h;done)
 refine⟨h2.non,?_⟩
 cases da<;>cases h<;>(simp only[e,reduceCtorEq,decide_true,decide_false];exact q _ H (aB.refl H) dG)
noncomputable def aj:M×D→M×D→Option (M×D)
 | (m,.lst ds),(_,.int i)=>(aX ds i).map fun d=>(aI m,d)
 | (m,.tup ds),(_,.int i)=>(aX ds i).map fun d=>(aI m,d)
 | (_,.str z),(_,.int i)=>if z.length≤sizeLine then (aX z.cps.toList i).map fun c=>(.fr,.str ⟨#[c]⟩)else none
 |_,_=>none
theorem Uy:JR K (pX K) aj:=by
 intro H₀ O H x y a b Q m d _ _ h1 h2 h q
 obtain⟨ma,da⟩:=a;obtain⟨mb,db⟩:=b
 cases da<;>try (cases db<;>cases h;done)
 ·cases db<;>try (cases h;done)
  rename_i z i
  simp only[aj]at h
  split at h
  ·rename_i hl
   cases e:aX z.cps.toList i with
   |none=>rw[e]at h;cases h
   |some c =>
    rw[e]at h;cases h
    exact .inr (.inr ⟨z,i,c,h1.str,h2.int,hl,e,q _ H (aB.refl H) vA⟩)
  ·cases h
 ·cases db<;>try (cases h;done)
  rename_i ds i
  simp only[aj]at h
  cases e:aX ds i with
  |none=>rw[e]at h;cases h
  |some c =>
   rw[e]at h;cases h
   obtain⟨p,xs,rfl,hp,hs⟩:=h1.tup
   obtain⟨v,hv,r⟩:=hs.aX e
   exact .inr (.inl ⟨p,xs,i,v,rfl,h2.int,hp,hv,q _ H (aB.refl H) (.el r)⟩)
 ·cases db<;>try (cases h;done)
  rename_i ds i
  simp only[aj]at h
  cases e:aX ds i with
  |none=>rw[e]at h;cases h
  |some c =>
   rw[e]at h;cases h
   obtain⟨p,xs,rfl,hp,hs⟩:=h1.lst
   obtain⟨v,hv,r⟩:=hs.aX e
   exact .inl ⟨p,xs,i,v,rfl,h2.int,hp,hv,q _ H (aB.refl H) (.el r)⟩
end
section
variable {K:PySem.W.Frag}{H H' H₀:Hp}{O:Addr→Prop}{σ:St}{env:Ev}
noncomputable def fQ:M×D→Option Bool
 | (_,.bl b)=>some b
 |_=>none
theorem oB{a:M×D}{b:Bool}(h:fQ a=some b):a.2=.bl b:=by
 obtain⟨m,d⟩:=a
 cases d<;>simp only[fQ]at h<;>first | (cases h;rfl)|cases h
noncomputable def ky(fa fb:Ev→Option (M×D)):Ev→Option (M×D):=fun e=>(fa e).bind fun x=>(fQ x).bind fun b=>if b=true then fb e else some (.fr,.bl false)
noncomputable def xD(fa fb:Ev→Option (M×D)):Ev→Option (M×D):=fun e=>(fa e).bind fun x=>(fQ x).bind fun b=>if b=true then some (.fr,.bl true)else fb e
noncomputable def wa(fa:Ev→Option (M×D)):Ev→Option (M×D):=fun e=>(fa e).bind fun x=>(fQ x).bind fun b=>some (.fr,.bl (!b))
theorem ao{α β:Type}{x:Option α}{f:α→Option β}{y:β}(h:x.bind f=some y):∃a,x=some a∧f a=some y:=by
 cases x with
 |none=>cases h
 |some a=>exact⟨a,rfl,h⟩
theorem Sq{ta tb:TE}{fa fb:Ev→Option (M×D)}(ha:JT K ta fa)(hb:JT K tb fb):JT K (GO ta tb) (ky fa fb):=by
 intro H₀ O H σ env Q m d R h q
 obtain⟨a,ea,h⟩:=ao h
 obtain⟨b,eb,h⟩:=ao h
 refine ha H₀ O H σ env _ a.1 a.2 R ea fun x H1 s1 h1=>?_
 rw[oB eb]at h1
 refine⟨b,h1.bl,?_⟩
 cases b with
 |true =>
  rw[if_pos rfl]at h ⊢
  exact hb H₀ O H1 σ env _ m d (R.keep s1) h fun v H2 s2 h2=>q v H2 (s1.trans s2) (h2.hb fun a z=>s1.free z)
 |false =>
  rw[if_neg a6]at h ⊢
  cases h
  exact q _ H1 s1 dG
theorem Uz{ta tb:TE}{fa fb:Ev→Option (M×D)}(ha:JT K ta fa)(hb:JT K tb fb):JT K (HM ta tb) (xD fa fb):=by
 intro H₀ O H σ env Q m d R h q
 obtain⟨a,ea,h⟩:=ao h
 obtain⟨b,eb,h⟩:=ao h
 refine ha H₀ O H σ env _ a.1 a.2 R ea fun x H1 s1 h1=>?_
 rw[oB eb]at h1
 refine⟨b,h1.bl,?_⟩
 cases b with
 |true =>
  rw[if_pos rfl]at h ⊢
  cases h
  exact q _ H1 s1 dG
 |false =>
  rw[if_neg a6]at h ⊢
  exact hb H₀ O H1 σ env _ m d (R.keep s1) h fun v H2 s2 h2=>q v H2 (s1.trans s2) (h2.hb fun a z=>s1.free z)
theorem Sr{ta:TE}{fa:Ev→Option (M×D)}(ha:JT K ta fa):JT K (GP ta) (wa fa):=by
 intro H₀ O H σ env Q m d R h q
 obtain⟨a,ea,h⟩:=ao h
 obtain⟨b,eb,h⟩:=ao h
 cases h
 refine ha H₀ O H σ env _ a.1 a.2 R ea fun x H1 s1 h1=>?_
 rw[oB eb]at h1
 exact⟨b,h1.bl,q _ H1 s1 dG⟩
noncomputable def jB(f:Ev→Option (M×D)):Ev→Option Bool:=fun e=>(f e).bind fQ
theorem qZ{t:TE}{f:Ev→Option (M×D)}(h:JT K t f):dW K (tB t) (jB f):=by
 intro H₀ O H σ env Q b R e q
 obtain⟨a,ea,e⟩:=ao e
 refine h H₀ O H σ env _ a.1 a.2 R ea fun x H1 s1 h1=>?_
 rw[oB e]at h1
 exact⟨b,h1.bl,q H1 s1⟩
theorem D7{t:TE}{f:Ev→Option (M×D)}(h:JT K t f):dW K (zD t) (jB f):=qZ h
theorem MD{t:TE}{f:Ev→Option (M×D)}(h:JT K t f):dW K (fun σ H Q=>t σ H fun x H'=>∃k,vX K x H' k∧Q k H') (jB f):=by
 intro H₀ O H σ env Q b R e q
 obtain⟨a,ea,e⟩:=ao e
 refine h H₀ O H σ env _ a.1 a.2 R ea fun x H1 s1 h1=>?_
 rw[oB e]at h1
 exact⟨b,by rw[h1.bl];exact rfl,q H1 s1⟩
noncomputable def bR(f g:Ev→Option Bool):Ev→Option Bool:=fun e=>(f e).bind fun b=>if b=true then g e else some false
noncomputable def cE(f g:Ev→Option Bool):Ev→Option Bool:=fun e=>(f e).bind fun b=>if b=true then some true else g e
noncomputable def fm(f:Ev→Option Bool):Ev→Option Bool:=fun e=>(f e).bind fun b=>some (!b)
theorem PH{t u:TT}{f g:Ev→Option Bool}(h:dW K t f)(h':dW K u g):dW K (HK t u) (bR f g):=by
 intro H₀ O H σ env Q b R e q
 obtain⟨c,ec,e⟩:=ao e
 refine h H₀ O H σ env _ c R ec fun H1 s1=>?_
 cases c with
 |true =>
  rw[if_pos rfl]at e ⊢
  exact h' H₀ O H1 σ env _ b (R.keep s1) e fun H2 s2=>q H2 (s1.trans s2)
 |false =>
  rw[if_neg a6]at e ⊢
  cases e
  exact q H1 s1
theorem Ss{t u:TT}{f g:Ev→Option Bool}(h:dW K t f)(h':dW K u g):dW K (Jl t u) (cE f g):=by
 intro H₀ O H σ env Q b R e q
 obtain⟨c,ec,e⟩:=ao e
 refine h H₀ O H σ env _ c R ec fun H1 s1=>?_
 cases c with
 |true =>
  rw[if_pos rfl]at e ⊢
  cases e
  exact q H1 s1
 |false =>
  rw[if_neg a6]at e ⊢
  exact h' H₀ O H1 σ env _ b (R.keep s1) e fun H2 s2=>q H2 (s1.trans s2)
theorem PJ{t:TT}{f:Ev→Option Bool}(h:dW K t f):dW K (HL t) (fm f):=by
 intro H₀ O H σ env Q b R e q
 obtain⟨c,ec,e⟩:=ao e
 cases e
 exact h H₀ O H σ env _ c R ec fun H1 s1=>q H1 s1
noncomputable def ph(c:Ev→Option Bool)(fa fb:Ev→Option (M×D)):Ev→Option (M×D):=fun e=>(c e).bind fun b=>if b=true then fa e else fb e
theorem Sv{t:TT}{c:Ev→Option Bool}{ta tb:TE}{fa fb:Ev→Option (M×D)}(hc:dW K t c)(ha:JT K ta fa)(hb:JT K tb fb):JT K (Jm t ta tb) (ph c fa fb):=by
 intro H₀ O H σ env Q m d R h q
 obtain⟨b,eb,h⟩:=ao h
 refine hc H₀ O H σ env _ b R eb fun H1 s1=>?_
 cases b with
 |true =>
  rw[if_pos rfl]at h ⊢
  exact ha H₀ O H1 σ env _ m d (R.keep s1) h fun v H2 s2 h2=>q v H2 (s1.trans s2) (h2.hb fun a z=>s1.free z)
 |false =>
  rw[if_neg a6]at h ⊢
  exact hb H₀ O H1 σ env _ m d (R.keep s1) h fun v H2 s2 h2=>q v H2 (s1.trans s2) (h2.hb fun a z=>s1.free z)
noncomputable def F0(g g':M×D→M×D→Option (M×D))(fa fb fc:Ev→Option (M×D)):Ev→Option (M×D):=fun e=>(fa e).bind fun x=>(fb e).bind fun y=>(g x y).bind fun z=>(fQ z).bind fun k=>if k=true then (fc e).bind fun w=>g' y w else some (.fr,.bl false)
noncomputable def ah:Ev→Option (List (M×D)):=fun _=>some []
noncomputable def ag(f:Ev→Option (M×D))(g:Ev→Option (List (M×D))):Ev→Option (List (M×D)):=fun e=>(f e).bind fun x=>(g e).bind fun r=>some (x::r)
theorem PK:gQ K kr ah:=by
 intro H₀ O H σ env Q ak R h q
 cases h
 exact q [] H (aB.refl H) .nil
theorem NZ{te:TE}{ta:TA}{f:Ev→Option (M×D)}{g:Ev→Option (List (M×D))}(hf:JT K te f)(hg:gQ K ta g):gQ K (lG te ta) (ag f g):=by
 intro H₀ O H σ env Q ak R h q
 obtain⟨x,ex,h⟩:=ao h
 obtain⟨r,er,h⟩:=ao h
 cases h
 refine hf H₀ O H σ env _ x.1 x.2 R ex fun v H1 s1 h1=>?_
 refine hg H₀ O H1 σ env _ r (R.keep s1) er fun vs H2 s2 h2=>?_
 exact q (v::vs) H2 (s1.trans s2) (.cons (h1.keep s2) (j9 (fun _ _ z=>z.hb fun a z=>s1.free z) h2))
theorem fh.gf{N:Addr→Prop}{Hb:Hp}:∀{ak:List (M×D)}{vs:List V},(∀md∈ak,∀v,Val K H₀ O Hb H md.1 md.2 v→Rp K N H v md.2)→fh K H₀ O Hb H ak vs→aq K N H vs (ak.map (·.2))
 |_,_,_,.nil=>.nil
 |md::ak,v::vs,h,.cons a r=>.cons (h md cM v a) (fh.gf (fun x hx=>h x (cT _ hx)) r)
theorem cu{p:Addr}{o:HO}(h:H p=none):aB H (upd H p o):=fun b u e=>by rw[az (eC e h)];exact e
noncomputable def eJ(ak:List (M×D)):Option (M×D) :=
 if ak.length≤sizeLine then
  if (ak.all fun md=>bO md.1 md.2)=true then some (.un,.lst (ak.map (·.2)))
  else if (ak.all fun md=>gi md.1 md.2)=true then some (.al,.lst (ak.map (·.2)))else none
 else none
noncomputable def bI(fs:Ev→Option (List (M×D))):Ev→Option (M×D):=fun e=>(fs e).bind eJ
theorem uF{p:Addr}{xs:List V}{ds:List D}(od:∀a,O a→∃o,H a=some o)(hd:∀a o,H₀ a=some o→∃o',H a=some o')(hp:H p=none)(r:aq K (fun a=>¬O a∧H₀ a=none) H xs ds):Val K H₀ O H (upd H p (.lst xs)) .un (.lst ds) (.ref p):=by
 refine⟨p,rfl,hp,?_,?_,xs,bf,?_⟩
 ·cases e:H₀ p with
  |none=>rfl
  |some o=>obtain⟨o',e'⟩:=hd p o e;rw[hp]at e';cases e'
 ·intro z;obtain⟨o,e⟩:=od p z;rw[hp]at e;cases e
 ·refine(aq.wk (fun a h ⟨o,e⟩=>⟨h,?_⟩) r).keep (.same (cu hp))
  exact eC e hp
theorem ip{p:Addr}(od:∀a,O a→∃o,H a=some o)(hp:H p=none):¬O p:=by
 intro z;obtain⟨o,e⟩:=od p z;rw[hp]at e;cases e
theorem lC{p:Addr}(hd:∀a o,H₀ a=some o→∃o',H a=some o')(hp:H p=none):H₀ p=none:=by
 cases e:H₀ p with
 |none=>rfl
 |some o=>obtain⟨o',e'⟩:=hd p o e;rw[hp]at e';cases e'
theorem Sw{ta:TA}{fs:Ev→Option (List (M×D))}(ha:gQ K ta fs):JT K (vY ta) (bI fs):=by
 intro H₀ O H σ env Q m d R h q
 obtain⟨ak,e,h⟩:=ao h
 unfold eJ at h
 split at h
 ·rename_i hl
  refine ha H₀ O H σ env _ ak R e fun vs H1 s1 h1=>⟨by rw[←cK h1];exact hl,fun p hp=>?_⟩
  have R1:=R.keep s1
  split at h
  ·rename_i hs
   cases h
   rw[jG]at hs
   exact q _ _ (s1.trans (cu hp)) ((uF R1.od R1.hd hp (h1.gf fun md hm v hv=>hv.bO (hs md hm))).hb fun a z=>s1.free z)
  ·split at h
   ·rename_i hs
    cases h
    rw[jG]at hs
    refine q _ _ (s1.trans (cu hp)) ?_
    exact Rp.lst (.inl bf) (ip R1.od hp) ((h1.gf fun md hm v hv=>hv.gi (hs md hm)).keep (.same (cu hp)))
   ·cases h
 ·cases h
noncomputable def q8(ak:List (M×D)):Option (M×D) :=
 if ak.length≤sizeLine then
  if (ak.all fun md=>bO md.1 md.2)=true then some (.fr,.tup (ak.map (·.2)))
  else if (ak.all fun md=>gi md.1 md.2)=true then some (.al,.tup (ak.map (·.2)))
  else if (ak.all fun md=>tG md.1 md.2)=true then some (.rb,.tup (ak.map (·.2)))else none
 else none
noncomputable def b9(fs:Ev→Option (List (M×D))):Ev→Option (M×D):=fun e=>(fs e).bind q8
theorem Sx{ta:TA}{fs:Ev→Option (List (M×D))}(ha:gQ K ta fs):JT K (zU ta) (b9 fs):=by
 intro H₀ O H σ env Q m d R h q
 obtain⟨ak,e,h⟩:=ao h
 unfold q8 at h
 split at h
 ·rename_i hl
  refine ha H₀ O H σ env _ ak R e fun vs H1 s1 h1=>⟨by rw[←cK h1];exact hl,fun p hp=>?_⟩
  split at h
  ·rename_i hs
   cases h
   rw[jG]at hs
   exact q _ _ (s1.trans (cu hp)) (Rp.tup (.inl bf) ((h1.gf fun md hm v hv=>hv.bO (hs md hm)).keep (.same (cu hp))))
  ·split at h
   ·rename_i hs
    cases h
    rw[jG]at hs
    exact q _ _ (s1.trans (cu hp)) (Rp.tup (.inl bf) ((h1.gf fun md hm v hv=>hv.gi (hs md hm)).keep (.same (cu hp))))
   ·split at h
    ·rename_i hs
     cases h
     rw[jG]at hs
     exact q _ _ (s1.trans (cu hp)) (Rp.tup (.inl bf) ((h1.gf fun md hm v hv=>hv.tG (hs md hm)).keep (.same (cu hp))))
    ·cases h
 ·cases h
noncomputable def dO(m:M)(ds:List D):Option (M×D) :=
 if aI m=.al then (if D.bH ds=true then some (.un,.lst ds)else some (.al,.lst ds))else if aI m=.rb then (if D.bH ds=true then some (.un,.lst ds)else none)else some (.un,.lst ds)
theorem qG{p:Addr}{xs:List V}{ds:List D}{m m':M}{d:D}(od:∀a,O a→∃o,H a=some o)(hd:∀a o,H₀ a=some o→∃o',H a=some o')(hp:H p=none)(r:aq K (NM H₀ O (aI m)) H xs ds)(h:dO m ds=some (m',d)):Val K H₀ O H (upd H p (.lst xs)) m' d (.ref p):=by
 unfold dO at h
 split at h
 ·rename_i e
  rw[e]at r
  split at h
  ·rename_i e;cases h;exact uF od hd hp (aq.im e r)
  ·cases h;exact Rp.lst (.inl bf) (ip od hp) (r.keep (.same (cu hp)))
 ·split at h
  ·split at h
   ·rename_i e;cases h;exact uF od hd hp (aq.im e r)
   ·cases h
  ·rename_i e1 e2
   cases h
   have e:aI m=.fr:=by cases m<;>simp[aI]at e1 e2 ⊢
   rw[e]at r
   exact uF od hd hp r
def jP(K:PySem.W.Frag)(r:List V→Hp→VK→Prop)(g:List (M×D)→Option (M×D)):Prop :=
 ∀H₀ O H vs ak Q m d,(∀a,O a→∃o,H a=some o)→(∀a o,H₀ a=some o→∃o',H a=some o')→fh K H₀ O HE H ak vs→g ak=some (m,d)→(∀v H',aB H H'→Val K H₀ O H H' m d v→Q v H')→r vs H Q
noncomputable def aF(g:List (M×D)→Option (M×D))(fs:Ev→Option (List (M×D))):Ev→Option (M×D):=fun e=>(fs e).bind g
theorem UA{r:List V→Hp→VK→Prop}{g:List (M×D)→Option (M×D)}{ta:TA}{fs:Ev→Option (List (M×D))}(hr:jP K r g)(ha:gQ K ta fs):JT K (xn r ta) (aF g fs):=by
 intro H₀ O H σ env Q m d R h q
 obtain⟨ak,e,h⟩:=ao h
 refine ha H₀ O H σ env _ ak R e fun vs H1 s1 h1=>?_
 have R1:=R.keep s1
 exact hr H₀ O H1 vs ak Q m d R1.od R1.hd (j9 (fun _ _ z=>z.h0) h1) h fun v H3 s3 h3=>q v H3 (s1.trans s3) (h3.hb fun a z=>s1.free z)
theorem fh.one{Hb:Hp}{a:M×D}{vs:List V}(h:fh K H₀ O Hb H [a] vs):∃v,vs=[v]∧Val K H₀ O Hb H a.1 a.2 v:=by
 cases h with|cons q t=>cases t;exact⟨_,rfl,q⟩
theorem fh.two{Hb:Hp}{a b:M×D}{vs:List V}(h:fh K H₀ O Hb H [a,b] vs):∃v w,vs=[v,w]∧Val K H₀ O Hb H a.1 a.2 v∧Val K H₀ O Hb H b.1 b.2 w:=by
 cases h with|cons q t=>cases t with|cons q' t=>cases t;exact⟨_,_,rfl,q,q'⟩
noncomputable def bJ:List (M×D)→Option (M×D)
 |[(_,.lst ds)]=>some (.fr,.int ds.length)
 |[(_,.tup ds)]=>some (.fr,.int ds.length)
 |[(_,.str z)]=>if z.length≤sizeLine then some (.fr,.int z.length)else none
 |_=>none
theorem PL:jP K (fun xs H Q=>∃x n,xs=[x]∧zS K x H n∧Q (.int n) H) bJ:=by
 intro H₀ O H vs ak Q m d _ _ hv h q
 unfold bJ at h
 split at h
 ·cases h
  obtain⟨v,rfl,hw⟩:=hv.one
  obtain⟨a,xs,rfl,r,s⟩:=hw.lst
  exact⟨_,_,rfl,.inl ⟨xs,r,s.len.symm⟩,q _ H (aB.refl H) kc⟩
 ·cases h
  obtain⟨v,rfl,hw⟩:=hv.one
  obtain⟨a,xs,rfl,r,s⟩:=hw.tup
  exact⟨_,_,rfl,.inr ⟨xs,r,s.len.symm⟩,q _ H (aB.refl H) kc⟩
 ·split at h
  ·rename_i hz
   cases h
   obtain⟨v,rfl,hw⟩:=hv.one
   obtain rfl:=hw.str
   exact⟨_,_,rfl,⟨hz,rfl⟩,q _ H (aB.refl H) kc⟩
  ·cases h
 ·cases h
noncomputable def rP:List (M×D)→Option (M×D)
 |[(_,.int i)]=>some (.fr,.int (if i<0 then -i else i))
 |_=>none
theorem PN:jP K (fun xs H Q=>∃i,xs=[.int i]∧Q (.int (if i<0 then -i else i)) H) rP:=by
 intro H₀ O H vs ak Q m d _ _ hv h q
 unfold rP at h
 split at h
 ·cases h
  obtain⟨v,rfl,hw⟩:=hv.one
  obtain rfl:=hw.int
  exact⟨_,rfl,q _ H (aB.refl H) kc⟩
 ·cases h
noncomputable def c7:List (M×D)→Option (M×D)
 |[(_,.int i)]=>some (.fr,.int i)
 |[(_,.bl k)]=>some (.fr,.int (if k then 1 else 0))
 |_=>none
theorem PQ:jP K (fun xs H Q=>(∃i,xs=[.int i]∧Q (.int i) H)∨∃k,xs=[.bl k]∧Q (.int (if k then 1 else 0)) H) c7:=by
 intro H₀ O H vs ak Q m d _ _ hv h q
 unfold c7 at h
 split at h
 ·cases h
  obtain⟨v,rfl,hw⟩:=hv.one
  obtain rfl:=hw.int
  exact .inl ⟨_,rfl,q _ H (aB.refl H) kc⟩
 ·cases h
  obtain⟨v,rfl,hw⟩:=hv.one
  obtain rfl:=hw.bl
  exact .inr ⟨_,rfl,q _ H (aB.refl H) kc⟩
 ·cases h
noncomputable def oQ:List (M×D)→Option (M×D)
 |[(m,.lst ds)]=>dO m ds
 |[(m,.tup ds)]=>dO m ds
 |_=>none
theorem N0:jP K (fun xs H Q=>∃p ys,xs=[.ref p]∧(bw K H p ys∨bh K H p ys)∧∀l,H l=none→Q (.ref l) (upd H l (.lst ys))) oQ:=by
 intro H₀ O H vs ak Q m d od hd hv h q
 unfold oQ at h
 split at h
 ·obtain⟨v,rfl,hw⟩:=hv.one
  obtain⟨a,xs,rfl,r,s⟩:=hw.lst
  exact⟨_,_,rfl,.inl r,fun l hl=>q _ _ (cu hl) (qG od hd hl s h)⟩
 ·obtain⟨v,rfl,hw⟩:=hv.one
  obtain⟨a,xs,rfl,r,s⟩:=hw.tup
  exact⟨_,_,rfl,.inr r,fun l hl=>q _ _ (cu hl) (qG od hd hl s h)⟩
 ·cases h
def tI(K:PySem.W.Frag)(t:TO)(f:Ev→Option (Option Int)):Prop :=
 ∀H₀ O H σ env Q b,cZ K H₀ O H σ env→f env=some b→(∀H',aB H H'→Q b H')→t σ H Q
noncomputable def gu:Ev→Option (Option Int):=fun _=>some none
noncomputable def m5:M×D→Option Int
 | (_,.int i)=>some i
 |_=>none
theorem yQ{a:M×D}{b:Int}(h:m5 a=some b):a.2=.int b:=by
 obtain⟨m,d⟩:=a
 cases d<;>simp only[m5]at h<;>first | (cases h;rfl)|cases h
noncomputable def fF(f:Ev→Option (M×D)):Ev→Option (Option Int):=fun e=>(f e).bind fun x=>(m5 x).map some
theorem N1:tI K EH gu:=by
 intro H₀ O H σ env Q b R h q
 cases h
 exact q H (aB.refl H)
theorem N2{t:TE}{f:Ev→Option (M×D)}(h:JT K t f):tI K (GW t) (fF f):=by
 intro H₀ O H σ env Q b R e q
 obtain⟨a,ea,e⟩:=ao e
 cases ei:m5 a with
 |none=>rw[ei]at e;cases e
 |some i =>
  rw[ei]at e;cases e
  refine h H₀ O H σ env _ a.1 a.2 R ea fun x H1 s1 h1=>?_
  rw[yQ ei]at h1
  exact⟨i,h1.int,q H1 s1⟩
def mv(K:PySem.W.Frag)(r:V→Option Int→Option Int→Hp→VK→Prop)(g:M×D→Option Int→Option Int→Option (M×D)):Prop :=
 ∀H₀ O H x lo hi a Q m d,(∀a,O a→∃o,H a=some o)→(∀a o,H₀ a=some o→∃o',H a=some o')→Val K H₀ O HE H (Prod.fst a) a.2 x→g a lo hi=some (m,d)→(∀v H',aB H H'→Val K H₀ O H H' m d v→Q v H')→r x lo hi H Q
noncomputable def gj(g:M×D→Option Int→Option Int→Option (M×D))(f:Ev→Option (M×D))(l u:Ev→Option (Option Int)):Ev→Option (M×D):=fun e=>(f e).bind fun x=>(l e).bind fun lo=>(u e).bind fun hi=>g x lo hi
theorem UB{r:V→Option Int→Option Int→Hp→VK→Prop}{g:M×D→Option Int→Option Int→Option (M×D)}{te:TE}{tl th:TO}{f:Ev→Option (M×D)}{l u:Ev→Option (Option Int)}(hr:mv K r g)(he:JT K te f)(hl:tI K tl l)(hu:tI K th u):JT K (Js r te tl th) (gj g f l u):=by
 intro H₀ O H σ env Q m d R h q
 obtain⟨x,ex,h⟩:=ao h
 obtain⟨lo,el,h⟩:=ao h
 obtain⟨hi,eh,h⟩:=ao h
 refine he H₀ O H σ env _ x.1 x.2 R ex fun v H1 s1 h1=>?_
 refine hl H₀ O H1 σ env _ lo (R.keep s1) el fun H2 s2=>?_
 refine hu H₀ O H2 σ env _ hi ((R.keep s1).keep s2) eh fun H3 s3=>?_
 have R3:=((R.keep s1).keep s2).keep s3
 exact hr H₀ O H3 v lo hi x Q m d R3.od R3.hd ((h1.keep s2).keep s3).h0 h fun v H4 s4 h4=>q v H4 (((s1.trans s2).trans s3).trans s4) (h4.hb fun a z=>((s1.trans s2).trans s3).free z)
noncomputable def cut{α:Type}(xs:List α)(lo hi:Option Int):List α:=(xs.drop (HT.aS xs.length 0 lo)).take (HT.aS xs.length xs.length hi-HT.aS xs.length 0 lo)
noncomputable def m6:M×D→Option Int→Option Int→Option (M×D)
 | (m,.lst ds),lo,hi=>dO m (cut ds lo hi)
 |_,_,_=>none
theorem aq.cut{N:Addr→Prop}{xs:List V}{ds:List D}{lo hi:Option Int}(r:aq K N H xs ds):aq K N H (iH xs lo hi) (J.cut ds lo hi):=by
 unfold iH J.cut
 rw[r.len]
 exact(r.drop _).take _
theorem N3:mv K (zV K) m6:=by
 intro H₀ O H x lo hi a Q m d od hd h1 h q
 obtain⟨ma,da⟩:=a
 cases da<;>try (cases h;done)
 obtain⟨p,xs,rfl,r,s⟩:=h1.lst
 exact⟨p,xs,rfl,r,fun l hl=>q _ _ (cu hl) (qG od hd hl s.cut h)⟩
noncomputable def mJ:M→M→M
 |.al,_=>.al
 |_,.al=>.al
 |.rb,_=>.rb
 |_,.rb=>.rb
 |_,_=>.fr
theorem NM.JB{a b:M}{x:Addr}(ha:aI a≠.rb)(hb:aI b≠.rb)(h:NM H₀ O (aI a) x):NM H₀ O (aI (mJ a b)) x:=by
 cases a<;>cases b<;>first|exact h|exact h.1|exact absurd rfl ha|exact absurd rfl hb
theorem NM.JC{a b:M}{x:Addr}(ha:aI a≠.rb)(hb:aI b≠.rb)(h:NM H₀ O (aI b) x):NM H₀ O (aI (mJ a b)) x:=by
 cases a<;>cases b<;>first|exact h|exact h.1|exact absurd rfl ha|exact absurd rfl hb
noncomputable def pj:M×D→M×D→Option (M×D)
 | (m,.lst ds),(n,.lst es)=>if aI m=.rb∨aI n=.rb then none else if ds.length+es.length≤sizeLine then dO (mJ m n) (ds++es)else none
 |_,_=>none
noncomputable def vB(K:PySem.W.Frag):R2:=fun x y H Q=>∃l b xs zs,x=.ref l∧y=.ref b∧bw K H l xs∧bw K H b zs∧xs.length+zs.length≤sizeLine∧∀p,H p=none→Q (.ref p) (upd H p (.lst (xs++zs)))
theorem Sy:JR K (vB K) pj:=by
 intro H₀ O H x y a b Q m d od hd h1 h2 h q
 obtain⟨ma,da⟩:=a;obtain⟨mb,db⟩:=b
 cases da<;>try (cases db<;>cases h;done)
 cases db<;>try (cases h;done)
 simp only[pj]at h
 split at h
 ·cases h
 ·rename_i hn
  split at h
  ·rename_i hl
   obtain⟨p,xs,rfl,r,s⟩:=h1.lst
   obtain⟨p',Bt,rfl,r',s'⟩:=h2.lst
   have n1:aI ma≠.rb:=fun z=>hn (.inl z)
   have n2:aI mb≠.rb:=fun z=>hn (.inr z)
   refine⟨p,p',xs,Bt,rfl,rfl,r,r',by rw[s.len,s'.len];exact hl,fun l hl=>q _ _ (cu hl) (qG od hd hl (aq.app (s.wk fun _ h _=>NM.JB n1 n2 h) (s'.wk fun _ h _=>NM.JC n1 n2 h)) h)⟩
  ·cases h
end
noncomputable def own:M→Bool
 |.bo=>true
 |.bi=>true
 |_=>false
theorem PR{m:M}(h:own m=true):ic m=true:=by cases m<;>first|rfl|cases h
theorem jY{α β:Type}{F:α→β→Prop}:∀{l:List α}{r:List β},l.length=r.length→(∀(j:Nat) a b,l[j]?=some a→r[j]?=some b→F a b)→Paired F l r
 |[],[],_,_=>.nil
 |a::l,b::r,e,h=>.cons (h 0 a b rfl rfl) (jY (by simpa using e) fun j x y h1 h2=>h (j+1) x y (by simpa using h1) (by simpa using h2))
 |[],_::_,e,_=>by simp at e
 |_::_,[],e,_=>by simp at e
def xE(H:Hp)(σ:St)(env:Ev):Prop :=
 (∀(i j:Nat) (d d':D),env[i]?=some (some (.nb,d))→env[j]?=some (some (.nb,d'))→i=j) ∧
 ∀(i j:Nat) (d:D) (x:M×D) (p q:Addr) (xs:List V),env[i]?=some (some (.nb,d))→σ[i]?=some (some (.ref p))→env[j]?=some (some x)→own x.1=true→σ[j]?=some (some (.ref q))→H p=some (.lst xs)→q≠p∧V.ref q∉xs
structure Rel (K:PySem.W.Frag)(H₀:Hp)(I:Nat→Option Addr)(O:Addr→Prop)(H:Hp)(σ:St)(env:Ev):Prop where
 e:cZ K H₀ O H σ env
 fr:∀a o,(∀i,I i≠some a)→H₀ a=some o→H a=some o
 ow:∀a,O a→(∃i,I i=some a)∨H₀ a=none
 ba:∀(i:Nat) d p,env[i]?=some (some (.bi,d))→σ[i]?=some (some (.ref p))→I i=some p
 dj:∀(i j:Nat) (x y:M×D) (p:Addr),env[i]?=some (some x)→env[j]?=some (some y)→own x.1=true→own y.1=true→σ[i]?=some (some (.ref p))→σ[j]?=some (some (.ref p))→i=j
 nd:xE H σ env
def aG(O:Addr→Prop)(H:Hp)(O':Addr→Prop)(H':Hp):Prop:=∀a o,H a=some o→¬O a→H' a=some o∧¬O' a
inductive Fl where
 |nx (e:Ev)|bk (e:Ev)|ct (e:Ev)|rt (e:Ev) (m:M) (d:D)
noncomputable def lP(K:PySem.W.Frag)(H₀:Hp)(I:Nat→Option Addr)(O:Addr→Prop)(H:Hp)(Ds:Ends):Fl→Prop
 |.nx e=>∀O' H' σ',Rel K H₀ I O' H' σ' e→aG O H O' H'→Ds.nx σ' H'
 |.bk e=>∀O' H' σ',Rel K H₀ I O' H' σ' e→aG O H O' H'→Ds.bk σ' H'
 |.ct e=>∀O' H' σ',Rel K H₀ I O' H' σ' e→aG O H O' H'→Ds.ct σ' H'
 |.rt e m d=>∀O' H' σ' v,Rel K H₀ I O' H' σ' e→aG O H O' H'→Val K H₀ O' HE H' m d v→Ds.rt v H'
def JS(K:PySem.W.Frag)(ts:TS)(g:Ev→Option Fl):Prop :=
 ∀H₀ I O H σ env Ds fl,Rel K H₀ I O H σ env→g env=some fl→lP K H₀ I O H Ds fl→ts Ds σ H
section
variable {K:PySem.W.Frag}{H H' H₀:Hp}{I:Nat→Option Addr}{O O':Addr→Prop}{σ:St}{env:Ev}
theorem aG.refl:aG O H O H:=fun a o h n=>⟨h,n⟩
theorem aG.trans{O1 O2:Addr→Prop}{H1 H2:Hp}(a:aG O H O1 H1)(b:aG O1 H1 O2 H2):aG O H O2 H2:=fun x o h n=>b x o (a x o h n).1 (a x o h n).2
theorem aG.same(s:aB H H'):aG O H O H':=fun a o h n=>⟨s a o h,n⟩
theorem xE.keep(h:xE H σ env)(w:∀(i:Nat) d p,env[i]?=some (some (.nb,d))→σ[i]?=some (some (.ref p))→H' p=H p):xE H' σ env :=
 ⟨h.1,fun i j d x p q xs h1 h2 h3 h4 h5 h6=>h.2 i j d x p q xs h1 h2 h3 h4 h5 (by rw[←w i d p h1 h2];exact h6)⟩
theorem cZ.nest(R:cZ K H₀ O H σ env){i:Nat}{d:D}{p:Addr}(h1:env[i]?=some (some (.nb,d)))(h2:σ[i]?=some (some (.ref p))):∃(qs:List Addr) (aK:List (List D)),d=.lst (aK.map D.lst)∧O p∧H₀ p=none∧H p=some (.lst (qs.map V.ref))∧qs.Nodup∧(∀q∈qs,O q∧H₀ q=none∧q≠p) ∧
  Paired (fun q ds=>∃xs,H q=some (.lst xs)∧aq K (fun a=>¬O a∧H₀ a=none) H xs ds) qs aK:=by
 obtain⟨v,hv,_,hm⟩:=R.at h1
 rw[h2]at hv;cases hv
 obtain⟨p',qs,aK,e,r⟩:=hm
 cases e
 exact⟨qs,aK,r⟩
theorem Rel.keep(R:Rel K H₀ I O H σ env)(s:aB H H'):Rel K H₀ I O H' σ env:=⟨R.e.keep s,fun a o n h=>s _ _ (R.fr a o n h),R.ow,R.ba,R.dj,R.nd.keep fun i d p h1 h2=>by
 obtain⟨qs,aK,_,_,_,e,_⟩:=R.e.nest h1 h2
 rw[s _ _ e,e]⟩
noncomputable def JD:M→Bool
 |.al=>true
 |.fr=>true
 |_=>false
theorem PV{m:M}(h:JD m=true):ic m=true:=by cases m<;>first|rfl|cases h
theorem lP.pre{O1:Addr→Prop}{H1:Hp}{Ds:Ends}{fl:Fl}(s:aG O H O1 H1)(h:lP K H₀ I O H Ds fl):lP K H₀ I O1 H1 Ds fl:=by
 cases fl<;>simp only[lP]at h ⊢
 ·exact fun O' H' σ' R t=>h O' H' σ' R (s.trans t)
 ·exact fun O' H' σ' R t=>h O' H' σ' R (s.trans t)
 ·exact fun O' H' σ' R t=>h O' H' σ' R (s.trans t)
 ·exact fun O' H' σ' v R t=>h O' H' σ' v R (s.trans t)
noncomputable def aY:Ev→Option Fl:=fun e=>some (.nx e)
theorem PY:JS K vt aY:=by
 intro H₀ I O H σ env Ds fl R h q
 cases h
 exact q O H σ R aG.refl
noncomputable def av(f g:Ev→Option Fl):Ev→Option Fl:=fun e=>(f e).bind fun r=>match r with
 |.nx e'=>g e'
 |.bk e'=>some (.bk e')
 |.ct e'=>some (.ct e')
 |.rt e' m d=>some (.rt e' m d)
theorem Sz{t u:TS}{f g:Ev→Option Fl}(ht:JS K t f)(hu:JS K u g):JS K (lN t u) (av f g):=by
 intro H₀ I O H σ env Ds fl R h q
 obtain⟨r,er,h⟩:=ao h
 refine ht H₀ I O H σ env _ r R er ?_
 cases r with
 |nx e'=>exact fun O' H' σ' R' s=>hu H₀ I O' H' σ' e' Ds fl R' h (q.pre s)
 |bk e'=>cases h;exact q
 |ct e'=>cases h;exact q
 |rt e' m d=>cases h;exact q
noncomputable def aP(f:Ev→Option (M×D)):Ev→Option Fl:=fun e=>(f e).bind fun x=>some (.rt e x.1 x.2)
theorem SD{t:TE}{f:Ev→Option (M×D)}(h:JT K t f):JS K (rG t) (aP f):=by
 intro H₀ I O H σ env Ds fl R e q
 obtain⟨x,ex,e⟩:=ao e
 cases e
 exact h H₀ O H σ env _ x.1 x.2 R.e ex fun v H1 s1 h1=>q O H1 σ v (R.keep s1) (aG.same s1) h1.h0
noncomputable def G7:Ev→Option Fl:=fun e=>some (.rt e .fr .non)
noncomputable def aN(c:Ev→Option Bool)(f g:Ev→Option Fl):Ev→Option Fl:=fun e=>(c e).bind fun b=>if b=true then f e else g e
theorem UC{c:TT}{t u:TS}{fc:Ev→Option Bool}{f g:Ev→Option Fl}(hc:dW K c fc)(ht:JS K t f)(hu:JS K u g):JS K (vV c t u) (aN fc f g):=by
 intro H₀ I O H σ env Ds fl R h q
 obtain⟨b,eb,h⟩:=ao h
 refine hc H₀ O H σ env _ b R.e eb fun H1 s1=>?_
 cases b with
 |true =>
  rw[if_pos rfl]at h ⊢
  exact ht H₀ I O H1 σ env Ds fl (R.keep s1) h (q.pre (aG.same s1))
 |false =>
  rw[if_neg a6]at h ⊢
  exact hu H₀ I O H1 σ env Ds fl (R.keep s1) h (q.pre (aG.same s1))
noncomputable def G8:M→Option M
 |.al=>some .al
 |.fr=>some .fr
 |.un=>some .bo
 |.ut=>some .fr
 |_=>none
noncomputable def lE(x:M×D):Option (M×D):=match G8 x.1 with
 |some m=>some (m,x.2)
 |none=>if x.2.bG=true then some (.fr,x.2)else none
theorem z9{α β:Type}{F:α→β→Prop}{a:α}{b:β}(q:F a b):∀{l:List α}{r:List β} (i:Nat),Paired F l r→Paired F (l.set i a) (r.set i b)
 |_,_,_,.nil=>.nil
 |_,_,0,.cons _ t=>.cons q t
 |_,_,i+1,.cons h t=>.cons h (z9 q i t)
theorem get_set{α:Type}{l:List α}{i j:Nat}{a b:α}(h:(l.set i a)[j]?=some b):(j=i∧b=a)∨(j≠i∧l[j]?=some b):=by
 rw[List.getElem?_set]at h
 split at h
 ·rename_i e
  split at h
  ·exact .inl ⟨e.symm,(c9 h).symm⟩
  ·cases h
 ·rename_i e
  exact .inr ⟨fun z=>e z.symm,h⟩
theorem Rel.oC{i:Nat}{x:M×D}{p:Addr}(R:Rel K H₀ I O H σ env)(hx:env[i]?=some (some x))(ho:own x.1=true)(hp:σ[i]?=some (some (.ref p))):O p∧Cell K (fun a=>¬O a∧H₀ a=none) H p x.2:=by
 obtain⟨m,d⟩:=x
 obtain⟨v,hv,n,hm⟩:=R.e.at hx
 rw[hp]at hv
 cases hv
 cases m<;>simp only[own]at ho<;>try (cases ho;done)
 ·obtain⟨p',e,h1,_,c⟩:=hm;cases e;exact⟨h1,c⟩
 ·obtain⟨p',e,h1,c⟩:=hm;cases e;exact⟨h1,c⟩
theorem yE{F:Addr→List D→Prop}:∀{qs:List Addr}{aK:List (List D)}{q:Addr},Paired F qs aK→q∈qs→∃ds,F q ds
 |_,_,_,.nil,h=>nomatch h
 |_,_,_,.cons a t,h=>by
  rcases fK.mp h with rfl|h
  ·exact⟨_,a⟩
  ·exact yE t h
theorem Rel.set_plain{i:Nat}{m:M}{d:D}{v:V}(R:Rel K H₀ I O H σ env)(hm:own m=false)(hu:JD m=true)(h:Val K H₀ O HE H m d v):Rel K H₀ I O H (σ.set i (some v)) (env.set i (some (m,d))):=by
 refine⟨⟨z9 (fun m' d' q=>?_) i R.e.sl,R.e.od,R.e.hd,R.e.on⟩,R.fr,R.ow,fun i' d' p h1 p1=>?_,fun i' j x y p h1 h2 o1 o2 p1 p2=>?_,⟨fun i' j d1 d2 h1 h2=>?_,fun i' j d1 x p q xs h1 p1 h2 o2 p2 e=>?_⟩⟩
 ·cases q;exact⟨PV hu,v,rfl,h⟩
 ·rcases get_set h1 with⟨rfl,q⟩|⟨n1,q1⟩
  ·cases q;cases hm
  ·rw[cU (fun z=>n1 z.symm)]at p1
   exact R.ba i' d' p q1 p1
 ·rcases get_set h1 with⟨rfl,q⟩|⟨n1,q1⟩
  ·cases q;rw[hm]at o1;cases o1
  ·rcases get_set h2 with⟨rfl,q⟩|⟨n2,q2⟩
   ·cases q;rw[hm]at o2;cases o2
   ·rw[cU (fun z=>n1 z.symm)]at p1
    rw[cU (fun z=>n2 z.symm)]at p2
    exact R.dj i' j x y p q1 q2 o1 o2 p1 p2
 ·rcases get_set h1 with⟨rfl,q⟩|⟨n1,q1⟩
  ·cases q;cases hu
  ·rcases get_set h2 with⟨rfl,q⟩|⟨n2,q2⟩
   ·cases q;cases hu
   ·exact R.nd.1 i' j d1 d2 q1 q2
 ·rcases get_set h1 with⟨rfl,q⟩|⟨n1,q1⟩
  ·cases q;cases hu
  ·rcases get_set h2 with⟨rfl,q⟩|⟨n2,q2⟩
   ·cases q;rw[hm]at o2;cases o2
   ·rw[cU (fun z=>n1 z.symm)]at p1
    rw[cU (fun z=>n2 z.symm)]at p2
    exact R.nd.2 i' j d1 x p q xs q1 p1 q2 o2 p2 e
theorem Rel.SF{i:Nat}{d:D}{v:V}{H1:Hp}(R:Rel K H₀ I O H σ env)(s:aB H H1)(h:Val K H₀ O H H1 .un d v):∃O',Rel K H₀ I O' H1 (σ.set i (some v)) (env.set i (some (.bo,d)))∧aG O H O' H1:=by
 obtain⟨p,rfl,hp,h0,ho,c⟩:=h
 have np:∀a,(∃o,H a=some o)→a≠p:=fun a ⟨o,e⟩=>eC e hp
 have wk:∀{N:Addr→Prop}{d:D}{v:V},Rp K N H v d→Rp K (fun a=>N a∧a≠p) H1 v d:=fun r=>(r.wk fun a n e=>⟨n,np a e⟩).keep (.same s)
 have tJ:∀{N:Addr→Prop}{d:D}{q:Addr},Cell K N H q d→Cell K (fun a=>N a∧a≠p) H1 q d:=fun {N d q} r=>by
  obtain⟨o,e,_⟩:=r.some
  exact(r.wk fun a n e=>⟨n,np a e⟩).keep (.same s) ((s _ _ e).trans e.symm)
 obtain⟨o,eo,WR⟩:=c.some
 refine⟨fun a=>O a∨a=p,⟨⟨z9 (fun m' d' q=>?_) i (j9 (fun e x h m d q=>?_) R.e.sl),?_,?_,?_⟩,?_,?_,?_,?_,?_⟩,?_⟩
 ·cases q
  exact⟨rfl,_,rfl,p,rfl,.inr rfl,h0,c.wk fun a h _=>⟨fun z=>z.elim h.1.1 h.2,h.1.2⟩⟩
 ·obtain⟨n,v,rfl,z⟩:=h m d q
  refine⟨n,v,rfl,?_⟩
  cases m
  ·exact(wk z).wk fun a h _=>fun z=>z.elim h.1 h.2
  ·exact(wk z).wk fun a h _=>⟨fun z=>z.elim h.1.1 h.2,h.1.2⟩
  ·cases n
  ·obtain⟨q,rfl,h1,h2,c'⟩:=z
   exact⟨q,rfl,.inl h1,h2,(tJ c').wk fun a h _=>⟨fun z=>z.elim h.1.1 h.2,h.1.2⟩⟩
  ·obtain⟨q,rfl,h1,c'⟩:=z
   exact⟨q,rfl,.inl h1,(tJ c').wk fun a h _=>⟨fun z=>z.elim h.1.1 h.2,h.1.2⟩⟩
  ·cases n
  ·obtain⟨q,qs,aK,e1,e2,h1,h2,h3,h4,h5,h6⟩:=z
   exact⟨q,qs,aK,e1,e2,.inl h1,h2,s _ _ h3,h4,fun x hx=>⟨.inl (h5 x hx).1,(h5 x hx).2⟩,jh (fun x ds _ ⟨xs,a,r⟩=>⟨xs,s _ _ a,((r.wk fun a n e=>(⟨n,np a e⟩:(¬O a∧H₀ a=none)∧a≠p)).keep (.same s)).wk fun a h _=>⟨fun z=>z.elim h.1.1 h.2,h.1.2⟩⟩) h6⟩
  ·cases n
 ·intro a ha
  rcases ha with ha|rfl
  ·obtain⟨o,e⟩:=R.e.od a ha;exact⟨o,s _ _ e⟩
  ·exact⟨o,eo⟩
 ·exact fun a o h=>let ⟨o,e⟩:=R.e.hd a o h;⟨o,s _ _ e⟩
 ·intro a u ha e
  rcases ha with ha|rfl
  ·exact(R.e.keep s).on a u ha e
  ·rw[eo]at e;cases e;exact WR
 ·exact fun a o n h=>s _ _ (R.fr a o n h)
 ·intro a ha
  rcases ha with ha|rfl
  ·exact R.ow a ha
  ·exact .inr h0
 ·intro i' d' p' h1 p1
  rcases get_set h1 with⟨rfl,q⟩|⟨n1,q1⟩
  ·cases q
  ·rw[cU (fun z=>n1 z.symm)]at p1
   exact R.ba i' d' p' q1 p1
 ·intro i' j x y q h1 h2 o1 o2 p1 p2
  rcases get_set h1 with⟨rfl,q1⟩|⟨n1,q1⟩
  ·rcases get_set h2 with⟨rfl,q2⟩|⟨n2,q2⟩
   ·rfl
   ·exfalso
    rw[cU (fun z=>n2 z.symm)]at p2
    rcases get_set p1 with⟨_,z⟩|⟨z,_⟩
    ·cases z
     obtain⟨_,c'⟩:=R.oC q2 o2 p2
     obtain⟨o',e',_⟩:=c'.some
     rw[hp]at e';cases e'
    ·exact z rfl
  ·rcases get_set h2 with⟨rfl,q2⟩|⟨n2,q2⟩
   ·exfalso
    rw[cU (fun z=>n1 z.symm)]at p1
    rcases get_set p2 with⟨_,z⟩|⟨z,_⟩
    ·cases z
     obtain⟨_,c'⟩:=R.oC q1 o1 p1
     obtain⟨o',e',_⟩:=c'.some
     rw[hp]at e';cases e'
    ·exact z rfl
   ·rw[cU (fun z=>n1 z.symm)]at p1
    rw[cU (fun z=>n2 z.symm)]at p2
    exact R.dj i' j x y q q1 q2 o1 o2 p1 p2
 ·refine⟨fun i' j d1 d2 h1 h2=>?_,fun i' j d1 x p' q xs h1 p1 h2 o2 p2 e=>?_⟩
  ·rcases get_set h1 with⟨rfl,z⟩|⟨n1,q1⟩
   ·cases z
   ·rcases get_set h2 with⟨rfl,z⟩|⟨n2,q2⟩
    ·cases z
    ·exact R.nd.1 i' j d1 d2 q1 q2
  ·rcases get_set h1 with⟨rfl,z⟩|⟨n1,q1⟩
   ·cases z
   ·rw[cU (fun z=>n1 z.symm)]at p1
    obtain⟨qs,aK,_,_,_,e3,_,_,h6⟩:=R.e.nest q1 p1
    rw[s _ _ e3]at e;cases e
    rcases get_set h2 with⟨rfl,z⟩|⟨n2,q2⟩
    ·rcases get_set p2 with⟨_,z⟩|⟨z,_⟩
     ·cases z
      refine⟨(fun z=>by rw[z,e3]at hp;cases hp),fun z=>?_⟩
      obtain⟨a,ha,ea⟩:=de.mp z
      cases ea
      obtain⟨ds,xs,hx,_⟩:=yE h6 ha
      rw[hp]at hx;cases hx
     ·exact absurd rfl z
    ·rw[cU (fun z=>n2 z.symm)]at p2
     exact R.nd.2 i' j d1 x p' q _ q1 p1 q2 o2 p2 e3
 ·intro a o h n
  exact⟨s a o h,fun z=>z.elim n (np a ⟨o,h⟩)⟩
theorem Rel.give{i:Nat}{x y:M×D}{v:V}{H1:Hp}(R:Rel K H₀ I O H σ env)(s:aB H H1)(h:Val K H₀ O H H1 x.1 x.2 v)(e:lE x=some y):∃O',Rel K H₀ I O' H1 (σ.set i (some v)) (env.set i (some y))∧aG O H O' H1:=by
 obtain⟨m,d⟩:=x
 unfold lE at e
 cases m<;>simp only[G8]at e
 ·cases e;exact⟨O,(R.keep s).set_plain rfl rfl h,.same s⟩
 ·cases e;exact⟨O,(R.keep s).set_plain rfl rfl h,.same s⟩
 ·cases e;exact R.SF s h
 ·split at e
  ·rename_i hi;cases e;exact⟨O,(R.keep s).set_plain rfl rfl (show Rp K _ H1 v d from h.weak.im hi),.same s⟩
  ·cases e
 ·split at e
  ·rename_i hi;cases e;exact⟨O,(R.keep s).set_plain rfl rfl (show Rp K _ H1 v d from h.weak.im hi),.same s⟩
  ·cases e
 ·split at e
  ·rename_i hi;cases e;exact⟨O,(R.keep s).set_plain rfl rfl (show Rp K _ H1 v d from h.weak.im hi),.same s⟩
  ·cases e
 ·split at e
  ·rename_i hi;cases e;exact⟨O,(R.keep s).set_plain rfl rfl (show Rp K _ H1 v d from h.weak.im hi),.same s⟩
  ·cases e
 ·cases e;exact⟨O,(R.keep s).set_plain rfl rfl (show Rp K _ H1 v d from h.bO rfl),.same s⟩
noncomputable def aH(i:Nat)(f:Ev→Option (M×D)):Ev→Option Fl:=fun e=>(f e).bind fun x=>(lE x).bind fun y=>some (.nx (e.set i (some y)))
theorem F1{i:Nat}{t:TE}{f:Ev→Option (M×D)}(h:JT K t f):JS K (gK t (g7 i)) (aH i f):=by
 intro H₀ I O H σ env Ds fl R e q
 obtain⟨x,ex,e⟩:=ao e
 obtain⟨y,ey,e⟩:=ao e
 cases e
 refine h H₀ O H σ env _ x.1 x.2 R.e ex fun v H1 s1 h1=>?_
 obtain⟨O',R',st⟩:=R.give (i:=i) s1 h1 ey
 exact q O' H1 _ R' st
theorem Rel.mut{i:Nat}{m:M}{d d':D}{p:Addr}{o:HO}(R:Rel K H₀ I O H σ env)(hx:env[i]?=some (some (m,d)))(ho:own m=true)(hp:σ[i]?=some (some (.ref p)))
  (c:Cell K (fun a=>¬O a∧H₀ a=none) (upd H p o) p d'):Rel K H₀ I O (upd H p o) σ (env.set i (some (m,d')))∧aG O H O (upd H p o):=by
 obtain⟨hO,c0⟩:=R.oC hx ho hp
 obtain⟨o0,e0,nt⟩:=c0.some
 have kp:∀{N:Addr→Prop},(∀a,N a→¬O a)→Keeps N H (upd H p o):=fun w a u h z=>by
  have gk:a≠p:=by
   rintro rfl
   rcases z with z|z
   ·exact w _ z hO
   ·rw[e0]at h;cases h;exact nt z
  rw[az gk];exact h
 have hi:i<env.length:=by
  rcases hX i env.length with h|h
  ·exact h
  ·rw[jH h]at hx;cases hx
 have hσ:σ=σ.set i (some (.ref p)):=by
  refine List.ext_getElem? fun j=>?_
  rw[List.getElem?_set]
  split
  ·rename_i z;subst z
   have hl:i<σ.length:=by rw[←cK R.e.sl];exact hi
   rw[if_pos hl,hp]
  ·rfl
 refine⟨⟨⟨?_,?_,?_,?_⟩,?_,R.ow,?_,?_,?_⟩,?_⟩
 ·
  have base:∀(j:Nat) (e:Option (M×D)) (x:Option V),(env.set i (some (m,d')))[j]?=some e→σ[j]?=some x→∀m d,e=some (m,d)→ic m=true∧∃v,x=some v∧Val K H₀ O HE (upd H p o) m d v:=by
   intro j e x he tK m1 d1 q
   subst q
   rcases get_set he with⟨rfl,q⟩|⟨nj,q⟩
   ·cases q
    rw[hp]at tK;cases tK
    refine⟨PR ho,_,rfl,?_⟩
    cases m<;>simp only[own]at ho<;>try (cases ho;done)
    ·obtain⟨v,hv,n,hm⟩:=R.e.at hx
     rw[hp]at hv;cases hv
     obtain⟨p',e,h1,h2,_⟩:=hm;cases e
     exact⟨p,rfl,h1,h2,c⟩
    ·exact⟨p,rfl,hO,c⟩
   ·obtain⟨v,hv,n,hm⟩:=R.e.at q
    rw[tK]at hv;cases hv
    refine⟨n,v,rfl,?_⟩
    have nq:∀{p':Addr},own m1=true→v=.ref p'→p'≠p:=fun {p'} Bu ev z=>by
     subst ev;subst z
     exact nj (R.dj j i _ _ p' q hx Bu ho tK hp)
    cases m1
    ·exact Rp.keep (kp fun a h=>h) hm
    ·exact Rp.keep (kp fun a h=>h.1) hm
    ·cases n
    ·obtain⟨p',rfl,h1,h2,c'⟩:=hm
     exact⟨p',rfl,h1,h2,c'.keep (kp fun a h=>h.1) (az (nq rfl rfl))⟩
    ·obtain⟨p',rfl,h1,c'⟩:=hm
     exact⟨p',rfl,h1,c'.keep (kp fun a h=>h.1) (az (nq rfl rfl))⟩
    ·cases n
    ·obtain⟨p',qs,aK,rfl,e2,h1,h2,h3,h4,h5,h6⟩:=hm
     obtain⟨z1,z2⟩:=R.nd.2 j i d1 (m,d) p' p _ q tK hx ho hp h3
     refine⟨p',qs,aK,rfl,e2,h1,h2,by rw[az (fun z=>z1 z.symm)];exact h3,h4,h5,jh (fun x ds hx ⟨xs,a,r⟩=>⟨xs,?_,r.keep (kp fun a h=>h.1)⟩) h6⟩
     rw[az (fun z=>z2 (de.mpr ⟨x,hx,by rw[z]⟩))];exact a
    ·cases n
  refine jY ?_ fun j e x h1 h2=>base j e x h1 h2
  rw[hV];exact cK R.e.sl
 ·intro a ha
  by_cases z:a=p
  ·subst z;exact⟨o,bf⟩
  ·rw[az z];exact R.e.od a ha
 ·intro a u h
  by_cases z:a=p
  ·subst z;exact⟨o,bf⟩
  ·rw[az z];exact R.e.hd a u h
 ·intro a u ha e
  by_cases z:a=p
  ·subst z
   obtain⟨o1,e1,n1⟩:=c.some
   rw[e]at e1;cases e1;exact n1
  ·rw[az z]at e;exact R.e.on a u ha e
 ·intro a u n h
  have z:a≠p:=by
   rintro rfl
   rcases R.ow a hO with⟨i,q⟩|q
   ·exact n i q
   ·rw[h]at q;cases q
  rw[az z];exact R.fr a u n h
 ·intro i' e' p' h1 p1
  rcases get_set h1 with⟨rfl,q⟩|⟨n1,q1⟩
  ·cases q;exact R.ba _ d p' hx p1
  ·exact R.ba i' e' p' q1 p1
 ·intro i' j x y q h1 h2 o1 o2 p1 p2
  have f:∀{k:Nat}{x:M×D},(env.set i (some (m,d')))[k]?=some (some x)→own x.1=true→∃x',env[k]?=some (some x')∧own x'.1=true:=fun {k x} h o=>by
   rcases get_set h with⟨rfl,q⟩|⟨_,q⟩
   ·exact⟨_,hx,ho⟩
   ·exact⟨x,q,o⟩
  obtain⟨x',a1,b1⟩:=f h1 o1
  obtain⟨y',a2,b2⟩:=f h2 o2
  exact R.dj i' j x' y' q a1 a2 b1 b2 p1 p2
 ·have g:∀{k:Nat}{d1:D},(env.set i (some (m,d')))[k]?=some (some (.nb,d1))→env[k]?=some (some (.nb,d1)):=fun {k d1} h=>by
   rcases get_set h with⟨rfl,q⟩|⟨_,q⟩
   ·cases q;cases ho
   ·exact q
  refine⟨fun i' j d1 d2 h1 h2=>R.nd.1 i' j d1 d2 (g h1) (g h2),fun i' j d1 x p' q xs h1 p1 h2 o2 p2 e=>?_⟩
  obtain⟨qs,aK,_,_,_,e3,_⟩:=R.e.nest (g h1) p1
  obtain⟨z1,_⟩:=R.nd.2 i' i d1 (m,d) p' p _ (g h1) p1 hx ho hp e3
  rw[az (fun z=>z1 z.symm)]at e
  rcases get_set h2 with⟨rfl,z⟩|⟨_,z⟩
  ·cases z;exact R.nd.2 i' j d1 (m,d) p' q xs (g h1) p1 hx ho p2 e
  ·exact R.nd.2 i' j d1 x p' q xs (g h1) p1 z o2 p2 e
 ·intro a u h n
  have z:a≠p:=by rintro rfl;exact n hO
  exact⟨by rw[az z];exact h,n⟩
end
section
variable {K:PySem.W.Frag}{H H' H₀:Hp}{I:Nat→Option Addr}{O O':Addr→Prop}{σ:St}{env:Ev}
noncomputable def gO(i:Nat)(e:Ev):Option (M×List D):=match e[i]? with
 |some (some (m,.lst ds))=>if own m=true then some (m,ds)else none
 |_=>none
theorem EX{i:Nat}{e:Ev}{m:M}{ds:List D}(h:gO i e=some (m,ds)):e[i]?=some (some (m,.lst ds))∧own m=true:=by
 unfold gO at h
 split at h
 ·rename_i e
  split at h
  ·cases h;exact⟨e,by assumption⟩
  ·cases h
 ·cases h
theorem Rel.lst{i:Nat}{m:M}{ds:List D}(R:Rel K H₀ I O H σ env)(h:gO i env=some (m,ds)):∃p xs,σ[i]?=some (some (.ref p))∧O p∧H p=some (.lst xs)∧aq K (fun a=>¬O a∧H₀ a=none) H xs ds:=by
 obtain⟨e,o⟩:=EX h
 obtain⟨v,hv,n,hm⟩:=R.e.at e
 cases m<;>simp only[own]at o<;>try (cases o;done)
 ·obtain⟨p,rfl,h1,h2,xs,c,r⟩:=hm;exact⟨p,xs,hv,h1,c,r⟩
 ·obtain⟨p,rfl,h1,xs,c,r⟩:=hm;exact⟨p,xs,hv,h1,c,r⟩
theorem aq.upd{xs:List V}{ds:List D}{p:Addr}{o:HO}{o0:HO}(hO:O p)(h0:H p=some o0)(nt:¬fP o0)(r:aq K (fun a=>¬O a∧H₀ a=none) H xs ds):aq K (fun a=>¬O a∧H₀ a=none) (L2.upd H p o) xs ds:=by
 refine r.keep fun a u e z=>?_
 have gk:a≠p:=by
  rintro rfl
  rcases z with z|z
  ·exact z.1 hO
  ·rw[h0]at e;cases e;exact nt z
 rw[az gk];exact e
theorem Rel.Ih{i:Nat}{m:M}{ds:List D}{p:Addr}{xs ys:List V}{es:List D}(R:Rel K H₀ I O H σ env)(h:gO i env=some (m,ds))(hp:σ[i]?=some (some (.ref p)))(hx:H p=some (.lst xs))(r:aq K (fun a=>¬O a∧H₀ a=none) H ys es) :
  Rel K H₀ I O (L2.upd H p (.lst ys)) σ (env.set i (some (m,.lst es)))∧aG O H O (L2.upd H p (.lst ys)):=by
 obtain⟨e,o⟩:=EX h
 have hO:=(R.oC e o hp).1
 exact R.mut e o hp ⟨ys,bf,r.upd hO hx (fun z=>z)⟩
noncomputable def bM(i:Nat)(f:Ev→Option (M×D)):Ev→Option Fl:=fun e=>(f e).bind fun x=>if bO x.1 x.2=true then (gO i e).bind fun y=>if y.2.length<sizeLine then some (.nx (e.set i (some (y.1,.lst (y.2++[x.2])))))else none else none
theorem SJ{i:Nat}{t:TE}{f:Ev→Option (M×D)}(h:JT K t f):JS K (oN (nK K "list" qE (gq i) (lG t kr))) (bM i f):=by
 intro H₀ I O H σ env Ds fl R e q
 obtain⟨x,ex,e⟩:=ao e
 split at e
 ·rename_i hs
  obtain⟨⟨m,ds⟩,ey,e⟩:=ao e
  split at e
  ·rename_i hl
   cases e
   obtain⟨p,xs,hp,hO,hx,r⟩:=R.lst ey
   refine⟨.ref p,hp,.inl ⟨rfl,xs,.inl (.inl hx)⟩,?_⟩
   refine h H₀ O H σ env _ x.1 x.2 R.e ex fun v H1 s1 h1=>?_
   refine⟨p,xs,v,rfl,rfl,s1 _ _ hx,by rw[r.len];exact hl,?_⟩
   have R1:=R.keep s1
   obtain⟨R2,st⟩:=R1.Ih (ys:=xs++[v]) (es:=ds++[x.2]) ey hp (s1 _ _ hx) ((r.keep (.same s1)).app (.cons (h1.bO hs) .nil))
   exact q O _ σ R2 ((aG.same s1).trans st)
  ·cases e
 ·cases e
noncomputable def oE(i:Nat)(fk fe:Ev→Option (M×D)):Ev→Option Fl:=fun e=>(fe e).bind fun x=>(fk e).bind fun k=>(m5 k).bind fun k=>if bO x.1 x.2=true then (gO i e).bind fun y=>(dF y.2.length k).bind fun j=>some (.nx (e.set i (some (y.1,.lst (y.2.set j x.2)))))else none
theorem N4{i:Nat}{t tk:TE}{f fk:Ev→Option (M×D)}(h:JT K t f)(hk:JT K tk fk):JS K (gK t (HS (gq i) tk GX)) (oE i fk f):=by
 intro H₀ I O H σ env Ds fl R e q
 obtain⟨x,ex,e⟩:=ao e
 obtain⟨k,ek,e⟩:=ao e
 obtain⟨k',WT,e⟩:=ao e
 split at e
 ·rename_i hs
  obtain⟨⟨m,ds⟩,ey,e⟩:=ao e
  obtain⟨j,ej,e⟩:=ao e
  cases e
  obtain⟨p,xs,hp,hO,hx,r⟩:=R.lst ey
  refine h H₀ O H σ env _ x.1 x.2 R.e ex fun v H1 s1 h1=>?_
  refine⟨.ref p,hp,?_⟩
  refine hk H₀ O H1 σ env _ k.1 k.2 (R.keep s1).e ek fun w H2 s2 h2=>?_
  rw[yQ WT]at h2
  have s:=s1.trans s2
  refine⟨p,xs,k',j,rfl,h2.int,s _ _ hx,by rw[r.len];exact ej,?_⟩
  obtain⟨R2,st⟩:=(R.keep s).Ih (ys:=xs.set j v) (es:=ds.set j x.2) ey hp (s _ _ hx) ((r.keep (.same s)).set ((h1.keep s2).bO hs) j)
  exact q O _ σ R2 ((aG.same s).trans st)
 ·cases e
noncomputable def aL(i:Nat)(e:Ev):Ev:=match e[i]? with
 |some (some (.bo,d))=>e.set i (some (.fr,d))
 |_=>e
noncomputable def jt(i:Nat)(g:Ev→Option Fl):Ev→Option Fl:=fun e=>g (aL i e)
theorem Rel.aL{i:Nat}(R:Rel K H₀ I O H σ env):∃O',Rel K H₀ I O' H σ (J.aL i env)∧aG O H O' H:=by
 unfold J.aL
 split
 ·rename_i d e
  obtain⟨v,hv,n,p,rfl,hO,h0,c⟩:=R.e.at e
  have hi:i<env.length:=by
   rcases hX i env.length with h|h
   ·exact h
   ·rw[jH h]at e;cases e
  have W:∀{a:Addr},¬O a→¬(O a∧a≠p):=fun h z=>h z.1
  refine⟨fun a=>O a∧a≠p,⟨⟨?_,fun a h=>R.e.od a h.1,R.e.hd,fun a o h=>R.e.on a o h.1⟩,R.fr,fun a h=>R.ow a h.1,?_,?_,?_⟩,fun a o h n=>⟨h,W n⟩⟩
  ·have base:∀(j:Nat) (y:Option (M×D)) (x:Option V),(env.set i (some (.fr,d)))[j]?=some y→σ[j]?=some x→∀m d,y=some (m,d)→ic m=true∧∃v,x=some v∧Val K H₀ (fun a=>O a∧a≠p) HE H m d v:=by
    intro j y x hy hx m1 d1 q
    subst q
    rcases get_set hy with⟨rfl,q⟩|⟨nj,q⟩
    ·cases q
     rw[hv]at hx;cases hx
     exact⟨rfl,_,rfl,(c.wk fun a h _=>(⟨W h.1,h.2⟩:¬(O a∧a≠p)∧H₀ a=none)).rp ⟨fun z=>z.2 rfl,h0⟩⟩
    ·obtain⟨v,cH,n1,hm⟩:=R.e.at q
     rw[hx]at cH;cases cH
     refine⟨n1,v,rfl,?_⟩
     have nq:∀{p':Addr},own m1=true→v=.ref p'→p'≠p:=fun {p'} Bu ev z=>by
      subst ev;subst z
      exact nj (R.dj j i _ _ p' q e Bu rfl hx hv)
     cases m1
     ·exact Rp.wk (fun a h _=>W h) hm
     ·exact Rp.wk (fun a h _=>⟨W h.1,h.2⟩) hm
     ·cases n1
     ·obtain⟨p',rfl,h1,h2,c'⟩:=hm
      exact⟨p',rfl,⟨h1,nq rfl rfl⟩,h2,c'.wk fun a h _=>⟨W h.1,h.2⟩⟩
     ·obtain⟨p',rfl,h1,c'⟩:=hm
      exact⟨p',rfl,⟨h1,nq rfl rfl⟩,c'.wk fun a h _=>⟨W h.1,h.2⟩⟩
     ·cases n1
     ·obtain⟨p',qs,aK,rfl,e2,h1,h2,h3,h4,h5,h6⟩:=hm
      obtain⟨z1,z2⟩:=R.nd.2 j i d1 (.bo,d) p' p _ q hx e rfl hv h3
      exact⟨p',qs,aK,rfl,e2,⟨h1,fun z=>z1 z.symm⟩,h2,h3,h4,fun x hx=>⟨⟨(h5 x hx).1,fun z=>z2 (de.mpr ⟨x,hx,by rw[z]⟩)⟩,(h5 x hx).2⟩,jh (fun x ds _ ⟨xs,a,r⟩=>⟨xs,a,r.wk fun a h _=>⟨W h.1,h.2⟩⟩) h6⟩
     ·cases n1
   refine jY ?_ fun j e x h1 h2=>base j e x h1 h2
   rw[hV];exact cK R.e.sl
  ·intro i' d' p' h1 p1
   rcases get_set h1 with⟨rfl,z⟩|⟨_,z1⟩
   ·cases z
   ·exact R.ba i' d' p' z1 p1
  ·intro i' j x y q h1 h2 o1 o2 p1 p2
   rcases get_set h1 with⟨rfl,z⟩|⟨_,z1⟩
   ·cases z;cases o1
   ·rcases get_set h2 with⟨rfl,z⟩|⟨_,z2⟩
    ·cases z;cases o2
    ·exact R.dj i' j x y q z1 z2 o1 o2 p1 p2
  ·refine⟨fun i' j d1 d2 h1 h2=>?_,fun i' j d1 x p' q xs h1 p1 h2 o2 p2 e'=>?_⟩
   ·rcases get_set h1 with⟨rfl,z⟩|⟨_,z1⟩
    ·cases z
    ·rcases get_set h2 with⟨rfl,z⟩|⟨_,z2⟩
     ·cases z
     ·exact R.nd.1 i' j d1 d2 z1 z2
   ·rcases get_set h1 with⟨rfl,z⟩|⟨_,z1⟩
    ·cases z
    ·rcases get_set h2 with⟨rfl,z⟩|⟨_,z2⟩
     ·cases z;cases o2
     ·exact R.nd.2 i' j d1 x p' q xs z1 p1 z2 o2 p2 e'
 ·exact⟨O,R,aG.refl⟩
theorem SK{i:Nat}{t:TS}{g:Ev→Option Fl}(h:JS K t g):JS K t (jt i g):=by
 intro H₀ I O H σ env Ds fl R e q
 obtain⟨O',R',st⟩:=R.aL (i:=i)
 exact h H₀ I O' H σ _ Ds fl R' e (q.pre st)
theorem Rp.WU{N:Addr→Prop}{v:V}{d:D}{O2:Addr→Prop}{H2:Hp}(on:∀a o,O a→H a=some o→¬fP o)(st:aG O H O2 H2)(w:∀a,N a→¬O a)(r:Rp K N H v d):Rp K (fun a=>N a∧¬O2 a) H2 v d:=by
 refine(Rp.wk (N':=fun a=>N a∧¬O2 a) (fun a n ⟨o,e⟩=>⟨n,(st a o e (w a n)).2⟩) r).keep fun a o e z=>?_
 refine(st a o e ?_).1
 rcases z with z|z
 ·exact w a z.1
 ·exact fun h=>on a o h e z
structure iI (K:PySem.W.Frag)(H₀:Hp)(O:Addr→Prop)(J:It)(H:Hp)(m:M)(ds:List D):Prop where
 go:∀O2 H2 i,aG O H O2 H2→i<ds.length→J.go i H2
 ib:∀O2 H2 i x H3,aG O H O2 H2→i<ds.length→J.ib i H2 x H3→aB H2 H3∧∃d,ds[i]?=some d∧Val K H₀ O2 HE H3 m d x
 stop:∀O2 H2,aG O H O2 H2→J.stop ds.length H2
noncomputable def dB:M→Bool
 |.al=>true
 |.fr=>true
 |_=>false
def JI(K:PySem.W.Frag)(wi:TI)(it:Ev→Option (M×List D)):Prop :=
 ∀H₀ O H σ env R m ds,cZ K H₀ O H σ env→it env=some (m,ds)→(∀J H',aB H H'→dB m=true→iI K H₀ O J H' m ds→R J H')→wi σ H R
noncomputable def ig:M→Option M
 |.al=>some .al
 |.fr=>some .fr
 |.un=>some .fr
 |_=>none
noncomputable def gn(f:Ev→Option (M×D)):Ev→Option (M×List D):=fun e=>(f e).bind fun x=>match x.2 with
 |.lst ds=>(ig x.1).map fun m=>(m,ds)
 |_=>none
theorem EY{m n:M}{ds:List D}{v:V}{Hb:Hp}(e:ig m=some n)(h:Val K H₀ O Hb H m (.lst ds) v):dB n=true∧∃a xs,v=.ref a∧((Rd H a (.lst xs)∧¬O a)∨xC K a xs)∧aq K (NM H₀ O n) H xs ds:=by
 cases m<;>simp only[ig]at e<;>cases e
 ·cases h with
  |lst r n q=>exact⟨rfl,_,_,rfl,.inl ⟨r,n⟩,q⟩
  |lstK r q=>exact⟨rfl,_,_,rfl,.inr r,q⟩
 ·cases h with
  |lst r n q=>exact⟨rfl,_,_,rfl,.inl ⟨r,n.1⟩,q⟩
  |lstK r q=>exact⟨rfl,_,_,rfl,.inr r,q⟩
 ·obtain⟨p,rfl,_,_,h2,xs,q,r⟩:=h;exact⟨rfl,_,_,rfl,.inl ⟨.inl q,h2⟩,r.wk fun a h _=>h.1⟩
theorem NM.no{n:M}{a:Addr}(e:dB n=true)(h:NM H₀ O n a):¬O a:=by
 cases n<;>first|exact h|exact h.1|cases e
theorem uN{n:M}{d:D}{v:V}{O2:Addr→Prop}{H2:Hp}(e:dB n=true)(on:∀a o,O a→H a=some o→¬fP o)(st:aG O H O2 H2)(r:Rp K (NM H₀ O n) H v d):Val K H₀ O2 HE H2 n d v:=by
 have z:=Rp.WU on st (fun a h=>NM.no e h) r
 cases n
 ·exact z.wk fun a h _=>h.2
 ·exact z.wk fun a h _=>⟨h.2,h.1.2⟩
 ·cases e
 ·cases e
 ·cases e
 ·cases e
 ·cases e
 ·cases e
theorem MF{a:Addr}{xs:List V}{ds:List D}{n:M}(e:dB n=true)(on:∀a o,O a→H a=some o→¬fP o)(hr:(Rd H a (.lst xs)∧¬O a)∨xC K a xs)(r:aq K (NM H₀ O n) H xs ds):iI K H₀ O (A7 K a) H n ds:=by
 have st:∀{O2:Addr→Prop}{H2:Hp},aG O H O2 H2→bw K H2 a xs:=fun {O2 H2} s=>by
  rcases hr with⟨h|⟨o,h⟩,ha⟩|h
  ·exact .inl (.inl (s _ _ h ha).1)
  ·exact .inl (.inr ⟨o,(s _ _ h ha).1⟩)
  ·exact .inr h
 refine⟨fun O2 H2 i s hi=>?_,fun O2 H2 i x H3 s hi y=>?_,fun O2 H2 s=>⟨xs,st s,by rw[r.len];exact aR _⟩⟩
 ·exact⟨xs,xs[i]'(by rw[r.len];exact hi),st s,by simp⟩
 ·obtain⟨rfl,y⟩:=y
  have y:=y xs (st s)
  obtain⟨v,hv,rv⟩:=r.get (i:=i) (d:=ds[i]) (by simp[hi])
  rw[y]at hv;cases hv
  exact⟨aB.refl _,ds[i],by simp[hi],uN e on s rv⟩
theorem PZ{t:TE}{f:Ev→Option (M×D)}(h:JT K t f):JI K (zC K t) (gn f):=by
 intro H₀ O H σ env R m ds Re e q
 obtain⟨⟨m0,d0⟩,ex,e⟩:=ao e
 cases d0<;>simp only at e<;>try (cases e;done)
 cases em:ig m0 with
 |none=>rw[em]at e;cases e
 |some n =>
  rw[em]at e;cases e
  refine h H₀ O H σ env _ _ _ Re ex fun v H1 s1 h1=>?_
  obtain⟨e1,a,xs,rfl,hr,r⟩:=EY em h1
  exact⟨a,rfl,⟨xs,hr.elim (fun z=>.inl z.1) .inr⟩,q _ H1 s1 e1 (MF e1 (Re.keep s1).on hr r)⟩
theorem N5{a:Addr}{xs:List V}{ds:List D}{n:M}(e:dB n=true)(on:∀a o,O a→H a=some o→¬fP o)(hr:bh K H a xs)(r:aq K (NM H₀ O n) H xs ds):iI K H₀ O (A8 K a) H n ds:=by
 have st:∀{O2:Addr→Prop}{H2:Hp},aG O H O2 H2→bh K H2 a xs:=fun {O2 H2} s=>by
  rcases hr with h|h
  ·exact .inl (s _ _ h fun z=>on _ _ z h trivial).1
  ·exact .inr h
 refine⟨fun O2 H2 i s hi=>?_,fun O2 H2 i x H3 s hi y=>?_,fun O2 H2 s=>⟨xs,st s,by rw[r.len];exact aR _⟩⟩
 ·exact⟨xs,xs[i]'(by rw[r.len];exact hi),st s,by simp⟩
 ·obtain⟨rfl,y⟩:=y
  have y:=y xs (st s)
  obtain⟨v,hv,rv⟩:=r.get (i:=i) (d:=ds[i]) (by simp[hi])
  rw[y]at hv;cases hv
  exact⟨aB.refl _,ds[i],by simp[hi],uN e on s rv⟩
noncomputable def xF(f:Ev→Option (M×D)):Ev→Option (M×List D):=fun e=>(f e).bind fun x=>match x.2 with
 |.tup ds=>(ig x.1).map fun m=>(m,ds)
 |_=>none
theorem SM{t:TE}{f:Ev→Option (M×D)}(h:JT K t f):JI K (zQ K t) (xF f):=by
 intro H₀ O H σ env R m ds Re e q
 obtain⟨⟨m0,d0⟩,ex,e⟩:=ao e
 cases d0<;>simp only at e<;>try (cases e;done)
 cases em:ig m0 with
 |none=>rw[em]at e;cases e
 |some n =>
  rw[em]at e;cases e
  refine h H₀ O H σ env _ _ _ Re ex fun v H1 s1 h1=>?_
  obtain⟨a,xs,rfl,hr,r⟩:=h1.tup
  have e1:aI m0=m∧dB m=true:=by clear ex h1 r;cases m0<;>cases em<;>exact⟨rfl,rfl⟩
  rw[e1.1]at r
  exact⟨a,rfl,⟨xs,hr⟩,q _ H1 s1 e1.2 (N5 e1.2 (Re.keep s1).on hr r)⟩
noncomputable def fM(lo:Int)(n:Nat):List D:=(List.range n).map fun(k:Nat)=>.int (lo+(k:Int))
theorem N6{lo:Int}{n:Nat}:iI K H₀ O (xi lo n) H .fr (fM lo n):=by
 have l:(fM lo n).length=n:=by simp[fM]
 refine⟨fun O2 H2 i s hi=>by rw[l]at hi;exact hi,fun O2 H2 i x H3 s hi y=>?_,fun O2 H2 s=>by rw[l];exact aR n⟩
 obtain⟨rfl,rfl⟩:=y
 rw[l]at hi
 exact⟨aB.refl _,.int (lo+i),by simp[fM,hi],Rp.int _⟩
theorem JF:(2:Int)^62=4611686018427387904:=by decide
noncomputable def iJ(fs:Ev→Option (List (M×D))):Ev→Option (M×List D):=fun e=>(fs e).bind fun l=>match l with
 |[(_,.int j)]=>if -4611686018427387904≤j∧j<4611686018427387904 then some (.fr,fM 0 j.toNat)else none
 |_=>none
theorem P0{t:TA}{fs:Ev→Option (List (M×D))}(h:gQ K t fs):JI K (GR t) (iJ fs):=by
 intro H₀ O H σ env R m ds Re e q
 obtain⟨l,el,e⟩:=ao e
 split at e
 ·split at e
  ·rename_i hj
   cases e
   refine h H₀ O H σ env _ _ Re el fun vs H1 s1 h1=>?_
   obtain⟨v,rfl,hv⟩:=h1.one
   obtain rfl:=hv.int
   exact⟨_,rfl,by rw[JF];exact hj.1,by rw[JF];exact hj.2,q _ H1 s1 rfl N6⟩
  ·cases e
 ·cases e
end
section
variable {K:PySem.W.Frag}{H H' H₀:Hp}{I:Nat→Option Addr}{O O':Addr→Prop}{σ:St}{env:Ev}
def JG(K:PySem.W.Frag)(g:TG)(fg:M×D→Ev→Option Ev):Prop :=
 ∀H₀ I O H σ env x v env' Q,Rel K H₀ I O H σ env→dB (Prod.fst x)=true→Val K H₀ O HE H (Prod.fst x) x.2 v→fg x env=some env'→(∀σ',Rel K H₀ I O H σ' env'→Q σ' H)→g v σ H Q
def p7(K:PySem.W.Frag)(g:gP)(fg:M→List D→Ev→Option Ev):Prop :=
 ∀H₀ I O H σ env m ds vs env' Q,Rel K H₀ I O H σ env→dB m=true→aq K (NM H₀ O m) H vs ds→fg m ds env=some env'→(∀σ',Rel K H₀ I O H σ' env'→Q σ' H)→g vs σ H Q
noncomputable def gN(i:Nat):M×D→Ev→Option Ev:=fun x e=>some (e.set i (some x))
theorem P1{i:Nat}:JG K (g7 i) (gN i):=by
 intro H₀ I O H σ env x v env' Q R hm hv e q
 cases e
 obtain⟨m,d⟩:=x
 exact q _ (R.set_plain (by cases m<;>first|rfl|cases hm) (by cases m<;>first|rfl|cases hm) hv)
noncomputable def fG:M→List D→Ev→Option Ev:=fun _ ds e=>match ds with
 |[]=>some e
 |_=>none
noncomputable def b7(f:M×D→Ev→Option Ev)(g:M→List D→Ev→Option Ev):M→List D→Ev→Option Ev:=fun m ds e=>match ds with
 |d::r=>(f (m,d) e).bind fun e'=>g m r e'
 |[]=>none
theorem P2:p7 K HQ fG:=by
 intro H₀ I O H σ env m ds vs env' Q R hm hv e q
 cases hv with
 |nil=>cases e;exact⟨rfl,q _ R⟩
 |cons=>cases e
theorem N7{g:TG}{gs:gP}{f:M×D→Ev→Option Ev}{fs:M→List D→Ev→Option Ev}(h:JG K g f)(hs:p7 K gs fs):p7 K (GQ g gs) (b7 f fs):=by
 intro H₀ I O H σ env m ds vs env' Q R hm hv e q
 cases hv with
 |nil=>cases e
 |@cons v d vs ds hv r =>
  obtain⟨e',e1,e⟩:=ao e
  refine⟨v,vs,rfl,?_⟩
  have cH:Val K H₀ O HE H m d v:=by cases m<;>first|exact hv|cases hm
  exact h H₀ I O H σ env (m,d) v e' _ R hm cH e1 fun σ' R'=>hs H₀ I O H σ' e' m ds vs env' Q R' hm r e q
noncomputable def gT(n:Nat)(f:M→List D→Ev→Option Ev):M×D→Ev→Option Ev:=fun x e=>match x.2 with
 |.tup ds=>if ds.length=n then f (aI x.1) ds e else none
 |_=>none
theorem SN{n:Nat}{gs:gP}{fs:M→List D→Ev→Option Ev}(hs:p7 K gs fs):JG K (HR K n gs) (gT n fs):=by
 intro H₀ I O H σ env x v env' Q R hm hv e q
 obtain⟨m,d⟩:=x
 cases d<;>simp only[gT]at e<;>try (cases e;done)
 split at e
 ·rename_i hl
  obtain⟨a,xs,rfl,Bv,r⟩:=hv.tup
  exact⟨a,xs,rfl,Bv,by rw[r.len];exact hl,hs H₀ I O H σ env (aI m) _ xs env' Q R (by cases m<;>first|rfl|cases hm) r e q⟩
 ·cases e
noncomputable def gL(n:Nat)(f:M→List D→Ev→Option Ev):M×D→Ev→Option Ev:=fun x e=>match x.2 with
 |.lst ds=>if ds.length=n then f (aI x.1) ds e else none
 |_=>none
noncomputable def Aa:M→M
 |.un=>.fr
 |m=>m
noncomputable def wd(fg:M×D→Ev→Option Ev)(f:Ev→Option (M×D)):Ev→Option Fl:=fun e=>(f e).bind fun x=>if dB (Aa x.1)=true then (fg (Aa x.1,x.2) e).bind fun e'=>some (.nx e')else none
theorem SQ{t:TE}{g:TG}{f:Ev→Option (M×D)}{fg:M×D→Ev→Option Ev}(h:JT K t f)(hg:JG K g fg):JS K (gK t g) (wd fg f):=by
 intro H₀ I O H σ env Ds fl R e q
 obtain⟨⟨m,d⟩,ex,e⟩:=ao e
 split at e
 ·rename_i hm
  obtain⟨e',e1,e⟩:=ao e
  cases e
  refine h H₀ O H σ env _ m d R.e ex fun v H1 s1 h1=>?_
  refine hg H₀ I O H1 σ env _ v e' _ (R.keep s1) hm ?_ e1 fun σ' R'=>q O H1 σ' R' (aG.same s1)
  cases m
  ·exact h1
  ·exact h1
  ·exact h1.bO rfl
  ·cases hm
  ·cases hm
  ·cases hm
  ·cases hm
  ·cases hm
 ·cases e
noncomputable def forL(g:M×D→Ev→Option Ev)(b:Ev→Option Fl)(m:M):List D→Ev→Option Fl
 |[],e=>some (.nx e)
 |d::ds,e=>(g (m,d) e).bind fun e1=>(b e1).bind fun r=>match r with
  |.nx e2=>forL g b m ds e2
  |.ct e2=>forL g b m ds e2
  |.bk e2=>some (.nx e2)
  |.rt e2 m' d'=>some (.rt e2 m' d')
noncomputable def fq(it:Ev→Option (M×List D))(g:M×D→Ev→Option Ev)(b:Ev→Option Fl):Ev→Option Fl:=fun e=>(it e).bind fun x=>forL g b x.1 x.2 e
theorem SR{wi:TI}{g:TG}{tb:TS}{it:Ev→Option (M×List D)}{fg:M×D→Ev→Option Ev}{b:Ev→Option Fl}(hi:JI K wi it)(hg:JG K g fg)(hb:JS K tb b):JS K (ko wi g tb) (fq it fg b):=by
 intro H₀ I O H σ env Ds fl R e q
 obtain⟨⟨m,ds⟩,ei,e⟩:=ao e
 refine hi H₀ O H σ env _ m ds R.e ei fun J H1 s1 hm ok=>?_
 have q1:=q.pre (aG.same s1)
 refine⟨fun i n σ2 H2=>∃O2 cO,Rel K H₀ I O2 H2 σ2 cO∧aG O H1 O2 H2∧i≤ds.length∧n=ds.length-i∧forL fg b m (ds.drop i) cO=some fl,⟨_,O,env,R.keep s1,aG.refl,nC _,rfl,e⟩,?_⟩
 rintro i n σ2 H2 ⟨O2,cO,R2,st,hle,rfl,ef⟩
 by_cases aT:i<ds.length
 ·refine .inr ⟨ok.go O2 H2 i st aT,fun σ' H'=>∃O2 cO,Rel K H₀ I O2 H' σ' cO∧aG O H1 O2 H'∧forL fg b m (ds.drop (i+1)) cO=some fl,?_,?_⟩
  ·rintro σ' H' ⟨O3,Ab,R3,f7,Bw⟩
   exact⟨ds.length-(i+1),by omega,O3,Ab,R3,f7,aT,rfl,Bw⟩
  ·intro x H3 y
   obtain⟨s3,d,hd,hv⟩:=ok.ib O2 H2 i x H3 st aT y
   have tL:ds.drop i=d::ds.drop (i+1):=by
    rw[lV aT]
    rw[bP aT]at hd
    cases hd;rfl
   rw[tL]at ef
   simp only[forL]at ef
   obtain⟨e1,g1,ef⟩:=ao ef
   obtain⟨r,br,ef⟩:=ao ef
   refine hg H₀ I O2 H3 σ2 cO (m,d) x e1 _ (R2.keep s3) hm hv g1 fun σ4 R4=>?_
   have k6:=st.trans (aG.same (O:=O2) s3)
   refine hb H₀ I O2 H3 σ4 e1 _ r R4 br ?_
   cases r with
   |nx e2=>exact fun O5 H5 σ5 R5 dR=>⟨O5,e2,R5,k6.trans dR,ef⟩
   |ct e2=>exact fun O5 H5 σ5 R5 dR=>⟨O5,e2,R5,k6.trans dR,ef⟩
   |bk e2=>cases ef;exact(q1.pre k6)
   |rt e2 m' d'=>cases ef;exact(q1.pre k6)
 ·have hi:i=ds.length:=by omega
  subst hi
  rw[A1]at ef
  cases ef
  exact .inl ⟨ok.stop O2 H2 st,q1 O2 H2 σ2 R2 st⟩
noncomputable def dP(c:Ev→Option Bool)(b:Ev→Option Fl):Nat→Ev→Option Fl
 |0,_=>none
 |n+1,e=>(c e).bind fun k=>if k=true then (b e).bind fun r=>(match r with
  |.nx e2=>dP c b n e2
  |.ct e2=>dP c b n e2
  |.bk e2=>some (.nx e2)
  |.rt e2 m' d'=>some (.rt e2 m' d'))else some (.nx e)
theorem uz{c:Ev→Option Bool}{b:Ev→Option Fl}{fl:Fl}:∀{n k:Nat}{e:Ev},n≤k→dP c b n e=some fl→dP c b k e=some fl
 |0,_,_,_,h=>by cases h
 |n+1,0,_,h,_=>by omega
 |n+1,k+1,e,hk,h=>by
  simp only[dP]at h ⊢
  obtain⟨x,ex,h⟩:=ao h
  rw[ex,aC]
  cases x with
  |false=>exact h
  |true =>
   rw[if_pos rfl]at h ⊢
   obtain⟨r,er,h⟩:=ao h
   rw[er,aC]
   cases r with
   |nx e2=>exact uz (by omega) h
   |ct e2=>exact uz (by omega) h
   |bk e2=>exact h
   |rt e2 m' d'=>exact h
open Classical in
noncomputable def mK(c:Ev→Option Bool)(b:Ev→Option Fl):Ev→Option Fl:=fun e=>if h:∃n fl,dP c b n e=some fl then some (Classical.choose (sx h))else none
theorem DJ{c:Ev→Option Bool}{b:Ev→Option Fl}{fl:Fl}{n:Nat}{e:Ev}(h:dP c b n e=some fl):mK c b e=some fl:=by
 have hx:∃n fl,dP c b n e=some fl:=⟨n,fl,h⟩
 unfold mK
 rw[dif_pos hx]
 have s:=sx (sx hx)
 have a:=uz (Nat.le_max_left n (Classical.choose hx)) h
 have b':=uz (Nat.le_max_right n (Classical.choose hx)) s
 rw[a]at b'
 exact b'.symm
theorem L3{c:Ev→Option Bool}{b:Ev→Option Fl}{fl:Fl}{e:Ev}(h:mK c b e=some fl):∃n,dP c b n e=some fl:=by
 unfold mK at h
 split at h
 ·rename_i hx
  cases h
  exact⟨_,sx (sx hx)⟩
 ·cases h
theorem N8{c:TT}{tb:TS}{fc:Ev→Option Bool}{b:Ev→Option Fl}(hc:dW K c fc)(hb:JS K tb b):JS K (za c tb) (mK fc b):=by
 intro H₀ I O H σ env Ds fl R e q
 obtain⟨n,e⟩:=L3 e
 refine⟨fun n σ2 H2=>∃O2 cO,Rel K H₀ I O2 H2 σ2 cO∧aG O H O2 H2∧dP fc b n cO=some fl,⟨n,O,env,R,aG.refl,e⟩,?_⟩
 rintro n σ2 H2 ⟨O2,cO,R2,st,ef⟩
 cases n with
 |zero=>cases ef
 |succ n =>
  simp only[dP]at ef
  obtain⟨k,ek,ef⟩:=ao ef
  refine hc H₀ O2 H2 σ2 cO _ k R2.e ek fun H3 s3=>?_
  have f7:=st.trans (aG.same (O:=O2) s3)
  cases k with
  |false =>
   rw[if_neg a6]at ef ⊢
   cases ef
   exact q O2 H3 σ2 (R2.keep s3) f7
  |true =>
   rw[if_pos rfl]at ef ⊢
   obtain⟨r,er,ef⟩:=ao ef
   refine⟨fun σ' H'=>∃O2 cO,Rel K H₀ I O2 H' σ' cO∧aG O H O2 H'∧dP fc b n cO=some fl,fun σ' H' ⟨O3,e3,R3,s3,f3⟩=>⟨n,Nat.lt_succ_self n,O3,e3,R3,s3,f3⟩,?_⟩
   refine hb H₀ I O2 H3 σ2 cO _ r (R2.keep s3) er ?_
   cases r with
   |nx e2=>exact fun O5 H5 σ5 R5 dR=>⟨O5,e2,R5,f7.trans dR,ef⟩
   |ct e2=>exact fun O5 H5 σ5 R5 dR=>⟨O5,e2,R5,f7.trans dR,ef⟩
   |bk e2=>cases ef;exact(q.pre f7)
   |rt e2 m' d'=>cases ef;exact(q.pre f7)
noncomputable def vC(K:PySem.W.Frag)(H H':Hp):M→D→V→Prop
 |.un,d,v=>∃p,v=.ref p∧H p=none∧Cell K (fun a=>H a=none∧a≠p) H' p d
 |.fr,d,v=>Rp K (fun a=>H a=none) H' v d
 |.ut,d,v=>dz K (fun q=>H q=none) H' d v
 |_,_,_=>False
noncomputable def k7(K:PySem.W.Frag)(n:Nat)(F:List D→Option (M×D)):Sp:=fun vs H Q _=>vs.length=n∧∃ds m d,aq K (fun _=>True) H vs ds∧F ds=some (m,d)∧∀v H',aB H H'→vC K H H' m d v→Q v H'
noncomputable def out:Fl→Option (M×D)
 |.nx _=>some (.fr,.non)
 |.rt _ .un d=>some (.un,d)
 |.rt _ .bo d=>some (.un,d)
 |.rt _ .fr d=>some (.fr,d)
 |.rt _ .rb d=>some (.fr,d)
 |.rt _ .nb d=>some (.fr,d)
 |.rt _ .ut d=>some (.ut,d)
 |.rt _ .al d=>if d.bG=true then some (.fr,d)else none
 |_=>none
noncomputable def fn(L:Nat)(g:Ev→Option Fl):List D→Option (M×D):=fun ds=>(g (ds.map (fun d=>some (.al,d))++List.replicate (L-ds.length) none)).bind out
theorem MG{vs:List V}{ds:List D}(r:aq K (fun _=>True) H vs ds)(k:Nat):Paired (fun(e:Option (M×D)) (x:Option V)=>∀m d,e=some (m,d)→ic m=true∧∃v,x=some v∧Val K H (fun _=>False) HE H m d v) (ds.map (fun d=>some (.al,d))++List.replicate k none) (vs.map some++List.replicate k none):=by
 have rep:∀k,Paired (fun(e:Option (M×D)) (x:Option V)=>∀m d,e=some (m,d)→ic m=true∧∃v,x=some v∧Val K H (fun _=>False) HE H m d v) (List.replicate k none) (List.replicate k none):=fun k=>by
  induction k with
  |zero=>exact .nil
  |succ k ih=>exact .cons (fun m d e=>nomatch e) ih
 have go:∀{vs:List V}{ds:List D},aq K (fun _=>True) H vs ds→Paired (fun(e:Option (M×D)) (x:Option V)=>∀m d,e=some (m,d)→ic m=true∧∃v,x=some v∧Val K H (fun _=>False) HE H m d v) (ds.map (fun d=>some (.al,d))++List.replicate k none) (vs.map some++List.replicate k none):=by
  intro vs ds
  induction vs generalizing ds with
  |nil=>intro r;cases r;exact rep k
  |cons v vs ih=>intro r;cases r with|cons h r=>exact .cons (fun m d e=>by cases e;exact⟨rfl,v,rfl,h.wk fun _ _ _ z=>z⟩) (ih r)
 exact go r
theorem MH{ds:List D}{k i:Nat}{d:D}(h:(ds.map (fun d=>some (M.al,d))++List.replicate k none)[i]?=some (some (M.bi,d))):False:=by
 have hm:=fB h
 rcases fX.mp hm with z|z
 ·obtain⟨d,_,e⟩:=de.mp z;cases e
 ·have:=w5 z;cases this
theorem Dj{ds:List D}{k i:Nat}{d:D}(h:(ds.map (fun d=>some (M.al,d))++List.replicate k none)[i]?=some (some (M.nb,d))):False:=by
 have hm:=fB h
 rcases fX.mp hm with z|z
 ·obtain⟨d,_,e⟩:=de.mp z;cases e
 ·have:=w5 z;cases this
theorem EZ{ts:TS}{g:Ev→Option Fl}{n:Nat}{N:List Str}{vs:List V}{Q:VK}{E:XK}(h:JS K ts g)(hs:k7 K n (fn N.length g) vs H Q E):ts { nx:=fun _ H'=>Q .non H',rt:=Q } (L2.start N vs) H:=by
 obtain⟨hl,ds,m,d,r,e,q⟩:=hs
 obtain⟨fl,ef,eo⟩:=ao e
 have R:Rel K H (fun _=>none) (fun _=>False) H (L2.start N vs) (ds.map (fun d=>some (.al,d))++List.replicate (N.length-ds.length) none) :=
  ⟨⟨by unfold L2.start;rw[r.len];exact MG r _,fun _ z=>z.elim,fun a o e=>⟨o,e⟩,fun _ _ z=>z.elim⟩,fun a o _ e=>e,fun _ z=>z.elim,fun i d p h1=>(MH h1).elim,(fun i j x y p h1 h2 o1 o2=>by
   exfalso
   have k:∀{i:Nat}{x:M×D},(ds.map (fun d=>some (M.al,d))++List.replicate (N.length-ds.length) none)[i]?=some (some x)→x.1=.al:=fun {i x} h=>by
    have hm:=fB h
    rcases fX.mp hm with z|z
    ·obtain⟨d,_,e⟩:=de.mp z;cases e;rfl
    ·have:=w5 z;cases this
   rw[k h1]at o1;cases o1),⟨fun i j d d' h1=>(Dj h1).elim,fun i j d x p q xs h1=>(Dj h1).elim⟩⟩
 refine h H (fun _=>none) (fun _=>False) H _ _ _ fl R ef ?_
 cases fl with
 |nx e'=>cases eo;exact fun O' H' σ' R' st=>q .non H' (fun a o e=>R'.fr a o (fun _ z=>nomatch z) e) Rp.non
 |bk e'=>cases eo
 |ct e'=>cases eo
 |rt e' m' d' =>
  intro O' H' σ' v R' st hv
  have sm:aB H H':=fun a o e=>R'.fr a o (fun _ z=>nomatch z) e
  cases m'<;>simp only[out]at eo
  ·split at eo
   ·rename_i hi;cases eo;exact q v H' sm (show Rp K _ H' v d from hv.weak.im hi)
   ·cases eo
  ·cases eo;exact q v H' sm (show Rp K _ H' v d from Rp.wk (fun a h _=>h.2) hv)
  ·cases eo
   obtain⟨p,rfl,_,h0,_,c⟩:=hv
   exact q _ H' sm ⟨p,rfl,h0,c.wk fun a h _=>⟨h.1.2,h.2⟩⟩
  ·cases eo
   obtain⟨p,rfl,hO,h0,c⟩:=hv
   exact q _ H' sm ⟨p,rfl,h0,c.wk fun a h _=>⟨h.2,fun z=>h.1 (z▸hO)⟩⟩
  ·cases eo
  ·cases eo;exact q v H' sm (show Rp K _ H' v d from hv)
  ·cases eo;exact q v H' sm (show Rp K _ H' v d from hU.rp (fun _ z=>z) hv)
  ·cases eo;exact q v H' sm (show dz K _ H' d v from dz.wk (fun q z=>z.2.1) hv)
noncomputable def aJ(F:List D→Option (M×D))(fs:Ev→Option (List (M×D))):Ev→Option (M×D):=fun e=>(fs e).bind fun ak=>F (ak.map (·.2))
theorem yR{m:M}{d:D}{v:V}(od:∀a,O a→∃o,H a=some o)(hd:∀a o,H₀ a=some o→∃o',H a=some o')(h:vC K H H' m d v):Val K H₀ O H H' m d v:=by
 cases m<;>try exact h.elim
 ·exact Rp.wk (fun a h _=>⟨ip od h,lC hd h⟩) h
 ·obtain⟨p,rfl,hp,c⟩:=h
  exact⟨p,rfl,hp,lC hd hp,ip od hp,c.wk fun a h _=>⟨⟨ip od h.1,lC hd h.1⟩,h.2⟩⟩
 ·exact dz.wk (fun q z=>⟨z,lC hd z,ip od z⟩) h
theorem P4{n:Nat}{F:List D→Option (M×D)}{ta:TA}{fs:Ev→Option (List (M×D))}{E:XK}(ha:gQ K ta fs)(hl:∀e ak,fs e=some ak→ak.length=n):JT K (j8 (k7 K n F) [] E ta) (aJ F fs):=by
 intro H₀ O H σ env Q m d R h q
 obtain⟨ak,e,h⟩:=ao h
 refine ha H₀ O H σ env _ ak R e fun vs H1 s1 h1=>?_
 have R1:=R.keep s1
 rw[nB]
 refine⟨by rw[←cK h1];exact hl _ _ e,ak.map (·.2),m,d,h1.gf (fun md hm v hv=>hv.weak),h,fun v H2 s2 h2=>?_⟩
 exact q v H2 (s1.trans s2) ((yR R1.od R1.hd h2).hb fun a z=>s1.free z)
end
section
variable {K:PySem.W.Frag}{H H' H₀:Hp}{O O':Addr→Prop}{σ:St}{env:Ev}
noncomputable def eQ:M×D→Option (M×D)
 | (_,.int i)=>some (.fr,.int (-i))
 |_=>none
theorem SV:JU K (rU fun i=>.int (-i)) eQ:=by
 intro H₀ O H x a Q m d _ _ h1 h q
 obtain⟨ma,da⟩:=a
 cases da<;>cases h
 exact⟨_,h1.int,q _ H (aB.refl H) kc⟩
noncomputable def mP:=p6 Builtin.bitAnd
noncomputable def m7:=p6 Builtin.bitOr
noncomputable def mQ:=p6 Builtin.bitXor
theorem P5:JR K (dS fun i j=>.int (Builtin.bitAnd i j)) mP:=qY
theorem SW:JR K (dS fun i j=>.int (Builtin.bitOr i j)) m7:=qY
theorem P6:JR K (dS fun i j=>.int (Builtin.bitXor i j)) mQ:=qY
def G9(i j:Int):Prop:=0<j∧j<1606938044258990275541962092341162602522202993782792835301376
noncomputable def bC:=gI (fun _ j=>0<j∧j<1606938044258990275541962092341162602522202993782792835301376) (· / ·)
theorem P7:JR K (rI G9 fun i j=>.int (i/j)) bC:=v9 fun _ _ h=>h
theorem log2_lt{n:Nat}(h:n<2^200):n.log2<9000:=by
 rcases Nat.eq_zero_or_pos n with rfl|h0
 ·decide
 ·exact Nat.lt_trans ((Nat.log2_lt (by omega)).mpr h) (by decide)
theorem N9{X:Cx}:bz X (binaryOp .FloorDiv) (rI G9 fun i j=>.int (i/j)):=xk fun i j _ _ _ _ _ hc q=>by
 have e:i/j=i.fdiv j:=(Int.fdiv_eq_ediv_of_nonneg i (Int.le_of_lt hc.1)).symm
 rw[e]at q
 have h1:=hc.1
 have h2:=hc.2
 have hl:j.natAbs<2^200:=by
  have e2:(2:Nat)^200=1606938044258990275541962092341162602522202993782792835301376:=by decide
  rw[e2];omega
 exact PyProof.Rows.floordiv_int (Int.ne_of_gt hc.1) q (.inl (PyProof.noPylong_of_log2 (log2_lt hl)))
theorem P8{X:Cx}:bz X (binaryOp .Add) (vB X.K):=by
 intro pins s σ H x y v u Q I rx ry h
 obtain⟨l,b,xs,zs,rfl,rfl,hl,hb,hz,q⟩:=h
 cases (show v=Value.ref l from rx)
 cases (show u=Value.ref b from ry)
 obtain⟨its,r,pl,_⟩:=I.list hl
 obtain⟨rK,r2,pm,_⟩:=I.list hb
 obtain⟨⟨cls,dd,data,sl⟩,ho,hc,n,hd⟩:=pl.isList
 obtain⟨⟨Vv,xq,data2,pW⟩,jL,mh,n2,hd2⟩:=pm.isList
 simp only at hc hd mh hd2
 subst hc hd mh hd2
 have ea:its.toArray++rK.toArray=(its++rK).toArray:=by simp
 have e1:=r.length
 have e2:=r2.length
 refine wO ⟨_,ho,rfl⟩ ⟨_,jL,rfl⟩ noFill_list_add seq_list_add PySem.F.slot_list_add PySem.F.entry_list_add (PySem.F.args_list_add_2 _ _) (PyProof.Rows.list_addW l b its.toArray rK.toArray n n2 dd xq sl pW (by rw[fY,fY];omega)) ⟨ho,jL,?_⟩
 rw[ea]
 exact⟨.ref _,_,I.Vz (t':=s.toks) (r.append r2) (by rw[cg];omega),rfl,q _ I.fresh⟩
theorem Oa{X:Cx}(h:X.K=K):bz X (binaryOp .Add) (vB K):=by subst h;exact P8
theorem Ob{r r':R2}{g g':M×D→M×D→Option (M×D)}{ta tb tc:TE}{fa fb fc:Ev→Option (M×D)}(hr:JR K r g)(WV:JR K r' g')(ha:JT K ta fa)(hb:JT K tb fb)(hc:JT K tc fc):JT K (FI r r' ta tb tc) (F0 g g' fa fb fc):=by
 intro H₀ O H σ env Q m d R h q
 obtain⟨a,ea,h⟩:=ao h
 obtain⟨b,eb,h⟩:=ao h
 obtain⟨z,ez,h⟩:=ao h
 obtain⟨k,ek,h⟩:=ao h
 refine ha H₀ O H σ env _ a.1 a.2 R ea fun x H1 s1 h1=>?_
 refine hb H₀ O H1 σ env _ b.1 b.2 (R.keep s1) eb fun y H2 s2 h2=>?_
 have R2:=(R.keep s1).keep s2
 refine hr H₀ O H2 x y a b _ z.1 z.2 R2.od R2.hd (h1.keep s2).h0 h2.h0 ez fun v H3 s3 h3=>?_
 rw[oB ek]at h3
 refine⟨k,h3.bl,?_⟩
 cases k with
 |false =>
  rw[if_neg a6]at h ⊢
  cases h
  exact q _ H3 ((s1.trans s2).trans s3) dG
 |true =>
  rw[if_pos rfl]at h ⊢
  obtain⟨c,ec,h⟩:=ao h
  refine hc H₀ O H3 σ env _ c.1 c.2 (R2.keep s3) ec fun w H4 s4 h4=>?_
  have R4:=(R2.keep s3).keep s4
  refine WV H₀ O H4 y w b c Q m d R4.od R4.hd ((h2.keep s3).keep s4).h0 h4.h0 h fun v H5 s5 h5=>?_
  have s:=((s1.trans s2).trans s3).trans s4
  exact q v H5 (s.trans s5) (h5.hb fun a z=>s.free z)
noncomputable def pw:List D→Option (List V)
 |[]=>some []
 |d::ds=>(eW d).bind fun v=>(pw ds).bind fun r=>some (v::r)
theorem E1{N:Addr→Prop}:∀{ds:List D}{vs ws:List V},aq K N H vs ds→pw ds=some ws→vs=ws∧ws.all jm=true
 |_,_,_,.nil,e=>by cases e;exact⟨rfl,rfl⟩
 |d::ds,v::vs,ws,.cons h r,e=>by
  obtain⟨w,ew,e⟩:=ao e
  obtain⟨r',er,e⟩:=ao e
  cases e
  obtain⟨rfl,f⟩:=E1 r er
  obtain rfl:=oP h ew
  refine⟨rfl,?_⟩
  rw[jF,f,Bool.and_true]
  cases h<;>simp only[eW]at ew<;>first|rfl|cases ew
noncomputable def pA:D→Option (List D)
 |.lst ds=>some ds
 |.tup ds=>some ds
 |_=>none
noncomputable def m8(neg:Bool):M×D→M×D→Option (M×D):=fun a b=>(eW a.2).bind fun x=>(pA b.2).bind fun ds=>(pw ds).bind fun vs=>some (.fr,.bl (if neg then !dU x vs else dU x vs))
theorem seq_val{m:M}{d:D}{ds:List D}{v:V}{Hb:Hp}(e:pA d=some ds)(h:Val K H₀ O Hb H m d v):∃p xs,v=.ref p∧(bw K H p xs∨bh K H p xs)∧aq K (NM H₀ O (aI m)) H xs ds:=by
 cases d<;>simp only[pA]at e<;>cases e
 ·obtain⟨p,xs,rfl,h,r⟩:=h.tup;exact⟨p,xs,rfl,.inr h,r⟩
 ·obtain⟨p,xs,rfl,h,r⟩:=h.lst;exact⟨p,xs,rfl,.inl h,r⟩
theorem Oc{d:D}{x:V}(e:eW d=some x):jm x=true:=by
 cases d<;>simp only[eW]at e<;>cases e<;>rfl
theorem UD{neg:Bool}:JR K (Be K neg) (m8 neg):=by
 intro H₀ O H x y a b Q m d _ _ h1 h2 h q
 obtain⟨x',ex,h⟩:=ao h
 obtain⟨ds,ed,h⟩:=ao h
 obtain⟨vs,ev,h⟩:=ao h
 cases h
 obtain⟨p,xs,rfl,hs,r⟩:=seq_val ed h2
 obtain⟨rfl,f⟩:=E1 r ev
 obtain rfl:=oP h1.weak ex
 exact⟨p,_,rfl,hs,Oc ex,f,q _ H (aB.refl H) dG⟩
theorem Od{m:M}(h:dB m=true):ic m=true:=by cases m<;>first|rfl|cases h
noncomputable def ft:Ev→Option Bool:=fun _=>some true
theorem E2:dW K v7 ft:=by
 intro H₀ O H σ env Q b R h q
 cases h
 exact q H (aB.refl H)
noncomputable def mw(e:Ev)(ix:List Nat):Ev:=ix.map fun i=>(e[i]?).getD none
noncomputable def fU(fc:Ev→Option Bool)(fe:Ev→Option (M×D))(m:M)(fr:Ev):List D→Option (List (M×D))
 |[]=>some []
 |d::ds=>(fc (some (m,d)::fr)).bind fun b=>if b=true then (fe (some (m,d)::fr)).bind fun x=>(fU fc fe m fr ds).bind fun r=>some (x::r)else fU fc fe m fr ds
noncomputable def gF(it:Ev→Option (M×List D))(ix:List Nat)(fc:Ev→Option Bool)(fe:Ev→Option (M×D)):Ev→Option (M×D):=fun e=>(it e).bind fun x=>(fU fc fe x.1 (mw e ix) x.2).bind eJ
theorem cZ.fr{ix:List Nat}(R:cZ K H₀ O H σ env):Paired (fun(e:Option (M×D)) (x:Option V)=>∀m d,e=some (m,d)→ic m=true∧∃v,x=some v∧Val K H₀ O HE H m d v) (mw env ix) (eZ σ ix):=by
 unfold mw eZ
 induction ix with
 |nil=>exact .nil
 |cons i ix ih =>
  refine .cons (fun m d e=>?_) ih
  have e':env[i]?=some (some (m,d)):=by
   have e:(env[i]?).getD none=some (m,d):=e
   cases q:env[i]? with
   |none=>rw[q]at e;cases e
   |some z=>rw[q]at e;exact cf some e
  obtain⟨v,hv,n,h⟩:=R.at e'
  exact⟨n,v,by show(σ[i]?).getD none=_;rw[hv];rfl,h⟩
theorem cZ.more{C:Addr}(R:cZ K H₀ O H σ env)(hC:H C=none){H2:Hp}(s:aB H H2)(ys:List V)(e:H2 C=some (.lst ys)):cZ K H₀ (fun a=>O a∨a=C) H2 σ env:=by
 have np:∀a,(∃o,H a=some o)→a≠C:=fun a ⟨o,e⟩=>eC e hC
 have w:∀{N:Addr→Prop}{d:D}{v:V},Rp K N H v d→Rp K (fun a=>N a∧a≠C) H2 v d:=fun r=>(r.wk fun a n e=>⟨n,np a e⟩).keep (.same s)
 have ws:∀{N:Addr→Prop}{d:D}{q:Addr},Cell K N H q d→Cell K (fun a=>N a∧a≠C) H2 q d:=fun {N d q} r=>by
  obtain⟨o,e,_⟩:=r.some
  exact(r.wk fun a n e=>⟨n,np a e⟩).keep (.same s) ((s _ _ e).trans e.symm)
 refine⟨j9 (fun e x h m d q=>?_) R.sl,fun a h=>?_,fun a o h=>?_,fun a o h q=>?_⟩
 ·obtain⟨n,v,rfl,z⟩:=h m d q
  refine⟨n,v,rfl,?_⟩
  cases m
  ·exact(w z).wk fun a h _=>fun z=>z.elim h.1 h.2
  ·exact(w z).wk fun a h _=>⟨fun z=>z.elim h.1.1 h.2,h.1.2⟩
  ·cases n
  ·obtain⟨q,rfl,h1,h2,c'⟩:=z
   exact⟨q,rfl,.inl h1,h2,(ws c').wk fun a h _=>⟨fun z=>z.elim h.1.1 h.2,h.1.2⟩⟩
  ·obtain⟨q,rfl,h1,c'⟩:=z
   exact⟨q,rfl,.inl h1,(ws c').wk fun a h _=>⟨fun z=>z.elim h.1.1 h.2,h.1.2⟩⟩
  ·cases n
  ·obtain⟨q,qs,aK,e1,e2,h1,h2,h3,h4,h5,h6⟩:=z
   exact⟨q,qs,aK,e1,e2,.inl h1,h2,s _ _ h3,h4,fun x hx=>⟨.inl (h5 x hx).1,(h5 x hx).2⟩,jh (fun x ds _ ⟨xs,a,r⟩=>⟨xs,s _ _ a,((r.wk fun a n e=>(⟨n,np a e⟩:(¬O a∧H₀ a=none)∧a≠C)).keep (.same s)).wk fun a h _=>⟨fun z=>z.elim h.1.1 h.2,h.1.2⟩⟩) h6⟩
  ·cases n
 ·rcases h with h|rfl
  ·obtain⟨o,q⟩:=R.od a h;exact⟨o,s _ _ q⟩
  ·exact⟨_,e⟩
 ·obtain⟨o',q⟩:=R.hd a o h;exact⟨o',s _ _ q⟩
 ·rcases h with h|rfl
  ·exact(R.keep s).on a o h q
  ·rw[e]at q;cases q;exact fun z=>z
theorem DK{J:It}{m:M}{ds:List D}{tc:TT}{te:TE}{fc:Ev→Option Bool}{fe:Ev→Option (M×D)}{H1:Hp}{ix:List Nat}{nQ:List (M×D)}{bb:Bool}{Q:Addr→Hp→Prop}{C:Addr}
  (R:cZ K H₀ O H1 σ env) (hm:dB m=true) (ok:iI K H₀ O J H1 m ds) (hc:dW K tc fc) (he:JT K te fe) (hl:nQ.length≤sizeLine) (et:fU fc fe m (mw env ix) ds=some nQ)
  (hs:∀x∈nQ,(if bb then bO x.1 x.2 else gi x.1 x.2)=true) (hC:H1 C=none)
  (q:∀ys H',aB H1 H'→H' C=some (.lst ys)→aq K (fun a=>¬(O a∨a=C)∧(bb=true→H₀ a=none)) H' ys (nQ.map (·.2))→Q C H'):qX J C H1 (eZ σ ix) tc te Q:=by
 have hN:∀{N:Addr→Prop}{Ha Hb:Hp},(∀a,N a→a≠C)→(∀b o,b≠C→Ha b=some o→Hb b=some o)→(∀o,Ha C=some o→¬fP o)→Keeps N Ha Hb:=fun w s nt a o e z=>s a o (by
  rcases z with z|z
  ·exact w a z
  ·rintro rfl;exact nt o e z) e
 refine⟨fun i n H2=>n=ds.length-i∧i≤ds.length∧aB H1 H2∧∃ys acc rest,H2 C=some (.lst ys)∧fU fc fe m (mw env ix) (ds.drop i)=some rest∧nQ=acc++rest∧aq K (fun a=>¬(O a∨a=C)∧(bb=true→H₀ a=none)) H2 ys (acc.map (·.2)),⟨_,rfl,nC _,cu hC,[],[],nQ,bf,et,rfl,.nil⟩,?_⟩
 rintro i n H2 ⟨rfl,hle,s2,ys,acc,rest,nL,er,pB,rr⟩
 have eV:aG O H1 O H2:=aG.same s2
 by_cases aT:i<ds.length
 ·refine .inr ⟨ok.go O H2 i eV aT,fun x H3 y=>?_⟩
  have VN:aG O H1 (fun a=>O a∨a=C) H2:=fun a o e n=>⟨s2 a o e,fun z=>z.elim n (eC e hC)⟩
  obtain⟨s3,d,hd,hv⟩:=ok.ib (fun a=>O a∨a=C) H2 i x H3 VN aT y
  have R2:=R.more hC s2 ys nL
  have R3:=R2.keep s3
  have JH:cZ K H₀ (fun a=>O a∨a=C) H3 (some x::eZ σ ix) (some (m,d)::mw env ix) :=
   ⟨.cons (fun m' d' e=>by cases e;exact⟨Od hm,x,rfl,hv⟩) R3.fr,R3.od,R3.hd,R3.on⟩
  have tL:ds.drop i=d::ds.drop (i+1):=by
   rw[lV aT]
   rw[bP aT]at hd
   cases hd;rfl
  rw[tL]at er
  simp only[fU]at er
  obtain⟨b,eb,er⟩:=ao er
  refine hc H₀ _ H3 _ _ _ b JH eb fun H4 s4=>?_
  cases b with
  |true =>
   rw[if_pos rfl]at er ⊢
   obtain⟨z,ez,er⟩:=ao er
   obtain⟨r',WW,er⟩:=ao er
   cases er
   refine he H₀ _ H4 _ _ _ z.1 z.2 (JH.keep s4) ez fun w H5 s5 h5=>?_
   have xG:aB H2 H5:=(s3.trans s4).trans s5
   have JK:ys.length=acc.length:=by rw[rr.len,a7]
   have WX:acc.length<sizeLine:=by
    have e1:=cf List.length pB
    rw[cg,cB]at e1
    omega
   refine⟨ys,xG _ _ nL,by rw[JK];exact WX,ds.length-(i+1),by omega,rfl,aT,?_,ys++[w],acc++[z],r',bf,WW,by rw[pB,List.append_assoc];rfl,?_⟩
   ·intro a o e
    rw[az (eC e hC)]
    exact xG _ _ (s2 _ _ e)
   ·rw[dh]
    have hz:Rp K (fun a=>¬(O a∨a=C)∧(bb=true→H₀ a=none)) H5 w z.2:=by
     have h:=hs z (by rw[pB];exact iQ _ cM)
     cases bb with
     |true=>exact(h5.bO h).wk fun a h _=>⟨h.1,fun _=>h.2⟩
     |false=>exact(h5.gi h).wk fun a h _=>⟨h,fun z=>nomatch z⟩
    have kp:Keeps (fun a=>¬(O a∨a=C)∧(bb=true→H₀ a=none)) H5 (upd H5 C (.lst (ys++[w]))):=hN (fun a h z=>h.1 (.inr z)) (fun b o ne e=>by rw[az ne];exact e) (fun o e=>by rw[xG _ _ nL]at e;cases e;exact fun z=>z)
    exact((rr.keep (.same xG)).keep kp).app (.cons (hz.keep kp) .nil)
  |false =>
   rw[if_neg a6]at er ⊢
   have Bx:=s3.trans s4
   exact⟨ds.length-(i+1),by omega,rfl,aT,s2.trans Bx,ys,acc,rest,Bx _ _ nL,er,pB,rr.keep (.same Bx)⟩
 ·have hi:i=ds.length:=by omega
  subst hi
  rw[A1]at er
  cases er
  rw[nB]at pB
  subst pB
  exact .inl ⟨ok.stop O H2 eV,q ys H2 s2 nL rr⟩
theorem uO{wi:TI}{ix:List Nat}{tc:TT}{te:TE}{it:Ev→Option (M×List D)}{fc:Ev→Option Bool}{fe:Ev→Option (M×D)}(hi:JI K wi it)(hc:dW K tc fc)(he:JT K te fe):JT K (oO wi ix tc te) (gF it ix fc fe):=by
 intro H₀ O H σ env Q m d R e q
 obtain⟨⟨mi,ds⟩,ei,e⟩:=ao e
 obtain⟨nQ,et,e⟩:=ao e
 refine hi H₀ O H σ env _ mi ds R ei fun J H1 s1 hm ok C hC=>?_
 have R1:=R.keep s1
 unfold eJ at e
 split at e
 ·rename_i hl
  split at e
  ·rename_i ha
   cases e
   rw[jG]at ha
   refine DK (bb:=true) R1 hm ok hc he hl et (fun x hx=>ha x hx) hC fun ys H' s' hy r=>?_
   refine q _ H' (s1.trans s') ⟨C,rfl,s1.free hC,lC R1.hd hC,ip R1.od hC,ys,hy,r.wk fun a h _=>⟨⟨fun z=>h.1 (.inl z),h.2 rfl⟩,fun z=>h.1 (.inr z)⟩⟩
  ·split at e
   ·rename_i ha
    cases e
    rw[jG]at ha
    refine DK (bb:=false) R1 hm ok hc he hl et (fun x hx=>ha x hx) hC fun ys H' s' hy r=>?_
    exact q _ H' (s1.trans s') (Rp.lst (.inl hy) (ip R1.od hC) (r.wk fun a h _=>fun z=>h.1 (.inl z)))
   ·cases e
 ·cases e
theorem P9:∀e ak,ah e=some ak→ak.length=0:=fun e ak h=>by cases h;rfl
theorem Oe{n:Nat}{f:Ev→Option (M×D)}{g:Ev→Option (List (M×D))}(h:∀e ak,g e=some ak→ak.length=n):∀e ak,ag f g e=some ak→ak.length=n+1:=fun e ak q=>by
 obtain⟨x,ex,q⟩:=ao q
 obtain⟨r,er,q⟩:=ao q
 cases q
 rw[cB,h e r er]
end
section
variable {K:PySem.W.Frag}{H H' H₀:Hp}{O O':Addr→Prop}{σ:L2.St}{env:Ev}
theorem Ac{X:Cx}{f:Value→Value→Sem Value}{r r':R2}(h:bz X f r)(h':bz X f r'):bz X f (fun x y H Q=>r x y H Q∨r' x y H Q) :=
 fun pins s σ H x y v u Q I rx ry q=>q.elim (h pins s σ H x y v u Q I rx ry) (h' pins s σ H x y v u Q I rx ry)
noncomputable def nR(g g':M×D→M×D→Option (M×D)):M×D→M×D→Option (M×D):=fun a b=>match g a b with
 |some z=>some z
 |none=>g' a b
theorem zF{r r':R2}{g g':M×D→M×D→Option (M×D)}(h:JR K r g)(h':JR K r' g'):JR K (fun x y H Q=>r x y H Q∨r' x y H Q) (nR g g'):=by
 intro H₀ O H x y a b Q m d od hd h1 h2 e q
 unfold nR at e
 split at e
 ·rename_i z ez;cases e;exact .inl (h H₀ O H x y a b Q m d od hd h1 h2 ez q)
 ·exact .inr (h' H₀ O H x y a b Q m d od hd h1 h2 e q)
noncomputable def oR:M×D→M×D→Option (M×D)
 | (_,.str x),(_,.str y)=>if x.length+y.length≤sizeLine then some (.fr,.str (x++y))else none
 |_,_=>none
theorem Qa:JR K (fun x y H Q=>∃i j,x=.str i∧y=.str j∧i.length+j.length≤sizeLine∧Q (.str (i++j)) H) oR:=by
 intro H₀ O H x y a b Q m d _ _ h1 h2 h q
 obtain⟨ma,da⟩:=a;obtain⟨mb,db⟩:=b
 cases da<;>try (cases h;done)
 cases db<;>try (cases h;done)
 simp only[oR]at h
 split at h
 ·rename_i hl;cases h
  exact⟨_,_,h1.str,h2.str,hl,q _ H (aB.refl H) vA⟩
 ·cases h
noncomputable def vD(K:PySem.W.Frag):R2:=fun x y H Q=>∃a b xs ys,x=.ref a∧y=.ref b∧bh K H a xs∧bh K H b ys∧xs.length+ys.length≤sizeLine∧∀p H',aB H H'→bh K H' p (xs++ys)→Q (.ref p) H'
theorem Qb{X:Cx}:bz X (binaryOp .Add) (vD X.K):=by
 intro pins s σ H x y v u Q I rx ry h
 obtain⟨a,b,xs,ys,rfl,rfl,ha,hb,hz,q⟩:=h
 by_cases e:xs=[]
 ·subst e
  cases rx;cases ry
  obtain⟨its,r1,p1,_⟩:=I.tuple ha;obtain⟨rK,r2,p2,_⟩:=I.tuple hb
  cases r1
  exact NX p1 p2 ⟨.ref b,H,I,rfl,q b H (aB.refl H) hb⟩
 ·refine Pn pins s σ H (.ref a) (.ref b) v u Q I rx ry ⟨a,b,xs,ys,rfl,rfl,ha,hb,e,hz,fun e2=>?_,fun _ p hp=>q p _ (cu hp) (bh.of bf)⟩
  subst e2
  exact q a H (aB.refl H) (by rw[nB];exact ha)
theorem Og{X:Cx}(h:X.K=K):bz X (binaryOp .Add) (vD K):=by subst h;exact Qb
noncomputable def oS:M×D→M×D→Option (M×D)
 | (m,.tup ds),(n,.tup es)=>if aI m=.rb∨aI n=.rb then none else if ds.length+es.length≤sizeLine then some (aI (mJ m n),.tup (ds++es))else none
 |_,_=>none
theorem Qc:JR K (vD K) oS:=by
 intro H₀ O H x y a b Q m d od hd h1 h2 h q
 obtain⟨ma,da⟩:=a;obtain⟨mb,db⟩:=b
 cases da<;>try (cases db<;>cases h;done)
 cases db<;>try (cases h;done)
 simp only[oS]at h
 split at h
 ·cases h
 ·rename_i hn
  split at h
  ·rename_i hl
   cases h
   obtain⟨p,xs,rfl,r,s⟩:=h1.tup
   obtain⟨p',Bt,rfl,r',s'⟩:=h2.tup
   have n1:aI ma≠.rb:=fun z=>hn (.inl z)
   have n2:aI mb≠.rb:=fun z=>hn (.inr z)
   refine⟨p,p',xs,Bt,rfl,rfl,r,r',by rw[s.len,s'.len];exact hl,fun l H' sm hq=>q _ _ sm (Val.el (Rp.tup hq ?_))⟩
   exact(aq.app (s.wk fun _ h _=>NM.JB n1 n2 h) (s'.wk fun _ h _=>NM.JC n1 n2 h)).keep (.same sm)
  ·cases h
def Ad(K:PySem.W.Frag):V→Option Int→Option Int→Hp→VK→Prop:=fun x lo hi H Q=>∃a xs,x=.ref a∧bh K H a xs∧∀p H',aB H H'→bh K H' p (iH xs lo hi)→Q (.ref p) H'
theorem Qe{X:Cx}:kU X (Ad X.K):=by
 intro pins s σ H x v vl vu lo hi sl Q I rx hs pl pu h
 obtain⟨a,xs,rfl,hx,q⟩:=h
 by_cases e:HT.aS xs.length 0 lo=0∧HT.aS xs.length xs.length hi=xs.length
 ·cases rx
  obtain⟨its,r,ht,hz⟩:=I.tuple hx
  have hlen:its.toArray.size=xs.length:=by rw[fY];exact r.length.symm
  refine⟨"tuple",_,pK.lookup,ht.typeIs,Ld ht hs pl pu (by rw[hlen];exact e.1) (by rw[hlen];exact e.2) ⟨.ref a,H,I,rfl,q a H (aB.refl H) ?_⟩⟩
  have ec:iH xs lo hi=xs:=by unfold iH;rw[e.1,e.2,List.drop_zero,Nat.sub_zero];exact List.take_of_length_le (aR _)
  rw[ec];exact hx
 ·exact RM pins s σ H (.ref a) v vl vu lo hi sl Q I rx hs pl pu ⟨a,xs,rfl,hx,e,fun p hp=>q p _ (cu hp) (bh.of bf)⟩
noncomputable def Ii:M×D→Option Int→Option Int→Option (M×D)
 | (m,.tup ds),lo,hi=>some (aI m,.tup (cut ds lo hi))
 |_,_,_=>none
theorem Qf:mv K (Ad K) Ii:=by
 intro H₀ O H x lo hi a Q m d od hd h1 h q
 obtain⟨ma,da⟩:=a
 cases da<;>try (cases h;done)
 cases h
 obtain⟨p,xs,rfl,r,s⟩:=h1.tup
 exact⟨p,xs,rfl,r,fun l H' sm hq=>q _ _ sm (Val.el (Rp.tup hq (s.cut.keep (.same sm))))⟩
noncomputable def Ae:M×D→Option Int→Option Int→Option (M×D)
 | (_,.str z),lo,hi=>if z.length≤sizeLine then some (.fr,.str (Txt.slice z lo hi))else none
 |_,_,_=>none
theorem Qg:mv K (fun x lo hi H Q=>∃z:Str,x=.str z∧z.length≤sizeLine∧Q (.str (Txt.slice z lo hi)) H) Ae:=by
 intro H₀ O H x lo hi a Q m d od hd h1 h q
 obtain⟨ma,da⟩:=a
 cases da<;>try (cases h;done)
 simp only[Ae]at h
 split at h
 ·rename_i hl;cases h;exact⟨_,h1.str,hl,q _ H (aB.refl H) vA⟩
 ·cases h
noncomputable def pC(g g':M×D→Option Int→Option Int→Option (M×D)):M×D→Option Int→Option Int→Option (M×D):=fun a l h=>match g a l h with
 |some z=>some z
 |none=>g' a l h
theorem F2{r r':V→Option Int→Option Int→Hp→VK→Prop}{g g':M×D→Option Int→Option Int→Option (M×D)}(h:mv K r g)(h':mv K r' g'):mv K (fun x l u H Q=>r x l u H Q∨r' x l u H Q) (pC g g'):=by
 intro H₀ O H x lo hi a Q m d od hd h1 e q
 unfold pC at e
 split at e
 ·rename_i z ez;cases e;exact .inl (h H₀ O H x lo hi a Q m d od hd h1 ez q)
 ·exact .inr (h' H₀ O H x lo hi a Q m d od hd h1 e q)
theorem F3{X:Cx}{r r':V→Option Int→Option Int→Hp→VK→Prop}(h:kU X r)(h':kU X r'):kU X (fun x l u H Q=>r x l u H Q∨r' x l u H Q) :=
 fun pins s σ H x v vl vu lo hi sl Q I rx hs pl pu q=>q.elim (h pins s σ H x v vl vu lo hi sl Q I rx hs pl pu) (h' pins s σ H x v vl vu lo hi sl Q I rx hs pl pu)
noncomputable abbrev zT(K:PySem.W.Frag):R2:=fun x y H Q=>dS (fun i j=>.int (i+j)) x y H Q∨(fun x y H Q=>(fun x y H Q=>∃i j,x=.str i∧y=.str j∧i.length+j.length≤sizeLine∧Q (.str (i++j)) H) x y H Q∨(fun x y H Q=>vB K x y H Q∨vD K x y H Q) x y H Q) x y H Q
noncomputable def aV:=nR Ig (nR oR (nR pj oS))
theorem Qh{X:Cx}(h:X.K=K):bz X (binaryOp .Add) (zT K):=Ac Rv (Ac LR (Ac (Oa h) (Og h)))
theorem Qi:JR K (zT K) aV:=zF Sg (zF Qa (zF Sy Qc))
abbrev JL(K:PySem.W.Frag):V→Option Int→Option Int→Hp→VK→Prop:=fun x l u H Q=>zV K x l u H Q∨(fun x l u H Q=>Ad K x l u H Q∨(fun x lo hi H Q=>∃z:Str,x=.str z∧z.length≤sizeLine∧Q (.str (Txt.slice z lo hi)) H) x l u H Q) x l u H Q
noncomputable def eY:=pC m6 (pC Ii Ae)
theorem VP{X:Cx}(h:X.K=K):kU X (JL K):=by subst h;exact F3 Pr (F3 Qe Sd)
theorem UE:mv K (JL K) eY:=F2 N3 (F2 Qf Qg)
def By(K:PySem.W.Frag)(T:String)(r:V→List V→Hp→VK→Prop)(g:M×D→List (M×D)→Option (M×D)):Prop :=
 ∀H₀ O H x vs a ak Q m d,(∀a,O a→∃o,H a=some o)→(∀a o,H₀ a=some o→∃o',H a=some o')→Val K H₀ O HE H (Prod.fst a) a.2 x→fh K H₀ O HE H ak vs→g a ak=some (m,d)→(∀v H',aB H H'→Val K H₀ O H H' m d v→Q v H')→r x vs H Q
noncomputable def xH(ty:D→Bool)(g:M×D→List (M×D)→Option (M×D))(f:Ev→Option (M×D))(fs:Ev→Option (List (M×D))):Ev→Option (M×D):=fun e=>(f e).bind fun x=>if ty x.2=true then (fs e).bind fun l=>g x l else none
noncomputable def tM:D→Bool
 |.str _=>true
 |_=>false
theorem SX {r:V→List V→Hp→VK→Prop}{g:M×D→List (M×D)→Option (M×D)}{te:TE}{ta:TA}{f:Ev→Option (M×D)}{fs:Ev→Option (List (M×D))} (hr:By K "str" r g) (he:JT K te f) (ha:gQ K ta fs):JT K (nK K "str" r te ta) (xH tM g f fs):=by
 intro H₀ O H σ env Q m d R h q
 obtain⟨⟨mx,dx⟩,ex,h⟩:=ao h
 split at h
 ·rename_i hs
  obtain⟨l,el,h⟩:=ao h
  refine he H₀ O H σ env _ mx dx R ex fun v H1 s1 h1=>?_
  cases dx<;>simp only[tM]at hs<;>try (cases hs;done)
  obtain rfl:=h1.str
  refine⟨rfl,ha H₀ O H1 σ env _ l (R.keep s1) el fun vs H2 s2 h2=>?_⟩
  have R2:=(R.keep s1).keep s2
  exact hr H₀ O H2 _ vs (mx,.str _) l Q m d R2.od R2.hd (h1.keep s2).h0 (j9 (fun _ _ z=>z.h0) h2) h fun v H3 s3 h3=>q v H3 ((s1.trans s2).trans s3) (h3.hb fun a z=>(s1.trans s2).free z)
 ·cases h
noncomputable def iV:D→String
 |.non => "NoneType"
 |.bl _ => "bool"
 |.int _ => "int"
 |.str _ => "str"
 |.ty _ => "type"
 |.tup _ => "tuple"
 |.lst _ => "list"
 |.dk _ => "dict"
 |.dt _ => "dict"
noncomputable def eR:List (M×D)→Option (M×D)
 |[(_,d),(_,.ty T)]=>if iV d = "type" then none else if ["bool", "int", "str", "tuple", "list", "dict"].contains T=true then some (.fr,.bl (iV d==T||(iV d == "bool" && T == "int")))else none
 |_=>none
end
inductive TyJ (K:PySem.W.Frag)(H:Hp):V→String→Prop where
 |non:TyJ K H .non "NoneType"
 |bl (x:Bool):TyJ K H (.bl x) "bool"
 |int (i:Int):TyJ K H (.int i) "int"
 |str (x:Str):TyJ K H (.str x) "str"
 |lst {a:Addr}{xs:List V} (e:bw K H a xs):TyJ K H (.ref a) "list"
 |tup {a:Addr}{xs:List V} (e:bh K H a xs):TyJ K H (.ref a) "tuple"
 |dK {a:Addr}{kvs:List (Key×V)} (e:Rd H a (.dK kvs)):TyJ K H (.ref a) "dict"
 |dT {a:Addr}{kvs:List (List Key×V)} (e:Rd H a (.dT kvs)):TyJ K H (.ref a) "dict"
noncomputable def tN(t T:String):Bool:=t==T||(t == "bool" && T == "int")
theorem SY (K:PySem.W.Frag) {t T:String} (h1:["NoneType", "bool", "int", "str", "tuple", "list", "dict"].contains t=true) (h2:["bool", "int", "str", "tuple", "list", "dict"].contains T=true):PySem.W.kitOne K (.type t) (.type T)=some (tN t T):=by
 simp only[List.contains_cons,List.contains_nil,Bool.or_false,Bool.or_eq_true,beq_iff_eq]at h1 h2
 rcases h1 with rfl|rfl|rfl|rfl|rfl|rfl|rfl<;>rcases h2 with rfl|rfl|rfl|rfl|rfl|rfl<;>rfl
section
variable {K:PySem.W.Frag}{H H' H₀:Hp}{O O':Addr→Prop}{σ:L2.St}{env:Ev}
theorem S0{x:V}{t:String}(h:TyJ K H x t):["NoneType", "bool", "int", "str", "tuple", "list", "dict"].contains t=true:=by cases h<;>decide
theorem MJ{X:Cx}(hK:X.K=K):gp X (.builtin "isinstance") (fun xs H Q=>∃x T t,xs=[x,.ty T]∧TyJ K H x t∧["bool", "int", "str", "tuple", "list", "dict"].contains T=true∧Q (.bl (tN t T)) H):=by
 subst hK
 intro pins s σ H xs us Q I r h
 obtain⟨x,T,t,rfl,ty,hT,q⟩:=h
 obtain⟨u,u',rfl,rx,ry⟩:=vals2 r
 cases (show u'=Value.type T from ry)
 have e:=SY X.K (S0 ty) hT
 have fin:∀tk,EP X pins σ Q (.bool (tN t T)) { s with toks:=tk }:=fun tk=>⟨.bl (tN t T),H,I.tok tk,rfl,q⟩
 cases ty with
 |non=>cases (show u=Value.none from rx);exact lW PySem.W.kitx_none I.gy True.intro e (fun z=>nomatch z) fin
 |bl y=>cases (show u=Value.bool y from rx);exact lW PySem.W.kitx_bool I.gy True.intro e (fun z=>nomatch z) fin
 |int i=>obtain⟨t,q⟩:=(show ∃t,u=Value.int i t from rx);cases q;exact lW PySem.W.kitx_int I.gy True.intro e (fun z=>nomatch z) fin
 |str y=>obtain⟨t,q⟩:=(show ∃t,u=Value.str y t from rx);cases q;exact lW PySem.W.kitx_str I.gy True.intro e (fun z=>nomatch z) fin
 |@lst a xs ea =>
  cases (show u=Value.ref a from rx)
  obtain⟨its,_,⟨o,n,h1,h2,_⟩,_⟩:=I.list ea
  exact lW PySem.W.kitx_list I.gy ⟨o,h1,h2⟩ e (fun z=>nomatch z) fin
 |@tup a xs ea =>
  cases (show u=Value.ref a from rx)
  obtain⟨its,_,p,_⟩:=I.tuple ea
  obtain⟨o,h1,h2,_⟩:=p
  exact lW PySem.W.kitx_tuple I.gy ⟨o,h1,h2⟩ e (fun z=>nomatch z) fin
 |@dK a kvs ea =>
  cases (show u=Value.ref a from rx)
  obtain⟨_,_,vs,_,p⟩:=ea.ok I.aA
  obtain⟨o,es,ep,h1,h2,_⟩:=p
  exact lW PySem.W.kitx_dict I.gy ⟨o,h1,h2.1⟩ e (fun z=>nomatch z) fin
 |@dT a kvs ea =>
  cases (show u=Value.ref a from rx)
  obtain⟨_,_,vs,_,o,es,ep,h1,h2,_⟩:=ea.ok I.aA
  exact lW PySem.W.kitx_dict I.gy ⟨o,h1,h2.1⟩ e (fun z=>nomatch z) fin
theorem S1 {N:Addr→Prop}{v:V}{d:D} (h:Rp K N H v d) (n:iV d ≠ "type"):TyJ K H v (iV d):=by
 cases h with
 |non=>exact .non
 |bl b=>exact .bl b
 |int i=>exact .int i
 |str x=>exact .str x
 |ty x=>exact absurd rfl n
 |tup h _=>exact .tup h
 |lst h _ _=>exact .lst (.inl h)
 |lstK h _=>exact .lst (.inr h)
 |dk h _ _ _=>exact .dK h
 |dt h _ _ _=>exact .dT h
theorem Qj:jP K (fun xs H Q=>∃x T t,xs=[x,.ty T]∧TyJ K H x t∧["bool", "int", "str", "tuple", "list", "dict"].contains T=true∧Q (.bl (tN t T)) H) eR:=by
 intro H₀ O H vs ak Q m d _ _ hv h q
 unfold eR at h
 split at h
 ·split at h
  ·cases h
  ·rename_i hn
   split at h
   ·rename_i hT
    cases h
    obtain⟨v,w,rfl,hx,hw⟩:=hv.two
    obtain rfl:=hw.ty
    exact⟨v,_,_,rfl,S1 hx.weak hn,hT,q _ H (aB.refl H) dG⟩
   ·cases h
 ·cases h
end
section
variable {K:PySem.W.Frag}{H:Hp}
theorem yS{N:Addr→Prop}:∀(ns:List Int),aq K N H (ns.map V.int) (ns.map D.int)
 |[]=>.nil
 |n::ns=>.cons (.int n) (yS ns)
theorem S2{F:List D→Option (M×D)}{a:Addr}{ns:List Int}{E:XK}(h:bw K H a (ns.map V.int))(e:∃m,F [.lst (ns.map .int)]=some (m,.bl true)):k7 K 1 F [.ref a] H (fun v _=>v=.bl true) E:=by
 obtain⟨m,e⟩:=e
 refine⟨rfl,_,m,_,.cons ?_ .nil,e,fun v H' _ r=>?_⟩
 ·rcases h with h|h
  ·exact .lst h trivial (yS ns)
  ·exact .lstK h (yS ns)
 ·cases m<;>try exact r.elim
  ·exact Rp.zf r
  ·obtain⟨p,_,_,c⟩:=r;exact c.elim
  ·obtain⟨_,_,_,_,e,_⟩:=r;cases e
end
section
variable {m n:M}{i j:Int}{x y:Str}{b c:Bool}{ds es:List D}{d:D}
theorem zG:aQ (m,.int i) (n,.int j)=some (.fr,.bl (decide (i=j))):=by
 show(if true=true then some (M.fr,D.bl (decide (V.int i=V.int j)))else none)=_
 simp
theorem cY:aQ (m,.str x) (n,.str y)=some (.fr,.bl (decide (x=y))):=by
 show(if true=true then some (M.fr,D.bl (decide (V.str x=V.str y)))else none)=_
 simp
theorem Hc:aQ (m,.bl b) (n,.bl c)=some (.fr,.bl (decide (b=c))):=by
 show(if true=true then some (M.fr,D.bl (decide (V.bl b=V.bl c)))else none)=_
 simp
theorem lI:b8 (m,.int i) (n,.int j)=some (.fr,.bl (!decide (i=j))):=by
 show(if true=true then some (M.fr,D.bl (!decide (V.int i=V.int j)))else none)=_
 simp
theorem vE:b8 (m,.str x) (n,.str y)=some (.fr,.bl (!decide (x=y))):=by
 show(if true=true then some (M.fr,D.bl (!decide (V.str x=V.str y)))else none)=_
 simp
theorem qL:aV (m,.int i) (n,.int j)=some (.fr,.int (i+j)):=rfl
theorem S3(h:x.length+y.length≤sizeLine):aV (m,.str x) (n,.str y)=some (.fr,.str (x++y)):=by
 show(match (none:Option (M×D)) with|some z=>some z|none=>nR oR (nR pj oS) (m,.str x) (n,.str y))=_
 show(match oR (m,.str x) (n,.str y) with|some z=>some z|none=>_)=_
 simp only[oR,if_pos h]
theorem oF(hm:aI m≠.rb)(hn:aI n≠.rb)(h:ds.length+es.length≤sizeLine):aV (m,.lst ds) (n,.lst es)=dO (mJ m n) (ds++es):=by
 show(match pj (m,.lst ds) (n,.lst es) with|some z=>some z|none=>none)=_
 simp only[pj,hm,hn,or_self,if_false,h,if_true]
 cases dO (mJ m n) (ds++es)<;>rfl
theorem F4(hm:aI m≠.rb)(hn:aI n≠.rb)(h:ds.length+es.length≤sizeLine):aV (m,.tup ds) (n,.tup es)=some (aI (mJ m n),.tup (ds++es)):=by
 show(match (none:Option (M×D)) with|some z=>some z|none=>oS (m,.tup ds) (n,.tup es))=_
 simp only[oS,hm,hn,or_self,if_false,h,if_true]
theorem vd:fj (m,.int i) (n,.int j)=some (.fr,.int (i-j)):=rfl
theorem mul_r(h:-18446744073709551616<j∧j<18446744073709551616):c6 (m,.int i) (n,.int j)=some (.fr,.int (i*j)):=by show(if _ then _ else _)=_;rw[if_pos (.inr h)]
theorem vF(h:-18446744073709551616<i∧i<18446744073709551616):c6 (m,.int i) (n,.int j)=some (.fr,.int (i*j)):=by show(if _ then _ else _)=_;rw[if_pos (.inl h)]
theorem fE(h:0<j):aZ (m,.int i) (n,.int j)=some (.fr,.int (i%j)):=by show(if _ then _ else _)=_;rw[if_pos h]
theorem div_ii(h:0<j∧j<1606938044258990275541962092341162602522202993782792835301376):bC (m,.int i) (n,.int j)=some (.fr,.int (i/j)):=by show(if _ then _ else _)=_;rw[if_pos h]
theorem S4(h:0≤j∧j≤1000000∧i.natAbs<2^64):m3 (m,.int i) (n,.int j)=some (.fr,.int (i^j.toNat)):=by show(if _ then _ else _)=_;rw[if_pos h]
theorem S5(h:0≤j∧j≤1000000∧i.natAbs<2^64):VM (m,.int i) (n,.int j)=some (.fr,.int (i*2^j.toNat)):=by show(if _ then _ else _)=_;rw[if_pos h]
theorem Hd:m3 (m,.int 2) (n,.int 64)=some (.fr,.int 18446744073709551616):=by
 rw[S4 (by decide)]
 have:(2:Int)^(64:Int).toNat=18446744073709551616:=by decide
 rw[this]
theorem vG:dX (m,.int i) (n,.int j)=some (.fr,.bl (decide (i<j))):=rfl
theorem He:WO (m,.int i) (n,.int j)=some (.fr,.bl (decide (i≤j))):=rfl
theorem rg:dN (m,.int i) (n,.int j)=some (.fr,.bl (decide (j<i))):=rfl
theorem Hf:WQ (m,.int i) (n,.int j)=some (.fr,.bl (decide (j≤i))):=rfl
theorem Qk:mP (m,.int i) (n,.int j)=some (.fr,.int (Builtin.bitAnd i j)):=rfl
theorem S6:m7 (m,.int i) (n,.int j)=some (.fr,.int (Builtin.bitOr i j)):=rfl
theorem Ql:mQ (m,.int i) (n,.int j)=some (.fr,.int (Builtin.bitXor i j)):=rfl
theorem rh:eQ (m,.int i)=some (.fr,.int (-i)):=rfl
theorem g8:aj (m,.lst ds) (n,.int i)=(aX ds i).map fun d=>(aI m,d):=rfl
theorem kg:aj (m,.tup ds) (n,.int i)=(aX ds i).map fun d=>(aI m,d):=rfl
theorem Hg(h:x.length≤sizeLine):aj (m,.str x) (n,.int i)=(aX x.cps.toList i).map fun c=>(.fr,.str ⟨#[c]⟩):=by simp[aj,h]
theorem zH:bJ [(m,.lst ds)]=some (.fr,.int ds.length):=rfl
theorem Hh:bJ [(m,.tup ds)]=some (.fr,.int ds.length):=rfl
theorem Hi:rP [(m,.int i)]=some (.fr,.int (if i<0 then -i else i)):=rfl
theorem Hj:c7 [(m,.int i)]=some (.fr,.int i):=rfl
theorem rj:c7 [(m,.bl b)]=some (.fr,.int (if b then 1 else 0)):=rfl
theorem bK:fQ (m,.bl b)=some b:=rfl
theorem oG:m5 (m,.int i)=some i:=rfl
theorem yT:lE (.fr,d)=some (.fr,d):=rfl
theorem uP:lE (.al,d)=some (.al,d):=rfl
theorem mI:lE (.un,d)=some (.bo,d):=rfl
theorem zg{e:Ev}:out (.rt e .fr d)=some (.fr,d):=rfl
theorem F5{e:Ev}:out (.rt e .un d)=some (.un,d):=rfl
theorem F6{e:Ev}:out (.rt e .bo d)=some (.un,d):=rfl
theorem F7{e:Ev}:out (.nx e)=some (.fr,.non):=rfl
theorem F8{e:Ev}(h:d.bG=true):out (.rt e .al d)=some (.fr,d):=by simp[out,h]
theorem ve:bO .fr d=true:=rfl
theorem F9:bO .un d=true:=rfl
theorem Ga:bO .al d=d.bG:=rfl
theorem fW:D.bG (.int i)=true:=by simp only[D.bG]
theorem wg:D.bG (.str x)=true:=by simp only[D.bG]
theorem Ij:D.bG (.bl b)=true:=by simp only[D.bG]
theorem Ik:D.bG .non=true:=by simp only[D.bG]
theorem dq:aI .al=.al:=rfl
theorem vf:aI .fr=.fr:=rfl
theorem Gb:aI .un=.fr:=rfl
theorem vg:aI .bo=.fr:=rfl
theorem Gd(h:D.bH ds=true):dO .al ds=some (.un,.lst ds):=by simp[dO,aI,h]
theorem zh:dO .fr ds=some (.un,.lst ds):=by simp[dO,aI]
theorem ay{f g:Ev→Option Fl}{e e':Ev}(h:f e=some (.nx e')):av f g e=g e':=by simp[av,h]
theorem g6{f g:Ev→Option Fl}{e e':Ev}(h:f e=some (.rt e' m d)):av f g e=some (.rt e' m d):=by simp[av,h]
theorem cy{c:Ev→Option Bool}{f g:Ev→Option Fl}{e:Ev}(h:c e=some true):aN c f g e=f e:=by simp[aN,h]
theorem aW{c:Ev→Option Bool}{f g:Ev→Option Fl}{e:Ev}(h:c e=some false):aN c f g e=g e:=by simp[aN,h]
theorem gX:∀ns:List Int,D.bH (ns.map .int)=true
 |[]=>by simp only[List.map_nil,D.bH]
 |n::ns=>by simp only[List.map_cons,D.bH,D.bG,gX ns,Bool.and_self]
theorem gZ{α:Type}{l:List α}{k:Nat}(h:k<l.length):L2.aX l (k:Int)=some l[k]:=by
 unfold L2.aX L2.dF
 rw[if_pos (Int.natCast_nonneg k),if_pos (by omega)]
 simp[h]
theorem i7{α:Type}{l:List α}{k:Int}(h0:0≤k)(h1:k<l.length):L2.aX l k=some (l[k.toNat]'(by omega)):=by
 unfold L2.aX L2.dF
 rw[if_pos h0,if_pos h1]
 have:k.toNat<l.length:=by omega
 simp[this]
theorem yF{ns:List Int}{k:Int}(h0:0≤k)(h1:k<ns.length):∃c,L2.aX (ns.map D.int) k=some (.int c):=by
 rw[i7 h0 (by simpa using h1)]
 exact⟨ns[k.toNat]'(by omega),by simp⟩
end
theorem mG{g:M×D→Ev→Option Ev}{b:Ev→Option Fl}{m:M}:∀{ds:List D}{e:Ev} (Iv:Nat→Ev→Prop),Iv 0 e →
  (∀(k:Nat) d e,ds[k]?=some d→Iv k e→∃e1 e2,g (m,d) e=some e1∧b e1=some (.nx e2)∧Iv (k+1) e2)→∃e',forL g b m ds e=some (.nx e')∧Iv ds.length e'
 |[],e,Iv,h0,_=>⟨e,rfl,h0⟩
 |d::ds,e,Iv,h0,hs=>by
  obtain⟨e1,e2,h1,h2,h3⟩:=hs 0 d e rfl h0
  obtain⟨e',h4,h5⟩:=mG (ds:=ds) (e:=e2) (fun k e=>Iv (k+1) e) h3 fun k d e hd hi=>hs (k+1) d e (by simpa using hd) hi
  refine⟨e',?_,h5⟩
  simp only[forL,h1,h2,Option.bind_some]
  exact h4
theorem zi{lo:Int}{n k:Nat}{d:D}(h:(fM lo n)[k]?=some d):k<n∧d=.int (lo+k):=by
 unfold fM at h
 rw[cG]at h
 have hk:k<n:=by
  rcases hX k n with z|z
  ·exact z
  ·rw[jH (by simpa using z)]at h;cases h
 rw[List.getElem?_range hk]at h
 cases h
 exact⟨hk,rfl⟩
theorem yU{lo:Int}{n:Nat}:(fM lo n).length=n:=by simp[fM]
theorem p8{n:Nat}(h:n≤1000):(n≤sizeLine)=True:=eq_true (bS h (by decide))
theorem Il{n:Nat}(h:n≤1000):(n<sizeLine)=True:=eq_true (dJ h (by decide))
theorem zI:mJ .bo .un=.fr:=rfl
theorem UG:mJ .un .un=.fr:=rfl
theorem UH:mJ .al .un=.al:=rfl
end J
namespace J
open PySem PySem.Spec PyProof.Rows L2
section
variable {X:Cx}{pins:List (Addr×Obj)}{σ:L2.St}{H:Hp}{s:Shared}{h':Heap}
theorem Dk{fp:List Addr}{t':Nat}(I:L2.Inv X pins σ H s)(k:∀b o,b∉fp→s.heap.get? b=some o→h'.get? b=some o)(hf:∀b∈fp,iF X pins H b):L2.Inv X pins σ H { s with heap:=h',toks:=t' }:=by
 have lY:∀b u,H b=some u→b∉fp:=fun b u e z=>by rw[(hf b z).1]at e;cases e
 refine I.step (g':=s.gens) (d':=s.drawn) (ch:=fp) (fun b hb=>?_) (fun b o _ _ hc e _=>k b o hc e) (fun b o _ _ hc e _=>⟨o.slots,k b o hc e⟩) (fun _ _ _ _ n=>n)
  (fun b o hc e=>⟨o,k b o hc e⟩) (fun _ _ e=>e) (fun _ _ _ e=>e) (fun b ps e=>⟨#[],by rw[e];simp⟩) (fun m hm=>?_) (fun b u e=>?_) I.bare
 ·obtain⟨f0,f1,f2,f3,f4,f5⟩:=hf b hb
  exact⟨f3,f1,f4,f5⟩
 ·obtain⟨o,es,ep,ho,r⟩:=hm
  exact⟨o,es,ep,k _ o (fun z=>(hf _ z).2.1 rfl) ho,r⟩
 ·refine(I.aA b u e).lM (fun c v hc q=>k c v ?_ q) (fun _ q=>q) fun _ _ q=>q
  rcases hc with z|z
  ·rw[z];exact lY b u e
  ·exact lY c _ z
theorem CZ{fp:List Addr}{t':Nat}{o:HO}(I:L2.Inv X pins σ H s)(k:∀b o,b∉fp→s.heap.get? b=some o→h'.get? b=some o)(hf:∀b∈fp,iF X pins H b)(new:bU X.prog X.w (upd H s.heap.objs.size o) h' s.heap.objs.size o) :
  L2.Inv X pins σ (upd H s.heap.objs.size o) { s with heap:=h',toks:=t' }:=by
 have lY:∀b u,H b=some u→b∉fp:=fun b u e z=>by rw[(hf b z).1]at e;cases e
 have hT:H s.heap.objs.size=none:=I.aA.fresh (aR _)
 have neT:∀b u,H b=some u→b≠s.heap.objs.size:=fun b u e=>eC e hT
 have WY:∀b o,s.heap.get? b=some o→b≠s.heap.objs.size:=fun b o e=>cL (bx e)
 refine I.step (g':=s.gens) (d':=s.drawn) (ch:=fp) (fun b hb=>?_) (fun b o _ _ hc e _=>k b o hc e) (fun b o _ _ hc e _=>⟨o.slots,k b o hc e⟩) (fun b o _ e n=>by rw[az (WY b o e)];exact n)
  (fun b o hc e=>⟨o,k b o hc e⟩) (fun b xs e=>by rw[az (neT b _ e)];exact e) (fun b _ _ e=>by rw[az (neT b _ e)];exact e) (fun b ps e=>⟨#[],by rw[az (neT b _ e),e];simp⟩) (fun m hm=>?_) (fun b u e=>?_) I.bare
 ·obtain⟨f0,f1,f2,f3,f4,f5⟩:=hf b hb
  exact⟨f3,f1,f4,f5⟩
 ·obtain⟨o,es,ep,ho,r⟩:=hm
  exact⟨o,es,ep,k _ o (fun z=>(hf _ z).2.1 rfl) ho,r⟩
 ·by_cases hb:b=s.heap.objs.size
  ·subst hb;rw[bf]at e;cases e;exact new
  ·rw[az hb]at e
   refine(I.aA b u e).lM (fun c v hc q=>k c v ?_ q) (fun c q=>by rw[az (neT c _ q)];exact q) fun c xs q=>by rw[az (neT c _ q)];exact q
   rcases hc with z|z
   ·rw[z];exact lY b u e
   ·exact lY c _ z
end
noncomputable def Bz(K:PySem.W.Frag)(a:Addr):It :=
 ⟨fun i H=>∃xs x,bw K H a xs∧xs[i]?=some x,fun i H x H'=>∃t y,x=.ref t∧H t=none∧H'=upd H t (.tup [.int i,y])∧∀xs,bw K H a xs→xs[i]?=some y,fun i H=>∃xs,bw K H a xs∧xs.length≤i⟩
theorem MK{P:Program}{w:World}{K:PySem.W.Frag}{elts:List Expr}{x1}{pos:Pos}(a e it:Addr)(xA:e≠it):Turn P w K (.Tuple elts x1 pos) (Bz K a) [e,it] e (fun i h=>(∃old,IsEnum h e it i old)∧h.IsListIter it a i) where
 mem:=by simp
 obj:=fun i h st b hb=>by
  obtain⟨⟨old,he⟩,o,ho,c,d⟩:=st
  rcases fK.mp hb with rfl|hb
  ·exact⟨_,he,fun v z=>nomatch z⟩
  ·have e:b=it:=by simpa using hb
   subst e
   exact⟨o,ho,fun v z=>by rw[d]at z;cases z⟩
 keep:=fun i h h' st k=>by
  obtain⟨⟨old,he⟩,hit⟩:=st
  exact⟨⟨old,k e (by simp) _ he⟩,hit.at fun o q=>k it (by simp) o q⟩
 item:=by
  intro X hP hw hK hc i pins s σ H E I hf st hg
  subst hP hw hK
  obtain⟨xs,x,hq,hx⟩:=hg
  obtain⟨its,rv,p,hz⟩:=I.list hq
  obtain⟨u,hu,ru⟩:=rv.get hx
  obtain⟨⟨old,he⟩,hit⟩:=st
  have JM:e<s.heap.objs.size:=bx he
  have WZ:it<s.heap.objs.size:=by obtain⟨_,q,_⟩:=hit;exact bx q
  have hT:H s.heap.objs.size=none:=I.aA.fresh (aR _)
  refine wpAny_pyNext_enum_item he hit p.isList (x:=u) (by simpa using hu) xA fun h1 ho VQ ht hsz hk=>⟨_,rfl,?_⟩
  refine wpAny_letOwnedTupleGo_enum ho fun h2 xI sb=>?_
  have BD:h2.get? s.heap.objs.size=some { cls:=.type "tuple",data:=.seq #[.int i s.toks,u] }:=(sb.2 _ (Nat.ne_of_gt JM)).trans ht
  have k2:∀b o,b∉[e,it]→s.heap.get? b=some o→h2.get? b=some o:=fun b o nb q=>by
   have n1:b≠e:=fun z=>nb (by simp[z])
   have n2:b≠it:=fun z=>nb (by simp[z])
   exact(sb.2 b n1).trans (hk b o n1 n2 q)
  refine⟨.ref s.heap.objs.size,upd H s.heap.objs.size (.tup [.int i,x]),?_,rfl,⟨s.heap.objs.size,x,rfl,hT,rfl,fun ys hy=>by rw[I.uB hy hq];exact hx⟩,⟨⟨_,by simpa using xI⟩,VQ.at fun o q=>(sb.2 it xA.symm).trans q⟩,fun b hb=>?_⟩
  ·refine CZ (t':=s.toks+1) I k2 hf ⟨by show 2≤sizeLine;decide,[.int i s.toks,u],.cons ⟨_,rfl⟩ (.cons ru .nil),⟨_,BD,rfl,rfl,_,rfl⟩⟩
  ·have gC:b<s.heap.objs.size:=by
    rcases fK.mp hb with rfl|hb
    ·exact JM
    ·have e:b=it:=by simpa using hb
     rw[e];exact WZ
   rw[az (cL gC)]
   exact(hf b hb).1
 done:=by
  intro X hP hw hK hc i pins s σ H E I hf st hg
  subst hP hw hK
  obtain⟨xs,hq,hx⟩:=hg
  obtain⟨its,rv,p,hz⟩:=I.list hq
  obtain⟨⟨old,he⟩,hit⟩:=st
  have hl:=rv.length
  refine wpAny_pyNext_enum_end (I.ok.hd hc) he hit p.isList (by simp;omega) fun h1 eb=>⟨rfl,?_⟩
  exact Dk (fp:=[e,it]) (t':=s.toks) I (fun b o nb q=>eb b o (fun z=>nb (by simp[z])) q) hf
 self:=fun A i s Q E st h=>by
  obtain⟨⟨old,he⟩,_⟩:=st
  exact wpAny_pyIter_enum he h
section
variable {X:Cx}
noncomputable def zJ(K:PySem.W.Frag)(ta:TA):TI:=fun σ H R=>ta σ H fun vs H1=>∃a xs,vs=[.ref a]∧bw K H1 a xs∧R (Bz K a) H1
theorem Qm {a:Expr}{ta:TA}{p pos pos':Pos}{elts:List Expr} {x1} (hg:Gl X "enumerate") (hm:X.mg "enumerate" = none) (ha:PA X [a] ta) (hs:starEach [a] X.env=[(false,eval a X.env)]:=by rfl):PI X (.Tuple elts x1 pos') (.Call (.Name "enumerate" p) [a] [] pos) (zJ X.K ta):=by
 intro pins s σ H R I h
 refine Call_ (oy I hg hm PyProof.Rows.Boot.«enumerate» (wK (aD (ha pos pins s σ H _ I h) fun us s1 ⟨vs,H1,I1,r1,q1⟩=>?_) hs rfl))
 obtain⟨l,xs,e,hq,q⟩:=q1
 subst e
 cases r1 with
 |cons r rr =>
  cases rr
  cases r
  obtain⟨its,rv,pl,hz⟩:=I1.list hq
  refine call_enumerate_list pl.isList fun h1 he hit hsz hk=>?_
  have I2:L2.Inv X pins σ H1 { s1 with heap:=h1 }:=I1.kept (t':=s1.toks) hk
  refine wpAny_pyIter_enum he ?_
  have n1:s1.heap.objs.size+1≠s1.heap.objs.size:=by omega
  refine⟨s1.heap.objs.size+1,[s1.heap.objs.size+1,s1.heap.objs.size],_,_,H1,rfl,I2,MK l _ _ n1,⟨⟨_,he⟩,hit⟩,fun b hb=>?_,q⟩
  have gC:s1.heap.objs.size≤b:=by
   rcases fK.mp hb with rfl|hb
   ·omega
   ·have e:b=s1.heap.objs.size:=by simpa using hb
    exact pM e.symm
  have z:=I1.mX (H':=H1) gC (I1.aA.fresh gC)
  exact z
theorem Oh {K:PySem.W.Frag}{a:Expr}{ta:TA}{p pos pos':Pos}{elts:List Expr} {x1} (hK:X.K=K) (hg:Gl X "enumerate") (hm:X.mg "enumerate" = none) (ha:PA X [a] ta) (hs:starEach [a] X.env=[(false,eval a X.env)]:=by rfl):PI X (.Tuple elts x1 pos') (.Call (.Name "enumerate" p) [a] [] pos) (zJ K ta):=by subst hK;exact Qm hg hm ha hs
end
noncomputable def cJ(ds:List D):List D:=ds.mapIdx fun i d=>.tup [.int i,d]
noncomputable def nS(fs:Ev→Option (List (M×D))):Ev→Option (M×List D):=fun e=>(fs e).bind fun l=>match l with
 |[(m,.lst ds)]=>(ig m).map fun n=>(n,cJ ds)
 |_=>none
section
variable {K:PySem.W.Frag}{H H' H₀:Hp}{O O':Addr→Prop}{σ:L2.St}{env:Ev}
theorem ML{a:Addr}{xs:List V}{ds:List D}{n:M}(e:dB n=true)(on:∀a o,O a→H a=some o→¬fP o)(hr:(Rd H a (.lst xs)∧¬O a)∨xC K a xs)(r:aq K (NM H₀ O n) H xs ds):iI K H₀ O (Bz K a) H n (cJ ds):=by
 have st:∀{O2:Addr→Prop}{H2:Hp},aG O H O2 H2→bw K H2 a xs:=fun {O2 H2} s=>by
  rcases hr with⟨h|⟨o,h⟩,ha⟩|h
  ·exact .inl (.inl (s _ _ h ha).1)
  ·exact .inl (.inr ⟨o,(s _ _ h ha).1⟩)
  ·exact .inr h
 have l:(cJ ds).length=ds.length:=by simp[cJ]
 refine⟨fun O2 H2 i s hi=>?_,fun O2 H2 i x H3 s hi y=>?_,fun O2 H2 s=>⟨xs,st s,by rw[r.len,l];exact aR _⟩⟩
 ·rw[l]at hi
  exact⟨xs,xs[i]'(by rw[r.len];exact hi),st s,by simp⟩
 ·rw[l]at hi
  obtain⟨t,z,rfl,ht,rfl,y⟩:=y
  have y:=y xs (st s)
  obtain⟨v,hv,rv⟩:=r.get (i:=i) (d:=ds[i]) (by simp[hi])
  rw[y]at hv;cases hv
  have sm:aB H2 (upd H2 t (.tup [.int i,z])):=cu ht
  have hz:=(uN e on s rv).keep sm
  refine⟨sm,.tup [.int i,ds[i]],by simp[cJ,hi],?_⟩
  cases n
  ·exact Rp.tup (bh.of bf) (.cons (.int _) (.cons hz .nil))
  ·exact Rp.tup (bh.of bf) (.cons (.int _) (.cons hz .nil))
  ·cases e
  ·cases e
  ·cases e
  ·cases e
  ·cases e
  ·cases e
theorem Qn{t:TA}{fs:Ev→Option (List (M×D))}(h:gQ K t fs):JI K (zJ K t) (nS fs):=by
 intro H₀ O H σ env R m ds Re e q
 obtain⟨l,el,e⟩:=ao e
 split at e
 ·rename_i m0 d0
  cases em:ig m0 with
  |none=>rw[em]at e;cases e
  |some n =>
   rw[em]at e;cases e
   refine h H₀ O H σ env _ _ Re el fun vs H1 s1 h1=>?_
   obtain⟨v,rfl,hv⟩:=h1.one
   obtain⟨e1,a,xs,rfl,hr,r⟩:=EY em hv
   exact⟨a,xs,rfl,hr.elim (fun z=>.inl z.1) .inr,q _ H1 s1 e1 (ML e1 (Re.keep s1).on hr r)⟩
 ·cases e
end
end J
namespace J
open PySem L2
noncomputable def dY:D→Bool
 |.lst ds=>D.bH ds
 |.dk ks=>D.bH (ks.map (·.2))
 |.dt ks=>D.bH (ks.map (·.2))
 |_=>false
def gR(io:List Nat)(vs:List V)(a:Addr):Prop:=∃i,i∈io∧vs[i]?=some (.ref a)
structure qM (K:PySem.W.Frag)(H:Hp)(io:List Nat)(vs:List V)(ds:List D):Prop where
 len:vs.length=ds.length
 rd:∀(i:Nat) v d,i∉io→vs[i]?=some v→ds[i]?=some d→Rp K (fun a=>¬gR io vs a) H v d
 cl:∀(i:Nat) d,i∈io→ds[i]?=some d→∃p,vs[i]?=some (.ref p)∧Cell K (fun _=>False) H p d
 dj:∀(i j:Nat) p,i∈io→j∈io→vs[i]?=some (.ref p)→vs[j]?=some (.ref p)→i=j
noncomputable def pE(K:PySem.W.Frag)(n:Nat)(io:List Nat)(F:List D→Option (M×D×List D)):Sp:=fun vs H Q _=>vs.length=n∧∃ds m d outs,qM K H io vs ds∧F ds=some (m,d,outs) ∧
 ∀v H',(∀a o,¬gR io vs a→H a=some o→H' a=some o)→outs.length=io.length→(∀(k i:Nat) o,io[k]?=some i→outs[k]?=some o→∃p,vs[i]?=some (.ref p)∧Cell K (fun _=>False) H' p o)→vC K H H' m d v→Q v H'
noncomputable def envOf:Fl→Ev
 |.nx e=>e
 |.bk e=>e
 |.ct e=>e
 |.rt e _ _=>e
noncomputable def collect:List Nat→Ev→Option (List D)
 |[],_=>some []
 |i::io,e=>match e[i]? with
  |some (some (.bi,d))=>if dY d=true then (collect io e).bind fun r=>some (d::r)else none
  |_=>none
noncomputable def kh(io:List Nat)(fl:Fl):Option (M×D×List D):=(out fl).bind fun x=>(collect io (envOf fl)).bind fun o=>some (x.1,x.2,o)
noncomputable def iq(io:List Nat)(ds:List D):Ev:=ds.mapIdx fun i d=>some (if i∈io then M.bi else M.al,d)
noncomputable def jv(L:Nat)(io:List Nat)(g:Ev→Option Fl):List D→Option (M×D×List D):=fun ds=>(g (iq io ds++List.replicate (L-ds.length) none)).bind (kh io)
section
variable {K:PySem.W.Frag}{H H' H₀:Hp}{I:Nat→Option Addr}{O O':Addr→Prop}{σ:L2.St}{env:Ev}
theorem Cell.im{N N':Addr→Prop}{p:Addr}{d:D}(e:dY d=true)(h:Cell K N H p d):Cell K N' H p d:=by
 cases d<;>simp only[dY]at e<;>try (cases e;done)
 ·obtain⟨xs,q,r⟩:=h;exact⟨xs,q,r.im e⟩
 ·obtain⟨xs,q,z,r⟩:=h;exact⟨xs,q,z,r.im e⟩
 ·obtain⟨xs,q,z,r⟩:=h;exact⟨xs,q,z,r.im e⟩
theorem C0:∀{io:List Nat}{e:Ev}{r:List D},collect io e=some r→r.length=io.length
 |[],_,_,h=>by cases h;rfl
 |i::io,e,r,h=>by
  simp only[collect]at h
  split at h
  ·split at h
   ·obtain⟨r',er,h⟩:=ao h
    cases h
    rw[cB,cB,C0 er]
   ·cases h
  ·cases h
theorem Dl:∀{io:List Nat}{e:Ev}{r:List D}{k i:Nat}{o:D},collect io e=some r→io[k]?=some i→r[k]?=some o→e[i]?=some (some (.bi,o))∧dY o=true
 |[],_,_,_,_,_,_,h1,_=>by simp at h1
 |j::io,e,r,k,i,o,h,h1,h2=>by
  simp only[collect]at h
  split at h
  ·rename_i d hd
   split at h
   ·rename_i hc
    obtain⟨r',er,h⟩:=ao h
    cases h
    cases k with
    |zero=>simp at h1 h2;subst h1;subst h2;exact⟨hd,hc⟩
    |succ k=>exact Dl er (by simpa using h1) (by simpa using h2)
   ·cases h
  ·cases h
theorem C1{io:List Nat}{N:List Str}{vs:List V}{ds:List D}(A:qM K H io vs ds):∃I0:Nat→Option Addr,(∀{i p},I0 i=some p→i∈io∧vs[i]?=some (.ref p))∧Rel K H I0 (gR io vs) H (L2.start N vs) (iq io ds++List.replicate (N.length-ds.length) none):=by
 let I0:Nat→Option Addr:=fun i=>if i∈io then (match vs[i]? with|some (.ref p)=>some p|_=>none)else none
 have jQ:∀{i p},I0 i=some p→i∈io∧vs[i]?=some (.ref p):=fun {i p} z=>by
  simp only[I0]at z
  split at z
  ·rename_i hi
   split at z
   ·rename_i w hw;cases z;exact⟨hi,hw⟩
   ·cases z
  ·cases z
 have JN:∀{i p},i∈io→vs[i]?=some (.ref p)→I0 i=some p:=fun {i p} hi hv=>by simp only[I0,if_pos hi,hv]
 have qN:∀{i:Nat}{y:M×D},(iq io ds++List.replicate (N.length-ds.length) none)[i]?=some (some y)→ds[i]?=some y.2∧y.1=(if i∈io then M.bi else M.al):=fun {i y} z=>by
  rw[List.getElem?_append]at z
  split at z
  ·rename_i hi
   simp only[iq,List.getElem?_mapIdx,List.length_mapIdx]at z hi
   rw[bP hi]at z ⊢
   simp only[Option.map_some,Option.some.injEq]at z
   subst z;exact⟨rfl,rfl⟩
  ·have:=fB z
   have:=w5 this
   cases this
 have wj:∀{i:Nat}{v:V},vs[i]?=some v→(L2.start N vs)[i]?=some (some v):=fun {i v} z=>by
  unfold L2.start
  have hi:i<vs.length:=(bt.mp z).1
  rw[lU (by simpa using hi),cG,z];rfl
 refine⟨I0,jQ,?_⟩
 show Rel K H I0 (gR io vs) H (L2.start N vs) (iq io ds++List.replicate (N.length-ds.length) none)
 refine⟨⟨jY ?_ ?_,?_,fun a o e=>⟨o,e⟩,?_⟩,fun a o _ e=>e,?_,?_,?_,?_⟩
 ·unfold L2.start iq;simp[A.len]
 ·intro j y z hy hz m' d' ey
  subst ey
  obtain⟨hd,hm⟩:=qN hy
  have hj:j<vs.length:=by rw[A.len];exact(bt.mp hd).1
  have hv:vs[j]?=some vs[j]:=bP hj
  rw[wj hv]at hz;cases hz
  simp only at hm hd
  by_cases hi:j∈io
  ·rw[if_pos hi]at hm;subst hm
   obtain⟨p,hp,c⟩:=A.cl j d' hi hd
   rw[hv]at hp
   refine⟨rfl,_,rfl,p,c9 hp,⟨j,hi,by rw[hv,hp]⟩,c.wk fun _ z _=>z.elim⟩
  ·rw[if_neg hi]at hm;subst hm
   exact⟨rfl,_,rfl,A.rd j _ d' hi hv hd⟩
 ·rintro a ⟨i,hi,hv⟩
  have aT:i<ds.length:=by rw[←A.len];exact(bt.mp hv).1
  obtain⟨p,hp,c⟩:=A.cl i ds[i] hi (bP aT)
  rw[hv]at hp;cases hp
  obtain⟨o,eo,_⟩:=c.some
  exact⟨o,eo⟩
 ·rintro a o ⟨i,hi,hv⟩ eo
  have aT:i<ds.length:=by rw[←A.len];exact(bt.mp hv).1
  obtain⟨p,hp,c⟩:=A.cl i ds[i] hi (bP aT)
  rw[hv]at hp;cases hp
  obtain⟨o',JQ,nt⟩:=c.some
  rw[eo]at JQ;cases JQ;exact nt
 ·rintro a ⟨i,hi,hv⟩;exact .inl ⟨i,JN hi hv⟩
 ·intro i d' p h1 p1
  obtain⟨hd,hm⟩:=qN h1
  by_cases hi:i∈io
  ·obtain⟨p',hp,_⟩:=A.cl i d' hi hd
   rw[wj hp]at p1;cases p1
   exact JN hi hp
  ·rw[if_neg hi]at hm;cases hm
 ·intro i j y z p h1 h2 o1 o2 p1 p2
  obtain⟨d1,m1⟩:=qN h1
  obtain⟨d2,m2⟩:=qN h2
  have hi:i∈io:=by
   by_cases hi:i∈io
   ·exact hi
   ·rw[if_neg hi]at m1;rw[m1]at o1;cases o1
  have hj:j∈io:=by
   by_cases hj:j∈io
   ·exact hj
   ·rw[if_neg hj]at m2;rw[m2]at o2;cases o2
  obtain⟨q1,JV,_⟩:=A.cl i _ hi d1
  obtain⟨q2,xu,_⟩:=A.cl j _ hj d2
  rw[wj JV]at p1;cases p1
  rw[wj xu]at p2;cases p2
  exact A.dj i j p hi hj JV xu
 ·have no:∀{i:Nat}{d:D},(iq io ds++List.replicate (N.length-ds.length) none)[i]?=some (some (M.nb,d))→False:=fun {i d} z=>by
   obtain⟨_,hm⟩:=qN z
   simp only at hm
   split at hm<;>cases hm
  exact⟨fun i j d d' h1=>(no h1).elim,fun i j d x p q xs h1=>(no h1).elim⟩
theorem MN{ts:TS}{g:Ev→Option Fl}{n:Nat}{io:List Nat}{N:List Str}{vs:List V}{Q:VK}{E:XK}(h:JS K ts g)(hs:pE K n io (jv N.length io g) vs H Q E):ts { nx:=fun _ H'=>Q .non H',rt:=Q } (L2.start N vs) H:=by
 obtain⟨hl,ds,m,d,outs,A,e,q⟩:=hs
 obtain⟨fl,ef,eo⟩:=ao e
 obtain⟨x,ex,eo⟩:=ao eo
 obtain⟨oo,ec,eo⟩:=ao eo
 cases eo
 obtain⟨I0,jQ,R⟩:=C1 (N:=N) A
 have fin:∀(O':Addr→Prop) (H':Hp) (σ':L2.St) (v:V),Rel K H I0 O' H' σ' (envOf fl)→vC K H H' x.1 x.2 v→Q v H':=by
  intro O' H' σ' v R' ro
  refine q v H' (fun a o n e=>R'.fr a o (fun i z=>n ⟨i,(jQ z).1,(jQ z).2⟩) e) (C0 ec) (fun k i o h1 h2=>?_) ro
  obtain⟨he,hc⟩:=Dl ec h1 h2
  obtain⟨w,hw,_,p,rfl,_,c⟩:=R'.e.at he
  have:=R'.ba i o p he hw
  exact⟨p,(jQ this).2,c.im hc⟩
 refine h H I0 (gR io vs) H _ _ _ fl R ef ?_
 cases fl with
 |nx e'=>cases ex;exact fun O' H' σ' R' st=>fin O' H' σ' .non R' Rp.non
 |bk e'=>cases ex
 |ct e'=>cases ex
 |rt e' m' d' =>
  intro O' H' σ' v R' st hv
  refine fin O' H' σ' v R' ?_
  cases m'<;>simp only[out]at ex
  ·split at ex
   ·rename_i hi;cases ex;exact(show Rp K _ H' v d' from hv.weak.im hi)
   ·cases ex
  ·cases ex;exact(show Rp K _ H' v d' from Rp.wk (fun a h _=>h.2) hv)
  ·cases ex
   obtain⟨p,rfl,_,h0,_,c⟩:=hv
   exact⟨p,rfl,h0,c.wk fun a h _=>⟨h.1.2,h.2⟩⟩
  ·cases ex
   obtain⟨p,rfl,hO,h0,c⟩:=hv
   exact⟨p,rfl,h0,c.wk fun a h _=>⟨h.2,fun z=>h.1 (z▸hO)⟩⟩
  ·cases ex
  ·cases ex;exact(show Rp K _ H' v d' from hv)
  ·cases ex;exact(show Rp K _ H' v d' from hU.rp (fun _ z=>z) hv)
  ·cases ex;exact(show dz K _ H' d' v from dz.wk (fun q z=>z.2.1) hv)
end
section
variable {K:PySem.W.Frag}{H H' H₀:Hp}{I:Nat→Option Addr}{O O':Addr→Prop}{σ:L2.St}{env:Ev}
theorem Rel.VR{env':Ev}{P:Addr→Prop}(R:Rel K H₀ I O H σ env)(hP:∀a,P a→O a)(hW:∀a,P a→∃(j:Nat) (x:M×D),env[j]?=some (some x)∧own x.1=true∧σ[j]?=some (some (.ref a)))(kp:∀a o,¬P a→H a=some o→H' a=some o)(cs:∀a,P a→∃o,H' a=some o∧¬fP o)(hl:env'.length=env.length)
  (sl:∀(j:Nat) x',env'[j]?=some (some x')→(env[j]?=some (some x')∧∀p,own x'.1=true→σ[j]?=some (some (.ref p))→¬P p) ∨
   (∃d p,env[j]?=some (some (x'.1,d))∧own x'.1=true∧σ[j]?=some (some (.ref p))∧Cell K (fun a=>¬O a∧H₀ a=none) H' p x'.2)) :
  Rel K H₀ I O H' σ env'∧aG O H O H':=by
 have kN:∀{N:Addr→Prop},(∀a,N a→¬O a)→Keeps N H H':=fun w a u h z=>kp a u (fun hp=>by
  rcases z with z|z
  ·exact w a z (hP a hp)
  ·exact R.e.on a u (hP a hp) h z) h
 have old:∀{j:Nat}{x':M×D},env'[j]?=some (some x')→∃d,env[j]?=some (some (x'.1,d)):=fun {j x'} h=>by
  rcases sl j x' h with⟨q,_⟩|⟨d,p,q,_⟩
  ·exact⟨x'.2,q⟩
  ·exact⟨d,q⟩
 have JW:∀{j:Nat}{d:D}{p:Addr}{xs:List V},env[j]?=some (some (.nb,d))→σ[j]?=some (some (.ref p))→H p=some (.lst xs)→∀a,P a→a≠p∧V.ref a∉xs:=fun {j d p xs} h1 h2 h3 a ha=>by
  obtain⟨j',x,e1,e2,e3⟩:=hW a ha
  exact R.nd.2 j j' d x p a xs h1 h2 e1 e2 e3 h3
 have tO:∀{j:Nat}{d:D},env'[j]?=some (some (.nb,d))→env[j]?=some (some (.nb,d)):=fun {j d} h=>by
  rcases sl j (.nb,d) h with⟨q,_⟩|⟨d0,p,q,ow,_⟩
  ·exact q
  ·cases ow
 refine⟨⟨⟨jY (by rw[hl];exact cK R.e.sl) ?_,?_,?_,?_⟩,?_,R.ow,?_,?_,?_⟩,?_⟩
 ·intro j y z hy hz m d ey
  subst ey
  rcases sl j (m,d) hy with⟨q,np⟩|⟨d0,p,q,ow,hp,c⟩
  ·obtain⟨v,hv,n,hm⟩:=R.e.at q
   rw[hz]at hv;cases hv
   refine⟨n,v,rfl,?_⟩
   cases m
   ·exact Rp.keep (kN fun a h=>h) hm
   ·exact Rp.keep (kN fun a h=>h.1) hm
   ·cases n
   ·obtain⟨p,rfl,h1,h2,c⟩:=hm
    obtain⟨o,eo,_⟩:=c.some
    exact⟨p,rfl,h1,h2,c.keep (kN fun a h=>h.1) ((kp p o (np p rfl hz) eo).trans eo.symm)⟩
   ·obtain⟨p,rfl,h1,c⟩:=hm
    obtain⟨o,eo,_⟩:=c.some
    exact⟨p,rfl,h1,c.keep (kN fun a h=>h.1) ((kp p o (np p rfl hz) eo).trans eo.symm)⟩
   ·cases n
   ·obtain⟨p',qs,aK,rfl,e2,h1,h2,h3,h4,h5,h6⟩:=hm
    have nb:=JW q hz h3
    exact⟨p',qs,aK,rfl,e2,h1,h2,kp _ _ (fun z=>(nb _ z).1 rfl) h3,h4,h5,jh (fun x ds hx ⟨xs,a,r⟩=>⟨xs,kp _ _ (fun z=>(nb _ z).2 (de.mpr ⟨x,hx,rfl⟩)) a,r.keep (kN fun a h=>h.1)⟩) h6⟩
   ·cases n
  ·obtain⟨v,hv,n,hm⟩:=R.e.at q
   rw[hz]at hp hv;cases hp;cases hv
   refine⟨n,_,rfl,?_⟩
   simp only at c ow
   cases m<;>simp only[own]at ow<;>try (cases ow;done)
   ·obtain⟨p',e,h1,h2,_⟩:=hm;cases e;exact⟨p,rfl,h1,h2,c⟩
   ·obtain⟨p',e,h1,_⟩:=hm;cases e;exact⟨p,rfl,h1,c⟩
 ·intro a ha
  by_cases z:P a
  ·obtain⟨o,e,_⟩:=cs a z;exact⟨o,e⟩
  ·obtain⟨o,e⟩:=R.e.od a ha;exact⟨o,kp a o z e⟩
 ·intro a o h
  obtain⟨o',e⟩:=R.e.hd a o h
  by_cases z:P a
  ·obtain⟨o,e,_⟩:=cs a z;exact⟨o,e⟩
  ·exact⟨o',kp a o' z e⟩
 ·intro a o ha e
  by_cases z:P a
  ·obtain⟨o',e',n⟩:=cs a z;rw[e]at e';cases e';exact n
  ·obtain⟨o',e'⟩:=R.e.od a ha
   have:=kp a o' z e'
   rw[e]at this;cases this
   exact R.e.on a _ ha e'
 ·intro a o n h
  refine kp a o (fun z=>?_) (R.fr a o n h)
  rcases R.ow a (hP a z) with⟨i,q⟩|q
  ·exact n i q
  ·rw[h]at q;cases q
 ·intro i d p h1 p1
  obtain⟨d0,q⟩:=old h1
  exact R.ba i d0 p q p1
 ·intro i j x y p h1 h2 o1 o2 p1 p2
  obtain⟨d1,q1⟩:=old h1
  obtain⟨d2,q2⟩:=old h2
  exact R.dj i j _ _ p q1 q2 o1 o2 p1 p2
 ·refine⟨fun i j d d' h1 h2=>R.nd.1 i j d d' (tO h1) (tO h2),fun i j d x p q xs h1 p1 h2 o2 p2 e=>?_⟩
  obtain⟨qs,aK,_,_,_,e3,_⟩:=R.e.nest (tO h1) p1
  have nb:=JW (tO h1) p1 e3
  have e4:=kp _ _ (fun z=>(nb _ z).1 rfl) e3
  rw[e4]at e;cases e
  obtain⟨d2,q2⟩:=old h2
  exact R.nd.2 i j d (x.1,d2) p q _ (tO h1) p1 q2 o2 p2 e3
 ·intro a o h n
  exact⟨kp a o (fun z=>n (hP a z)) h,n⟩
def jR(K:PySem.W.Frag)(ta:TA)(fs:Ev→Option (List (M×D)))(pos:List (Nat×Nat)):Prop :=
 ∀H₀ O H σ env Q ak,cZ K H₀ O H σ env→fs env=some ak→(∀vs H',aB H H'→fh K H₀ O H H' ak vs→(∀ij∈pos,∃v x,vs[ij.1]?=some v∧σ[ij.2]?=some (some v)∧env[ij.2]?=some (some x)∧ak[ij.1]?=some x)→Q vs H')→ta σ H Q
theorem Qo:jR K kr ah []:=by
 intro H₀ O H σ env Q ak R h q
 cases h
 exact q [] H (aB.refl H) .nil (fun _ z=>nomatch z)
noncomputable def xJ(pos:List (Nat×Nat)):List (Nat×Nat):=pos.map fun ij=>(ij.1+1,ij.2)
theorem Oi{te:TE}{ta:TA}{f:Ev→Option (M×D)}{g:Ev→Option (List (M×D))}{pos:List (Nat×Nat)}(hf:JT K te f)(hg:jR K ta g pos):jR K (lG te ta) (ag f g) (xJ pos):=by
 intro H₀ O H σ env Q ak R h q
 obtain⟨x,ex,h⟩:=ao h
 obtain⟨r,er,h⟩:=ao h
 cases h
 refine hf H₀ O H σ env _ x.1 x.2 R ex fun v H1 s1 h1=>?_
 refine hg H₀ O H1 σ env _ r (R.keep s1) er fun vs H2 s2 h2 hp=>?_
 refine q (v::vs) H2 (s1.trans s2) (.cons (h1.keep s2) (j9 (fun _ _ z=>z.hb fun a z=>s1.free z) h2)) (fun ij nT=>?_)
 obtain⟨BE,hm,rfl⟩:=de.mp nT
 obtain⟨w,y,a,b,c,d⟩:=hp BE hm
 exact⟨w,y,by simpa using a,b,c,by simpa using d⟩
theorem Qp{i:Nat}{ta:TA}{g:Ev→Option (List (M×D))}{pos:List (Nat×Nat)}(hg:jR K ta g pos):jR K (lG (gq i) ta) (ag (jV i) g) ((0,i)::xJ pos):=by
 intro H₀ O H σ env Q ak R h q
 obtain⟨x,ex,h⟩:=ao h
 obtain⟨r,er,h⟩:=ao h
 cases h
 have ei:env[i]?=some (some x):=by
  unfold jV at ex
  cases e:env[i]? with
  |none=>rw[e]at ex;cases ex
  |some z=>rw[e]at ex;exact cf some ex
 obtain⟨v,hv,n,hm⟩:=R.at ei
 refine⟨v,hv,?_⟩
 refine hg H₀ O H σ env _ r R er fun vs H2 s2 h2 hp=>?_
 refine q (v::vs) H2 s2 (.cons ((hm.G5 n).keep s2) h2) (fun ij nT=>?_)
 rcases fK.mp nT with rfl|nT
 ·exact⟨v,x,rfl,hv,ei,rfl⟩
 ·obtain⟨BE,hm,rfl⟩:=de.mp nT
  obtain⟨w,y,a,b,c,d⟩:=hp BE hm
  exact⟨w,y,by simpa using a,b,c,by simpa using d⟩
noncomputable def iA:List Nat→List D→Ev→Option Ev
 |[],[],e=>some e
 |j::sl,o::outs,e=>match e[j]? with
  |some (some (m,_))=>iA sl outs (e.set j (some (m,o)))
  |_=>none
 |_,_,_=>none
end
section
variable {K:PySem.W.Frag}{H H' H₀:Hp}{I:Nat→Option Addr}{O O':Addr→Prop}{σ:L2.St}{env:Ev}
theorem fh.at{Hb:Hp}:∀{ak:List (M×D)}{vs:List V}{i:Nat}{x:M×D},fh K H₀ O Hb H ak vs→ak[i]?=some x→∃v,vs[i]?=some v∧Val K H₀ O Hb H x.1 x.2 v
 |_,_,_,_,.nil,e=>by simp at e
 |_,_,0,_,.cons h _,e=>by simp at e;subst e;exact⟨_,rfl,h⟩
 |_,_,i+1,x,.cons _ r,e=>by
  obtain⟨v,h1,h2⟩:=fh.at (i:=i) (x:=x) r (by simpa using e)
  exact⟨v,by simpa using h1,h2⟩
theorem qz{α:Type}:∀{l:List α}{i j:Nat}{a:α},l.Nodup→l[i]?=some a→l[j]?=some a→i=j
 |[],_,_,_,_,h,_=>by simp at h
 |x::l,0,0,_,_,_,_=>rfl
 |x::l,0,j+1,a,nd,h1,h2=>by
  simp at h1;subst h1
  exact absurd (fB (show l[j]?=some x by simpa using h2)) (iR.mp nd).1
 |x::l,i+1,0,a,nd,h1,h2=>by
  simp at h2;subst h2
  exact absurd (fB (show l[i]?=some x by simpa using h1)) (iR.mp nd).1
 |x::l,i+1,j+1,a,nd,h1,h2=>by
  rw[qz (iR.mp nd).2 (show l[i]?=some a by simpa using h1) (by simpa using h2)]
theorem DL:∀{sl:List Nat}{outs:List D}{e e':Ev},iA sl outs e=some e'→e'.length=e.length∧outs.length=sl.length
 |[],[],_,_,h=>by cases h;exact⟨rfl,rfl⟩
 |[],_::_,_,_,h=>by cases h
 |_::_,[],_,_,h=>by cases h
 |j::sl,o::outs,e,e',h=>by
  simp only[iA]at h
  split at h
  ·have:=DL h
   rw[hV]at this
   exact⟨this.1,by rw[cB,cB,this.2]⟩
  ·cases h
theorem yG:∀{sl:List Nat}{outs:List D}{e e':Ev}{i:Nat},iA sl outs e=some e'→i∉sl→e'[i]?=e[i]?
 |[],[],_,_,_,h,_=>by cases h;rfl
 |[],_::_,_,_,_,h,_=>by cases h
 |_::_,[],_,_,_,h,_=>by cases h
 |j::sl,o::outs,e,e',i,h,hn=>by
  simp only[iA]at h
  split at h
  ·rw[yG h (fun z=>hn (cT _ z)),cU (fun z=>hn (by rw[z];exact cM))]
  ·cases h
theorem D8:∀{sl:List Nat}{outs:List D}{e e':Ev}{k j:Nat},iA sl outs e=some e'→sl.Nodup→sl[k]?=some j→∃m d o,e[j]?=some (some (m,d))∧outs[k]?=some o∧e'[j]?=some (some (m,o))
 |[],_,_,_,_,_,_,_,h1=>by simp at h1
 |_::_,[],_,_,_,_,h,_,_=>by cases h
 |i::sl,o::outs,e,e',k,j,h,nd,h1=>by
  simp only[iA]at h
  split at h
  ·rename_i m d hd
   obtain⟨n1,n2⟩:=iR.mp nd
   cases k with
   |zero =>
    simp at h1;subst h1
    refine⟨m,d,o,hd,rfl,?_⟩
    rw[yG h n1]
    have hi:i<e.length:=(bt.mp hd).1
    rw[List.getElem?_set_self hi]
   |succ k =>
    have JX:sl[k]?=some j:=by simpa using h1
    obtain⟨m',d',o',a,b,c⟩:=D8 h n2 JX
    have hj:i≠j:=fun z=>n1 (z▸fB JX)
    rw[cU hj]at a
    exact⟨m',d',o',a,by simpa using b,c⟩
  ·cases h
structure Im (io sl:List Nat)(pos:List (Nat×Nat))(ak:List (M×D)):Prop where
 c1:∀(k i:Nat),io[k]?=some i→∃j,sl[k]?=some j∧(i,j)∈pos
 c2:sl.Nodup
 c3:∀(i:Nat) x,i∉io→ak[i]?=some x→gi x.1 x.2=true∨(own x.1=true∧∃j,(i,j)∈pos∧j∉sl)
 c4:∀(i:Nat) x,i∈io→ak[i]?=some x→own x.1=true∧dY x.2=true
 c5:sl.length=io.length
noncomputable def k9(io sl:List Nat)(pos:List (Nat×Nat))(ak:List (M×D)):Bool :=
 decide (sl.length=io.length)&&decide sl.Nodup&&(List.range io.length).all (fun k=>match io[k]?,sl[k]? with|some i,some j=>decide ((i,j)∈pos)|_,_=>false) &&
 (List.range ak.length).all (fun i=>match ak[i]? with
  |some x=>if i∈io then own x.1&&dY x.2 else gi x.1 x.2||(own x.1&&pos.any fun ij=>decide (ij.1=i)&&!decide (ij.2∈sl))
  |none=>true)
theorem S7{io sl:List Nat}{pos:List (Nat×Nat)}{ak:List (M×D)}(h:k9 io sl pos ak=true):Im io sl pos ak:=by
 unfold k9 at h
 simp only[Bool.and_eq_true,decide_eq_true_eq,List.all_eq_true,List.mem_range]at h
 obtain⟨⟨⟨h1,h2⟩,h3⟩,h4⟩:=h
 refine⟨fun k i hk=>?_,h2,fun i x hi hx=>?_,fun i x hi hx=>?_,h1⟩
 ·have aT:k<io.length:=(bt.mp hk).1
  have q:=h3 k aT
  rw[hk]at q
  cases e:sl[k]? with
  |none=>rw[e]at q;cases q
  |some j=>rw[e]at q;exact⟨j,rfl,by simpa using q⟩
 ·have aT:i<ak.length:=(bt.mp hx).1
  have q:=h4 i aT
  rw[hx]at q
  simp only[if_neg hi,Bool.or_eq_true,Bool.and_eq_true,List.any_eq_true]at q
  rcases q with q|⟨q,ij,hm,z⟩
  ·exact .inl q
  ·refine .inr ⟨q,ij.2,?_,by simpa using z.2⟩
   have e:ij.1=i:=by simpa using z.1
   rw[←e];exact hm
 ·have aT:i<ak.length:=(bt.mp hx).1
  have q:=h4 i aT
  rw[hx]at q
  simpa only[if_pos hi,Bool.and_eq_true]using q
theorem Qq{io sl:List Nat}{pos:List (Nat×Nat)}{ak:List (M×D)}{vs:List V}{H1:Hp}(R:Rel K H₀ I O H σ env)(R1:Rel K H₀ I O H1 σ env)(ok:Im io sl pos ak)(hv:fh K H₀ O H H1 ak vs)
  (hp:∀ij∈pos,∃v x,vs[ij.1]?=some v∧σ[ij.2]?=some (some v)∧env[ij.2]?=some (some x)∧ak[ij.1]?=some x) :
  (∀{i j:Nat},(i,j)∈pos→∀{x:M×D},ak[i]?=some x→own x.1=true→∃p:Addr,vs[i]?=some (V.ref p)∧σ[j]?=some (some (V.ref p))∧env[j]?=some (some x)∧O p∧Cell K (fun a=>¬O a∧H₀ a=none) H1 p x.2) ∧
  (∀{i:Nat}{p:Addr},i∈io→vs[i]?=some (V.ref p)→∃(k j:Nat) (x:M×D),io[k]?=some i∧sl[k]?=some j∧ak[i]?=some x∧σ[j]?=some (some (V.ref p))∧env[j]?=some (some x)∧own x.1=true∧O p∧Cell K (fun a=>¬O a∧H₀ a=none) H1 p x.2∧dY x.2=true) ∧
  (∀a,gR io vs a→O a)∧qM K H1 io vs (ak.map (·.2)):=by
 have hlen:ak.length=vs.length:=cK hv
 have at_:∀{i:Nat}{x:M×D},ak[i]?=some x→∃v,vs[i]?=some v∧Val K H₀ O H H1 x.1 x.2 v:=fun {i x} hx=>fh.at hv hx
 have pF:∀{i j:Nat},(i,j)∈pos→∀{x:M×D},ak[i]?=some x→own x.1=true→∃p:Addr,vs[i]?=some (V.ref p)∧σ[j]?=some (some (V.ref p))∧env[j]?=some (some x)∧O p∧Cell K (fun a=>¬O a∧H₀ a=none) H1 p x.2:=fun {i j} nT {x} hx ox=>by
  obtain⟨v,x',a,b,c,z⟩:=hp (i,j) nT
  simp only at a b c z
  rw[hx]at z;cases z
  obtain⟨w,hw,_,hm⟩:=R1.e.at (i:=j) (m:=x.1) (d:=x.2) c
  rw[b]at hw;cases hw
  obtain⟨mx,dx⟩:=x
  cases mx<;>simp only[own]at ox<;>try (cases ox;done)
  ·obtain⟨p,rfl,h1,h2,cc⟩:=hm;exact⟨p,a,b,c,h1,cc⟩
  ·obtain⟨p,rfl,h1,cc⟩:=hm;exact⟨p,a,b,c,h1,cc⟩
 have kz:∀{i:Nat}{p:Addr},i∈io→vs[i]?=some (V.ref p)→∃(k j:Nat) (x:M×D),io[k]?=some i∧sl[k]?=some j∧ak[i]?=some x∧σ[j]?=some (some (V.ref p))∧env[j]?=some (some x)∧own x.1=true∧O p∧Cell K (fun a=>¬O a∧H₀ a=none) H1 p x.2∧dY x.2=true:=fun {i p} hi iW=>by
  obtain⟨k,hk⟩:=List.getElem?_of_mem hi
  obtain⟨j,hj,rQ⟩:=ok.c1 k i hk
  have aT:i<ak.length:=by rw[hlen];exact(bt.mp iW).1
  have hx:ak[i]?=some ak[i]:=bP aT
  obtain⟨ox,cx⟩:=ok.c4 i _ hi hx
  obtain⟨p',a,b,c,h1,cc⟩:=pF rQ hx ox
  rw[iW]at a;cases a
  exact⟨k,j,_,hk,hj,hx,b,c,ox,h1,cc,cx⟩
 have sub:∀a,gR io vs a→O a:=fun a ⟨i,hi,iW⟩=>by
  obtain⟨_,_,_,_,_,_,_,_,_,h1,_⟩:=kz hi iW;exact h1
 have A:qM K H1 io vs (ak.map (·.2)):=by
  refine⟨by rw[a7,hlen],fun i v d hi iW hd=>?_,fun i d hi hd=>?_,fun i j p hi hj h1 h2=>?_⟩
  ·rw[cG]at hd
   cases hx:ak[i]? with
   |none=>rw[hx]at hd;cases hd
   |some x =>
    rw[hx]at hd;cases hd
    obtain⟨v',cH,Af⟩:=at_ hx
    rw[iW]at cH;cases cH
    rcases ok.c3 i x hi hx with z|⟨z,j,hj,nj⟩
    ·exact(Af.gi z).wk fun a h _=>fun w=>h (sub a w)
    ·obtain⟨p,a,b,c,h1,cc⟩:=pF hj hx z
     rw[iW]at a;cases a
     refine(cc.wk fun a h _=>(fun w=>h.1 (sub a w):¬gR io vs a)).rp (fun⟨i2,BF,xK⟩=>?_)
     obtain⟨k,j2,x2,_,BG,_,s2,e2,o2,_⟩:=kz BF xK
     have:=R.dj j j2 x x2 p c e2 z o2 b s2
     exact nj (this▸fB BG)
  ·rw[cG]at hd
   cases hx:ak[i]? with
   |none=>rw[hx]at hd;cases hd
   |some x =>
    rw[hx]at hd;cases hd
    obtain⟨k,hk⟩:=List.getElem?_of_mem hi
    obtain⟨j,hj,rQ⟩:=ok.c1 k i hk
    obtain⟨ox,cx⟩:=ok.c4 i _ hi hx
    obtain⟨p',a,b,c,h1,cc⟩:=pF rQ hx ox
    exact⟨p',a,cc.im cx⟩
  ·obtain⟨k1,j1,x1,W0,W2,_,W3,W4,o1,_⟩:=kz hi h1
   obtain⟨k2,j2,x2,JY,W5,_,W6,W7,o2,_⟩:=kz hj h2
   have ej:=R.dj j1 j2 x1 x2 p W4 W7 o1 o2 W3 W6
   subst ej
   have ek:k1=k2:=qz ok.c2 W2 W5
   subst ek
   rw[W0]at JY;exact c9 JY
 exact⟨pF,kz,sub,A⟩
noncomputable def oq(io sl:List Nat)(pos:List (Nat×Nat))(F:List D→Option (M×D×List D))(fs:Ev→Option (List (M×D))):Ev→Option (M×D×Ev):=fun e=>(fs e).bind fun ak=>if k9 io sl pos ak=true then (F (ak.map (·.2))).bind fun r=>(iA sl r.2.2 e).bind fun e'=>some (r.1,r.2.1,e')else none
theorem Ge{n:Nat}{io sl:List Nat}{pos:List (Nat×Nat)}{F:List D→Option (M×D×List D)}{fs:Ev→Option (List (M×D))}{ta:TA}{E:XK}{m:M}{d:D}{e':Ev}{Q:VK}(R:Rel K H₀ I O H σ env)(ha:jR K ta fs pos)(hl:∀e ak,fs e=some ak→ak.length=n)
  (h:oq io sl pos F fs env=some (m,d,e')) (q:∀v H',Rel K H₀ I O H' σ e'→aG O H O H'→(m=.un∨m=.fr∨m=.ut)→Rp K (fun a=>¬O a∧H₀ a=none) H' v d→Q v H'):j8 (pE K n io F) [] E ta σ H Q:=by
 obtain⟨ak,em,h⟩:=ao h
 split at h
 ·rename_i hb
  have ok:=S7 hb
  obtain⟨⟨m1,d1,outs⟩,eF,h⟩:=ao h
  obtain⟨e1,es,h⟩:=ao h
  cases h
  refine ha H₀ O H σ env _ ak R.e em fun vs H1 s1 hv hp=>?_
  have R1:=R.keep s1
  have hlen:ak.length=vs.length:=cK hv
  obtain⟨pF,kz,sub,A⟩:=Qq R R1 ok hv hp
  rw[nB]
  refine⟨by rw[←hlen];exact hl _ _ em,ak.map (·.2),m1,d1,outs,A,eF,fun v H2 kp ol oc ro=>?_⟩
  obtain⟨el,eo⟩:=DL es
  have cs:∀a,gR io vs a→∃o,H2 a=some o∧¬fP o:=fun a ⟨i,hi,iW⟩=>by
   obtain⟨k,hk⟩:=List.getElem?_of_mem hi
   have W8:k<outs.length:=by rw[ol];exact(bt.mp hk).1
   obtain⟨p,mn,c⟩:=oc k i _ hk (bP W8)
   rw[iW]at mn;cases mn
   exact c.some
  obtain⟨R2,st⟩:=R1.VR (P:=gR io vs) (env':=e') sub (fun a ⟨i,hi,iW⟩=>by
   obtain⟨k3,j3,x3,_,_,_,s3,e3,o3,_⟩:=kz hi iW
   exact⟨j3,x3,e3,o3,s3⟩) kp cs el (fun j x' nM=>by
   by_cases hj:j∈sl
   ·obtain⟨k,hk⟩:=List.getElem?_of_mem hj
    obtain⟨m0,d0,o0,a,b,c⟩:=D8 es ok.c2 hk
    rw[nM]at c;cases c
    have JZ:k<io.length:=by rw[←ok.c5];exact(bt.mp hk).1
    have J0:io[k]?=some io[k]:=bP JZ
    obtain⟨j',J1,rQ⟩:=ok.c1 k _ J0
    rw[hk]at J1;cases J1
    obtain⟨p,BH,cell⟩:=oc k _ _ J0 b
    have Hk:io[k]∈io:=pO JZ
    obtain⟨k3,j3,x3,Y5,Y6,_,s3,e3,o3,_⟩:=kz Hk BH
    have aT:io[k]<ak.length:=by rw[hlen];exact(bt.mp BH).1
    have hx:ak[io[k]]?=some ak[io[k]]:=bP aT
    obtain⟨ox,_⟩:=ok.c4 _ _ Hk hx
    obtain⟨p',a',b',c',_⟩:=pF rQ hx ox
    rw[BH]at a';cases a'
    rw[a]at c'
    have c'':=c9 (c9 c')
    refine .inr ⟨d0,p,a,?_,b',cell.wk fun _ z _=>z.elim⟩
    rw[←c'']at ox;exact ox
   ·rw[yG es hj]at nM
    refine .inl ⟨nM,fun p ow hs ⟨i2,BF,xK⟩=>?_⟩
    obtain⟨k,j2,x2,_,BG,_,s2,e2,o2,_⟩:=kz BF xK
    have:=R.dj j j2 x' x2 p nM e2 ow o2 hs s2
    exact hj (this▸fB BG))
  have mm:m1=.un∨m1=.fr∨m1=.ut:=by cases m1<;>first|exact .inl rfl|exact .inr (.inl rfl)|exact .inr (.inr rfl)|exact ro.elim
  have Af:=yR (H₀:=H₀) R1.e.od R1.e.hd ro
  exact q v H2 R2 ((aG.same s1).trans st) mm (Af.bO (by rcases mm with rfl|rfl|rfl<;>rfl))
 ·cases h
noncomputable def i9(io sl:List Nat)(pos:List (Nat×Nat))(F:List D→Option (M×D×List D))(fs:Ev→Option (List (M×D))):Ev→Option Fl:=fun e=>(oq io sl pos F fs e).bind fun r=>some (.nx r.2.2)
noncomputable def qP(i:Nat)(io sl:List Nat)(pos:List (Nat×Nat))(F:List D→Option (M×D×List D))(fs:Ev→Option (List (M×D))):Ev→Option Fl:=fun e=>(oq io sl pos F fs e).bind fun r=>some (.nx (r.2.2.set i (some (.fr,r.2.1))))
theorem MP{n:Nat}{io sl:List Nat}{pos:List (Nat×Nat)}{F:List D→Option (M×D×List D)}{fs:Ev→Option (List (M×D))}{ta:TA}{E:XK}(ha:jR K ta fs pos)(hl:∀e ak,fs e=some ak→ak.length=n):JS K (oN (j8 (pE K n io F) [] E ta)) (i9 io sl pos F fs):=by
 intro H₀ I O H σ env Ds fl R e q
 obtain⟨⟨m,d,e'⟩,er,e⟩:=ao e
 cases e
 exact Ge R ha hl er fun v H' R' st _ _=>q O H' σ R' st
theorem Oj{i n:Nat}{io sl:List Nat}{pos:List (Nat×Nat)}{F:List D→Option (M×D×List D)}{fs:Ev→Option (List (M×D))}{ta:TA}{E:XK}(ha:jR K ta fs pos)(hl:∀e ak,fs e=some ak→ak.length=n):JS K (gK (j8 (pE K n io F) [] E ta) (g7 i)) (qP i io sl pos F fs):=by
 intro H₀ I O H σ env Ds fl R e q
 obtain⟨⟨m,d,e'⟩,er,e⟩:=ao e
 cases e
 exact Ge R ha hl er fun v H' R' st _ hv=>q O H' _ (R'.set_plain (i:=i) (m:=.fr) rfl rfl hv) st
end
mutual
noncomputable def toPy:D→PyData
 |.non=>.none
 |.bl b=>.bool b
 |.int i=>.int i
 |.str x=>.str x
 |.tup ds=>.tuple (cw ds)
 |.lst ds=>.list (cw ds)
 |.ty _=>.none
 |.dk _=>.none
 |.dt _=>.none
noncomputable def cw:List D→List PyData
 |[]=>[]
 |d::ds=>toPy d::cw ds
end
mutual
noncomputable def plain:D→Bool
 |.tup ds=>cF ds
 |.lst ds=>cF ds
 |.ty _=>false
 |.dk _=>false
 |.dt _=>false
 |.non=>true
 |.bl _=>true
 |.int _=>true
 |.str _=>true
noncomputable def cF:List D→Bool
 |[]=>true
 |d::ds=>plain d&&cF ds
end
section
variable {K:PySem.W.Frag}{H H' H₀:Hp}{O O':Addr→Prop}{σ:L2.St}{env:Ev}
mutual
theorem jn{N:Addr→Prop}:∀{v:V}{d:D},plain d=true→Rp K N H v d→Dn K H v (toPy d)
 |_,_,_,.non=>by simp only[toPy];exact .non
 |_,_,_,.bl b=>by simp only[toPy];exact .bl b
 |_,_,_,.int i=>by simp only[toPy];exact .int i
 |_,_,_,.str x=>by simp only[toPy];exact .str x
 |_,.ty n,e,.ty _=>by simp[plain]at e
 |_,.tup ds,e,.tup h r=>by simp only[toPy];exact .tup h (ot (by simpa only[plain]using e) r)
 |_,.lst ds,e,.lst h n r=>by simp only[toPy];exact .lst (.inl h) (ot (by simpa only[plain]using e) r)
 |_,.lst ds,e,.lstK h r=>by simp only[toPy];exact .lst (.inr h) (ot (by simpa only[plain]using e) r)
 |_,.dk ds,e,.dk h n _ r=>by simp[plain]at e
 |_,.dt ds,e,.dt h n _ r=>by simp[plain]at e
theorem ot{N:Addr→Prop}:∀{vs:List V}{ds:List D},cF ds=true→aq K N H vs ds→bF K H vs (cw ds)
 |_,_,_,.nil=>by simp only[cw];exact .nil
 |_,d::ds,e,.cons h r=>by
  have e':plain d=true∧cF ds=true:=by simpa[cF]using e
  simp only[cw]
  exact .cons (jn e'.1 h) (ot e'.2 r)
end
noncomputable def mR:D→D→Bool
 |.lst _,.lst _=>true
 |.tup _,.tup _=>true
 |.non,.non=>true
 |_,_=>false
theorem E3{a b:D}(h:mR a b=true):mZ (toPy a) (toPy b):=by
 cases a<;>cases b<;>simp only[mR]at h<;>try (cases h;done)
 ·simp only[toPy];exact .non
 ·simp only[toPy];exact .tup _ _
 ·simp only[toPy];exact .lst _ _
noncomputable def jw(a b:D):Bool:=plain a&&plain b&&mR a b&&decide (min (toPy a).depth (toPy b).depth≤60)
noncomputable def lQ:M×D→M×D→Option (M×D):=fun a b=>if jw a.2 b.2=true then some (.fr,.bl (PyData.eqv (toPy a.2) (toPy b.2)))else none
noncomputable def fu:M×D→M×D→Option (M×D):=fun a b=>if jw a.2 b.2=true then some (.fr,.bl (!PyData.eqv (toPy a.2) (toPy b.2)))else none
theorem D9{a b:D}(h:jw a b=true):plain a=true∧plain b=true∧mR a b=true∧min (toPy a).depth (toPy b).depth≤60:=by
 unfold jw at h
 simp only[Bool.and_eq_true,decide_eq_true_eq]at h
 exact⟨h.1.1.1,h.1.1.2,h.1.2,h.2⟩
theorem S8:JR K (z6 K) lQ:=by
 intro H₀ O H x y a b Q m d _ _ h1 h2 h q
 unfold lQ at h
 split at h
 ·rename_i ok
  cases h
  obtain⟨p1,p2,l,dp⟩:=D9 ok
  exact⟨_,_,jn p1 h1.weak,jn p2 h2.weak,E3 l,dp,q _ H (aB.refl H) dG⟩
 ·cases h
theorem S9:JR K (z7 K) fu:=by
 intro H₀ O H x y a b Q m d _ _ h1 h2 h q
 unfold fu at h
 split at h
 ·rename_i ok
  cases h
  obtain⟨p1,p2,l,dp⟩:=D9 ok
  exact⟨_,_,jn p1 h1.weak,jn p2 h2.weak,E3 l,dp,q _ H (aB.refl H) dG⟩
 ·cases h
theorem Ta{X:Cx}(h:X.K=K)(hu:X.A.units+64<cLine):bz X (compareOp .Eq) (z6 K):=by subst h;exact R8 hu
theorem Tb{X:Cx}(h:X.K=K)(hu:X.A.units+64<cLine):bz X (compareOp .NotEq) (z7 K):=by subst h;exact R9 hu
theorem Tc{n:Nat}{gs:gP}{fs:M→List D→Ev→Option Ev}(hs:p7 K gs fs):JG K (Ic K n gs) (gL n fs):=by
 intro H₀ I O H σ env x v env' Q R hm hv e q
 obtain⟨m,d⟩:=x
 cases d<;>simp only[gL]at e<;>try (cases e;done)
 split at e
 ·rename_i hl
  obtain⟨a,xs,rfl,Bv,r⟩:=hv.lst
  exact⟨a,xs,rfl,Bv,by rw[r.len];exact hl,hs H₀ I O H σ env (aI m) _ xs env' Q R (by cases m<;>first|rfl|cases hm) r e q⟩
 ·cases e
noncomputable def oT:List D→Option (List Str)
 |[]=>some []
 |.str x::r=>(oT r).bind fun xs=>some (x::xs)
 |_=>none
theorem Ea{N:Addr→Prop}:∀{ds:List D}{vs:List V}{ys:List Str},aq K N H vs ds→oT ds=some ys→vs=ys.map V.str
 |_,_,_,.nil,e=>by cases e;rfl
 |d::ds,v::vs,ys,.cons h r,e=>by
  cases d<;>simp only[oT]at e<;>try (cases e;done)
  obtain⟨xs,ex,e⟩:=ao e
  cases e
  rw[Ea r ex,h.str_inv];rfl
noncomputable def oU:M×D→List (M×D)→Option (M×D)
 | (_,.str z),[(_,.lst ds)]=>(oT ds).bind fun ys=>if (ys.map (·.length)).sum+ys.length*z.length≤16777216 then some (.fr,.str (Txt.join z ys))else none
 |_,_=>none
theorem Eb{X:Cx}(h:X.K=K):xt X "str.join" (fun x xs H Q=>∃(z:Str) (p:Addr) (ys:List Str),x=.str z∧xs=[.ref p]∧bw K H p (ys.map V.str)∧(ys.map (·.length)).sum+ys.length*z.length≤16777216∧Q (.str (Txt.join z ys)) H):=by subst h;exact PD
theorem Ol:By K "str" (fun x xs H Q=>∃(z:Str) (p:Addr) (ys:List Str),x=.str z∧xs=[.ref p]∧bw K H p (ys.map V.str)∧(ys.map (·.length)).sum+ys.length*z.length≤16777216∧Q (.str (Txt.join z ys)) H) oU:=by
 intro H₀ O H x vs a ak Q m d _ _ h1 h2 h q
 unfold oU at h
 split at h
 ·obtain⟨ys,ey,h⟩:=ao h
  split at h
  ·rename_i hl
   cases h
   obtain⟨v,rfl,hv⟩:=h2.one
   obtain⟨p,xs,rfl,hs,r⟩:=hv.lst
   rw[Ea r ey]at hs
   exact⟨_,p,ys,h1.str,rfl,hs,hl,q _ H (aB.refl H) vA⟩
  ·cases h
 ·cases h
theorem Qr{X:Cx}{tg l:Expr}{tl:TE}(h:X.K=K)(hl:PE X l tl):PI X tg l (zQ K tl):=by subst h;exact Rt hl
theorem Lg{X:Cx}(h:X.K=K):gp X (.type "list") (fun xs H Q=>∃p ys,xs=[.ref p]∧(bw K H p ys∨bh K H p ys)∧∀l,H l=none→Q (.ref l) (upd H l (.lst ys))):=by subst h;exact Li
end
theorem DM{fc:Ev→Option Bool}{fe:Ev→Option (M×D)}{m:M}{fr:Ev}{P:D→Prop}:∀{ds:List D},(∀d∈ds,fc (some (m,d)::fr)=some true∧∃x,fe (some (m,d)::fr)=some (.fr,x)∧P x)→∃xs:List D,fU fc fe m fr ds=some (xs.map fun x=>(M.fr,x))∧xs.length=ds.length∧∀x∈xs,P x
 |[],_=>⟨[],rfl,rfl,fun _ h=>nomatch h⟩
 |d::ds,h=>by
  obtain⟨h1,x,h2,h3⟩:=h d cM
  obtain⟨xs,q1,q2,q3⟩:=DM (ds:=ds) fun e he=>h e (cT _ he)
  refine⟨x::xs,?_,by rw[cB,cB,q2],fun y hy=>?_⟩
  ·rw[fU,h1,aC,if_pos rfl,h2,aC,q1,aC];rfl
  ·rcases fK.mp hy with rfl|hy
   ·exact h3
   ·exact q3 y hy
theorem E4{xs:List D}(h:xs.length≤1000):eJ (xs.map fun x=>(M.fr,x))=some (.un,.lst xs):=by
 unfold eJ
 rw[if_pos (by rw[a7];exact bS h (by decide)),if_pos (by rw[List.all_map];exact jG.mpr fun _ _=>rfl),w6]
 congr 3
 exact List.map_id xs
theorem DN:∀ys:List Str,oT (ys.map D.str)=some ys
 |[]=>rfl
 |y::ys=>by rw[bE,oT,DN ys];rfl
theorem Ec:∀{ys:List Str},(∀y∈ys,y.length=1)→(ys.map (·.length)).sum=ys.length
 |[],_=>rfl
 |y::ys,h=>by rw[bE,List.sum_cons,Ec fun z hz=>h z (cT _ hz),h y cM,cB];omega
noncomputable abbrev Ko:=Sum Int Str
noncomputable def kD:Ko→D
 |.inl i=>.int i
 |.inr x=>.str x
theorem oH(k:Ko):(kD k).bG=true:=by cases k<;>simp only[kD,D.bG]
inductive Row where
 |rk (x s:Str) (a b:Ko)|cp (x:Str) (a:Ko)|sy (a:Ko)|go (t:Int)|pt (a:Ko) (t:Int)|en
noncomputable def Row.ds:Row→List D
 |.rk x s a b=>[.str "reckon",.str x,.str s,kD a,kD b]
 |.cp x a=>[.str "copy",.str x,kD a]
 |.sy a=>[.str "say",kD a]
 |.go t=>[.str "go",.int t]
 |.pt a t=>[.str "part",kD a,.int t]
 |.en=>[.str "end"]
noncomputable def Row.d(r:Row):D:=.tup r.ds
theorem Row.bG(r:Row):r.d.bG=true:=by cases r<;>simp only[Row.d,Row.ds,D.bG,D.bH,oH,Bool.and_self]
theorem qB:∀rs:List Row,D.bH (rs.map Row.d)=true
 |[]=>by simp only[List.map_nil,D.bH]
 |r::rs=>by simp only[List.map_cons,D.bH,Row.bG,qB rs,Bool.and_self]
theorem Ed:∀rs:List Str,D.bH (rs.map D.str)=true
 |[]=>by simp only[List.map_nil,D.bH]
 |r::rs=>by simp only[List.map_cons,D.bH,D.bG,Ed rs,Bool.and_self]
noncomputable def Row.word:Row→Str
 |.rk _ _ _ _ => "reckon"
 |.cp _ _ => "copy"
 |.sy _ => "say"
 |.go _ => "go"
 |.pt _ _ => "part"
 |.en => "end"
theorem Row.p9(r:Row):L2.aX r.ds 0=some (.str r.word):=by cases r<;>rfl
theorem Om{rs:List Row}{k:Int}(h0:0≤k)(h1:k<rs.length):L2.aX (rs.map Row.d) k=some (rs[k.toNat]'(by omega)).d:=by
 rw[i7 h0 (by simpa using h1)]
 simp
section
variable {K:PySem.W.Frag}{H H' H₀:Hp}{O:Addr→Prop}{σ:L2.St}{env:Ev}
noncomputable def Ag(j i:Str):Bool:=!(Builtin.Str.occurrences j i 0 j.length 1).isEmpty
noncomputable def m9:List D→Option (List Bool)
 |[]=>some []
 |.bl x::r=>(m9 r).bind fun xs=>some (x::xs)
 |_=>none
theorem yV{N:Addr→Prop}:∀{ds:List D}{vs:List V}{ys:List Bool},aq K N H vs ds→m9 ds=some ys→vs=ys.map V.bl
 |_,_,_,.nil,e=>by cases e;rfl
 |d::ds,v::vs,ys,.cons h r,e=>by
  cases d<;>simp only[m9]at e<;>try (cases e;done)
  obtain⟨xs,ex,e⟩:=ao e
  cases e
  rw[yV r ex,h.zf];rfl
noncomputable def nh:List (M×D)→Option (M×D)
 |[(_,.lst ds)]=>(m9 ds).bind fun bs=>some (.fr,.bl (bs.all id))
 |_=>none
theorem L4{X:Cx}(h:X.K=K)(hc:X.calm=true):gp X (.builtin "all") (fun xs H Q=>∃(p:Addr) (bs:List Bool),xs=[.ref p]∧bw K H p (bs.map V.bl)∧Q (.bl (bs.all id)) H):=by subst h;exact Lk hc
theorem Qs:jP K (fun xs H Q=>∃(p:Addr) (bs:List Bool),xs=[.ref p]∧bw K H p (bs.map V.bl)∧Q (.bl (bs.all id)) H) nh:=by
 intro H₀ O H vs ak Q m d _ _ hv h q
 unfold nh at h
 split at h
 ·obtain⟨bs,eb,h⟩:=ao h
  cases h
  obtain⟨v,rfl,hw⟩:=hv.one
  obtain⟨a,xs,rfl,r,s⟩:=hw.lst
  rw[yV s eb]at r
  exact⟨_,_,rfl,r,q _ H (aB.refl H) dG⟩
 ·cases h
noncomputable def qQ:Ev→Option (M×D):=fun _=>some (.un,.dk [])
theorem Oo:JT K FP qQ:=by
 intro H₀ O H σ env Q m d R h q
 cases h
 intro p hp
 refine q _ _ (cu hp) ⟨p,rfl,hp,lC R.hd hp,ip R.od hp,[],bf,rfl,.nil⟩
theorem Td{a:Addr}{xs:List V}{ds:List D}(w:∀H:Hp,bh K H a xs)(r:∀(N:Addr→Prop) (H:Hp),aq K N H xs ds):JT K (tC (.ref a)) (jC (.tup ds)):=by
 intro H₀ O H σ env Q m d' R h q
 cases h
 exact q _ H (aB.refl H) (Rp.tup (w H) (r _ H))
theorem Dm{N:Addr→Prop}:∀(ys:List Str),aq K N H (ys.map V.str) (ys.map D.str)
 |[]=>.nil
 |y::ys=>.cons (.str y) (Dm ys)
end
theorem Qt{u:Value}{y:Str}(h:oY u=some (V.str y)):RelV (.str y) u:=by
 cases u<;>simp only[oY]at h<;>cases h
 exact⟨_,rfl⟩
theorem Ee:∀{us:List Value}{ys:List Str},us.map oY=ys.map (fun y=>some (V.str y))→Vals (ys.map V.str) us
 |[],[],_=>.nil
 |[],_::_,h=>by cases h
 |_::_,[],h=>by cases h
 |u::us,y::ys,h=>by
  rw[bE,bE]at h
  exact .cons (Qt (pP h).1) (Ee (pP h).2)
theorem Qu {K:PySem.W.Frag}{a:Addr}{its:Array Value}{n:Nat}{sl:Array (Option Value)}{ys:List Str} (l:K.lookup a=some ⟨.type "tuple",none,.seq its n,sl⟩) (v:its.toList.map oY=ys.map (fun y=>some (V.str y))) (hz:4≤ys.length∧ys.length≤1000) (H:Hp):bh K H a (ys.map V.str):=by
 have r:=Ee v
 have e:=r.length
 simp only[List.length_map,Array.length_toList]at e
 exact .inr ⟨_,its,n,l,rfl,rfl,rfl,bS (by omega) (show 1000≤sizeLine by decide),by omega,r⟩
section
variable {K:PySem.W.Frag}{H H₀:Hp}{O:Addr→Prop}
noncomputable def tP(z:Str):List D:=z.cps.toList.map fun c=>.str ⟨#[c]⟩
theorem Oq{z:Str}:iI K H₀ O (xB z) H .fr (tP z):=by
 have l:(tP z).length=z.cps.size:=by simp[tP]
 refine⟨fun O2 H2 i s hi=>by rw[l]at hi;exact hi,fun O2 H2 i x H3 s hi y=>?_,fun O2 H2 s=>by rw[l];exact aR z.cps.size⟩
 obtain⟨rfl,c,hc,rfl⟩:=y
 refine⟨aB.refl _,.str ⟨#[c]⟩,?_,Rp.str _⟩
 unfold tP
 rw[cG,A2,hc]
 rfl
noncomputable def J2(f:Ev→Option (M×D)):Ev→Option (M×List D):=fun e=>(f e).bind fun x=>match x.2 with
 |.str z=>some (.fr,tP z)
 |_=>none
theorem Te{t:TE}{f:Ev→Option (M×D)}(h:JT K t f):JI K (Ie t) (J2 f):=by
 intro H₀ O H σ env R m ds Re e q
 obtain⟨⟨m0,d0⟩,ex,e⟩:=ao e
 cases d0<;>simp only at e<;>try (cases e;done)
 cases e
 refine h H₀ O H σ env _ _ _ Re ex fun v H1 s1 h1=>?_
 exact⟨_,h1.str,q _ H1 s1 rfl Oq⟩
end
end J
namespace L2
open PySem
end L2
namespace J
open PySem L2
theorem yW(z:Str)(c:Nat):Ag z ⟨#[c]⟩=decide (c∈z.cps.toList):=StrLaws.found_one z c
section
variable {m n:M}{z:Str}{i:Int}{b:Bool}{ds:List D}{ks:List (Key×D)}{kt:List (List Key×D)}
theorem C2:eR [(m,.str z),(n,.ty "str")]=some (.fr,.bl true):=rfl
theorem C3:eR [(m,.int i),(n,.ty "str")]=some (.fr,.bl false):=rfl
end
section
variable {K:PySem.W.Frag}
end
structure dZ (X:Cx)(st:Stmt)(t:TS):Prop where
 go:PS X st t
structure iK (X:Cx)(ss:List Stmt)(t:TS):Prop where
 go:f6 X ss t
section
variable {X:Cx}{st:Stmt}{rest a b body:List Stmt}{t u tb:TS}{e c iter tg o i value:Expr}{te td ty tv:TE}{tc:TT}{g:TG}{wi:TI}{pos pos':Pos}{k:Nat}{x:Str}
theorem E5:iK X [] vt:=⟨O7⟩
theorem uG(h1:dZ X st t)(h2:iK X rest u):iK X (st::rest) (lN t u):=⟨Nu h1.go h2.go⟩
theorem E6(h1:dZ X st t):iK X [st] t:=⟨O8 h1.go⟩
theorem uQ(he:PE X e te)(hs:swapsWith e none pos.line X.env=pure false:=by rfl):dZ X (.Expr e pos) (oN te):=⟨O9 he hs⟩
theorem zj(he:PE X e te):dZ X (.Return (some e) pos) (rG te):=⟨Rm he⟩
theorem Hl(hc:PT X c tc)(ha:iK X a t)(hb:iK X b u):dZ X (.If c a b pos) (vV tc t u):=⟨Ud hc ha.go hb.go⟩
theorem Gf(he:PE X e te)(hg:PG X tg g)(hs:swapsWithSole [tg] e pos.line X.env=pure false:=by rfl)(hw:swappedStores [tg] e X.env=pure none:=by rfl)
 (h1:(assignEach [tg] X.env).map (·.2)=[assign tg X.env]:=by rfl):dZ X (.Assign [tg] e pos) (gK te g):=⟨Rq he hg hs hw h1⟩
theorem Tf{i:Nat}(hN:X.N.Nodup)(hi:X.N[i]?=some x)(hx:Loc X.env.scope x)(he:PE X e te)(hs:swapsWith e (some (.Name x pos')) pos.line X.env=pure false:=by rfl)(hf:X.fn x=true∨X.env.scope.names.lookup x=some .local:=by first|exact .inl rfl|exact .inr rfl|assumption) :
 dZ X (.Assign [.Name x pos'] e pos) (gK te (g7 i)):=⟨Rr hN hi hx he hs hf⟩
theorem Ot(hp:PassesOwn (model X.prog X.w) X.A X.env X.xe)(hc:PT X c tc)(hb:iK X body tb):dZ X (.While c body [] pos) (za tc tb):=⟨Nw hp hc hb.go⟩
theorem zk(hp:PassesOwn (model X.prog X.w) X.A X.env X.xe)(hc:X.calm=true)(hi:PI X tg iter wi)(hg:PG X tg g)(hb:iK X body tb)
 (hs:∀x,foldedSetIterable iter X.env x=pure x:=by intro _;rfl):dZ X (.For tg iter body [] pos) (ko wi g tb):=⟨Ru hp hc hi hg hb.go hs⟩
theorem E7(hu:X.A.units+1<cLine)(ho:PE X o td)(hi:PE X i ty)(hv:PE X value tv)(hs:swapsWith value (some (.Subscript o i pos')) pos.line X.env=pure false) :
 dZ X (.Assign [.Subscript o i pos'] value pos) (vx td ty tv):=⟨Px hu ho hi hv hs⟩
theorem Dp{N':List Str}{au:Scope}{ix:List Nat}{elt:Expr}{ifs:List Expr}{px:Pos}{i:Nat}{y:Str}{py rO:Pos}(hN:X.N.Nodup)(Bp:X.N[i]?=some y)(hy:X.env.scope.names.lookup y=some .local)(ok:j5 X.N N' X.env.scope au x ix)(hc:X.calm=true)(hi:PI X (.Name x px) iter wi)(fN:∀C s₂ H₂ fp pn,mj (X.bV N' au C s₂ H₂ fp pn) ifs tc)
 (k5:∀C s₂ H₂ fp pn,PE (X.bV N' au C s₂ H₂ fp pn) elt te) (Bq:swapsWith (.ListComp elt [⟨.Name x px,iter,ifs,0⟩] au pos) (some (.Name y py)) rO.line X.env=pure true:=by rfl)
 (hs:∀x,foldedSetIterable iter X.env x=pure x:=by intro _;rfl):dZ X (.Assign [.Name y py] (.ListComp elt [⟨.Name x px,iter,ifs,0⟩] au pos) rO) (gK (oO wi ix tc te) (g7 i)):=⟨LY hN Bp hy ok hc hi fN k5 Bq hs⟩
end
noncomputable def keyOf:D→Option Key
 |.int i=>some (.inl i)
 |.str x=>some (.inr x)
 |.non=>some .non
 |_=>none
noncomputable def bY{κ:Type}[DecidableEq κ](ks:List (κ×D))(k:κ):Option D:=(ks.find? fun kv=>decide (kv.1=k)).map (·.2)
noncomputable def putD{κ:Type}[DecidableEq κ](ks:List (κ×D))(k:κ)(d:D):List (κ×D) :=
 if (ks.any fun kv=>decide (kv.1=k))=true then ks.map (fun kv=>if kv.1=k then (kv.1,d)else kv)else ks++[(k,d)]
section
variable {K:PySem.W.Frag}{H H' H₀:Hp}{I:Nat→Option Addr}{O:Addr→Prop}{σ:L2.St}{env:Ev}
theorem lB{N:Addr→Prop}{d:D}{k:Key}{v:V}(e:keyOf d=some k)(h:Rp K N H v d):v=kV k:=by
 cases d<;>simp only[keyOf]at e<;>cases e
 ·exact h.EW
 ·exact h.int_inv
 ·exact h.str_inv
def Ent{κ:Type}(K:PySem.W.Frag)(N:Addr→Prop)(H:Hp)(kvs:List (κ×V))(ks:List (κ×D)):Prop:=kvs.map (·.1)=ks.map (·.1)∧aq K N H (kvs.map (·.2)) (ks.map (·.2))
theorem Ent.cons_inv{κ:Type}{N:Addr→Prop}{p:κ×V}{kvs:List (κ×V)}{q:κ×D}{ks:List (κ×D)}(h:Ent K N H (p::kvs) (q::ks)):p.1=q.1∧Rp K N H p.2 q.2∧Ent K N H kvs ks:=by
 obtain⟨e,r⟩:=h
 rw[bE,bE]at e r
 obtain⟨e1,e2⟩:=pP e
 cases r with|cons a b=>exact⟨e1,a,e2,b⟩
theorem Ent.len{κ:Type}{N:Addr→Prop}{kvs:List (κ×V)}{ks:List (κ×D)}(h:Ent K N H kvs ks):kvs.length=ks.length:=by
 have:=cf List.length h.1
 simpa using this
theorem Ent.val{κ:Type}[DecidableEq κ]{N:Addr→Prop}:∀{kvs:List (κ×V)}{ks:List (κ×D)} (k:κ),Ent K N H kvs ks→(bY ks k=none∧dH kvs k=none)∨∃d v,bY ks k=some d∧dH kvs k=some v∧Rp K N H v d
 |[],[],k,_=>.inl ⟨rfl,rfl⟩
 |[],_::_,k,h=>absurd h.len (by simp)
 |_::_,[],k,h=>absurd h.len (by simp)
 |p::kvs,q::ks,k,h=>by
  obtain⟨e,r,t⟩:=h.cons_inv
  by_cases z:q.1=k
  ·exact .inr ⟨q.2,p.2,by simp[bY,List.find?_cons,z],uD (e.trans z),r⟩
  ·have e1:bY (q::ks) k=bY ks k:=by simp[bY,List.find?_cons,z]
   rw[e1,uE (fun w=>z (e.symm.trans w))]
   exact Ent.val k t
theorem Ent.put{κ:Type}[DecidableEq κ]{N:Addr→Prop}{kvs:List (κ×V)}{ks:List (κ×D)}{k:κ}{v:V}{d:D}(h:Ent K N H kvs ks)(hv:Rp K N H v d):Ent K N H (putK kvs k v) (putD ks k d):=by
 have ha:(kvs.any fun kv=>decide (kv.1=k))=(ks.any fun kv=>decide (kv.1=k)):=by
  have:∀{α β:Type} (l:List (α×β)) (f:α→Bool),l.any (fun kv=>f kv.1)=(l.map (·.1)).any f:=fun l f=>by rw[List.any_map];rfl
  rw[this kvs fun a=>decide (a=k),this ks fun a=>decide (a=k),h.1]
 unfold putK putD
 rw[ha]
 split
 ·have go:∀{kvs:List (κ×V)}{ks:List (κ×D)},Ent K N H kvs ks→Ent K N H (kvs.map fun kv=>if kv.1=k then (kv.1,v)else kv) (ks.map fun kv=>if kv.1=k then (kv.1,d)else kv):=by
   intro kvs
   induction kvs with
   |nil=>intro ks h;cases ks with
    |nil=>exact⟨rfl,.nil⟩
    |cons _ _=>exact absurd h.len (by simp)
   |cons p kvs ih =>
    intro ks h
    cases ks with
    |nil=>exact absurd h.len (by simp)
    |cons q ks =>
     obtain⟨e,r,t⟩:=h.cons_inv
     obtain⟨i1,i2⟩:=ih t
     rw[bE,bE]
     by_cases z:q.1=k
     ·rw[if_pos z,if_pos (e.trans z)]
      exact⟨by rw[bE,bE,i1,e],.cons hv i2⟩
     ·rw[if_neg z,if_neg (fun w=>z (e.symm.trans w))]
      exact⟨by rw[bE,bE,i1,e],.cons r i2⟩
  exact go h
 ·exact⟨by rw[dh,dh,h.1];rfl,by rw[dh,dh];exact h.2.app (.cons hv .nil)⟩
theorem Val.dk{m:M}{ks:List (Key×D)}{v:V}{Hb:Hp}(h:Val K H₀ O Hb H m (.dk ks) v):∃a kvs,v=.ref a∧Rd H a (.dK kvs)∧Ent K (NM H₀ O (aI m)) H kvs ks:=by
 cases m<;>simp only[Val,Cell]at h
 ·cases h with|dk r n e q=>exact⟨_,_,rfl,r,e,q⟩
 ·cases h with|dk r n e q=>exact⟨_,_,rfl,r,e,q⟩
 ·obtain⟨p,rfl,_,_,_,xs,q,e,r⟩:=h;exact⟨_,_,rfl,.inl q,e,r.wk fun a h _=>h.1⟩
 ·obtain⟨p,rfl,_,_,xs,q,e,r⟩:=h;exact⟨_,_,rfl,.inl q,e,r⟩
 ·obtain⟨p,rfl,_,xs,q,e,r⟩:=h;exact⟨_,_,rfl,.inl q,e,r⟩
 ·cases h with|dk r n e q=>exact⟨_,_,rfl,r,e,q⟩
 ·obtain⟨p,qs,aK,rfl,e2,_⟩:=h;cases e2
 ·obtain⟨_,_,_,_,e2,_⟩:=h;cases e2
noncomputable def kC:D→Option (List (Key×D))
 |.dk ks=>some ks
 |_=>none
theorem uR{d:D}{ks:List (Key×D)}(h:kC d=some ks):d=.dk ks:=by cases d<;>simp only[kC]at h<;>cases h;rfl
noncomputable def iB(fd fk:Ev→Option (M×D)):Ev→Option (M×D):=fun e=>(fd e).bind fun x=>(fk e).bind fun y=>(kC x.2).bind fun ks=>(keyOf y.2).bind fun k=>(bY ks k).bind fun d=>some (aI x.1,d)
theorem Qv{td ty:TE}{fd fk:Ev→Option (M×D)}(hd:JT K td fd)(hk:JT K ty fk):JT K (G3 td ty) (iB fd fk):=by
 intro H₀ O H σ env Q m d R h q
 obtain⟨x,ex,h⟩:=ao h
 obtain⟨y,ey,h⟩:=ao h
 obtain⟨ks,iX,h⟩:=ao h
 obtain⟨k,ek,h⟩:=ao h
 obtain⟨d',ed,h⟩:=ao h
 cases h
 refine hd H₀ O H σ env _ x.1 x.2 R ex fun v H1 s1 h1=>?_
 refine hk H₀ O H1 σ env _ y.1 y.2 (R.keep s1) ey fun w H2 s2 h2=>?_
 rw[uR iX]at h1
 obtain⟨a,kvs,rfl,rd,en⟩:=(h1.keep s2).dk
 obtain rfl:=lB ek h2.weak
 rcases en.val k with⟨z,_⟩|⟨d2,v2,z1,z2,r⟩
 ·rw[z]at ed;cases ed
 ·rw[z1]at ed;cases ed
  exact⟨a,v2,rfl,.inl ⟨kvs,k,rd,rfl,z2.symm⟩,q v2 H2 (s1.trans s2) (Val.el r)⟩
noncomputable def Ah(neg:Bool)(fk fd:Ev→Option (M×D)):Ev→Option (M×D):=fun e=>(fk e).bind fun y=>(fd e).bind fun x=>(kC x.2).bind fun ks=>(keyOf y.2).bind fun k=>some (.fr,.bl (if neg then !(bY ks k).isSome else (bY ks k).isSome))
theorem Ent.isSome{κ:Type}[DecidableEq κ]{N:Addr→Prop}{kvs:List (κ×V)}{ks:List (κ×D)}{k:κ}(h:Ent K N H kvs ks):(dH kvs k).isSome=(bY ks k).isSome:=by
 rcases h.val k with⟨a,b⟩|⟨d,v,a,b,_⟩<;>rw[a,b]<;>rfl
theorem Tg{td ty:TE}{fd fk:Ev→Option (M×D)}(hk:JT K ty fk)(hd:JT K td fd):JT K (zX ty td) (Ah false fk fd):=by
 intro H₀ O H σ env Q m d R h q
 obtain⟨y,ey,h⟩:=ao h
 obtain⟨x,ex,h⟩:=ao h
 obtain⟨ks,iX,h⟩:=ao h
 obtain⟨k,ek,h⟩:=ao h
 cases h
 refine hk H₀ O H σ env _ y.1 y.2 R ey fun w H1 s1 h1=>?_
 refine hd H₀ O H1 σ env _ x.1 x.2 (R.keep s1) ex fun v H2 s2 h2=>?_
 rw[uR iX]at h2
 obtain⟨a,kvs,rfl,rd,en⟩:=h2.dk
 obtain rfl:=lB ek h1.weak
 refine⟨a,dH kvs k,rfl,.inl ⟨kvs,k,rd,rfl,rfl⟩,?_⟩
 rw[en.isSome]
 exact q _ H2 (s1.trans s2) dG
theorem MQ{td ty:TE}{fd fk:Ev→Option (M×D)}(hk:JT K ty fk)(hd:JT K td fd):JT K (yP ty td) (Ah true fk fd):=by
 intro H₀ O H σ env Q m d R h q
 obtain⟨y,ey,h⟩:=ao h
 obtain⟨x,ex,h⟩:=ao h
 obtain⟨ks,iX,h⟩:=ao h
 obtain⟨k,ek,h⟩:=ao h
 cases h
 refine hk H₀ O H σ env _ y.1 y.2 R ey fun w H1 s1 h1=>?_
 refine hd H₀ O H1 σ env _ x.1 x.2 (R.keep s1) ex fun v H2 s2 h2=>?_
 rw[uR iX]at h2
 obtain⟨a,kvs,rfl,rd,en⟩:=h2.dk
 obtain rfl:=lB ek h1.weak
 refine⟨a,dH kvs k,rfl,.inl ⟨kvs,k,rd,rfl,rfl⟩,?_⟩
 rw[en.isSome]
 exact q _ H2 (s1.trans s2) dG
noncomputable def jz(i:Nat)(e:Ev):Option (M×List (Key×D)):=match e[i]? with
 |some (some (m,.dk ds))=>if own m=true then some (m,ds)else none
 |_=>none
theorem E8{i:Nat}{e:Ev}{m:M}{ds:List (Key×D)}(h:jz i e=some (m,ds)):e[i]?=some (some (m,.dk ds))∧own m=true:=by
 unfold jz at h
 split at h
 ·rename_i e
  split at h
  ·cases h;exact⟨e,by assumption⟩
  ·cases h
 ·cases h
theorem Rel.dct{i:Nat}{m:M}{ds:List (Key×D)}(R:Rel K H₀ I O H σ env)(h:jz i env=some (m,ds)):∃p kvs,σ[i]?=some (some (.ref p))∧O p∧H p=some (.dK kvs)∧Ent K (fun a=>¬O a∧H₀ a=none) H kvs ds:=by
 obtain⟨e,o⟩:=E8 h
 obtain⟨v,hv,n,hm⟩:=R.e.at e
 cases m<;>simp only[own]at o<;>try (cases o;done)
 ·obtain⟨p,rfl,h1,h2,xs,c,z,r⟩:=hm;exact⟨p,xs,hv,h1,c,z,r⟩
 ·obtain⟨p,rfl,h1,xs,c,z,r⟩:=hm;exact⟨p,xs,hv,h1,c,z,r⟩
theorem Rel.VW{i:Nat}{m:M}{ds:List (Key×D)}{p:Addr}{xs ys:List (Key×V)}{es:List (Key×D)}(R:Rel K H₀ I O H σ env)(h:jz i env=some (m,ds))(hp:σ[i]?=some (some (.ref p)))(hx:H p=some (.dK xs))(r:Ent K (fun a=>¬O a∧H₀ a=none) H ys es) :
  Rel K H₀ I O (L2.upd H p (.dK ys)) σ (env.set i (some (m,.dk es)))∧aG O H O (L2.upd H p (.dK ys)):=by
 obtain⟨e,o⟩:=E8 h
 have hO:=(R.oC e o hp).1
 exact R.mut e o hp ⟨ys,bf,r.1,r.2.upd hO hx (fun z=>z)⟩
noncomputable def fH(i:Nat)(fk fe:Ev→Option (M×D)):Ev→Option Fl:=fun e=>(fe e).bind fun x=>(fk e).bind fun y=>(keyOf y.2).bind fun k=>if bO x.1 x.2=true then (jz i e).bind fun z=>if z.2.length<sizeLine then some (.nx (e.set i (some (z.1,.dk (putD z.2 k x.2)))))else none else none
theorem Qw{i:Nat}{t tk:TE}{f fk:Ev→Option (M×D)}(h:JT K t f)(hk:JT K tk fk):JS K (vx (gq i) tk t) (fH i fk f):=by
 intro H₀ I O H σ env Ds fl R e q
 obtain⟨x,ex,e⟩:=ao e
 obtain⟨y,ey,e⟩:=ao e
 obtain⟨k,ek,e⟩:=ao e
 split at e
 ·rename_i hs
  obtain⟨⟨m,ds⟩,ez,e⟩:=ao e
  split at e
  ·rename_i hl
   cases e
   obtain⟨p,kvs,hp,hO,hx,r⟩:=R.dct ez
   refine h H₀ O H σ env _ x.1 x.2 R.e ex fun v H1 s1 h1=>?_
   refine⟨.ref p,hp,?_⟩
   refine hk H₀ O H1 σ env _ y.1 y.2 (R.keep s1).e ey fun w H2 s2 h2=>?_
   obtain rfl:=lB ek h2.weak
   have s:=s1.trans s2
   refine⟨p,_,rfl,.inl ⟨kvs,k,s _ _ hx,rfl,by rw[r.len];exact hl,rfl⟩,?_⟩
   obtain⟨R2,st⟩:=(R.keep s).VW (ys:=putK kvs k v) (es:=putD ds k x.2) ez hp (s _ _ hx) (Ent.put ⟨r.1,r.2.keep (.same s)⟩ ((h1.keep s2).bO hs))
   exact q O _ σ R2 ((aG.same s).trans st)
  ·cases e
 ·cases e
end
section
variable {K:PySem.W.Frag}{H H' H₀:Hp}{I:Nat→Option Addr}{O:Addr→Prop}{σ:L2.St}{env:Ev}
theorem Rel.Ti{i:Nat}{C:Addr}{qs:List Addr}{aK:List (List D)}{H1:Hp}(R:Rel K H₀ I O H σ env)(s:aB H H1)(nn:∀(j:Nat) d,j≠i→env[j]?≠some (some (.nb,d)))(hC:H C=none)(hq:∀q∈qs,H q=none∧q≠C)(nd:qs.Nodup)
  (e:H1 C=some (.lst (qs.map V.ref))) (hp:Paired (fun q ds=>∃xs,H1 q=some (.lst xs)∧aq K (fun a=>¬(O a∨a=C∨a∈qs)∧H₀ a=none) H1 xs ds) qs aK) :
  Rel K H₀ I (fun a=>O a∨a=C∨a∈qs) H1 (σ.set i (some (.ref C))) (env.set i (some (.nb,.lst (aK.map D.lst))))∧aG O H (fun a=>O a∨a=C∨a∈qs) H1:=by
 have np:∀a,(∃o,H a=some o)→¬(a=C∨a∈qs):=fun a ⟨o,ea⟩ z=>by
  rcases z with rfl|z
  ·rw[hC]at ea;cases ea
  ·rw[(hq a z).1]at ea;cases ea
 have n0:∀a,(a=C∨a∈qs)→H₀ a=none:=fun a z=>by
  cases h0:H₀ a with
  |none=>rfl
  |some o=>exact absurd z (np a (R.e.hd a o h0))
 have nO:∀a,(a=C∨a∈qs)→¬O a:=fun a z ho=>np a (R.e.od a ho) z
 have wk:∀{N:Addr→Prop}{d:D}{v:V},Rp K N H v d→Rp K (fun a=>N a∧¬(a=C∨a∈qs)) H1 v d:=fun r=>(r.wk fun a n e=>⟨n,np a e⟩).keep (.same s)
 have tJ:∀{N:Addr→Prop}{d:D}{q:Addr},Cell K N H q d→Cell K (fun a=>N a∧¬(a=C∨a∈qs)) H1 q d:=fun {N d q} r=>by
  obtain⟨o,e,_⟩:=r.some
  exact(r.wk fun a n e=>⟨n,np a e⟩).keep (.same s) ((s _ _ e).trans e.symm)
 have bA:∀{j:Nat}{d:D},(env.set i (some (M.nb,D.lst (aK.map D.lst))))[j]?=some (some (.nb,d))→j=i:=fun {j d} h=>by
  rcases get_set h with⟨z,_⟩|⟨z,q⟩
  ·exact z
  ·exact absurd q (nn j d z)
 have J3:∀a,(a=C∨a∈qs)→∃o,H1 a=some o∧¬fP o:=fun a z=>by
  rcases z with rfl|z
  ·exact⟨_,e,fun z=>z⟩
  ·obtain⟨ds,xs,hx,_⟩:=yE hp z
   exact⟨_,hx,fun z=>z⟩
 refine⟨⟨⟨jY ?_ ?_,?_,?_,?_⟩,?_,?_,?_,?_,?_⟩,?_⟩
 ·rw[hV,hV];exact cK R.e.sl
 ·intro j y x hy hx m d ey
  subst ey
  rcases get_set hy with⟨rfl,z⟩|⟨nj,q⟩
  ·cases z
   rcases get_set hx with⟨_,z⟩|⟨z,_⟩
   ·subst z
    exact⟨rfl,_,rfl,C,qs,aK,rfl,rfl,.inr (.inl rfl),n0 C (.inl rfl),e,nd,fun q hm=>⟨.inr (.inr hm),n0 q (.inr hm),(hq q hm).2⟩,hp⟩
   ·exact absurd rfl z
  ·rw[cU (fun z=>nj z.symm)]at hx
   obtain⟨v,hv,n,z⟩:=R.e.at q
   rw[hx]at hv;cases hv
   refine⟨n,v,rfl,?_⟩
   cases m
   ·exact(wk z).wk fun a h _=>fun z=>z.elim h.1 h.2
   ·exact(wk z).wk fun a h _=>⟨fun z=>z.elim h.1.1 h.2,h.1.2⟩
   ·cases n
   ·obtain⟨q,rfl,h1,h2,c'⟩:=z
    exact⟨q,rfl,.inl h1,h2,(tJ c').wk fun a h _=>⟨fun z=>z.elim h.1.1 h.2,h.1.2⟩⟩
   ·obtain⟨q,rfl,h1,c'⟩:=z
    exact⟨q,rfl,.inl h1,(tJ c').wk fun a h _=>⟨fun z=>z.elim h.1.1 h.2,h.1.2⟩⟩
   ·cases n
   ·exact absurd q (nn j d nj)
   ·cases n
 ·intro a ha
  rcases ha with ha|ha
  ·obtain⟨o,e⟩:=R.e.od a ha;exact⟨o,s _ _ e⟩
  ·obtain⟨o,eo,_⟩:=J3 a ha;exact⟨o,eo⟩
 ·exact fun a o h=>let ⟨o,e⟩:=R.e.hd a o h;⟨o,s _ _ e⟩
 ·intro a u ha eu
  rcases ha with ha|ha
  ·exact(R.e.keep s).on a u ha eu
  ·obtain⟨o,eo,nt⟩:=J3 a ha
   rw[eu]at eo;cases eo;exact nt
 ·exact fun a o n h=>s _ _ (R.fr a o n h)
 ·intro a ha
  rcases ha with ha|ha
  ·exact R.ow a ha
  ·exact .inr (n0 a ha)
 ·intro i' d' p' h1 p1
  rcases get_set h1 with⟨rfl,q⟩|⟨n1,q1⟩
  ·cases q
  ·rw[cU (fun z=>n1 z.symm)]at p1
   exact R.ba i' d' p' q1 p1
 ·intro i' j x y q h1 h2 o1 o2 p1 p2
  rcases get_set h1 with⟨rfl,q1⟩|⟨n1,q1⟩
  ·cases q1;cases o1
  ·rcases get_set h2 with⟨rfl,q2⟩|⟨n2,q2⟩
   ·cases q2;cases o2
   ·rw[cU (fun z=>n1 z.symm)]at p1
    rw[cU (fun z=>n2 z.symm)]at p2
    exact R.dj i' j x y q q1 q2 o1 o2 p1 p2
 ·refine⟨fun i' j d1 d2 h1 h2=>(bA h1).trans (bA h2).symm,fun i' j d1 x p' q xs h1 p1 h2 o2 p2 ex=>?_⟩
  have hi:=bA h1
  subst hi
  have tQ:p'=C:=by
   rcases get_set p1 with⟨_,z⟩|⟨z,_⟩
   ·cases z;rfl
   ·exact absurd rfl z
  subst tQ
  rw[e]at ex;cases ex
  rcases get_set h2 with⟨rfl,z⟩|⟨n2,q2⟩
  ·cases z;cases o2
  ·rw[cU (fun z=>n2 z.symm)]at p2
   have hO:=(R.oC q2 o2 p2).1
   refine⟨fun z=>nO q (.inl z) hO,fun z=>?_⟩
   obtain⟨a,ha,ea⟩:=de.mp z
   exact nO q (.inr (by cases ea;exact ha)) hO
 ·intro a o h n
  exact⟨s a o h,fun z=>z.elim n (np a ⟨o,h⟩)⟩
noncomputable def Io(i:Nat)(e:Ev):Bool:=(List.range e.length).all fun j=>decide (j=i)||(match e[j]? with
 |some (some (.nb,_))=>false
 |_=>true)
theorem Qx{i:Nat}{e:Ev}(h:Io i e=true)(j:Nat)(d:D)(hj:j≠i):e[j]?≠some (some (.nb,d)):=fun z=>by
 have hl:j<e.length:=(bt.mp z).1
 have:=jG.mp h j (r6.mpr hl)
 rw[z,fJ hj]at this
 cases this
noncomputable def Hm(i:Nat)(it:Ev→Option (M×List D)):Ev→Option Fl:=fun e=>(it e).bind fun y=>if Io i e=true∧y.2.length<sizeLine then some (.nx (e.set i (some (.nb,.lst ((y.2.map fun _=>([]:List D)).map D.lst)))))else none
theorem Qy{i:Nat}{wi:TI}{ix:List Nat}{it:Ev→Option (M×List D)}(hi:JI K wi it):JS K (gK (oO wi ix v7 (vY kr)) (g7 i)) (Hm i it):=by
 intro H₀ I O H σ env Ds fl R e q
 obtain⟨⟨mi,ds⟩,ei,e⟩:=ao e
 split at e
 ·rename_i hc
  obtain⟨hn,hl⟩:=hc
  cases e
  refine hi H₀ O H σ env _ mi ds R.e ei fun J H1 s1 hm ok C hC=>?_
  refine⟨fun k n H2=>n=ds.length-k∧k≤ds.length∧aB H1 H2∧∃qs:List Addr,H2 C=some (.lst (qs.map V.ref))∧qs.length=k∧qs.Nodup∧∀q∈qs,H1 q=none∧q≠C∧H2 q=some (.lst []),⟨_,rfl,nC _,cu hC,[],bf,rfl,List.nodup_nil,fun _ h=>nomatch h⟩,?_⟩
  rintro k n H2 ⟨rfl,hle,s2,qs,J4,BI,J5,tR⟩
  have eV:aG O H1 O H2:=aG.same s2
  by_cases aT:k<ds.length
  ·refine .inr ⟨ok.go O H2 k eV aT,fun x H3 y=>?_⟩
   obtain⟨s3,_⟩:=ok.ib O H2 k x H3 eV aT y
   refine My.VJ (σ:=some x::eZ σ ix) (H:=H3) (A:=fun H3=>vY kr (some x::eZ σ ix) H3 _) (B:=fun H3=>_) ?_
   refine⟨nC _,fun p hp=>?_⟩
   have c3:H3 C=some (.lst (qs.map V.ref)):=s3 _ _ J4
   have tQ:C≠p:=eC c3 hp
   have W9:p∉qs:=fun z=>by rw[s3 _ _ (tR p z).2.2]at hp;cases hp
   refine⟨qs.map V.ref,by rw[az tQ];exact c3,by rw[a7,BI];exact Nat.lt_trans aT hl,ds.length-(k+1),by omega,rfl,aT,fun a o ha=>?_,qs++[p],?_,by rw[cg,BI];rfl,?_,fun a ha=>?_⟩
   ·rw[az (eC ha hC)]
    have h3:=s3 _ _ (s2 _ _ ha)
    rw[az (eC h3 hp)];exact h3
   ·rw[bf,dh];rfl
   ·rw[w9]
    refine⟨J5,by simp,fun a ha b hb=>?_⟩
    have:b=p:=by simpa using hb
    subst this
    exact fun z=>W9 (z▸ha)
   ·rcases fX.mp ha with ha|ha
    ·obtain⟨z1,z2,z3⟩:=tR a ha
     refine⟨z1,z2,?_⟩
     have h3:=s3 _ _ z3
     rw[az z2,az (eC h3 hp)];exact h3
    ·have:a=p:=by simpa using ha
     subst this
     have Xa:H1 a=none:=by
      cases h1:H1 a with
      |none=>rfl
      |some o=>rw[s3 _ _ (s2 _ _ h1)]at hp;cases hp
     exact⟨Xa,fun z=>tQ z.symm,by rw[az (fun z=>tQ z.symm),bf]⟩
  ·have hk:k=ds.length:=by omega
   subst hk
   refine .inl ⟨ok.stop O H2 eV,?_⟩
   have pr:∀(qs:List Addr) (ds:List D) (N:Addr→Prop),qs.length=ds.length→(∀q∈qs,H2 q=some (.lst []))→Paired (fun q (es:List D)=>∃xs,H2 q=some (.lst xs)∧aq K N H2 xs es) qs (ds.map fun _=>([]:List D)):=by
    intro qs
    induction qs with
    |nil=>intro ds N h _;cases ds with
     |nil=>exact .nil
     |cons _ _=>cases h
    |cons a qs ih=>intro ds N h hh;cases ds with
     |nil=>cases h
     |cons d ds=>exact .cons ⟨[],hh a cM,.nil⟩ (ih ds N (by simpa using h) fun q hq=>hh q (cT _ hq))
   obtain⟨R',st⟩:=(R.keep s1).Ti (i:=i) (C:=C) (qs:=qs) (aK:=ds.map fun _=>[]) s2 (fun j d hj=>Qx hn j d hj) hC (fun a ha=>⟨(tR a ha).1,(tR a ha).2.1⟩) J5 J4 (pr qs ds _ BI fun a ha=>(tR a ha).2.2)
   exact q _ H2 _ R' ((aG.same s1).trans st)
 ·cases e
noncomputable def wm:List D→Option (List (List D))
 |[]=>some []
 |.lst d::r=>(wm r).bind fun x=>some (d::x)
 |_=>none
theorem E9:∀{ds:List D}{aK:List (List D)},wm ds=some aK→ds=aK.map D.lst
 |[],_,h=>by cases h;rfl
 |d::r,aK,h=>by
  cases d<;>simp only[wm]at h<;>try (cases h;done)
  obtain⟨x,ex,h⟩:=ao h
  cases h
  rw[E9 ex,bE]
noncomputable def BJ(i:Nat)(e:Ev):Option (List (List D)):=match e[i]? with
 |some (some (.nb,.lst ds))=>wm ds
 |_=>none
theorem Tj{i:Nat}{e:Ev}{aK:List (List D)}(h:BJ i e=some aK):e[i]?=some (some (.nb,.lst (aK.map D.lst))):=by
 unfold BJ at h
 split at h
 ·rename_i e
  rw[e,E9 h]
 ·cases h
theorem C4:∀{a b:List (List D)},a.map D.lst=b.map D.lst→a=b
 |[],[],_=>rfl
 |[],_::_,h=>by cases h
 |_::_,[],h=>by cases h
 |x::a,y::b,h=>by
  rw[bE,bE]at h
  obtain⟨h1,h2⟩:=pP h
  rw[D.lst.inj h1,C4 h2]
theorem DP{F:Addr→List D→Prop}:∀{qs:List Addr}{aK:List (List D)}{j:Nat}{ds:List D},Paired F qs aK→aK[j]?=some ds→∃q,qs[j]?=some q∧F q ds
 |_,_,_,_,.nil,h=>by simp at h
 |_,_,0,_,.cons a t,h=>by simp at h;subst h;exact⟨_,rfl,a⟩
 |_,_,j+1,ds,.cons a t,h=>by
  obtain⟨q,h1,h2⟩:=DP (j:=j) (ds:=ds) t (by simpa using h)
  exact⟨q,by simpa using h1,h2⟩
theorem DQ{F G:Addr→List D→Prop}{es:List D}:∀{qs:List Addr}{aK:List (List D)}{j:Nat}{q:Addr},qs.Nodup→Paired F qs aK→qs[j]?=some q→G q es→(∀a ds,a∈qs→a≠q→F a ds→G a ds)→Paired G qs (aK.set j es)
 |_,_,_,_,_,.nil,h,_,_=>by simp at h
 |a::qs,ds::aK,0,q,hn,.cons x t,h,g,w=>by
  simp at h;subst h
  rw[iR]at hn
  exact .cons g (jh (fun b es hb hf=>w b es (cT _ hb) (fun z=>hn.1 (z▸hb)) hf) t)
 |a::qs,ds::aK,j+1,q,hn,.cons x t,h,g,w=>by
  rw[iR]at hn
  have h':qs[j]?=some q:=by simpa using h
  have hq:q∈qs:=fB h'
  exact .cons (w a ds cM (fun z=>hn.1 (z▸hq)) x) (DQ hn.2 t h' g fun b es hb=>w b es (cT _ hb))
theorem Rel.VX{i:Nat}{aK:List (List D)}{p q:Addr}{qs:List Addr}{j:Nat}{xs ys:List V}{es:List D}(R:Rel K H₀ I O H σ env)(hx:env[i]?=some (some (.nb,.lst (aK.map D.lst))))(hp:σ[i]?=some (some (.ref p)))
  (h1:O p) (h2:H₀ p=none) (h3:H p=some (.lst (qs.map V.ref))) (h4:qs.Nodup) (h5:∀q∈qs,O q∧H₀ q=none∧q≠p) (h6:Paired (fun q ds=>∃xs,H q=some (.lst xs)∧aq K (fun a=>¬O a∧H₀ a=none) H xs ds) qs aK)
  (hq:qs[j]?=some q) (eq:H q=some (.lst xs)) (r:aq K (fun a=>¬O a∧H₀ a=none) H ys es) :
  Rel K H₀ I O (upd H q (.lst ys)) σ (env.set i (some (.nb,.lst ((aK.set j es).map D.lst))))∧aG O H O (upd H q (.lst ys)):=by
 have J6:q∈qs:=fB hq
 obtain⟨qO,q0,qp⟩:=h5 q J6
 have kp:∀{N:Addr→Prop},(∀a,N a→¬O a)→Keeps N H (upd H q (.lst ys)):=fun w a u h z=>by
  have gk:a≠q:=by
   rintro rfl
   rcases z with z|z
   ·exact w _ z qO
   ·rw[eq]at h;cases h;exact z
  rw[az gk];exact h
 have hi:i<env.length:=(bt.mp hx).1
 have Ip:∀{k:Nat}{x:M×D}{p':Addr},env[k]?=some (some x)→own x.1=true→σ[k]?=some (some (.ref p'))→p'≠q:=fun {k x p'} a b c z=>by
  obtain⟨_,z2⟩:=R.nd.2 i k _ x p p' _ hx hp a b c h3
  exact z2 (de.mpr ⟨q,J6,by rw[z]⟩)
 have BK:∀{k:Nat}{d1:D},(env.set i (some (M.nb,D.lst ((aK.set j es).map D.lst))))[k]?=some (some (.nb,d1))→k=i:=fun {k d1} h=>by
  rcases get_set h with⟨z,_⟩|⟨_,z⟩
  ·exact z
  ·exact R.nd.1 k i d1 _ z hx
 refine⟨⟨⟨jY ?_ ?_,?_,?_,?_⟩,?_,R.ow,?_,?_,?_⟩,?_⟩
 ·rw[hV];exact cK R.e.sl
 ·intro k y x hy tS m d ey
  subst ey
  rcases get_set hy with⟨rfl,z⟩|⟨nk,z⟩
  ·cases z
   rw[hp]at tS;cases tS
   refine⟨rfl,_,rfl,p,qs,aK.set j es,rfl,rfl,h1,h2,by rw[az (fun z=>qp z.symm)];exact h3,h4,h5,DQ h4 h6 hq ⟨ys,bf,r.keep (kp fun a h=>h.1)⟩ fun a ds ha gk ⟨zs,e1,e2⟩=>⟨zs,by rw[az gk];exact e1,e2.keep (kp fun a h=>h.1)⟩⟩
  ·obtain⟨v,hv,n,hm⟩:=R.e.at z
   rw[tS]at hv;cases hv
   refine⟨n,v,rfl,?_⟩
   cases m
   ·exact Rp.keep (kp fun a h=>h) hm
   ·exact Rp.keep (kp fun a h=>h.1) hm
   ·cases n
   ·obtain⟨p',rfl,h1,h2,c'⟩:=hm
    exact⟨p',rfl,h1,h2,c'.keep (kp fun a h=>h.1) (az (Ip z rfl tS))⟩
   ·obtain⟨p',rfl,h1,c'⟩:=hm
    exact⟨p',rfl,h1,c'.keep (kp fun a h=>h.1) (az (Ip z rfl tS))⟩
   ·cases n
   ·exact absurd (R.nd.1 k i d _ z hx) nk
   ·cases n
 ·intro a ha
  by_cases z:a=q
  ·subst z;exact⟨_,bf⟩
  ·rw[az z];exact R.e.od a ha
 ·intro a u h
  by_cases z:a=q
  ·subst z;exact⟨_,bf⟩
  ·rw[az z];exact R.e.hd a u h
 ·intro a u ha e
  by_cases z:a=q
  ·subst z;rw[bf]at e;cases e;exact fun z=>z
  ·rw[az z]at e;exact R.e.on a u ha e
 ·intro a u n h
  have z:a≠q:=by rintro rfl;rw[q0]at h;cases h
  rw[az z];exact R.fr a u n h
 ·intro i' e' p' g1 p1
  rcases get_set g1 with⟨rfl,z⟩|⟨n1,q1⟩
  ·cases z
  ·exact R.ba i' e' p' q1 p1
 ·intro i' k x y a g1 g2 o1 o2 p1 p2
  rcases get_set g1 with⟨rfl,z⟩|⟨_,q1⟩
  ·cases z;cases o1
  ·rcases get_set g2 with⟨rfl,z⟩|⟨_,q2⟩
   ·cases z;cases o2
   ·exact R.dj i' k x y a q1 q2 o1 o2 p1 p2
 ·refine⟨fun i' k d1 d2 g1 g2=>(BK g1).trans (BK g2).symm,fun i' k d1 x p' a zs g1 p1 g2 o2 p2 e=>?_⟩
  have z:=BK g1
  subst z
  rw[hp]at p1;cases p1
  rw[az (fun z=>qp z.symm)]at e
  rcases get_set g2 with⟨rfl,z⟩|⟨_,q2⟩
  ·cases z;cases o2
  ·exact R.nd.2 i' k _ x p a zs hx hp q2 o2 p2 e
 ·intro a u h n
  have z:a≠q:=by rintro rfl;exact n qO
  exact⟨by rw[az z];exact h,n⟩
noncomputable def Hn(i:Nat)(fk f:Ev→Option (M×D)):Ev→Option Fl:=fun e=>(fk e).bind fun y=>(m5 y).bind fun k=>(f e).bind fun x=>if bO x.1 x.2=true then (BJ i e).bind fun aK=>(dF aK.length k).bind fun j=>(aK[j]?).bind fun ds=>if ds.length<sizeLine then some (.nx (e.set i (some (.nb,.lst ((aK.set j (ds++[x.2])).map D.lst)))))else none else none
theorem Qz{i:Nat}{t tk:TE}{f fk:Ev→Option (M×D)}(hk:JT K tk fk)(h:JT K t f):JS K (oN (nK K "list" qE (lZ (pX K) (gq i) tk) (lG t kr))) (Hn i fk f):=by
 intro H₀ I O H σ env Ds fl R e q
 obtain⟨y,ey,e⟩:=ao e
 obtain⟨k,ek,e⟩:=ao e
 obtain⟨x,ex,e⟩:=ao e
 split at e
 ·rename_i hs
  obtain⟨aK,ed,e⟩:=ao e
  obtain⟨j,ej,e⟩:=ao e
  obtain⟨ds,Xb,e⟩:=ao e
  split at e
  ·rename_i hl
   cases e
   have hx:=Tj ed
   obtain⟨v,hv,_,p,qs,YQ,rfl,e2,h1,h2,h3,h4,h5,h6⟩:=R.e.at hx
   cases C4 (D.lst.inj e2)
   obtain⟨a,ha,xs,BL,rr⟩:=DP h6 Xb
   refine⟨.ref p,hv,?_⟩
   refine hk H₀ O H σ env _ y.1 y.2 R.e ey fun w H1 s1 hw=>?_
   rw[yQ ek]at hw
   have hlen:qs.length=aK.length:=cK h6
   refine .inl ⟨p,_,k,.ref a,rfl,hw.int,.inl (.inl (s1 _ _ h3)),?_,?_⟩
   ·unfold L2.aX
    rw[a7,hlen,ej]
    show(qs.map V.ref)[j]?=_
    rw[cG,ha];rfl
   refine⟨.inl ⟨rfl,xs,.inl (.inl (s1 _ _ BL))⟩,?_⟩
   refine h H₀ O H1 σ env _ x.1 x.2 (R.e.keep s1) ex fun u H2 s2 hu=>?_
   have s:=s1.trans s2
   refine⟨a,xs,u,rfl,rfl,s _ _ BL,by rw[rr.len];exact hl,?_⟩
   have R2:=R.keep s
   obtain⟨R3,st⟩:=R2.VX (ys:=xs++[u]) (es:=ds++[x.2]) hx hv h1 h2 (s _ _ h3) h4 h5 (jh (fun q ds _ ⟨zs,e1,e2⟩=>⟨zs,s _ _ e1,e2.keep (.same s)⟩) h6) ha (s _ _ BL) ((rr.keep (.same s)).app (.cons (hu.bO hs) .nil))
   exact q O _ σ R3 ((aG.same s).trans st)
  ·cases e
 ·cases e
end
section
variable {K:PySem.W.Frag}
end
section
variable {K:PySem.W.Frag}{H H' H₀:Hp}{O:Addr→Prop}{σ:L2.St}{env:Ev}
theorem Val.Tn{m:M}{ks:List (Key×D)}{v:V}{Hb:Hp}(h:Val K H₀ O Hb H m (.dk ks) v):∃a,v=.ref a∧Bg H a:=by
 obtain⟨a,kvs,rfl,rd,_⟩:=h.dk
 exact⟨a,rfl,.inl ⟨kvs,rd⟩⟩
noncomputable def j6(fd fk fx:Ev→Option (M×D)):Ev→Option (M×D):=fun e=>(fd e).bind fun x=>(fk e).bind fun y=>(fx e).bind fun z=>(kC x.2).bind fun ks=>(keyOf y.2).bind fun k=>match bY ks k with
 |some d=>some (aI x.1,d)
 |none=>if z.2.bG=true then some (.fr,z.2)else none
theorem Ou{td ty tx:TE}{fd fk fx:Ev→Option (M×D)}(hd:JT K td fd)(hk:JT K ty fk)(hx:JT K tx fx):JT K (FQ td ty tx) (j6 fd fk fx):=by
 intro H₀ O H σ env Q m d R h q
 obtain⟨x,ex,h⟩:=ao h
 obtain⟨y,ey,h⟩:=ao h
 obtain⟨z,ez,h⟩:=ao h
 obtain⟨ks,iX,h⟩:=ao h
 obtain⟨k,ek,h⟩:=ao h
 refine hd H₀ O H σ env _ x.1 x.2 R ex fun v H1 s1 h1=>?_
 rw[uR iX]at h1
 obtain⟨a,rfl,Xc⟩:=h1.Tn
 refine⟨a,rfl,Xc,hk H₀ O H1 σ env _ y.1 y.2 (R.keep s1) ey fun w H2 s2 h2=>?_⟩
 refine hx H₀ O H2 σ env _ z.1 z.2 ((R.keep s1).keep s2) ez fun u H3 s3 h3=>?_
 obtain⟨a',kvs,e',rd,en⟩:=((h1.keep s2).keep s3).dk
 cases e'
 obtain rfl:=lB ek h2.weak
 have s:=(s1.trans s2).trans s3
 refine⟨dH kvs k,.inl ⟨kvs,k,rd,rfl,rfl⟩,?_⟩
 rcases en.val k with⟨z1,z2⟩|⟨d2,v2,z1,z2,r⟩
 ·rw[z1]at h
  simp only at h
  split at h
  ·rename_i hi
   cases h
   rw[z2]
   exact q u H3 s (show Rp K _ H3 u z.2 from h3.weak.im hi)
  ·cases h
 ·rw[z1]at h;cases h
  rw[z2]
  exact q v2 H3 s (Val.el r)
theorem Lz{X:Cx}:gp X (.type "dict") (fun xs H Q=>∃a kvs,xs=[.ref a]∧Rd H a (.dK kvs)∧∀p,H p=none→Q (.ref p) (upd H p (.dK kvs))):=by
 intro pins s σ H xs us Q I r h
 obtain⟨a,kvs,rfl,rd,q⟩:=h
 obtain⟨u,rfl,ru⟩:=vals1 r
 cases (show u=Value.ref a from ru)
 exact NS I rd fun p s' hp I'=>⟨.ref p,_,I',rfl,q p hp⟩
noncomputable def gG:List (M×D)→Option (M×D)
 |[(_,.dk ks)]=>if D.bH (ks.map (·.2))=true then some (.un,.dk ks)else none
 |_=>none
theorem Ov:jP K (fun xs H Q=>∃a kvs,xs=[.ref a]∧Rd H a (.dK kvs)∧∀p,H p=none→Q (.ref p) (upd H p (.dK kvs))) gG:=by
 intro H₀ O H vs ak Q m d od hd hv h q
 unfold gG at h
 split at h
 ·split at h
  ·rename_i hi
   cases h
   obtain⟨v,rfl,hw⟩:=hv.one
   obtain⟨a,kvs,rfl,rd,en⟩:=hw.dk
   refine⟨a,kvs,rfl,rd,fun p hp=>q _ _ (cu hp) ⟨p,rfl,hp,lC hd hp,ip od hp,kvs,bf,en.1,?_⟩⟩
   refine((aq.im (N':=fun _=>False) hi en.2).keep (.same (cu hp))).im hi
  ·cases h
 ·cases h
end
end J
namespace J
open PySem PySem.Spec PyProof.Rows L2
section
variable {X:Cx}{pins:List (Addr×Obj)}{σ:L2.St}{H:Hp}{s:Shared}{a d it:Addr}
theorem vh{o1 o2:HO}(I:L2.Inv X pins σ H s)(e:H a=some o1)(ht:∀xs,o1≠.tup xs)(hb:∀ps,o1≠.kM ps)(hx:∀x,o1≠.own x)(hf:∀o u,X.H₀ a≠some (.aL o u))(ok:bU X.prog X.w (upd H a o2) s.heap a o2):L2.Inv X pins σ (upd H a o2) s:=by
 have ne:∀b,H b=none→b≠a:=fun b h z=>by rw[z,e]at h;cases h
 have nt:∀b xs,H b=some (.tup xs)→b≠a:=fun b xs h z=>by rw[z,e]at h;cases h;exact ht _ rfl
 have nx:∀b x,H b=some (.own x)→b≠a:=fun b x h z=>by rw[z,e]at h;cases h;exact hx _ rfl
 refine⟨I.ok,I.os,I.bare,⟨I.base.keep,I.base.slot,fun b o h n hx=>?_,I.base.there,fun b xs h=>?_,fun b o u h=>?_,fun b ps h=>?_⟩,I.loc,I.cell,?_,fun x c h=>?_,fun p hp=>?_,fun b u h=>?_,I.len⟩
 ·have z:=I.base.free b o h n hx
  rw[az (ne b z)];exact z
 ·have z:=I.base.hG b xs h
  rw[az (nt b xs z)];exact z
 ·have z:=I.base.fV b o u h
  rw[az (fun(q:b=a)=>hf o u (by rw[←q];exact h))];exact z
 ·obtain⟨m,z⟩:=I.base.hJ b ps h
  refine⟨m,?_⟩
  rw[az (fun q=>by rw[q,e]at z;cases z;exact hb _ rfl)];exact z
 ·rw[az (ne _ I.free)];exact I.free
 ·rw[az (ne _ (I.gE x c h))];exact I.gE x c h
 ·obtain⟨h1,h2,h3⟩:=I.pin p hp
  exact⟨h1,by rw[az (ne _ h2)];exact h2,h3⟩
 ·by_cases z:b=a
  ·subst z;rw[bf]at h;cases h;exact ok
  ·rw[az z]at h
   exact(I.aA b u h).lM (fun c v _ q=>q) (fun c q=>by rw[az (nx _ _ q)];exact q) fun c xs q=>by rw[az (nt _ _ q)];exact q
noncomputable def Iq(a:Addr)(o:Obj)(u:HO)(Ds:Ends):Ends where
 nx:=fun σ H=>H a=some (.aL o u)∧Ds.nx σ (upd H a u)
 rt:=fun v H=>H a=some (.aL o u)∧Ds.rt v (upd H a u)
 bk:=fun σ H=>H a=some (.aL o u)∧Ds.bk σ (upd H a u)
 ct:=fun σ H=>H a=some (.aL o u)∧Ds.ct σ (upd H a u)
noncomputable def Ir(i:Nat)(t:TS):TS:=fun Ds σ H=>∃a kvs,σ[i]?=some (some (.ref a)) ∧
 ((H a=some (.dK kvs)∧∀o,t (Iq a o (.dK kvs) Ds) σ (upd H a (.aL o (.dK kvs))))∨((∃o,H a=some (.aL o (.dK kvs)))∧t Ds σ H))
theorem Tp{st:Stmt}{t:TS}{i:Nat}(h:dZ X st t):dZ X st (Ir i t):=by
 refine⟨fun pins s σ H Ds I ht=>?_⟩
 obtain⟨a,kvs,hs,⟨e,ht⟩|⟨_,ht⟩⟩:=ht
 ·have ok:=I.aA a _ e
  obtain⟨hz,lo,vs,rv,o,es,ep,ho,r⟩:=id ok
  have hf:∀o u,X.H₀ a≠some (.aL o u):=fun o u z=>by rw[I.base.fV a o u z]at e;cases e
  have I1:L2.Inv X pins σ (upd H a (.aL o (.dK kvs))) s:=vh I e (fun _ z=>nomatch z) (fun _ z=>nomatch z) (fun _ z=>nomatch z) hf ⟨ho,ok⟩
  have th:∀{σ':L2.St}{H':Hp}{s':Shared},L2.Inv X pins σ' H' s'→H' a=some (.aL o (.dK kvs))→L2.Inv X pins σ' (upd H' a (.dK kvs)) s':=fun I' e' =>
   vh I' e' (fun _ z=>nomatch z) (fun _ z=>nomatch z) (fun _ z=>nomatch z) hf (I'.aA a _ e').2
  refine aD (h.go pins s σ _ _ I1 (ht o)) fun f s' q=>?_
  cases f with
  |next=>obtain⟨σ',H',I',e',q⟩:=q;exact⟨σ',_,th I' e',q⟩
  |brk=>obtain⟨σ',H',I',e',q⟩:=q;exact⟨σ',_,th I' e',q⟩
  |cont=>obtain⟨σ',H',I',e',q⟩:=q;exact⟨σ',_,th I' e',q⟩
  |ret v=>obtain⟨v',σ',H',I',qc,e',q⟩:=q;exact⟨v',σ',_,th I' e',qc,q⟩
 ·exact h.go pins s σ H Ds I ht
theorem Ow:entryFor table "dict_itemiterator.__iter__" = some Builtin.«dict_keyiterator.__iter__» :=
 entryFor_alias (id' := "dict_keyiterator.__iter__") (by kernel_rfl) rfl (by decide +kernel) (by kernel_rfl)
noncomputable def BM(d:Addr)(o:Obj)(kvs:List (Key×V)):It :=
 ⟨fun i H=>H d=some (.aL o (.dK kvs))∧i<kvs.length,fun i H x H'=>∃t kv,x=.ref t∧H t=none∧H'=upd H t (.tup [kV kv.1,kv.2])∧kvs[i]?=some kv,fun i H=>H d=some (.aL o (.dK kvs))∧kvs.length≤i⟩
theorem Fc{o:Obj}{kvs:List (Key×V)}{es:Array DictEntry}{ep:Nat}(I:L2.Inv X pins σ H s)(e:H d=some (.aL o (.dK kvs)))(hd:o.data=.dict es ep):∃vs,KV kvs vs∧s.heap.DictAt (cv X.prog X.w) d vs ep:=by
 obtain⟨ho,hz,lo,vs,rv,o',sN,sO,dE,ex,jJ,r⟩:=(I.aA d _ e:bU X.prog X.w H s.heap d (.aL o (.dK kvs)))
 rw[ho]at dE;cases dE
 rw[hd]at jJ;cases jJ
 exact⟨vs,rv,o,es,ho,ex,hd,r⟩
theorem vi:∀{kvs:List (Key×V)}{vs:List (Key×Value)}{i:Nat}{kv:Key×V},KV kvs vs→kvs[i]?=some kv→∃u,vs[i]?=some (kv.1,u)∧RelV kv.2 u
 |_,_,_,_,.nil,e=>by simp at e
 |_,_,0,_,.cons (b:=q) h _,e=>by
  simp only[List.getElem?_cons_zero,Option.some.injEq]at e
  subst e
  exact⟨q.2,by rw[Jf,h.1],h.2⟩
 |_,_,i+1,kv,.cons _ t,e=>by
  obtain⟨u,h1,h2⟩:=vi (i:=i) (kv:=kv) t (by simpa using e)
  exact⟨u,by simpa using h1,h2⟩
theorem Fd{P:Program}{w:World}{k:Key}{u:Value}(h:(cv P w).is k u=true):RelV (kV k) u:=by
 rcases i6 (k:=k) (v:=u) h with⟨i,t,rfl,rfl⟩|⟨x,t,rfl,rfl⟩|⟨rfl,rfl⟩<;>first|exact⟨t,rfl⟩|rfl
theorem L5{P:Program}{w:World}{K:PySem.W.Frag}{elts:List Expr}{x1}{pos:Pos}{o:Obj}{kvs:List (Key×V)}{es:Array DictEntry}{ep:Nat}(hd:o.data=.dict es ep):Turn P w K (.Tuple elts x1 pos) (BM d o kvs) [it] it (fun i h=>∃ok ov,IsItemIter h it d i kvs.length ep ok ov) where
 mem:=by simp
 obj:=fun i h st b hb=>by
  have e:b=it:=by simpa using hb
  subst e
  obtain⟨ok,ov,he⟩:=st
  exact⟨_,he,fun v z=>nomatch z⟩
 keep:=fun i h h' st k=>by
  obtain⟨ok,ov,he⟩:=st
  exact⟨ok,ov,k it (by simp) _ he⟩
 item:=by
  intro X hP hw hK hc i pins s σ H E I hf st hg
  subst hP hw hK
  obtain⟨e,hi⟩:=hg
  obtain⟨ok,ov,he⟩:=st
  obtain⟨vs,rv,da⟩:=Fc I e hd
  obtain⟨u,hu,ru⟩:=vi rv (bP hi)
  have hl:it<s.heap.objs.size:=bx he
  have hT:H s.heap.objs.size=none:=I.aA.fresh (aR _)
  have BO:IsItemIter s.heap it d i vs.length ep ok ov:=by rw[←rv.length];exact he
  refine wpAny_pyNext_items_item BO da hu fun key h1 VY VZ ht hsz hk=>⟨_,rfl,?_⟩
  refine wpAny_letOwnedTupleGo_items VZ fun h2 xI sb=>?_
  have BD:h2.get? s.heap.objs.size=some { cls:=.type "tuple",data:=.seq #[key,u] }:=(sb.2 _ (Nat.ne_of_gt hl)).trans ht
  have k2:∀b o,b∉[it]→s.heap.get? b=some o→h2.get? b=some o:=fun b o nb q=>by
   have n1:b≠it:=fun z=>nb (by simp[z])
   exact(sb.2 b n1).trans (hk b o n1 q)
  refine⟨.ref s.heap.objs.size,upd H s.heap.objs.size (.tup [kV kvs[i].1,kvs[i].2]),?_,rfl,⟨s.heap.objs.size,kvs[i],rfl,hT,rfl,bP hi⟩,⟨_,_,by rw[←rv.length]at xI;exact xI⟩,fun b hb=>?_⟩
  ·refine CZ (t':=s.toks) I k2 hf ⟨by show 2≤sizeLine;decide,[key,u],.cons (Fd VY) (.cons ru .nil),⟨_,BD,rfl,rfl,_,rfl⟩⟩
  ·have eb:b=it:=by simpa using hb
   subst eb
   rw[az (cL hl)]
   exact(hf _ hb).1
 done:=by
  intro X hP hw hK hc i pins s σ H E I hf st hg
  subst hP hw hK
  obtain⟨e,hi⟩:=hg
  obtain⟨ok,ov,he⟩:=st
  obtain⟨vs,rv,da⟩:=Fc I e hd
  have BO:IsItemIter s.heap it d i vs.length ep ok ov:=by rw[←rv.length];exact he
  refine wpAny_pyNext_items_end (I.ok.hd hc) BO da (jH (by rw[←rv.length];exact hi)) fun h1 eb=>⟨rfl,?_⟩
  exact Dk (fp:=[it]) (t':=s.toks) I (fun b o nb q=>eb b o (fun z=>nb (by simp[z])) q) hf
 self:=fun A i s Q E st h=>by
  obtain⟨ok,ov,he⟩:=st
  have hT:s.TypeIs (.ref it) "dict_itemiterator" := ⟨_,he,rfl⟩
  refine wpAny_pyIter_slot hT PySem.F.slot_dict_itemiterator_iter (ny PySem.F.slot_dict_itemiterator_iter hT Ow ?_ (PySem.F.args_dict_itemiterator_iter_1 _))
  show wpAny _ _ (ret (.ref it)) _ _ s
  exact aO ⟨_,rfl, "dict_itemiterator",_,hT,PySem.F.slot_dict_itemiterator_next.lookup,h⟩
end
noncomputable def zm(td:TE):TI:=fun σ H R=>td σ H fun x H1=>∃a o kvs,x=.ref a∧H1 a=some (.aL o (.dK kvs))∧R (BM a o kvs) H1
theorem Ox{X:Cx}{e:Expr}{td:TE}{apos bX pos':Pos}{elts:List Expr}{x1}(he:PE X e td)
  (mM:attributeBase e "items" X.env (eval e X.env)=eval e X.env:=by rfl) (hline:(apos.endLine==bX.line)=true:=by rfl):PI X (.Tuple elts x1 pos') (.Call (.Attribute e "items" apos) [] [] bX) (zm td):=by
 intro pins s σ H R I h
 refine wpAny_Call_method0_late mM hline (aD (he pins s σ H _ I h) fun v s1 ⟨x,H1,I1,r1,a,o,kvs,ex,hf,q⟩=>?_)
 subst ex
 obtain rfl:v=Value.ref a:=r1
 obtain⟨ho,hz,lo,vs,rv,xM⟩:=(I1.aA a _ hf:bU X.prog X.w H1 s1.heap a (.aL o (.dK kvs)))
 obtain⟨o',es,ep,dE,ex,hd,r⟩:=id xM
 rw[ho]at dE;cases dE
 refine⟨"dict", "dict.items",AX,PySem.F.slot_dict_items,PySem.F.type_dict_items,⟨o,ho,ex.1⟩,fun a' e2=>by cases e2;exact⟨o,ho,ex.2.1⟩,sj rfl (PySem.evalArgs_none ?_)⟩
 refine pL PySem.F.slot_dict_items ⟨o,ho,ex.1⟩ PySem.F.entry_dict_items (PySem.F.args_dict_items_1 _) (meets_dict_items (cv X.prog X.w) a lo) ⟨⟨vs,xM⟩,?_⟩
 have da:s1.heap.DictAt (cv X.prog X.w) a vs ep:=⟨o,es,ho,ex,hd,r⟩
 refine wpAny_pyIter_items (knd:=cv X.prog X.w) (d:=a) (kvs:=vs) (ep:=ep) ⟨_,eU _ rfl,rfl,rfl⟩ (da.push _) ?_
 have I2:L2.Inv X pins σ H1 { s1 with heap:=s1.heap.push { cls:=.type "dict_items",data:=.fields #[.ref a] } }:=I1.kept (t':=s1.toks) fun b u q=>cA _ q
 have I3:=I2.kept (t':=s1.toks) (h':=(s1.heap.push { cls:=.type "dict_items",data:=.fields #[.ref a] }).push { cls:=.type "dict_itemiterator",data:=.fields #[.none,.bool false,.ref a,.int 0 0,.int vs.length 0,.int ep 0,.none,.none] }) fun b u q=>cA _ q
 refine⟨_,[_],_,_,H1,rfl,I3,L5 hd,⟨.none,.none,by rw[rv.length];exact eU _ rfl⟩,fun b hb=>?_,q⟩
 have gC:b=(s1.heap.push { cls:=.type "dict_items",data:=.fields #[.ref a] }).objs.size:=by simpa using hb
 subst gC
 exact I2.mX (aR _) (I2.aA.fresh (aR _))
noncomputable def ck:Key→D
 |.inl i=>.int i
 |.inr x=>.str x
 |.non=>.non
noncomputable def jj(ks:List (Key×D)):List D:=ks.map fun kv=>.tup [ck kv.1,kv.2]
noncomputable def V0:HO→Bool
 |.aL _ _=>false
 |_=>true
def lg(H H':Hp):Prop:=(∀b u,V0 u=true→Rd H b u→Rd H' b u)∧∀b xs,H b=some (.tup xs)→H' b=some (.tup xs)
section
variable {K:PySem.W.Frag}{N:Addr→Prop}{H H' H₀ H₁:Hp}{I:Nat→Option Addr}{O:Addr→Prop}{σ:L2.St}{env:Ev}
mutual
theorem Rp.bZ(w:lg H H'):∀{v:V}{d:D},Rp K N H v d→Rp K N H' v d
 |_,_,.non=>.non
 |_,_,.bl b=>.bl b
 |_,_,.int i=>.int i
 |_,_,.str x=>.str x
 |_,_,.ty n=>.ty n
 |_,_,.tup h r=>.tup (h.elim (fun z=>.inl (w.2 _ _ z)) .inr) (aq.bZ w r)
 |_,_,.lst h n r=>.lst (w.1 _ _ rfl h) n (aq.bZ w r)
 |_,_,.lstK h r=>.lstK h (aq.bZ w r)
 |_,_,.dk h n e r=>.dk (w.1 _ _ rfl h) n e (aq.bZ w r)
 |_,_,.dt h n e r=>.dt (w.1 _ _ rfl h) n e (aq.bZ w r)
theorem aq.bZ(w:lg H H'):∀{vs:List V}{ds:List D},aq K N H vs ds→aq K N H' vs ds
 |_,_,.nil=>.nil
 |_,_,.cons h r=>.cons (Rp.bZ w h) (aq.bZ w r)
end
theorem Cell.bZ{p:Addr}{d:D}(w:lg H H')(e:H' p=H p)(h:Cell K N H p d):Cell K N H' p d:=by
 cases d<;>simp only[Cell]at h ⊢
 ·obtain⟨xs,q,r⟩:=h;exact⟨xs,e.trans q,r.bZ w⟩
 ·obtain⟨xs,q,z,r⟩:=h;exact⟨xs,e.trans q,z,r.bZ w⟩
 ·obtain⟨xs,q,z,r⟩:=h;exact⟨xs,e.trans q,z,r.bZ w⟩
theorem Val.bZ{m:M}{d:D}{v:V}(w:lg H H')(un:(m=.un∨m=.ut)→∀p d N,Cell K N H p d→H' p=H p)(on:∀p,O p→H' p=H p)(z:∀b,H₀ b=none→H₁ b=none)(h:Val K H₀ O HE H m d v):Val K H₁ O HE H' m d v:=by
 cases m<;>simp only[Val]at h ⊢
 ·exact h.bZ w
 ·exact(h.bZ w).wk fun a n _=>⟨n.1,z a n.2⟩
 ·obtain⟨p,e,h1,h2,h3,c⟩:=h
  exact⟨p,e,h1,z _ h2,h3,(c.bZ w (un (.inl rfl) _ _ _ c)).wk fun a n _=>⟨⟨n.1.1,z a n.1.2⟩,n.2⟩⟩
 ·obtain⟨p,e,h1,h2,c⟩:=h
  exact⟨p,e,h1,z _ h2,(c.bZ w (on _ h1)).wk fun a n _=>⟨n.1,z a n.2⟩⟩
 ·obtain⟨p,e,h1,c⟩:=h
  exact⟨p,e,h1,(c.bZ w (on _ h1)).wk fun a n _=>⟨n.1,z a n.2⟩⟩
 ·exact(h.bZ w).wk fun a n _=>z a n
 ·obtain⟨p,qs,aK,e1,e2,h1,h2,h3,h4,h5,h6⟩:=h
  exact⟨p,qs,aK,e1,e2,h1,z _ h2,(on _ h1).trans h3,h4,fun q hq=>⟨(h5 q hq).1,z _ (h5 q hq).2.1,(h5 q hq).2.2⟩,jh (fun q ds hq ⟨xs,a,r⟩=>⟨xs,(on _ (h5 q hq).1).trans a,(r.bZ w).wk fun a n _=>⟨n.1,z a n.2⟩⟩) h6⟩
 ·obtain⟨a,xs,ds,e1,e2,h1,h2⟩:=h
  refine⟨a,xs,ds,e1,e2,h1.imp (w.2 a xs) id,Paired.kj h2 fun d v y=>?_⟩
  rcases y with⟨y1,y2⟩|⟨q,y1,y2,c⟩
  ·exact .inl ⟨y1,y2.bZ w⟩
  ·exact .inr ⟨q,y1,⟨y2.1,z _ y2.2.1,y2.2.2⟩,c.bZ w (un (.inr rfl) _ _ _ c)⟩
theorem Rel.bZ(R:Rel K H₀ I O H σ env)(w:lg H H')(on:∀p,O p→H' p=H p)(z:∀b,H₀ b=none↔H₁ b=none)(nn:∀b o,H b=some o→∃o',H' b=some o')(fr:∀b o,(∀i,I i≠some b)→H₁ b=some o→H' b=some o):Rel K H₁ I O H' σ env:=by
 refine⟨⟨j9 (fun e x h m d q=>?_) R.e.sl,fun a h=>?_,fun a o h=>?_,fun a o h e=>?_⟩,fr,fun a h=>?_,R.ba,R.dj,R.nd.keep fun i d p h1 h2=>?_⟩
 ·obtain⟨n,v,ev,hv⟩:=h m d q
  exact⟨n,v,ev,hv.bZ w (fun q=>by rcases q with rfl|rfl<;>cases n) on fun b=>(z b).mp⟩
 ·obtain⟨o,q⟩:=R.e.od a h
  exact nn a o q
 ·cases q:H₀ a with
  |none=>rw[(z a).mp q]at h;cases h
  |some o0 =>
   obtain⟨o1,q1⟩:=R.e.hd a o0 q
   exact nn a o1 q1
 ·rw[on a h]at e;exact R.e.on a o h e
 ·exact(R.ow a h).imp id (z a).mp
 ·obtain⟨qs,aK,_,hO,_⟩:=R.e.nest h1 h2
  exact on p hO
theorem Ef{wi:TI}{g:TG}{tb:TS}{fg:M×D→Ev→Option Ev}{b:Ev→Option Fl}{Ds:Ends}{fl:Fl}{m:M}{ds:List D}(hg:JG K g fg)(hb:JS K tb b)(R:Rel K H₀ I O H σ env)(hm:dB m=true)
  (hi:∀R',(∀J H',aB H H'→iI K H₀ O J H' m ds→R' J H')→wi σ H R') (e:forL fg b m ds env=some fl) (q:lP K H₀ I O H Ds fl):ko wi g tb Ds σ H:=by
 refine hi _ fun J H1 s1 ok=>?_
 have q1:=q.pre (aG.same s1)
 refine⟨fun i n σ2 H2=>∃O2 cO,Rel K H₀ I O2 H2 σ2 cO∧aG O H1 O2 H2∧i≤ds.length∧n=ds.length-i∧forL fg b m (ds.drop i) cO=some fl,⟨_,O,env,R.keep s1,aG.refl,nC _,rfl,e⟩,?_⟩
 rintro i n σ2 H2 ⟨O2,cO,R2,st,hle,rfl,ef⟩
 by_cases aT:i<ds.length
 ·refine .inr ⟨ok.go O2 H2 i st aT,fun σ' H'=>∃O2 cO,Rel K H₀ I O2 H' σ' cO∧aG O H1 O2 H'∧forL fg b m (ds.drop (i+1)) cO=some fl,?_,?_⟩
  ·rintro σ' H' ⟨O3,Ab,R3,f7,Bw⟩
   exact⟨ds.length-(i+1),by omega,O3,Ab,R3,f7,aT,rfl,Bw⟩
  ·intro x H3 y
   obtain⟨s3,d,hd,hv⟩:=ok.ib O2 H2 i x H3 st aT y
   have tL:ds.drop i=d::ds.drop (i+1):=by
    rw[lV aT]
    rw[bP aT]at hd
    cases hd;rfl
   rw[tL]at ef
   simp only[forL]at ef
   obtain⟨e1,g1,ef⟩:=ao ef
   obtain⟨r,br,ef⟩:=ao ef
   refine hg H₀ I O2 H3 σ2 cO (m,d) x e1 _ (R2.keep s3) hm hv g1 fun σ4 R4=>?_
   have k6:=st.trans (aG.same (O:=O2) s3)
   refine hb H₀ I O2 H3 σ4 e1 _ r R4 br ?_
   cases r with
   |nx e2=>exact fun O5 H5 σ5 R5 dR=>⟨O5,e2,R5,k6.trans dR,ef⟩
   |ct e2=>exact fun O5 H5 σ5 R5 dR=>⟨O5,e2,R5,k6.trans dR,ef⟩
   |bk e2=>cases ef;exact(q1.pre k6)
   |rt e2 m' d'=>cases ef;exact(q1.pre k6)
 ·have hi:i=ds.length:=by omega
  subst hi
  rw[A1]at ef
  cases ef
  exact .inl ⟨ok.stop O2 H2 st,q1 O2 H2 σ2 R2 st⟩
theorem Ent.at{kvs:List (Key×V)}{ks:List (Key×D)}{i:Nat}{kv:Key×V}(h:Ent K N H kvs ks)(e:kvs[i]?=some kv):∃d,ks[i]?=some (kv.1,d)∧Rp K N H kv.2 d:=by
 induction kvs generalizing ks i with
 |nil=>simp at e
 |cons p kvs ih =>
  cases ks with
  |nil=>exact absurd h.len (by simp)
  |cons q ks =>
   obtain⟨e1,r,t⟩:=h.cons_inv
   cases i with
   |zero=>simp only[List.getElem?_cons_zero,Option.some.injEq]at e;subst e;exact⟨q.2,by rw[Jf,e1],r⟩
   |succ i=>obtain⟨d,h1,h2⟩:=ih t (by simpa using e);exact⟨d,by simpa using h1,h2⟩
theorem L6{m:M}{a:Addr}{o:Obj}{kvs:List (Key×V)}{ks:List (Key×D)}(hm:dB m=true)(e:H a=some (.aL o (.dK kvs)))(ha:¬O a)(en:Ent K (NM H₀ O m) H kvs ks)(on:∀a o,O a→H a=some o→¬fP o):iI K H₀ O (BM a o kvs) H m (jj ks) where
 go:=fun O2 H2 i st hi=>⟨(st a _ e ha).1,by rw[jj,a7,←en.len]at hi;exact hi⟩
 ib:=by
  rintro O2 H2 i x H3 st hi ⟨t,kv,rfl,ht,rfl,Xd⟩
  have s3:aB H2 (upd H2 t (.tup [kV kv.1,kv.2])):=cu ht
  obtain⟨d,hd,hr⟩:=en.at Xd
  refine⟨s3,.tup [ck kv.1,d],by rw[jj,cG,hd];rfl,?_⟩
  have kp:Val K H₀ O2 HE H2 m d kv.2:=uN hm on st hr
  have key:∀{N:Addr→Prop}{H:Hp},Rp K N H (kV kv.1) (ck kv.1):=fun {N H}=>by
   cases kv.1 with
   |inl i=>exact .int i
   |inr x=>exact .str x
   |non=>exact .non
  have mk:∀{N:Addr→Prop},Rp K N H2 kv.2 d→Rp K N (upd H2 t (.tup [kV kv.1,kv.2])) (.ref t) (.tup [ck kv.1,d]):=fun r=>.tup (.inl bf) (.cons key (.cons (r.keep (.same s3)) .nil))
  cases m<;>first|exact mk kp|cases hm
 stop:=fun O2 H2 st=>⟨(st a _ e ha).1,by rw[jj,a7,en.len];exact aR _⟩
noncomputable def vH(i:Nat)(g:M×D→Ev→Option Ev)(b:Ev→Option Fl):Ev→Option Fl:=fun e=>match e[i]? with
 |some (some (m,.dk ks))=>if dB m=true then forL g b m (jj ks) e else none
 |_=>none
theorem QB{i:Nat}{g:TG}{tb:TS}{fg:M×D→Ev→Option Ev}{b:Ev→Option Fl}(hg:JG K g fg)(hb:JS K tb b):JS K (Ir i (ko (zm (gq i)) g tb)) (vH i fg b):=by
 intro H₀ I O H σ env Ds fl R e q
 unfold vH at e
 split at e
 ·rename_i m ks he
  split at e
  ·rename_i hm
   obtain⟨v,hv,_,hz⟩:=R.e.at he
   have qd:∃a kvs,v=.ref a∧Rd H a (.dK kvs)∧¬O a∧Ent K (NM H₀ O m) H kvs ks:=by
    cases m<;>try (cases hm;done)
    ·cases hz with|dk r n e q=>exact⟨_,_,rfl,r,n,e,q⟩
    ·cases hz with|dk r n e q=>exact⟨_,_,rfl,r,n.1,e,q⟩
   obtain⟨a,kvs,rfl,rd,na,en⟩:=qd
   have run:∀{G H1:Hp}{o:Obj}{Es:Ends},Rel K G I O H1 σ env→H1 a=some (.aL o (.dK kvs))→Ent K (NM G O m) H1 kvs ks→lP K G I O H1 Es fl→ko (zm (gq i)) g tb Es σ H1:=fun R1 e1 tT q1 =>
    Ef hg hb R1 hm (fun R' k=>⟨_,hv,a,_,kvs,rfl,e1,k _ _ (aB.refl _) (L6 hm e1 na tT R1.e.on)⟩) e q1
   refine⟨a,kvs,hv,?_⟩
   rcases rd with e1|⟨o,e1⟩
   ·refine .inl ⟨e1,fun o=>?_⟩
    have w:lg H (upd H a (.aL o (.dK kvs))):=⟨fun b u _ h=>by
     by_cases z:b=a
     ·subst z
      rcases h with h|⟨o',h⟩
      ·rw[e1]at h;cases h;exact .inr ⟨o,bf⟩
      ·rw[e1]at h;cases h
     ·unfold Rd at h ⊢;rw[az z];exact h,fun b xs h=>by rw[az (lF h e1 (fun z=>nomatch z))];exact h⟩
    have nO:∀p,O p→p≠a:=fun p h z=>na (z▸h)
    have zz:∀b,H₀ b=none↔(fun b=>if b=a then (H₀ a).map (fun _=>HO.aL o (.dK kvs))else H₀ b) b=none:=fun b=>by
     by_cases z:b=a
     ·subst z;simp
     ·simp[z]
    have R1:Rel K (fun b=>if b=a then (H₀ a).map (fun _=>HO.aL o (.dK kvs))else H₀ b) I O (upd H a (.aL o (.dK kvs))) σ env:=by
     refine R.bZ w (fun p h=>az (nO p h)) zz (fun b u h=>?_) fun b u n h=>?_
     ·by_cases z:b=a
      ·subst z;exact⟨_,bf⟩
      ·exact⟨u,by rw[az z];exact h⟩
     ·by_cases z:b=a
      ·subst z
       simp only[if_true]at h
       cases q0:H₀ b with
       |none=>rw[q0]at h;cases h
       |some u0=>rw[q0]at h;cases h;exact bf
      ·simp only[z,if_false]at h
       rw[az z];exact R.fr b u n h
    have back:∀{O':Addr→Prop}{H':Hp},aG O (upd H a (.aL o (.dK kvs))) O' H'→H' a=some (.aL o (.dK kvs))∧aG O H O' (upd H' a (.dK kvs)) ∧
      (∀{σ':L2.St}{env':Ev},Rel K (fun b=>if b=a then (H₀ a).map (fun _=>HO.aL o (.dK kvs))else H₀ b) I O' H' σ' env'→Rel K H₀ I O' (upd H' a (.dK kvs)) σ' env') ∧
      ∀{m:M}{d:D}{v:V},Val K (fun b=>if b=a then (H₀ a).map (fun _=>HO.aL o (.dK kvs))else H₀ b) O' HE H' m d v→Val K H₀ O' HE (upd H' a (.dK kvs)) m d v:=fun {O' H'} st=>by
     obtain⟨ha,tU⟩:=st a _ bf na
     have w':lg H' (upd H' a (.dK kvs)):=⟨fun b u nf h=>by
      by_cases z:b=a
      ·subst z
       rcases h with h|⟨o',h⟩
       ·rw[ha]at h;cases h;cases nf
       ·rw[ha]at h;cases h;exact .inl bf
      ·unfold Rd at h ⊢;rw[az z];exact h,fun b xs h=>by rw[az (lF h ha (fun z=>nomatch z))];exact h⟩
     have tV:∀p,O' p→upd H' a (.dK kvs) p=H' p:=fun p h=>az fun z=>tU (z▸h)
     refine⟨ha,fun b u h n=>?_,fun R'=>?_,fun cH=>cH.bZ w' (fun _ p d N c=>?_) tV fun b=>(zz b).mpr⟩
     ·by_cases z:b=a
      ·subst z;rw[e1]at h;cases h;exact⟨bf,tU⟩
      ·obtain⟨h1,h2⟩:=st b u (by rw[az z];exact h) n
       exact⟨by rw[az z];exact h1,h2⟩
     ·refine R'.bZ w' tV (fun b=>(zz b).symm) (fun b u h=>?_) fun b u n h=>?_
      ·by_cases z:b=a
       ·subst z;exact⟨_,bf⟩
       ·exact⟨u,by rw[az z];exact h⟩
      ·by_cases z:b=a
       ·subst z
        have h2:=R.fr b u n h
        rw[e1]at h2;cases h2;exact bf
       ·rw[az z]
        exact R'.fr b u n (by simp only[z,if_false];exact h)
     ·refine az fun z=>?_
      subst z
      cases d<;>simp only[Cell]at c
      ·obtain⟨xs,q,_⟩:=c;rw[ha]at q;cases q
      ·obtain⟨xs,q,_⟩:=c;rw[ha]at q;cases q
      ·obtain⟨xs,q,_⟩:=c;rw[ha]at q;cases q
    refine run R1 bf ⟨en.1,(en.2.bZ w).wk fun b n _=>?_⟩ ?_
    ·cases m<;>try (cases hm;done)
     ·exact n
     ·exact⟨n.1,(zz b).mp n.2⟩
    ·cases fl with
     |nx e'=>exact fun O' H' σ' R' st=>⟨(back st).1,q _ _ _ ((back st).2.2.1 R') (back st).2.1⟩
     |bk e'=>exact fun O' H' σ' R' st=>⟨(back st).1,q _ _ _ ((back st).2.2.1 R') (back st).2.1⟩
     |ct e'=>exact fun O' H' σ' R' st=>⟨(back st).1,q _ _ _ ((back st).2.2.1 R') (back st).2.1⟩
     |rt e' m' d'=>exact fun O' H' σ' v R' st cH=>⟨(back st).1,q _ _ _ v ((back st).2.2.1 R') (back st).2.1 ((back st).2.2.2 cH)⟩
   ·exact .inr ⟨⟨o,e1⟩,run R e1 en q⟩
  ·cases e
 ·cases e
end
end J
namespace J
open PySem
def xN(P:Program)(w:World)(A:Around)(s:Shared)(y x:Value)(b:Bool):Prop :=
 ∀(E:Value→Shared→Prop) (Q:Bool→Shared→Prop),Q b s→wpAny (model P w) A (eqBool y x) Q E s
theorem V1(P:Program)(w:World)(l b:Addr)(xs ys:Array Value)(n n':Nat)(dd fO:Option Addr)(sl jI:Array (Option Value))(f:Nat→Bool) :
  MeetsIn P w (Builtin.«tuple.__eq__» ⟨[.ref l,.ref b],[]⟩) (fun A R s=>s.heap.get? l=some { cls:=.type "tuple",dict:=dd,data:=.seq xs n,slots:=sl } ∧
    s.heap.get? b=some { cls:=.type "tuple",dict:=fO,data:=.seq ys n',slots:=jI }∧(∀j (h1:j<xs.size) (h2:j<ys.size),xN P w A.in1 s xs[j] ys[j] (f j))∧R (.ok (.ret (.bool ((List.range (min xs.size ys.size)).all f&&xs.size==ys.size)))) s) :=
 .of_wp fun A R s q=>by
  obtain⟨hp,g,d,tk,os⟩:=s;obtain⟨hl,hb,he,h⟩:=q
  have f2:=AutoSeq1.sub_tuple_tuple
  have zl:(xs.toList.zip ys.toList).length=min xs.size ys.size:=by simp
  wp_walk using AutoSeq1.wpAny_loadPart' hl,AutoSeq1.wpAny_loadPart' hb,wpAny_forIn_list _ (fun r b s'=>b.1=none∧s'=⟨hp,g,d,tk,os⟩∧∃i,r=(xs.toList.zip ys.toList).drop i∧R (.ok (.ret (.bool (((List.range (min xs.size ys.size)).drop i).all f&&xs.size==ys.size)))) ⟨hp,g,d,tk,os⟩) _
  case turn =>
   rintro⟨y,x⟩ r b s' ⟨gC,rfl,i,hz,hR⟩
   have il:i<(xs.toList.zip ys.toList).length:=by
    rcases hX i (xs.toList.zip ys.toList).length with k|k
    ·exact k
    ·rw[List.drop_of_length_le k]at hz;cases hz
   have im:i<min xs.size ys.size:=zl▸il
   have i1:i<xs.size:=dI im (Nat.min_le_left _ _)
   have i2:i<ys.size:=dI im (Nat.min_le_right _ _)
   rw[lV il]at hz
   obtain⟨zz,hr⟩:=pP hz
   have ey:y=xs[i]:=by simpa using cf Prod.fst zz
   have ex:x=ys[i]:=by simpa using cf Prod.snd zz
   subst ey ex
   have dr:(List.range (min xs.size ys.size)).drop i=i::(List.range (min xs.size ys.size)).drop (i+1):=by simp[List.drop_eq_getElem_cons,im]
   rw[dr,jF]at hR
   refine aw (he i i1 i2 _ _ ?_)
   cases hf:f i with
   |true=>rw[hf]at hR;wp_walk;exact⟨rfl,rfl,i+1,hr,by simpa using hR⟩
   |false=>rw[hf]at hR;wp_walk;exact⟨_,rfl,by simpa using hR⟩
  case fin =>
   rintro⟨b1,b2⟩ s' ⟨gC,rfl,i,hz,hR⟩
   obtain rfl:b1=none:=gC
   have ge:min xs.size ys.size≤i:=by
    rcases hX i (xs.toList.zip ys.toList).length with k|k
    ·rw[lV k]at hz;cases hz
    ·exact zl▸k
   rw[List.drop_of_length_le (by simpa using ge)]at hR
   wp_walk
   exact⟨_,rfl,by simpa[Builtin.Tuple.tupleCompareSizes]using hR⟩
  case h=>exact⟨rfl,rfl,0,rfl,by simpa using h⟩
theorem V2(P:Program)(w:World)(l b:Addr)(xs ys:Array Value)(n n':Nat)(dd fO:Option Addr)(sl jI:Array (Option Value))(f:Nat→Bool) :
  MeetsIn P w (Builtin.«tuple.__ne__» ⟨[.ref l,.ref b],[]⟩) (fun A R s=>s.heap.get? l=some { cls:=.type "tuple",dict:=dd,data:=.seq xs n,slots:=sl } ∧
    s.heap.get? b=some { cls:=.type "tuple",dict:=fO,data:=.seq ys n',slots:=jI }∧(∀j (h1:j<xs.size) (h2:j<ys.size),xN P w A.in1 s xs[j] ys[j] (f j))∧R (.ok (.ret (.bool (!((List.range (min xs.size ys.size)).all f&&xs.size==ys.size))))) s) :=
 .of_wp fun A R s q=>by
  obtain⟨hp,g,d,tk,os⟩:=s;obtain⟨hl,hb,he,h⟩:=q
  have f2:=AutoSeq1.sub_tuple_tuple
  have zl:(xs.toList.zip ys.toList).length=min xs.size ys.size:=by simp
  wp_walk using AutoSeq1.wpAny_loadPart' hl,AutoSeq1.wpAny_loadPart' hb,wpAny_forIn_list _ (fun r b s'=>b.1=none∧s'=⟨hp,g,d,tk,os⟩∧∃i,r=(xs.toList.zip ys.toList).drop i∧R (.ok (.ret (.bool (!(((List.range (min xs.size ys.size)).drop i).all f&&xs.size==ys.size))))) ⟨hp,g,d,tk,os⟩) _
  case turn =>
   rintro⟨y,x⟩ r b s' ⟨gC,rfl,i,hz,hR⟩
   have il:i<(xs.toList.zip ys.toList).length:=by
    rcases hX i (xs.toList.zip ys.toList).length with k|k
    ·exact k
    ·rw[List.drop_of_length_le k]at hz;cases hz
   have im:i<min xs.size ys.size:=zl▸il
   have i1:i<xs.size:=dI im (Nat.min_le_left _ _)
   have i2:i<ys.size:=dI im (Nat.min_le_right _ _)
   rw[lV il]at hz
   obtain⟨zz,hr⟩:=pP hz
   have ey:y=xs[i]:=by simpa using cf Prod.fst zz
   have ex:x=ys[i]:=by simpa using cf Prod.snd zz
   subst ey ex
   have dr:(List.range (min xs.size ys.size)).drop i=i::(List.range (min xs.size ys.size)).drop (i+1):=by simp[List.drop_eq_getElem_cons,im]
   rw[dr,jF]at hR
   refine aw (he i i1 i2 _ _ ?_)
   cases hf:f i with
   |true=>rw[hf]at hR;wp_walk;exact⟨rfl,rfl,i+1,hr,by simpa using hR⟩
   |false=>rw[hf]at hR;wp_walk;exact⟨_,rfl,by simpa using hR⟩
  case fin =>
   rintro⟨b1,b2⟩ s' ⟨gC,rfl,i,hz,hR⟩
   obtain rfl:b1=none:=gC
   have ge:min xs.size ys.size≤i:=by
    rcases hX i (xs.toList.zip ys.toList).length with k|k
    ·rw[lV k]at hz;cases hz
    ·exact zl▸k
   rw[List.drop_of_length_le (by simpa using ge)]at hR
   wp_walk
   exact⟨_,rfl,by simpa[Builtin.Tuple.tupleCompareSizes,bne]using hR⟩
  case h=>exact⟨rfl,rfl,0,rfl,by simpa using h⟩
end J
namespace J
open PySem PySem.Spec PyProof.Rows L2
noncomputable def hitsD(ls:List (Key×D)):List (Key×D)→Bool
  |[]=>true
  | (k,d)::r=>match bY ls k with
    |none=>false
    |some e=>PyData.eqv (toPy d) (toPy e)&&hitsD ls r
noncomputable def gw(ds:List D):Bool:=cF ds&&ds.all fun d=>decide ((toPy d).depth≤40)
noncomputable def lh:D→D→Option Bool
 |.dk ks,.dk ls=>if (gw (ks.map (·.2))&&gw (ls.map (·.2)))=true then some (ks.length==ls.length&&hitsD ls ks)else none
 |a,b=>if (plain a&&plain b&&decide ((toPy a).depth≤40))=true then some (PyData.eqv (toPy a) (toPy b))else none
noncomputable def wo:List D→List D→Option Bool
 |[],[]=>some true
 |[],_::_=>some false
 |_::_,[]=>some false
 |a::r,b::t=>(lh a b).bind fun x=>(wo r t).bind fun y=>some (x&&y)
noncomputable def jS:D→D→Option Bool
 |.tup ds,.tup es=>wo ds es
 |.dk ks,.dk ls=>lh (.dk ks) (.dk ls)
 |_,_=>none
noncomputable def gH(ds es:List D)(j:Nat):Bool:=match ds[j]?,es[j]? with
 |some a,some c=>(lh a c).getD false
 |_,_=>false
theorem Eg:∀{ds es:List D}{b:Bool},wo ds es=some b→(∀(j:Nat) a c,ds[j]?=some a→es[j]?=some c→lh a c=some (gH ds es j))∧b=((List.range (min ds.length es.length)).all (gH ds es)&&ds.length==es.length)
  |[],[],b,h=>by cases h;exact⟨fun j a c e=>by simp at e,rfl⟩
  |[],_::_,b,h=>by
    cases h
    refine⟨fun j a c e=>by simp at e,?_⟩
    simp
  |_::_,[],b,h=>by
    cases h
    refine⟨fun j a c _ e=>by simp at e,?_⟩
    simp
  |a::r,c::t,b,h=>by
    obtain⟨x,ex,h⟩:=ao h
    obtain⟨y,ey,h⟩:=ao h
    cases h
    obtain⟨h1,h2⟩:=Eg ey
    have p0:gH (a::r) (c::t) 0=x:=by simp[gH,ex]
    have pS:∀j,gH (a::r) (c::t) (j+1)=gH r t j:=fun j=>by simp[gH]
    refine⟨fun j a' c' e1 e2=>?_,?_⟩
    · cases j with
      |zero =>
        simp only[List.getElem?_cons_zero,Option.some.injEq]at e1 e2
        subst e1 e2
        rw[p0];exact ex
      |succ j =>
        rw[pS]
        exact h1 j a' c' (by simpa using e1) (by simpa using e2)
    · have em:min (a::r).length (c::t).length=min r.length t.length+1:=by simp only[List.length_cons];omega
      have el:((a::r).length==(c::t).length)=(r.length==t.length):=by simp
      have ef:(gH (a::r) (c::t))∘Nat.succ=gH r t:=funext pS
      rw[em,List.range_succ_eq_map,jF,List.all_map,p0,ef,el,h2,Bool.and_assoc]
theorem yz:∀(ds:List D),cw ds=ds.map toPy
 |[]=>by simp[cw]
 |d::ds=>by simp[cw,yz ds]
theorem yr:∀{ks:List (Key×D)}{i:Nat}{k:Key}{d:D},(ks.map (·.1)).Nodup→ks[i]?=some (k,d)→bY ks k=some d
 |[],_,_,_,_,e=>by simp at e
 |p::ks,0,k,d,_,e=>by
  simp only[List.getElem?_cons_zero,Option.some.injEq]at e
  subst e
  simp[bY]
 |p::ks,i+1,k,d,hn,e=>by
  have e':ks[i]?=some (k,d):=by simpa using e
  rw[bE,iR]at hn
  have ne:p.1≠k:=fun z=>hn.1 (de.mpr ⟨(k,d),fB e',z.symm⟩)
  have:=yr hn.2 e'
  simpa[bY,List.find?_cons,ne]using this
theorem yt{ls:List (Key×D)}:∀{ks:List (Key×D)},(∀kd∈ks,∃e,bY ls kd.1=some e∧PyData.eqv (toPy kd.2) (toPy e)=true)→hitsD ls ks=true
  |[],_=>rfl
  | (k,d)::r,h=>by
    obtain⟨e,h1,h2⟩:=h (k,d) cM
    simp only[hitsD]
    simp only at h1 h2
    rw[h1]
    simp only[h2,Bool.true_and]
    exact yt fun kd m=>h kd (cT _ m)
theorem qC{ds:List D}(h:gw ds=true):cF ds=true∧∀d∈ds,plain d=true∧(toPy d).depth≤40:=by
 simp only[gw,Bool.and_eq_true,List.all_eq_true,decide_eq_true_eq]at h
 have go:∀{ds:List D},cF ds=true→∀d∈ds,plain d=true:=by
  intro ds
  induction ds with
  |nil=>intro _ d m;cases m
  |cons a r ih =>
   intro h d m
   have h':plain a=true∧cF r=true:=by simpa[cF]using h
   rcases fK.mp m with rfl|m
   ·exact h'.1
   ·exact ih h'.2 d m
 exact⟨h.1,fun d m=>⟨go h.1 d m,h.2 d m⟩⟩
section
variable {X:Cx}{pins:List (Addr×Obj)}{σ:L2.St}{H:Hp}{s:Shared}{N N':Addr→Prop}{A:Around}{a b:Addr}{kvs my:List (Key×V)}{ks ls:List (Key×D)}
theorem Fe(I:L2.Inv X pins σ H s)(hu:A.units+41<cLine){mr:List (Key×Value)}(J7:KV my mr)(J8:Ent X.K N' H my ls)(jI:gw (ls.map (·.2))=true):∀{kvs:List (Key×V)}{ks:List (Key×D)}{vs:List (Key×Value)},KV kvs vs→Ent X.K N H kvs ks→gw (ks.map (·.2))=true→PySem.W.KeqHits A s mr vs (hitsD ls ks)
  |[],ks,_,.nil,en,_=>by
    cases ks with
    |nil=>exact .nil
    |cons _ _=>exact absurd en.len (by simp)
  |p::kvs,ks,q::vs,.cons h t,en,sl=>by
    cases ks with
    |nil=>exact absurd en.len (by simp)
    |cons z ks =>
      obtain⟨e,r,tT⟩:=en.cons_inv
      obtain⟨pl,pd⟩:=qC sl
      have nP:gw (ks.map (·.2))=true:=by
        simp only[gw,List.map_cons,cF,Bool.and_eq_true,List.all_cons]at sl ⊢
        exact⟨sl.1.2,sl.2.2⟩
      have ih:=Fe I hu J7 J8 jI t tT nP
      obtain⟨k,d⟩:=z
      obtain⟨k2,u⟩:=q
      obtain⟨k3,x⟩:=p
      obtain⟨h1,h2⟩:=h
      simp only at e h1 h2 r
      subst e h1
      have rel:=J7.val k3
      simp only[hitsD]
      rcases J8.val k3 with⟨z1,z2⟩|⟨d',v',z1,z2,r'⟩
      · rw[z2]at rel
        rw[z1]
        refine .miss ?_
        cases w:valueAt mr k3 with
        |none=>rfl
        |some y=>rw[w]at rel;exact rel.elim
      · rw[z2]at rel
        rw[z1]
        cases w:valueAt mr k3 with
        |none=>rw[w]at rel;exact rel.elim
        |some y =>
          rw[w]at rel
          have m':d'∈ls.map (·.2):=by
            unfold bY at z1
            cases f:ls.find? fun kv=>decide (kv.1=k3) with
            |none=>rw[f]at z1;cases z1
            |some kd=>rw[f]at z1;cases z1;exact de.mpr ⟨kd,Jg f,rfl⟩
          have m:d∈((k3,d)::ks).map (·.2):=cM
          refine .hit w (Dn.kx I (jn (pd d m).1 r) (jn ((qC jI).2 d' m').1 r') h2 rel ?_) ih
          have:=(pd d m).2
          omega
theorem Ff(I:L2.Inv X pins σ H s)(hu:A.units+42<cLine)(ha:Rd H a (.dK kvs))(hb:Rd H b (.dK my))(ea:Ent X.K N H kvs ks)(eb:Ent X.K N' H my ls)(sa:gw (ks.map (·.2))=true)(sb:gw (ls.map (·.2))=true){E:Value→Shared→Prop}{Q:Value→Shared→Prop} :
  (Q (.bool (ks.length==ls.length&&hitsD ls ks)) s→wpAny (model X.prog X.w) A (compareOp .Eq (.ref a) (.ref b)) Q E s)∧(Q (.bool (!(ks.length==ls.length&&hitsD ls ks))) s→wpAny (model X.prog X.w) A (compareOp .NotEq (.ref a) (.ref b)) Q E s):=by
 obtain⟨z,hd,vs,rel,dd⟩:=iy I.aA ha
 obtain⟨z',jJ,mr,Iu,fO⟩:=iy I.aA hb
 have hits:=Fe (A:=A.in1) I (show A.units+1+41<cLine by omega) Iu eb sb rel ea sa
 rw[←ea.len,←eb.len,rel.length,Iu.length]
 exact⟨fun q=>PySem.W.keq_eq hd jJ dd fO (by omega) (fun _=>hits) q,fun q=>PySem.W.keq_ne hd jJ dd fO (by omega) (fun _=>hits) q⟩
theorem QC(I:L2.Inv X pins σ H s)(ha:Rd H a (.dK kvs))(hb:Rd H a (.dK my))(ea:Ent X.K N H kvs ks)(eb:Ent X.K N' H my ls)(sa:gw (ks.map (·.2))=true)(sb:gw (ls.map (·.2))=true):(ks.length==ls.length&&hitsD ls ks)=true:=by
 have e:kvs=my:=by
  rcases ha with ha|⟨o,ha⟩<;>rcases hb with hb|⟨o',hb⟩<;>rw[ha]at hb<;>cases hb<;>rfl
 subst e
 obtain⟨z,hd,vs,rel,_,_,_,_,_,_,_,_,nd⟩:=iy I.aA ha
 rw[←rel.keys]at nd
 have ek:ks.map (·.1)=ls.map (·.1):=ea.1.symm.trans eb.1
 have ev:(ks.map (·.2)).map toPy=(ls.map (·.2)).map toPy:=by
  rw[←yz,←yz]
  exact bF.unique I (ot (qC sa).1 ea.2) (ot (qC sb).1 eb.2)
 have el:ks.length=ls.length:=by rw[←ea.len,←eb.len]
 rw[el,beq_self_eq_true,Bool.true_and]
 refine yt fun kd m=>?_
 obtain⟨i,hi⟩:=List.getElem?_of_mem m
 obtain⟨hl,_⟩:=bt.mp hi
 have kR:i<ls.length:=el▸hl
 have hk:kd.1=(ls[i]).1:=by
  have w:=cf (·[i]?) ek
  simpa[List.getElem?_map,hi,List.getElem?_eq_getElem kR]using w
 have hv:toPy kd.2=toPy (ls[i]).2:=by
  have w:=cf (·[i]?) ev
  simpa[List.getElem?_map,hi,List.getElem?_eq_getElem kR]using w
 refine⟨(ls[i]).2,?_,?_⟩
 ·rw[hk]
  exact yr (i:=i) (by rw[←eb.1];exact nd) (by rw[bP kR])
 ·rw[←hv]
  obtain⟨v,xK,r⟩:=ea.2.get (i:=i) (d:=kd.2) (by rw[cG,hi];rfl)
  exact Dn.refl (jn ((qC sa).2 kd.2 (de.mpr ⟨kd,m,rfl⟩)).1 r)
theorem Tq(I:L2.Inv X pins σ H s)(hu:A.units+42<cLine){d e:D}{x:Bool}(h:lh d e=some x){v v':V}{u u':Value}(rd:Rp X.K N H v d)(re:Rp X.K N' H v' e)(rv:RelV v u)(qc:RelV v' u'):xN X.prog X.w A s u u' x:=by
 unfold lh at h
 split at h
 ·split at h
  ·rename_i ks ls ok
   cases h
   rw[gx]at ok
   cases rd with
   |@dk p kvs _ ha _ k1 q1=>cases re with
    |@dk p' my _ hb _ k2 q2 =>
     cases rv
     cases qc
     by_cases z:p=p'
     ·subst z
      rw[QC I ha hb ⟨k1,q1⟩ ⟨k2,q2⟩ ok.1 ok.2]
      exact fun E Q q=>pJ _ X.prog X.w E Q q
     ·intro E Q q
      unfold eqBool
      refine lS (wpAny_ite_split (fun w=>absurd (by have:=eq_of_beq w;injection this) z) fun _=>aw ?_)
      exact(Ff (A:=A) I hu ha hb ⟨k1,q1⟩ ⟨k2,q2⟩ ok.1 ok.2).1 (iP q)
  ·cases h
 ·split at h
  ·rename_i ok
   cases h
   rw[gx,gx,decide_eq_true_eq]at ok
   exact fun E Q q=>Dn.kx I (jn ok.1.1 rd) (jn ok.1.2 re) rv qc (A:=A) (by have:=ok.2;omega) X.prog X.w E Q q
  ·cases h
theorem QD(I:L2.Inv X pins σ H s)(hu:A.units+44<cLine){ds es:List D}{x:Bool}(h:wo ds es=some x){xs ys:List V}(qa:bh X.K H a xs)(qb:bh X.K H b ys)(ra:aq X.K N H xs ds)(rb:aq X.K N' H ys es){E:Value→Shared→Prop}{Q:Value→Shared→Prop} :
  (Q (.bool x) s→wpAny (model X.prog X.w) A (compareOp .Eq (.ref a) (.ref b)) Q E s)∧(Q (.bool (!x)) s→wpAny (model X.prog X.w) A (compareOp .NotEq (.ref a) (.ref b)) Q E s):=by
 obtain⟨h1,h2⟩:=Eg h
 obtain⟨its,rv,pl,_⟩:=I.tuple qa
 obtain⟨nU,gB,Xe,_⟩:=I.tuple qb
 have la:its.toArray.size=ds.length:=by rw[←ra.len,rv.length];simp
 have lb:nU.toArray.size=es.length:=by rw[←rb.len,gB.length];simp
 have he:∀j (j1:j<its.toArray.size) (j2:j<nU.toArray.size),xN X.prog X.w A.in1 s its.toArray[j] nU.toArray[j] (gH ds es j):=fun j j1 j2=>by
  obtain⟨v,hv,r⟩:=ra.get (i:=j) (d:=ds[j]'(la▸j1)) (by simp[la▸j1])
  obtain⟨v',cH,r'⟩:=rb.get (i:=j) (d:=es[j]'(lb▸j2)) (by simp[lb▸j2])
  obtain⟨u,Xf,ru⟩:=rv.get hv
  obtain⟨u',Xg,Xh⟩:=gB.get cH
  have e1:its.toArray[j]=u:=by
   have:its[j]'(by simpa using j1)=u:=(bt.mp Xf).2
   simpa using this
  have e2:nU.toArray[j]=u':=by
   have:nU[j]'(by simpa using j2)=u':=(bt.mp Xg).2
   simpa using this
  rw[e1,e2]
  exact Tq (A:=A.in1) I (show A.units+1+42<cLine by omega) (h1 j _ _ (by simp[la▸j1]) (by simp[lb▸j2])) r r' ru Xh
 obtain⟨⟨c1,d1,t1,s1⟩,o1,k1,n1,m1⟩:=id pl
 obtain⟨⟨c2,d2,t2,s2⟩,o2,k2,n2,m2⟩:=id Xe
 simp only at k1 m1 k2 m2
 subst k1 m1 k2 m2
 have e:x=((List.range (min its.toArray.size nU.toArray.size)).all (gH ds es)&&its.toArray.size==nU.toArray.size):=by rw[la,lb];exact h2
 refine⟨fun q=>?_,fun q=>?_⟩
 ·refine wpAny_richCompare_same_room (op:=.Eq) ⟨_,o1,rfl⟩ ⟨_,o2,rfl⟩ PySem.F.slot_tuple_eq (pL PySem.F.slot_tuple_eq ⟨_,o1,rfl⟩ PySem.F.entry_tuple_eq (PySem.F.args_tuple_eq_2 _ _) (V1 X.prog X.w a b _ _ _ _ _ _ _ _ (gH ds es)) ⟨o1,o2,he,?_⟩) (by omega)
  rw[←e]
  show Value.bool x≠Value.notImplemented∧Q (.bool x) s
  exact⟨(fun z=>nomatch z),q⟩
 ·refine wpAny_richCompare_same_room (op:=.NotEq) ⟨_,o1,rfl⟩ ⟨_,o2,rfl⟩ PySem.F.slot_tuple_ne (pL PySem.F.slot_tuple_ne ⟨_,o1,rfl⟩ PySem.F.entry_tuple_ne (PySem.F.args_tuple_ne_2 _ _) (V2 X.prog X.w a b _ _ _ _ _ _ _ _ (gH ds es)) ⟨o1,o2,he,?_⟩) (by omega)
  rw[←e]
  show Value.bool (!x)≠Value.notImplemented∧Q (.bool (!x)) s
  exact⟨(fun z=>nomatch z),q⟩
end
noncomputable def Ai(K:PySem.W.Frag)(neg:Bool):R2:=fun x y H Q=>∃a b r,Rp K (fun _=>True) H x a∧Rp K (fun _=>True) H y b∧jS a b=some r∧Q (.bl (if neg then !r else r)) H
section
variable {X:Cx}{K:PySem.W.Frag}
theorem Eh{pins:List (Addr×Obj)}{σ:L2.St}{H:Hp}{s:Shared}{A:Around}(I:L2.Inv X pins σ H s)(hu:A.units+44<cLine){a b:D}{r:Bool}(h:jS a b=some r){x y:V}{v u:Value}(ra:Rp X.K (fun _=>True) H x a)(rb:Rp X.K (fun _=>True) H y b)(rx:RelV x v)(ry:RelV y u){E:Value→Shared→Prop}{Q:Value→Shared→Prop} :
  (Q (.bool r) s→wpAny (model X.prog X.w) A (compareOp .Eq v u) Q E s)∧(Q (.bool (!r)) s→wpAny (model X.prog X.w) A (compareOp .NotEq v u) Q E s):=by
 unfold jS at h
 split at h
 ·cases ra with
  |tup qa ra=>cases rb with
   |tup qb rb =>
    cases rx
    cases ry
    exact QD I hu h qa qb ra rb
 ·cases ra with
  |dk ha _ k1 q1=>cases rb with
   |dk hb _ k2 q2 =>
    cases rx
    cases ry
    simp only[lh]at h
    split at h
    ·rename_i ok
     cases h
     rw[gx]at ok
     exact Ff I (by omega) ha hb ⟨k1,q1⟩ ⟨k2,q2⟩ ok.1 ok.2
    ·cases h
 ·cases h
theorem QF(h:X.K=K)(hu:X.A.units+64<cLine):bz X (compareOp .Eq) (Ai K false):=by
 subst h
 intro pins s σ H x y v u Q I rx ry h
 obtain⟨a,b,r,ra,rb,e,q⟩:=h
 exact(Eh I (by omega) e ra rb rx ry).1 ⟨.bl _,H,I,rfl,q⟩
theorem QG(h:X.K=K)(hu:X.A.units+64<cLine):bz X (compareOp .NotEq) (Ai K true):=by
 subst h
 intro pins s σ H x y v u Q I rx ry h
 obtain⟨a,b,r,ra,rb,e,q⟩:=h
 exact(Eh I (by omega) e ra rb rx ry).2 ⟨.bl _,H,I,rfl,q⟩
noncomputable def iL(neg:Bool):M×D→M×D→Option (M×D):=fun a b=>(jS a.2 b.2).bind fun r=>some (.fr,.bl (if neg then !r else r))
theorem Gg{neg:Bool}:JR K (Ai K neg) (iL neg):=by
 intro H₀ O H x y a b Q m d _ _ h1 h2 h q
 obtain⟨r,er,h⟩:=ao h
 cases h
 exact⟨a.2,b.2,r,h1.weak,h2.weak,er,q _ H (aB.refl H) dG⟩
end
theorem ints_of:∀{ns:List Int}{us:List Value},Vals (ns.map V.int) us→IntsAre us ns
 |[],_,.nil=>.nil
 |n::ns,_,.cons ⟨t,e⟩ r=>by subst e;exact .cons n t (ints_of r)
section
variable {K:PySem.W.Frag}{H:Hp}
end
structure wt (K:PySem.W.Frag)(x:Str)(st:Stmt)(f:Addr)(fd:FuncData):Prop where
 ex:∃(oc:Value) (od:Option Addr) (dV kV doc pm:Value) (an:Option Addr) (bq ct:Value) (iU:Array (Option Value)),
  fd=PySem.W.fnOf x x (eD st) (dn st) (bQ st) dV kV doc pm an bq ct∧K.lookup f=some ⟨oc,od,.func fd,iU⟩∧PySem.W.codeIn K bq x=true
 kp:PySem.W.keepIn K (.ref f)=true
theorem wt.ok{P:Program}{w:World}{K:PySem.W.Frag}{mg:Str→Option Value}{base:Heap}{x:Str}{st:Stmt}{f:Addr}{fd:FuncData}{N ps:List Str}{k:Nat}{sp:Sp}(F:wt K x st f fd)(S:qD N ps (bQ st))(len:∀vs H Q E,sp vs H Q E→vs.length=ps.length)
  (qW:∀(bq:Value) (A:Around) (outer:List Env) (s:Shared) (H:Hp) (vs:List V) (Q:VK) (E:XK),dw k (A.deeper (envOfC x (bQ st) s.heap.objs.size f bq))→sp vs H Q E →
   ∃t,f6 (lO kZ P w K mg base N x (bQ st) f bq A outer s H E).nH (dn st) t∧t { nx:=fun _ H'=>Q .non H',rt:=Q } (L2.start N vs) H):ku P w K mg base kZ (k+1) f fd ps sp:=by
 obtain⟨oc,od,dV,kV,doc,pm,an,bq,ct,iU,rfl,lk,dM⟩:=F.ex
 refine GU lk dM S len fun A outer s H vs Q E hr jK=>?_
 obtain⟨t,h,q⟩:=qW bq A outer s H vs Q E hr jK
 exact⟨t,h.nH,q⟩
structure Y7 (K:PySem.W.Frag)(mg:Str→Option Value)(x:Str)(st:Stmt)(ps:List Str)(dv:Value)(f:Addr)(fd:FuncData):Prop where
 mg:mg x=some (.ref f)
 fn:wt K x st f fd
 bd:Binds K fd ps []
 xO:Binds K fd ps [dv]
end J
namespace J
open PySem PySem.Spec PyProof.Rows L2
open Builtin Builtin.Str
theorem Ln{X:Cx}(hc:X.calm=true):gp X (.builtin "any") (fun xs H Q=>∃(p:Addr) (bs:List Bool),xs=[.ref p]∧bw X.K H p (bs.map V.bl)∧Q (.bl (bs.any id)) H):=by
 intro pins s σ H xs us Q I r h
 obtain⟨p,bs,rfl,hq,q⟩:=h
 obtain⟨u,rfl,rx⟩:=vals1 r
 cases rx
 obtain⟨its,rv,pl,hz⟩:=I.list hq
 have hlen:bs.length=its.length:=by simpa using rv.length
 have tF:p≠s.heap.objs.size:=by
  obtain⟨o,n,e,_⟩:=pl
  exact cL (bx e)
 refine call_any_walk (wpAny_pyIter_list pl.isList ?_)
 refine⟨s.heap.objs.size,_,_,_,_,_,fun i=>bs.getD i true,rfl,Walks.list (show X.A.in1.handled=none from I.ok.hd hc) s.heap.objs.size p tF its.toArray,⟨⟨_,eU _ rfl,rfl,rfl⟩,?_⟩,fun i v s' Q' E' hv Br=>?_,fun h' tk kp=>?_⟩
 ·obtain⟨o,n,e,e2,e3,e4⟩:=pl
  exact⟨o,cA _ e,e2,n,e4⟩
 ·have cH:its[i]?=some v:=by simpa using hv
  have hi:i<its.length:=(bt.mp cH).1
  have hb:(bs.map V.bl)[i]?=some (V.bl (bs.getD i true)):=by
   rw[cG,bP (by omega),pN,bP (by omega)];rfl
  obtain⟨u,hu,ru⟩:=rv.get hb
  rw[cH]at hu
  cases hu
  cases (show v=Value.bool _ from ru)
  exact iP Br
 ·have eb:(List.range its.toArray.size).any (fun i=>bs.getD i true)=bs.any id:=by
   rw[fY,←hlen]
   conv=>rhs;rw[←range_getD bs true]
   rw[List.any_map];rfl
  refine⟨.bl (bs.any id),H,?_,?_,q⟩
  ·have I1:Inv X pins σ H { s with heap:=s.heap.push { cls:=.type "list_iterator",data:=.fields #[.ref p,.int 0 0] },toks:=s.toks }:=I.kept fun b o e=>cA _ e
   refine I1.turned (it:=s.heap.objs.size) (fun b o hb e=>kp b o (by simpa using hb) e) (I.aA.fresh (aR _)) (Nat.ne_of_gt I.lt) (.inr I.sz) (fun x c e=>?_) fun z hz=>?_
   ·obtain⟨v,o,ho,_⟩:=I.cell x c e
    exact cL (bx ho)
   ·exact cL (bx (I.pin z hz).1)
  ·rw[eb];rfl
section
variable {K:PySem.W.Frag}{H:Hp}
noncomputable def ni:List (M×D)→Option (M×D)
 |[(_,.lst ds)]=>(m9 ds).bind fun bs=>some (.fr,.bl (bs.any id))
 |_=>none
theorem L7{X:Cx}(h:X.K=K)(hc:X.calm=true):gp X (.builtin "any") (fun xs H Q=>∃(p:Addr) (bs:List Bool),xs=[.ref p]∧bw K H p (bs.map V.bl)∧Q (.bl (bs.any id)) H):=by subst h;exact Ln hc
theorem QH:jP K (fun xs H Q=>∃(p:Addr) (bs:List Bool),xs=[.ref p]∧bw K H p (bs.map V.bl)∧Q (.bl (bs.any id)) H) ni:=by
 intro H₀ O H vs ak Q m d _ _ hv h q
 unfold ni at h
 split at h
 ·obtain⟨bs,eb,h⟩:=ao h
  cases h
  obtain⟨v,rfl,hw⟩:=hv.one
  obtain⟨a,xs,rfl,r,s⟩:=hw.lst
  rw[yV s eb]at r
  exact⟨_,_,rfl,r,q _ H (aB.refl H) dG⟩
 ·cases h
end
end J
namespace J
open PySem PySem.Spec PyProof.Rows L2
section
variable {prog:Program}{w:World}{A:Around}{E:Value→Shared→Prop}{s:Shared}{d:Addr}
end
section
variable {prog:Program}{w:World}{A:Around}{E:Value→Shared→Prop}{s:Shared}
inductive vI {κ:Type}[DecidableEq κ](A:Around)(s:Shared)(kb:List (κ×Addr×Value)):List (κ×Addr×Value)→Bool→Prop
 |nil:vI A s kb [] true
 |miss {k:κ}{p:Addr×Value}{r:List (κ×Addr×Value)}:atKey kb k=none→vI A s kb ((k,p)::r) false
 |hit {k:κ}{p q:Addr×Value}{r:List (κ×Addr×Value)}{e b:Bool}:atKey kb k=some q→SeqAt.EqAt A s p.2 q.2 e→vI A s kb r b→vI A s kb ((k,p)::r) (e&&b)
end
def Raw(h:Heap)(d:Addr)(es:Array DictEntry)(ep:Nat):Prop:=∃o,h.get? d=some o∧o.ExactDict∧o.data=.dict es ep
theorem Raw.ty{s:Shared}{d:Addr}{es:Array DictEntry}{ep:Nat}(h:Raw s.heap d es ep):s.TypeIs (.ref d) "dict" := let ⟨o,a,b,_⟩:=h;⟨o,a,b.1⟩
section
variable {prog:Program}{w:World}{A:Around}{E:Value→Shared→Prop}{s:Shared}{d it:Addr}{es:Array DictEntry}{ep i n:Nat}
theorem MR {Q:Value→Shared→Prop} (lo:(d==sysModules)=false) (r:Raw s.heap d es ep) (hQ:Q (.ref s.heap.objs.size) { s with heap:=s.heap.push { cls:=.type "dict_values",data:=.fields #[.ref d] } }):wpAny (model prog w) A (call (.builtin "dict.values") [.ref d]) Q E s:=by
 refine pL PySem.F.slot_dict_values r.ty PySem.F.entry_dict_values (PySem.F.args_dict_values_1 _) (S:=fun _ R s=>Raw s.heap d es ep∧R (.ok (.ret (.ref s.heap.objs.size))) { s with heap:=s.heap.push { cls:=.type "dict_values",data:=.fields #[.ref d] } }) (.of_wp fun A R s ⟨r,h⟩=>?_) ⟨r,hQ⟩
 refine aw ?_
 unfold Builtin.Dict.noArgs
 refine aw (wpAny_notOrdered_dict r.ty (show wpAny _ _ (pure d) _ _ s from aO ?_))
 show wpAny _ _ (Builtin.Dict.showsAll d >>= _) _ _ s
 rw[Builtin.Dict.showsAll,if_neg (by rw[lo];exact a6)]
 exact aw (aO (aw (kJ (aO ⟨_,rfl,h⟩))))
end
noncomputable def rR:HO→Bool
 |.dK _=>true
 |.dT _=>true
 |_=>false
noncomputable def nr:HO→List V
 |.dK kvs=>kvs.map (·.2)
 |.dT kvs=>kvs.map (·.2)
 |_=>[]
theorem Gh{u:HO}(h:rR u=true):(∀o v,u≠.aL o v)∧(∀xs,u≠.tup xs)∧(∀ps,u≠.kM ps)∧∀x,u≠.own x:=by
 cases u<;>first | (cases h;done)|exact⟨(fun _ _ z=>nomatch z),(fun _ z=>nomatch z),(fun _ z=>nomatch z),(fun _ z=>nomatch z)⟩
section
variable {X:Cx}{pins:List (Addr×Obj)}{σ:L2.St}{H:Hp}{s:Shared}{a it:Addr}
theorem Tr{P:Program}{w:World}{h:Heap}{u:HO}(hu:rR u=true)(ok:bU P w H h a u):∃o es ep,h.get? a=some o∧o.ExactDict∧o.data=.dict es ep∧es.size=(nr u).length∧(∀(i:Nat) x,(nr u)[i]?=some x→∃e,es[i]?=some e∧RelV x e.val)∧(a==sysModules)=false:=by
 cases u<;>try (cases hu;done)
 ·rename_i kvs
  obtain⟨z,lo,vs,rv,o,es,ep,ho,ex,hd,hk,hp,hn⟩:=ok
  refine⟨o,es,ep,ho,ex,hd,?_,fun i x e=>?_,lo⟩
  ·have e1:=hp.length
   have e2:=rv.length
   simp only[Array.length_toList]at e1
   simp[nr,e1,e2]
  ·simp only[nr,List.getElem?_map,Option.map_eq_some_iff]at e
   obtain⟨kv,BP,rfl⟩:=e
   obtain⟨v,h1,h2⟩:=vi rv BP
   have hi:i<es.size:=by
    have:=(bt.mp h1).1
    have e1:=hp.length
    simp only[Array.length_toList]at e1
    omega
   exact⟨es[i],by simp[hi],by rw[(hp.get? (e:=es[i]) (by simp[hi]) h1).2];exact h2⟩
 ·rename_i kvs
  obtain⟨z,lo,xs,r,o,es,ep,ho,ex,hd,he,hn⟩:=ok
  refine⟨o,es,ep,ho,ex,hd,?_,fun i x e=>?_,lo⟩
  ·rw[←AQ,he,a7,←cK r];simp[nr]
  ·simp only[nr,List.getElem?_map,Option.map_eq_some_iff]at e
   obtain⟨kv,BP,rfl⟩:=e
   have go:∀{l:List (List Key×V)}{m:List (List Key×Addr×Value)}{i:Nat}{kv:List Key×V},Paired (fun(p:List Key×V) (q:List Key×Addr×Value)=>p.1=q.1∧H q.2.1=some (.tup (p.1.map kV))∧RelV p.2 q.2.2) l m→l[i]?=some kv→∃y,m[i]?=some y∧RelV kv.2 y.2.2:=by
    intro l m i kv q
    induction q generalizing i with
    |nil=>intro e;simp at e
    |cons h t ih =>
     intro e
     cases i with
     |zero=>simp at e;subst e;exact⟨_,rfl,h.2.2⟩
     |succ i=>exact ih (by simpa using e)
   obtain⟨y,h1,h2⟩:=go r BP
   exact⟨entryOfKey (tupleKind (cv P w)) y,by rw[←A2,he,cG,h1];rfl,h2⟩
theorem Ho{P:Program}{w:World}{h:Heap}{H':Hp}{u:HO}(hu:rR u=true)(ok:bU P w H h a u)(nt:∀b xs,H b=some (.tup xs)→H' b=some (.tup xs)):bU P w H' h a u:=by
 cases u<;>try (cases hu;done)
 ·exact ok
 ·obtain⟨z,lo,xs,r,m⟩:=ok
  exact⟨z,lo,xs,Paired.kj r fun p q z=>⟨z.1,nt _ _ z.2.1,z.2.2⟩,m⟩
noncomputable def zK(i:Nat)(t:TS):TS:=fun Ds σ H=>∃a u,σ[i]?=some (some (.ref a))∧rR u=true ∧
 ((H a=some u∧∀o,t (Iq a o u Ds) σ (upd H a (.aL o u)))∨((∃o,H a=some (.aL o u))∧t Ds σ H))
theorem QI{st:Stmt}{t:TS}{i:Nat}(h:dZ X st t):dZ X st (zK i t):=by
 refine⟨fun pins s σ H Ds I ht=>?_⟩
 obtain⟨a,u,hs,hu,⟨e,ht⟩|⟨_,ht⟩⟩:=ht
 ·have ok:=I.aA a _ e
  obtain⟨n1,n2,n3,n4⟩:=Gh hu
  obtain⟨o,_,_,ho,_⟩:=Tr hu ok
  have hf:∀o v,X.H₀ a≠some (.aL o v):=fun o v z=>by rw[I.base.fV a o v z]at e;cases e;exact n1 _ _ rfl
  have nt:∀{H':Hp}{z z':HO},H' a=some z→(∀xs,z≠.tup xs)→∀b xs,H' b=some (.tup xs)→upd H' a z' b=some (.tup xs):=fun e' nz b xs q=>by
   rw[az (lF q e' (fun w=>nz xs w.symm))];exact q
  have I1:L2.Inv X pins σ (upd H a (.aL o u)) s:=vh I e n2 n3 n4 hf ⟨ho,Ho hu ok (nt e n2)⟩
  have th:∀{σ':L2.St}{H':Hp}{s':Shared},L2.Inv X pins σ' H' s'→H' a=some (.aL o u)→L2.Inv X pins σ' (upd H' a u) s':=fun I' e' =>
   vh I' e' (fun _ z=>nomatch z) (fun _ z=>nomatch z) (fun _ z=>nomatch z) hf (Ho hu (I'.aA a _ e').2 (nt e' (fun _ z=>nomatch z)))
  refine aD (h.go pins s σ _ _ I1 (ht o)) fun f s' q=>?_
  cases f with
  |next=>obtain⟨σ',H',I',e',q⟩:=q;exact⟨σ',_,th I' e',q⟩
  |brk=>obtain⟨σ',H',I',e',q⟩:=q;exact⟨σ',_,th I' e',q⟩
  |cont=>obtain⟨σ',H',I',e',q⟩:=q;exact⟨σ',_,th I' e',q⟩
  |ret v=>obtain⟨v',σ',H',I',qc,e',q⟩:=q;exact⟨v',σ',_,th I' e',qc,q⟩
 ·exact h.go pins s σ H Ds I ht
end
end J
namespace J
open PySem L2
section
variable {K:PySem.W.Frag}{N:Addr→Prop}{H H' H₀ H₁:Hp}{I:Nat→Option Addr}{O:Addr→Prop}{σ:L2.St}{env:Ev}
noncomputable def Xi:D→Option (List D)
 |.dk ks=>some (ks.map (·.2))
 |.dt ks=>some (ks.map (·.2))
 |_=>none
noncomputable def DR(K:PySem.W.Frag)(N:Addr→Prop)(H:Hp):HO→D→Prop
 |.dK kvs,.dk ks=>Ent K N H kvs ks
 |.dT kvs,.dt ks=>Ent K N H kvs ks
 |_,_=>False
theorem DR.dc{u:HO}{d:D}(h:DR K N H u d):rR u=true:=by cases u<;>cases d<;>first|rfl|exact h.elim
theorem DR.vs{u:HO}{d:D}{ds:List D}(h:DR K N H u d)(e:Xi d=some ds):aq K N H (nr u) ds:=by
 cases u<;>cases d<;>first|exact h.elim|skip
 ·cases e;exact h.2
 ·cases e;exact h.2
theorem DR.mono{N':Addr→Prop}{u:HO}{d:D}(h:DR K N H u d)(w:∀{vs:List V}{ds:List D},aq K N H vs ds→aq K N' H' vs ds):DR K N' H' u d:=by
 cases u<;>cases d<;>first|exact h.elim|exact⟨h.1,w h.2⟩
noncomputable def rn(src:D→Option (List D))(i:Nat)(g:M×D→Ev→Option Ev)(b:Ev→Option Fl):Ev→Option Fl:=fun e=>match e[i]? with
 |some (some (m,d))=>if dB m=true then (src d).bind fun ds=>forL g b m ds e else none
 |_=>none
theorem QJ{i:Nat}{wi:TI}{src:D→Option (List D)}{g:TG}{tb:TS}{fg:M×D→Ev→Option Ev}{b:Ev→Option Fl}(hd:∀d ds,src d=some ds→(∃ks,d=.dk ks)∨∃ks,d=.dt ks)
  (hw:∀(G:Hp) (O:Addr→Prop) (H1:Hp) (σ:L2.St) (m:M) (a:Addr) (o:Obj) (u:HO) (d:D) (ds:List D),dB m=true→σ[i]?=some (some (.ref a))→H1 a=some (.aL o u)→¬O a→DR K (NM G O m) H1 u d→src d=some ds→(∀a o,O a→H1 a=some o→¬fP o)→∀R',(∀J H',aB H1 H'→iI K G O J H' m ds→R' J H')→wi σ H1 R')
  (hg:JG K g fg) (hb:JS K tb b):JS K (zK i (ko wi g tb)) (rn src i fg b):=by
 intro H₀ I O H σ env Ds fl R e q
 unfold rn at e
 split at e
 ·rename_i m d he
  split at e
  ·rename_i hm
   obtain⟨ds,ed,e⟩:=ao e
   obtain⟨v,hv,_,hz⟩:=R.e.at he
   have qd:∃a u,v=.ref a∧Rd H a u∧¬O a∧DR K (NM H₀ O m) H u d:=by
    rcases hd d ds ed with⟨_,rfl⟩|⟨_,rfl⟩
    ·cases m<;>try (cases hm;done)
     ·cases hz with|dk r n e q=>exact⟨_,_,rfl,r,n,e,q⟩
     ·cases hz with|dk r n e q=>exact⟨_,_,rfl,r,n.1,e,q⟩
    ·cases m<;>try (cases hm;done)
     ·cases hz with|dt r n e q=>exact⟨_,_,rfl,r,n,e,q⟩
     ·cases hz with|dt r n e q=>exact⟨_,_,rfl,r,n.1,e,q⟩
   obtain⟨a,u,rfl,rd,na,dr⟩:=qd
   have hu:=dr.dc
   obtain⟨n1,n2,_,_⟩:=Gh hu
   have run:∀{G H1:Hp}{o:Obj}{Es:Ends},Rel K G I O H1 σ env→H1 a=some (.aL o u)→DR K (NM G O m) H1 u d→lP K G I O H1 Es fl→ko wi g tb Es σ H1:=fun R1 e1 tT q1 =>
    Ef hg hb R1 hm (hw _ _ _ σ m a _ u d ds hm hv e1 na tT ed R1.e.on) e q1
   refine⟨a,u,hv,hu,?_⟩
   rcases rd with e1|⟨o,e1⟩
   ·refine .inl ⟨e1,fun o=>?_⟩
    have w:lg H (upd H a (.aL o u)):=⟨fun b v _ h=>by
     by_cases z:b=a
     ·subst z
      rcases h with h|⟨o',h⟩
      ·rw[e1]at h;cases h;exact .inr ⟨o,bf⟩
      ·rw[e1]at h;cases h;exact absurd rfl (n1 _ _)
     ·unfold Rd at h ⊢;rw[az z];exact h,fun b xs h=>by rw[az (lF h e1 (fun z=>n2 _ z.symm))];exact h⟩
    have nO:∀p,O p→p≠a:=fun p h z=>na (z▸h)
    have zz:∀b,H₀ b=none↔(fun b=>if b=a then (H₀ a).map (fun _=>HO.aL o u)else H₀ b) b=none:=fun b=>by
     by_cases z:b=a
     ·subst z;simp
     ·simp[z]
    have R1:Rel K (fun b=>if b=a then (H₀ a).map (fun _=>HO.aL o u)else H₀ b) I O (upd H a (.aL o u)) σ env:=by
     refine R.bZ w (fun p h=>az (nO p h)) zz (fun b v h=>?_) fun b v n h=>?_
     ·by_cases z:b=a
      ·subst z;exact⟨_,bf⟩
      ·exact⟨v,by rw[az z];exact h⟩
     ·by_cases z:b=a
      ·subst z
       simp only[if_true]at h
       cases q0:H₀ b with
       |none=>rw[q0]at h;cases h
       |some u0=>rw[q0]at h;cases h;exact bf
      ·simp only[z,if_false]at h
       rw[az z];exact R.fr b v n h
    have back:∀{O':Addr→Prop}{H':Hp},aG O (upd H a (.aL o u)) O' H'→H' a=some (.aL o u)∧aG O H O' (upd H' a u) ∧
      (∀{σ':L2.St}{env':Ev},Rel K (fun b=>if b=a then (H₀ a).map (fun _=>HO.aL o u)else H₀ b) I O' H' σ' env'→Rel K H₀ I O' (upd H' a u) σ' env') ∧
      ∀{m:M}{d:D}{v:V},Val K (fun b=>if b=a then (H₀ a).map (fun _=>HO.aL o u)else H₀ b) O' HE H' m d v→Val K H₀ O' HE (upd H' a u) m d v:=fun {O' H'} st=>by
     obtain⟨ha,tU⟩:=st a _ bf na
     have w':lg H' (upd H' a u):=⟨fun b v nf h=>by
      by_cases z:b=a
      ·subst z
       rcases h with h|⟨o',h⟩
       ·rw[ha]at h;cases h;cases nf
       ·rw[ha]at h;cases h;exact .inl bf
      ·unfold Rd at h ⊢;rw[az z];exact h,fun b xs h=>by rw[az (lF h ha (fun z=>nomatch z))];exact h⟩
     have tV:∀p,O' p→upd H' a u p=H' p:=fun p h=>az fun z=>tU (z▸h)
     refine⟨ha,fun b v h n=>?_,fun R'=>?_,fun cH=>cH.bZ w' (fun _ p d N c=>?_) tV fun b=>(zz b).mpr⟩
     ·by_cases z:b=a
      ·subst z;rw[e1]at h;cases h;exact⟨bf,tU⟩
      ·obtain⟨h1,h2⟩:=st b v (by rw[az z];exact h) n
       exact⟨by rw[az z];exact h1,h2⟩
     ·refine R'.bZ w' tV (fun b=>(zz b).symm) (fun b v h=>?_) fun b v n h=>?_
      ·by_cases z:b=a
       ·subst z;exact⟨_,bf⟩
       ·exact⟨v,by rw[az z];exact h⟩
      ·by_cases z:b=a
       ·subst z
        have h2:=R.fr b v n h
        rw[e1]at h2;cases h2;exact bf
       ·rw[az z]
        exact R'.fr b v n (by simp only[z,if_false];exact h)
     ·refine az fun z=>?_
      subst z
      cases d<;>simp only[Cell]at c
      all_goals (obtain⟨xs,q,_⟩:=c;rw[ha]at q;cases q)
    refine run R1 bf (dr.mono fun r=>(r.bZ w).wk fun b n _=>?_) ?_
    ·cases m<;>try (cases hm;done)
     ·exact n
     ·exact⟨n.1,(zz b).mp n.2⟩
    ·cases fl with
     |nx e'=>exact fun O' H' σ' R' st=>⟨(back st).1,q _ _ _ ((back st).2.2.1 R') (back st).2.1⟩
     |bk e'=>exact fun O' H' σ' R' st=>⟨(back st).1,q _ _ _ ((back st).2.2.1 R') (back st).2.1⟩
     |ct e'=>exact fun O' H' σ' R' st=>⟨(back st).1,q _ _ _ ((back st).2.2.1 R') (back st).2.1⟩
     |rt e' m' d'=>exact fun O' H' σ' v R' st cH=>⟨(back st).1,q _ _ _ v ((back st).2.2.1 R') (back st).2.1 ((back st).2.2.2 cH)⟩
   ·exact .inr ⟨⟨o,e1⟩,run R e1 dr q⟩
  ·cases e
 ·cases e
end
end J
namespace J
open PySem PySem.Spec PyProof.Rows L2
noncomputable def keysOf:List D→Option (List Key)
 |[]=>some []
 |d::ds=>(keyOf d).bind fun k=>(keysOf ds).map fun ks=>k::ks
noncomputable def Aj:D→Option (List Key)
 |.tup ds=>if ds.length<4 then keysOf ds else none
 |_=>none
noncomputable def Ak:D→Option (List (List Key×D))
 |.dt ks=>some ks
 |_=>none
theorem Fg{d:D}{ks:List (List Key×D)}(h:Ak d=some ks):d=.dt ks:=by cases d<;>simp only[Ak]at h<;>cases h;rfl
section
variable {K:PySem.W.Frag}{N:Addr→Prop}{H H' H₀:Hp}{I:Nat→Option Addr}{O:Addr→Prop}{σ:L2.St}{env:Ev}
theorem Dq:∀{ds:List D}{ks:List Key}{vs:List V},keysOf ds=some ks→aq K N H vs ds→vs=ks.map kV
 |[],_,_,e,.nil=>by cases e;rfl
 |d::ds,_,_,e,.cons h r=>by
  obtain⟨k,e1,e⟩:=ao e
  cases e2:keysOf ds with
  |none=>rw[e2]at e;cases e
  |some l=>rw[e2]at e;cases e;rw[Dq e2 r,lB e1 h];rfl
theorem Ei{d:D}{ks:List Key}{v:V}(e:Aj d=some ks)(h:Rp K N H v d):∃b,v=.ref b∧H b=some (.tup (ks.map kV)):=by
 cases d<;>try (cases e;done)
 rename_i ds
 simp only[Aj]at e
 split at e
 ·rename_i hl
  cases h with
  |tup q r =>
   have:=r.len
   have z:=q.own (by omega)
   rw[Dq e r]at z
   exact⟨_,rfl,z⟩
 ·cases e
theorem Val.dt{m:M}{ks:List (List Key×D)}{v:V}{Hb:Hp}(h:Val K H₀ O Hb H m (.dt ks) v):∃a kvs,v=.ref a∧Rd H a (.dT kvs)∧Ent K (NM H₀ O (aI m)) H kvs ks:=by
 cases m<;>simp only[Val,Cell]at h
 ·cases h with|dt r n e q=>exact⟨_,_,rfl,r,e,q⟩
 ·cases h with|dt r n e q=>exact⟨_,_,rfl,r,e,q⟩
 ·obtain⟨p,rfl,_,_,_,xs,q,e,r⟩:=h;exact⟨_,_,rfl,.inl q,e,r.wk fun a h _=>h.1⟩
 ·obtain⟨p,rfl,_,_,xs,q,e,r⟩:=h;exact⟨_,_,rfl,.inl q,e,r⟩
 ·obtain⟨p,rfl,_,xs,q,e,r⟩:=h;exact⟨_,_,rfl,.inl q,e,r⟩
 ·cases h with|dt r n e q=>exact⟨_,_,rfl,r,e,q⟩
 ·obtain⟨p,qs,aK,rfl,e2,_⟩:=h;cases e2
 ·obtain⟨_,_,_,_,e2,_⟩:=h;cases e2
end
section
variable {K:PySem.W.Frag}{N:Addr→Prop}{H H' H₀:Hp}{I:Nat→Option Addr}{O:Addr→Prop}{σ:L2.St}{env:Ev}
theorem Ts{N:Addr→Prop}(k:Key):Rp K N H (kV k) (ck k):=by
 cases k with
 |inl i=>exact .int i
 |inr x=>exact .str x
 |non=>exact .non
end
section
variable {K:PySem.W.Frag}{N:Addr→Prop}{H H' H₀:Hp}{I:Nat→Option Addr}{O:Addr→Prop}{σ:L2.St}{env:Ev}
theorem mE:∀{n:Nat}{acc:List Value}{c:Int},acc.length=n→(∀(j:Nat) v,acc[j]?=some v→∃t,v=.int (c+(j:Int)) t)→Vals ((List.range n).map fun(k:Nat)=>V.int (c+(k:Int))) acc
 |_,[],_,e,_=>by subst e;exact .nil
 |_,v::acc,c,e,h=>by
  subst e
  rw[cB,List.range_succ_eq_map,bE,w6]
  refine .cons (h 0 v rfl) ?_
  have:=mE (c:=c+1) (acc:=acc) rfl fun j w hw=>by
   obtain⟨t,e⟩:=h (j+1) w (by simpa using hw)
   exact⟨t,by rw[e];congr 1;omega⟩
  have e2:((fun(k:Nat)=>V.int (c+(k:Int)))∘Nat.succ)=fun(k:Nat)=>V.int (c+1+(k:Int)):=funext fun k=>by
   show V.int (c+((k+1:Nat):Int))=_
   congr 1;omega
  rw[e2]
  exact this
end
end J
namespace J
open PySem L2
noncomputable def Iw(K:PySem.W.Frag)(n:Nat)(F:List D→Option D):Sp:=fun vs H Q _=>vs.length=n∧∃ds d,qM K H [0] vs ds∧F ds=some d ∧
 ∀p H',(gR [0] vs p∨H p=none)→(∀a o,¬gR [0] vs a→H a=some o→H' a=some o)→(∀a o,H a=some o→∃o',H' a=some o')→Cell K (fun _=>False) H' p d→Q (.ref p) H'
noncomputable def Hq:Fl→Option D
 |.rt _ m d=>if own m=true∧dY d=true then some d else none
 |_=>none
noncomputable def Al(L:Nat)(g:Ev→Option Fl):List D→Option D:=fun ds=>(g (iq [0] ds++List.replicate (L-ds.length) none)).bind Hq
section
variable {K:PySem.W.Frag}{H H' H₀:Hp}{I:Nat→Option Addr}{O O':Addr→Prop}{σ:L2.St}{env:Ev}
theorem MS{ts:TS}{g:Ev→Option Fl}{n:Nat}{N:List Str}{vs:List V}{Q:VK}{E:XK}(h:JS K ts g)(hs:Iw K n (Al N.length g) vs H Q E):ts { nx:=fun _ H'=>Q .non H',rt:=Q } (L2.start N vs) H:=by
 obtain⟨hl,ds,d,A,e,q⟩:=hs
 obtain⟨fl,ef,eo⟩:=ao e
 obtain⟨I0,jQ,R⟩:=C1 (N:=N) A
 refine h H I0 (gR [0] vs) H _ _ _ fl R ef ?_
 cases fl with
 |nx e'=>cases eo
 |bk e'=>cases eo
 |ct e'=>cases eo
 |rt e' m' d' =>
  intro O' H' σ' v R' st hv
  unfold Hq at eo
  simp only at eo
  split at eo
  ·rename_i hm
   cases eo
   have hc:∃p,v=.ref p∧O' p∧Cell K (fun _=>False) H' p d:=by
    cases m'<;>try (cases hm.1;done)
    ·obtain⟨p,rfl,o,_,c⟩:=hv;exact⟨p,rfl,o,c.im hm.2⟩
    ·obtain⟨p,rfl,o,c⟩:=hv;exact⟨p,rfl,o,c.im hm.2⟩
   obtain⟨p,rfl,o,c⟩:=hc
   refine q p H' ?_ (fun a o n e=>R'.fr a o (fun i z=>n ⟨i,(jQ z).1,(jQ z).2⟩) e) R'.e.hd c
   rcases R'.ow p o with⟨i,z⟩|z
   ·exact .inl ⟨i,(jQ z).1,(jQ z).2⟩
   ·exact .inr z
  ·cases eo
end
section
variable {K:PySem.W.Frag}{H H' H₀:Hp}{O:Addr→Prop}{σ:L2.St}{env:Ev}
end
noncomputable def Am(neg:Bool)(fk fd:Ev→Option (M×D)):Ev→Option (M×D):=fun e=>(fk e).bind fun y=>(fd e).bind fun x=>(Ak x.2).bind fun ks=>(Aj y.2).bind fun k=>some (.fr,.bl (if neg then !(bY ks k).isSome else (bY ks k).isSome))
section
variable {K:PySem.W.Frag}{H H' H₀:Hp}{O:Addr→Prop}{σ:L2.St}{env:Ev}
theorem Tt{td ty:TE}{fd fk:Ev→Option (M×D)}(hk:JT K ty fk)(hd:JT K td fd):JT K (zX ty td) (Am false fk fd):=by
 intro H₀ O H σ env Q m d R h q
 obtain⟨y,ey,h⟩:=ao h
 obtain⟨x,ex,h⟩:=ao h
 obtain⟨ks,iX,h⟩:=ao h
 obtain⟨k,ek,h⟩:=ao h
 cases h
 refine hk H₀ O H σ env _ y.1 y.2 R ey fun w H1 s1 h1=>?_
 refine hd H₀ O H1 σ env _ x.1 x.2 (R.keep s1) ex fun v H2 s2 h2=>?_
 rw[Fg iX]at h2
 obtain⟨a,kvs,rfl,rd,en⟩:=h2.dt
 obtain⟨b,rfl,hb⟩:=Ei ek (h1.keep s2).weak
 refine⟨a,dH kvs k,rfl,.inr ⟨kvs,k,b,rd,rfl,hb,rfl⟩,?_⟩
 rw[en.isSome]
 exact q _ H2 (s1.trans s2) dG
theorem MT{td ty:TE}{fd fk:Ev→Option (M×D)}(hk:JT K ty fk)(hd:JT K td fd):JT K (yP ty td) (Am true fk fd):=by
 intro H₀ O H σ env Q m d R h q
 obtain⟨y,ey,h⟩:=ao h
 obtain⟨x,ex,h⟩:=ao h
 obtain⟨ks,iX,h⟩:=ao h
 obtain⟨k,ek,h⟩:=ao h
 cases h
 refine hk H₀ O H σ env _ y.1 y.2 R ey fun w H1 s1 h1=>?_
 refine hd H₀ O H1 σ env _ x.1 x.2 (R.keep s1) ex fun v H2 s2 h2=>?_
 rw[Fg iX]at h2
 obtain⟨a,kvs,rfl,rd,en⟩:=h2.dt
 obtain⟨b,rfl,hb⟩:=Ei ek (h1.keep s2).weak
 refine⟨a,dH kvs k,rfl,.inr ⟨kvs,k,b,rd,rfl,hb,rfl⟩,?_⟩
 rw[en.isSome]
 exact q _ H2 (s1.trans s2) dG
end
section
variable {K:PySem.W.Frag}{H H' H₀:Hp}{I:Nat→Option Addr}{O:Addr→Prop}{σ:L2.St}{env:Ev}
theorem rq{e:Ev}{i:Nat}{x:M×D}(h:(e.map fun _=>(none:Option (M×D)))[i]?=some (some x)):False:=by
 rw[cG]at h
 cases q:e[i]? with
 |none=>rw[q]at h;cases h
 |some y=>rw[q]at h;cases h
theorem Rel.UI(R:Rel K H₀ I O H σ env):Rel K H₀ I (fun _=>False) H σ (env.map fun _=>none) :=
 ⟨⟨jY (by rw[a7];exact cK R.e.sl) fun j a b h1 _ m d e=>by subst e;exact(rq h1).elim,fun _ z=>z.elim,R.e.hd,fun _ _ z=>z.elim⟩,R.fr,fun _ z=>z.elim,fun i d p h=>(rq h).elim,fun i j x y p h=>(rq h).elim,⟨fun i j d d' h=>(rq h).elim,fun i j d x p q xs h=>(rq h).elim⟩⟩
noncomputable def tW(x:M×D):Bool:=x.2.bG||(dY x.2&&(match x.1 with
 |.un=>true
 |.bo=>true
 |_=>false))
theorem Tv{x:M×D}{v:V}{Hb:Hp}(h:tW x=true)(hv:Val K H₀ O Hb H x.1 x.2 v):UT K (fun q=>HE q=none∧H₀ q=none∧¬False) H x.2 v:=by
 obtain⟨m,d⟩:=x
 unfold tW at h
 rw[Bool.or_eq_true,gx]at h
 rcases h with h|⟨h1,h2⟩
 ·exact .inl ⟨h,hv.weak.im h⟩
 ·cases m<;>try (exact absurd h2 a6)
  ·obtain⟨p,rfl,_,z,_,c⟩:=hv
   exact .inr ⟨p,rfl,⟨rfl,z,id⟩,c.im h1⟩
  ·obtain⟨p,rfl,_,z,c⟩:=hv
   exact .inr ⟨p,rfl,⟨rfl,z,id⟩,c.im h1⟩
noncomputable def oV(fs:Ev→Option (List (M×D))):Ev→Option Fl:=fun e=>(fs e).bind fun ak=>if ak.length≤sizeLine∧(ak.all tW)=true then some (.rt (e.map fun _=>none) .ut (.tup (ak.map (·.2))))else none
theorem UT.keep{F:Addr→Prop}{d:D}{v:V}(s:aB H H')(h:UT K F H d v):UT K F H' d v:=by
 rcases h with⟨z1,z2⟩|⟨q,z1,z2,c⟩
 ·exact .inl ⟨z1,z2.keep (.same s)⟩
 ·obtain⟨o,e,_⟩:=c.some
  exact .inr ⟨q,z1,z2,c.keep (.same s) ((s _ _ e).trans e.symm)⟩
theorem Gi:∀{ak:List (M×D)}{vs:List V}{Hb:Hp},ak.all tW=true→fh K H₀ O Hb H ak vs→Paired (UT K (fun q=>HE q=none∧H₀ q=none∧¬False) H) (ak.map (·.2)) vs
 |[],_,_,_,.nil=>.nil
 |x::r,_,_,h,.cons a t=>by
  rw[jF,gx]at h
  exact .cons (Tv h.1 a) (Gi h.2 t)
theorem QK{ta:TA}{fs:Ev→Option (List (M×D))}(ha:gQ K ta fs):JS K (rG (zU ta)) (oV fs):=by
 intro H₀ I O H σ env Ds fl R e q
 obtain⟨ak,em,e⟩:=ao e
 split at e
 ·rename_i hc
  cases e
  refine ha H₀ O H σ env _ ak R.e em fun vs H1 s1 h1=>⟨by rw[←cK h1];exact hc.1,fun p hp=>?_⟩
  have s2:aB H1 (upd H1 p (.tup vs)):=cu hp
  have s:=s1.trans s2
  exact q _ _ σ _ (R.keep s).UI (fun a o h _=>⟨s a o h,id⟩) ⟨p,vs,_,rfl,rfl,.inl bf,Paired.kj (Gi hc.2 h1) fun d v z=>z.keep s2⟩
 ·cases e
theorem Rel.J9{i:Nat}{v:V}(R:Rel K H₀ I O H σ env):Rel K H₀ I O H (σ.set i (some v)) (env.set i none):=by
 have at_:∀{j:Nat}{x:M×D},(env.set i none)[j]?=some (some x)→j≠i∧env[j]?=some (some x):=fun {j x} h=>by
  rcases get_set h with⟨_,z⟩|z
  ·cases z
  ·exact z
 have qe:∀{j:Nat}{y:Option V},j≠i→(σ.set i (some v))[j]?=some y→σ[j]?=some y:=fun {j y} n h=>by rwa [cU (fun z=>n z.symm)]at h
 refine⟨⟨jY (by rw[hV,hV];exact cK R.e.sl) fun j a b h1 h2 m d e=>?_,R.e.od,R.e.hd,R.e.on⟩,R.fr,R.ow,fun i' d' p h1 p1=>R.ba i' d' p (at_ h1).2 (qe (at_ h1).1 p1),fun i' j x y p h1 h2 o1 o2 p1 p2=>R.dj i' j x y p (at_ h1).2 (at_ h2).2 o1 o2 (qe (at_ h1).1 p1) (qe (at_ h2).1 p2),⟨fun i' j d1 d2 h1 h2=>R.nd.1 i' j d1 d2 (at_ h1).2 (at_ h2).2,fun i' j d1 x p q xs h1 p1 h2 o2 p2 e=>R.nd.2 i' j d1 x p q xs (at_ h1).2 (qe (at_ h1).1 p1) (at_ h2).2 o2 (qe (at_ h2).1 p2) e⟩⟩
 subst e
 obtain⟨nj,h1⟩:=at_ h1
 obtain⟨w,hw,n,hz⟩:=R.e.at h1
 rw[qe nj h2]at hw
 exact⟨n,w,by simpa using hw,hz⟩
def Cs(Hb H:Hp)(xs:List V)(ds:List D)(n:Nat):Prop:=∀(k:Nat) (d:D),ds[k]?=some d→(∀l,d=.lst l→∃q ys,xs[k]?=some (.ref q)∧Hb q=none∧H q=some (.lst ys)∧ys.length≤l.length+n)∧∀ks,d=.dk ks→∃q kvs,xs[k]?=some (.ref q)∧Hb q=none∧H q=some (.dK kvs)∧kvs.length≤ks.length+n
theorem Cs.keep{Hb:Hp}{xs:List V}{ds:List D}{n:Nat}(s:aB H H')(h:Cs Hb H xs ds n):Cs Hb H' xs ds n:=fun k d e=>⟨fun l el=>let ⟨q,ys,a,b,c,z⟩:=(h k d e).1 l el;⟨q,ys,a,b,s _ _ c,z⟩,fun ks el=>let ⟨q,ys,a,b,c,z⟩:=(h k d e).2 ks el;⟨q,ys,a,b,s _ _ c,z⟩⟩
theorem Cs.of{Hb:Hp}{F:Addr→Prop}{xs:List V}{ds:List D}(w:∀q,F q→Hb q=none)(h:Paired (UT K F H) ds xs):Cs Hb H xs ds 0:=fun k d e=>by
 obtain⟨v,hv,z⟩:=z8 h e
 refine⟨fun l el=>?_,fun ks el=>?_⟩
 ·subst el
  rcases z with⟨z,_⟩|⟨q,rfl,f,c⟩
  ·cases z
  ·obtain⟨ys,c,r⟩:=c;exact⟨q,ys,hv,w q f,c,pM r.len⟩
 ·subst el
  rcases z with⟨z,_⟩|⟨q,rfl,f,c⟩
  ·cases z
  ·obtain⟨ys,c,e,r⟩:=c
   have:=cf List.length e
   rw[a7,a7]at this
   exact⟨q,ys,hv,w q f,c,pM this⟩
def xP(K:PySem.W.Frag)(i:Nat)(ts:TS)(c:Ev→Nat→List D→Bool):Prop :=
 ∀H₀ I O Hb H σ env Ds a xs ds n,Rel K H₀ I O Hb σ env→σ[i]?=some (some (.ref a))→aB Hb H→bh K H a xs→xs.length=ds.length→Cs Hb H xs ds n→c env n ds=true→(∀H',aB Hb H'→bh K H' a xs→Cs Hb H' xs ds (n+1)→Ds.nx σ H')→ts Ds σ H
theorem Fh{a q:Addr}{xs:List V}{o o':HO}(h:bh K H a xs)(e:H q=some o)(n:¬fP o):bh K (upd H q o') a xs:=by
 rcases h with h|h
 ·refine .inl ?_
  rw[az (fun z=>by subst z;rw[h]at e;cases e;exact n trivial)];exact h
 ·exact .inr h
theorem Ej{Hb:Hp}{q:Addr}{o:HO}(s:aB Hb H)(h:Hb q=none):aB Hb (upd H q o):=fun a u e=>by
 rw[az (eC e h)];exact s a u e
theorem Cs.V3{Hb:Hp}{xs:List V}{ds:List D}{n:Nat}{q:Addr}{ys:List V}{y:V}(h:Cs Hb H xs ds n)(e:H q=some (.lst ys)):Cs Hb (upd H q (.lst (ys++[y]))) xs ds (n+1):=fun k d ed=>by
 refine⟨fun l el=>?_,fun ks el=>?_⟩
 ·obtain⟨p,zs,a,b,c,z⟩:=(h k d ed).1 l el
  by_cases w:p=q
  ·subst w
   rw[e]at c;cases c
   exact⟨p,_,a,b,bf,by rw[cg];simp only[List.length_cons,List.length_nil];omega⟩
  ·exact⟨p,zs,a,b,by rw[az w];exact c,by omega⟩
 ·obtain⟨p,zs,a,b,c,z⟩:=(h k d ed).2 ks el
  exact⟨p,zs,a,b,by rw[az (lF c e (fun w=>nomatch w))];exact c,by omega⟩
theorem Cs.V4{Hb:Hp}{xs:List V}{ds:List D}{n:Nat}{q:Addr}{kvs:List (Key×V)}{k:Key}{v:V}(h:Cs Hb H xs ds n)(e:H q=some (.dK kvs)):Cs Hb (upd H q (.dK (putK kvs k v))) xs ds (n+1):=fun j d ed=>by
 refine⟨fun l el=>?_,fun ks el=>?_⟩
 ·obtain⟨p,zs,a,b,c,z⟩:=(h j d ed).1 l el
  exact⟨p,zs,a,b,by rw[az (lF c e (fun w=>nomatch w))];exact c,by omega⟩
 ·obtain⟨p,zs,a,b,c,z⟩:=(h j d ed).2 ks el
  by_cases w:p=q
  ·subst w
   rw[e]at c;cases c
   have:=ux kvs k v
   exact⟨p,_,a,b,bf,by omega⟩
  ·exact⟨p,zs,a,b,by rw[az w];exact c,by omega⟩
noncomputable def oW(n:Nat)(ds:List D)(k:Int):Bool:=match L2.aX ds k with
 |some (.lst l)=>decide (l.length+n<sizeLine)
 |_=>false
noncomputable def vJ(n:Nat)(ds:List D)(k:Int):Bool:=match L2.aX ds k with
 |some (.dk l)=>decide (l.length+n<sizeLine)
 |_=>false
noncomputable def nu(fk f:Ev→Option (M×D)):Ev→Nat→List D→Bool:=fun e n ds=>match fk e,f e with
 |some (_,.int k),some _=>oW n ds k
 |_,_=>false
noncomputable def rS(fk fy f:Ev→Option (M×D)):Ev→Nat→List D→Bool:=fun e n ds=>match fk e,fy e,f e with
 |some (_,.int k),some y,some _=>(keyOf y.2).isSome&&vJ n ds k
 |_,_,_=>false
theorem Gj{α:Type}{l:List α}{k:Int}{a:α}(h:L2.aX l k=some a):∃j,dF l.length k=some j∧l[j]?=some a:=by
 unfold L2.aX at h
 cases q:dF l.length k with
 |none=>rw[q]at h;cases h
 |some j=>rw[q]at h;exact⟨j,rfl,h⟩
theorem Gk{α:Type}{l:List α}{k:Int}{a:α}{j:Nat}(h:dF l.length k=some j)(e:l[j]?=some a):L2.aX l k=some a:=by
 unfold L2.aX;rw[h];exact e
theorem UJ{i:Nat}{t tk:TE}{f fk:Ev→Option (M×D)}(hk:JT K tk fk)(h:JT K t f):xP K i (oN (nK K "list" qE (lZ (pX K) (gq i) tk) (lG t kr))) (nu fk f):=by
 intro H₀ I O Hb H σ env Ds a xs ds n R hs s sq hl cs hc q
 unfold nu at hc
 split at hc
 ·rename_i mk k x ek ex
  unfold oW at hc
  split at hc
  ·rename_i l el
   have hc:=bu hc
   obtain⟨j,ej,ed⟩:=Gj el
   obtain⟨p,ys,hx,hb,hp,le⟩:=(cs j _ ed).1 l rfl
   refine⟨.ref a,hs,?_⟩
   refine hk H₀ O H σ env _ _ _ (R.keep s).e ek fun w H1 s1 hw=>?_
   refine .inr (.inl ⟨a,xs,k,.ref p,rfl,hw.int,(Keeps.same (N:=fun _=>True) s1).sq sq,Gk (by rw[hl];exact ej) hx,?_⟩)
   refine⟨.inl ⟨rfl,ys,.inl (.inl (s1 _ _ hp))⟩,?_⟩
   refine h H₀ O H1 σ env _ x.1 x.2 (R.keep (s.trans s1)).e ex fun u H2 s2 hu=>?_
   have s3:=s1.trans s2
   refine⟨p,ys,u,rfl,rfl,s3 _ _ hp,by omega,?_⟩
   exact q _ (Ej (s.trans s3) hb) (Fh ((Keeps.same (N:=fun _=>True) s3).sq sq) (s3 _ _ hp) (fun z=>z)) ((cs.keep s3).V3 (s3 _ _ hp))
  ·cases hc
 ·cases hc
theorem UK{i:Nat}{t tk ty:TE}{f fk fy:Ev→Option (M×D)}(hk:JT K tk fk)(hy:JT K ty fy)(h:JT K t f):xP K i (vx (lZ (pX K) (gq i) tk) ty t) (rS fk fy f):=by
 intro H₀ I O Hb H σ env Ds a xs ds n R hs s sq hl cs hc q
 unfold rS at hc
 split at hc
 ·rename_i mk k y x ek ey ex
  obtain⟨Xj,hc⟩:=Bool.and_eq_true_iff.mp hc
  obtain⟨kk,Xk⟩:=Option.isSome_iff_exists.mp Xj
  unfold vJ at hc
  split at hc
  ·rename_i l el
   have hc:=bu hc
   obtain⟨j,ej,ed⟩:=Gj el
   obtain⟨p,ys,hx,hb,hp,le⟩:=(cs j _ ed).2 l rfl
   refine h H₀ O H σ env _ x.1 x.2 (R.keep s).e ex fun u H1 s1 hu=>?_
   refine⟨.ref a,hs,?_⟩
   refine hk H₀ O H1 σ env _ _ _ (R.keep (s.trans s1)).e ek fun w H2 s2 hw=>?_
   have BQ:=s1.trans s2
   refine .inr (.inl ⟨a,xs,k,.ref p,rfl,hw.int,(Keeps.same (N:=fun _=>True) BQ).sq sq,Gk (by rw[hl];exact ej) hx,?_⟩)
   refine hy H₀ O H2 σ env _ y.1 y.2 (R.keep (s.trans BQ)).e ey fun z H3 s3 hz=>?_
   obtain rfl:=lB Xk hz.weak
   have s4:=BQ.trans s3
   refine⟨p,_,rfl,.inl ⟨ys,kk,s4 _ _ hp,rfl,by omega,rfl⟩,?_⟩
   exact q _ (Ej (s.trans s4) hb) (Fh ((Keeps.same (N:=fun _=>True) s4).sq sq) (s4 _ _ hp) (fun z=>z)) ((cs.keep s4).V4 (s4 _ _ hp))
  ·cases hc
 ·cases hc
noncomputable def wu:List (Ev→Nat→List D→Bool)→Ev→Nat→List D→Bool
 |[],_,_,_=>true
 |c::r,e,n,ds=>c e n ds&&wu r e (n+1) ds
inductive pG (K:PySem.W.Frag)(i:Nat):List TS→List (Ev→Nat→List D→Bool)→Prop
 |nil:pG K i [] []
 |cons {t:TS}{c:Ev→Nat→List D→Bool}{ts:List TS}{cs:List (Ev→Nat→List D→Bool)}:xP K i t c→pG K i ts cs→pG K i (t::ts) (c::cs)
theorem Fm{i:Nat}{a:Addr}{xs:List V}{ds:List D}{tb:TS}{Ds:Ends}:∀{ts:List TS}{cs:List (Ev→Nat→List D→Bool)}{n:Nat}{Hb H:Hp},pG K i ts cs→Rel K H₀ I O Hb σ env→σ[i]?=some (some (.ref a))→aB Hb H→bh K H a xs→xs.length=ds.length→Cs Hb H xs ds n→wu cs env n ds=true→(∀H',aB Hb H'→tb Ds σ H')→ts.foldr lN tb Ds σ H
 |_,_,_,_,_,.nil,_,_,s,_,_,_,_,q=>q _ s
 |_,_,n,Hb,H,.cons h t,R,hs,s,sq,hl,cs,hc,q=>by
  obtain⟨h1,h2⟩:=Bool.and_eq_true_iff.mp hc
  exact h H₀ I O Hb H σ env _ a xs ds n R hs s sq hl cs h1 fun H' s' Xl cN=>Fm t R hs s' Xl hl cN h2 q
noncomputable def xQ(i:Nat)(f:Ev→Option (M×D))(c:Ev→Option Bool)(r:Ev→Option (M×D))(cs:List (Ev→Nat→List D→Bool))(b:Ev→Option Fl):Ev→Option Fl:=fun e=>(f e).bind fun x=>match x with
 | (.ut,.tup ds)=>(c (e.set i (some (.fr,.tup ds)))).bind fun z=>if z=true then aP r (e.set i (some (.fr,.tup ds)))else if wu cs (e.set i none) 0 ds=true∧i<e.length then b (e.set i none)else none
 |_=>none
theorem UL{i:Nat}{t tr:TE}{tc:TT}{ts:List TS}{tb:TS}{f r:Ev→Option (M×D)}{c:Ev→Option Bool}{cs:List (Ev→Nat→List D→Bool)}{b:Ev→Option Fl}(hf:JT K t f)(hc:dW K tc c)(hr:JT K tr r)(fN:pG K i ts cs)(hb:JS K tb b) :
  JS K (lN (gK t (g7 i)) (lN (vV tc (rG tr) vt) (ts.foldr lN tb))) (xQ i f c r cs b):=by
 intro H₀ I O H σ env Ds fl R e q
 obtain⟨x,ex,e⟩:=ao e
 split at e
 ·rename_i ds
  obtain⟨z,ez,e⟩:=ao e
  refine hf H₀ O H σ env _ _ _ R.e ex fun v H1 s1 h1=>?_
  have R1:Rel K H₀ I O H1 (σ.set i (some v)) (env.set i (some (.fr,.tup ds))):=(R.keep s1).set_plain rfl rfl (show Rp K _ H1 v _ from h1.bO rfl)
  refine hc H₀ O H1 _ _ _ z R1.e ez fun H2 s2=>?_
  cases z with
  |true =>
   rw[if_pos rfl]at e ⊢
   obtain⟨y,ey,e⟩:=ao e
   cases e
   have q':=q.pre (aG.same (s1.trans s2))
   exact hr H₀ O H2 _ _ _ y.1 y.2 (R1.keep s2).e ey fun w H3 s3 h3=>q' O H3 _ w ((R1.keep s2).keep s3) (aG.same s3) h3.h0
  |false =>
   rw[if_neg a6]at e ⊢
   split at e
   ·rename_i hh
    obtain⟨a,xs,mq,rfl,ed,sq,pr⟩:=h1
    cases ed
    have s:=s1.trans s2
    have hlen:i<σ.length:=by rw[←cK R.e.sl];exact hh.2
    refine Fm (Hb:=H) (n:=0) fN R.J9 (by rw[List.getElem?_set_self hlen]) s ((Keeps.same (N:=fun _=>True) s2).sq sq) (cK pr).symm ((Cs.of (fun q z=>z.1) pr).keep s2) hh.1 fun H' s'=>?_
    exact hb H₀ I O H' _ _ _ fl (R.J9.keep s') e (q.pre (aG.same s'))
   ·cases e
 ·cases e
end
end J
namespace J
open PySem PySem.Spec PyProof.Rows L2
section
variable {X:Cx}{pins:List (Addr×Obj)}{σ:L2.St}{H:Hp}{s:Shared}{a it:Addr}
theorem Fn{P:Program}{w:World}{h:Heap}{kvs:List (Key×V)}(ok:bU P w H h a (.dK kvs)):∃o es ep,h.get? a=some o∧o.ExactDict∧o.data=.dict es ep∧es.size=kvs.length∧(∀(i:Nat) kv,kvs[i]?=some kv→∃e,es[i]?=some e∧RelV (kV kv.1) e.key)∧(a==sysModules)=false:=by
 obtain⟨z,lo,vs,rv,o,es,ep,ho,ex,hd,hk,hp,hn⟩:=ok
 have e1:=hp.length
 have e2:=rv.length
 simp only[Array.length_toList]at e1
 refine⟨o,es,ep,ho,ex,hd,by omega,fun i kv e=>?_,lo⟩
 obtain⟨v,h1,h2⟩:=vi rv e
 have hi:i<es.size:=by
  have:=(bt.mp h1).1
  omega
 exact⟨es[i],by simp[hi],Fd (hp.get? (e:=es[i]) (by simp[hi]) h1).1⟩
noncomputable def BR(a:Addr)(o:Obj)(kvs:List (Key×V)):It :=
 ⟨fun i H=>H a=some (.aL o (.dK kvs))∧i<kvs.length,fun i H x H'=>H'=H∧∃kv,kvs[i]?=some kv∧x=kV kv.1,fun i H=>H a=some (.aL o (.dK kvs))∧kvs.length≤i⟩
theorem Fo{o:Obj}{kvs:List (Key×V)}{es:Array DictEntry}{ep:Nat}(I:L2.Inv X pins σ H s)(e:H a=some (.aL o (.dK kvs)))(hd:o.data=.dict es ep):iz s.heap a es ep∧es.size=kvs.length∧∀(i:Nat) kv,kvs[i]?=some kv→∃e,es[i]?=some e∧RelV (kV kv.1) e.key:=by
 obtain⟨ho,ok⟩:=(I.aA a _ e:bU X.prog X.w H s.heap a (.aL o (.dK kvs)))
 obtain⟨o',sN,sO,dE,ex,jJ,h1,h2,_⟩:=Fn ok
 rw[ho]at dE;cases dE
 rw[hd]at jJ;cases jJ
 exact⟨⟨o,ho,ex,hd⟩,h1,h2⟩
theorem MV{P:Program}{w:World}{K:PySem.W.Frag}{tg:Expr}{o:Obj}{kvs:List (Key×V)}{es:Array DictEntry}{ep:Nat}(hd:o.data=.dict es ep):Turn P w K tg (BR a o kvs) [it] it (fun i h=>h.IsKeyIter it a i es.size ep) where
 mem:=by simp
 obj:=fun i h st b hb=>by
  have e:b=it:=by simpa using hb
  subst e
  obtain⟨o,e,c,d⟩:=st
  exact⟨o,e,fun v z=>by rw[d]at z;cases z⟩
 keep:=fun i h h' st k=>st.at fun o e=>k it (by simp) o e
 item:=by
  intro X hP hw hK hc i pins s σ H E I hf st hg
  subst hP hw hK
  obtain⟨r,hz,Xm⟩:=Fo I hg.1 hd
  obtain⟨f0,f1,f2,f3,f4,f5⟩:=hf it (by simp)
  have hx:=bP hg.2
  obtain⟨e,he,h2⟩:=Xm i _ hx
  refine L0 st r he fun h' gA sb=>?_
  obtain⟨ob,e1,c1,d1⟩:=id gA
  exact⟨_,rfl,qV (s:={ s with heap:=h' }) e1 c1 d1 (by decide) ⟨_,H,I.turned (t':=s.toks) (fun b o hb e=>(sb.2 b hb).trans e) f0 f1 f3 f4 f5,h2,⟨rfl,_,hx,rfl⟩,gA,fun b hb=>(hf b hb).1⟩⟩
 done:=by
  intro X hP hw hK hc i pins s σ H E I hf st hg
  subst hP hw hK
  obtain⟨r,hz,_⟩:=Fo I hg.1 hd
  obtain⟨f0,f1,f2,f3,f4,f5⟩:=hf it (by simp)
  exact MA (I.ok.hd hc) st r (by rw[hz];exact hg.2) fun h' eb=>⟨rfl,I.turned (t':=s.toks) (fun b o hb e=>eb b o hb e) f0 f1 f3 f4 f5⟩
 self:=fun _ _ _ _ _ st h=>wpAny_pyIter_keyiter st h
noncomputable def Hr(td:TE):TI:=fun σ H R=>td σ H fun x H1=>∃a o kvs,x=.ref a∧H1 a=some (.aL o (.dK kvs))∧R (BR a o kvs) H1
theorem QL{e:Expr}{td:TE}{tg:Expr}(he:PE X e td):PI X tg e (Hr td):=by
 intro pins s σ H R I h
 refine aD (he pins s σ H _ I h) fun v s1 ⟨x,H1,I1,r1,a,o,kvs,ex,hf,q⟩=>?_
 subst ex
 obtain rfl:v=Value.ref a:=r1
 obtain⟨ho,ok⟩:=(I1.aA a _ hf:bU X.prog X.w H1 s1.heap a (.aL o (.dK kvs)))
 obtain⟨o',es,ep,dE,ex,hd,hz,_,lo⟩:=Fn ok
 rw[ho]at dE;cases dE
 refine LZ lo ⟨o,ho,ex,hd⟩ ?_
 refine⟨_,[_],_,_,H1,rfl,I1.kept (t':=s1.toks) fun b u q=>cA _ q,MV hd,⟨_,eU _ rfl,rfl,rfl⟩,fun b hb=>?_,q⟩
 have gC:b=s1.heap.objs.size:=by simpa using hb
 subst gC
 exact I1.mX (aR _) (I1.aA.fresh (aR _))
end
section
variable {K:PySem.W.Frag}{N:Addr→Prop}{H H' H₀:Hp}{I:Nat→Option Addr}{O:Addr→Prop}{σ:L2.St}{env:Ev}
noncomputable def BU:D→Option (List D)
 |.dk ks=>some (ks.map fun kv=>ck kv.1)
 |_=>none
theorem QM{m:M}(hm:dB m=true)(k:Key):Val K H₀ O HE H m (ck k) (kV k):=by
 cases m<;>first|exact Ts k|cases hm
theorem MX{m:M}{a:Addr}{o:Obj}{kvs:List (Key×V)}{ks:List (Key×D)}(hm:dB m=true)(e:H a=some (.aL o (.dK kvs)))(ha:¬O a)(r:kvs.map (·.1)=ks.map (·.1)):iI K H₀ O (BR a o kvs) H m (ks.map fun kv=>ck kv.1):=by
 have hl:kvs.length=ks.length:=by simpa using cf List.length r
 refine⟨fun O2 H2 i st hi=>⟨(st a _ e ha).1,by rw[hl];simpa using hi⟩,?_,fun O2 H2 st=>⟨(st a _ e ha).1,by rw[hl,List.length_map];exact aR _⟩⟩
 rintro O2 H2 i x H3 st hi ⟨rfl,kv,hx,rfl⟩
 refine⟨aB.refl _,ck kv.1,?_,QM hm _⟩
 have h1:(kvs.map (·.1))[i]?=some kv.1:=by rw[cG,hx];rfl
 rw[r,cG]at h1
 rw[cG]
 cases q:ks[i]? with
 |none=>rw[q]at h1;cases h1
 |some z=>rw[q]at h1;rw[←c9 h1];rfl
theorem QN{i:Nat}{g:TG}{tb:TS}{fg:M×D→Ev→Option Ev}{b:Ev→Option Fl}(hg:JG K g fg)(hb:JS K tb b):JS K (zK i (ko (Hr (gq i)) g tb)) (rn BU i fg b) :=
 QJ (fun d ds e=>by cases d<;>first|exact .inl ⟨_,rfl⟩|cases e) (fun G O H1 σ m a o u d ds hm hv e1 na dr ed on R' k=>by
  cases d<;>try (cases ed;done)
  cases u<;>try (exact dr.elim)
  cases ed
  exact⟨_,hv,a,_,_,rfl,e1,k _ _ (aB.refl _) (MX hm e1 na dr.1)⟩) hg hb
end
section
variable {K:PySem.W.Frag}{N:Addr→Prop}{H H' H₀:Hp}{I:Nat→Option Addr}{O:Addr→Prop}{σ:L2.St}{env:Ev}
theorem Fp:∀{kvs:List (Key×V)}{vs:List (Key×Value)},KV kvs vs→Vals (kvs.map (·.2)) (vs.map (·.2))
 |_,_,.nil=>.nil
 |_,_,.cons h t=>.cons h.2 (Fp t)
noncomputable def Ka(te:TE):TE:=fun σ H Q=>te σ H fun x H1=>∃a kvs,x=.ref a∧Rd H1 a (.dK kvs)∧∀l,H1 l=none→Q (.ref l) (upd H1 l (.lst (kvs.map (·.2))))
theorem UM {X:Cx}{e:Expr}{te:TE}{p' pos' apos bX:Pos} (hc:X.calm=true) (Xn:Gl X "list") (Xo:X.mg "list" = none) (he:PE X e te) (mM:attributeBase e "values" X.env (eval e X.env)=eval e X.env) (hline:(apos.endLine==bX.line)=true):PE X (.Call (.Name "list" p') [.Call (.Attribute e "values" apos) [] [] bX] [] pos') (Ka te):=by
 intro pins s σ H Q I h
 refine Call_ (oy I Xn Xo PyProof.Rows.Boot.«list» (wK ?_ rfl rfl))
 show wpAny _ _ (spliced ((false,eval (.Call (.Attribute e "values" apos) [] [] bX) X.env)::backTo pos' (starEach [] X.env))) _ _ s
 refine wN ?_
 refine wpAny_Call_method0_late mM hline (aD (he pins s σ H _ I h) fun v s1 ⟨x,H1,I1,r1,a,kvs,ex,rd,q⟩=>?_)
 subst ex
 obtain rfl:v=Value.ref a:=r1
 have ok:bU X.prog X.w H1 s1.heap a (.dK kvs):=by
  rcases rd with hf|⟨o,hf⟩
  ·exact I1.aA a _ hf
  ·exact(I1.aA a _ hf:bU X.prog X.w H1 s1.heap a (.aL o (.dK kvs))).2
 obtain⟨hz,lo,vs,rv,xM⟩:=ok
 obtain⟨o,es,ep,ho,ex,hd,r⟩:=id xM
 refine⟨"dict", "dict.values",AX,PySem.F.slot_dict_values,PySem.F.type_dict_values,⟨o,ho,ex.1⟩,fun a' e2=>by cases e2;exact⟨o,ho,ex.2.1⟩,sj rfl (PySem.evalArgs_none ?_)⟩
 refine MR lo ⟨o,ho,ex,hd⟩ ?_
 refine args_nil ?_
 have I2:L2.Inv X pins σ H1 { s1 with heap:=s1.heap.push { cls:=.type "dict_values",data:=.fields #[.ref a] } }:=I1.kept (t':=s1.toks) fun b u q=>cA _ q
 have da:(s1.heap.push { cls:=.type "dict_values",data:=.fields #[.ref a] }).DictAt (cv X.prog X.w) a vs ep:=⟨o,es,cA _ ho,ex,hd,r⟩
 refine PySem.W.kdl_call (PySem.W.kdl_values (knd:=cv X.prog X.w) (kvs:=vs) (ep:=ep)) (I1.ok.hd hc) ⟨⟨_,eU _ rfl,rfl,rfl⟩,da⟩ (by rw[←rv.length];exact hz) fun h' tk rV c' kp e rN=>?_
 refine⟨.ref _,_,I2.laid (o:=.lst (kvs.map (·.2))) kp (aR _) ?_,rfl,q _ (I2.aA.fresh (aR _))⟩
 refine(show bU X.prog X.w _ h' _ (.lst (kvs.map (·.2))) from⟨by rw[a7];exact hz,rV.toList,c',?_,by rw[Array.toArray_toList];exact e⟩)
 have e3:rV.size=vs.length:=rN.1
 have hv:rV.toList=vs.map (·.2):=by
  refine List.ext_getElem? fun j=>?_
  rw[cG]
  cases ej:vs[j]? with
  |none=>exact Jh.mpr (by rw[AQ];have:=Jh.mp ej;omega)
  |some y =>
   have hj:j<rV.size:=by have:=(bt.mp ej).1;omega
   obtain⟨k,hk⟩:=rN.2 j rV[j] (by simp[hj])
   rw[ej]at hk
   rw[A2,Array.getElem?_eq_getElem hj]
   cases hk;rfl
 rw[hv]
 exact Fp rv
noncomputable def nV(f:Ev→Option (M×D)):Ev→Option (M×D):=fun e=>(f e).bind fun x=>match x.2 with
 |.dk ks=>dO x.1 (ks.map (·.2))
 |_=>none
theorem UN{te:TE}{f:Ev→Option (M×D)}(h:JT K te f):JT K (Ka te) (nV f):=by
 intro H₀ O H σ env Q m d R e q
 obtain⟨⟨mx,dx⟩,ex,e⟩:=ao e
 cases dx<;>try (cases e;done)
 refine h H₀ O H σ env _ mx _ R ex fun v H1 s1 h1=>?_
 have R1:=R.keep s1
 obtain⟨a,kvs,rfl,rd,en⟩:=h1.h0.dk
 exact⟨a,kvs,rfl,rd,fun l hl=>q _ _ (s1.trans (cu hl)) ((qG R1.od R1.hd hl en.2 e).hb fun a z=>s1.free z)⟩
noncomputable abbrev Fj:=Ev→Option (M×D)
noncomputable def wx:List (Fj×Fj)→Ev→Option (List (Key×D))
 |[],_=>some []
 | (fk,fv)::r,e=>(fk e).bind fun y=>(keyOf y.2).bind fun k=>(fv e).bind fun x=>if x.2.bG=true then (wx r e).bind fun l=>some ((k,x.2)::l)else none
noncomputable def qR(l:List (Key×D)):List (Key×D):=l.foldl (fun acc kv=>putD acc kv.1 kv.2) []
noncomputable def rA(fs:List (Fj×Fj)):Ev→Option (M×D):=fun e=>(wx fs e).bind fun l=>if l.length≤15 then some (.un,.dk (qR l))else none
inductive qf (K:PySem.W.Frag):List (TE×TE)→List (Fj×Fj)→Prop
 |nil:qf K [] []
 |cons {tk tv:TE}{fk fv:Fj}{ts:List (TE×TE)}{fs:List (Fj×Fj)}:JT K tk fk→JT K tv fv→qf K ts fs→qf K ((tk,tv)::ts) ((fk,fv)::fs)
theorem Fq{N:Addr→Prop}:∀{ts:List (TE×TE)}{fs:List (Fj×Fj)}{H:Hp}{l:List (Key×D)}{Q:List (V×V)→Hp→Prop},qf K ts fs→cZ K H₀ O H σ env→wx fs env=some l→(∀(kvs:List (Key×V)) H',aB H H'→Ent K N H' kvs l→Q (kvs.map fun kv=>(kV kv.1,kv.2)) H')→u6 ts σ H Q
 |_,_,H,l,Q,.nil,R,e,q=>by
  cases e
  exact q [] H (aB.refl H) ⟨rfl,.nil⟩
 |_,_,H,l,Q,.cons (fs:=fs) hk hv hr,R,e,q=>by
  obtain⟨y,ey,e⟩:=ao e
  obtain⟨k,ek,e⟩:=ao e
  obtain⟨x,ex,e⟩:=ao e
  split at e
  ·rename_i hi
   obtain⟨r,er,e⟩:=ao e
   cases e
   refine hk H₀ O H σ env _ y.1 y.2 R ey fun w H1 s1 h1=>?_
   refine hv H₀ O H1 σ env _ x.1 x.2 (R.keep s1) ex fun u H2 s2 h2=>?_
   obtain rfl:=lB ek h1.weak
   refine Fq (N:=N) hr ((R.keep s1).keep s2) er fun kvs H3 s3 en=>?_
   exact q ((k,u)::kvs) H3 ((s1.trans s2).trans s3) ⟨by rw[bE,bE,en.1],.cons ((h2.weak.im hi).keep (.same s3)) en.2⟩
  ·cases e
theorem DS{N:Addr→Prop}:∀{more:List (Key×V)}{l:List (Key×D)}{kvs:List (Key×V)}{ks:List (Key×D)},Ent K N H more l→Ent K N H kvs ks→Ent K N H (jf kvs more) (l.foldl (fun acc kv=>putD acc kv.1 kv.2) ks)
  |[],l,kvs,ks,e,h=>by
    cases l with
    |nil=>exact h
    |cons _ _=>exact absurd e.len (by simp)
  |p::more,l,kvs,ks,e,h=>by
    cases l with
    |nil=>exact absurd e.len (by simp)
    |cons z l =>
      obtain⟨e1,r,e2⟩:=e.cons_inv
      have:=h.put (k:=p.1) r
      rw[show jf kvs (p::more)=jf (putK kvs p.1 p.2) more from rfl,List.foldl_cons,←e1]
      exact DS e2 this
theorem QO{ts:List (TE×TE)}{fs:List (Fj×Fj)}(h:qf K ts fs):JT K (G4 ts) (rA fs):=by
 intro H₀ O H σ env Q m d R e q
 obtain⟨l,el,e⟩:=ao e
 split at e
 ·rename_i hl
  cases e
  intro p hp
  have s0:aB H (upd H p (.dK [])):=cu hp
  refine Fq (N:=fun _=>False) h (R.keep s0) el fun kvs H2 s2 en=>⟨s2 _ _ bf,kvs,rfl,by rw[en.len];exact hl,?_⟩
  have s3:aB H (upd H2 p (.dK (jf [] kvs))):=fun a o ha=>by
   rw[az (eC ha hp)];exact s2 _ _ (s0 _ _ ha)
  refine q _ _ s3 ⟨p,rfl,hp,lC R.hd hp,ip R.od hp,_,bf,?_⟩
  have kp:Keeps (fun _=>False) H2 (upd H2 p (.dK (jf [] kvs))):=fun a o ha z=>by
   have gk:a≠p:=fun w=>by
    subst w
    rw[s2 _ _ bf]at ha;cases ha
    exact z.elim id id
   rw[az gk];exact ha
  have em:=DS (kvs:=[]) (ks:=[]) en ⟨rfl,.nil⟩
  exact⟨em.1,(em.2.keep kp).wk fun _ z _=>z.elim⟩
 ·cases e
noncomputable def vK(n:Int)(fs:Ev→Option (List (M×D))):Ev→Option (List (M×D)):=fun e=>(fs e).bind fun ak=>some (ak++[(.fr,.int n)])
theorem Oy{k:Nat}{n:Int}{F:List D→Option (M×D)}{ta:TA}{fs:Ev→Option (List (M×D))}{E:XK}(ha:gQ K ta fs)(hl:∀e ak,fs e=some ak→ak.length+1=k):JT K (j8 (k7 K k F) [.int n] E ta) (aJ F (vK n fs)):=by
 intro H₀ O H σ env Q m d R h q
 obtain⟨YR,e',h⟩:=ao h
 obtain⟨ak,e,em⟩:=ao e'
 cases em
 refine ha H₀ O H σ env _ ak R e fun vs H1 s1 h1=>?_
 have R1:=R.keep s1
 refine⟨by rw[cg,←cK h1];exact hl _ _ e,_,m,d,?_,h,fun v H2 s2 h2=>?_⟩
 ·rw[dh]
  exact(h1.gf (fun md hm v hv=>hv.weak)).app (.cons (.int n) .nil)
 ·exact q v H2 (s1.trans s2) ((yR R1.od R1.hd h2).hb fun a z=>s1.free z)
end
def Lq(n:Nat)(p:Array Nat):Prop:=0<n∧p.size=n∧∀x∈p,x<n
theorem Lq.at{n:Nat}{p:Array Nat}(h:Lq n p)(i:Nat):p.getD i 0<n:=by
 by_cases hi:i<p.size
 ·rw[show p.getD i 0=p[i] by simp[hi]]
  exact h.2.2 _ (Array.getElem_mem hi)
 ·rw[show p.getD i 0=0 by simp[hi]]
  exact h.1
theorem Lq.perm{n:Nat}{p q:Array Nat}(h:Lq n p)(e:q.Perm p):Lq n q:=⟨h.1,e.size_eq.trans h.2.1,fun x hx=>h.2.2 x (e.mem_iff.mp hx)⟩
section
variable {prog:Program}{w:World}{A:Around}{E:Value→Shared→Prop}{s:Shared}
theorem range_getD:∀(vs:List Value),(List.range vs.length).map (vs.getD · Value.none)=vs:=fun vs=>by
 refine List.ext_getElem (by simp) fun i h1 h2=>?_
 simp[h2]
end
section
variable {K:PySem.W.Frag}{N:Addr→Prop}{H H' H₀:Hp}{I:Nat→Option Addr}{O:Addr→Prop}{σ:L2.St}{env:Ev}
noncomputable def kP(p:Int×Int):List Key:=[.inl p.1,.inl p.2]
end
end J
set_option genInjectivity false
set_option genSizeOf false
namespace C
open PySem PySem.Spec L2 J
inductive Bo where|add|sub|mul|div|mod|pow|band|bor|bxor
inductive Co where|lt|gt|eq|ne|tX|tY|tZ|xR|qg|jS|xS
inductive Uo where|neg
inductive Fb where|int|dict|list|len|abs|iY|all|any
inductive Ms where|join
noncomputable def Bo.op:Bo→Operator
 |.add=>.Add
 |.sub=>.Sub
 |.mul=>.Mult
 |.div=>.FloorDiv
 |.mod=>.Mod
 |.pow=>.Pow
 |.band=>.BitAnd
 |.bor=>.BitOr
 |.bxor=>.BitXor
noncomputable def Bo.g:Bo→M×D→M×D→Option (M×D)
 |.add=>aV
 |.sub=>fj
 |.mul=>c6
 |.div=>bC
 |.mod=>aZ
 |.pow=>m3
 |.band=>mP
 |.bor=>m7
 |.bxor=>mQ
theorem Bo.ok{K:PySem.W.Frag}:∀o:Bo,∃r,(∀Z:Cx,Z.K=K→bz Z (binaryOp o.op) r)∧JR K r o.g
 |.add=>⟨_,fun _ h=>Qh h,Qi⟩
 |.sub=>⟨_,fun _ _=>Rx,Sh⟩
 |.mul=>⟨_,fun _ _=>Ry,Si⟩
 |.div=>⟨_,fun _ _=>N9,P7⟩
 |.mod=>⟨_,fun _ _=>Rz,Sj⟩
 |.pow=>⟨_,fun _ _=>RA,Sl⟩
 |.band=>⟨_,fun _ _=>RB,P5⟩
 |.bor=>⟨_,fun _ _=>Uh,SW⟩
 |.bxor=>⟨_,fun _ _=>RC,P6⟩
noncomputable def Co.op:Co→CmpOp
 |.lt=>.Lt
 |.gt=>.Gt
 |.eq=>.Eq
 |.ne=>.NotEq
 |.tX=>.Is
 |.tY=>.IsNot
 |.tZ=>.In
 |.xR=>.Eq
 |.qg=>.NotEq
 |.jS=>.Eq
 |.xS=>.NotEq
noncomputable def Co.g:Co→M×D→M×D→Option (M×D)
 |.lt=>dX
 |.gt=>dN
 |.eq=>aQ
 |.ne=>b8
 |.tX=>jo
 |.tY=>kf
 |.tZ=>m8 false
 |.xR=>lQ
 |.qg=>fu
 |.jS=>iL false
 |.xS=>iL true
theorem Co.ok{K:PySem.W.Frag}:∀o:Co,∃r,(∀Z:Cx,Z.K=K→Z.A.units+64<cLine→bz Z (compareOp o.op) r)∧JR K r o.g
 |.lt=>⟨_,fun _ _ _=>Uk,Uu⟩
 |.gt=>⟨_,fun _ _ _=>Ul,Uv⟩
 |.eq=>⟨_,fun _ _ _=>Ui,Uw⟩
 |.ne=>⟨_,fun _ _ _=>Uj,Ux⟩
 |.tX=>⟨_,fun _ _ _=>RG,Sn⟩
 |.tY=>⟨_,fun _ _ _=>Pg,PF⟩
 |.tZ=>⟨_,fun _ h _=>L1 h,UD⟩
 |.xR=>⟨_,fun _ h u=>Ta h u,S8⟩
 |.qg=>⟨_,fun _ h u=>Tb h u,S9⟩
 |.jS=>⟨_,fun _ h u=>QF h u,Gg⟩
 |.xS=>⟨_,fun _ h u=>QG h u,Gg⟩
noncomputable def Uo.op:Uo→UnaryOp
 |.neg=>.USub
noncomputable def Uo.g:Uo→M×D→Option (M×D)
 |.neg=>eQ
theorem Uo.ok{K:PySem.W.Frag}:∀o:Uo,∃r,(∀Z:Cx,xj Z (unaryOp o.op) r)∧JU K r o.g
 |.neg=>⟨_,fun _=>RD,SV⟩
noncomputable def Fb.nm:Fb→String
 |.int => "int"
 |.dict => "dict"
 |.list => "list"
 |.len => "len"
 |.abs => "abs"
 |.iY => "isinstance"
 |.all => "all"
 |.any => "any"
noncomputable def Fb.g:Fb→List (M×D)→Option (M×D)
 |.int=>c7
 |.dict=>gG
 |.list=>oQ
 |.len=>bJ
 |.abs=>rP
 |.iY=>eR
 |.all=>nh
 |.any=>ni
noncomputable def Ms.nm:Ms→String
 |.join => "join"
noncomputable def Ms.g:Ms→M×D→List (M×D)→Option (M×D)
 |.join=>oU
inductive Gv where|s (x:Str)|t (l:List Str)
noncomputable def Gv.d:Gv→D
 |.s x=>.str x
 |.t l=>.tup (l.map .str)
mutual
inductive X where|v (i:Nat)|ki (i:Int)|ks (s:Str)|kb (b:Bool)|kn|ty (n:String)|bo (o:Bo) (a b:X)|co (o:Co) (a b:X)|uo (o:Uo) (a:X)|an (a b:X)|or (a b:X)|nt (a:X)|ie (t:T) (a b:X)|tu (l:A)|li (l:A)|dK|ix (a b:X)|dg (a b:X)|g2 (d k x:X)|sl (a:X) (lo hi:P)|ms (m:Ms) (o:X) (l:A)|fb (f:Fb) (l:A)|ca (f:Nat) (l:A)|cp (i:I) (ix:List Nat) (t:T) (e:X)|dD (l:Pp)|lv (a:X)|cd (f:Nat) (l:A) (n:Int)
inductive Pp where|n|c (a b:X) (l:Pp)
inductive A where|n|c (a:X) (l:A)
inductive T where|b (x:X)|c (o:Co) (a b:X)|d (n:Bool) (a b:X)|t (n:Bool) (a b:X)|h (o p:Co) (a b c:X)|an (a b:T)|or (a b:T)|nt (a:T)|y
inductive P where|n|s (x:X)
inductive I where|r1 (l:A)|en (l:A)|s (x:X)|t (x:X)|l (x:X)
end
mutual
inductive G where|n (i:Nat)|t (k:Nat) (l:Gs)|l (k:Nat) (l:Gs)
inductive Gs where|n|c (g:G) (l:Gs)
end
inductive L where|rt (x:X)|st (i:Nat) (x:X)|sc (j:Nat) (i:I) (ix:List Nat) (q:T) (e:X)|as (g:G) (x:X)|si (k:Nat) (i x:X)|dp (k:Nat) (i x:X)|ap (k:Nat) (x:X)|na (k:Nat) (i x:X)|ne (i:Nat) (it:I)|rT (l:A)|iD (f:Nat) (sl:List Nat) (l:A)|iS (i f:Nat) (sl:List Nat) (l:A)
inductive Ch where|a (k x:X)|d (k y x:X)
mutual
inductive S where|l (x:L)|ie (t:T) (a b:B)|fo (i:I) (g:G) (b:B)|fi (k:Nat) (g:G) (b:B)|fk (k:Nat) (g:G) (b:B)|wh (t:T) (b:B)|fz (k:Nat) (s:S)
inductive B where|n|o (s:S)|c (s:S) (b:B)|u (i:Nat) (x:X) (q:T) (r:X) (cs:List Ch) (b:B)
end
inductive FT where
 |p (F:List D→Option (M×D))|io (l:List Nat) (F:List D→Option (M×D×List D))|oo (F:List D→Option D)
noncomputable def FT.f:Option FT→List D→Option (M×D)
 |some (.p F)=>F
 |_=>fun _=>none
noncomputable def FT.l:Option FT→List Nat
 |some (.io l _)=>l
 |_=>[]
noncomputable def FT.o:Option FT→List D→Option (M×D×List D)
 |some (.io _ F)=>F
 |_=>fun _=>none
noncomputable def FT.q:Option FT→List D→Option D
 |some (.oo F)=>F
 |_=>fun _=>none
mutual
noncomputable def eX(t:List FT):X→Ev→Option (M×D)
 |.v i=>jV i
 |.ki i=>jC (.int i)
 |.ks s=>jC (.str s)
 |.kb b=>jC (.bl b)
 |.kn=>jC .non
 |.ty n=>jC (.ty n)
 |.bo o a b=>ae o.g (eX t a) (eX t b)
 |.co o a b=>ae o.g (eX t a) (eX t b)
 |.uo o a=>cQ o.g (eX t a)
 |.an a b=>ky (eX t a) (eX t b)
 |.or a b=>xD (eX t a) (eX t b)
 |.nt a=>wa (eX t a)
 |.ie c a b=>ph (eT t c) (eX t a) (eX t b)
 |.tu l=>b9 (eA t l)
 |.li l=>bI (eA t l)
 |.dK=>qQ
 |.ix a b=>ae aj (eX t a) (eX t b)
 |.dg a b=>iB (eX t a) (eX t b)
 |.g2 d k x=>j6 (eX t d) (eX t k) (eX t x)
 |.sl a lo hi=>gj eY (eX t a) (eP t lo) (eP t hi)
 |.ms m o l=>xH tM m.g (eX t o) (eA t l)
 |.fb f l=>aF f.g (eA t l)
 |.ca f l=>aJ (FT.f t[f]?) (eA t l)
 |.cp i ix c e=>gF (eI t i) ix (eT t c) (eX t e)
 |.dD l=>rA (BV t l)
 |.lv a=>nV (eX t a)
 |.cd f l n=>aJ (FT.f t[f]?) (vK n (eA t l))
noncomputable def BV(t:List FT):Pp→List (Fj×Fj)
 |.n=>[]
 |.c a b l=>(eX t a,eX t b)::BV t l
noncomputable def eA(t:List FT):A→Ev→Option (List (M×D))
 |.n=>ah
 |.c a l=>ag (eX t a) (eA t l)
noncomputable def eT(t:List FT):T→Ev→Option Bool
 |.b x=>jB (eX t x)
 |.c o a b=>jB (ae o.g (eX t a) (eX t b))
 |.d n a b=>jB (Ah n (eX t a) (eX t b))
 |.t n a b=>jB (Am n (eX t a) (eX t b))
 |.h o p a b c=>jB (F0 o.g p.g (eX t a) (eX t b) (eX t c))
 |.an a b=>bR (eT t a) (eT t b)
 |.or a b=>cE (eT t a) (eT t b)
 |.nt a=>fm (eT t a)
 |.y=>ft
noncomputable def eP(t:List FT):P→Ev→Option (Option Int)
 |.n=>gu
 |.s x=>fF (eX t x)
noncomputable def eI(t:List FT):I→Ev→Option (M×List D)
 |.r1 l=>iJ (eA t l)
 |.en l=>nS (eA t l)
 |.s x=>J2 (eX t x)
 |.t x=>xF (eX t x)
 |.l x=>gn (eX t x)
end
mutual
noncomputable def eG:G→M×D→Ev→Option Ev
 |.n i=>gN i
 |.t k l=>gT k (xT l)
 |.l k l=>gL k (xT l)
noncomputable def xT:Gs→M→List D→Ev→Option Ev
 |.n=>fG
 |.c g l=>b7 (eG g) (xT l)
end
noncomputable def pH:A→List (Nat×Nat)
 |.n=>[]
 |.c (.v i) l=>(0,i)::xJ (pH l)
 |.c _ l=>xJ (pH l)
noncomputable def eL(t:List FT):L→Ev→Option Fl
 |.rt x=>aP (eX t x)
 |.st i x=>aH i (eX t x)
 |.sc j i ix q e=>aH j (eX t (.cp i ix q e))
 |.as g x=>wd (eG g) (eX t x)
 |.si k i x=>oE k (eX t i) (eX t x)
 |.dp k i x=>fH k (eX t i) (eX t x)
 |.ap k x=>bM k (eX t x)
 |.na k i x=>Hn k (eX t i) (eX t x)
 |.ne i it=>Hm i (eI t it)
 |.rT l=>oV (eA t l)
 |.iD f sl l=>i9 (FT.l t[f]?) sl (pH l) (FT.o t[f]?) (eA t l)
 |.iS i f sl l=>qP i (FT.l t[f]?) sl (pH l) (FT.o t[f]?) (eA t l)
noncomputable def BW(t:List FT):Ch→Ev→Nat→List D→Bool
 |.a k x=>nu (eX t k) (eX t x)
 |.d k y x=>rS (eX t k) (eX t y) (eX t x)
mutual
noncomputable def eS(t:List FT):S→Ev→Option Fl
 |.l x=>eL t x
 |.ie c a b=>aN (eT t c) (eB t a) (eB t b)
 |.fo i g b=>fq (eI t i) (eG g) (eB t b)
 |.fi k g b=>vH k (eG g) (eB t b)
 |.fk k g b=>rn BU k (eG g) (eB t b)
 |.wh c b=>mK (eT t c) (eB t b)
 |.fz k s=>jt k (eS t s)
noncomputable def eB(t:List FT):B→Ev→Option Fl
 |.n=>aY
 |.o s=>eS t s
 |.c s b=>av (eS t s) (eB t b)
 |.u i x q r cs b=>xQ i (eX t x) (eT t q) (eX t r) (cs.map (BW t)) (eB t b)
end
end C
set_option genInjectivity true
set_option genSizeOf true
namespace C
open PySem PySem.Spec L2 J
noncomputable def du:Expr→Bool
 |.Starred ..=>false
 |_=>true
noncomputable def mz:Expr→Bool
 |.Slice ..=>false
 |_=>true
noncomputable def ua:Expr→Bool
 |.Name ..=>true
 |.Call ..=>true
 |.Subscript ..=>true
 |_=>false
noncomputable def lj:Expr→Bool
 |.Name ..=>true
 |.Constant ..=>true
 |.Subscript ..=>true
 |.Call _ (_::_) _ _=>true
 |_=>false
noncomputable def iM:Expr→Bool
 |.Set ..=>false
 |_=>true
noncomputable def lJ:Expr→Bool
 |.ListComp ..=>false
 |.SetComp ..=>false
 |.DictComp ..=>false
 |_=>true
noncomputable def vL:Expr→Bool
 |.Tuple ..=>true
 |_=>false
theorem cI{e:Expr}(h:du e=true){es:List Expr}{env:Env}:starEach (e::es) env=(false,eval e env)::starEach es env:=by
 cases e<;>first|rfl|cases h
theorem vM{i:Expr}(h:mz i=true):EJ i:=by
 intro o v;cases i<;>first|rfl|cases h
theorem QP{i:Expr}(h:mz i=true):zW i:=by
 intro o v;cases i<;>first|rfl|cases h
theorem Tw{i o:Expr}{pos:Pos}{env:Env}(h:mz i=true)(v:Value):assign (Expr.Subscript o i pos) env v=(do
  let ov ←holding [v] (eval o env)
  let iv ←holding [v,ov] (eval i env)
  standAt pos
  holding [v,ov,iv] (setItem ov iv v)
  PySem.release [v,ov,iv] []):=by
 cases i<;>first|rfl|cases h
theorem Tx{a:Expr}{env:Env}(h:ua a=true)(whole:Sem Value):PySem.isTrue a env whole=(do
  let v ←whole
  standAt (Expr.pos a)
  holding [v] (truthy v)):=by
 cases a<;>first|rfl|cases h
theorem oI{o:Expr}{m:Str}{env:Env}{w:Sem Value}(h:lj o=true):attributeBase o m env w=w:=by
 cases o<;>first|rfl | (cases h;done)|skip
 rename_i f l kw p
 cases l with
 |nil=>cases h
 |cons a l=>cases f<;>rfl
theorem ou{op:CmpOp}{e:Expr}(h:iM e=true):behindInMarks op e=false:=by
 cases e<;>first|rfl|cases h
theorem jZ{e:Expr}{env:Env}(h:iM e=true)(x:Value):foldedSetIterable e env x=pure x:=by
 cases e<;>first|rfl|cases h
noncomputable def BX(sc:Scope)(x:Str):Bool:=match sc.names.lookup x with
 |some .local=>true
 |some .cell=>true
 |some .free=>true
 |_=>false
theorem Gm{sc:Scope}{x:Str}(h:BX sc x=true):sH sc x:=by
 unfold BX at h;unfold sH
 split at h<;>first|exact absurd h a6|simp_all
noncomputable def gl(sc:Scope)(x:Str):Bool:=match sc.names.lookup x with
 |some .globalImplicit=>true
 |_=>false
theorem UO{sc:Scope}{x:Str}(h:gl sc x=true):sc.names.lookup x=some .globalImplicit:=by
 unfold gl at h
 split at h<;>first|exact absurd h a6|assumption
noncomputable def rl(sc au:Scope):Scope :=
  { kind:=au.kind,names:=au.names.map (fun(n,k)=>if (k==NameKind.free&&sc.kind==ScopeKind.function&&sc.names.lookup n==some NameKind.cell)=true then (n,NameKind.cell)else (n,k)),
    isGenerator:=au.isGenerator,isCoroutine:=au.isCoroutine,more:=au.more }
noncomputable def BZ(N N':List Str)(sc au:Scope)(x:Str)(ix:List Nat):Bool :=
 decide (au.kind=.function∧(∀y∈au.names,y.2≠.cell)∧(∀y∈au.names,y.2=.local→au.names.lookup y.1=some .local)∧au.names.lookup x=some .local ∧
  (∀y∈au.names,y.2=.free→sc.names.lookup y.1=some .cell)∧N'.Nodup∧N'[0]?=some x∧N'.length=ix.length+1 ∧
  (∀p∈ix.zip N'.tail,N[p.1]?=some p.2∧sc.names.lookup p.2=some .cell∧au.names.lookup p.2=some .free))
theorem zo{N N':List Str}{sc au:Scope}{x:Str}{ix:List Nat}(h:BZ N N' sc au x ix=true):j5 N N' sc au x ix:=by
 obtain⟨h1,h2,h3,h4,h5,h6,h7,h8,h9⟩:=bu h
 exact⟨h1,h2,h3,h4,h5,h6,h7,h8,h9⟩
structure Fi where
 nm:Str
 ar:Nat
 lv:Nat
 io:Option (List Nat):=none
 df:Option Int:=none
noncomputable def Gv.is:Gv→Gv→Bool
 |.s x,.s y=>decide (x=y)
 |.t x,.t y=>decide (x=y)
 |_,_=>false
structure Cf where
 bs:List String
 gs:List (Str×Gv)
 fs:List Fi
noncomputable def ns(N:List Str)(x:Str)(ix:List Nat):List Str:=x::ix.map fun i=>(N[i]?).getD ""
noncomputable def tys:List String:=["bool", "int", "str", "tuple", "list", "dict"]
noncomputable def nin(n:Bool):CmpOp:=if n then .NotIn else .In
noncomputable def on{α:Type}(o:Option α)(f:α→Bool):Bool:=match o with
 |some a=>f a
 |none=>false
theorem ax{α:Type}{o:Option α}{f:α→Bool}(h:on o f=true):∃a,o=some a∧f a=true:=by
 cases o with
 |none=>cases h
 |some a=>exact⟨a,rfl,h⟩
noncomputable def qh:Expr→Option Str
 |.Name x _=>some x
 |_=>none
noncomputable def eK:Expr→Option Const
 |.Constant c _ _=>some c
 |_=>none
noncomputable def Kc:Const→Option Int
 |.int i=>some i
 |_=>none
noncomputable def Kd:Const→Option Str
 |.str i=>some i
 |_=>none
noncomputable def Ke:Const→Option Bool
 |.bool i=>some i
 |_=>none
noncomputable def Kf:Const→Bool
 |.none=>true
 |_=>false
noncomputable def Kg:Expr→Option (Expr×Operator×Expr)
 |.BinOp l op r _=>some (l,op,r)
 |_=>none
noncomputable def xU:Expr→Option (UnaryOp×Expr)
 |.UnaryOp op e _=>some (op,e)
 |_=>none
noncomputable def B1:Expr→Option (Expr×List CmpOp×List Expr)
 |.Compare l ops rs _=>some (l,ops,rs)
 |_=>none
noncomputable def l1{α:Type}:List α→Option α
 |[a]=>some a
 |_=>none
noncomputable def l2{α:Type}:List α→Option (α×α)
 |[a,b]=>some (a,b)
 |_=>none
noncomputable def jT{α:Type}:List α→Option (α×List α)
 |a::l=>some (a,l)
 |_=>none
noncomputable def ub(e:Expr):Option (Expr×CmpOp×Expr):=(B1 e).bind fun q=>(l1 q.2.1).bind fun op=>(l1 q.2.2).map fun r=>(q.1,op,r)
noncomputable def Kh(e:Expr):Option (Expr×CmpOp×CmpOp×Expr×Expr):=(B1 e).bind fun q=>(l2 q.2.1).bind fun op=>(l2 q.2.2).map fun r=>(q.1,op.1,op.2,r.1,r.2)
noncomputable def Ki:Expr→Option (BoolOp×List Expr×Pos)
 |.BoolOp op vs pos=>some (op,vs,pos)
 |_=>none
noncomputable def rW(o:BoolOp)(e:Expr):Option (Expr×Expr):=(Ki e).bind fun q=>if q.1=o then (jT q.2.1).bind fun a=>(jT a.2).map fun b=>(a.1,match b.2 with
 |[]=>b.1
 |_=>.BoolOp o (b.1::b.2) q.2.2)else none
noncomputable def Kj:Expr→Option (Expr×Expr×Expr)
 |.IfExp e l r _=>some (e,l,r)
 |_=>none
noncomputable def uc:Expr→Option (List Expr)
 |.Tuple es _ _=>some es
 |_=>none
noncomputable def Kk:Expr→Option (List Expr)
 |.List es _=>some es
 |_=>none
noncomputable def B2:Expr→Option (List (Option Expr)×List Expr)
 |.Dict ks vs _=>some (ks,vs)
 |_=>none
noncomputable def ll:Expr→Option (Expr×Expr)
 |.Subscript l r _=>some (l,r)
 |_=>none
noncomputable def Kl:Expr→Option (Option Expr×Option Expr)
 |.Slice lo hi none _=>some (lo,hi)
 |_=>none
noncomputable def B3:Expr→Option (Expr×List Expr×List Keyword×Pos)
 |.Call f as kw cp=>some (f,as,kw,cp)
 |_=>none
noncomputable def Km:Expr→Option (Expr×Str×Pos)
 |.Attribute o m ap=>some (o,m,ap)
 |_=>none
noncomputable def eM(nm:String)(e:Expr):Option (Expr×List Expr):=(B3 e).bind fun q=>(Km q.1).bind fun a=>if a.2.1=Str.ofString nm∧q.2.2.1.isEmpty=true∧lj a.1=true∧(a.2.2.endLine==q.2.2.2.line)=true∧q.2.1.all du=true then some (a.1,q.2.1)else none
noncomputable def eN(e:Expr):Option (Str×List Expr):=(B3 e).bind fun q=>(qh q.1).bind fun x=>if q.2.2.1.isEmpty=true∧q.2.1.all du=true then some (x,q.2.1)else none
noncomputable def wz:Expr→Option (Expr×Str×Pos×Expr×List Expr×Scope×Pos)
 |.ListComp el [⟨.Name z pz,it,ifs,0⟩] au ep=>some (el,z,pz,it,ifs,au,ep)
 |_=>none
theorem iu{α β:Type}{o:Option α}{f:α→Option β}{b:β}(h:o.bind f=some b):∃a,o=some a∧f a=some b:=by
 cases o with
 |none=>cases h
 |some a=>exact⟨a,rfl,h⟩
theorem vj{α β:Type}{o:Option α}{f:α→β}{b:β}(h:o.map f=some b):∃a,o=some a∧f a=b:=by
 cases o with
 |none=>cases h
 |some a=>exact⟨a,rfl,by simpa using h⟩
theorem oJ{e:Expr}{x:Str}(h:qh e=some x):∃p,e=.Name x p:=by
 cases e<;>cases h;exact⟨_,rfl⟩
theorem vN{e:Expr}{k:Const}(h:eK e=some k):∃j p,e=.Constant k j p:=by
 cases e<;>cases h;exact⟨_,_,rfl⟩
theorem UQ{k:Const}{i:Int}(h:Kc k=some i):k=.int i:=by
 cases k<;>cases h;rfl
theorem UR{k:Const}{i:Str}(h:Kd k=some i):k=.str i:=by
 cases k<;>cases h;rfl
theorem UU{k:Const}{i:Bool}(h:Ke k=some i):k=.bool i:=by
 cases k<;>cases h;rfl
theorem UW{k:Const}(h:Kf k=true):k=.none:=by
 cases k<;>first|rfl|exact absurd h a6
theorem Tz{e l r:Expr}{op:Operator}(h:Kg e=some (l,op,r)):∃p,e=.BinOp l op r p:=by
 cases e<;>cases h;exact⟨_,rfl⟩
theorem zp{e a:Expr}{op:UnaryOp}(h:xU e=some (op,a)):∃p,e=.UnaryOp op a p:=by
 cases e<;>cases h;exact⟨_,rfl⟩
theorem iC{α:Type}{l:List α}{a:α}(h:l1 l=some a):l=[a]:=by
 cases l with
 |nil=>cases h
 |cons b l=>cases l<;>cases h;rfl
theorem zL{α:Type}{l:List α}{a:α×α}(h:l2 l=some a):l=[a.1,a.2]:=by
 cases l with
 |nil=>cases h
 |cons b l =>
  cases l with
  |nil=>cases h
  |cons d l=>cases l<;>cases h;rfl
theorem iw{α:Type}{l:List α}{a:α×List α}(h:jT l=some a):l=a.1::a.2:=by
 cases l<;>cases h;rfl
theorem Gn{e:Expr}{q:Expr×List CmpOp×List Expr}(h:B1 e=some q):∃p,e=.Compare q.1 q.2.1 q.2.2 p:=by
 cases e<;>cases h;exact⟨_,rfl⟩
theorem vk{e l r:Expr}{op:CmpOp}(h:ub e=some (l,op,r)):∃p,e=.Compare l [op] [r] p:=by
 obtain⟨q,h1,h⟩:=iu h
 obtain⟨a,h2,h⟩:=iu h
 obtain⟨b,h3,h⟩:=vj h
 cases h
 obtain⟨p,rfl⟩:=Gn h1
 exact⟨p,by rw[iC h2,iC h3]⟩
theorem TB{e l m r:Expr}{op op':CmpOp}(h:Kh e=some (l,op,op',m,r)):∃p,e=.Compare l [op,op'] [m,r] p:=by
 obtain⟨q,h1,h⟩:=iu h
 obtain⟨a,h2,h⟩:=iu h
 obtain⟨b,h3,h⟩:=vj h
 cases h
 obtain⟨p,rfl⟩:=Gn h1
 exact⟨p,by rw[zL h2,zL h3]⟩
theorem TC{e:Expr}{q:BoolOp×List Expr×Pos}(h:Ki e=some q):e=.BoolOp q.1 q.2.1 q.2.2:=by
 cases e<;>cases h;rfl
theorem uS{o:BoolOp}{e a b:Expr}(h:rW o e=some (a,b)):∃m rest pos,e=.BoolOp o (a::m::rest) pos∧((rest=[]∧b=m)∨b=.BoolOp o (m::rest) pos):=by
 obtain⟨q,h1,g⟩:=iu h
 have e0:=TC h1
 by_cases e:q.1=o
 ·rw[if_pos e]at g
  obtain⟨x,h2,g⟩:=iu g
  obtain⟨y,h3,g⟩:=vj g
  have e2:q.2.1=x.1::y.1::y.2:=by rw[iw h2,iw h3]
  have ea:x.1=a:=cf Prod.fst g
  have eb:=cf Prod.snd g
  refine⟨y.1,y.2,q.2.2,by rw[e0,e2,e,ea],?_⟩
  cases hy:y.2 with
  |nil=>rw[hy]at eb;exact .inl ⟨rfl,eb.symm⟩
  |cons z zs=>rw[hy]at eb;exact .inr eb.symm
 ·rw[if_neg e]at g;cases g
theorem TF{e a b d:Expr}(h:Kj e=some (a,b,d)):∃p,e=.IfExp a b d p:=by
 cases e<;>cases h;exact⟨_,rfl⟩
theorem vm{e:Expr}{es:List Expr}(h:uc e=some es):∃k p,e=.Tuple es k p:=by
 cases e<;>cases h;exact⟨_,_,rfl⟩
theorem TH{e:Expr}{es:List Expr}(h:Kk e=some es):∃p,e=.List es p:=by
 cases e<;>cases h;exact⟨_,rfl⟩
theorem Gp{e:Expr}{q:List (Option Expr)×List Expr}(h:B2 e=some q):∃p,e=.Dict q.1 q.2 p:=by
 cases e<;>cases h;exact⟨_,rfl⟩
theorem j7{e l r:Expr}(h:ll e=some (l,r)):∃p,e=.Subscript l r p:=by
 cases e<;>cases h;exact⟨_,rfl⟩
theorem TJ{e:Expr}{lo hi:Option Expr}(h:Kl e=some (lo,hi)):∃p,e=.Slice lo hi none p:=by
 cases e with
 |Slice a b st p=>cases st<;>cases h;exact⟨_,rfl⟩
 |_=>cases h
theorem Gq{e:Expr}{q:Expr×List Expr×List Keyword×Pos}(h:B3 e=some q):e=.Call q.1 q.2.1 q.2.2.1 q.2.2.2:=by
 cases e<;>cases h;rfl
theorem TK{e:Expr}{q:Expr×Str×Pos}(h:Km e=some q):e=.Attribute q.1 q.2.1 q.2.2:=by
 cases e<;>cases h;rfl
theorem mS{nm:String}{e o:Expr}{as:List Expr}(h:eM nm e=some (o,as)):∃ap cp,e=.Call (.Attribute o (Str.ofString nm) ap) as [] cp∧lj o=true∧(ap.endLine==cp.line)=true∧as.all du=true:=by
 obtain⟨q,h1,h⟩:=iu h
 obtain⟨a,h2,h⟩:=iu h
 split at h
 ·rename_i g
  cases h
  refine⟨a.2.2,q.2.2.2,?_,g.2.2.1,g.2.2.2.1,g.2.2.2.2⟩
  rw[Gq h1,TK h2,g.1,fC.mp g.2.1]
 ·cases h
theorem mU{e:Expr}{x:Str}{as:List Expr}(h:eN e=some (x,as)):∃p cp,e=.Call (.Name x p) as [] cp∧as.all du=true:=by
 obtain⟨q,h1,h⟩:=iu h
 obtain⟨y,h2,h⟩:=iu h
 split at h
 ·rename_i g
  cases h
  obtain⟨p,e2⟩:=oJ h2
  exact⟨p,q.2.2.2,by rw[Gq h1,e2,fC.mp g.1],g.2⟩
 ·cases h
theorem yX{e el it:Expr}{z:Str}{pz ep:Pos}{ifs:List Expr}{au:Scope}(h:wz e=some (el,z,pz,it,ifs,au,ep)):e=.ListComp el [⟨.Name z pz,it,ifs,0⟩] au ep:=by
 unfold wz at h
 split at h
 ·cases h;rfl
 ·cases h
noncomputable def B4:T→Bool
 |.y=>true
 |_=>false
mutual
noncomputable def kX(c:Cf)(lv:Nat):X→Scope→List Str→Expr→Bool
 |.v i,sc,N,e=>on (qh e) fun x=>decide (N[i]?=some x)&&BX sc x&&!(x == "__debug__")&&!(x == "__classdict__")
 |.ki i,_,_,e=>on (eK e) fun k=>on (Kc k) fun j=>decide (i=j)
 |.ks i,_,_,e=>on (eK e) fun k=>on (Kd k) fun j=>decide (i=j)
 |.kb i,_,_,e=>on (eK e) fun k=>on (Ke k) fun j=>decide (i=j)
 |.kn,_,_,e=>on (eK e) Kf
 |.ty n,sc,_,e=>on (qh e) fun x=>decide (x=Str.ofString n)&&gl sc x&&c.bs.contains n&&tys.contains n
 |.bo o a b,sc,N,e=>on (Kg e) fun q=>decide (q.2.1=o.op)&&kX c lv a sc N q.1&&kX c lv b sc N q.2.2
 |.co o a b,sc,N,e=>on (ub e) fun q=>decide (q.2.1=o.op)&&iM q.2.2&&kX c lv a sc N q.1&&kX c lv b sc N q.2.2
 |.uo o a,sc,N,e=>on (xU e) fun q=>decide (q.1=o.op)&&kX c lv a sc N q.2
 |.an a b,sc,N,e=>on (rW .And e) fun q=>kX c lv a sc N q.1&&kX c lv b sc N q.2
 |.or a b,sc,N,e=>on (rW .Or e) fun q=>kX c lv a sc N q.1&&kX c lv b sc N q.2
 |.nt a,sc,N,e=>on (xU e) fun q=>decide (q.1=.Not)&&kX c lv a sc N q.2
 |.ie t a b,sc,N,e=>on (Kj e) fun q=>kT c lv t sc N q.1&&kX c lv a sc N q.2.1&&kX c lv b sc N q.2.2
 |.tu l,sc,N,e=>on (uc e) fun es=>kA c lv l sc N es
 |.li l,sc,N,e=>on (Kk e) fun es=>kA c lv l sc N es
 |.dK,_,_,e=>on (B2 e) fun q=>q.1.isEmpty&&q.2.isEmpty
 |.ix a b,sc,N,e=>on (ll e) fun q=>mz q.2&&kX c lv a sc N q.1&&kX c lv b sc N q.2
 |.dg a b,sc,N,e=>on (ll e) fun q=>mz q.2&&kX c lv a sc N q.1&&kX c lv b sc N q.2
 |.g2 d k x,sc,N,e=>on (eM "get" e) fun q=>on (l2 q.2) fun a=>kX c lv d sc N q.1&&kX c lv k sc N a.1&&kX c lv x sc N a.2
 |.sl a lo hi,sc,N,e=>on (ll e) fun q=>on (Kl q.2) fun s=>kX c lv a sc N q.1&&kP c lv lo sc N s.1&&kP c lv hi sc N s.2
 |.ms m o l,sc,N,e=>on (eM m.nm e) fun q=>on (l1 q.2) fun a=>kX c lv o sc N q.1&&kA c lv l sc N [a]
 |.fb f l,sc,N,e=>on (eN e) fun q=>decide (q.1=Str.ofString f.nm)&&gl sc q.1&&c.bs.contains f.nm&&!q.2.isEmpty&&kA c lv l sc N q.2
 |.ca f l,sc,N,e=>on (eN e) fun q=>on c.fs[f]? fun i=>decide (q.1=i.nm)&&gl sc q.1&&!(q.1 == "__debug__")&&decide (i.lv≤lv)&&decide (q.2.length=i.ar)&&decide (i.io=none)&&!q.2.isEmpty&&kA c lv l sc N q.2
 |.cp i ix t e,sc,N,x=>on (wz x) fun q=>BZ N (ns N q.2.1 ix) sc q.2.2.2.2.2.1 q.2.1 ix&&iM q.2.2.2.1&&kI c lv i false sc N q.2.2.2.1&&((q.2.2.2.2.1.isEmpty&&B4 t)||on (l1 q.2.2.2.2.1) fun y=>kT c lv t (rl sc q.2.2.2.2.2.1) (ns N q.2.1 ix) y)&&kX c lv e (rl sc q.2.2.2.2.2.1) (ns N q.2.1 ix) q.1
 |.dD l,sc,N,e=>on (B2 e) fun q=>decide (q.1.length≤15)&&!q.1.isEmpty&&B5 c lv l sc N q.1 q.2
 |.lv a,sc,N,e=>on (eN e) fun q=>on (l1 q.2) fun r=>on (eM "values" r) fun u=>decide (q.1 = "list")&&gl sc q.1&&c.bs.contains "list" && u.2.isEmpty&&kX c lv a sc N u.1
 |.cd f l n,sc,N,e=>on (eN e) fun q=>on c.fs[f]? fun i=>decide (q.1=i.nm)&&gl sc q.1&&!(q.1 == "__debug__")&&decide (i.lv≤lv)&&decide (q.2.length+1=i.ar)&&decide (i.io=none∧i.df=some n)&&!q.2.isEmpty&&kA c lv l sc N q.2
noncomputable def B5(c:Cf)(lv:Nat):Pp→Scope→List Str→List (Option Expr)→List Expr→Bool
 |.n,_,_,ks,vs=>ks.isEmpty&&vs.isEmpty
 |.c a b l,sc,N,ks,vs=>on (jT ks) fun k=>on k.1 fun k1=>on (jT vs) fun v=>kX c lv a sc N k1&&kX c lv b sc N v.1&&B5 c lv l sc N k.2 v.2
noncomputable def kA(c:Cf)(lv:Nat):A→Scope→List Str→List Expr→Bool
 |.n,_,_,es=>es.isEmpty
 |.c a l,sc,N,es=>on (jT es) fun q=>du q.1&&kX c lv a sc N q.1&&kA c lv l sc N q.2
noncomputable def kT(c:Cf)(lv:Nat):T→Scope→List Str→Expr→Bool
 |.b x,sc,N,e=>ua e&&kX c lv x sc N e
 |.c o a b,sc,N,e=>on (ub e) fun q=>decide (q.2.1=o.op)&&iM q.2.2&&kX c lv a sc N q.1&&kX c lv b sc N q.2.2
 |.d n a b,sc,N,e=>on (ub e) fun q=>decide (q.2.1=nin n)&&iM q.2.2&&kX c lv a sc N q.1&&kX c lv b sc N q.2.2
 |.t n a b,sc,N,e=>on (ub e) fun q=>decide (q.2.1=nin n)&&iM q.2.2&&kX c lv a sc N q.1&&kX c lv b sc N q.2.2
 |.h o p a b d,sc,N,e=>on (Kh e) fun q=>decide (q.2.1=o.op)&&decide (q.2.2.1=p.op)&&!lastMarks [q.2.1,q.2.2.1] [q.2.2.2.1,q.2.2.2.2]&&kX c lv a sc N q.1&&kX c lv b sc N q.2.2.2.1&&kX c lv d sc N q.2.2.2.2
 |.an a b,sc,N,e=>on (rW .And e) fun q=>kT c lv a sc N q.1&&kT c lv b sc N q.2
 |.or a b,sc,N,e=>on (rW .Or e) fun q=>kT c lv a sc N q.1&&kT c lv b sc N q.2
 |.nt a,sc,N,e=>on (xU e) fun q=>decide (q.1=.Not)&&kT c lv a sc N q.2
 |.y,_,_,_=>false
noncomputable def kP(c:Cf)(lv:Nat):P→Scope→List Str→Option Expr→Bool
 |.n,_,_,o=>o.isNone
 |.s x,sc,N,o=>on o fun e=>kX c lv x sc N e
noncomputable def kI(c:Cf)(lv:Nat):I→Bool→Scope→List Str→Expr→Bool
 |.r1 l,_,sc,N,e=>on (eN e) fun q=>decide (q.1 = "range")&&gl sc q.1&&c.bs.contains "range" && decide (q.2.length=1)&&kA c lv l sc N q.2
 |.en l,tg,sc,N,e=>on (eN e) fun q=>tg&&decide (q.1 = "enumerate")&&gl sc q.1&&c.bs.contains "enumerate" && decide (q.2.length=1)&&kA c lv l sc N q.2
 |.s x,_,sc,N,e=>kX c lv x sc N e
 |.t x,_,sc,N,e=>kX c lv x sc N e
 |.l x,_,sc,N,e=>kX c lv x sc N e
end
def B6(P:Program)(w:World)(K:PySem.W.Frag)(mg:Str→Option Value)(base:Heap)(i:Fi)(sp:Sp):Prop :=
 ∃f fd ps,ku P w K mg base kZ i.lv f fd ps sp∧mg i.nm=some (.ref f)∧PySem.W.keepIn K (.ref f)=true∧Binds K fd ps []∧∀n,i.df=some n→∃t,Binds K fd ps [.int n t]
noncomputable def jU(P:Program)(w:World)(K:PySem.W.Frag)(mg:Str→Option Value)(base:Heap)(i:Fi):FT→Prop
 |.p F=>i.io=none∧B6 P w K mg base i (k7 K i.ar F)
 |.oo F=>i.io=some []∧B6 P w K mg base i (Iw K i.ar F)
 |.io l F=>(i.io=some l∧l≠[])∧B6 P w K mg base i (pE K i.ar l F)
def GV(K:PySem.W.Frag)(mg:Str→Option Value)(va:List V)(gs:List (Str×Gv)):Prop:=∀(i:Nat) g,gs[i]?=some g→∃x u,va[i]?=some x∧mg g.1=some u∧RelV x u∧JT K (tC x) (jC g.2.d)
structure CE (c:Cf)(lv:Nat)(K:PySem.W.Frag)(t:List FT)(va:List V)(sc:Scope)(N:List Str)(Z:Cx):Prop where
 k:Z.K=K
 sc:Z.env.scope=sc
 n:Z.N=N
 calm:Z.calm=true
 rm:dw lv Z.A
 bl:∀b,b∈c.bs→Z.mg (Str.ofString b)=none
 gv:GV K Z.mg va c.gs
 fs:∀(i:Nat) fi,c.fs[i]?=some fi→∃F,t[i]?=some F∧jU Z.prog Z.w Z.K Z.mg Z.base fi F
section
variable {c:Cf}{lv:Nat}{K:PySem.W.Frag}{t:List FT}{va:List V}{sc:Scope}{N:List Str}{Z:Cx}
theorem CE.bV(E:CE c lv K t va sc N Z){N':List Str}{au:Scope}{C:Addr}{s₂:Shared}{H₂:Hp}{fp:List Addr}{pn:List (Addr×Obj)}:CE c lv K t va (rl sc au) N' (Z.bV N' au C s₂ H₂ fp pn) :=
 ⟨E.k,by rw[←E.sc];rfl,rfl,E.calm,E.rm,E.bl,E.gv,E.fs⟩
theorem CE.gl(E:CE c lv K t va sc N Z){x:Str}(h:gl sc x=true):Gl Z x:=by
 have:=UO h
 rw[←E.sc]at this
 exact this
theorem CE.mg(E:CE c lv K t va sc N Z){b:String}(h:c.bs.contains b=true):Z.mg (Str.ofString b)=none:=E.bl b (by simpa using h)
theorem gY:∀{es:List Expr}{env:Env},es.all du=true→∀pos:Pos,((backTo pos (starEach es env)).any fun x=>x.1)=false
 |[],_,_,_=>rfl
 |e::es,env,h,pos=>by
  rw[jF,gx]at h
  rw[cI h.1]
  show(false||(backTo pos (starEach es env)).any fun x=>x.1)=false
  rw[gY h.2,Bool.or_false]
theorem TL{n:String}(h:tys.contains n=true):bootBuiltins (Str.ofString n)=some (.type n)∧Str.ofString n ≠ "__name__" ∧ (Str.ofString n==("__debug__" : Str))=false:=by
 have h:n∈tys:=by simpa using h
 simp only[tys,List.mem_cons,List.not_mem_nil,or_false]at h
 rcases h with rfl|rfl|rfl|rfl|rfl|rfl
 ·exact⟨PyProof.Rows.Boot.«bool»,by decide,by decide⟩
 ·exact⟨PyProof.Rows.Boot.«int»,by decide,by decide⟩
 ·exact⟨PyProof.Rows.Boot.«str»,by decide,by decide⟩
 ·exact⟨PyProof.Rows.Boot.«tuple»,by decide,by decide⟩
 ·exact⟨PyProof.Rows.Boot.«list»,by decide,by decide⟩
 ·exact⟨PyProof.Rows.Boot.«dict»,by decide,by decide⟩
theorem Fb.ok:∀f:Fb,∃r,(∀{sc:Scope}{N:List Str} (Z:Cx),CE c lv K t va sc N Z→∀{p pos:Pos}{e:Expr}{es:List Expr}{ta:TA},C.gl sc (Str.ofString f.nm)=true→c.bs.contains f.nm=true→du e=true→es.all du=true→PA Z (e::es) ta→PE Z (.Call (.Name (Str.ofString f.nm) p) (e::es) [] pos) (xn r ta))∧jP K r f.g
 |.int=>⟨_,fun _ E _ _ _ _ _ hg hb h1 h2 ha=>@yy _ _ _ _ _ _ _ _ _ Mr (E.gl hg) (E.mg hb) PyProof.Rows.Boot.«int» ha (by decide) (by decide) (cI h1) (gY h2 _),PQ⟩
 |.dict=>⟨_,fun _ E _ _ _ _ _ hg hb h1 h2 ha=>@yy _ _ _ _ _ _ _ _ _ Lz (E.gl hg) (E.mg hb) PyProof.Rows.Boot.«dict» ha (by decide) (by decide) (cI h1) (gY h2 _),Ov⟩
 |.list=>⟨_,fun _ E _ _ _ _ _ hg hb h1 h2 ha=>@yy _ _ _ _ _ _ _ _ _ (Lg E.k) (E.gl hg) (E.mg hb) PyProof.Rows.Boot.«list» ha (by decide) (by decide) (cI h1) (gY h2 _),N0⟩
 |.len=>⟨_,fun _ E _ _ _ _ _ hg hb h1 h2 ha=>@qA _ _ _ _ _ _ _ _ _ (MB E.k) (E.gl hg) (E.mg hb) PyProof.Rows.Boot.«len» ha (by decide) (by decide) (cI h1) (gY h2 _),PL⟩
 |.abs=>⟨_,fun _ E _ _ _ _ _ hg hb h1 h2 ha=>@qA _ _ _ _ _ _ _ _ _ NB (E.gl hg) (E.mg hb) PyProof.Rows.Boot.«abs» ha (by decide) (by decide) (cI h1) (gY h2 _),PN⟩
 |.iY=>⟨_,fun _ E _ _ _ _ _ hg hb h1 h2 ha=>@qA _ _ _ _ _ _ _ _ _ (MJ E.k) (E.gl hg) (E.mg hb) PyProof.Rows.Boot.«isinstance» ha (by decide) (by decide) (cI h1) (gY h2 _),Qj⟩
 |.all=>⟨_,fun _ E _ _ _ _ _ hg hb h1 h2 ha=>@qA _ _ _ _ _ _ _ _ _ (L4 E.k E.calm) (E.gl hg) (E.mg hb) PyProof.Rows.Boot.«all» ha (by decide) (by decide) (cI h1) (gY h2 _),Qs⟩
 |.any=>⟨_,fun _ E _ _ _ _ _ hg hb h1 h2 ha=>@qA _ _ _ _ _ _ _ _ _ (L7 E.k E.calm) (E.gl hg) (E.mg hb) PyProof.Rows.Boot.«any» ha (by decide) (by decide) (cI h1) (gY h2 _),QH⟩
theorem Gr{a:Expr}{env:Env}{bX:Pos}(h:du a=true):(((List.all (backTo bX (starEach [a] env)) fun x=>!x.1)&&List.all (backToKw bX (keywordEach [] env)) fun x=>Option.isSome x.1)&&decide ((List.length [a]+List.length ([]:List Keyword)+if List.isEmpty ([]:List Keyword)=true then 0 else 1)<30))=true:=by
 rw[cI h];rfl
theorem Gu{env:Env}{cp:Pos}:((backTo cp (starEach [] env)).any fun x=>x.1)=false:=rfl
theorem Ms.ok:∀m:Ms,∃r,(∀Z:Cx,Z.K=K→∀{ap cp:Pos}{e a:Expr}{te:TE}{ta:TA},lj e=true→(ap.endLine==cp.line)=true→du a=true→PE Z e te→PA Z [a] ta→PE Z (.Call (.Attribute e (Str.ofString m.nm) ap) [a] [] cp) (nK K "str" r te ta))∧(∀Z:Cx,Z.K=K→∀{ap cp:Pos}{e:Expr}{te:TE},lj e=true→(ap.endLine==cp.line)=true→PE Z e te→PE Z (.Call (.Attribute e (Str.ofString m.nm) ap) [] [] cp) (H0 K "str" r te))∧By K "str" r m.g
 |.join=>⟨_,fun _ k _ _ _ _ _ _ h0 hl h1 he ha=>k▸@GY _ _ _ _ _ _ _ _ _ _ _ _ PySem.F.plainAttrs_str PySem.F.slot_str_join PySem.F.type_str_join (Eb rfl) he ha (oI h0) (Gr h1) hl (cI h1) Gu,fun _ k _ _ _ _ h0 hl he=>k▸@RX _ _ _ _ _ _ _ _ _ PySem.F.plainAttrs_str PySem.F.slot_str_join PySem.F.type_str_join (Eb rfl) he (oI h0) hl,Ol⟩
theorem wA:∀{l:A}{sc:Scope}{N:List Str}{es:List Expr},kA c lv l sc N es=true→∀(e:Ev) (ak:List (M×D)),eA t l e=some ak→ak.length=es.length
 |.n,_,_,es,h=>by cases fC.mp h;exact P9
 |.c a l,sc,N,es,h=>by
  have hh:=ax h;clear h;obtain⟨⟨e,r⟩,q,h⟩:=hh
  cases iw q
  have h:(du e&&kX c lv a sc N e&&kA c lv l sc N r)=true:=h
  rw[gx]at h
  exact Oe (wA h.2)
end
section
variable {c:Cf}{lv:Nat}{K:PySem.W.Frag}{t:List FT}{va:List V}
theorem cR{a b:Bool}(h:(a&&b)=true):a=true∧b=true:=by simpa using h
theorem fS{a b d:Bool}(h:(a&&b&&d)=true):a=true∧b=true∧d=true:=by simpa[and_assoc]using h
theorem fT{a b d e:Bool}(h:(a&&b&&d&&e)=true):a=true∧b=true∧d=true∧e=true:=by simpa[and_assoc]using h
theorem mB{a b d e f:Bool}(h:(a&&b&&d&&e&&f)=true):a=true∧b=true∧d=true∧e=true∧f=true:=by simpa[and_assoc]using h
theorem xV{a b d e f g:Bool}(h:(a&&b&&d&&e&&f&&g)=true):a=true∧b=true∧d=true∧e=true∧f=true∧g=true:=by simpa[and_assoc]using h
theorem B7{a b d e f g i j:Bool}(h:(a&&b&&d&&e&&f&&g&&i&&j)=true):a=true∧b=true∧d=true∧e=true∧f=true∧g=true∧i=true∧j=true:=by simpa[and_assoc]using h
theorem nb{a:Bool}(h:(!a)=true):a=false:=by simpa using h
theorem Hs{Z:Cx}{op:BoolOp}{vs:List Expr}{pos:Pos}{tt:TT}(h:PT Z (.BoolOp op vs pos) tt):PW Z (.BoolOp op vs pos) tt:=fun _=>h
theorem all1{a:Expr}{l:List Expr}(h:(a::l).all du=true):du a=true∧l.all du=true:=by
 rw[jF,gx]at h;exact h
theorem uT{α:Type}{l:List α}(h:(!l.isEmpty)=true):∃a r,l=a::r:=by
 cases l with
 |nil=>cases h
 |cons a r=>exact⟨a,r,rfl⟩
theorem Iy{α:Type}{l:List α}(h:l.length=1):∃a,l=[a]:=List.length_eq_one_iff.mp h
mutual
theorem sX:∀(x:X) {sc:Scope}{N:List Str}{e:Expr},kX c lv x sc N e=true→∃te,(∀Z,CE c lv K t va sc N Z→PE Z e te)∧JT K te (eX t x)
 |.v i,sc,N,e,h=>by
  have hh:=ax h;clear h;obtain⟨x,q,h⟩:=hh
  obtain⟨p,rfl⟩:=oJ q
  obtain⟨h1,h2,h3,h4⟩:=fT h
  have h1:=bu h1
  have h2:=Gm h2
  exact⟨_,fun Z E=>@y9 _ _ _ _ (E.n▸h1) (E.sc▸h2) (nb h3) (nb h4),Sf⟩
 |.ki i,sc,N,e,h=>by
  have hh:=ax h;clear h;obtain⟨k,q,h⟩:=hh
  obtain⟨j,p,rfl⟩:=vN q
  have hh:=ax h;clear h;obtain⟨y,q,h⟩:=hh
  cases UQ q
  cases bu h
  exact⟨_,fun Z E=>Rc,pf rfl⟩
 |.ks i,sc,N,e,h=>by
  have hh:=ax h;clear h;obtain⟨k,q,h⟩:=hh
  obtain⟨j,p,rfl⟩:=vN q
  have hh:=ax h;clear h;obtain⟨y,q,h⟩:=hh
  cases UR q
  cases bu h
  exact⟨_,fun Z E=>Rg,pf rfl⟩
 |.kb i,sc,N,e,h=>by
  have hh:=ax h;clear h;obtain⟨k,q,h⟩:=hh
  obtain⟨j,p,rfl⟩:=vN q
  have hh:=ax h;clear h;obtain⟨y,q,h⟩:=hh
  cases UU q
  cases bu h
  exact⟨_,fun Z E=>Ua,pf rfl⟩
 |.kn,sc,N,e,h=>by
  have hh:=ax h;clear h;obtain⟨k,q,h⟩:=hh
  obtain⟨j,p,rfl⟩:=vN q
  cases UW h
  exact⟨_,fun Z E=>Rf,pf rfl⟩
 |.ty n,sc,N,e,h=>by
  have hh:=ax h;clear h;obtain⟨x,q,h⟩:=hh
  obtain⟨p,rfl⟩:=oJ q
  obtain⟨h1,h2,h3,h4⟩:=fT h
  cases bu h1
  obtain⟨q1,q2,q3⟩:=TL h4
  exact⟨_,fun Z E=>@O4 _ _ (.ty n) _ _ (E.gl h2) (E.mg h3) q1 rfl q2 q3,pf rfl⟩
 |.bo o a b,sc,N,e,h=>by
  have hh:=ax h;clear h;obtain⟨⟨l,op,r⟩,q,h⟩:=hh
  obtain⟨p,rfl⟩:=Tz q
  obtain⟨h1,h2,h3⟩:=fS h
  cases bu h1
  obtain⟨ta,pa,ja⟩:=sX a h2
  obtain⟨tb,pb,jb⟩:=sX b h3
  obtain⟨r,o1,o2⟩:=o.ok (K:=K)
  exact⟨_,fun Z E=>Ue (o1 Z E.k) (pa Z E) (pb Z E),vz o2 ja jb⟩
 |.co o a b,sc,N,e,h=>by
  have hh:=ax h;clear h;obtain⟨⟨l,op,r⟩,q,h⟩:=hh
  obtain⟨p,rfl⟩:=vk q
  obtain⟨h1,h0,h2,h3⟩:=fT h
  cases bu h1
  obtain⟨ta,pa,ja⟩:=sX a h2
  obtain⟨tb,pb,jb⟩:=sX b h3
  obtain⟨r,o1,o2⟩:=o.ok (K:=K)
  exact⟨_,fun Z E=>Ph (o1 Z E.k E.rm.units) (pa Z E) (pb Z E) (ou h0),vz o2 ja jb⟩
 |.uo o a,sc,N,e,h=>by
  have hh:=ax h;clear h;obtain⟨⟨op,r⟩,q,h⟩:=hh
  obtain⟨p,rfl⟩:=zp q
  obtain⟨h1,h2⟩:=cR h
  cases bu h1
  obtain⟨ta,pa,ja⟩:=sX a h2
  obtain⟨r,o1,o2⟩:=o.ok (K:=K)
  exact⟨_,fun Z E=>Ug (o1 Z) (pa Z E),Ut o2 ja⟩
 |.an a b,sc,N,e,h=>by
  have hh:=ax h;clear h;obtain⟨⟨x,y⟩,q,h⟩:=hh
  obtain⟨m,rest,pos,rfl,w⟩:=uS q
  obtain⟨h1,h2⟩:=cR h
  obtain⟨ta,pa,ja⟩:=sX a h1
  obtain⟨tb,pb,jb⟩:=sX b h2
  refine⟨_,fun Z E=>@Rk _ _ _ _ tb _ _ (pa Z E) ?_,Sq ja jb⟩
  rcases w with⟨rfl,rfl⟩|rfl
  ·exact @FG _ _ _ _ _ (pb Z E)
  ·exact pb Z E
 |.or a b,sc,N,e,h=>by
  have hh:=ax h;clear h;obtain⟨⟨x,y⟩,q,h⟩:=hh
  obtain⟨m,rest,pos,rfl,w⟩:=uS q
  obtain⟨h1,h2⟩:=cR h
  obtain⟨ta,pa,ja⟩:=sX a h1
  obtain⟨tb,pb,jb⟩:=sX b h2
  refine⟨_,fun Z E=>@Uc _ _ _ _ tb _ _ (pa Z E) ?_,Uz ja jb⟩
  rcases w with⟨rfl,rfl⟩|rfl
  ·exact @FG _ _ _ _ _ (pb Z E)
  ·exact pb Z E
 |.nt a,sc,N,e,h=>by
  have hh:=ax h;clear h;obtain⟨⟨op,r⟩,q,h⟩:=hh
  obtain⟨p,rfl⟩:=zp q
  obtain⟨h1,h2⟩:=cR h
  cases bu h1
  obtain⟨ta,pa,ja⟩:=sX a h2
  exact⟨_,fun Z E=>Rl (pa Z E),Sr ja⟩
 |.ie t' a b,sc,N,e,h=>by
  have hh:=ax h;clear h;obtain⟨⟨x,l,r⟩,q,h⟩:=hh
  obtain⟨p,rfl⟩:=TF q
  obtain⟨h1,h2,h3⟩:=fS h
  obtain⟨tq,pq,jq⟩:=sT t' h1
  obtain⟨ta,pa,ja⟩:=sX a h2
  obtain⟨tb,pb,jb⟩:=sX b h3
  exact⟨_,fun Z E=>Nt (pq Z E) (pa Z E) (pb Z E),Sv jq ja jb⟩
 |.tu l,sc,N,e,h=>by
  have hh:=ax h;clear h;obtain⟨es,q,h⟩:=hh
  obtain⟨k,p,rfl⟩:=vm q
  obtain⟨ta,pa,ja⟩:=sA l h
  exact⟨_,fun Z E=>FJ (pa Z E),Sx ja⟩
 |.li l,sc,N,e,h=>by
  have hh:=ax h;clear h;obtain⟨es,q,h⟩:=hh
  obtain⟨p,rfl⟩:=TH q
  obtain⟨ta,pa,ja⟩:=sA l h
  exact⟨_,fun Z E=>zb (pa Z E),Sw ja⟩
 |.dK,sc,N,e,h=>by
  have hh:=ax h;clear h;obtain⟨⟨ks,vs⟩,q,h⟩:=hh
  obtain⟨p,rfl⟩:=Gp q
  obtain⟨h1,h2⟩:=cR h
  cases fC.mp h1
  cases fC.mp h2
  exact⟨_,fun _ _=>NP,Oo⟩
 |.ix a b,sc,N,e,h=>by
  have hh:=ax h;clear h;obtain⟨⟨l,r⟩,q,h⟩:=hh
  obtain⟨p,rfl⟩:=j7 q
  obtain⟨h1,h2,h3⟩:=fS h
  obtain⟨ta,pa,ja⟩:=sX a h2
  obtain⟨tb,pb,jb⟩:=sX b h3
  exact⟨_,fun Z E=>vw (uM E.k) (pa Z E) (pb Z E) (vM h1),vz Uy ja jb⟩
 |.dg a b,sc,N,e,h=>by
  have hh:=ax h;clear h;obtain⟨⟨l,r⟩,q,h⟩:=hh
  obtain⟨p,rfl⟩:=j7 q
  obtain⟨h1,h2,h3⟩:=fS h
  obtain⟨ta,pa,ja⟩:=sX a h2
  obtain⟨tb,pb,jb⟩:=sX b h3
  exact⟨_,fun Z E=>Pw (lH E.rm) (pa Z E) (pb Z E) (QP h1),Qv ja jb⟩
 |.g2 d k x,sc,N,e,h=>by
  have hh:=ax h;clear h;obtain⟨⟨o,as⟩,q,h⟩:=hh
  obtain⟨ap,cp,rfl,h2,h3,h4⟩:=mS q
  have hh:=ax h;clear h;obtain⟨a,q1,h⟩:=hh
  cases zL q1
  obtain⟨h4,xW⟩:=all1 h4
  have xW:=(all1 xW).1
  obtain⟨h5,h6,h7⟩:=fS h
  obtain⟨td,pd,jd⟩:=sX d h5
  obtain⟨tk,pk,jk⟩:=sX k h6
  obtain⟨tx,px,jx⟩:=sX x h7
  exact⟨_,fun Z E=>NR (lH E.rm) (pd Z E) (pk Z E) (px Z E) ⟨oI h2,by rw[cI h4,cI xW];rfl,h3,by rw[cI h4,cI xW];rfl⟩,Ou jd jk jx⟩
 |.sl a lo hi,sc,N,e,h=>by
  have hh:=ax h;clear h;obtain⟨⟨l,r⟩,q,h⟩:=hh
  obtain⟨p,rfl⟩:=j7 q
  have hh:=ax h;clear h;obtain⟨⟨Y8,Y9⟩,q,h⟩:=hh
  obtain⟨p',rfl⟩:=TJ q
  obtain⟨h1,h2,h3⟩:=fS h
  obtain⟨ta,pa,ja⟩:=sX a h1
  obtain⟨tl,pl,jl⟩:=sP lo h2
  obtain⟨tu,pu,ju⟩:=sP hi h3
  exact⟨_,fun Z E=>NK (VP E.k) (pa Z E) (pl Z E) (pu Z E),UB UE ja jl ju⟩
 |.ms m o l,sc,N,e,h=>by
  have hh:=ax h;clear h;obtain⟨⟨o',as⟩,q,h⟩:=hh
  obtain⟨ap,cp,rfl,h2,h3,h4⟩:=mS q
  have hh:=ax h;clear h;obtain⟨a,q1,h⟩:=hh
  cases iC q1
  obtain⟨h5,h6⟩:=cR h
  obtain⟨td,pd,jd⟩:=sX o h5
  obtain⟨tk,pk,jk⟩:=sA l h6
  obtain⟨r,q1,_,q2⟩:=Ms.ok (K:=K) m
  exact⟨_,fun Z E=>q1 Z E.k h2 h3 (all1 h4).1 (pd Z E) (pk Z E),SX q2 jd jk⟩
 |.fb f l,sc,N,e,h=>by
  have hh:=ax h;clear h;obtain⟨⟨x,as⟩,q,h⟩:=hh
  obtain⟨p,cp,rfl,h4⟩:=mU q
  obtain⟨h1,h2,h3,h0,h6⟩:=mB h
  cases bu h1
  obtain⟨a,r,rfl⟩:=uT h0
  obtain⟨h4,h5⟩:=all1 h4
  obtain⟨ta,pa,ja⟩:=sA l h6
  obtain⟨r,q1,q2⟩:=Fb.ok (c:=c) (lv:=lv) (t:=t) (va:=va) (K:=K) f
  exact⟨_,fun Z E=>q1 Z E h2 h3 h4 h5 (pa Z E),UA q2 ja⟩
 |.ca f l,sc,N,e,h=>by
  have hh:=ax h;clear h;obtain⟨⟨x,as⟩,q,h⟩:=hh
  obtain⟨p,cp,rfl,ud⟩:=mU q
  have hh:=ax h;clear h;obtain⟨i,hf,h⟩:=hh
  obtain⟨h1,h2,h3,h4,h5,gS,h0,h8⟩:=B7 h
  obtain⟨a,r,rfl⟩:=uT h0
  obtain⟨h6,h7⟩:=all1 ud
  have h1:=bu h1
  obtain⟨ta,pa,ja⟩:=sA l h8
  have hl:=wA (t:=t) h8
  rw[show(a::r).length=i.ar from bu h5]at hl
  refine⟨j8 (k7 K i.ar (FT.f t[f]?)) [] E0 ta,fun Z E=>?_,P4 ja hl⟩
  obtain⟨F,hF,q⟩:=E.fs f i hf
  cases F with
  |io l F=>rw[jU,bu gS]at q;cases q.1.1
  |oo F=>rw[jU,bu gS]at q;cases q.1
  |p F =>
   obtain⟨_,a,fd,ps,k1,k2,k3,k4⟩:=q
   rw[←h1]at k2
   rw[hF,←E.k]
   exact @yL _ _ _ _ _ _ _ _ _ _ _ _ _ _ _ _ k1 (E.rm.mono (bu h4)) (E.gl h2) k2 k3 k4.1 .nil zE (pa Z E) (nb h3) (cI h6) (gY h7 _)
 |.cp i ix t' d,sc,N,e,h=>by
  have hh:=ax h;clear h;obtain⟨⟨el,x,px,it,ifs,au,ep⟩,q,h⟩:=hh
  cases yX q
  obtain⟨h1,h2,h3,h4,h5⟩:=mB h
  have h1:=zo h1
  obtain⟨ti,pi,ji⟩:=sI i h3
  obtain⟨te,pe,je⟩:=sX d h5
  have h4:(ifs.isEmpty=true∧B4 t'=true)∨(on (l1 ifs) fun y=>kT c lv t' (rl sc au) (ns N x ix) y)=true:=by simpa using h4
  rcases h4 with⟨w1,w2⟩|h4
  ·cases fC.mp w1
   cases t'<;>first|exact absurd w2 a6|skip
   exact⟨_,fun Z E=>@uL _ (ns N x ix) _ _ ix _ _ _ _ _ _ _ _ (by rw[E.n,E.sc];exact h1) E.calm (pi Z (.Name x px) E (fun z=>absurd z a6)) (fun C s₂ H₂ fp pn=>uK) (fun C s₂ H₂ fp pn=>pe _ E.bV) (jZ h2),uO ji E2 je⟩
  ·have hh:=ax h4;clear h4;obtain⟨y,q,h4⟩:=hh
   cases iC q
   obtain⟨tq,pq,jq⟩:=sT t' h4
   exact⟨_,fun Z E=>@uL _ (ns N x ix) _ _ ix _ _ _ _ _ _ _ _ (by rw[E.n,E.sc];exact h1) E.calm (pi Z (.Name x px) E (fun z=>absurd z a6)) (fun C s₂ H₂ fp pn=>EL (pq _ E.bV)) (fun C s₂ H₂ fp pn=>pe _ E.bV) (jZ h2),uO ji jq je⟩
 |.dD l,sc,N,e,h=>by
  have hh:=ax h;clear h;obtain⟨⟨ks,vs⟩,q,h⟩:=hh
  obtain⟨p,rfl⟩:=Gp q
  obtain⟨h1,h2,h3⟩:=fS h
  obtain⟨ts,pp,jp⟩:=Kn l h3
  exact⟨_,fun Z E=>(let ⟨a,b,c⟩:=pp Z p E;Pz a b c (fun z=>by subst z;exact absurd h2 a6) (bu h1)),QO jp⟩
 |.lv a,sc,N,e,h=>by
  have hh:=ax h;clear h;obtain⟨⟨x,as⟩,q,h⟩:=hh
  obtain⟨p,cp,rfl,h4⟩:=mU q
  have hh:=ax h;clear h;obtain⟨r,q1,h⟩:=hh
  cases iC q1
  have hh:=ax h;clear h;obtain⟨⟨o,bs⟩,q,h⟩:=hh
  obtain⟨ap,Za,rfl,e2,e3,_⟩:=mS q
  obtain⟨g1,g2,g3,g4,g5⟩:=mB h
  cases bu g1
  cases fC.mp g4
  obtain⟨ta,pa,ja⟩:=sX a g5
  exact⟨_,fun Z E=>UM E.calm (E.gl g2) (E.mg g3) (pa Z E) (oI e2) e3,UN ja⟩
 |.cd f l n,sc,N,e,h=>by
  have hh:=ax h;clear h;obtain⟨⟨x,as⟩,q,h⟩:=hh
  obtain⟨p,cp,rfl,ud⟩:=mU q
  have hh:=ax h;clear h;obtain⟨i,hf,h⟩:=hh
  obtain⟨h1,h2,h3,h4,h5,gS,h0,h8⟩:=B7 h
  obtain⟨a,r,rfl⟩:=uT h0
  obtain⟨h6,h7⟩:=all1 ud
  have h1:=bu h1
  have gS:=bu gS
  obtain⟨ta,pa,ja⟩:=sA l h8
  have hl:=wA (t:=t) h8
  have h5:(a::r).length+1=i.ar:=bu h5
  refine⟨j8 (k7 K i.ar (FT.f t[f]?)) [.int n] E0 ta,fun Z E=>?_,Oy ja fun e ak z=>by rw[hl e ak z];exact h5⟩
  obtain⟨F,hF,q⟩:=E.fs f i hf
  cases F with
  |io l F=>rw[jU,gS.1]at q;cases q.1.1
  |oo F=>rw[jU,gS.1]at q;cases q.1
  |p F =>
   obtain⟨_,a,fd,ps,k1,k2,k3,_,k4⟩:=q
   obtain⟨tk,k4⟩:=k4 n gS.2
   rw[←h1]at k2
   rw[hF,←E.k]
   exact @yL _ _ _ _ _ _ _ _ _ _ _ _ _ _ _ _ k1 (E.rm.mono (bu h4)) (E.gl h2) k2 k3 k4 (.cons ⟨tk,rfl⟩ .nil) zE (pa Z E) (nb h3) (cI h6) (gY h7 _)
theorem Kn:∀(l:Pp) {sc:Scope}{N:List Str}{ks:List (Option Expr)}{vs:List Expr},B5 c lv l sc N ks vs=true→∃ts,(∀Z pos,CE c lv K t va sc N Z→sZ Z pos ks vs ts∧ks.all (·.isSome)=true∧ks.length=vs.length)∧qf K ts (BV t l)
 |.n,_,_,ks,vs,h=>by
  obtain⟨h1,h2⟩:=cR h
  cases fC.mp h1
  cases fC.mp h2
  exact⟨_,fun _ _ _=>⟨Py,rfl,rfl⟩,.nil⟩
 |.c a b l,sc,N,ks,vs,h=>by
  have hh:=ax h;clear h;obtain⟨⟨k,ks⟩,q,h⟩:=hh
  cases iw q
  have hh:=ax h;clear h;obtain⟨k1,q,h⟩:=hh
  have q:k=some k1:=q
  subst q
  have hh:=ax h;clear h;obtain⟨⟨v,vs⟩,q,h⟩:=hh
  cases iw q
  obtain⟨h1,h2,h3⟩:=fS h
  obtain⟨ta,pa,ja⟩:=sX a h1
  obtain⟨tb,pb,jb⟩:=sX b h2
  obtain⟨tl,pl,jl⟩:=Kn l h3
  exact⟨_,fun Z pos E=>(let ⟨x,y,z⟩:=pl Z pos E;⟨NQ (pa Z E) (pb Z E) x,y,by rw[cB,cB,z]⟩),.cons ja jb jl⟩
theorem sA:∀(l:A) {sc:Scope}{N:List Str}{es:List Expr},kA c lv l sc N es=true→∃ta,(∀Z,CE c lv K t va sc N Z→PA Z es ta)∧gQ K ta (eA t l)
 |.n,_,_,es,h=>by
  cases fC.mp h
  exact⟨_,fun _ _=>qK,PK⟩
 |.c a l,sc,N,es,h=>by
  have hh:=ax h;clear h;obtain⟨⟨e,r⟩,q,h⟩:=hh
  cases iw q
  obtain⟨h0,h1,h2⟩:=fS h
  obtain⟨ta,pa,ja⟩:=sX a h1
  obtain⟨tl,pl,jl⟩:=sA l h2
  exact⟨_,fun Z E=>@uJ _ _ _ _ _ (pa Z E) (pl Z E) (cI h0),NZ ja jl⟩
theorem sT:∀(q:T) {sc:Scope}{N:List Str}{e:Expr},kT c lv q sc N e=true→∃tt,(∀Z,CE c lv K t va sc N Z→PT Z e tt)∧dW K tt (eT t q)
 |.b x,sc,N,e,h=>by
  obtain⟨h1,h2⟩:=cR h
  obtain⟨ta,pa,ja⟩:=sX x h2
  exact⟨_,fun Z E=>@MC _ K _ _ E.k (pa Z E) (Tx h1),MD ja⟩
 |.c o a b,sc,N,e,h=>by
  have hh:=ax h;clear h;obtain⟨⟨l,op,r⟩,q,h⟩:=hh
  obtain⟨p,rfl⟩:=vk q
  obtain⟨h1,h0,h2,h3⟩:=fT h
  cases bu h1
  obtain⟨ta,pa,ja⟩:=sX a h2
  obtain⟨tb,pb,jb⟩:=sX b h3
  obtain⟨r,o1,o2⟩:=o.ok (K:=K)
  exact⟨_,fun Z E=>Pj (o1 Z E.k E.rm.units) (pa Z E) (pb Z E) (ou h0),D7 (vz o2 ja jb)⟩
 |.d n a b,sc,N,e,h=>by
  have hh:=ax h;clear h;obtain⟨⟨l,op,r⟩,q,h⟩:=hh
  obtain⟨p,rfl⟩:=vk q
  obtain⟨h1,h0,h2,h3⟩:=fT h
  cases bu h1
  obtain⟨ta,pa,ja⟩:=sX a h2
  obtain⟨tb,pb,jb⟩:=sX b h3
  cases n with
  |false=>exact⟨_,fun Z E=>@u5 _ _ _ _ _ _ (FN (lH E.rm) (pa Z E) (pb Z E)) (ou h0),qZ (Tg ja jb)⟩
  |true=>exact⟨_,fun Z E=>@u5 _ _ _ _ _ _ (DI (lH E.rm) (pa Z E) (pb Z E)) (ou h0),qZ (MQ ja jb)⟩
 |.t n a b,sc,N,e,h=>by
  have hh:=ax h;clear h;obtain⟨⟨l,op,r⟩,q,h⟩:=hh
  obtain⟨p,rfl⟩:=vk q
  obtain⟨h1,h0,h2,h3⟩:=fT h
  cases bu h1
  obtain⟨ta,pa,ja⟩:=sX a h2
  obtain⟨tb,pb,jb⟩:=sX b h3
  cases n with
  |false=>exact⟨_,fun Z E=>@u5 _ _ _ _ _ _ (FN (lH E.rm) (pa Z E) (pb Z E)) (ou h0),qZ (Tt ja jb)⟩
  |true=>exact⟨_,fun Z E=>@u5 _ _ _ _ _ _ (DI (lH E.rm) (pa Z E) (pb Z E)) (ou h0),qZ (MT ja jb)⟩
 |.h o p a b d,sc,N,e,h=>by
  have hh:=ax h;clear h;obtain⟨⟨l,op,op',m,r⟩,q,h⟩:=hh
  obtain⟨p',rfl⟩:=TB q
  obtain⟨h1,h2,h3,h4,h5,h6⟩:=xV h
  cases bu h1
  cases bu h2
  obtain⟨ta,pa,ja⟩:=sX a h4
  obtain⟨tb,pb,jb⟩:=sX b h5
  obtain⟨td,pd,jd⟩:=sX d h6
  obtain⟨r,o1,o2⟩:=o.ok (K:=K)
  obtain⟨r',Xp,B8⟩:=p.ok (K:=K)
  exact⟨_,fun Z E=>@Ny _ _ _ _ _ _ _ _ _ _ _ _ (o1 Z E.k E.rm.units) (Xp Z E.k E.rm.units) (pa Z E) (pb Z E) (pd Z E) (nb h3),D7 (Ob o2 B8 ja jb jd)⟩
 |.an a b,sc,N,e,h=>by
  have hh:=ax h;clear h;obtain⟨⟨x,y⟩,q,h⟩:=hh
  obtain⟨m,rest,pos,rfl,w⟩:=uS q
  obtain⟨h1,h2⟩:=cR h
  obtain⟨ta,pa,ja⟩:=sT a h1
  obtain⟨tb,pb,jb⟩:=sT b h2
  refine⟨_,fun Z E=>@PW.pt _ _ _ (@Ri _ _ _ _ _ tb _ (pa Z E) ?_),PH ja jb⟩
  rcases w with⟨rfl,rfl⟩|rfl
  ·exact @O6 _ _ _ _ (pb Z E)
  ·exact Hs (pb Z E)
 |.or a b,sc,N,e,h=>by
  have hh:=ax h;clear h;obtain⟨⟨x,y⟩,q,h⟩:=hh
  obtain⟨m,rest,pos,rfl,w⟩:=uS q
  obtain⟨h1,h2⟩:=cR h
  obtain⟨ta,pa,ja⟩:=sT a h1
  obtain⟨tb,pb,jb⟩:=sT b h2
  refine⟨_,fun Z E=>@PW.pt _ _ _ (@Ub _ _ _ _ _ tb _ (pa Z E) ?_),Ss ja jb⟩
  rcases w with⟨rfl,rfl⟩|rfl
  ·exact @Rh _ _ _ _ (pb Z E)
  ·exact Hs (pb Z E)
 |.nt a,sc,N,e,h=>by
  have hh:=ax h;clear h;obtain⟨⟨op,r⟩,q,h⟩:=hh
  obtain⟨p,rfl⟩:=zp q
  obtain⟨h1,h2⟩:=cR h
  cases bu h1
  obtain⟨ta,pa,ja⟩:=sT a h2
  exact⟨_,fun Z E=>Rj (pa Z E),PJ ja⟩
 |.y,sc,N,e,h=>absurd h a6
theorem sP:∀(l:P) {sc:Scope}{N:List Str}{e:Option Expr},kP c lv l sc N e=true→∃ta,(∀Z,CE c lv K t va sc N Z→PO Z e ta)∧tI K ta (eP t l)
 |.n,_,_,o,h=>by
  cases o with
  |some _=>cases h
  |none=>exact⟨_,fun _ _=>Pl,N1⟩
 |.s x,sc,N,o,h=>by
  have hh:=ax h;clear h;obtain⟨e,rfl,h⟩:=hh
  obtain⟨ta,pa,ja⟩:=sX x h
  exact⟨_,fun Z E=>Pm (pa Z E),N2 ja⟩
theorem sI:∀(i:I) {tg:Bool}{sc:Scope}{N:List Str}{e:Expr},kI c lv i tg sc N e=true→∃ti,(∀Z g,CE c lv K t va sc N Z→(tg=true→vL g=true)→PI Z g e ti)∧JI K ti (eI t i)
 |.r1 l,tg,sc,N,e,h=>by
  have hh:=ax h;clear h;obtain⟨⟨x,as⟩,q,h⟩:=hh
  obtain⟨p,cp,rfl,h4⟩:=mU q
  obtain⟨h1,h2,h3,h0,h5⟩:=mB h
  cases bu h1
  obtain⟨a,rfl⟩:=Iy (bu h0)
  obtain⟨ta,pa,ja⟩:=sA l h5
  exact⟨_,fun Z g E _=>@Mp _ _ _ _ _ _ (E.gl h2) (E.mg h3) (pa Z E) (cI (all1 h4).1),P0 ja⟩
 |.en l,tg,sc,N,e,h=>by
  have hh:=ax h;clear h;obtain⟨⟨x,as⟩,q,h⟩:=hh
  obtain⟨p,cp,rfl,h4⟩:=mU q
  obtain⟨h0,h1,h2,h3,h6,h5⟩:=xV h
  cases bu h1
  obtain⟨a,rfl⟩:=Iy (bu h6)
  obtain⟨ta,pa,ja⟩:=sA l h5
  refine⟨_,fun Z g E hg=>?_,Qn ja⟩
  have hg:=hg h0
  cases g<;>first|exact absurd hg a6|skip
  exact @Oh _ K _ _ _ _ _ _ _ E.k (E.gl h2) (E.mg h3) (pa Z E) (cI (all1 h4).1)
 |.s x,tg,sc,N,e,h=>by
  obtain⟨ta,pa,ja⟩:=sX x (e:=e) h
  exact⟨_,fun Z g E _=>Sb (pa Z E),Te ja⟩
 |.t x,tg,sc,N,e,h=>by
  obtain⟨ta,pa,ja⟩:=sX x (e:=e) h
  exact⟨_,fun Z g E _=>Qr E.k (pa Z E),SM ja⟩
 |.l x,tg,sc,N,e,h=>by
  obtain⟨ta,pa,ja⟩:=sX x (e:=e) h
  exact⟨_,fun Z g E _=>NV E.k (pa Z E),PZ ja⟩
end
end
noncomputable def loc(sc:Scope)(x:Str):Bool:=match sc.names.lookup x with
 |some .local=>true
 |some .cell=>true
 |_=>false
theorem Gw{sc:Scope}{x:Str}(h:loc sc x=true):L2.Loc sc x:=by
 unfold loc at h;unfold L2.Loc
 split at h<;>first|exact absurd h a6|simp_all
mutual
noncomputable def kG:G→Scope→List Str→Expr→Bool
 |.n i,sc,N,e=>on (qh e) fun x=>decide (N[i]?=some x)&&loc sc x
 |.t k l,sc,N,e=>on (uc e) fun es=>decide (es.length=k)&&es.all du&&xX l sc N es
 |.l k l,sc,N,e=>on (uc e) fun es=>decide (es.length=k)&&es.all du&&xX l sc N es
noncomputable def xX:Gs→Scope→List Str→List Expr→Bool
 |.n,_,_,es=>es.isEmpty
 |.c g l,sc,N,es=>on (jT es) fun q=>du q.1&&kG g sc N q.1&&xX l sc N q.2
end
noncomputable def An:Expr→Bool
 |.List [] _=>true
 |_=>false
theorem QQ{e:Expr}(h:An e=true):∃p,e=.List [] p:=by
 unfold An at h
 split at h
 ·exact⟨_,rfl⟩
 ·cases h
noncomputable def nW:Stmt→Option (Expr×Expr×Pos)
 |.Assign [tg] e pos=>some (tg,e,pos)
 |_=>none
noncomputable def qi(st:Stmt):Option (Str×Expr):=(nW st).bind fun q=>(qh q.1).map fun x=>(x,q.2.1)
noncomputable def xY:Stmt→Option Expr
 |.Expr e _=>some e
 |_=>none
noncomputable def B9:Stmt→Option (Option Expr)
 |.Return e _=>some e
 |_=>none
noncomputable def Ca:Stmt→Option (Expr×List Stmt×List Stmt)
 |.If e a b _=>some (e,a,b)
 |_=>none
noncomputable def uf:Stmt→Option (Expr×Expr×List Stmt)
 |.For tg it b [] _=>some (tg,it,b)
 |_=>none
noncomputable def Cb:Stmt→Option (Expr×List Stmt)
 |.While e b [] _=>some (e,b)
 |_=>none
theorem qS{st:Stmt}{q:Expr×Expr×Pos}(h:nW st=some q):st=.Assign [q.1] q.2.1 q.2.2:=by
 unfold nW at h
 split at h
 ·cases h;rfl
 ·cases h
theorem qT{st:Stmt}{y:Str}{e:Expr}(h:qi st=some (y,e)):∃p pos,st=.Assign [.Name y p] e pos:=by
 obtain⟨q,h1,h⟩:=iu h
 obtain⟨x,h2,h⟩:=vj h
 cases h
 obtain⟨p,e⟩:=oJ h2
 exact⟨p,q.2.2,by rw[qS h1,e]⟩
theorem vn{st:Stmt}{e:Expr}(h:xY st=some e):∃p,st=.Expr e p:=by
 cases st<;>cases h;exact⟨_,rfl⟩
theorem zq{st:Stmt}{e:Option Expr}(h:B9 st=some e):∃p,st=.Return e p:=by
 cases st<;>cases h;exact⟨_,rfl⟩
theorem Gx{st:Stmt}{e:Expr}{a b:List Stmt}(h:Ca st=some (e,a,b)):∃p,st=.If e a b p:=by
 cases st<;>cases h;exact⟨_,rfl⟩
theorem zr{st:Stmt}{a b:Expr}{l:List Stmt}(h:uf st=some (a,b,l)):∃p,st=.For a b l [] p:=by
 unfold uf at h
 split at h
 ·cases h;exact⟨_,rfl⟩
 ·cases h
theorem TN{st:Stmt}{e:Expr}{l:List Stmt}(h:Cb st=some (e,l)):∃p,st=.While e l [] p:=by
 unfold Cb at h
 split at h
 ·cases h;exact⟨_,rfl⟩
 ·cases h
noncomputable def Xq:Option (List Nat)→Bool
 |some (_::_)=>true
 |_=>false
noncomputable def Cd(c:Cf)(lv:Nat)(f:Nat)(l:A)(sc:Scope)(N:List Str)(e:Expr):Bool :=
 on (eN e) fun q=>on c.fs[f]? fun i=>decide (q.1=i.nm)&&gl sc q.1&&!(q.1 == "__debug__")&&decide (i.lv≤lv)&&decide (q.2.length=i.ar)&&Xq i.io&&!q.2.isEmpty&&kA c lv l sc N q.2
noncomputable def kL(c:Cf)(lv:Nat):L→Scope→List Str→Stmt→Bool
 |.rt x,sc,N,st=>on (B9 st) fun o=>on o fun e=>kX c lv x sc N e
 |.st i x,sc,N,st=>on (qi st) fun s=>decide (N[i]?=some s.1)&&loc sc s.1&&lJ s.2&&kX c lv x sc N s.2
 |.sc j i ix q e,sc,N,st=>on (qi st) fun s=>decide (N[j]?=some s.1)&&loc sc s.1&&kX c lv (.cp i ix q e) sc N s.2
 |.as g x,sc,N,st=>on (nW st) fun s=>vL s.1&&ua s.2.1&&kG g sc N s.1&&kX c lv x sc N s.2.1
 |.si k i x,sc,N,st=>on (nW st) fun s=>on (ll s.1) fun u=>mz u.2&&lJ s.2.1&&kX c lv (.v k) sc N u.1&&kX c lv i sc N u.2&&kX c lv x sc N s.2.1
 |.dp k i x,sc,N,st=>on (nW st) fun s=>on (ll s.1) fun u=>lJ s.2.1&&kX c lv (.v k) sc N u.1&&kX c lv i sc N u.2&&kX c lv x sc N s.2.1
 |.ap k x,sc,N,st=>on (xY st) fun e=>on (eM "append" e) fun q=>on (l1 q.2) fun a=>kX c lv (.v k) sc N q.1&&kX c lv x sc N a
 |.na k i x,sc,N,st=>on (xY st) fun e=>on (eM "append" e) fun q=>on (l1 q.2) fun a=>on (ll q.1) fun u=>mz u.2&&kX c lv (.v k) sc N u.1&&kX c lv i sc N u.2&&kX c lv x sc N a
 |.ne i it,sc,N,st=>on (qi st) fun s=>on (wz s.2) fun q=>decide (N[i]?=some s.1)&&loc sc s.1&&q.2.2.2.2.1.isEmpty&&An q.1&&BZ N (ns N q.2.1 []) sc q.2.2.2.2.2.1 q.2.1 []&&(iM q.2.2.2.1&&kI c lv it false sc N q.2.2.2.1)
 |.rT l,sc,N,st=>on (B9 st) fun o=>on o fun e=>on (uc e) fun es=>kA c lv l sc N es
 |.iD f _ l,sc,N,st=>on (xY st) fun e=>Cd c lv f l sc N e
 |.iS j f _ l,sc,N,st=>on (qi st) fun s=>decide (N[j]?=some s.1)&&loc sc s.1&&Cd c lv f l sc N s.2
noncomputable def Kp(c:Cf)(lv:Nat)(i:Nat):Ch→Scope→List Str→Stmt→Bool
 |.a k x,sc,N,st=>kL c lv (.na i k x) sc N st
 |.d k y x,sc,N,st=>on (nW st) fun s=>on (ll s.1) fun u=>on (ll u.1) fun v=>lJ s.2.1&&mz v.2&&kX c lv (.v i) sc N v.1&&kX c lv k sc N v.2&&kX c lv y sc N u.2&&kX c lv x sc N s.2.1
noncomputable def wB(c:Cf)(lv:Nat)(i:Nat):List Ch→Scope→List Str→List Stmt→Option (List Stmt)
 |[],_,_,ss=>some ss
 |x::l,sc,N,st::ss=>if Kp c lv i x sc N st=true then wB c lv i l sc N ss else none
 |_,_,_,_=>none
mutual
noncomputable def kS(c:Cf)(lv:Nat):S→Scope→List Str→Stmt→Bool
 |.l x,sc,N,st=>kL c lv x sc N st
 |.ie t a b,sc,N,st=>on (Ca st) fun q=>kT c lv t sc N q.1&&kB c lv a sc N q.2.1&&kB c lv b sc N q.2.2
 |.fo i g b,sc,N,st=>on (uf st) fun q=>kI c lv i (vL q.1) sc N q.2.1&&iM q.2.1&&kG g sc N q.1&&kB c lv b sc N q.2.2
 |.fi k g b,sc,N,st=>on (uf st) fun q=>on (eM "items" q.2.1) fun u=>vL q.1&&u.2.isEmpty&&kX c lv (.v k) sc N u.1&&kG g sc N q.1&&kB c lv b sc N q.2.2
 |.fk k g b,sc,N,st=>on (uf st) fun q=>iM q.2.1&&kX c lv (.v k) sc N q.2.1&&kG g sc N q.1&&kB c lv b sc N q.2.2
 |.wh t b,sc,N,st=>on (Cb st) fun q=>kT c lv t sc N q.1&&kB c lv b sc N q.2
 |.fz _ s,sc,N,st=>kS c lv s sc N st
noncomputable def kB(c:Cf)(lv:Nat):B→Scope→List Str→List Stmt→Bool
 |.n,_,_,ss=>ss.isEmpty
 |.o s,sc,N,ss=>on (l1 ss) fun st=>kS c lv s sc N st
 |.c s b,sc,N,ss=>on (jT ss) fun q=>kS c lv s sc N q.1&&kB c lv b sc N q.2
 |.u i x q r cs b,sc,N,ss=>on (jT ss) fun s=>on (jT s.2) fun z=>on (qi s.1) fun w=>on (Ca z.1) fun g=>on (l1 g.2.1) fun st=>on (wB c lv i cs sc N z.2) fun r'=>(decide (N[i]?=some w.1)&&loc sc w.1&&lJ w.2&&kX c lv x sc N w.2)&&kT c lv q sc N g.1&&kL c lv (.rt r) sc N st&&g.2.2.isEmpty&&kB c lv b sc N r'
end
structure CS (c:Cf)(lv:Nat)(K:PySem.W.Frag)(t:List FT)(va:List V)(sc:Scope)(N:List Str)(Z:Cx):Prop where
 e:CE c lv K t va sc N Z
 nd:N.Nodup
 fn:∀x,Z.fn x=true
 po:PassesOwn (model Z.prog Z.w) Z.A Z.env Z.xe
 kd:sc.kind=.function
section
variable {c:Cf}{lv:Nat}{K:PySem.W.Frag}{t:List FT}{va:List V}
theorem sV{k:Nat}{sc:Scope}{N:List Str}{e:Expr}(h:kX c lv (.v k) sc N e=true)(Z:Cx)(E:CE c lv K t va sc N Z):PE Z e (gq k):=by
 have hh:=ax h;clear h;obtain⟨x,q,h⟩:=hh
 obtain⟨p,rfl⟩:=oJ q
 obtain⟨h1,h2,h3,h4⟩:=fT h
 have h1:=bu h1
 have h2:=Gm h2
 exact @y9 _ _ _ _ (E.n▸h1) (E.sc▸h2) (nb h3) (nb h4)
theorem DT{e:Expr}(h:du e=true){es:List Expr}{env:Env}:assignEach (e::es) env=(false,assign e env)::assignEach es env:=by
 cases e<;>first|rfl|cases h
theorem qv{env:Env}:∀{es:List Expr},es.all du=true→(assignEach es env).length=es.length∧(assignEach es env).findIdx? (fun x=>x.1)=none
 |[],_=>⟨rfl,rfl⟩
 |e::es,h=>by
  rw[jF,gx]at h
  obtain⟨h1,h2⟩:=qv (env:=env) h.2
  rw[DT h.1]
  refine⟨by simp[h1],?_⟩
  rw[List.findIdx?_cons,h2]
  rfl
mutual
theorem sG:∀(g:G) {sc:Scope}{N:List Str}{e:Expr},kG g sc N e=true→∃tg,(∀Z,CS c lv K t va sc N Z→PG Z e tg)∧JG K tg (eG g)
 |.n i,sc,N,e,h=>by
  have hh:=ax h;clear h;obtain⟨x,q,h⟩:=hh
  obtain⟨p,rfl⟩:=oJ q
  obtain⟨h1,h2⟩:=cR h
  have h1:=bu h1
  exact⟨_,fun Z E=>@EC _ _ i _ (E.e.n▸E.nd) (E.e.n▸h1) (E.e.sc▸Gw h2) (.inl (E.fn _)),P1⟩
 |.t k l,sc,N,e,h=>by
  have hh:=ax h;clear h;obtain⟨es,q,h⟩:=hh
  obtain⟨k',p,rfl⟩:=vm q
  obtain⟨h1,h2,h3⟩:=fS h
  cases bu h1
  obtain⟨tg,pg,jg⟩:=Ce l h3
  exact⟨_,fun Z E=>E.e.k▸@Rn _ _ _ _ _ _ E.e.calm (pg Z E) (qv h2).1 (qv h2).2,SN jg⟩
 |.l k l,sc,N,e,h=>by
  have hh:=ax h;clear h;obtain⟨es,q,h⟩:=hh
  obtain⟨k',p,rfl⟩:=vm q
  obtain⟨h1,h2,h3⟩:=fS h
  cases bu h1
  obtain⟨tg,pg,jg⟩:=Ce l h3
  exact⟨_,fun Z E=>E.e.k▸@R7 _ _ _ _ _ _ E.e.calm (pg Z E) (qv h2).1 (qv h2).2,Tc jg⟩
theorem Ce:∀(l:Gs) {sc:Scope}{N:List Str}{es:List Expr},xX l sc N es=true→∃tg,(∀Z,CS c lv K t va sc N Z→pU Z es tg)∧p7 K tg (xT l)
 |.n,_,_,es,h=>by
  cases fC.mp h
  exact⟨_,fun _ _=>Pa,P2⟩
 |.c g l,sc,N,es,h=>by
  have hh:=ax h;clear h;obtain⟨⟨e,r⟩,q,h⟩:=hh
  cases iw q
  obtain⟨h0,h1,h2⟩:=fS h
  obtain⟨ta,pa,ja⟩:=sG g h1
  obtain⟨tl,pl,jl⟩:=Ce l h2
  exact⟨_,fun Z E=>@Nv _ _ _ _ _ (pa Z E) (pl Z E) (by rw[DT h0];rfl),N7 ja jl⟩
end
theorem Kq:∀(l:A) {sc:Scope}{N:List Str}{es:List Expr},kA c lv l sc N es=true→∃ta,(∀Z,CE c lv K t va sc N Z→PA Z es ta)∧jR K ta (eA t l) (pH l)
 |.n,_,_,es,h=>by
  cases fC.mp h
  exact⟨_,fun _ _=>qK,Qo⟩
 |.c a l,sc,N,es,h=>by
  have hh:=ax h;clear h;obtain⟨⟨e,r⟩,q,h⟩:=hh
  cases iw q
  obtain⟨h0,h1,h2⟩:=fS h
  obtain⟨tl,pl,jl⟩:=Kq l h2
  cases a with
  |v i=>exact⟨_,fun Z E=>@uJ _ _ _ _ _ (sV h1 Z E) (pl Z E) (cI h0),Qp jl⟩
  |_ =>
   obtain⟨ta,pa,ja⟩:=sX _ h1
   exact⟨_,fun Z E=>@uJ _ _ _ _ _ (pa Z E) (pl Z E) (cI h0),Oi ja jl⟩
theorem lK{e:Expr}{o:Option Expr}{n:Nat}{env:Env}(h:lJ e=true):swapsWith e o n env=pure false:=by
 cases e<;>first|rfl|cases h
end
end C
set_option maxHeartbeats 4000000
namespace C
open PySem PySem.Spec L2 J
section
variable {c:Cf}{lv:Nat}{K:PySem.W.Frag}{t:List FT}{va:List V}
theorem Fs{el:Expr}{gs:List Comprehension}{au:Scope}{ep py:Pos}{y:Str}{n:Nat}{env:Env} :
  swapsWith (.ListComp el gs au ep) (some (.Name y py)) n env=pure true∧env.scope.names.lookup y=some .local∨swapsWith (.ListComp el gs au ep) (some (.Name y py)) n env=pure false:=by
 have e:swapsWith (.ListComp el gs au ep) (some (.Name y py)) n env=pure (env.blockKind==.function&&env.kindOf y==some .local&&py.line==ep.line&&!(au.names.any fun x=>match x with | (n,k)=>n==y&&(k==NameKind.local||k==NameKind.cell))):=rfl
 rw[e]
 generalize hb:(env.blockKind==.function&&env.kindOf y==some .local&&py.line==ep.line&&!(au.names.any fun x=>match x with | (n,k)=>n==y&&(k==NameKind.local||k==NameKind.cell)))=b
 cases b with
 |false=>exact .inr rfl
 |true =>
  obtain⟨_,h,_,_⟩:=fT hb
  exact .inl ⟨rfl,by simpa[Env.kindOf]using h⟩
theorem Xr{i:I}{ix:List Nat}{t':T}{d:X}{sc:Scope}{N:List Str}{e:Expr}(h:kX c lv (.cp i ix t' d) sc N e=true) :
  ∃el x px it ifs au ep wi tc te,e=.ListComp el [⟨.Name x px,it,ifs,0⟩] au ep∧(∀Z,CE c lv K t va sc N Z→j5 Z.N (ns N x ix) Z.env.scope au x ix∧PI Z (.Name x px) it wi∧(∀C s₂ H₂ fp pn,mj (Z.bV (ns N x ix) au C s₂ H₂ fp pn) ifs tc)∧(∀C s₂ H₂ fp pn,PE (Z.bV (ns N x ix) au C s₂ H₂ fp pn) el te))∧iM it=true∧JT K (oO wi ix tc te) (eX t (.cp i ix t' d)):=by
 have hh:=ax h;clear h;obtain⟨⟨el,x,px,it,ifs,au,ep⟩,q,h⟩:=hh
 cases yX q
 obtain⟨h1,h2,h3,h4,h5⟩:=mB h
 have h1:=zo h1
 obtain⟨ti,pi,ji⟩:=sI i h3
 obtain⟨te,pe,je⟩:=sX d h5
 have h4:(ifs.isEmpty=true∧B4 t'=true)∨(on (l1 ifs) fun y=>kT c lv t' (rl sc au) (ns N x ix) y)=true:=by simpa using h4
 rcases h4 with⟨w1,w2⟩|h4
 ·cases fC.mp w1
  cases t'<;>first|exact absurd w2 a6|skip
  exact⟨el,x,px,it,[],au,ep,_,_,_,rfl,fun Z E=>⟨by rw[E.n,E.sc];exact h1,pi Z (.Name x px) E (fun z=>absurd z a6),(fun C s₂ H₂ fp pn=>uK),(fun C s₂ H₂ fp pn=>pe _ E.bV)⟩,h2,uO ji E2 je⟩
 ·have hh:=ax h4;clear h4;obtain⟨y,q,h4⟩:=hh
  cases iC q
  obtain⟨tq,pq,jq⟩:=sT t' h4
  exact⟨el,x,px,it,[y],au,ep,_,_,_,rfl,fun Z E=>⟨by rw[E.n,E.sc];exact h1,pi Z (.Name x px) E (fun z=>absurd z a6),(fun C s₂ H₂ fp pn=>EL (pq _ E.bV)),(fun C s₂ H₂ fp pn=>pe _ E.bV)⟩,h2,uO ji jq je⟩
theorem Kr{f:Nat}{l:A}{sc:Scope}{N:List Str}{e:Expr}(h:Cd c lv f l sc N e=true):∃n ta,(∀Z,CE c lv K t va sc N Z→PE Z e (j8 (pE K n (FT.l t[f]?) (FT.o t[f]?)) [] E0 ta))∧jR K ta (eA t l) (pH l)∧lJ e=true∧∀(e:Ev) (ak:List (M×D)),eA t l e=some ak→ak.length=n:=by
 have hh:=ax h;clear h;obtain⟨⟨x,as⟩,q,h⟩:=hh
 obtain⟨p,cp,rfl,ud⟩:=mU q
 have hh:=ax h;clear h;obtain⟨i,hf,h⟩:=hh
 obtain⟨h1,h2,h3,h4,h5,gS,h0,h8⟩:=B7 h
 obtain⟨a,r,rfl⟩:=uT h0
 obtain⟨h6,h7⟩:=all1 ud
 have h1:=bu h1
 obtain⟨ta,pa,ja⟩:=Kq l h8
 have hl:=wA (t:=t) h8
 rw[show(a::r).length=i.ar from bu h5]at hl
 refine⟨i.ar,ta,fun Z E=>?_,ja,rfl,hl⟩
 obtain⟨F,hF,q⟩:=E.fs f i hf
 cases F with
 |p F=>rw[q.1]at gS;cases gS
 |oo F=>rw[q.1]at gS;cases gS
 |io l F =>
  obtain⟨_,a,fd,ps,k1,k2,k3,k4⟩:=q
  rw[←h1]at k2
  rw[hF,←E.k]
  exact @yL _ _ _ _ _ _ _ _ _ _ _ _ _ _ _ _ k1 (E.rm.mono (bu h4)) (E.gl h2) k2 k3 k4.1 .nil zE (pa Z E) (nb h3) (cI h6) (gY h7 _)
theorem TQ{e:Expr}(h:ua e=true):lJ e=true:=by
 cases e<;>first|rfl|cases h
theorem TR{e:Expr}{es:List Expr}{k:Nat}{p:Pos}{env:Env}(h:ua e=true):swappedStores [.Tuple es k p] e env=pure none:=by
 cases e<;>first|rfl|cases h
theorem nP{o a:Expr}{ap cp:Pos}{to ta:TE}{Z:Cx}(k:Z.K=K)(ho:PE Z o to)(ha:PE Z a ta)(h4:lj o=true)(h5:(ap.endLine==cp.line)=true)(h6:du a=true):PE Z (.Call (.Attribute o "append" ap) [a] [] cp) (nK K "list" qE to (lG ta kr)) :=
 k▸@GY _ _ _ _ _ _ _ _ _ _ _ _ PySem.F.plainAttrs_list PySem.F.slot_list_append PySem.F.type_list_append DG ho (@uJ _ _ _ _ _ ha qK (cI h6)) (oI h4) (Gr h6) h5 (cI h6) Gu
theorem rX{Z:Cx}{sc:Scope}{N:List Str}{e:Expr}{te:TE}{pos py:Pos}{y:Str}{i:Nat}(E:CS c lv K t va sc N Z)(h1:N[i]?=some y)(h2:loc sc y=true)(h:PE Z e te)(hs:swapsWith e (some (Expr.Name y py)) pos.line Z.env=pure false):dZ Z (.Assign [.Name y py] e pos) (gK te (g7 i)) :=
 @Tf _ _ _ _ _ _ i (E.e.n▸E.nd) (E.e.n▸h1) (E.e.sc▸Gw h2) h hs (.inl (E.fn _))
theorem sL:∀(s:L) {sc:Scope}{N:List Str}{st:Stmt},kL c lv s sc N st=true→∃ts,(∀Z,CS c lv K t va sc N Z→dZ Z st ts)∧JS K ts (eL t s)
 |.rt x,sc,N,st,h=>by
  have hh:=ax h;clear h;obtain⟨o,q,h⟩:=hh
  obtain⟨p,rfl⟩:=zq q
  have hh:=ax h;clear h;obtain⟨e,rfl,h⟩:=hh
  obtain⟨te,pe,je⟩:=sX x h
  exact⟨_,fun Z E=>zj (pe Z E.e),SD je⟩
 |.st i x,sc,N,st,h=>by
  have hh:=ax h;clear h;obtain⟨⟨y,e⟩,q,h⟩:=hh
  obtain⟨py,pos,rfl⟩:=qT q
  obtain⟨h1,h2,h3,h4⟩:=fT h
  obtain⟨te,pe,je⟩:=sX x h4
  exact⟨_,fun Z E=>rX E (bu h1) h2 (pe Z E.e) (lK h3),F1 je⟩
 |.sc j i ix t' d,sc,N,st,h=>by
  have hh:=ax h;clear h;obtain⟨⟨y,e⟩,q,h⟩:=hh
  obtain⟨py,pos,rfl⟩:=qT q
  obtain⟨h1,h2,h3⟩:=fS h
  have h1:=bu h1
  obtain⟨el,z,pz,it,ifs,au,ep,wi,tc,te,e,pe,ns,je⟩:=Xr h3
  have e:_=Expr.ListComp el [⟨.Name z pz,it,ifs,0⟩] au ep:=e
  subst e
  refine⟨_,fun Z E=>?_,F1 je⟩
  obtain⟨p1,p2,p3,p4⟩:=pe Z E.e
  rcases Fs (el:=el) (gs:=[⟨.Name z pz,it,ifs,0⟩]) (au:=au) (ep:=ep) (py:=py) (y:=y) (n:=pos.line) (env:=Z.env) with⟨w,l⟩|w
  ·exact @Dp _ _ _ _ _ _ _ _ _ _ _ _ _ j _ _ _ (E.e.n▸E.nd) (E.e.n▸h1) l p1 E.e.calm p2 p3 p4 w (jZ ns)
  ·exact rX E h1 h2 (@uL _ _ _ _ _ _ _ _ _ _ _ _ _ p1 E.e.calm p2 p3 p4 (jZ ns)) w
 |.as g x,sc,N,st,h=>by
  have hh:=ax h;clear h;obtain⟨⟨tg,e,pos⟩,q,h⟩:=hh
  cases qS q
  obtain⟨h1,h2,h3,h4⟩:=fT h
  obtain⟨te,pe,je⟩:=sX x h4
  obtain⟨Cg,pg,jg⟩:=sG g h3
  refine⟨_,fun Z E=>@Gf _ _ _ _ _ _ (pe Z E.e) (pg Z E) ?_ ?_ ?_,SQ je jg⟩
  ·exact(show swapsWith e (some tg) pos.line Z.env=pure false from lK (TQ h2))
  ·cases tg<;>first|exact absurd h1 a6|skip
   exact TR h2
  ·cases tg<;>first|rfl|exact absurd h1 a6
 |.si k i x,sc,N,st,h=>by
  have hh:=ax h;clear h;obtain⟨⟨tg,e,pos⟩,q,h⟩:=hh
  cases qS q
  have hh:=ax h;clear h;obtain⟨⟨o,ie⟩,q,h⟩:=hh
  obtain⟨p,r⟩:=j7 q
  have r:tg=_:=r
  subst r
  obtain⟨h1,h2,h3,h4,h5⟩:=mB h
  obtain⟨ti,pi,ji⟩:=sX i h4
  obtain⟨te,pe,je⟩:=sX x h5
  refine⟨_,fun Z E=>@Gf _ _ _ _ _ _ (pe Z E.e) (@Ro _ _ _ _ _ _ _ (sV h3 Z E.e) (pi Z E.e) set_list (Tw h1)) ?_ ?_ rfl,N4 je ji⟩
  ·exact(show swapsWith e (some (Expr.Subscript o ie p)) pos.line Z.env=pure false from lK h2)
  ·cases e<;>rfl
 |.dp k i x,sc,N,st,h=>by
  have hh:=ax h;clear h;obtain⟨⟨tg,e,pos⟩,q,h⟩:=hh
  cases qS q
  have hh:=ax h;clear h;obtain⟨⟨o,ie⟩,q,h⟩:=hh
  obtain⟨p,r⟩:=j7 q
  have r:tg=_:=r
  subst r
  obtain⟨h2,h3,h4,h5⟩:=fT h
  obtain⟨ti,pi,ji⟩:=sX i h4
  obtain⟨te,pe,je⟩:=sX x h5
  exact⟨_,fun Z E=>E7 (lH E.e.rm) (sV h3 Z E.e) (pi Z E.e) (pe Z E.e) (lK h2),Qw je ji⟩
 |.ap k x,sc,N,st,h=>by
  have hh:=ax h;clear h;obtain⟨e,q,h⟩:=hh
  obtain⟨pos,rfl⟩:=vn q
  have hh:=ax h;clear h;obtain⟨⟨o,as⟩,q,h⟩:=hh
  obtain⟨ap,cp,rfl,h2,h3,h4⟩:=mS q
  have hh:=ax h;clear h;obtain⟨a,q1,h⟩:=hh
  cases iC q1
  obtain⟨h5,h6⟩:=cR h
  obtain⟨te,pe,je⟩:=sX x h6
  exact⟨_,fun Z E=>@uQ _ _ _ _ (nP E.e.k (sV h5 Z E.e) (pe Z E.e) h2 h3 (all1 h4).1) rfl,SJ je⟩
 |.na k i x,sc,N,st,h=>by
  have hh:=ax h;clear h;obtain⟨e,q,h⟩:=hh
  obtain⟨pos,rfl⟩:=vn q
  have hh:=ax h;clear h;obtain⟨⟨o,as⟩,q,h⟩:=hh
  obtain⟨ap,cp,rfl,h2,h3,h4⟩:=mS q
  have hh:=ax h;clear h;obtain⟨a,q1,h⟩:=hh
  cases iC q1
  have hh:=ax h;clear h;obtain⟨⟨o',ie⟩,q,h⟩:=hh
  obtain⟨p,r⟩:=j7 q
  have r:o=_:=r
  subst r
  obtain⟨h0,h5,h6,h7⟩:=fT h
  obtain⟨ti,pi,ji⟩:=sX i h6
  obtain⟨te,pe,je⟩:=sX x h7
  exact⟨_,fun Z E=>@uQ _ _ _ _ (nP E.e.k (@vw _ _ _ _ _ _ _ (uM E.e.k) (sV h5 Z E.e) (pi Z E.e) (vM h0)) (pe Z E.e) h2 h3 (all1 h4).1) rfl,Qz ji je⟩
 |.ne i it,sc,N,st,h=>by
  have hh:=ax h;clear h;obtain⟨⟨y,e⟩,q,h⟩:=hh
  obtain⟨py,pos,rfl⟩:=qT q
  have hh:=ax h;clear h;obtain⟨⟨el,z,pz,ie,ifs,au,ep⟩,q,h⟩:=hh
  have r:e=_:=yX q
  subst r
  obtain⟨h1,h2,q1,q2,h6,h7⟩:=xV h
  obtain⟨h4,h5⟩:=cR h7
  have h1:=bu h1
  obtain⟨lp,r⟩:=QQ q2
  have r:el=_:=r
  subst r
  cases fC.mp q1
  have h6:=zo h6
  obtain⟨ti,pi,ji⟩:=sI it h5
  refine⟨_,fun Z E=>?_,Qy (ix:=[]) ji⟩
  have p1:j5 Z.N (ns N z []) Z.env.scope au z []:=by rw[E.e.n,E.e.sc];exact h6
  have p2:=pi Z (.Name z pz) E.e (fun z=>absurd z a6)
  rcases Fs (el:=.List [] lp) (gs:=[⟨.Name z pz,ie,[],0⟩]) (au:=au) (ep:=ep) (py:=py) (y:=y) (n:=pos.line) (env:=Z.env) with⟨w,l⟩|w
  ·exact @Dp _ _ _ _ _ _ _ _ _ _ _ _ _ i _ _ _ (E.e.n▸E.nd) (E.e.n▸h1) l p1 E.e.calm p2 (fun C s₂ H₂ fp pn=>uK) (fun C s₂ H₂ fp pn=>zb qK) w (jZ h4)
  ·exact rX E h1 h2 (@uL _ _ _ _ _ _ _ _ _ _ _ _ _ p1 E.e.calm p2 (fun C s₂ H₂ fp pn=>uK) (fun C s₂ H₂ fp pn=>zb qK) (jZ h4)) w
 |.rT l,sc,N,st,h=>by
  have hh:=ax h;clear h;obtain⟨o,q,h⟩:=hh
  obtain⟨p,rfl⟩:=zq q
  have hh:=ax h;clear h;obtain⟨e,rfl,h⟩:=hh
  have hh:=ax h;clear h;obtain⟨es,q,h⟩:=hh
  obtain⟨k',p',rfl⟩:=vm q
  obtain⟨ta,pa,ja⟩:=sA l h
  exact⟨_,fun Z E=>zj (FJ (pa Z E.e)),QK ja⟩
 |.iD f sl l,sc,N,st,h=>by
  have hh:=ax h;clear h;obtain⟨e,q,h⟩:=hh
  obtain⟨pos,rfl⟩:=vn q
  obtain⟨n,ta,p1,p2,nc,p3⟩:=Kr h
  exact⟨_,fun Z E=>@uQ _ _ _ _ (p1 Z E.e) (lK nc),MP p2 p3⟩
 |.iS j f sl l,sc,N,st,h=>by
  have hh:=ax h;clear h;obtain⟨⟨y,e⟩,q,h⟩:=hh
  obtain⟨py,pos,rfl⟩:=qT q
  obtain⟨h1,h2,h3⟩:=fS h
  obtain⟨n,ta,p1,p2,nc,p3⟩:=Kr h3
  exact⟨_,fun Z E=>rX E (bu h1) h2 (p1 Z E.e) (lK nc),Oj p2 p3⟩
theorem Xs{i:Nat}:∀(x:Ch) {sc:Scope}{N:List Str}{st:Stmt},Kp c lv i x sc N st=true→∃ts,(∀Z,CS c lv K t va sc N Z→dZ Z st ts)∧xP K i ts (BW t x)
 |.a k x,sc,N,st,h=>by
  have hh:=ax h;clear h;obtain⟨e,q,h⟩:=hh
  obtain⟨pos,rfl⟩:=vn q
  have hh:=ax h;clear h;obtain⟨⟨o,as⟩,q,h⟩:=hh
  obtain⟨ap,cp,rfl,h2,h3,h4⟩:=mS q
  have hh:=ax h;clear h;obtain⟨a,q1,h⟩:=hh
  cases iC q1
  have hh:=ax h;clear h;obtain⟨⟨o',ie⟩,q,h⟩:=hh
  obtain⟨p,r⟩:=j7 q
  have r:o=_:=r
  subst r
  obtain⟨h0,h5,h6,h7⟩:=fT h
  obtain⟨ti,pi,ji⟩:=sX k h6
  obtain⟨te,pe,je⟩:=sX x h7
  exact⟨_,fun Z E=>@uQ _ _ _ _ (nP E.e.k (@vw _ _ _ _ _ _ _ (uM E.e.k) (sV h5 Z E.e) (pi Z E.e) (vM h0)) (pe Z E.e) h2 h3 (all1 h4).1) rfl,UJ ji je⟩
 |.d k y x,sc,N,st,h=>by
  have hh:=ax h;clear h;obtain⟨⟨tg,e,pos⟩,q,h⟩:=hh
  cases qS q
  have hh:=ax h;clear h;obtain⟨⟨o,ie⟩,q,h⟩:=hh
  obtain⟨p,r⟩:=j7 q
  have r:tg=_:=r
  subst r
  have hh:=ax h;clear h;obtain⟨⟨o',ke⟩,q,h⟩:=hh
  obtain⟨p',r⟩:=j7 q
  have r:o=_:=r
  subst r
  obtain⟨h1,h2,h3,h4,h5,h6⟩:=xV h
  obtain⟨tk,pk,jk⟩:=sX k h4
  obtain⟨ty,py,jy⟩:=sX y h5
  obtain⟨te,pe,je⟩:=sX x h6
  exact⟨_,fun Z E=>E7 (lH E.e.rm) (@vw _ _ _ _ _ _ _ (uM E.e.k) (sV h3 Z E.e) (pk Z E.e) (vM h2)) (py Z E.e) (pe Z E.e) (lK h1),UK jk jy je⟩
theorem Iz{i:Nat}:∀(l:List Ch) {sc:Scope}{N:List Str}{ss rs:List Stmt},wB c lv i l sc N ss=some rs→∃ts,(∀Z tb,CS c lv K t va sc N Z→iK Z rs tb→iK Z ss (ts.foldr lN tb))∧pG K i ts (l.map (BW t))
  |[],sc,N,ss,rs,h=>by
    cases h
    exact⟨[],fun _ _ _ q=>q,.nil⟩
  |x::l,sc,N,[],rs,h=>by cases h
  |x::l,sc,N,st::ss,rs,h=>by
    unfold wB at h
    split at h
    · rename_i hk
      obtain⟨ta,pa,ja⟩:=Xs x hk
      obtain⟨ts,ps,js⟩:=Iz l h
      exact⟨ta::ts,fun Z tb E q=>uG (pa Z E) (ps Z tb E q),.cons ja js⟩
    · cases h
mutual
theorem sS:∀(s:S) {sc:Scope}{N:List Str}{st:Stmt},kS c lv s sc N st=true→∃ts,(∀Z,CS c lv K t va sc N Z→dZ Z st ts)∧JS K ts (eS t s)
 |.l x,sc,N,st,h=>sL x (st:=st) h
 |.ie t' a b,sc,N,st,h=>by
  have hh:=ax h;clear h;obtain⟨⟨e,as,bs⟩,q,h⟩:=hh
  obtain⟨p,rfl⟩:=Gx q
  obtain⟨h1,h2,h3⟩:=fS h
  obtain⟨tq,pq,jq⟩:=sT t' h1
  obtain⟨ta,pa,ja⟩:=sB a h2
  obtain⟨tb,pb,jb⟩:=sB b h3
  exact⟨_,fun Z E=>Hl (pq Z E.e) (pa Z E) (pb Z E),UC jq ja jb⟩
 |.fo i g b,sc,N,st,h=>by
  have hh:=ax h;clear h;obtain⟨⟨tg,it,body⟩,q,h⟩:=hh
  obtain⟨p,rfl⟩:=zr q
  obtain⟨h1,h2,h3,h4⟩:=fT h
  obtain⟨ti,pi,ji⟩:=sI i h1
  obtain⟨Cg,pg,jg⟩:=sG g h3
  obtain⟨tb,pb,jb⟩:=sB b h4
  exact⟨_,fun Z E=>@zk _ _ _ _ _ _ _ _ E.po E.e.calm (pi Z tg E.e id) (pg Z E) (pb Z E) (jZ h2),SR ji jg jb⟩
 |.fi k g b,sc,N,st,h=>by
  have hh:=ax h;clear h;obtain⟨⟨tg,it,body⟩,q,h⟩:=hh
  obtain⟨p,rfl⟩:=zr q
  have hh:=ax h;clear h;obtain⟨⟨o,as⟩,q,h⟩:=hh
  obtain⟨ap,cp,r,h2,h3,_⟩:=mS q
  have r:it=_:=r
  subst r
  obtain⟨h4,h0,h5,h6,h7⟩:=mB h
  cases fC.mp h0
  obtain⟨Cg,pg,jg⟩:=sG g h6
  obtain⟨tb,pb,jb⟩:=sB b h7
  refine⟨_,fun Z E=>?_,QB (i:=k) jg jb⟩
  cases tg<;>first|exact absurd h4 a6|skip
  exact Tp (@zk _ _ _ _ _ _ _ _ E.po E.e.calm (@Ox _ _ _ _ _ _ _ _ (sV h5 Z E.e) (oI h2) h3) (pg Z E) (pb Z E) (jZ rfl))
 |.fk k g b,sc,N,st,h=>by
  have hh:=ax h;clear h;obtain⟨⟨tg,it,body⟩,q,h⟩:=hh
  obtain⟨p,rfl⟩:=zr q
  obtain⟨h2,h5,h6,h7⟩:=fT h
  obtain⟨Cg,pg,jg⟩:=sG g h6
  obtain⟨tb,pb,jb⟩:=sB b h7
  exact⟨_,fun Z E=>QI (@zk _ _ _ _ _ _ _ _ E.po E.e.calm (QL (sV h5 Z E.e)) (pg Z E) (pb Z E) (jZ h2)),QN (i:=k) jg jb⟩
 |.wh t' b,sc,N,st,h=>by
  have hh:=ax h;clear h;obtain⟨⟨e,body⟩,q,h⟩:=hh
  obtain⟨p,rfl⟩:=TN q
  obtain⟨h1,h2⟩:=cR h
  obtain⟨tq,pq,jq⟩:=sT t' h1
  obtain⟨tb,pb,jb⟩:=sB b h2
  exact⟨_,fun Z E=>Ot E.po (pq Z E.e) (pb Z E),N8 jq jb⟩
 |.fz k s,sc,N,st,h=>by
  obtain⟨ts,ps,js⟩:=sS s (st:=st) h
  exact⟨_,ps,SK js⟩
theorem sB:∀(b:B) {sc:Scope}{N:List Str}{ss:List Stmt},kB c lv b sc N ss=true→∃ts,(∀Z,CS c lv K t va sc N Z→iK Z ss ts)∧JS K ts (eB t b)
 |.n,_,_,ss,h=>by
  cases fC.mp h
  exact⟨_,fun _ _=>E5,PY⟩
 |.o s,_,_,ss,h=>by
  have hh:=ax h;clear h;obtain⟨st,q,h⟩:=hh
  cases iC q
  obtain⟨ts,ps,js⟩:=sS s h
  exact⟨_,fun Z E=>E6 (ps Z E),js⟩
 |.c s b,_,_,ss,h=>by
  have hh:=ax h;clear h;obtain⟨⟨st,r⟩,q,h⟩:=hh
  cases iw q
  obtain⟨h1,h2⟩:=cR h
  obtain⟨ts,ps,js⟩:=sS s h1
  obtain⟨tb,pb,jb⟩:=sB b h2
  exact⟨_,fun Z E=>uG (ps Z E) (pb Z E),Sz js jb⟩
 |.u i x q r cs b,sc,N,ss,h=>by
  have hh:=ax h;clear h;obtain⟨⟨s1,Xt⟩,w,h⟩:=hh
  cases iw w
  have hh:=ax h;clear h;obtain⟨⟨s2,Zb⟩,w,h⟩:=hh
  have w:Xt=_:=iw w
  subst w
  have hh:=ax h;clear h;obtain⟨⟨y,e⟩,w,h⟩:=hh
  obtain⟨py,pos,w⟩:=qT w
  have w:s1=_:=w
  subst w
  have hh:=ax h;clear h;obtain⟨⟨ce,as,bs⟩,w,h⟩:=hh
  obtain⟨p,w⟩:=Gx w
  have w:s2=_:=w
  subst w
  have hh:=ax h;clear h;obtain⟨st,w,h⟩:=hh
  have w:as=_:=iC w
  subst w
  have hh:=ax h;clear h;obtain⟨rs,w,h⟩:=hh
  obtain⟨h0,h5,h6,h7,h8⟩:=mB h
  obtain⟨h1,h2,h3,h4⟩:=fT h0
  have h7:bs=[]:=fC.mp h7
  subst h7
  have hh:=ax h6;clear h6;obtain⟨o,v,h6⟩:=hh
  obtain⟨p',rfl⟩:=zq v
  have hh:=ax h6;clear h6;obtain⟨e',rfl,h6⟩:=hh
  obtain⟨te,pe,je⟩:=sX x h4
  obtain⟨tq,pq,jq⟩:=sT q h5
  obtain⟨tr,pr,jr⟩:=sX r h6
  obtain⟨tb,pb,jb⟩:=sB b h8
  obtain⟨Zc,pc,jc⟩:=Iz cs w
  exact⟨_,fun Z E=>uG (rX E (bu h1) h2 (pe Z E.e) (lK h3)) (uG (Hl (pq Z E.e) (E6 (zj (pr Z E.e))) E5) (pc Z tb E (pb Z E))),UL je jq jr jc jb⟩
end
end
end C
namespace C
open PySem PySem.Spec L2 J My
def gJ(P:Program)(w:World)(K:PySem.W.Frag)(mg:Str→Option Value)(base:Heap)(fs:List Fi)(t:List FT):Prop :=
 ∀(i:Nat) fi,fs[i]?=some fi→∃F,t[i]?=some F∧jU P w K mg base fi F
structure xZ (K:PySem.W.Frag)(mg:Str→Option Value)(x:Str)(st:Stmt)(ps:List Str)(df:Option Int)(f:Addr)(fd:FuncData):Prop where
 mg:mg x=some (.ref f)
 fn:wt K x st f fd
 bd:Binds K fd ps []
 xO:∀n,df=some n→∃t,Binds K fd ps [.int n t]
noncomputable def kF(c:Cf)(lv:Nat)(N ps:List Str)(st:Stmt)(b:B):Bool :=
 decide ((bQ st).kind=.function∧(bQ st).isCoroutine=false∧(bQ st).isGenerator=false∧N.Nodup∧N.take ps.length=ps ∧
  (∀x∈ps,(bQ st).names.lookup x=some .local∨(bQ st).names.lookup x=some .cell)∧(∀y∈(bQ st).names,y.2≠.free))&&kB c lv b (bQ st) N (dn st)
section
variable {P:Program}{w:World}{K:PySem.W.Frag}{mg:Str→Option Value}{base:Heap}{t:List FT}{va:List V}
theorem gJ.nil:gJ P w K mg base [] t:=fun i fi h=>by simp at h
theorem gJ.cons{fs:List Fi}{f:Fi}{F:FT}(h:gJ P w K mg base fs t)(q:jU P w K mg base f F):gJ P w K mg base (f::fs) (F::t)
 |0,fi,e=>by cases e;exact⟨F,rfl,q⟩
 |i+1,fi,e=>h i fi e
theorem ctx{bs:List String}{gs:List (Str×Gv)}{fs:List Fi}{lv:Nat}{N ps:List Str}{st:Stmt}{b:B}{qual:Str}{f:Addr}{cd:Value}{A:Around}{outer:List Env}{s:Shared}{H:Hp}{E:XK}(h:gJ P w K mg base fs t)(hb:∀x∈bs,mg (Str.ofString x)=none)(hg:GV K mg va gs)(k:kF ⟨bs,gs,fs⟩ lv N ps st b=true)
  (hr:dw lv (A.deeper (PyProof.Rows.envOfC qual (bQ st) s.heap.objs.size f cd))):CS ⟨bs,gs,fs⟩ lv K t va (bQ st) N ((lO kZ P w K mg base N qual (bQ st) f cd A outer s H E).nH):=by
 obtain⟨k1,k2⟩:=cR k
 obtain⟨h1,h2,h3,h4,h5,h6,h7⟩:=bu k1
 exact⟨⟨rfl,rfl,rfl,rfl,hr,hb,hg,h⟩,h4,fun _=>rfl,PassesOwn.never,h1⟩
theorem wC{c:Cf}{lv:Nat}{N ps:List Str}{st:Stmt}{b:B}(k:kF c lv N ps st b=true):qD N ps (bQ st):=by
 obtain⟨h1,h2,h3,h4,h5,h6,h7⟩:=bu (cR k).1
 exact⟨h1,h2,h3,h4,h5,h6,h7⟩
theorem UX{bs:List String}{gs:List (Str×Gv)}{fs:List Fi}{lv:Nat}{N ps:List Str}{x:Str}{st:Stmt}{b:B}{f:Addr}{fd:FuncData}(h:gJ P w K mg base fs t)(hb:∀x∈bs,mg (Str.ofString x)=none)(hg:GV K mg va gs){df:Option Int}(Df:xZ K mg x st ps df f fd)(k:kF ⟨bs,gs,fs⟩ lv N ps st b=true) :
  jU P w K mg base ⟨x,ps.length,lv+1,none,df⟩ (.p (fn N.length (eB t b))):=by
 refine⟨rfl,f,fd,ps,?_,Df.mg,Df.fn.kp,Df.bd,Df.xO⟩
 refine Df.fn.ok (wC k) (fun vs H Q E h=>h.1) (fun bq A outer s H vs Q E hr q=>?_)
 obtain⟨ts,p1,p2⟩:=sB (t:=t) (va:=va) (K:=K) b (cR k).2
 exact⟨ts,(p1 _ (ctx h hb hg k hr)).go,EZ p2 q⟩
theorem UY{bs:List String}{gs:List (Str×Gv)}{fs:List Fi}{lv:Nat}{N ps:List Str}{x:Str}{st:Stmt}{b:B}{f:Addr}{fd:FuncData}(io:List Nat)(hn:io≠[])(h:gJ P w K mg base fs t)(hb:∀x∈bs,mg (Str.ofString x)=none)(hg:GV K mg va gs){df:Option Int}(Df:xZ K mg x st ps df f fd)(k:kF ⟨bs,gs,fs⟩ lv N ps st b=true) :
  jU P w K mg base ⟨x,ps.length,lv+1,some io,df⟩ (.io io (jv N.length io (eB t b))):=by
 refine⟨⟨rfl,hn⟩,f,fd,ps,?_,Df.mg,Df.fn.kp,Df.bd,Df.xO⟩
 refine Df.fn.ok (wC k) (fun vs H Q E h=>h.1) (fun bq A outer s H vs Q E hr q=>?_)
 obtain⟨ts,p1,p2⟩:=sB (t:=t) (va:=va) (K:=K) b (cR k).2
 exact⟨ts,(p1 _ (ctx h hb hg k hr)).go,MN p2 q⟩
theorem UZ{bs:List String}{gs:List (Str×Gv)}{fs:List Fi}{lv:Nat}{N ps:List Str}{x:Str}{st:Stmt}{b:B}{f:Addr}{fd:FuncData}(h:gJ P w K mg base fs t)(hb:∀x∈bs,mg (Str.ofString x)=none)(hg:GV K mg va gs){df:Option Int}(Df:xZ K mg x st ps df f fd)(k:kF ⟨bs,gs,fs⟩ lv N ps st b=true) :
  jU P w K mg base ⟨x,ps.length,lv+1,some [],df⟩ (.oo (Al N.length (eB t b))):=by
 refine⟨rfl,f,fd,ps,?_,Df.mg,Df.fn.kp,Df.bd,Df.xO⟩
 refine Df.fn.ok (wC k) (fun vs H Q E h=>h.1) (fun bq A outer s H vs Q E hr q=>?_)
 obtain⟨ts,p1,p2⟩:=sB (t:=t) (va:=va) (K:=K) b (cR k).2
 exact⟨ts,(p1 _ (ctx h hb hg k hr)).go,MS p2 q⟩
end
structure Dd where
 nm:Str
 st:Stmt
 ps:List Str
 N:List Str
 lv:Nat
 io:Option (List Nat)
 b:B
 df:Option Int:=none
noncomputable def rY(t:List FT)(d:Dd):FT:=match d.io with
 |none=>.p (fn d.N.length (eB t d.b))
 |some []=>.oo (Al d.N.length (eB t d.b))
 |some (i::io)=>.io (i::io) (jv d.N.length (i::io) (eB t d.b))
noncomputable def Ao(d:Dd):Fi:=⟨d.nm,d.ps.length,d.lv+1,d.io,d.df⟩
noncomputable def tab:List Dd→List FT
 |[]=>[]
 |d::ds=>rY (tab ds) d::tab ds
noncomputable def vO(bs:List String)(gs:List (Str×Gv)):List Dd→Bool
 |[]=>true
 |d::ds=>kF ⟨bs,gs,ds.map Ao⟩ d.lv d.N d.ps d.st d.b&&vO bs gs ds
def BA(d:Str)(s:Stmt)(ps:List Str):Prop:=∀(kV doc pm:Value) (an:Option Addr) (bq ct:Value) (us:List Value),us.length=ps.length→bindArgs (PySem.W.fnOf d d (eD s) (dn s) (bQ s) .none kV doc pm an bq ct) ⟨us,[]⟩=pure (ps.zip us)
theorem x4{d:Str}{s:Stmt}{p0:Str}(h:∀k o p n c t u0,bindArgs (PySem.W.fnOf d d (eD s) (dn s) (bQ s) .none k o p n c t) ⟨[u0],[]⟩=pure (List.zip [p0] [u0])):BA d s [p0]:=by
 intro _ _ _ _ _ _ us hl
 obtain _|⟨_,us⟩:=us
 ·cases hl
 obtain _|_:=us
 ·exact h _ _ _ _ _ _ _
 ·simp at hl
theorem nX{d:Str}{s:Stmt}{p0 p1:Str}(h:∀k o p n c t u0 u1,bindArgs (PySem.W.fnOf d d (eD s) (dn s) (bQ s) .none k o p n c t) ⟨[u0,u1],[]⟩=pure (List.zip [p0,p1] [u0,u1])):BA d s [p0,p1]:=by
 intro _ _ _ _ _ _ us hl
 obtain _|⟨_,us⟩:=us
 ·cases hl
 obtain _|⟨_,us⟩:=us
 ·cases hl
 obtain _|_:=us
 ·exact h _ _ _ _ _ _ _ _
 ·simp at hl
theorem qj{d:Str}{s:Stmt}{p0 p1 p2:Str}(h:∀k o p n c t u0 u1 u2,bindArgs (PySem.W.fnOf d d (eD s) (dn s) (bQ s) .none k o p n c t) ⟨[u0,u1,u2],[]⟩=pure (List.zip [p0,p1,p2] [u0,u1,u2])):BA d s [p0,p1,p2]:=by
 intro _ _ _ _ _ _ us hl
 obtain _|⟨_,us⟩:=us
 ·cases hl
 obtain _|⟨_,us⟩:=us
 ·cases hl
 obtain _|⟨_,us⟩:=us
 ·cases hl
 obtain _|_:=us
 ·exact h _ _ _ _ _ _ _ _ _
 ·simp at hl
theorem Ci{d:Str}{s:Stmt}{p0 p1 p2 p3:Str}(h:∀k o p n c t u0 u1 u2 u3,bindArgs (PySem.W.fnOf d d (eD s) (dn s) (bQ s) .none k o p n c t) ⟨[u0,u1,u2,u3],[]⟩=pure (List.zip [p0,p1,p2,p3] [u0,u1,u2,u3])):BA d s [p0,p1,p2,p3]:=by
 intro _ _ _ _ _ _ us hl
 obtain _|⟨_,us⟩:=us
 ·cases hl
 obtain _|⟨_,us⟩:=us
 ·cases hl
 obtain _|⟨_,us⟩:=us
 ·cases hl
 obtain _|⟨_,us⟩:=us
 ·cases hl
 obtain _|_:=us
 ·exact h _ _ _ _ _ _ _ _ _ _
 ·simp at hl
def Cj(d:Str)(s:Stmt)(ps:List Str)(n:Int):Prop:=∀(K:PySem.W.Frag) (a:Addr) (tk:Tok) (o:Value) (p:Option Addr) (k:Nat) (sl:Array (Option Value)) (kV doc pm:Value) (an:Option Addr) (bq ct:Value),K.lookup a=some ⟨o,p,.seq #[.int n tk] k,sl⟩ →
 Binds K (PySem.W.fnOf d d (eD s) (dn s) (bQ s) (.ref a) kV doc pm an bq ct) ps []∧Binds K (PySem.W.fnOf d d (eD s) (dn s) (bQ s) (.ref a) kV doc pm an bq ct) ps [.int n tk]
theorem V5{d:Str}{s:Stmt}{p0 p1 p2:Str}{n:Int}(h3:∀(K:PySem.W.Frag) (a:Addr) (tk:Tok) (o:Value) (p:Option Addr) (k:Nat) (sl:Array (Option Value)) (kV doc pm:Value) (an:Option Addr) (bq ct:Value) (e:K.lookup a=some ⟨o,p,.seq #[.int n tk] k,sl⟩) (h:Shared) (X:K.In h.heap) (u v w:Value),BindsTo h (PySem.W.fnOf d d (eD s) (dn s) (bQ s) (.ref a) kV doc pm an bq ct) ⟨[u,v,w],[]⟩ [(p0,u),(p1,v),(p2,w)])
  (h2:∀(K:PySem.W.Frag) (a:Addr) (tk:Tok) (o:Value) (p:Option Addr) (k:Nat) (sl:Array (Option Value)) (kV doc pm:Value) (an:Option Addr) (bq ct:Value) (e:K.lookup a=some ⟨o,p,.seq #[.int n tk] k,sl⟩) (h:Shared) (X:K.In h.heap) (u v:Value),BindsTo h (PySem.W.fnOf d d (eD s) (dn s) (bQ s) (.ref a) kV doc pm an bq ct) ⟨[u,v],[]⟩ [(p0,u),(p1,v),(p2,.int n tk)]):Cj d s [p0,p1,p2] n:=by
 intro K a tk o p k sl kV doc pm an bq ct e
 refine⟨fun h us X hl=>?_,fun h us X hl=>?_⟩
 ·obtain _|⟨u,_|⟨v,_|⟨w,_|_⟩⟩⟩:=us<;>first|exact h3 K a tk o p k sl kV doc pm an bq ct e h X _ _ _|simp at hl
 ·obtain _|⟨u,_|⟨v,_|_⟩⟩:=us<;>first|exact h2 K a tk o p k sl kV doc pm an bq ct e h X _ _|simp at hl
noncomputable def Ks(d:Str)(s:Stmt)(ps:List Str):Option Int→Prop
 |none=>BA d s ps
 |some n=>Cj d s ps n
noncomputable def x5:List Dd→Prop
 |[]=>True
 |d::ds=>Ks d.nm d.st d.ps d.df∧x5 ds
def Kt(K:PySem.W.Frag)(d:Str)(s:Stmt)(dV:Value):Prop:=∃(f:Addr) (oc:Value) (od:Option Addr) (kV dc pm:Value) (an:Option Addr) (cd ct:Value) (sl:Array (Option Value)),
 PySem.W.nsIn K mainGlobals d=some (some (.ref f))∧K.lookup f=some ⟨oc,od,.func (PySem.W.fnOf d d (eD s) (dn s) (bQ s) dV kV dc pm an cd ct),sl⟩∧PySem.W.codeIn K cd d=true∧PySem.W.keepIn K (.ref f)=true
noncomputable def DE(K:PySem.W.Frag)(d:Str)(s:Stmt):Option Int→Prop
 |none=>Kt K d s .none
 |some n=>∃(a:Addr) (tk:Tok) (o:Value) (p:Option Addr) (k:Nat) (sl:Array (Option Value)),Kt K d s (.ref a)∧K.lookup a=some ⟨o,p,.seq #[.int n tk] k,sl⟩
theorem IA{K:PySem.W.Frag}{d:Str}{s:Stmt}{f:Addr}{oc:Value}{od:Option Addr}{kV dc pm:Value}{an:Option Addr}{cd ct:Value}{sl:Array (Option Value)}(a:PySem.W.nsIn K mainGlobals d=some (some (.ref f)))(l:K.lookup f=some ⟨oc,od,.func (PySem.W.fnOf d d (eD s) (dn s) (bQ s) .none kV dc pm an cd ct),sl⟩)(c:PySem.W.codeIn K cd d=true)(k:PySem.W.keepIn K (.ref f)=true):DE K d s none :=
 ⟨f,oc,od,kV,dc,pm,an,cd,ct,sl,a,l,c,k⟩
theorem U0{K:PySem.W.Frag}{d:Str}{s:Stmt}{n:Int}{f dA:Addr}{oc oD:Value}{od pD:Option Addr}{kV dc pm:Value}{an:Option Addr}{cd ct:Value}{sl sD:Array (Option Value)}{tk:Tok}{nD:Nat}(a:PySem.W.nsIn K mainGlobals d=some (some (.ref f)))(l:K.lookup f=some ⟨oc,od,.func (PySem.W.fnOf d d (eD s) (dn s) (bQ s) (.ref dA) kV dc pm an cd ct),sl⟩)(e:K.lookup dA=some ⟨oD,pD,.seq #[.int n tk] nD,sD⟩)(c:PySem.W.codeIn K cd d=true)(k:PySem.W.keepIn K (.ref f)=true):DE K d s (some n) :=
 ⟨dA,tk,oD,pD,nD,sD,⟨f,oc,od,kV,dc,pm,an,cd,ct,sl,a,l,c,k⟩,e⟩
noncomputable def x6(K:PySem.W.Frag):List Dd→Prop
 |[]=>True
 |d::ds=>DE K d.nm d.st d.df∧x6 K ds
noncomputable def x8(K:PySem.W.Frag):List String→Prop
 |[]=>True
 |b::bs=>PySem.W.nsIn K mainGlobals (Str.ofString b)=some none∧x8 K bs
noncomputable def GE(K:PySem.W.Frag)(x:Str):Gv→Prop
 |.s y=>∃tk,PySem.W.nsIn K mainGlobals x=some (some (.str y tk))
 |.t l=>∃(a:Addr) (it:Array Value) (n:Nat) (sl:Array (Option Value)),PySem.W.nsIn K mainGlobals x=some (some (.ref a))∧K.lookup a=some ⟨.type "tuple",none,.seq it n,sl⟩∧it.toList.map oY=l.map (fun y=>some (V.str y))∧4≤l.length∧l.length≤1000
noncomputable def x9(K:PySem.W.Frag):List (Str×Gv)→Prop
 |[]=>True
 |g::gs=>GE K g.1 g.2∧x9 K gs
section
variable {P:Program}{w:World}{K:PySem.W.Frag}{mg:Str→Option Value}{base:Heap}
theorem Gy{h:Heap}(X:K.In h)(G:h.Ns mainGlobals mg):∀{bs:List String},x8 K bs→∀x∈bs,mg (Str.ofString x)=none
 |[],_,_,m=>nomatch m
 |b::bs,q,x,m=>by
  rcases fK.mp m with rfl|m
  ·exact PySem.W.mg_none_of X G q.1
  ·exact Gy X G q.2 x m
theorem Ht{h:Heap}(X:K.In h)(G:h.Ns mainGlobals mg):∀{gs:List (Str×Gv)},x9 K gs→∃va,GV K mg va gs
  |[],_=>⟨[],fun i g e=>by simp at e⟩
  | (x,g)::gs,q=>by
    obtain⟨va,r⟩:=Ht X G q.2
    have one:∃v u,mg x=some u∧RelV v u∧JT K (tC v) (jC g.d):=by
      cases g with
      |s y =>
        obtain⟨tk,e⟩:=q.1
        exact⟨.str y,_,sC X G e,⟨_,rfl⟩,pf rfl⟩
      |t l =>
        obtain⟨a,it,n,sl,e,lk,m,hl⟩:=q.1
        exact⟨.ref a,_,sC X G e,rfl,Td (Qu lk m hl) fun _ _=>Dm l⟩
    obtain⟨v,u,h1,h2,h3⟩:=one
    refine⟨v::va,fun i g' e=>?_⟩
    cases i with
    |zero=>cases e;exact⟨v,u,rfl,h1,h2,h3⟩
    |succ i=>exact r i g' e
theorem U1{h:Heap}{d:Str}{s:Stmt}{ps:List Str}{df:Option Int}(X:K.In h)(G:h.Ns mainGlobals mg)(e:DE K d s df)(b:Ks d s ps df):∃f fd,xZ K mg d s ps df f fd:=by
 cases df with
 |none =>
  obtain⟨f,oc,od,kV,dc,pm,an,cd,ct,sl,q1,q2,q3,q4⟩:=e
  exact⟨f,_,sC X G q1,⟨⟨_,_,_,_,_,_,_,_,_,_,rfl,q2,q3⟩,q4⟩,(FU q2 q3 q4).binds b,fun n z=>nomatch z⟩
 |some n =>
  obtain⟨a,tk,o,p,k,sD,⟨f,oc,od,kV,dc,pm,an,cd,ct,sl,q1,q2,q3,q4⟩,e⟩:=e
  have z:=b K a tk o p k sD kV dc pm an cd ct e
  exact⟨f,_,sC X G q1,⟨⟨_,_,_,_,_,_,_,_,_,_,rfl,q2,q3⟩,q4⟩,z.1,fun m w=>by cases w;exact⟨tk,z.2⟩⟩
theorem Hu{h:Heap}{bs:List String}{gs:List (Str×Gv)}{va:List V}(X:K.In h)(G:h.Ns mainGlobals mg)(hb:∀x∈bs,mg (Str.ofString x)=none)(hg:GV K mg va gs):∀{ds:List Dd},x6 K ds→x5 ds→vO bs gs ds=true→gJ P w K mg base (ds.map Ao) (tab ds)
 |[],_,_,_=>gJ.nil
 |d::ds,q,b,k=>by
  obtain⟨k1,k2⟩:=cR k
  have r:=Hu X G hb hg q.2 b.2 k2
  obtain⟨f,fd,D⟩:=U1 X G q.1 b.1
  refine gJ.cons r ?_
  obtain⟨nm,st,ps,N,lv,io,bd,df⟩:=d
  cases io with
  |none=>exact UX r hb hg D k1
  |some io=>cases io with
   |nil=>exact UZ r hb hg D k1
   |cons i io=>exact UY (i::io) (List.cons_ne_nil _ _) r hb hg D k1
theorem eO{d:Dd}{ds:List Dd}{t:List FT}{g:Ev→Option Fl}{F:List D→Option (M×D)}(e:tab ds=t)(h:d.io=none)(q:eB t d.b=g)(r:fn d.N.length g=F):tab (d::ds)=.p F::t:=by
 subst e q r
 show rY (tab ds) d::tab ds=_
 unfold rY
 rw[h]
theorem zt{d:Dd}{ds:List Dd}{t:List FT}{g:Ev→Option Fl}{i:Nat}{io:List Nat}{F:List D→Option (M×D×List D)}(e:tab ds=t)(h:d.io=some (i::io))(q:eB t d.b=g)(r:jv d.N.length (i::io) g=F):tab (d::ds)=.io (i::io) F::t:=by
 subst e q r
 show rY (tab ds) d::tab ds=_
 unfold rY
 rw[h]
theorem U2 {h:Heap}{bs:List String}{gs:List (Str×Gv)}{ds:List Dd}{st:Stmt}{N:List Str}{lv:Nat}{b:B}{t:List FT}{F:List D→Option (M×D)}{x:Str}{fa:Addr} (X:K.In h) (G:h.Ns mainGlobals mg) (Ck:mg "law" = some (.ref fa)) (hb:x8 K bs) (hg:x9 K gs) (q:x6 K (⟨"law",st,[x],N,lv,none,b,none⟩::ds)) (ba:x5 (⟨"law",st,[x],N,lv,none,b,none⟩::ds)) (k:vO bs gs (⟨"law",st,[x],N,lv,none,b,none⟩::ds)=true)
  (e:tab (⟨"law",st,[x],N,lv,none,b,none⟩::ds)=.p F::t) (hs:∀(kV doc pm:Value) (an:Option Addr) (bq ct:Value) (s:Shared) (v:Value),BindsTo s (PySem.W.fnOf "law" "law" (eD st) (dn st) (bQ st) .none kV doc pm an bq ct) ⟨[v],[]⟩ [(x,v)]) :
  ∃fd:FuncData,(∀(s:Shared) (v:Value),BindsTo s fd ⟨[v],[]⟩ [(x,v)])∧∀base:Heap,K.In base→base.Ns mainGlobals mg→ku P w K mg base kZ (lv+1) fa fd [x] (k7 K 1 F):=by
 obtain⟨k1,k2⟩:=cR k
 have hb:=Gy X G hb
 obtain⟨va,hg⟩:=Ht X G hg
 obtain⟨⟨f,oc,od,kV,dc,pm,an,cd,ct,sl,q1,q2,q3,q4⟩,qs⟩:=q
 have ef:=Ck.symm.trans (sC X G q1)
 cases ef
 refine⟨_,fun s v=>hs kV dc pm an cd ct s v,fun base _ _=>?_⟩
 have r:gJ P w K mg base (ds.map Ao) (tab ds):=Hu X G hb hg qs ba.2 k2
 have ht:fn N.length (eB (tab ds) b)=F:=by
  have e:FT.p (fn N.length (eB (tab ds) b))::tab ds=.p F::t:=e
  cases e;rfl
 have fk:=FU (x := "law") (qual := "law") (st:=st) q2 q3 q4
 refine fk.ok (wC k1) (fun vs H Q E h=>h.1) (fun bq A outer s H vs Q E hr q=>?_)
 obtain⟨ts,p1,p2⟩:=sB (t:=tab ds) (va:=va) (K:=K) b (cR k1).2
 rw[←ht]at q
 exact⟨ts,(p1 _ (ctx r hb hg k1 hr)).go,EZ p2 q⟩
end
end C
namespace b5
open PySem PySem.Spec L2 My J
noncomputable def top(i:Nat):PySem.Stmt:=PySem.Challenge.pw_lazyhoist_k21_whole_runs_row_by_row.main.body.getD i (.Pass ⟨0,0,0,0⟩)
noncomputable def bs:List String:=["abs", "all", "any", "bool", "dict", "enumerate", "int", "isinstance", "len", "list", "range", "str", "tuple"]
noncomputable def gs:List (Str×C.Gv):=[]
noncomputable def t0:List C.FT:=[]
noncomputable def Ku:List C.Dd:=[]
theorem e0:C.tab Ku=t0:=rfl
noncomputable def C5:Ev→Option Fl :=
 (av (aH 2 (ae aj (jV 0) (jV 1)))
 (av (aN (jB (ae aQ (ae aj (jV 2) (jC (.int 0))) (jC (.str "end"))))
  (aP (bI ah))
  aY)
 (av (aN (jB (ae aQ (ae aj (jV 2) (jC (.int 0))) (jC (.str "go"))))
  (aP (bI (ag (ae aj (jV 2) (jC (.int 1))) ah)))
  aY)
 (av (aN (jB (ae aQ (ae aj (jV 2) (jC (.int 0))) (jC (.str "part"))))
  (aP (bI (ag (ae aV (jV 1) (jC (.int 1))) (ag (ae aj (jV 2) (jC (.int 2))) ah))))
  aY)
 (aP (bI (ag (ae aV (jV 1) (jC (.int 1))) ah)))))))
noncomputable def n8:List D→Option (M×D):=fn 3 C5
noncomputable def d1:C.Dd:=⟨"followers",top 1,["program", "n"],["program", "n", "row"],0,none,(.c (.l (.st 2 (.ix (.v 0) (.v 1)))) (.c (.ie (.c .eq (.ix (.v 2) (.ki 0)) (.ks "end")) (.o (.l (.rt (.li .n)))) .n) (.c (.ie (.c .eq (.ix (.v 2) (.ki 0)) (.ks "go")) (.o (.l (.rt (.li (.c (.ix (.v 2) (.ki 1)) .n))))) .n) (.c (.ie (.c .eq (.ix (.v 2) (.ki 0)) (.ks "part")) (.o (.l (.rt (.li (.c (.bo .add (.v 1) (.ki 1)) (.c (.ix (.v 2) (.ki 2)) .n)))))) .n) (.o (.l (.rt (.li (.c (.bo .add (.v 1) (.ki 1)) .n))))))))),none⟩
noncomputable def Kv:List C.Dd:=d1::Ku
noncomputable def t1:List C.FT:=.p n8::t0
theorem e1:C.tab Kv=t1:=C.eO e0 rfl rfl rfl
noncomputable def Dr:Ev→Option Fl :=
 (av (aN (jB (ae aQ (jV 0) (jC (.str "+"))))
  (aP (ae aZ (ae aV (jV 1) (jV 2)) (ae m3 (jC (.int 2)) (jC (.int 64)))))
  aY)
 (av (aN (jB (ae aQ (jV 0) (jC (.str "-"))))
  (aP (ae aZ (ae fj (jV 1) (jV 2)) (ae m3 (jC (.int 2)) (jC (.int 64)))))
  aY)
 (av (aN (jB (ae aQ (jV 0) (jC (.str "*"))))
  (aP (ae aZ (ae c6 (jV 1) (jV 2)) (ae m3 (jC (.int 2)) (jC (.int 64)))))
  aY)
 (av (aN (jB (ae aQ (jV 0) (jC (.str "&"))))
  (aP (ae mP (jV 1) (jV 2)))
  aY)
 (av (aN (jB (ae aQ (jV 0) (jC (.str "|"))))
  (aP (ae m7 (jV 1) (jV 2)))
  aY)
 (av (aN (jB (ae aQ (jV 0) (jC (.str "^"))))
  (aP (ae mQ (jV 1) (jV 2)))
  aY)
 (av (aN (jB (ae aQ (jV 0) (jC (.str "<"))))
  (aP (ph (jB (ae dX (jV 1) (jV 2))) (jC (.int 1)) (jC (.int 0))))
  aY)
 (aP (ph (jB (ae aQ (jV 1) (jV 2))) (jC (.int 1)) (jC (.int 0)))))))))))
noncomputable def og:List D→Option (M×D):=fn 3 Dr
noncomputable def d2:C.Dd:=⟨"reckoned",top 3,["s", "a", "b"],["s", "a", "b"],0,none,(.c (.ie (.c .eq (.v 0) (.ks "+")) (.o (.l (.rt (.bo .mod (.bo .add (.v 1) (.v 2)) (.bo .pow (.ki 2) (.ki 64)))))) .n) (.c (.ie (.c .eq (.v 0) (.ks "-")) (.o (.l (.rt (.bo .mod (.bo .sub (.v 1) (.v 2)) (.bo .pow (.ki 2) (.ki 64)))))) .n) (.c (.ie (.c .eq (.v 0) (.ks "*")) (.o (.l (.rt (.bo .mod (.bo .mul (.v 1) (.v 2)) (.bo .pow (.ki 2) (.ki 64)))))) .n) (.c (.ie (.c .eq (.v 0) (.ks "&")) (.o (.l (.rt (.bo .band (.v 1) (.v 2))))) .n) (.c (.ie (.c .eq (.v 0) (.ks "|")) (.o (.l (.rt (.bo .bor (.v 1) (.v 2))))) .n) (.c (.ie (.c .eq (.v 0) (.ks "^")) (.o (.l (.rt (.bo .bxor (.v 1) (.v 2))))) .n) (.c (.ie (.c .eq (.v 0) (.ks "<")) (.o (.l (.rt (.ie (.c .lt (.v 1) (.v 2)) (.ki 1) (.ki 0))))) .n) (.o (.l (.rt (.ie (.c .eq (.v 1) (.v 2)) (.ki 1) (.ki 0)))))))))))),none⟩
noncomputable def Kw:List C.Dd:=d2::Kv
noncomputable def t2:List C.FT:=.p og::t1
theorem e2:C.tab Kw=t2:=C.eO e1 rfl rfl rfl
noncomputable def Dt:Ev→Option Fl :=
 (av (aN (jB (aF eR (ag (jV 0) (ag (jC (.ty "str")) ah))))
  (aP (j6 (jV 1) (jV 0) (jC (.int 0))))
  aY)
 (aP (jV 0)))
noncomputable def gD:List D→Option (M×D):=fn 2 Dt
noncomputable def d3:C.Dd:=⟨"worth_of",top 8,["operand", "worths"],["operand", "worths"],0,none,(.c (.ie (.b (.fb .iY (.c (.v 0) (.c (.ty "str") .n)))) (.o (.l (.rt (.g2 (.v 1) (.v 0) (.ki 0))))) .n) (.o (.l (.rt (.v 0))))),none⟩
noncomputable def Kx:List C.Dd:=d3::Kw
noncomputable def t3:List C.FT:=.p gD::t2
theorem e3:C.tab Kx=t3:=C.eO e2 rfl rfl rfl
noncomputable def Ek:Ev→Option Fl :=
 (av (aN (jB (ae aQ (ae aj (jV 0) (jC (.int 0))) (jC (.str "reckon"))))
  (fH 1 (ae aj (jV 0) (jC (.int 1))) (aJ og (ag (ae aj (jV 0) (jC (.int 2))) (ag (aJ gD (ag (ae aj (jV 0) (jC (.int 3))) (ag (jV 1) ah))) (ag (aJ gD (ag (ae aj (jV 0) (jC (.int 4))) (ag (jV 1) ah))) ah)))))
  aY)
 (av (aN (jB (ae aQ (ae aj (jV 0) (jC (.int 0))) (jC (.str "copy"))))
  (fH 1 (ae aj (jV 0) (jC (.int 1))) (aJ gD (ag (ae aj (jV 0) (jC (.int 2))) (ag (jV 1) ah))))
  aY)
 (aN (jB (ae aQ (ae aj (jV 0) (jC (.int 0))) (jC (.str "say"))))
  (bM 2 (aJ gD (ag (ae aj (jV 0) (jC (.int 1))) (ag (jV 1) ah))))
  aY)))
noncomputable def oi:List D→Option (M×D×List D):=jv 3 [1,2] Ek
noncomputable def d4:C.Dd:=⟨"do_row",top 6,["row", "worths", "said"],["row", "worths", "said"],1,some [1,2],(.c (.ie (.c .eq (.ix (.v 0) (.ki 0)) (.ks "reckon")) (.o (.l (.dp 1 (.ix (.v 0) (.ki 1)) (.ca 1 (.c (.ix (.v 0) (.ki 2)) (.c (.ca 0 (.c (.ix (.v 0) (.ki 3)) (.c (.v 1) .n))) (.c (.ca 0 (.c (.ix (.v 0) (.ki 4)) (.c (.v 1) .n))) .n))))))) .n) (.c (.ie (.c .eq (.ix (.v 0) (.ki 0)) (.ks "copy")) (.o (.l (.dp 1 (.ix (.v 0) (.ki 1)) (.ca 0 (.c (.ix (.v 0) (.ki 2)) (.c (.v 1) .n)))))) .n) (.o (.ie (.c .eq (.ix (.v 0) (.ki 0)) (.ks "say")) (.o (.l (.ap 2 (.ca 0 (.c (.ix (.v 0) (.ki 1)) (.c (.v 1) .n)))))) .n)))),none⟩
noncomputable def Ky:List C.Dd:=d4::Kx
noncomputable def t4:List C.FT:=.io [1,2] oi::t3
theorem e4:C.tab Ky=t4:=C.zt e3 rfl rfl rfl
noncomputable def CQ:Ev→Option Fl :=
 (av (aH 3 (ae aj (jV 0) (jV 1)))
 (av (aH 4 (aJ n8 (ag (jV 0) (ag (jV 1) ah))))
 (av (aN (bR (jB (ae aQ (ae aj (jV 3) (jC (.int 0))) (jC (.str "part")))) (jB (ae b8 (aJ gD (ag (ae aj (jV 3) (jC (.int 1))) (ag (jV 2) ah))) (jC (.int 0)))))
  (aP (ae aj (jV 4) (jC (.int 1))))
  aY)
 (aP (ae aj (jV 4) (jC (.int 0)))))))
noncomputable def qq:List D→Option (M×D):=fn 5 CQ
noncomputable def d5:C.Dd:=⟨"row_behind",top 7,["program", "n", "worths"],["program", "n", "worths", "row", "behind"],1,none,(.c (.l (.st 3 (.ix (.v 0) (.v 1)))) (.c (.l (.st 4 (.ca 3 (.c (.v 0) (.c (.v 1) .n))))) (.c (.ie (.an (.c .eq (.ix (.v 3) (.ki 0)) (.ks "part")) (.c .ne (.ca 1 (.c (.ix (.v 3) (.ki 1)) (.c (.v 2) .n))) (.ki 0))) (.o (.l (.rt (.ix (.v 4) (.ki 1))))) .n) (.o (.l (.rt (.ix (.v 4) (.ki 0)))))))),none⟩
noncomputable def Kz:List C.Dd:=d5::Ky
noncomputable def t5:List C.FT:=.p qq::t4
theorem e5:C.tab Kz=t5:=C.eO e4 rfl rfl rfl
noncomputable def n5:Ev→Option Fl :=
 (aN (jB (ae b8 (jV 3) (jC (.int 0))))
  (fH 1 (jV 2) (jV 3))
  aY)
noncomputable def CH:Ev→Option Fl :=
 (av (aH 1 qQ)
 (av (jt 0 (vH 0 (gT 2 (b7 (gN 2) (b7 (gN 3) fG)))
  n5))
 (aP (jV 1))))
noncomputable def mC:List D→Option (M×D):=fn 4 CH
noncomputable def d6:C.Dd:=⟨"without_noughts",top 9,["worths"],["worths", "told", "name", "worth"],0,none,(.c (.l (.st 1 .dK)) (.c (.fz 0 (.fi 0 (.t 2 (.c (.n 2) (.c (.n 3) .n))) (.o (.ie (.c .ne (.v 3) (.ki 0)) (.o (.l (.dp 1 (.v 2) (.v 3)))) .n)))) (.o (.l (.rt (.v 1)))))),none⟩
noncomputable def KC:List C.Dd:=d6::Kz
noncomputable def t6:List C.FT:=.p mC::t5
theorem e6:C.tab KC=t6:=C.eO e5 rfl rfl rfl
noncomputable def j0:Ev→Option Fl :=
 (av (bM 5 (jV 6))
 (av (aN (jB (ae aQ (ae aj (ae aj (jV 0) (jV 6)) (jC (.int 0))) (jC (.str "end"))))
  (oV (ag (jC (.str "end")) (ag (jV 4) (ag (aJ mC (ag (jV 3) ah)) (ag (jV 5) ah)))))
  aY)
 (av (i9 [1,2] [3,4] [(1,3),(2,4)] oi (ag (ae aj (jV 0) (jV 6)) (ag (jV 3) (ag (jV 4) ah))))
 (aH 6 (aJ qq (ag (jV 0) (ag (jV 6) (ag (jV 3) ah))))))))
noncomputable def j4:Ev→Option Bool :=
 (jB (ae dX (aF bJ (ag (jV 5) ah)) (jV 2)))
noncomputable def Hv:Ev→Option Fl :=
 (av (aH 3 (aF gG (ag (jV 1) ah)))
 (av (aH 4 (bI ah))
 (av (aH 5 (bI ah))
 (av (aH 6 (jC (.int 0)))
 (av (mK j4
  j0)
 (oV (ag (jC (.str "spent")) (ag (jV 4) (ag (aJ mC (ag (jV 3) ah)) (ag (jV 5) ah))))))))))
noncomputable def lL:List D→Option (M×D):=fn 7 Hv
noncomputable def d7:C.Dd:=⟨"run",top 5,["program", "names", "most"],["program", "names", "most", "worths", "said", "way", "n"],2,none,(.c (.l (.st 3 (.fb .dict (.c (.v 1) .n)))) (.c (.l (.st 4 (.li .n))) (.c (.l (.st 5 (.li .n))) (.c (.l (.st 6 (.ki 0))) (.c (.wh (.c .lt (.fb .len (.c (.v 5) .n)) (.v 2)) (.c (.l (.ap 5 (.v 6))) (.c (.ie (.c .eq (.ix (.ix (.v 0) (.v 6)) (.ki 0)) (.ks "end")) (.o (.l (.rT (.c (.ks "end") (.c (.v 4) (.c (.ca 0 (.c (.v 3) .n)) (.c (.v 5) .n))))))) .n) (.c (.l (.iD 2 [3,4] (.c (.ix (.v 0) (.v 6)) (.c (.v 3) (.c (.v 4) .n))))) (.o (.l (.st 6 (.ca 1 (.c (.v 0) (.c (.v 6) (.c (.v 3) .n))))))))))) (.o (.l (.rT (.c (.ks "spent") (.c (.v 4) (.c (.ca 0 (.c (.v 3) .n)) (.c (.v 5) .n)))))))))))),some 1000⟩
noncomputable def KD:List C.Dd:=d7::KC
noncomputable def t7:List C.FT:=.p lL::t6
theorem e7:C.tab KD=t7:=C.eO e6 rfl rfl rfl
noncomputable def Du:Ev→Option Fl :=
 (av (aN (jB (ae dX (jV 1) (aF bJ (ag (jV 0) ah))))
  (aP (ae aj (jV 0) (jV 1)))
  aY)
 (av (aH 2 (aF bJ (ag (jV 0) ah)))
 (av (aN (jB (ae aQ (jV 2) (jC (.int 0))))
  (aP (ae c6 (jV 1) (jC (.int 7919))))
  aY)
 (aP (ae aV (ae c6 (ae aZ (aF rP (ag (ae aj (jV 0) (ae aZ (jV 1) (jV 2))) ah)) (jC (.int 1000003))) (ae aV (jV 1) (jC (.int 2)))) (ae c6 (jV 1) (jC (.int 7919))))))))
noncomputable def cW:List D→Option (M×D):=fn 3 Du
noncomputable def d8:C.Dd:=⟨"_law_cell",top 11,["_law_script", "_law_k"],["_law_script", "_law_k", "_law_many"],0,none,(.c (.ie (.c .lt (.v 1) (.fb .len (.c (.v 0) .n))) (.o (.l (.rt (.ix (.v 0) (.v 1))))) .n) (.c (.l (.st 2 (.fb .len (.c (.v 0) .n)))) (.c (.ie (.c .eq (.v 2) (.ki 0)) (.o (.l (.rt (.bo .mul (.v 1) (.ki 7919))))) .n) (.o (.l (.rt (.bo .add (.bo .mul (.bo .mod (.fb .abs (.c (.ix (.v 0) (.bo .mod (.v 1) (.v 2))) .n)) (.ki 1000003)) (.bo .add (.v 1) (.ki 2))) (.bo .mul (.v 1) (.ki 7919))))))))),none⟩
noncomputable def KG:List C.Dd:=d8::KD
noncomputable def t8:List C.FT:=.p cW::t7
theorem e8:C.tab KG=t8:=C.eO e7 rfl rfl rfl
noncomputable def uq:Ev→Option Fl :=
 (av (oE 5 (jV 4) (ae aj (jV 2) (ae aZ (ae aV (ae bC (jV 0) (jC (.int 64))) (jV 7)) (jC (.int 26)))))
 (av (aH 8 (xH tM oU (jC (.str "")) (ag (jV 5) ah)))
 (av (aN (jB (ae (m8 false) (jV 8) (b9 (ag (jC (.str "say")) (ag (jC (.str "go")) (ag (jC (.str "part")) (ag (jC (.str "end")) ah)))))))
  (aH 8 (ae aV (jV 8) (jC (.str "0"))))
  aY)
 (bM 6 (jV 8)))))
noncomputable def C6:Ev→Option Fl :=
 (av (aH 2 (jC (.str "abcdefghijklmnopqrstuvwxyz0123456789")))
 (av (aH 3 (ae aV (jC (.int 1)) (ae aZ (jV 0) (jC (.int 8)))))
 (av (aH 4 (ae aZ (ae bC (jV 0) (jC (.int 8))) (jV 3)))
 (av (aH 5 (gF (iJ (ag (jV 3) ah)) [2,0] ft (ae aj (jV 1) (ae aZ (ae bC (jV 2) (ae aV (jC (.int 64)) (ae c6 (jC (.int 5)) (jV 0)))) (ae aj (bI (ag (jC (.int 26)) (ag (jC (.int 36)) ah))) (aF c7 (ag (ae dN (jV 0) (jC (.int 0))) ah)))))))
 (av (aH 6 (bI ah))
 (av (fq (iJ (ag (jV 1) ah)) (gN 7)
  uq)
 (aP (jV 6))))))))
noncomputable def n9:List D→Option (M×D):=fn 9 C6
noncomputable def d9:C.Dd:=⟨"_law_names",top 12,["_law_cell_here", "_law_many"],["_law_cell_here", "_law_many", "_law_signs", "_law_size", "_law_spot", "_law_some", "_law_found", "_law_k", "_law_name"],0,none,(.c (.l (.st 2 (.ks "abcdefghijklmnopqrstuvwxyz0123456789"))) (.c (.l (.st 3 (.bo .add (.ki 1) (.bo .mod (.v 0) (.ki 8))))) (.c (.l (.st 4 (.bo .mod (.bo .div (.v 0) (.ki 8)) (.v 3)))) (.c (.l (.sc 5 (.r1 (.c (.v 3) .n)) [2,0] .y (.ix (.v 1) (.bo .mod (.bo .div (.v 2) (.bo .add (.ki 64) (.bo .mul (.ki 5) (.v 0)))) (.ix (.li (.c (.ki 26) (.c (.ki 36) .n))) (.fb .int (.c (.co .gt (.v 0) (.ki 0)) .n))))))) (.c (.l (.st 6 (.li .n))) (.c (.fo (.r1 (.c (.v 1) .n)) (.n 7) (.c (.l (.si 5 (.v 4) (.ix (.v 2) (.bo .mod (.bo .add (.bo .div (.v 0) (.ki 64)) (.v 7)) (.ki 26))))) (.c (.l (.st 8 (.ms .join (.ks "") (.c (.v 5) .n)))) (.c (.ie (.c .tZ (.v 8) (.tu (.c (.ks "say") (.c (.ks "go") (.c (.ks "part") (.c (.ks "end") .n)))))) (.o (.l (.st 8 (.bo .add (.v 8) (.ks "0"))))) .n) (.o (.l (.ap 6 (.v 8)))))))) (.o (.l (.rt (.v 6)))))))))),none⟩
noncomputable def KH:List C.Dd:=d9::KG
noncomputable def t9:List C.FT:=.p n9::t8
theorem e9:C.tab KH=t9:=C.eO e8 rfl rfl rfl
noncomputable def uj:Ev→Option Fl :=
 (av (bM 3 (ae aZ (jV 2) (jV 4)))
 (aH 2 (ae bC (jV 2) (jV 4))))
noncomputable def CT:Ev→Option Fl :=
 (av (aH 2 (ae aZ (ae c6 (jV 0) (jC (.int 48271))) (jC (.int 2147483647))))
 (av (aH 3 (bI ah))
 (av (jt 1 (fq (gn (jV 1)) (gN 4)
  uj))
 (aP (jV 3)))))
noncomputable def uw:List D→Option (M×D):=fn 5 CT
noncomputable def ya:C.Dd:=⟨"_law_digits",top 13,["_law_cell_here", "_law_sizes"],["_law_cell_here", "_law_sizes", "_law_number", "_law_found", "_law_size"],0,none,(.c (.l (.st 2 (.bo .mod (.bo .mul (.v 0) (.ki 48271)) (.ki 2147483647)))) (.c (.l (.st 3 (.li .n))) (.c (.fz 1 (.fo (.l (.v 1)) (.n 4) (.c (.l (.ap 3 (.bo .mod (.v 2) (.v 4)))) (.o (.l (.st 2 (.bo .div (.v 2) (.v 4)))))))) (.o (.l (.rt (.v 3))))))),none⟩
noncomputable def IC:List C.Dd:=ya::KH
noncomputable def KJ:List C.FT:=.p uw::t9
theorem Xu:C.tab IC=KJ:=C.eO e9 rfl rfl rfl
noncomputable def yp:Ev→Option Fl :=
 (av (aN (jB (ae dX (jV 0) (aF bJ (ag (jV 2) ah))))
  (aP (ae aj (jV 2) (jV 0)))
  aY)
 (av (aN (jB (ae aQ (jV 0) (aF bJ (ag (jV 2) ah))))
  (aP (ae aZ (jV 1) (jC (.int 3))))
  aY)
 (av (aN (jB (ae aQ (ae aZ (jV 1) (jC (.int 3))) (jC (.int 0))))
  (aP (ae fj (jC (.int 18446744073709551615)) (ae aZ (ae bC (jV 1) (jC (.int 3))) (jC (.int 9)))))
  aY)
 (aP (ae aZ (ae c6 (jV 1) (jC (.int 48271))) (jC (.int 18446744073709551616)))))))
noncomputable def iZ:List D→Option (M×D):=fn 3 yp
noncomputable def yb:C.Dd:=⟨"_law_operand",top 14,["_law_digit", "_law_cell_here", "_law_names_here"],["_law_digit", "_law_cell_here", "_law_names_here"],0,none,(.c (.ie (.c .lt (.v 0) (.fb .len (.c (.v 2) .n))) (.o (.l (.rt (.ix (.v 2) (.v 0))))) .n) (.c (.ie (.c .eq (.v 0) (.fb .len (.c (.v 2) .n))) (.o (.l (.rt (.bo .mod (.v 1) (.ki 3))))) .n) (.c (.ie (.c .eq (.bo .mod (.v 1) (.ki 3)) (.ki 0)) (.o (.l (.rt (.bo .sub (.ki 18446744073709551615) (.bo .mod (.bo .div (.v 1) (.ki 3)) (.ki 9)))))) .n) (.o (.l (.rt (.bo .mod (.bo .mul (.v 1) (.ki 48271)) (.ki 18446744073709551616)))))))),none⟩
noncomputable def IE:List C.Dd:=yb::IC
noncomputable def KL:List C.FT:=.p iZ::KJ
theorem Xv:C.tab IE=KL:=C.eO Xu rfl rfl rfl
noncomputable def DU:Ev→Option Fl :=
 (av (aH 2 (ae aV (aF bJ (ag (jV 1) ah)) (jC (.int 2))))
 (av (wd (gL 5 (b7 (gN 3) (b7 (gN 4) (b7 (gN 5) (b7 (gN 6) (b7 (gN 7) fG)))))) (aJ uw (ag (jV 0) (ag (bI (ag (jC (.int 12)) (ag (aF bJ (ag (jV 1) ah)) (ag (jC (.int 8)) (ag (jV 2) (ag (jV 2) ah)))))) ah))))
 (av (aH 6 (aJ iZ (ag (jV 6) (ag (jV 0) (ag (jV 1) ah)))))
 (av (aN (jB (ae dX (jV 3) (jC (.int 7))))
  (aP (b9 (ag (jC (.str "reckon")) (ag (ae aj (jV 1) (jV 4)) (ag (ae aj (jC (.str "+-*&|^<=")) (jV 5)) (ag (jV 6) (ag (aJ iZ (ag (jV 7) (ag (ae bC (jV 0) (jC (.int 7))) (ag (jV 1) ah)))) ah)))))))
  aY)
 (av (aN (jB (ae dX (jV 3) (jC (.int 9))))
  (aP (b9 (ag (jC (.str "copy")) (ag (ae aj (jV 1) (jV 4)) (ag (jV 6) ah)))))
  aY)
 (av (aN (jB (ae aQ (jV 3) (jC (.int 9))))
  (aP (b9 (ag (jC (.str "say")) (ag (jV 6) ah))))
  aY)
 (aP (b9 (ag (jC (.str "part")) (ag (jV 6) (ag (ae aZ (ae bC (jV 0) (jC (.int 5))) (jC (.int 1000))) ah)))))))))))
noncomputable def qy:List D→Option (M×D):=fn 8 DU
noncomputable def yc:C.Dd:=⟨"_law_row",top 15,["_law_cell_here", "_law_names_here"],["_law_cell_here", "_law_names_here", "_law_wide", "_law_kind", "_law_x", "_law_s", "_law_one", "_law_other"],1,none,(.c (.l (.st 2 (.bo .add (.fb .len (.c (.v 1) .n)) (.ki 2)))) (.c (.l (.as (.l 5 (.c (.n 3) (.c (.n 4) (.c (.n 5) (.c (.n 6) (.c (.n 7) .n)))))) (.ca 1 (.c (.v 0) (.c (.li (.c (.ki 12) (.c (.fb .len (.c (.v 1) .n)) (.c (.ki 8) (.c (.v 2) (.c (.v 2) .n)))))) .n))))) (.c (.l (.st 6 (.ca 0 (.c (.v 6) (.c (.v 0) (.c (.v 1) .n)))))) (.c (.ie (.c .lt (.v 3) (.ki 7)) (.o (.l (.rt (.tu (.c (.ks "reckon") (.c (.ix (.v 1) (.v 4)) (.c (.ix (.ks "+-*&|^<=") (.v 5)) (.c (.v 6) (.c (.ca 0 (.c (.v 7) (.c (.bo .div (.v 0) (.ki 7)) (.c (.v 1) .n)))) .n))))))))) .n) (.c (.ie (.c .lt (.v 3) (.ki 9)) (.o (.l (.rt (.tu (.c (.ks "copy") (.c (.ix (.v 1) (.v 4)) (.c (.v 6) .n))))))) .n) (.c (.ie (.c .eq (.v 3) (.ki 9)) (.o (.l (.rt (.tu (.c (.ks "say") (.c (.v 6) .n)))))) .n) (.o (.l (.rt (.tu (.c (.ks "part") (.c (.v 6) (.c (.bo .mod (.bo .div (.v 0) (.ki 5)) (.ki 1000)) .n))))))))))))),none⟩
noncomputable def IG:List C.Dd:=yc::IE
noncomputable def KN:List C.FT:=.p qy::KL
theorem Xw:C.tab IG=KN:=C.eO Xv rfl rfl rfl
noncomputable def Dv:Ev→Option Fl :=
 (av (aN (jB (ae aQ (ae aZ (ae bC (jV 2) (jC (.int 3))) (jC (.int 3))) (jC (.int 0))))
  (bM 0 (b9 (ag (jC (.str "end")) ah)))
  (aN (jB (ae aQ (ae aZ (ae bC (jV 2) (jC (.int 3))) (jC (.int 3))) (jC (.int 1))))
  (bM 0 (b9 (ag (jC (.str "go")) (ag (ae aj (jV 3) (ae aZ (ae bC (jV 2) (jC (.int 9))) (aF bJ (ag (jV 3) ah)))) ah))))
  (bM 0 (b9 (ag (jC (.str "go")) (ag (ae fj (cQ eQ (jC (.int 1))) (ae aZ (ae bC (jV 2) (jC (.int 9))) (jC (.int 1000)))) ah))))))
 (oE 0 (jV 1) (b9 (ag (jC (.str "part")) (ag (ae aj (ae aj (jV 0) (jV 1)) (jC (.int 1))) (ag (aF bJ (ag (jV 0) ah)) ah))))))
noncomputable def lA:List D→Option (M×D×List D):=jv 4 [0,3] Dv
noncomputable def yd:C.Dd:=⟨"_law_shut",top 16,["_law_rows", "_law_begin", "_law_cell_here", "_law_outer"],["_law_rows", "_law_begin", "_law_cell_here", "_law_outer"],0,some [0,3],(.c (.ie (.c .eq (.bo .mod (.bo .div (.v 2) (.ki 3)) (.ki 3)) (.ki 0)) (.o (.l (.ap 0 (.tu (.c (.ks "end") .n))))) (.o (.ie (.c .eq (.bo .mod (.bo .div (.v 2) (.ki 3)) (.ki 3)) (.ki 1)) (.o (.l (.ap 0 (.tu (.c (.ks "go") (.c (.ix (.v 3) (.bo .mod (.bo .div (.v 2) (.ki 9)) (.fb .len (.c (.v 3) .n)))) .n)))))) (.o (.l (.ap 0 (.tu (.c (.ks "go") (.c (.bo .sub (.uo .neg (.ki 1)) (.bo .mod (.bo .div (.v 2) (.ki 9)) (.ki 1000))) .n))))))))) (.o (.l (.si 0 (.v 1) (.tu (.c (.ks "part") (.c (.ix (.ix (.v 0) (.v 1)) (.ki 1)) (.c (.fb .len (.c (.v 0) .n)) .n)))))))),none⟩
noncomputable def II:List C.Dd:=yd::IG
noncomputable def KP:List C.FT:=.io [0,3] lA::KN
theorem Xx:C.tab II=KP:=C.zt Xw rfl rfl rfl
noncomputable def ui:Ev→Option Fl :=
 (av (aN (bR (jB (ae aQ (ae aj (jV 4) (jC (.int 0))) (jC (.str "go")))) (jB (ae dX (ae aj (jV 4) (jC (.int 1))) (jC (.int 0)))))
  (aH 4 (b9 (ag (jC (.str "go")) (ag (ae aV (ae aV (jV 3) (jC (.int 1))) (ae aZ (ae fj (cQ eQ (jC (.int 1))) (ae aj (jV 4) (jC (.int 1)))) (ae fj (ae fj (jV 1) (jV 3)) (jC (.int 1))))) ah))))
  (aN (jB (ae aQ (ae aj (jV 4) (jC (.int 0))) (jC (.str "part"))))
  (av (aH 5 (ae aZ (ae aj (jV 4) (jC (.int 2))) (jV 1)))
 (aH 4 (b9 (ag (jC (.str "part")) (ag (ae aj (jV 4) (jC (.int 1))) (ag (ae aj (bI (ag (jV 5) (ag (jV 3) ah))) (aF c7 (ag (ae aQ (jV 5) (ae aV (jV 3) (jC (.int 1)))) ah))) ah))))))
  aY))
 (bM 2 (jV 4)))
noncomputable def CK:Ev→Option Fl :=
 (av (aH 1 (aF bJ (ag (jV 0) ah)))
 (av (aH 2 (bI ah))
 (av (jt 0 (fq (nS (ag (jV 0) ah)) (gT 2 (b7 (gN 3) (b7 (gN 4) fG)))
  ui))
 (aP (jV 2)))))
noncomputable def qm:List D→Option (M×D):=fn 6 CK
noncomputable def ye:C.Dd:=⟨"_law_turned_to",top 17,["_law_rows"],["_law_rows", "_law_many", "_law_found", "_law_n", "_law_row_here", "_law_to"],0,none,(.c (.l (.st 1 (.fb .len (.c (.v 0) .n)))) (.c (.l (.st 2 (.li .n))) (.c (.fz 0 (.fo (.en (.c (.v 0) .n)) (.t 2 (.c (.n 3) (.c (.n 4) .n))) (.c (.ie (.an (.c .eq (.ix (.v 4) (.ki 0)) (.ks "go")) (.c .lt (.ix (.v 4) (.ki 1)) (.ki 0))) (.o (.l (.st 4 (.tu (.c (.ks "go") (.c (.bo .add (.bo .add (.v 3) (.ki 1)) (.bo .mod (.bo .sub (.uo .neg (.ki 1)) (.ix (.v 4) (.ki 1))) (.bo .sub (.bo .sub (.v 1) (.v 3)) (.ki 1)))) .n)))))) (.o (.ie (.c .eq (.ix (.v 4) (.ki 0)) (.ks "part")) (.c (.l (.st 5 (.bo .mod (.ix (.v 4) (.ki 2)) (.v 1)))) (.o (.l (.st 4 (.tu (.c (.ks "part") (.c (.ix (.v 4) (.ki 1)) (.c (.ix (.li (.c (.v 5) (.c (.v 3) .n))) (.fb .int (.c (.co .eq (.v 5) (.bo .add (.v 3) (.ki 1))) .n))) .n)))))))) .n))) (.o (.l (.ap 2 (.v 4))))))) (.o (.l (.rt (.v 2))))))),none⟩
noncomputable def IJ:List C.Dd:=ye::II
noncomputable def KQ:List C.FT:=.p qm::KP
theorem Xy:C.tab IJ=KQ:=C.eO Xx rfl rfl rfl
noncomputable def uk:Ev→Option Fl :=
 (av (aN (jB (ae (m8 false) (ae aj (jV 4) (jC (.int 0))) (b9 (ag (jC (.str "go")) (ag (jC (.str "part")) ah)))))
  (aH 4 (ae aV (gj eY (jV 4) gu (fF (cQ eQ (jC (.int 1))))) (b9 (ag (ae aV (ae aj (jV 4) (cQ eQ (jC (.int 1)))) (jC (.int 1))) ah))))
  aY)
 (bM 3 (jV 4)))
noncomputable def CV:Ev→Option Fl :=
 (av (aH 2 (aF bJ (ag (jV 0) ah)))
 (av (aH 3 (bI (ag (b9 (ag (jC (.str "go")) (ag (jV 2) ah))) ah)))
 (av (fq (gn (gj eY (jV 0) gu (fF (cQ eQ (jC (.int 1)))))) (gN 4)
  uk)
 (aP (ae aV (jV 3) (bI (ag (b9 (ag (jC (.str "part")) (ag (jV 1) (ag (jC (.int 1)) ah)))) (ag (b9 (ag (jC (.str "end")) ah)) ah))))))))
noncomputable def qt:List D→Option (M×D):=fn 5 CV
noncomputable def yf:C.Dd:=⟨"_law_tested",top 18,["_law_rows", "_law_name"],["_law_rows", "_law_name", "_law_many", "_law_found", "_law_row_here"],0,none,(.c (.l (.st 2 (.fb .len (.c (.v 0) .n)))) (.c (.l (.st 3 (.li (.c (.tu (.c (.ks "go") (.c (.v 2) .n))) .n)))) (.c (.fo (.l (.sl (.v 0) .n (.s (.uo .neg (.ki 1))))) (.n 4) (.c (.ie (.c .tZ (.ix (.v 4) (.ki 0)) (.tu (.c (.ks "go") (.c (.ks "part") .n)))) (.o (.l (.st 4 (.bo .add (.sl (.v 4) .n (.s (.uo .neg (.ki 1)))) (.tu (.c (.bo .add (.ix (.v 4) (.uo .neg (.ki 1))) (.ki 1)) .n)))))) .n) (.o (.l (.ap 3 (.v 4)))))) (.o (.l (.rt (.bo .add (.v 3) (.li (.c (.tu (.c (.ks "part") (.c (.v 1) (.c (.ki 1) .n)))) (.c (.tu (.c (.ks "end") .n)) .n)))))))))),none⟩
noncomputable def IK:List C.Dd:=yf::IJ
noncomputable def KR:List C.FT:=.p qt::KQ
theorem Xz:C.tab IK=KR:=C.eO Xy rfl rfl rfl
noncomputable def n6:Ev→Option Fl :=
 (aN (bR (jB (ae aQ (ae aZ (jV 6) (jC (.int 11))) (jC (.int 3)))) (jB (ae jo (jV 5) (jC .non))))
  (av (aH 5 (aF bJ (ag (jV 3) ah)))
 (av (bM 4 (jV 5))
 (bM 3 (b9 (ag (jC (.str "part")) (ag (aJ iZ (ag (ae aZ (ae bC (jV 6) (jC (.int 11))) (ae aV (aF bJ (ag (jV 1) ah)) (jC (.int 1)))) (ag (jV 6) (ag (jV 1) ah)))) (ag (jC (.int 0)) ah)))))))
  (aN (bR (jB (ae dX (ae aZ (jV 6) (jC (.int 11))) (jC (.int 3)))) (jB (ae kf (jV 5) (jC .non))))
  (av (i9 [0,3] [3,4] [(0,3),(1,5),(3,4)] lA (ag (jV 3) (ag (jV 5) (ag (ae bC (jV 6) (jC (.int 11))) (ag (jV 4) ah)))))
 (aH 5 (jC .non)))
  (av (aN (jB (ae jo (jV 5) (jC .non)))
  (bM 4 (aF bJ (ag (jV 3) ah)))
  aY)
 (bM 3 (aJ qy (ag (ae bC (jV 6) (jC (.int 11))) (ag (jV 1) ah)))))))
noncomputable def CM:Ev→Option Fl :=
 (av (aH 3 (bI ah))
 (av (aH 4 (bI ah))
 (av (aH 5 (jC .non))
 (av (fq (gn (ae aV (jV 0) (gF (iJ (ag (ae c6 (jV 2) (aF c7 (ag (ae fu (jV 0) (bI ah)) ah))) ah)) [0] ft (ae aV (ae aj (jV 1) (ae aZ (jV 0) (aF bJ (ag (jV 1) ah)))) (ae c6 (jC (.int 101)) (jV 0)))))) (gN 6)
  n6)
 (av (aN (jB (ae kf (jV 5) (jC .non)))
  (i9 [0,3] [3,4] [(0,3),(1,5),(3,4)] lA (ag (jV 3) (ag (jV 5) (ag (jC (.int 0)) (ag (jV 4) ah)))))
  aY)
 (av (aH 3 (aJ qm (ag (ae aV (jV 3) (bI (ag (b9 (ag (jC (.str "end")) ah)) ah))) ah)))
 (av (aN (bR (jB (ae fu (jV 0) (bI ah))) (bR (jB (ae aQ (ae aZ (ae bC (ae aj (jV 0) (jC (.int 0))) (jC (.int 7))) (jC (.int 6))) (jC (.int 1)))) (jB (ae dX (aF bJ (ag (jV 3) ah)) (jC (.int 59))))))
  (aH 3 (aJ qt (ag (jV 3) (ag (ae aj (jV 1) (jC (.int 0))) ah))))
  aY)
 (aP (jV 3)))))))))
noncomputable def qo:List D→Option (M×D):=fn 7 CM
noncomputable def yg:C.Dd:=⟨"_law_program",top 19,["_law_cells", "_law_names_here", "_law_more"],["_law_cells", "_law_names_here", "_law_more", "_law_rows", "_law_outer", "_law_begin", "_law_cell_here"],2,none,(.c (.l (.st 3 (.li .n))) (.c (.l (.st 4 (.li .n))) (.c (.l (.st 5 .kn)) (.c (.fo (.l (.bo .add (.v 0) (.cp (.r1 (.c (.bo .mul (.v 2) (.fb .int (.c (.co .qg (.v 0) (.li .n)) .n))) .n)) [0] .y (.bo .add (.ix (.v 1) (.bo .mod (.v 0) (.fb .len (.c (.v 1) .n)))) (.bo .mul (.ki 101) (.v 0)))))) (.n 6) (.o (.ie (.an (.c .eq (.bo .mod (.v 6) (.ki 11)) (.ki 3)) (.c .tX (.v 5) .kn)) (.c (.l (.st 5 (.fb .len (.c (.v 3) .n)))) (.c (.l (.ap 4 (.v 5))) (.o (.l (.ap 3 (.tu (.c (.ks "part") (.c (.ca 4 (.c (.bo .mod (.bo .div (.v 6) (.ki 11)) (.bo .add (.fb .len (.c (.v 1) .n)) (.ki 1))) (.c (.v 6) (.c (.v 1) .n)))) (.c (.ki 0) .n))))))))) (.o (.ie (.an (.c .lt (.bo .mod (.v 6) (.ki 11)) (.ki 3)) (.c .tY (.v 5) .kn)) (.c (.l (.iD 2 [3,4] (.c (.v 3) (.c (.v 5) (.c (.bo .div (.v 6) (.ki 11)) (.c (.v 4) .n)))))) (.o (.l (.st 5 .kn)))) (.c (.ie (.c .tX (.v 5) .kn) (.o (.l (.ap 4 (.fb .len (.c (.v 3) .n))))) .n) (.o (.l (.ap 3 (.ca 3 (.c (.bo .div (.v 6) (.ki 11)) (.c (.v 1) .n)))))))))))) (.c (.ie (.c .tY (.v 5) .kn) (.o (.l (.iD 2 [3,4] (.c (.v 3) (.c (.v 5) (.c (.ki 0) (.c (.v 4) .n))))))) .n) (.c (.l (.st 3 (.ca 1 (.c (.bo .add (.v 3) (.li (.c (.tu (.c (.ks "end") .n)) .n))) .n)))) (.c (.ie (.an (.c .qg (.v 0) (.li .n)) (.an (.c .eq (.bo .mod (.bo .div (.ix (.v 0) (.ki 0)) (.ki 7)) (.ki 6)) (.ki 1)) (.c .lt (.fb .len (.c (.v 3) .n)) (.ki 59)))) (.o (.l (.st 3 (.ca 0 (.c (.v 3) (.c (.ix (.v 1) (.ki 0)) .n)))))) .n) (.o (.l (.rt (.v 3))))))))))),none⟩
noncomputable def IL:List C.Dd:=yg::IK
noncomputable def KS:List C.FT:=.p qo::KR
theorem XA:C.tab IL=KS:=C.eO Xz rfl rfl rfl
noncomputable def CN:Ev→Option Fl :=
 (av (aH 3 (rA [((jC (.str "+")),(ae aV (jV 1) (jV 2))),((jC (.str "-")),(ae fj (jV 1) (jV 2))),((jC (.str "*")),(ae c6 (jV 1) (jV 2))),((jC (.str "&")),(ae mP (jV 1) (jV 2))),((jC (.str "|")),(ae m7 (jV 1) (jV 2))),((jC (.str "^")),(ae mQ (jV 1) (jV 2))),((jC (.str "<")),(aF c7 (ag (ae dX (jV 1) (jV 2)) ah))),((jC (.str "=")),(aF c7 (ag (ae aQ (jV 1) (jV 2)) ah)))]))
 (aP (ae aZ (iB (jV 3) (jV 0)) (jC (.int 18446744073709551616)))))
noncomputable def ur:List D→Option (M×D):=fn 4 CN
noncomputable def yh:C.Dd:=⟨"_law_come_to",top 20,["_law_s", "_law_a", "_law_b"],["_law_s", "_law_a", "_law_b", "_law_some"],0,none,(.c (.l (.st 3 (.dD (.c (.ks "+") (.bo .add (.v 1) (.v 2)) (.c (.ks "-") (.bo .sub (.v 1) (.v 2)) (.c (.ks "*") (.bo .mul (.v 1) (.v 2)) (.c (.ks "&") (.bo .band (.v 1) (.v 2)) (.c (.ks "|") (.bo .bor (.v 1) (.v 2)) (.c (.ks "^") (.bo .bxor (.v 1) (.v 2)) (.c (.ks "<") (.fb .int (.c (.co .lt (.v 1) (.v 2)) .n)) (.c (.ks "=") (.fb .int (.c (.co .eq (.v 1) (.v 2)) .n)) .n))))))))))) (.o (.l (.rt (.bo .mod (.dg (.v 3) (.v 0)) (.ki 18446744073709551616)))))),none⟩
noncomputable def IQ:List C.Dd:=yh::IL
noncomputable def KW:List C.FT:=.p ur::KS
theorem XB:C.tab IQ=KW:=C.eO XA rfl rfl rfl
noncomputable def qu:Ev→Option Fl :=
 (aN (jB (aF eR (ag (jV 6) (ag (jC (.ty "str")) ah))))
  (bM 5 (j6 (jV 2) (jV 6) (jC (.int 0))))
  (bM 5 (jV 6)))
noncomputable def Dw:Ev→Option Fl :=
 (av (aH 4 (ae aj (jV 0) (jV 1)))
 (av (aH 5 (bI ah))
 (av (fq (xF (gj eY (jV 4) (fF (jC (.int 1))) gu)) (gN 6)
  qu)
 (av (aN (jB (ae aQ (ae aj (jV 4) (jC (.int 0))) (jC (.str "reckon"))))
  (fH 2 (ae aj (jV 4) (jC (.int 1))) (aJ ur (ag (ae aj (jV 4) (jC (.int 2))) (ag (ae aj (jV 5) (jC (.int 2))) (ag (ae aj (jV 5) (jC (.int 3))) ah)))))
  (aN (jB (ae aQ (ae aj (jV 4) (jC (.int 0))) (jC (.str "copy"))))
  (fH 2 (ae aj (jV 4) (jC (.int 1))) (ae aj (jV 5) (jC (.int 1))))
  (aN (jB (ae aQ (ae aj (jV 4) (jC (.int 0))) (jC (.str "say"))))
  (bM 3 (ae aj (jV 5) (jC (.int 0))))
  (aN (cE (jB (ae aQ (ae aj (jV 4) (jC (.int 0))) (jC (.str "go")))) (jB (ae b8 (ae aj (jV 5) (jC (.int 0))) (jC (.int 0)))))
  (aP (ae aj (jV 4) (cQ eQ (jC (.int 1)))))
  aY))))
 (aP (ae aV (jV 1) (jC (.int 1))))))))
noncomputable def qw:List D→Option (M×D×List D):=jv 7 [2,3] Dw
noncomputable def yi:C.Dd:=⟨"_law_step",top 21,["_law_program_here", "_law_n", "_law_worths", "_law_told"],["_law_program_here", "_law_n", "_law_worths", "_law_told", "_law_row_here", "_law_some", "_law_part"],1,some [2,3],(.c (.l (.st 4 (.ix (.v 0) (.v 1)))) (.c (.l (.st 5 (.li .n))) (.c (.fo (.t (.sl (.v 4) (.s (.ki 1)) .n)) (.n 6) (.o (.ie (.b (.fb .iY (.c (.v 6) (.c (.ty "str") .n)))) (.o (.l (.ap 5 (.g2 (.v 2) (.v 6) (.ki 0))))) (.o (.l (.ap 5 (.v 6))))))) (.c (.ie (.c .eq (.ix (.v 4) (.ki 0)) (.ks "reckon")) (.o (.l (.dp 2 (.ix (.v 4) (.ki 1)) (.ca 0 (.c (.ix (.v 4) (.ki 2)) (.c (.ix (.v 5) (.ki 2)) (.c (.ix (.v 5) (.ki 3)) .n))))))) (.o (.ie (.c .eq (.ix (.v 4) (.ki 0)) (.ks "copy")) (.o (.l (.dp 2 (.ix (.v 4) (.ki 1)) (.ix (.v 5) (.ki 1))))) (.o (.ie (.c .eq (.ix (.v 4) (.ki 0)) (.ks "say")) (.o (.l (.ap 3 (.ix (.v 5) (.ki 0))))) (.o (.ie (.or (.c .eq (.ix (.v 4) (.ki 0)) (.ks "go")) (.c .ne (.ix (.v 5) (.ki 0)) (.ki 0))) (.o (.l (.rt (.ix (.v 4) (.uo .neg (.ki 1)))))) .n))))))) (.o (.l (.rt (.bo .add (.v 1) (.ki 1))))))))),none⟩
noncomputable def IU:List C.Dd:=yi::IQ
noncomputable def KY:List C.FT:=.io [2,3] qw::KW
theorem XC:C.tab IU=KY:=C.zt XB rfl rfl rfl
noncomputable def um:Ev→Option Fl :=
 (av (aN (cE (jB (ae b8 (jV 8) (jV 6))) (bR (jB (ae dN (jV 7) (jC (.int 0)))) (jB (ae aQ (ae aj (ae aj (jV 0) (ae aj (ae aj (jV 2) (jC (.int 3))) (ae fj (jV 7) (jC (.int 1))))) (jC (.int 0))) (jC (.str "end"))))))
  (aP (jC (.bl false)))
  aY)
 (aN (jB (ae b8 (ae aj (ae aj (jV 0) (jV 6)) (jC (.int 0))) (jC (.str "end"))))
  (qP 6 [2,3] [4,5] [(0,0),(1,6),(2,4),(3,5)] qw (ag (jV 0) (ag (jV 6) (ag (jV 4) (ag (jV 5) ah)))))
  aY))
noncomputable def mD:Ev→Option Fl :=
 (aN (jB (ae b8 (iB (jV 4) (jV 11)) (jC (.int 0))))
  (fH 10 (jV 11) (iB (jV 4) (jV 11)))
  aY)
noncomputable def CW:Ev→Option Fl :=
 (av (aH 4 (aF gG (ag (jV 1) ah)))
 (av (aH 5 (bI ah))
 (av (aH 6 (jC (.int 0)))
 (av (fq (nS (ag (ae aj (jV 2) (jC (.int 3))) ah)) (gT 2 (b7 (gN 7) (b7 (gN 8) fG)))
  um)
 (av (aH 9 (ky (ae dN (aF bJ (ag (ae aj (jV 2) (jC (.int 3))) ah)) (jC (.int 0))) (ae aQ (ae aj (ae aj (jV 0) (ae aj (ae aj (jV 2) (jC (.int 3))) (cQ eQ (jC (.int 1))))) (jC (.int 0))) (jC (.str "end")))))
 (av (aN (cE (jB (ae b8 (ae aj (jV 2) (jC (.int 0))) (ae aj (bI (ag (jC (.str "spent")) (ag (jC (.str "end")) ah))) (aF c7 (ag (jV 9) ah))))) (cE (bR (fm (jB (jV 9))) (jB (ae b8 (aF bJ (ag (ae aj (jV 2) (jC (.int 3))) ah)) (jV 3)))) (jB (ae dN (aF bJ (ag (ae aj (jV 2) (jC (.int 3))) ah)) (jV 3)))))
  (aP (jC (.bl false)))
  aY)
 (av (aH 10 qQ)
 (av (jt 4 (rn BU 4 (gN 11)
  mD))
 (aP (ky (ae lQ (ae aj (jV 2) (jC (.int 1))) (jV 5)) (ae (iL false) (ae aj (jV 2) (jC (.int 2))) (jV 10))))))))))))
noncomputable def lz:List D→Option (M×D):=fn 12 CW
noncomputable def yj:C.Dd:=⟨"_law_walked",top 22,["_law_program_here", "_law_handed", "_law_found", "_law_most"],["_law_program_here", "_law_handed", "_law_found", "_law_most", "_law_worths", "_law_told", "_law_n", "_law_k", "_law_here", "_law_ended", "_law_due", "_law_name"],2,none,(.c (.l (.st 4 (.fb .dict (.c (.v 1) .n)))) (.c (.l (.st 5 (.li .n))) (.c (.l (.st 6 (.ki 0))) (.c (.fo (.en (.c (.ix (.v 2) (.ki 3)) .n)) (.t 2 (.c (.n 7) (.c (.n 8) .n))) (.c (.ie (.or (.c .ne (.v 8) (.v 6)) (.an (.c .gt (.v 7) (.ki 0)) (.c .eq (.ix (.ix (.v 0) (.ix (.ix (.v 2) (.ki 3)) (.bo .sub (.v 7) (.ki 1)))) (.ki 0)) (.ks "end")))) (.o (.l (.rt (.kb false)))) .n) (.o (.ie (.c .ne (.ix (.ix (.v 0) (.v 6)) (.ki 0)) (.ks "end")) (.o (.l (.iS 6 0 [4,5] (.c (.v 0) (.c (.v 6) (.c (.v 4) (.c (.v 5) .n))))))) .n)))) (.c (.l (.st 9 (.an (.co .gt (.fb .len (.c (.ix (.v 2) (.ki 3)) .n)) (.ki 0)) (.co .eq (.ix (.ix (.v 0) (.ix (.ix (.v 2) (.ki 3)) (.uo .neg (.ki 1)))) (.ki 0)) (.ks "end"))))) (.c (.ie (.or (.c .ne (.ix (.v 2) (.ki 0)) (.ix (.li (.c (.ks "spent") (.c (.ks "end") .n))) (.fb .int (.c (.v 9) .n)))) (.or (.an (.nt (.b (.v 9))) (.c .ne (.fb .len (.c (.ix (.v 2) (.ki 3)) .n)) (.v 3))) (.c .gt (.fb .len (.c (.ix (.v 2) (.ki 3)) .n)) (.v 3)))) (.o (.l (.rt (.kb false)))) .n) (.c (.l (.st 10 .dK)) (.c (.fz 4 (.fk 4 (.n 11) (.o (.ie (.c .ne (.dg (.v 4) (.v 11)) (.ki 0)) (.o (.l (.dp 10 (.v 11) (.dg (.v 4) (.v 11))))) .n)))) (.o (.l (.rt (.an (.co .xR (.ix (.v 2) (.ki 1)) (.v 5)) (.co .jS (.ix (.v 2) (.ki 2)) (.v 10)))))))))))))),none⟩
noncomputable def IV:List C.Dd:=yj::IU
noncomputable def KZ:List C.FT:=.p lz::KY
theorem XD:C.tab IV=KZ:=C.eO XC rfl rfl rfl
noncomputable def C7:Ev→Option Fl :=
 (av (aN (cE (fm (jB (aF eR (ag (jV 0) (ag (jC (.ty "tuple")) ah))))) (cE (jB (ae b8 (aF bJ (ag (jV 0) ah)) (jC (.int 4)))) (fm (jB (aF eR (ag (ae aj (jV 0) (jC (.int 1))) (ag (jC (.ty "list")) ah)))))))
  (aP (jC (.bl false)))
  aY)
 (av (aN (cE (fm (jB (aF eR (ag (ae aj (jV 0) (jC (.int 2))) (ag (jC (.ty "dict")) ah))))) (fm (jB (aF eR (ag (ae aj (jV 0) (jC (.int 3))) (ag (jC (.ty "list")) ah))))))
  (aP (jC (.bl false)))
  aY)
 (av (aH 1 (ae aV (ae aV (ae aj (jV 0) (jC (.int 1))) (nV (ae aj (jV 0) (jC (.int 2))))) (ae aj (jV 0) (jC (.int 3)))))
 (av (jt 1 (aN (jB (aF ni (ag (gF (gn (jV 1)) [] ft (aF eR (ag (jV 0) (ag (jC (.ty "bool")) ah)))) ah)))
  (aP (jC (.bl false)))
  aY))
 (aP (aF nh (ag (gF (gn (jV 1)) [] ft (aF eR (ag (jV 0) (ag (jC (.ty "int")) ah)))) ah)))))))
noncomputable def oa:List D→Option (M×D):=fn 2 C7
noncomputable def yk:C.Dd:=⟨"_law_kinds",top 23,["_law_found"],["_law_found", "_law_numbers"],0,none,(.c (.ie (.or (.nt (.b (.fb .iY (.c (.v 0) (.c (.ty "tuple") .n))))) (.or (.c .ne (.fb .len (.c (.v 0) .n)) (.ki 4)) (.nt (.b (.fb .iY (.c (.ix (.v 0) (.ki 1)) (.c (.ty "list") .n))))))) (.o (.l (.rt (.kb false)))) .n) (.c (.ie (.or (.nt (.b (.fb .iY (.c (.ix (.v 0) (.ki 2)) (.c (.ty "dict") .n))))) (.nt (.b (.fb .iY (.c (.ix (.v 0) (.ki 3)) (.c (.ty "list") .n)))))) (.o (.l (.rt (.kb false)))) .n) (.c (.l (.st 1 (.bo .add (.bo .add (.ix (.v 0) (.ki 1)) (.lv (.ix (.v 0) (.ki 2)))) (.ix (.v 0) (.ki 3))))) (.c (.fz 1 (.ie (.b (.fb .any (.c (.cp (.l (.v 1)) [] .y (.fb .iY (.c (.v 0) (.c (.ty "bool") .n)))) .n))) (.o (.l (.rt (.kb false)))) .n)) (.o (.l (.rt (.fb .all (.c (.cp (.l (.v 1)) [] .y (.fb .iY (.c (.v 0) (.c (.ty "int") .n)))) .n))))))))),none⟩
noncomputable def IW:List C.Dd:=yk::IV
noncomputable def K0:List C.FT:=.p oa::KZ
theorem XE:C.tab IW=K0:=C.eO XD rfl rfl rfl
noncomputable def qH:Ev→Option Fl :=
 (aN (jB (ae dN (ae aZ (ae bC (aJ cW (ag (jV 0) (ag (jC (.int 2)) ah))) (ae aV (jV 4) (jC (.int 1)))) (jC (.int 3))) (jC (.int 0))))
  (fH 3 (jV 5) (aJ iZ (ag (ae aV (jC (.int 4)) (ae aZ (ae bC (aJ cW (ag (jV 0) (ag (jC (.int 3)) ah))) (ae aV (jV 4) (jC (.int 1)))) (jC (.int 2)))) (ag (ae aV (aJ cW (ag (jV 0) (ag (jC (.int 3)) ah))) (jV 4)) (ag (gj eY (jV 1) gu (fF (jC (.int 4)))) ah)))))
  aY)
noncomputable def uU:Ev→Option Bool :=
 (cE (fm (jB (aJ oa (ag (jV 10) ah)))) (cE (fm (jB (aJ lz (ag (jV 2) (ag (jV 7) (ag (jV 10) (ag (jV 6) ah))))))) (cE (jB (ae (iL true) (jV 3) (jV 7))) (jB (ae fu (jV 8) (jV 2))))))
noncomputable def qI:Ev→Option Fl :=
 (xQ 10 (aJ lL (ag (jV 2) (ag (jV 3) (ag (jV 6) ah)))) uU (jC (.bl false)) [nu (jC (.int 1)) (jC (.int 1)),rS (jC (.int 2)) (jC (.str "a")) (jC (.int 7)),nu (jC (.int 3)) (jC (.int 0))]
 aY)
noncomputable def Hw:Ev→Option Fl :=
 (av (aH 1 (aJ n9 (ag (aJ cW (ag (jV 0) (ag (jC (.int 0)) ah))) (ag (jC (.int 5)) ah))))
 (av (aH 2 (aJ qo (ag (gj eY (jV 0) (fF (jC (.int 4))) (fF (jC (.int 44)))) (ag (gj eY (jV 1) gu (fF (jC (.int 4)))) (ag (ae aZ (aJ cW (ag (jV 0) (ag (jC (.int 1)) ah))) (jC (.int 19))) ah)))))
 (av (aH 3 qQ)
 (av (jt 1 (fq (nS (ag (jV 1) ah)) (gT 2 (b7 (gN 4) (b7 (gN 5) fG)))
  qH))
 (av (aH 6 (ae aZ (ae bC (aJ cW (ag (jV 0) (ag (jC (.int 1)) ah))) (jC (.int 19))) (jC (.int 100))))
 (av (aH 7 (aF gG (ag (jV 3) ah)))
 (av (aH 8 (aF oQ (ag (jV 2) ah)))
 (av (fq (iJ (ag (jC (.int 2)) ah)) (gN 9)
  qI)
 (av (aN (jB (ae dN (jV 6) (jC (.int 94))))
  (aP (aJ lz (ag (jV 2) (ag (jV 7) (ag (aJ lL (vK 1000 (ag (jV 2) (ag (jV 3) ah)))) (ag (jC (.int 1000)) ah))))))
  aY)
 (aP (jC (.bl true))))))))))))
noncomputable def vP:List D→Option (M×D):=fn 11 Hw
noncomputable def yl:C.Dd:=⟨"law",top 24,["_law_script"],["_law_script", "_law_names_here", "_law_program_here", "_law_handed", "_law_k", "_law_name", "_law_most", "_law_kept", "_law_rows", "_law_turn", "_law_found"],3,none,(.c (.l (.st 1 (.ca 11 (.c (.ca 12 (.c (.v 0) (.c (.ki 0) .n))) (.c (.ki 5) .n))))) (.c (.l (.st 2 (.ca 4 (.c (.sl (.v 0) (.s (.ki 4)) (.s (.ki 44))) (.c (.sl (.v 1) .n (.s (.ki 4))) (.c (.bo .mod (.ca 12 (.c (.v 0) (.c (.ki 1) .n))) (.ki 19)) .n)))))) (.c (.l (.st 3 .dK)) (.c (.fz 1 (.fo (.en (.c (.v 1) .n)) (.t 2 (.c (.n 4) (.c (.n 5) .n))) (.o (.ie (.c .gt (.bo .mod (.bo .div (.ca 12 (.c (.v 0) (.c (.ki 2) .n))) (.bo .add (.v 4) (.ki 1))) (.ki 3)) (.ki 0)) (.o (.l (.dp 3 (.v 5) (.ca 9 (.c (.bo .add (.ki 4) (.bo .mod (.bo .div (.ca 12 (.c (.v 0) (.c (.ki 3) .n))) (.bo .add (.v 4) (.ki 1))) (.ki 2))) (.c (.bo .add (.ca 12 (.c (.v 0) (.c (.ki 3) .n))) (.v 4)) (.c (.sl (.v 1) .n (.s (.ki 4))) .n))))))) .n)))) (.c (.l (.st 6 (.bo .mod (.bo .div (.ca 12 (.c (.v 0) (.c (.ki 1) .n))) (.ki 19)) (.ki 100)))) (.c (.l (.st 7 (.fb .dict (.c (.v 3) .n)))) (.c (.l (.st 8 (.fb .list (.c (.v 2) .n)))) (.c (.fo (.r1 (.c (.ki 2) .n)) (.n 9) (.u 10 (.ca 13 (.c (.v 2) (.c (.v 3) (.c (.v 6) .n)))) (.or (.nt (.b (.ca 0 (.c (.v 10) .n)))) (.or (.nt (.b (.ca 1 (.c (.v 2) (.c (.v 7) (.c (.v 10) (.c (.v 6) .n))))))) (.or (.c .xS (.v 3) (.v 7)) (.c .qg (.v 8) (.v 2))))) (.kb false) [.a (.ki 1) (.ki 1),.d (.ki 2) (.ks "a") (.ki 7),.a (.ki 3) (.ki 0)] .n)) (.c (.ie (.c .gt (.v 6) (.ki 94)) (.o (.l (.rt (.ca 1 (.c (.v 2) (.c (.v 7) (.c (.cd 13 (.c (.v 2) (.c (.v 3) .n)) 1000) (.c (.ki 1000) .n)))))))) .n) (.o (.l (.rt (.kb true))))))))))))),none⟩
noncomputable def wD:List C.Dd:=yl::IW
noncomputable def XF:List C.FT:=.p vP::K0
theorem XG:C.tab wD=XF:=C.eO XE rfl rfl rfl
theorem ok:C.vO bs gs wD=true:=by decide +kernel
theorem V6:C.BA d1.nm d1.st d1.ps:=C.nX fun _ _ _ _ _ _ _ _=>rfl
theorem V7:C.BA d2.nm d2.st d2.ps:=C.qj fun _ _ _ _ _ _ _ _ _=>rfl
theorem V8:C.BA d3.nm d3.st d3.ps:=C.nX fun _ _ _ _ _ _ _ _=>rfl
theorem V9:C.BA d4.nm d4.st d4.ps:=C.qj fun _ _ _ _ _ _ _ _ _=>rfl
theorem Wa:C.BA d5.nm d5.st d5.ps:=C.qj fun _ _ _ _ _ _ _ _ _=>rfl
theorem Wb:C.BA d6.nm d6.st d6.ps:=C.x4 fun _ _ _ _ _ _ _=>rfl
theorem Wc:C.Cj d7.nm d7.st d7.ps 1000:=C.V5 (fun _ _ _ _ _ _ _ _ _ _ _ _ _ e _ X _ _ _=>PySem.W.binds_K X rfl e rfl rfl rfl) (fun _ _ _ _ _ _ _ _ _ _ _ _ _ e _ X _ _=>PySem.W.binds_K X rfl e rfl rfl rfl)
theorem Wd:C.BA d8.nm d8.st d8.ps:=C.nX fun _ _ _ _ _ _ _ _=>rfl
theorem Wf:C.BA d9.nm d9.st d9.ps:=C.nX fun _ _ _ _ _ _ _ _=>rfl
theorem U3:C.BA ya.nm ya.st ya.ps:=C.nX fun _ _ _ _ _ _ _ _=>rfl
theorem U4:C.BA yb.nm yb.st yb.ps:=C.qj fun _ _ _ _ _ _ _ _ _=>rfl
theorem U5:C.BA yc.nm yc.st yc.ps:=C.nX fun _ _ _ _ _ _ _ _=>rfl
theorem U6:C.BA yd.nm yd.st yd.ps:=C.Ci fun _ _ _ _ _ _ _ _ _ _=>rfl
theorem U7:C.BA ye.nm ye.st ye.ps:=C.x4 fun _ _ _ _ _ _ _=>rfl
theorem U8:C.BA yf.nm yf.st yf.ps:=C.nX fun _ _ _ _ _ _ _ _=>rfl
theorem U9:C.BA yg.nm yg.st yg.ps:=C.qj fun _ _ _ _ _ _ _ _ _=>rfl
theorem Va:C.BA yh.nm yh.st yh.ps:=C.qj fun _ _ _ _ _ _ _ _ _=>rfl
theorem Vb:C.BA yi.nm yi.st yi.ps:=C.Ci fun _ _ _ _ _ _ _ _ _ _=>rfl
theorem Vc:C.BA yj.nm yj.st yj.ps:=C.Ci fun _ _ _ _ _ _ _ _ _ _=>rfl
theorem Vd:C.BA yk.nm yk.st yk.ps:=C.x4 fun _ _ _ _ _ _ _=>rfl
theorem Ve:C.BA yl.nm yl.st yl.ps:=C.x4 fun _ _ _ _ _ _ _=>rfl
theorem ba:C.x5 wD:=⟨Ve,Vd,Vc,Vb,Va,U9,U8,U7,U6,U5,U4,U3,Wf,Wd,Wc,Wb,Wa,V9,V8,V7,V6,trivial⟩
end b5
namespace b5
open PySem L2 J
local macro_rules|`(tactic| walk_at "ev")=>`(tactic| simp -implicitDefEqProofs only [av,aN,jB,ae,cQ,jV,aF,ag,ah,aP,G7,aH,aY,jC,aJ,ky,xD,wa,bR,cE,fm,ph,b9,bI,q8,eJ,bM,oE,wd,gL,b7,fG,xH,tM,jt,aL,fq,gn,iJ,ig,gO,own,gN,Aa,dB,ft,List.map_cons,List.map_nil,List.length_cons,List.length_nil,List.cons_append,List.nil_append,List.replicate,List.getElem?_cons_zero,List.getElem?_cons_succ,List.set_cons_zero,List.set_cons_succ,List.all_cons,List.all_nil,Option.bind_some,Option.bind_none,Option.map_some,Option.map_none,id_eq,zG,cY,Hc,lI,vE,qL,vd,vG,He,rg,Hf,rh,g8,kg,zH,Hh,Hi,Hj,rj,bK,oG,yT,uP,mI,zg,F5,F6,F7,ve,F9,Ga,fW,wg,Ij,Ik,dq,vf,Gb,vg,if_true,if_false,Bool.and_self,Bool.and_true,Bool.true_and,Bool.false_eq_true,decide_true,decide_false,reduceIte,reduceCtorEq,List.length_map,Nat.reduceAdd,Nat.reduceSub,Bool.not_true,Bool.not_false,p8,Il,Nat.reduceLeDiff,mul_r,fE,div_ii,Hd,Int.reducePow,Int.reduceNeg,Int.reduceLT,Int.reduceLE,Int.reduceToNat,and_self,and_true,true_and,Nat.reduceLT,ne_eq,not_false_eq_true])
noncomputable abbrev Cm:Str := "abcdefghijklmnopqrstuvwxyz"
noncomputable abbrev K1:Str := "0123456789"
noncomputable abbrev K2:List V:=[.str "say",.str "go",.str "part",.str "end"]
noncomputable abbrev K3:List V:=[.str "+",.str "-",.str "*",.str "&",.str "|",.str "^",.str "<",.str "="]
noncomputable def f9(c:Nat):Bool:=Ag Cm ⟨#[c]⟩
noncomputable def nY(c:Nat):Bool:=Ag K1 ⟨#[c]⟩
noncomputable def K4:List Nat→Bool
 |c::_=>f9 c
 |[]=>false
noncomputable def nameS(z:Str):Bool:=decide (1≤z.length)&&(decide (z.length≤8)&&(!dU (.str z) K2&&(K4 z.cps.toList&&z.cps.toList.all fun c=>f9 c||nY c)))
noncomputable def vQ:D→Bool
 |.str z=>nameS z
 |_=>false
def Ok(d:D):Prop:=iV d ≠ "type" ∧ ∀z,d=.str z→z.length≤1000
noncomputable def zu:D→Bool
 |.int i=>decide (0≤i)&&decide (i<18446744073709551616)
 |_=>false
noncomputable def ym(d:D):Bool:=vQ d||zu d
noncomputable def mV:D→Bool
 |.str z=>dU (.str z) K3
 |_=>false
noncomputable abbrev SG:Str := "abcdefghijklmnopqrstuvwxyz0123456789"
theorem uV(ns:List Int)(k:Int)(h0:0≤k)(h1:k≤1000):∃c,cW [.lst (ns.map .int),.int k]=some (.fr,.int c):=by
 unfold cW fn Du
 walk_at "ev"
 by_cases h:k<ns.length
 ·obtain⟨c,hc⟩:=yF h0 h
  refine⟨c,?_⟩
  simp only[h,hc]
  walk_at "ev"
  simp only[F8,fW]
 ·simp only[h]
  walk_at "ev"
  by_cases hz:(ns.length:Int)=0
  ·simp only[hz]
   walk_at "ev"
   simp[mul_r,zg]
  ·have hp:(0:Int)<ns.length:=by omega
   simp only[hz]
   walk_at "ev"
   rw[fE hp]
   walk_at "ev"
   obtain⟨c,hc⟩:=yF (ns:=ns) (k:=k%ns.length) (cP _ (by omega)) (di _ hp)
   simp only[hc]
   walk_at "ev"
   rw[mul_r (by omega)]
   walk_at "ev"
   exact⟨_,rfl⟩
noncomputable def one(c:Nat):Str:=⟨#[c]⟩
theorem El:∀(cs:List Nat) (acc:Array Nat),(cs.map one).foldl (fun acc p=>acc++("" : Str).cps++p.cps) acc=acc++cs.toArray
 |[],acc=>by simp
 |c::cs,acc=>by
  rw[bE,List.foldl_cons,El cs]
  have e:("" : Str).cps=#[]:=by decide +kernel
  rw[e]
  simp[one]
theorem join_one(cs:List Nat):Txt.join "" (cs.map one)=⟨cs.toArray⟩:=by
 cases cs with
 |nil=>rfl
 |cons c cs =>
  show(⟨((c::cs).map one).tail.foldl (fun acc p=>acc++("" : Str).cps++p.cps) #[c]⟩:Str)=_
  rw[bE,List.tail_cons,El]
  simp
theorem TV(cs:List Nat):(⟨cs.toArray⟩:Str).length=cs.length:=by
 show cs.toArray.size=_
 simp
theorem QR{m n:M}{cs:List Nat}(hl:cs.length≤1000):oU (m,.str "") [(n,.lst ((cs.map one).map D.str))]=some (.fr,.str ⟨cs.toArray⟩):=by
 simp only[oU,DN,Option.bind_some]
 rw[if_pos,join_one]
 have h1:∀y∈cs.map one,y.length=1:=fun y hy=>by obtain⟨c,_,rfl⟩:=de.mp hy;rfl
 rw[Ec h1,a7]
 have:("" : Str).length=0:=by decide
 rw[this,Nat.mul_zero,Nat.add_zero]
 exact bS hl (by decide)
theorem Gz:SG.cps.toList.length=36:=by decide +kernel
theorem Vf:SG.length≤sizeLine:=by decide
theorem Wg:∀i:Nat,i<26→f9 (SG.cps.toList.getD i 0)=true:=by
 have h:∀i∈List.range 26,decide (SG.cps.toList.getD i 0∈Cm.cps.toList)=true:=by decide +kernel
 intro i hi
 unfold f9
 rw[yW]
 exact h i (r6.mpr hi)
theorem Wh:∀i:Nat,i<36→(f9 (SG.cps.toList.getD i 0)||nY (SG.cps.toList.getD i 0))=true:=by
 have h:∀i∈List.range 36,(decide (SG.cps.toList.getD i 0∈Cm.cps.toList)||decide (SG.cps.toList.getD i 0∈K1.cps.toList))=true:=by decide +kernel
 intro i hi
 unfold f9 nY
 rw[yW,yW]
 exact h i (r6.mpr hi)
theorem Hx{m n:M}{i:Int}(h0:0≤i)(h1:i<36):∃c,aj (m,.str SG) (n,.int i)=some (.fr,.str ⟨#[c]⟩)∧(f9 c||nY c)=true∧(i<26→f9 c=true):=by
 have hl:i.toNat<SG.cps.toList.length:=by rw[Gz];omega
 refine⟨SG.cps.toList.getD i.toNat 0,?_,Wh _ (by omega),fun h=>Wg _ (by omega)⟩
 rw[Hg Vf,i7 h0 (by rw[Gz];omega),pN,bP hl]
 rfl
def Nm(cs:List Nat):Prop:=(∀c∈cs,(f9 c||nY c)=true)∧K4 cs=true
theorem QS{cs:List Nat}(h8:cs.length≤8)(h:Nm cs)(hw:dU (.str ⟨cs.toArray⟩) K2=false):nameS ⟨cs.toArray⟩=true:=by
 have h1:1≤cs.length:=by
  cases cs with
  |nil=>exact absurd h.2 (by decide)
  |cons c cs=>simp
 have e:(⟨cs.toArray⟩:Str).cps.toList=cs:=by simp
 simp only[nameS,TV,decide_eq_true h1,decide_eq_true h8,hw,e,h.2,List.all_eq_true.mpr h.1,Bool.not_false,Bool.and_self]
theorem Nm.set{cs:List Nat}{c k:Nat}(h:Nm cs)(hc:f9 c=true):Nm (cs.set k c):=by
 refine⟨fun x hx=>?_,?_⟩
 ·rcases List.mem_or_eq_of_mem_set hx with h'|rfl
  ·exact h.1 x h'
  ·rw[hc];rfl
 ·cases cs with
  |nil=>exact h.2
  |cons a cs =>
   cases k with
   |zero=>exact hc
   |succ k=>exact h.2
theorem Vg {z:Str} (h:dU (.str z) [.str "say",.str "go",.str "part",.str "end"]=true):nameS (z ++ "0")=true∧z.length≤10:=by
 unfold dU at h
 simp only[List.any_cons,List.any_nil,Bool.or_false,Bool.or_eq_true,jN,beq_iff_eq]at h
 rcases h with rfl|rfl|rfl|rfl<;>decide +kernel
theorem MY(c j:Int)(h0:0≤j)(h1:j<8):∃x,(ae aj (jV 1) (ae aZ (ae bC (jV 2) (ae aV (jC (.int 64)) (ae c6 (jC (.int 5)) (jV 0)))) (ae aj (bI (ag (jC (.int 26)) (ag (jC (.int 36)) ah))) (aF c7 (ag (ae dN (jV 0) (jC (.int 0))) ah))))) [some (.fr,.int j),some (.fr,.str SG),some (.al,.int c)]=some (.fr,.str (one x))∧(f9 x||nY x)=true∧(j=0→f9 x=true):=by
 have hm:∃k,(k=26∨(k=36∧j≠0))∧L2.aX [D.int 26,D.int 36] (if decide (0<j)=true then 1 else 0)=some (.int k):=by
  by_cases h:0<j
  ·exact⟨36,.inr ⟨rfl,by omega⟩,by simp[h];rfl⟩
  ·exact⟨26,.inl rfl,by simp[h];rfl⟩
 obtain⟨k,hk,ek⟩:=hm
 have kp:0<k:=by omega
 have q0:=cP (c/(64+5*j)) (show k≠0 by omega)
 have q1:=di (c/(64+5*j)) kp
 obtain⟨d,e1,e2,e3⟩:=Hx (m:=.fr) (n:=.fr) q0 (by omega)
 refine⟨d,?_,e2,fun hj=>e3 (by omega)⟩
 walk_at "ev"
 rw[mul_r (by omega),ek]
 walk_at "ev"
 rw[div_ii (by omega)]
 walk_at "ev"
 rw[fE kp]
 walk_at "ev"
 exact e1
theorem Em{fe:Ev→Option (M×D)}{m:M}{fr:Ev}:∀{ds:List D}{P:Nat→Nat→Prop},(∀(k:Nat) d,ds[k]?=some d→∃x,fe (some (m,d)::fr)=some (.fr,.str (one x))∧P k x)→∃cs:List Nat,fU ft fe m fr ds=some (((cs.map one).map D.str).map fun x=>(M.fr,x))∧cs.length=ds.length∧∀(k:Nat) x,cs[k]?=some x→P k x
 |[],P,_=>⟨[],rfl,rfl,fun k x h=>by simp at h⟩
 |d::ds,P,h=>by
  obtain⟨x,h2,h3⟩:=h 0 d rfl
  obtain⟨cs,q1,q2,q3⟩:=Em (ds:=ds) (P:=fun k x=>P (k+1) x) fun k e he=>h (k+1) e (by simpa using he)
  refine⟨x::cs,?_,by rw[cB,cB,q2],fun k y hy=>?_⟩
  ·rw[fU,show ft (some (m,d)::fr)=some true from rfl,aC,if_pos rfl,h2,aC,q1,aC];rfl
  ·cases k with
   |zero=>simp at hy;subst hy;exact h3
   |succ k=>exact q3 k y (by simpa using hy)
theorem L8(c:Int)(sz lR:Int)(cs:List Nat)(hy:Nm cs)(hl:cs.length≤8)(hs:0≤lR∧lR<cs.length)(fs:List Str)(hf:fs.length≤60)(j:Int)(many:M×D)(o:Option (M×D)) :
  ∃(cN:List Nat) (z:Str),Nm cN∧cN.length=cs.length∧nameS z=true∧uq [some (.al,.int c),some many,some (.fr,.str SG),some (.fr,.int sz),some (.fr,.int lR),some (.bo,.lst ((cs.map one).map .str)),some (.bo,.lst (fs.map .str)),some (.fr,.int j),o] =
   some (.nx [some (.al,.int c),some many,some (.fr,.str SG),some (.fr,.int sz),some (.fr,.int lR),some (.bo,.lst ((cN.map one).map .str)),some (.bo,.lst ((fs++[z]).map .str)),some (.fr,.int j),some (.fr,.str z)]):=by
 have q0:=cP (c/64+j) (show(26:Int)≠0 by decide)
 have q1:=di (c/64+j) (show(0:Int)<26 by decide)
 obtain⟨cp,e1,_,e2⟩:=Hx (m:=.fr) (n:=.fr) q0 (by omega)
 have e2:=e2 q1
 have hx:dF ((cs.map one).map D.str).length lR=some lR.toNat:=by
  unfold dF;rw[a7,a7,if_pos hs.1,if_pos hs.2]
 let cN:=cs.set lR.toNat cp
 have tm:Nm cN:=hy.set e2
 have kR:cN.length=cs.length:=hV
 have ez:=QR (m:=.fr) (n:=.bo) (cs:=cN) (by omega)
 have es:((cs.map one).map D.str).set lR.toNat (.str ⟨#[cp]⟩)=(cN.map one).map D.str:=by rw[List.map_set,List.map_set];rfl
 have ef:∀w:Str,fs.map D.str++[D.str w]=(fs++[w]).map D.str:=fun w=>by rw[dh];rfl
 unfold uq
 by_cases hz:dU (.str ⟨cN.toArray⟩) [.str "say",.str "go",.str "part",.str "end"]=true
 ·obtain⟨hn,hw⟩:=Vg hz
  refine⟨cN,⟨cN.toArray⟩ ++ "0",tm,kR,hn,?_⟩
  have Wi:∀{m n:M},aV (m,.str ⟨cN.toArray⟩) (n,.str "0")=some (.fr,.str (⟨cN.toArray⟩ ++ "0")):=fun {m n}=>S3 (by
   have:("0" : Str).length=1:=by decide
   rw[this]
   exact bS (show _+1≤1000 by omega) (by decide))
  walk_at "ev"
  rw[e1]
  walk_at "ev"
  simp -implicitDefEqProofs only [List.length_map]at hx
  rw[hx]
  walk_at "ev"
  rw[es,ez]
  walk_at "ev"
  simp -implicitDefEqProofs only [m8,eW,pA,pw,hz,Option.bind_some]
  walk_at "ev"
  rw[Wi]
  walk_at "ev"
  rw[if_pos (dJ hf (by decide)),ef]
 ·have qd:dU (.str ⟨cN.toArray⟩) [.str "say",.str "go",.str "part",.str "end"]=false:=by simpa using hz
  refine⟨cN,⟨cN.toArray⟩,tm,kR,QS (by omega) tm qd,?_⟩
  walk_at "ev"
  rw[e1]
  walk_at "ev"
  simp -implicitDefEqProofs only [List.length_map]at hx
  rw[hx]
  walk_at "ev"
  rw[es,ez]
  walk_at "ev"
  simp -implicitDefEqProofs only [m8,eW,pA,pw,qd,Option.bind_some]
  walk_at "ev"
  rw[if_pos (dJ hf (by decide)),ef]
theorem Oz(c:Int)(k:Nat)(hk:k≤50):∃fs:List Str,fs.length=k∧(∀z∈fs,nameS z=true)∧n9 [.int c,.int k]=some (.un,.lst (fs.map .str)):=by
 have a0:=cP c (show(8:Int)≠0 by decide)
 have a1:=di c (show(0:Int)<8 by decide)
 generalize hsz:(1:Int)+c%8=sz
 have s0:0<sz:=by omega
 have s1:sz≤8:=by omega
 have p0:=cP (c/8) (show sz≠0 by omega)
 have p1:=di (c/8) s0
 obtain⟨cs,ex,xl,xo⟩:=Em (fe:=ae aj (jV 1) (ae aZ (ae bC (jV 2) (ae aV (jC (.int 64)) (ae c6 (jC (.int 5)) (jV 0)))) (ae aj (bI (ag (jC (.int 26)) (ag (jC (.int 36)) ah))) (aF c7 (ag (ae dN (jV 0) (jC (.int 0))) ah))))) (m:=.fr) (fr:=[some (.fr,.str SG),some (.al,.int c)]) (P:=fun k x=>(f9 x||nY x)=true∧(k=0→f9 x=true)) (ds:=fM 0 sz.toNat) (fun i d hi=>by
  obtain⟨h1,rfl⟩:=zi hi
  obtain⟨x,e1,e2,e3⟩:=MY c (0+(i:Int)) (by omega) (by omega)
  exact⟨x,e1,e2,fun h=>e3 (by omega)⟩)
 rw[yU]at xl
 have JK:cs.length≤8:=by omega
 have XH:Nm cs:=by
  refine⟨fun x hx=>?_,?_⟩
  ·obtain⟨i,hi⟩:=List.mem_iff_getElem?.mp hx
   exact(xo i x hi).1
  ·cases cs with
   |nil=>simp at xl;omega
   |cons a cs=>exact(xo 0 a rfl).2 rfl
 have eL:eJ (((cs.map one).map D.str).map fun x=>(M.fr,x))=some (.un,.lst ((cs.map one).map D.str)):=E4 (by rw[a7,a7];omega)
 obtain⟨e',l1,cN,fs,o,o2,g1,g2,g3,g4,rfl⟩:=mG (g:=gN 7) (b:=uq) (m:=.fr) (ds:=fM 0 k) (e:=[some (.al,.int c),some (.al,.int (k:Int)),some (.fr,.str SG),some (.fr,.int sz),some (.fr,.int (c/8%sz)),some (.bo,.lst ((cs.map one).map .str)),some (.bo,.lst []),none,none])
  (fun i e=>∃(cN:List Nat) (fs:List Str) (o o2:Option (M×D)),Nm cN∧cN.length=cs.length∧fs.length=i∧(∀z∈fs,nameS z=true)∧e=[some (.al,.int c),some (.al,.int (k:Int)),some (.fr,.str SG),some (.fr,.int sz),some (.fr,.int (c/8%sz)),some (.bo,.lst ((cN.map one).map .str)),some (.bo,.lst (fs.map .str)),o,o2])
  ⟨cs,[],none,none,XH,rfl,rfl,(fun _ h=>nomatch h),rfl⟩
  (fun i d e hd ⟨cN,fs,o,o2,g1,g2,g3,g4,he⟩=>by
   obtain⟨hi,rfl⟩:=zi hd
   subst he
   obtain⟨XI,z,q1,q2,qn,q3⟩:=L8 c sz (c/8%sz) cN g1 (by omega) ⟨p0,by omega⟩ fs (by omega) (0+(i:Int)) (.al,.int (k:Int)) o2
   refine⟨_,_,rfl,q3,XI,fs++[z],_,_,q1,by omega,by rw[cg,g3];rfl,fun y hy=>?_,rfl⟩
   rcases fX.mp hy with h|h
   ·exact g4 y h
   ·rw[List.mem_singleton]at h;subst h;exact qn)
 rw[yU]at g3
 refine⟨fs,g3,g4,?_⟩
 have hr:-4611686018427387904≤(k:Int)∧(k:Int)<4611686018427387904:=by omega
 have ht:(k:Int).toNat=k:=by omega
 have XJ:-4611686018427387904≤sz∧sz<4611686018427387904:=by omega
 generalize (k:Int)=kk at l1 hr ht ⊢
 unfold n9 fn C6
 walk_at "ev"
 rw[hsz,fE s0,show(Str.ofString "abcdefghijklmnopqrstuvwxyz0123456789")=SG from rfl]
 walk_at "ev"
 simp -implicitDefEqProofs only [gF]
 walk_at "ev"
 rw[if_pos XJ]
 walk_at "ev"
 have ef:mw [some (M.al,D.int c),some (M.al,D.int kk),some (M.fr,D.str SG),some (M.fr,D.int sz),some (M.fr,D.int (c/8%sz)),none,none,none,none] [2,0]=[some (.fr,.str SG),some (.al,.int c)]:=rfl
 show(((((fU _ _ M.fr (mw [some (M.al,D.int c),some (M.al,D.int kk),some (M.fr,D.str SG),some (M.fr,D.int sz),some (M.fr,D.int (c/8%sz)),none,none,none,none] [2,0]) _).bind _).bind _).bind _).bind _)=_
 rw[ef,ex]
 simp -implicitDefEqProofs only [Option.bind_some,eL]
 walk_at "ev"
 rw[if_pos hr,ht]
 walk_at "ev"
 rw[l1]
 walk_at "ev"
theorem MZ{z:Str}(h:nameS z=true):z.length≤8:=by
 simp only[nameS,Bool.and_eq_true,decide_eq_true_eq]at h
 exact h.2.1
theorem Ok.str{z:Str}(h:z.length≤1000):Ok (.str z):=⟨by simp[iV],fun y e=>by cases e;exact h⟩
theorem Ok.int{i:Int}:Ok (.int i):=⟨by simp[iV],fun y e=>by cases e⟩
theorem Ok.bl{b:Bool}:Ok (.bl b):=⟨by simp[iV],fun y e=>by cases e⟩
theorem Ok.lst{ds:List D}:Ok (.lst ds):=⟨by simp[iV],fun y e=>by cases e⟩
theorem Ok.dk{ds:List (Key×D)}:Ok (.dk ds):=⟨by simp[iV],fun y e=>by cases e⟩
def Cp(d:D):Prop:=ym d=true∧Ok d∧d.bG=true
theorem En{z:Str}(h:nameS z=true):Cp (.str z):=⟨by simp only[ym,vQ,h,Bool.true_or],.str (by have:=MZ h;omega),wg⟩
theorem yZ{i:Int}(h0:0≤i)(h1:i<18446744073709551616):Cp (.int i):=⟨by simp only[ym,vQ,zu,decide_eq_true h0,decide_eq_true h1];rfl,.int,fW⟩
noncomputable abbrev ug:Str := "+-*&|^<="
theorem TX{m n:M}{i:Int}(h0:0≤i)(h1:i<8):∃s:Str,aj (m,.str ug) (n,.int i)=some (.fr,.str s)∧mV (.str s)=true∧s.length≤1000:=by
 have hl:ug.cps.toList.length=8:=by decide +kernel
 have hs:∀i∈List.range 8,mV (.str ⟨#[ug.cps.toList.getD i 0]⟩)=true:=by decide +kernel
 refine⟨⟨#[ug.cps.toList.getD i.toNat 0]⟩,?_,hs _ (r6.mpr (by omega)),by show 1≤1000;decide⟩
 have aT:i.toNat<ug.cps.toList.length:=by omega
 rw[Hg (by decide),i7 h0 (by rw[hl];omega),pN,bP aT]
 rfl
def jW(k:Ko):Prop:=Cp (kD k)
noncomputable def RV:Row→Prop
 |.rk x s a b=>nameS x=true∧(mV (.str s)=true∧s.length≤1000)∧jW a∧jW b
 |.cp x a=>nameS x=true∧jW a
 |.sy a=>jW a
 |.go _=>True
 |.pt a _=>jW a
 |.en=>True
theorem yA{ns:List Str}{k:Int}(h0:0≤k)(h1:k<ns.length):∃c,L2.aX (ns.map D.str) k=some (.str c)∧c∈ns:=by
 rw[i7 h0 (by simpa using h1)]
 exact⟨ns[k.toNat]'(by omega),by simp,pO _⟩
theorem LC(c n s:Int)(ms:D)(hs:0<s∧s<1000000)(fs:List Int)(hf:fs.length≤60) :
  uj [some (.al,.int c),some (.al,ms),some (.fr,.int n),some (.bo,.lst (fs.map .int)),some (.al,.int s)]=some (.nx [some (.al,.int c),some (.al,ms),some (.fr,.int (n/s)),some (.bo,.lst ((fs++[n%s]).map .int)),some (.al,.int s)]):=by
 have ef:fs.map D.int++[D.int (n%s)]=(fs++[n%s]).map D.int:=by rw[dh];rfl
 unfold uj
 walk_at "ev"
 rw[fE hs.1]
 walk_at "ev"
 rw[if_pos (dJ hf (by decide)),ef]
 walk_at "ev"
 rw[div_ii (by omega)]
 walk_at "ev"
theorem M0(c:Int)(ms:List Int)(hm:∀m∈ms,0<m∧m<1000000)(hl:ms.length≤50):∃ds:List Int,uw [.int c,.lst (ms.map .int)]=some (.un,.lst (ds.map .int))∧Paired (fun m d=>0≤d∧d<m) ms ds:=by
 obtain⟨e',l1,n,fs,o,g1,rfl⟩:=mG (g:=gN 4) (b:=uj) (m:=.al) (ds:=ms.map D.int) (e:=[some (.al,.int c),some (.al,.lst (ms.map .int)),some (.fr,.int (c*48271%2147483647)),some (.bo,.lst []),none])
  (fun i e=>∃(n:Int) (fs:List Int) (o:Option (M×D)),Paired (fun m d=>0≤d∧d<m) (ms.take i) fs∧e=[some (.al,.int c),some (.al,.lst (ms.map .int)),some (.fr,.int n),some (.bo,.lst (fs.map .int)),o])
  ⟨_,[],none,by rw[List.take_zero];exact .nil,rfl⟩
  (fun i d e hd ⟨n,fs,o,g1,he⟩=>by
   subst he
   rw[cG]at hd
   cases nZ:ms[i]? with
   |none=>rw[nZ]at hd;cases hd
   |some s =>
    rw[nZ]at hd
    cases hd
    have hs:=hm s (fB nZ)
    have XM:fs.length≤60:=by
     rw[←cK g1,kH];omega
    refine⟨_,_,rfl,LC c n s _ hs fs XM,_,_,_,?_,rfl⟩
    rw[My.take_snoc nZ]
    exact Paired.snoc g1 ⟨cP _ (by omega),di _ hs.1⟩)
 rw[a7,List.take_of_length_le (aR _)]at g1
 refine⟨fs,?_,g1⟩
 unfold uw fn CT
 walk_at "ev"
 rw[l1]
 walk_at "ev"
theorem yu(d c:Int)(ns:List Str)(hv:∀z∈ns,nameS z=true)(h0:0≤d):∃k:Ko,iZ [.int d,.int c,.lst (ns.map .str)]=some (.fr,kD k)∧jW k:=by
 unfold iZ fn yp
 walk_at "ev"
 by_cases h:d<ns.length
 ·obtain⟨z,hz,hm⟩:=yA h0 h
  refine⟨.inr z,?_,En (hv z hm)⟩
  simp only[h,hz]
  walk_at "ev"
  simp only[F8,wg];rfl
 ·simp only[h]
  walk_at "ev"
  by_cases h2:d=ns.length
  ·simp only[h2]
   walk_at "ev"
   have q0:=cP c (show(3:Int)≠0 by decide)
   have q1:=di c (show(0:Int)<3 by decide)
   exact⟨.inl _,rfl,yZ q0 (by omega)⟩
  ·simp only[h2]
   walk_at "ev"
   by_cases h3:c%3=0
   ·simp only[h3]
    walk_at "ev"
    have q0:=cP (c/3) (show(9:Int)≠0 by decide)
    have q1:=di (c/3) (show(0:Int)<9 by decide)
    exact⟨.inl _,rfl,yZ (by omega) (by omega)⟩
   ·simp only[h3]
    walk_at "ev"
    exact⟨.inl _,rfl,yZ (cP _ (by decide)) (di _ (by decide))⟩
noncomputable def rB:Row→Prop
 |.go _=>False
 |.en=>False
 |.pt a t=>(0≤t∧t<1000)∧jW a
 |.rk x s a b=>RV (.rk x s a b)
 |.cp x a=>RV (.cp x a)
 |.sy a=>RV (.sy a)
theorem Eo{x:Row}(h:rB x):RV x:=by
 cases x with
 |go _=>exact trivial
 |en=>exact trivial
 |pt a t=>exact h.2
 |rk x s a b=>exact h
 |cp x a=>exact h
 |sy a=>exact h
theorem TY(c:Int)(ns:List Str)(hv:∀z∈ns,nameS z=true)(h1:0<ns.length)(h2:ns.length≤50):∃r:Row,qy [.int c,.lst (ns.map .str)]=some (.fr,r.d)∧rB r:=by
 obtain⟨ds,ed,hp⟩:=M0 c [12,(ns.length:Int),8,(ns.length:Int)+2,(ns.length:Int)+2] (by
  intro m hm
  simp only[List.mem_cons,List.not_mem_nil,or_false]at hm
  omega) (by show 5≤50;decide)
 cases hp with|@cons _ dk _ ds hk hp =>
 cases hp with|@cons _ dx _ ds hx hp =>
 cases hp with|@cons _ K5 _ ds K6 hp =>
 cases hp with|@cons _ da _ ds ha hp =>
 cases hp with|@cons _ db _ ds hb hp =>
 cases hp
 obtain⟨ka,ea,va⟩:=yu da c ns hv ha.1
 obtain⟨kb,eb,vb⟩:=yu db (c/7) ns hv hb.1
 obtain⟨x,ex,xm⟩:=yA hx.1 hx.2
 obtain⟨sg,XO,vs,vl⟩:=TX (m:=.fr) (n:=.fr) K6.1 K6.2
 simp only[List.map_cons,List.map_nil]at ed
 have K7:=oH ka
 have Zd:=oH kb
 unfold qy fn DU
 rw[show([D.int c,.lst (ns.map .str)].map (fun d=>some (M.al,d))++List.replicate (8 - [D.int c,.lst (ns.map .str)].length) none:Ev)=[some (.al,.int c),some (.al,.lst (ns.map .str)),none,none,none,none,none,none] from rfl]
 rw[ay (e':=[some (.al,.int c),some (.al,.lst (ns.map .str)),some (.fr,.int ((ns.length:Int)+2)),none,none,none,none,none]) (by walk_at "ev")]
 rw[ay (e':=[some (.al,.int c),some (.al,.lst (ns.map .str)),some (.fr,.int ((ns.length:Int)+2)),some (.fr,.int dk),some (.fr,.int dx),some (.fr,.int K5),some (.fr,.int da),some (.fr,.int db)]) (by walk_at "ev"; rw[ed];walk_at "ev")]
 rw[ay (e':=[some (.al,.int c),some (.al,.lst (ns.map .str)),some (.fr,.int ((ns.length:Int)+2)),some (.fr,.int dk),some (.fr,.int dx),some (.fr,.int K5),some (.fr,kD ka),some (.fr,.int db)]) (by walk_at "ev"; rw[ea];walk_at "ev")]
 have qk:∀{E:Ev},aY E=some (.nx E):=rfl
 by_cases g1:dk<7
 ·refine⟨.rk x sg ka kb,?_,hv x xm,⟨vs,vl⟩,va,vb⟩
  rw[av,cy (by walk_at "ev"; simp only[g1,decide_true])]
  walk_at "ev"
  simp only[ex]
  walk_at "ev"
  rw[XO]
  walk_at "ev"
  rw[eb]
  walk_at "ev"
  rfl
 rw[ay (by rw[aW (by walk_at "ev"; simp only[g1,decide_false]),qk])]
 by_cases g2:dk<9
 ·refine⟨.cp x ka,?_,hv x xm,va⟩
  rw[av,cy (by walk_at "ev"; simp only[g2,decide_true])]
  walk_at "ev"
  simp only[ex]
  walk_at "ev"
  rfl
 rw[ay (by rw[aW (by walk_at "ev"; simp only[g2,decide_false]),qk])]
 by_cases g3:dk=9
 ·refine⟨.sy ka,?_,va⟩
  rw[av,cy (by walk_at "ev"; simp only[g3,decide_true])]
  walk_at "ev"
  rfl
 refine⟨.pt ka (c/5%1000),?_,⟨cP _ (by decide),di _ (by decide)⟩,va⟩
 rw[ay (by rw[aW (by walk_at "ev"; simp only[g3,decide_false]),qk])]
 walk_at "ev"
 rfl
def oX(os:List Int)(x:Row):Prop:=x=.en∨(∃o∈os,x=.go o)∨∃k:Int,0≤k∧k<1000∧x=.go (-1-k)
theorem uH(rs:List Row)(x:Row):rs.map Row.d++[x.d]=(rs++[x]).map Row.d:=by rw[dh];rfl
theorem GA(t:Int):D.tup [.str "go",.int t]=Row.d (.go t):=rfl
theorem zv(a:Ko)(t:Int):D.tup [.str "part",kD a,.int t]=Row.d (.pt a t):=rfl
theorem OB(rs:List Row)(b:Nat)(a:Ko)(t:Int)(hb:rs[b]?=some (.pt a t))(x:Row)(c:Int)(os:List Int)(hl:rs.length≤900) :
  oE 0 (jV 1) (b9 (ag (jC (.str "part")) (ag (ae aj (ae aj (jV 0) (jV 1)) (jC (.int 1))) (ag (aF bJ (ag (jV 0) ah)) ah)))) [some (.bi,.lst ((rs++[x]).map Row.d)),some (.al,.int b),some (.al,.int c),some (.bi,.lst (os.map .int))] =
   some (.nx [some (.bi,.lst (((rs++[x]).set b (.pt a ((rs.length:Int)+1))).map Row.d)),some (.al,.int b),some (.al,.int c),some (.bi,.lst (os.map .int))]):=by
 have aT:b<rs.length:=(bt.mp hb).1
 have Wj:b<(rs++[x]).length:=by rw[cg];omega
 have gU:L2.aX ((rs++[x]).map Row.d) (b:Int)=some (Row.d (.pt a t)):=by
  rw[gZ (by rw[a7];exact Wj),lX,List.getElem_append_left aT]
  rw[bP aT]at hb
  rw[c9 hb]
 have Cq:dF ((rs++[x]).map Row.d).length (b:Int)=some b:=by
  unfold dF
  rw[a7,if_pos (by omega),if_pos (by omega)]
  simp
 have h1:∀{m n:M},aj (m,Row.d (.pt a t)) (n,.int 1)=some (aI m,kD a):=fun {m n}=>rfl
 have ka:=oH a
 have hlen:(((rs++[x]).map Row.d).length:Int)=(rs.length:Int)+1:=by rw[a7,cg];rfl
 have es:∀w:Row,((rs++[x]).map Row.d).set b w.d=((rs++[x]).set b w).map Row.d:=fun w=>by rw[List.map_set]
 generalize hR:(rs++[x]).map Row.d=R at gU Cq hlen es ⊢
 generalize (b:Int)=bb at gU Cq ⊢
 walk_at "ev"
 rw[gU]
 walk_at "ev"
 rw[h1]
 walk_at "ev"
 simp only[own,aI]
 rw[hlen,Cq]
 walk_at "ev"
 rw[zv,es]
theorem OD(a b c d:D):iq [0,3] [a,b,c,d]=[some (.bi,a),some (.al,b),some (.al,c),some (.bi,d)]:=rfl
theorem QT(rs:List Row)(b:Nat)(a:Ko)(t:Int)(hb:rs[b]?=some (.pt a t))(c:Int)(os:List Int)(ho:os≠[])(hl:rs.length≤900) :
  ∃x,oX os x∧lA [.lst (rs.map Row.d),.int b,.int c,.lst (os.map .int)]=some (.fr,.non,[.lst (((rs++[x]).set b (.pt a ((rs.length:Int)+1))).map Row.d),.lst (os.map .int)]):=by
 have K8:(0:Int)<os.length:=by
  cases os with
  |nil=>exact absurd rfl ho
  |cons o os=>simp only[List.length_cons];omega
 have fin:∀x:Row,kh [0,3] (.nx [some (.bi,.lst (((rs++[x]).set b (.pt a ((rs.length:Int)+1))).map Row.d)),some (.al,.int b),some (.al,.int c),some (.bi,.lst (os.map .int))])=some (.fr,.non,[.lst (((rs++[x]).set b (.pt a ((rs.length:Int)+1))).map Row.d),.lst (os.map .int)]):=fun x=>by
  simp only[kh,out,envOf,J.collect,List.getElem?_cons_zero,List.getElem?_cons_succ,dY,qB,gX,if_true,Option.bind_some]
 have hsl:(rs.map Row.d).length<sizeLine:=by rw[a7];exact dJ hl (by decide)
 have se:=fun x=>OB rs b a t hb x c os hl
 have app:∀{f:Ev→Option (M×D)}{x:Row},f [some (.bi,.lst (rs.map Row.d)),some (.al,.int b),some (.al,.int c),some (.bi,.lst (os.map .int))]=some (.fr,x.d) →
   bM 0 f [some (.bi,.lst (rs.map Row.d)),some (.al,.int b),some (.al,.int c),some (.bi,.lst (os.map .int))]=some (.nx [some (.bi,.lst ((rs++[x]).map Row.d)),some (.al,.int b),some (.al,.int c),some (.bi,.lst (os.map .int))]):=fun {f x} hf=>by
  simp -implicitDefEqProofs only [bM,hf,Option.bind_some,ve,if_true,gO,own,List.getElem?_cons_zero,hsl,List.set_cons_zero,uH]
 have go:∀{x:Row},oX os x→(aN (jB (ae aQ (ae aZ (ae bC (jV 2) (jC (.int 3))) (jC (.int 3))) (jC (.int 0)))) (bM 0 (b9 (ag (jC (.str "end")) ah)))
   (aN (jB (ae aQ (ae aZ (ae bC (jV 2) (jC (.int 3))) (jC (.int 3))) (jC (.int 1)))) (bM 0 (b9 (ag (jC (.str "go")) (ag (ae aj (jV 3) (ae aZ (ae bC (jV 2) (jC (.int 9))) (aF bJ (ag (jV 3) ah)))) ah))))
   (bM 0 (b9 (ag (jC (.str "go")) (ag (ae fj (cQ eQ (jC (.int 1))) (ae aZ (ae bC (jV 2) (jC (.int 9))) (jC (.int 1000)))) ah)))))) [some (.bi,.lst (rs.map Row.d)),some (.al,.int b),some (.al,.int c),some (.bi,.lst (os.map .int))]=some (.nx [some (.bi,.lst ((rs++[x]).map Row.d)),some (.al,.int b),some (.al,.int c),some (.bi,.lst (os.map .int))]) →
   ∃x,oX os x∧lA [.lst (rs.map Row.d),.int b,.int c,.lst (os.map .int)]=some (.fr,.non,[.lst (((rs++[x]).set b (.pt a ((rs.length:Int)+1))).map Row.d),.lst (os.map .int)]):=fun {x} hx h=>by
  refine⟨x,hx,?_⟩
  unfold lA jv Dv
  rw[OD,cB,cB,cB,cB,sr,Nat.sub_self,List.replicate_zero,nB,ay h,se x,aC,fin x]
 have rC:∀k:Int,(jB (ae aQ (ae aZ (ae bC (jV 2) (jC (.int 3))) (jC (.int 3))) (jC (.int k)))) [some (.bi,.lst (rs.map Row.d)),some (.al,.int b),some (.al,.int c),some (.bi,.lst (os.map .int))]=some (decide (c/3%3=k)):=fun k=>by
  walk_at "ev"
 by_cases h0:c/3%3=0
 ·refine go (x:=.en) (.inl rfl) ?_
  rw[cy (by rw[rC,h0];rfl)]
  exact app (by walk_at "ev"; rfl)
 ·by_cases h1:c/3%3=1
  ·have q0:=cP (c/9) (show(os.length:Int)≠0 by omega)
   have q1:=di (c/9) K8
   have gU:L2.aX (os.map D.int) (c/9%os.length)=some (.int (os[(c/9%os.length).toNat]'(by omega))):=by
    rw[i7 q0 (by rw[a7];exact q1)];simp
   refine go (x:=.go (os[(c/9%os.length).toNat]'(by omega))) (.inr (.inl ⟨_,pO _,rfl⟩)) ?_
   rw[aW (by rw[rC];simp only[h0,decide_false]),cy (by rw[rC,h1];rfl)]
   refine app ?_
   walk_at "ev"
   rw[fE K8]
   walk_at "ev"
   rw[gU]
   walk_at "ev"
   simp only[aI,bO,D.bG]
   walk_at "ev"
   rfl
  ·refine go (x:=.go (-1-c/9%1000)) (.inr (.inr ⟨_,cP _ (by decide),di _ (by decide),rfl⟩)) ?_
   rw[aW (by rw[rC];simp only[h0,decide_false]),aW (by rw[rC];simp only[h1,decide_false])]
   exact app (by walk_at "ev"; rfl)
noncomputable def Row.cS:Row→Bool
 |.go _=>true
 |_=>false
noncomputable def Row.dC:Row→Bool
 |.pt _ _=>true
 |_=>false
noncomputable def Row.cz:Row→Bool
 |.en=>true
 |_=>false
theorem iN(r:Row):decide (r.word=("go" : Str))=Row.cS r:=by
 cases r with
 |rk x s a b=>exact(by decide +kernel:decide (("reckon" : Str) = "go")=false)
 |cp x a=>exact(by decide +kernel:decide (("copy" : Str) = "go")=false)
 |sy a=>exact(by decide +kernel:decide (("say" : Str) = "go")=false)
 |go t=>exact(by decide +kernel:decide (("go" : Str) = "go")=true)
 |pt a t=>exact(by decide +kernel:decide (("part" : Str) = "go")=false)
 |en=>exact(by decide +kernel:decide (("end" : Str) = "go")=false)
theorem iO(r:Row):decide (r.word=("part" : Str))=Row.dC r:=by
 cases r with
 |rk x s a b=>exact(by decide +kernel:decide (("reckon" : Str) = "part")=false)
 |cp x a=>exact(by decide +kernel:decide (("copy" : Str) = "part")=false)
 |sy a=>exact(by decide +kernel:decide (("say" : Str) = "part")=false)
 |go t=>exact(by decide +kernel:decide (("go" : Str) = "part")=false)
 |pt a t=>exact(by decide +kernel:decide (("part" : Str) = "part")=true)
 |en=>exact(by decide +kernel:decide (("end" : Str) = "part")=false)
theorem jA(r:Row):decide (r.word=("end" : Str))=Row.cz r:=by
 cases r with
 |rk x s a b=>exact(by decide +kernel:decide (("reckon" : Str) = "end")=false)
 |cp x a=>exact(by decide +kernel:decide (("copy" : Str) = "end")=false)
 |sy a=>exact(by decide +kernel:decide (("say" : Str) = "end")=false)
 |go t=>exact(by decide +kernel:decide (("go" : Str) = "end")=false)
 |pt a t=>exact(by decide +kernel:decide (("part" : Str) = "end")=false)
 |en=>exact(by decide +kernel:decide (("end" : Str) = "end")=true)
theorem gW(m n:M)(r:Row):aj (m,r.d) (n,.int 0)=some (aI m,.str r.word):=by
 show(L2.aX r.ds 0).map (fun d=>(aI m,d))=_
 rw[Row.p9];rfl
noncomputable def cX(many n:Int):Row→Row
 |.go t=>if t<0 then .go (n+1+(-1-t)%(many-n-1))else .go t
 |.pt a t=>.pt a (if t%many=n+1 then n else t%many)
 |r=>r
theorem M3(many n:Int)(hm:0<many)(r:Row)(hr:∀t,r=.go t→n+1<many)(rows:M×D)(fs:List Row)(hf:fs.length≤900)(o:Option (M×D)) :
  ∃m o',ui [some rows,some (.fr,.int many),some (.bo,.lst (fs.map Row.d)),some (.al,.int n),some (.al,r.d),o]=some (.nx [some rows,some (.fr,.int many),some (.bo,.lst ((fs++[cX many n r]).map Row.d)),some (.al,.int n),some (m,(cX many n r).d),o']):=by
 have hsl:fs.length<sizeLine:=dJ hf (by decide)
 have fin:∀{m:M}{x:Row}{o':Option (M×D)},m=.al∨m=.fr→bM 2 (jV 4) [some rows,some (.fr,.int many),some (.bo,.lst (fs.map Row.d)),some (.al,.int n),some (m,x.d),o']=some (.nx [some rows,some (.fr,.int many),some (.bo,.lst ((fs++[x]).map Row.d)),some (.al,.int n),some (m,x.d),o']):=fun {m x o'} hm=>by
  rcases hm with rfl|rfl<;>walk_at "ev" <;> simp -implicitDefEqProofs only [Row.bG,hsl,uH,if_true]
 have w1:(jB (ae aQ (ae aj (jV 4) (jC (.int 0))) (jC (.str "go")))) [some rows,some (.fr,.int many),some (.bo,.lst (fs.map Row.d)),some (.al,.int n),some (.al,r.d),o]=some (Row.cS r):=by
  simp -implicitDefEqProofs only [jB,ae,jV,jC,List.getElem?_cons_zero,List.getElem?_cons_succ,Option.bind_some,id_eq,gW,cY,bK,iN]
 have w2:(jB (ae aQ (ae aj (jV 4) (jC (.int 0))) (jC (.str "part")))) [some rows,some (.fr,.int many),some (.bo,.lst (fs.map Row.d)),some (.al,.int n),some (.al,r.d),o]=some (Row.dC r):=by
  simp -implicitDefEqProofs only [jB,ae,jV,jC,List.getElem?_cons_zero,List.getElem?_cons_succ,Option.bind_some,id_eq,gW,cY,bK,iO]
 have IX:∀{a b:Ev→Option Bool}{e:Ev},a e=some false→bR a b e=some false:=fun {a b e} h=>by simp[bR,h]
 have IY:∀{a b:Ev→Option Bool}{e:Ev},a e=some true→bR a b e=b e:=fun {a b e} h=>by simp[bR,h]
 have qk:∀{E:Ev},aY E=some (.nx E):=rfl
 unfold ui
 by_cases hg:Row.cS r=true
 ·obtain⟨t,rfl⟩:∃t,r=.go t:=by cases r<;>first|exact⟨_,rfl⟩|cases hg
  have h1:∀{m n:M},aj (m,Row.d (.go t)) (n,.int 1)=some (aI m,.int t):=fun {m n}=>rfl
  by_cases ht:t<0
  ·have hp:0<many-n-1:=by have:=hr t rfl;omega
   refine⟨.fr,o,?_⟩
   rw[show cX many n (.go t)=.go (n+1+(-1-t)%(many-n-1))from if_pos ht]
   rw[ay (e':=[some rows,some (.fr,.int many),some (.bo,.lst (fs.map Row.d)),some (.al,.int n),some (.fr,Row.d (.go (n+1+(-1-t)%(many-n-1)))),o]) (by
    rw[cy (by rw[IY (w1.trans (cf some hg))];simp -implicitDefEqProofs only [jB,ae,jV,jC,List.getElem?_cons_zero,List.getElem?_cons_succ,Option.bind_some,id_eq,h1,vG,bK,ht,decide_true])]
    simp -implicitDefEqProofs only [aH,b9,ag,ah,ae,cQ,jV,jC,List.getElem?_cons_zero,List.getElem?_cons_succ,Option.bind_some,id_eq,h1,qL,rh,vd]
    rw[fE hp]
    rfl)]
   exact fin (.inr rfl)
  ·refine⟨.al,o,?_⟩
   rw[show cX many n (.go t)=.go t from if_neg ht]
   rw[ay (e':=[some rows,some (.fr,.int many),some (.bo,.lst (fs.map Row.d)),some (.al,.int n),some (.al,Row.d (.go t)),o]) (by
    rw[aW (by rw[IY (w1.trans (cf some hg))];simp -implicitDefEqProofs only [jB,ae,jV,jC,List.getElem?_cons_zero,List.getElem?_cons_succ,Option.bind_some,id_eq,h1,vG,bK,ht,decide_false]),aW w2,qk])]
   exact fin (.inl rfl)
 ·have hg:Row.cS r=false:=by simpa using hg
  by_cases uh:Row.dC r=true
  ·obtain⟨a,t,rfl⟩:∃a t,r=.pt a t:=by cases r<;>first|exact⟨_,_,rfl⟩|cases uh
   have h1:∀{m n:M},aj (m,Row.d (.pt a t)) (n,.int 1)=some (aI m,kD a):=fun {m n}=>rfl
   have h2:∀{m n:M},aj (m,Row.d (.pt a t)) (n,.int 2)=some (aI m,.int t):=fun {m n}=>rfl
   have gU:L2.aX [D.int (t%many),D.int n] (if decide (t%many=n+1)=true then 1 else 0)=some (.int (if t%many=n+1 then n else t%many)):=by
    by_cases h:t%many=n+1
    ·simp[h];rfl
    ·simp[h];rfl
   refine⟨.fr,some (.fr,.int (t%many)),?_⟩
   rw[ay (e':=[some rows,some (.fr,.int many),some (.bo,.lst (fs.map Row.d)),some (.al,.int n),some (.fr,(cX many n (.pt a t)).d),some (.fr,.int (t%many))]) (by
    rw[aW (IX (w1.trans (cf some hg))),cy (w2.trans (cf some uh))]
    rw[ay (e':=[some rows,some (.fr,.int many),some (.bo,.lst (fs.map Row.d)),some (.al,.int n),some (.al,Row.d (.pt a t)),some (.fr,.int (t%many))]) (by
     simp -implicitDefEqProofs only [aH,ae,jV,jC,List.getElem?_cons_zero,List.getElem?_cons_succ,Option.bind_some,id_eq,h2]
     rw[fE hm]
     rfl)]
    simp -implicitDefEqProofs only [aH,b9,ag,ah,bI,ae,aF,jV,jC,List.getElem?_cons_zero,List.getElem?_cons_succ,Option.bind_some,id_eq,h1,qL,zG,rj]
    rw[show eJ [(M.fr,D.int (t%many)),(.al,.int n)]=some (.un,.lst [.int (t%many),.int n])from rfl]
    simp -implicitDefEqProofs only [Option.bind_some,g8,gU,Option.map_some]
    walk_at "ev"
    simp -implicitDefEqProofs only [oH]
    walk_at "ev"
    rfl)]
   exact fin (.inr rfl)
  ·have uh:Row.dC r=false:=by simpa using uh
   refine⟨.al,o,?_⟩
   rw[show cX many n r=r by cases r<;>simp_all [Row.cS,Row.dC,cX]]
   rw[ay (e':=[some rows,some (.fr,.int many),some (.bo,.lst (fs.map Row.d)),some (.al,.int n),some (.al,r.d),o]) (by
    rw[aW (IX (w1.trans (cf some hg))),aW (w2.trans (cf some uh)),qk])]
   exact fin (.inl rfl)
theorem QV{rs:List Row}{i:Nat}{d:D}(h:(cJ (rs.map Row.d))[i]?=some d):∃r,rs[i]?=some r∧d=.tup [.int i,r.d]:=by
 unfold cJ at h
 rw[pQ,cG]at h
 cases e:rs[i]? with
 |none=>rw[e]at h;cases h
 |some r=>rw[e]at h;cases h;exact⟨r,rfl,rfl⟩
noncomputable def bT(rs:List Row):List Row:=rs.mapIdx fun(i:Nat) r=>cX rs.length i r
theorem M4(rs:List Row)(h0:0<rs.length)(hl:rs.length≤900)(hr:∀(i:Nat) t,rs[i]?=some (.go t)→i+1<rs.length):qm [.lst (rs.map Row.d)]=some (.un,.lst ((bT rs).map Row.d)):=by
 have l1:=mG (g:=gT 2 (b7 (gN 3) (b7 (gN 4) fG))) (b:=ui) (m:=.al) (ds:=cJ (rs.map Row.d)) (e:=[some (.al,.lst (rs.map Row.d)),some (.fr,.int (rs.length:Int)),some (.bo,.lst []),none,none,none])
  (fun i e=>∃(o1 o2 o3:Option (M×D)),e=[some (.al,.lst (rs.map Row.d)),some (.fr,.int (rs.length:Int)),some (.bo,.lst (((bT rs).take i).map Row.d)),o1,o2,o3])
  ⟨none,none,none,by rw[List.take_zero];rfl⟩
  (fun i d e hd ⟨o1,o2,o3,he⟩=>by
   subst he
   obtain⟨r,Cr,rfl⟩:=QV hd
   have hi:i<rs.length:=(bt.mp Cr).1
   have XQ:(bT rs)[i]?=some (cX rs.length i r):=by
    unfold bT;rw[pQ,Cr];rfl
   obtain⟨m,o',q⟩:=M3 rs.length i (by omega) r (fun t e=>by have:=hr i t (by rw[Cr,e]);omega) (.al,.lst (rs.map Row.d)) ((bT rs).take i) (by rw[kH];omega) o3
   exact⟨_,_,rfl,q,some (.al,.int i),some (m,(cX rs.length i r).d),o',by rw[My.take_snoc XQ]⟩)
 obtain⟨e',l1,o1,o2,o3,rfl⟩:=l1
 have hL:(cJ (rs.map Row.d)).length=(bT rs).length:=by simp[cJ,bT]
 rw[hL,List.take_of_length_le (aR _)]at l1
 unfold qm fn CK
 walk_at "ev"
 simp -implicitDefEqProofs only [nS,ag,jV,ah,List.getElem?_cons_zero,Option.bind_some,id_eq,ig,Option.map_some]
 rw[l1]
 walk_at "ev"
noncomputable def bump:Row→Row
 |.go t=>.go (t+1)
 |.pt a t=>.pt a (t+1)
 |r=>r
theorem Wk(r:Row):dU (.str r.word) [.str "go",.str "part"]=(Row.cS r||Row.dC r):=by
 cases r with
 |rk x s a b=>exact(by decide +kernel:dU (.str "reckon") [.str "go",.str "part"]=false)
 |cp x a=>exact(by decide +kernel:dU (.str "copy") [.str "go",.str "part"]=false)
 |sy a=>exact(by decide +kernel:dU (.str "say") [.str "go",.str "part"]=false)
 |go t=>exact(by decide +kernel:dU (.str "go") [.str "go",.str "part"]=true)
 |pt a t=>exact(by decide +kernel:dU (.str "part") [.str "go",.str "part"]=true)
 |en=>exact(by decide +kernel:dU (.str "end") [.str "go",.str "part"]=false)
theorem Vh(m:M)(t:Int):eY (m,Row.d (.go t)) none (some (-1))=some (aI m,.tup [.str "go"]):=rfl
theorem Vi(m:M)(a:Ko)(t:Int):eY (m,Row.d (.pt a t)) none (some (-1))=some (aI m,.tup [.str "part",kD a]):=rfl
theorem T1(m n:M)(t:Int):aj (m,Row.d (.go t)) (n,.int (-1))=some (aI m,.int t):=rfl
theorem T2(m n:M)(a:Ko)(t:Int):aj (m,Row.d (.pt a t)) (n,.int (-1))=some (aI m,.int t):=rfl
theorem LD(r:Row)(rows nm many:Option (M×D))(fs:List Row)(hf:fs.length≤900):∃m,uk [rows,nm,many,some (.bo,.lst (fs.map Row.d)),some (.fr,r.d)]=some (.nx [rows,nm,many,some (.bo,.lst ((fs++[bump r]).map Row.d)),some (m,(bump r).d)]):=by
 have hsl:fs.length<sizeLine:=dJ hf (by decide)
 have ap:∀x:Row,fs.map Row.d++[x.d]=(fs++[x]).map Row.d:=uH fs
 unfold uk
 simp -implicitDefEqProofs only [av,aN,jB,ae,jV,jC,b9,ag,ah,q8,List.getElem?_cons_zero,List.getElem?_cons_succ,Option.bind_some,id_eq,gW,bK,List.length_cons,List.length_nil,Nat.reduceAdd,p8,Nat.reduceLeDiff,List.all_cons,List.all_nil,ve,Bool.and_self,if_true,List.map_cons,List.map_nil,m8,eW,pA,pw,Wk,Bool.false_eq_true,if_false]
 cases r with
 |go t =>
  refine⟨.fr,?_⟩
  simp only[Row.cS,Row.dC,bump,Bool.or_false]
  walk_at "ev"
  simp -implicitDefEqProofs only [gj,gu,fF,cQ,jV,jC,List.getElem?_cons_zero,List.getElem?_cons_succ,id_eq,rh,Int.reduceNeg,oG,Option.map_some,Option.bind_some,Vh,T1,vf]
  walk_at "ev"
  rw[F4 (by simp[aI]) (by simp[aI]) (by simp only[List.length_cons,List.length_nil];exact bS (show 0+1+(0+1)≤1000 by decide) (by decide))]
  walk_at "ev"
  simp only[mJ,aI]
  walk_at "ev"
  simp -implicitDefEqProofs only [GA,hsl,ap,if_true]
 |pt a t =>
  refine⟨.fr,?_⟩
  simp only[Row.cS,Row.dC,bump,Bool.false_or]
  walk_at "ev"
  simp -implicitDefEqProofs only [gj,gu,fF,cQ,jV,jC,List.getElem?_cons_zero,List.getElem?_cons_succ,id_eq,rh,Int.reduceNeg,oG,Option.map_some,Option.bind_some,Vi,T2,vf]
  walk_at "ev"
  rw[F4 (by simp[aI]) (by simp[aI]) (by simp only[List.length_cons,List.length_nil];exact bS (show 0+1+1+(0+1)≤1000 by decide) (by decide))]
  walk_at "ev"
  simp only[mJ,aI]
  walk_at "ev"
  simp -implicitDefEqProofs only [zv,hsl,ap,if_true]
 |rk x s a b =>
  refine⟨.fr,?_⟩
  simp only[Row.cS,Row.dC,bump,Bool.or_false]
  walk_at "ev"
  simp -implicitDefEqProofs only [hsl,ap,if_true]
 |cp x a =>
  refine⟨.fr,?_⟩
  simp only[Row.cS,Row.dC,bump,Bool.or_false]
  walk_at "ev"
  simp -implicitDefEqProofs only [hsl,ap,if_true]
 |sy a =>
  refine⟨.fr,?_⟩
  simp only[Row.cS,Row.dC,bump,Bool.or_false]
  walk_at "ev"
  simp -implicitDefEqProofs only [hsl,ap,if_true]
 |en =>
  refine⟨.fr,?_⟩
  simp only[Row.cS,Row.dC,bump,Bool.or_false]
  walk_at "ev"
  simp -implicitDefEqProofs only [hsl,ap,if_true]
noncomputable def Row.plain:Row→Prop
 |.go _=>False
 |.en=>False
 |_=>True
theorem C8{x:Row}(h:rB x):Row.plain x:=by cases x<;>first|exact h.elim|exact trivial
structure PX (rs:List Row)(os:List Int)(bg:Option Nat):Prop where
 ol:∀x∈os,∃n:Nat,x=(n:Int)∧n<rs.length
 oc:∀n:Nat,(n:Int)∈os→bg≠some n→∃k:Nat,n<k∧((k:Int)∈os∨(k=rs.length∧bg=none))∧((k=n+1∧∃r,rs[n]?=some r∧Row.plain r)∨(n+1<k∧∃a,rs[n]?=some (.pt a (k:Int))))
 bo:∀n,bg=some n→(n:Int)∈os∧n<rs.length
 s:∀(i:Nat) r,rs[i]?=some r→¬Row.plain r→∃b a,b<i∧rs[b]?=some (.pt a ((i+1:Nat):Int))∧bg≠some b
 gt:∀(i:Nat) t,rs[i]?=some (.go t)→0≤t→t∈os
 v:∀r∈rs,RV r
theorem PX.nil:PX [] [] none:=by
 refine⟨fun x h=>(nomatch h),fun n h=>(nomatch h),fun n h=>(nomatch h),fun i r h=>?_,fun i t h=>?_,fun r h=>(nomatch h)⟩
 ·rw[List.getElem?_nil]at h;cases h
 ·rw[List.getElem?_nil]at h;cases h
theorem oj{rs:List Row}{x r:Row}{i:Nat}(h:rs[i]?=some r):(rs++[x])[i]?=some r:=by
 rw[lU (bt.mp h).1];exact h
theorem oh{rs:List Row}{x r:Row}{i:Nat}(h:(rs++[x])[i]?=some r):rs[i]?=some r∨(i=rs.length∧r=x):=by
 rw[List.getElem?_append]at h
 split at h
 ·exact .inl h
 ·rename_i hi
  have:i-rs.length=0:=by
   rcases Nat.eq_zero_or_pos (i-rs.length)with z|z
   ·exact z
   ·rw[jH (by simp;omega)]at h;cases h
  rw[this]at h
  simp at h
  exact .inr ⟨by omega,h.symm⟩
theorem y0{rs:List Row}{x:Row}{n k:Nat}(h:(k=n+1∧∃r,rs[n]?=some r∧Row.plain r)∨(n+1<k∧∃a,rs[n]?=some (.pt a (k:Int)))):(k=n+1∧∃r,(rs++[x])[n]?=some r∧Row.plain r)∨(n+1<k∧∃a,(rs++[x])[n]?=some (.pt a (k:Int))):=by
 rcases h with⟨e,r,h1,h2⟩|⟨e,a,h1⟩
 ·exact .inl ⟨e,r,oj h1,h2⟩
 ·exact .inr ⟨e,a,oj h1⟩
theorem uW{rs:List Row}{x:Row}(h:∀r∈rs,RV r)(hx:RV x):∀r∈rs++[x],RV r:=fun r hr=>by
 rcases fX.mp hr with z|z
 ·exact h r z
 ·rw[List.mem_singleton]at z;subst z;exact hx
theorem PX.row{rs:List Row}{os:List Int}{bg:Option Nat}{x:Row}(h:PX rs os bg)(hx:rB x):PX (rs++[x]) (if bg=none then os++[(rs.length:Int)] else os) bg:=by
 have hl:(rs++[x]).length=rs.length+1:=by simp
 have ss:∀(i:Nat) r,(rs++[x])[i]?=some r→¬Row.plain r→∃b a,b<i∧(rs++[x])[b]?=some (.pt a ((i+1:Nat):Int))∧bg≠some b:=fun i r hi hp=>by
  rcases oh hi with z|⟨_,z⟩
  ·obtain⟨b,a,h1,h2,h3⟩:=h.s i r z hp
   exact⟨b,a,h1,oj h2,h3⟩
  ·subst z;exact absurd (C8 hx) hp
 cases bg with
 |none =>
  simp only[if_true]
  refine⟨fun y hy=>?_,fun n hn _=>?_,fun n hn=>(nomatch hn),ss,fun i t hi h0=>?_,uW h.v (Eo hx)⟩
  ·rcases fX.mp hy with z|z
   ·obtain⟨n,e,hn⟩:=h.ol y z;exact⟨n,e,by omega⟩
   ·have:y=rs.length:=by simpa using z
    exact⟨rs.length,this,by omega⟩
  ·rcases fX.mp hn with z|z
   ·obtain⟨k,k1,k2,k3⟩:=h.oc n z (fun z=>nomatch z)
    refine⟨k,k1,.inl ?_,y0 k3⟩
    rcases k2 with k2|⟨k2,_⟩
    ·exact r9 _ k2
    ·rw[k2];simp
   ·have:n=rs.length:=Int.ofNat_inj.mp (by simpa using z)
    subst this
    exact⟨rs.length+1,by omega,.inr ⟨hl.symm,rfl⟩,.inl ⟨rfl,x,by simp,C8 hx⟩⟩
  ·rcases oh hi with z|⟨_,z⟩
   ·exact r9 _ (h.gt i t z h0)
   ·subst z;exact hx.elim
 |some b =>
  simp only[reduceCtorEq,if_false]
  refine⟨fun y hy=>?_,fun n hn hb=>?_,fun n hn=>?_,ss,fun i t hi h0=>?_,uW h.v (Eo hx)⟩
  ·obtain⟨n,e,hn⟩:=h.ol y hy;exact⟨n,e,by omega⟩
  ·obtain⟨k,k1,k2,k3⟩:=h.oc n hn hb
   refine⟨k,k1,.inl ?_,y0 k3⟩
   rcases k2 with k2|⟨_,k2⟩
   ·exact k2
   ·cases k2
  ·obtain⟨a1,a2⟩:=h.bo n hn;exact⟨a1,by omega⟩
  ·rcases oh hi with z|⟨_,z⟩
   ·exact h.gt i t z h0
   ·subst z;exact hx.elim
theorem PX.open{rs:List Row}{os:List Int}{a:Ko}(h:PX rs os none)(ha:jW a):PX (rs++[.pt a 0]) (os++[(rs.length:Int)]) (some rs.length):=by
 have hl:(rs++[Row.pt a 0]).length=rs.length+1:=by simp
 have q:=h.row (x:=.pt a 0) ⟨⟨by decide,by decide⟩,ha⟩
 simp only[if_true]at q
 refine⟨q.ol,fun n hn hb=>?_,fun n hn=>?_,fun i r hi hp=>?_,q.gt,q.v⟩
 ·rcases fX.mp hn with z|z
  ·obtain⟨k,k1,k2,k3⟩:=h.oc n z (fun z=>nomatch z)
   refine⟨k,k1,.inl ?_,y0 k3⟩
   rcases k2 with k2|⟨k2,_⟩
   ·exact r9 _ k2
   ·rw[k2];simp
  ·have:n=rs.length:=Int.ofNat_inj.mp (by simpa using z)
   subst this;exact absurd rfl hb
 ·cases hn;exact⟨by simp,by omega⟩
 ·rcases oh hi with z|⟨_,z⟩
  ·obtain⟨b,a',h1,h2,_⟩:=h.s i r z hp
   have:=(bt.mp z).1
   exact⟨b,a',h1,oj h2,fun e=>by cases e;omega⟩
  ·subst z;exact absurd trivial hp
theorem PX.shut{rs:List Row}{os:List Int}{b:Nat}{a:Ko}{t:Int}{x:Row}(h:PX rs os (some b))(hb:rs[b]?=some (.pt a t))(hx:oX os x):PX ((rs++[x]).set b (.pt a ((rs.length:Int)+1))) os none:=by
 have aT:b<rs.length:=(bt.mp hb).1
 have hl:((rs++[x]).set b (.pt a ((rs.length:Int)+1))).length=rs.length+1:=by simp
 have lj:((rs++[x]).set b (.pt a ((rs.length:Int)+1)))[b]?=some (.pt a ((rs.length+1:Nat):Int)):=by
  rw[List.getElem?_set_self (by simp;omega)];rfl
 have Ct:∀{n:Nat}{r:Row},n≠b→rs[n]?=some r→((rs++[x]).set b (.pt a ((rs.length:Int)+1)))[n]?=some r:=fun {n r} hn hr=>by
  rw[cU (fun z=>hn z.symm)];exact oj hr
 refine⟨fun y hy=>?_,fun n hn _=>?_,fun n hn=>(nomatch hn),fun i r hi hp=>?_,fun i t' hi h0=>?_,fun r hr=>?_⟩
 ·obtain⟨n,e,hn⟩:=h.ol y hy;exact⟨n,e,by omega⟩
 ·by_cases e:n=b
  ·subst e
   exact⟨rs.length+1,by omega,.inr ⟨hl.symm,rfl⟩,.inr ⟨by omega,a,lj⟩⟩
  ·obtain⟨k,k1,k2,k3⟩:=h.oc n hn (fun z=>e (c9 z).symm)
   refine⟨k,k1,?_,?_⟩
   ·rcases k2 with k2|⟨_,k2⟩
    ·exact .inl k2
    ·cases k2
   ·rcases k3 with⟨e1,r,h1,h2⟩|⟨e1,a',h1⟩
    ·exact .inl ⟨e1,r,Ct e h1,h2⟩
    ·exact .inr ⟨e1,a',Ct e h1⟩
 ·rcases get_set hi with⟨_,z⟩|⟨ne,z⟩
  ·subst z;exact absurd trivial hp
  ·rcases oh z with z|⟨e,z⟩
   ·obtain⟨b',a',h1,h2,h3⟩:=h.s i r z hp
    exact⟨b',a',h1,Ct (fun e=>h3 (by rw[e])) h2,fun e=>nomatch e⟩
   ·subst e
    exact⟨b,a,aT,lj,fun e=>nomatch e⟩
 ·rcases get_set hi with⟨_,z⟩|⟨ne,z⟩
  ·cases z
  ·rcases oh z with z|⟨_,z⟩
   ·exact h.gt i t' z h0
   ·subst z
    rcases hx with z|⟨o,ho,z⟩|⟨k,k0,k1,z⟩
    ·cases z
    ·cases z;exact ho
    ·cases z;omega
 ·rcases List.mem_or_eq_of_mem_set hr with z|z
  ·refine uW h.v ?_ r z
   rcases hx with z|⟨o,ho,z⟩|⟨k,k0,k1,z⟩<;>(subst z;exact trivial)
  ·subst z;exact(show RV (.pt a t)from h.v _ (fB hb))
theorem OG{α:Type}(l:List α):cut l none (some (-1))=l.dropLast:=by
 unfold cut HT.aS
 simp only[List.drop_zero,Nat.sub_zero]
 rw[List.dropLast_eq_take]
 congr 1
 have:(-1:Int)<0:=by decide
 rw[if_pos this]
 omega
noncomputable def b6(rs:List Row)(nm:Str):List Row:=.go rs.length::(rs.dropLast.map bump++[.pt (.inr nm) 1,.en])
theorem M5(rs:List Row)(nm:Str)(hl:rs.length≤800):qt [.lst (rs.map Row.d),.str nm]=some (.un,.lst ((b6 rs nm).map Row.d)):=by
 have l1:=mG (g:=gN 4) (b:=uk) (m:=.fr) (ds:=rs.dropLast.map Row.d) (e:=[some (.al,.lst (rs.map Row.d)),some (.al,.str nm),some (.fr,.int (rs.length:Int)),some (.bo,.lst [Row.d (.go rs.length)]),none])
  (fun i e=>∃(o1:Option (M×D)),e=[some (.al,.lst (rs.map Row.d)),some (.al,.str nm),some (.fr,.int (rs.length:Int)),some (.bo,.lst ((.go rs.length::(rs.dropLast.map bump).take i).map Row.d)),o1])
  ⟨none,by rw[List.take_zero];rfl⟩
  (fun i d e hd ⟨o1,he⟩=>by
   subst he
   rw[cG]at hd
   cases hm:rs.dropLast[i]? with
   |none=>rw[hm]at hd;cases hd
   |some r =>
    rw[hm]at hd
    cases hd
    have hi:i<rs.dropLast.length:=(bt.mp hm).1
    rw[List.length_dropLast]at hi
    have hb:(rs.dropLast.map bump)[i]?=some (bump r):=by rw[cG,hm];rfl
    obtain⟨m,q⟩:=LD r (some (.al,.lst (rs.map Row.d))) (some (.al,.str nm)) (some (.fr,.int (rs.length:Int))) (.go rs.length::(rs.dropLast.map bump).take i) (by rw[cB,kH];omega)
    exact⟨_,_,rfl,q,some (m,(bump r).d),by rw[My.take_snoc hb];rfl⟩)
 obtain⟨e',l1,o1,rfl⟩:=l1
 have hL:(rs.dropLast.map Row.d).length=(rs.dropLast.map bump).length:=by simp
 rw[hL,List.take_of_length_le (aR _)]at l1
 have hs:eY (.al,.lst (rs.map Row.d)) none (some (-1))=some (.un,.lst (rs.dropLast.map Row.d)):=by
  show(match m6 (.al,.lst (rs.map Row.d)) none (some (-1)) with|some z=>some z|none=>_)=_
  rw[show m6 (.al,.lst (rs.map Row.d)) none (some (-1))=some (.un,.lst (rs.dropLast.map Row.d)) by
   simp only[m6,OG,←List.map_dropLast];exact Gd (qB _)]
 have hc:aV (.bo,.lst ((.go rs.length::rs.dropLast.map bump).map Row.d)) (.un,.lst [.tup [.str "part",.str nm,.int 1],.tup [.str "end"]])=some (.un,.lst ((b6 rs nm).map Row.d)):=by
  rw[oF (by simp[aI]) (by simp[aI]) (by
   simp only[List.length_map,List.length_cons,List.length_nil,List.length_dropLast]
   exact bS (show rs.length-1+1+(0+1+1)≤1000 by omega) (by decide)),zI,zh]
  simp only[b6,List.map_cons,List.map_append,List.map_nil,List.cons_append]
  rfl
 unfold qt fn CV
 walk_at "ev"
 simp -implicitDefEqProofs only [gj,gu,fF,cQ,jV,jC,List.getElem?_cons_zero,List.getElem?_cons_succ,id_eq,rh,Int.reduceNeg,oG,Option.map_some,Option.bind_some,hs,GA]
 rw[l1]
 rw[bE]at hc
 walk_at "ev"
 rw[hc]
 walk_at "ev"
structure PS (rs:List Row)(os:List Int)(bg:Option Nat):Prop where
 o:∀x∈os,0≤x∧x≤rs.length
 b:∀n,bg=some n→(∃a t,rs[n]?=some (.pt a t))∧os≠[]
 g:∀(i:Nat) t,rs[i]?=some (.go t)→t<rs.length+1
 r:∀(i:Nat) a t,rs[i]?=some (.pt a t)→0≤t
 x:PX rs os bg
noncomputable def jX:Option Nat→D
 |none=>.non
 |some n=>.int n
theorem PS.nil:PS [] [] none:=by
 refine⟨fun x h=>?_,fun n h=>?_,fun i t h=>?_,fun i a t h=>?_,PX.nil⟩
 ·cases h
 ·cases h
 ·rw[List.getElem?_nil]at h;cases h
 ·rw[List.getElem?_nil]at h;cases h
theorem mH{rs:List Row}{x r:Row}{i:Nat}(h:(rs++[x])[i]?=some r):rs[i]?=some r∨(i=rs.length∧r=x):=by
 rw[List.getElem?_append]at h
 split at h
 ·exact .inl h
 ·rename_i hi
  have:i-rs.length=0:=by
   rcases Nat.eq_zero_or_pos (i-rs.length)with z|z
   ·exact z
   ·rw[jH (by simp;omega)]at h;cases h
  rw[this]at h
  simp at h
  exact .inr ⟨by omega,h.symm⟩
theorem PS.row{rs:List Row}{os:List Int}{bg:Option Nat}{x:Row}(h:PS rs os bg)(hx:rB x):PS (rs++[x]) (if bg=none then os++[(rs.length:Int)] else os) bg:=by
 refine⟨fun y hy=>?_,fun n hn=>?_,fun i t hi=>?_,fun i a t hi=>?_,h.x.row hx⟩
 ·rw[cg]
  split at hy
  ·rcases fX.mp hy with z|z
   ·have:=h.o y z;simp only[List.length_cons,List.length_nil];omega
   ·have:y=rs.length:=by simpa using z
    simp only[List.length_cons,List.length_nil];omega
  ·have:=h.o y hy;simp only[List.length_cons,List.length_nil];omega
 ·obtain⟨⟨a,t,q⟩,ne⟩:=h.b n hn
  refine⟨⟨a,t,?_⟩,?_⟩
  ·rw[lU (bt.mp q).1];exact q
  ·rw[hn];simpa using ne
 ·rw[cg]
  rcases mH hi with z|⟨_,z⟩
  ·have:=h.g i t z;simp only[List.length_cons,List.length_nil];omega
  ·subst z;exact hx.elim
 ·rcases mH hi with z|⟨_,z⟩
  ·exact h.r i a t z
  ·subst z;exact hx.1.1
theorem PS.open{rs:List Row}{os:List Int}{a:Ko}(h:PS rs os none)(ha:jW a):PS (rs++[.pt a 0]) (os++[(rs.length:Int)]) (some rs.length):=by
 have q:=h.row (x:=.pt a 0) ⟨⟨by decide,by decide⟩,ha⟩
 simp only[if_true]at q
 refine⟨q.o,fun n hn=>?_,q.g,q.r,h.x.open ha⟩
 cases hn
 exact⟨⟨a,0,by simp⟩,by simp⟩
theorem PS.shut{rs:List Row}{os:List Int}{b:Nat}{a:Ko}{t:Int}{x:Row}(h:PS rs os (some b))(hb:rs[b]?=some (.pt a t))(hx:oX os x):PS ((rs++[x]).set b (.pt a ((rs.length:Int)+1))) os none:=by
 refine⟨fun y hy=>?_,fun n hn=>(nomatch hn),fun i t' hi=>?_,fun i a' t' hi=>?_,h.x.shut hb hx⟩
 ·have:=h.o y hy
  rw[hV,cg];simp only[List.length_cons,List.length_nil];omega
 ·rw[hV,cg]
  simp only[List.length_cons,List.length_nil]
  rcases get_set hi with⟨_,z⟩|⟨_,z⟩
  ·cases z
  ·rcases mH z with z|⟨_,z⟩
   ·have:=h.g i t' z;omega
   ·subst z
    rcases hx with z|⟨o,ho,z⟩|⟨k,k0,k1,z⟩
    ·cases z
    ·cases z;have:=h.o _ ho;omega
    ·cases z;omega
 ·rcases get_set hi with⟨_,z⟩|⟨_,z⟩
  ·cases z;omega
  ·rcases mH z with z|⟨_,z⟩
   ·exact h.r i a' t' z
   ·subst z
    rcases hx with z|⟨o,ho,z⟩|⟨k,k0,k1,z⟩<;>cases z
theorem Hy{m n:M}:jo (m,.non) (n,.non)=some (.fr,.bl true):=rfl
theorem Hz{m n:M}{i:Int}:jo (m,.int i) (n,.non)=some (.fr,.bl false):=rfl
theorem GB{m n:M}:kf (m,.non) (n,.non)=some (.fr,.bl false):=rfl
theorem GC{m n:M}{i:Int}:kf (m,.int i) (n,.non)=some (.fr,.bl true):=rfl
theorem OI{R:List D}{O':List D}{b c:Int}(h1:D.bH R=true)(h2:D.bH O'=true):k9 [0,3] [3,4] [(0,3),(1,5),(3,4)] [(.bo,.lst R),(.fr,.int b),(.fr,.int c),(.bo,.lst O')]=true:=by
 simp[k9,List.range_succ,own,dY,gi,h1,h2]
theorem DV(cells names more:Option (M×D))(rs:List Row)(os:List Int)(b:Nat)(a:Ko)(t:Int)(hb:rs[b]?=some (.pt a t))(ho:os≠[])(hl:rs.length≤900)(cc:Int)(o6:Option (M×D))(f:Ev→Option (M×D))
  (hf:f [cells,names,more,some (.bo,.lst (rs.map Row.d)),some (.bo,.lst (os.map .int)),some (.fr,.int b),o6]=some (.fr,.int cc)) :
  ∃x,oX os x∧i9 [0,3] [3,4] [(0,3),(1,5),(3,4)] lA (ag (jV 3) (ag (jV 5) (ag f (ag (jV 4) ah)))) [cells,names,more,some (.bo,.lst (rs.map Row.d)),some (.bo,.lst (os.map .int)),some (.fr,.int b),o6] =
   some (.nx [cells,names,more,some (.bo,.lst (((rs++[x]).set b (.pt a ((rs.length:Int)+1))).map Row.d)),some (.bo,.lst (os.map .int)),some (.fr,.int b),o6]):=by
 obtain⟨x,hx,e⟩:=QT rs b a t hb cc os ho hl
 refine⟨x,hx,?_⟩
 have hB:=OI (b:=b) (c:=cc) (qB rs) (gX os)
 simp -implicitDefEqProofs only [i9,oq,ag,ah,jV,hf,List.getElem?_cons_zero,List.getElem?_cons_succ,Option.bind_some,id_eq,hB,if_true,List.map_cons,List.map_nil,e,iA,List.set_cons_zero,List.set_cons_succ]
theorem M6(cells:Option (M×D))(ns:List Str)(hv:∀z∈ns,nameS z=true)(h1:0<ns.length)(h2:ns.length≤50)(more:Option (M×D))(rs:List Row)(os:List Int)(bg:Option Nat)(h:PS rs os bg)(hl:rs.length≤800)(XR:os.length≤800)(c:Int)(mc:M)(Ze:mc=.al∨mc=.fr) :
  ∃cV nI yn,PS cV nI yn∧cV.length≤rs.length+1∧nI.length≤os.length+1∧n6 [cells,some (.al,.lst (ns.map .str)),more,some (.bo,.lst (rs.map Row.d)),some (.bo,.lst (os.map .int)),some (.fr,jX bg),some (mc,.int c)] =
   some (.nx [cells,some (.al,.lst (ns.map .str)),more,some (.bo,.lst (cV.map Row.d)),some (.bo,.lst (nI.map .int)),some (.fr,jX yn),some (mc,.int c)]):=by
 have s1:rs.length<sizeLine:=dJ hl (by decide)
 have s2:os.length<sizeLine:=dJ XR (by decide)
 have ai:∀x:Int,os.map D.int++[D.int x]=(os++[x]).map D.int:=fun x=>by rw[dh];rfl
 have ar:=uH rs
 obtain⟨r,er,fr⟩:=TY (c/11) ns hv h1 h2
 have hr:∀{e:Ev},jV 6 e=some (mc,.int c)→jV 1 e=some (.al,.lst (ns.map .str))→aJ qy (ag (ae bC (jV 6) (jC (.int 11))) (ag (jV 1) ah)) e=some (.fr,r.d):=fun {e} q1 q2=>by
  simp -implicitDefEqProofs only [aJ,ag,ah,ae,jC,q1,q2,Option.bind_some,div_ii (show(0:Int)<11∧(11:Int)<1606938044258990275541962092341162602522202993782792835301376 by decide),List.map_cons,List.map_nil,er]
 have tF:(0:Int)<(ns.length:Int)+1:=by omega
 have q0:=cP (c/11) (show(ns.length:Int)+1≠0 by omega)
 obtain⟨ka,ea,va⟩:=yu (c/11%((ns.length:Int)+1)) c ns hv q0
 have Zf:=oH ka
 cases bg with
 |none =>
  by_cases g:c%11=3
  ·refine⟨rs++[.pt ka 0],os++[(rs.length:Int)],some rs.length,h.open va,by simp,by simp,?_⟩
   unfold n6
   simp only[jX]
   walk_at "ev"
   simp -implicitDefEqProofs only [Hy,g]
   walk_at "ev"
   simp -implicitDefEqProofs only [s2,ai,if_true]
   walk_at "ev"
   rw[fE tF]
   walk_at "ev"
   rw[ea]
   walk_at "ev"
   simp -implicitDefEqProofs only [s1,zv,ar,if_true]
  ·refine⟨rs++[r],os++[(rs.length:Int)],none,?_,by simp,by simp,?_⟩
   ·have:=h.row fr;simpa using this
   unfold n6
   simp only[jX]
   have c1:(bR (jB (ae aQ (ae aZ (jV 6) (jC (.int 11))) (jC (.int 3)))) (jB (ae jo (jV 5) (jC .non)))) [cells,some (.al,.lst (ns.map .str)),more,some (.bo,.lst (rs.map Row.d)),some (.bo,.lst (os.map .int)),some (.fr,.non),some (mc,.int c)]=some false:=by
    walk_at "ev"
    simp only[g]
    walk_at "ev"
   have c2:(bR (jB (ae dX (ae aZ (jV 6) (jC (.int 11))) (jC (.int 3)))) (jB (ae kf (jV 5) (jC .non)))) [cells,some (.al,.lst (ns.map .str)),more,some (.bo,.lst (rs.map Row.d)),some (.bo,.lst (os.map .int)),some (.fr,.non),some (mc,.int c)]=some false:=by
    walk_at "ev"
    by_cases g2:c%11<3
    ·simp only[g2]
     walk_at "ev"
     simp only[GB]
     walk_at "ev"
    ·simp only[g2]
     walk_at "ev"
   rw[aW c1,aW c2]
   have a1:aN (jB (ae jo (jV 5) (jC .non))) (bM 4 (aF bJ (ag (jV 3) ah))) aY [cells,some (.al,.lst (ns.map .str)),more,some (.bo,.lst (rs.map Row.d)),some (.bo,.lst (os.map .int)),some (.fr,.non),some (mc,.int c)]=some (.nx [cells,some (.al,.lst (ns.map .str)),more,some (.bo,.lst (rs.map Row.d)),some (.bo,.lst ((os++[(rs.length:Int)]).map .int)),some (.fr,.non),some (mc,.int c)]):=by
    walk_at "ev"
    simp -implicitDefEqProofs only [Hy]
    walk_at "ev"
    simp -implicitDefEqProofs only [s2,ai,if_true]
   rw[ay a1]
   simp -implicitDefEqProofs only [bM]
   rw[hr rfl rfl]
   walk_at "ev"
   simp -implicitDefEqProofs only [s1,ar,if_true]
 |some b =>
  obtain⟨⟨a,t,hb⟩,ho⟩:=h.b b rfl
  have c1:(bR (jB (ae aQ (ae aZ (jV 6) (jC (.int 11))) (jC (.int 3)))) (jB (ae jo (jV 5) (jC .non)))) [cells,some (.al,.lst (ns.map .str)),more,some (.bo,.lst (rs.map Row.d)),some (.bo,.lst (os.map .int)),some (.fr,.int b),some (mc,.int c)]=some false:=by
   walk_at "ev"
   by_cases g2:c%11=3
   ·simp only[g2]
    walk_at "ev"
    simp only[Hz]
    walk_at "ev"
   ·simp only[g2]
    walk_at "ev"
  have c2:(bR (jB (ae dX (ae aZ (jV 6) (jC (.int 11))) (jC (.int 3)))) (jB (ae kf (jV 5) (jC .non)))) [cells,some (.al,.lst (ns.map .str)),more,some (.bo,.lst (rs.map Row.d)),some (.bo,.lst (os.map .int)),some (.fr,.int b),some (mc,.int c)]=some (decide (c%11<3)):=by
   walk_at "ev"
   by_cases g2:c%11<3
   ·simp only[g2]
    walk_at "ev"
    simp only[GC]
    walk_at "ev"
   ·simp only[g2]
    walk_at "ev"
  unfold n6
  simp only[jX]
  rw[aW c1]
  by_cases g:c%11<3
  ·obtain⟨x,hx,ex⟩:=DV cells (some (.al,.lst (ns.map .str))) more rs os b a t hb ho (by omega) (c/11) (some (mc,.int c)) (ae bC (jV 6) (jC (.int 11))) (by walk_at "ev")
   refine⟨(rs++[x]).set b (.pt a ((rs.length:Int)+1)),os,none,h.shut hb hx,by simp,by omega,?_⟩
   rw[cy (by rw[c2];simp only[g,decide_true]),ay ex]
   walk_at "ev"
  ·refine⟨rs++[r],os,some b,?_,by simp,by omega,?_⟩
   ·have:=h.row fr;simpa using this
   rw[aW (by rw[c2];simp only[g,decide_false])]
   have a1:aN (jB (ae jo (jV 5) (jC .non))) (bM 4 (aF bJ (ag (jV 3) ah))) aY [cells,some (.al,.lst (ns.map .str)),more,some (.bo,.lst (rs.map Row.d)),some (.bo,.lst (os.map .int)),some (.fr,.int b),some (mc,.int c)]=some (.nx [cells,some (.al,.lst (ns.map .str)),more,some (.bo,.lst (rs.map Row.d)),some (.bo,.lst (os.map .int)),some (.fr,.int b),some (mc,.int c)]):=by
    walk_at "ev"
    simp -implicitDefEqProofs only [Hz]
    walk_at "ev"
   rw[ay a1]
   simp -implicitDefEqProofs only [bM]
   rw[hr rfl rfl]
   walk_at "ev"
   simp -implicitDefEqProofs only [s1,ar,if_true]
structure Good (rs:List Row):Prop where
 pos:0<rs.length
 last:rs[rs.length-1]?=some .en
 go:∀(i:Nat) t,rs[i]?=some (.go t)→0≤t∧t<rs.length
 pt:∀(i:Nat) a t,rs[i]?=some (.pt a t)→0≤t∧t<rs.length∧t≠i+1
theorem y3{rs:List Row}{i:Nat}{r:Row}(h:(bT rs)[i]?=some r):∃q,rs[i]?=some q∧r=cX rs.length i q:=by
 unfold bT at h
 rw[pQ]at h
 cases e:rs[i]? with
 |none=>rw[e]at h;cases h
 |some q=>rw[e]at h;cases h;exact⟨q,rfl,rfl⟩
theorem om(rs:List Row):(bT rs).length=rs.length:=by simp[bT]
theorem M7{rs:List Row}{os:List Int}(h:PS rs os none):Good (bT (rs++[.en])):=by
 have hl:(rs++[Row.en]).length=rs.length+1:=by simp
 refine⟨by rw[om,hl];omega,?_,fun i t hi=>?_,fun i a t hi=>?_⟩
 ·rw[om,hl]
  unfold bT
  rw[pQ]
  simp only[Nat.add_sub_cancel]
  rw[List.getElem?_append_right (aR _),Nat.sub_self]
  rfl
 ·rw[om]
  obtain⟨q,hq,e⟩:=y3 hi
  rw[hl]at e ⊢
  cases q with
  |go t0 =>
   rcases mH hq with z|⟨_,z⟩
   ·have aT:i<rs.length:=(bt.mp z).1
    have g:=h.g i t0 z
    simp only[cX]at e
    split at e
    ·cases e
     have hp:(0:Int)<((rs.length+1:Nat):Int)-i-1:=by omega
     have e0:=cP (-1-t0) (show((rs.length+1:Nat):Int)-i-1≠0 by omega)
     have e1:=di (-1-t0) hp
     omega
    ·cases e;omega
   ·cases z
  |pt a t0=>simp only[cX]at e;cases e
  |rk x s a b=>cases e
  |cp x a=>cases e
  |sy a=>cases e
  |en=>cases e
 ·rw[om]
  obtain⟨q,hq,e⟩:=y3 hi
  rw[hl]at e ⊢
  cases q with
  |pt a0 t0 =>
   simp only[cX]at e
   cases e
   have aT:i<rs.length:=by
    rcases mH hq with z|⟨_,z⟩
    ·exact(bt.mp z).1
    ·cases z
   have e0:=cP t0 (show((rs.length+1:Nat):Int)≠0 by omega)
   have e1:=di t0 (show(0:Int)<((rs.length+1:Nat):Int) by omega)
   split
   ·omega
   ·omega
  |go t0=>simp only[cX]at e;split at e<;>cases e
  |rk x s a b=>cases e
  |cp x a=>cases e
  |sy a=>cases e
  |en=>cases e
theorem M8{rs:List Row}{nm:Str}(h:Good rs):Good (b6 rs nm):=by
 have hl:(b6 rs nm).length=rs.length+2:=by
  simp only[b6,List.length_cons,List.length_append,List.length_map,List.length_dropLast,List.length_nil]
  have:=h.pos;omega
 have at_:∀{i:Nat}{r:Row},(b6 rs nm)[i]?=some r→(i=0∧r=.go rs.length)∨(∃j q,i=j+1∧rs[j]?=some q∧r=bump q)∨(i=rs.length∧r=.pt (.inr nm) 1)∨(i=rs.length+1∧r=.en):=by
  intro i r hi
  cases i with
  |zero=>simp only[b6,List.getElem?_cons_zero,Option.some.injEq]at hi;exact .inl ⟨rfl,hi.symm⟩
  |succ j =>
   simp only[b6,List.getElem?_cons_succ]at hi
   rw[List.getElem?_append]at hi
   simp only[List.length_map,List.length_dropLast]at hi
   split at hi
   ·rename_i hj
    rw[cG]at hi
    cases e:rs.dropLast[j]? with
    |none=>rw[e]at hi;cases hi
    |some q =>
     rw[e]at hi;cases hi
     have e2:rs[j]?=some q:=by
      rw[List.dropLast_eq_take,List.getElem?_take_of_lt hj]at e
      exact e
     exact .inr (.inl ⟨j,q,rfl,e2,rfl⟩)
   ·rename_i hj
    have hp:=h.pos
    have:j-(rs.length-1)=0∨j-(rs.length-1)=1:=by
     rcases hX (j-(rs.length-1)) 2 with z|z
     ·omega
     ·rw[jH (by simpa using z)]at hi;cases hi
    rcases this with z|z
    ·rw[z]at hi;cases hi;exact .inr (.inr (.inl ⟨by omega,rfl⟩))
    ·rw[z]at hi;cases hi;exact .inr (.inr (.inr ⟨by omega,rfl⟩))
 refine⟨by rw[hl];omega,?_,fun i t hi=>?_,fun i a t hi=>?_⟩
 ·rw[hl]
  have hp:=h.pos
  show(b6 rs nm)[rs.length+1]?=_
  simp only[b6,List.getElem?_cons_succ]
  rw[List.getElem?_append_right (by simp)]
  simp only[List.length_map,List.length_dropLast]
  have:rs.length-(rs.length-1)=1:=by omega
  rw[this];rfl
 ·rw[hl]
  rcases at_ hi with⟨_,z⟩|⟨j,q,_,hq,z⟩|⟨_,z⟩|⟨_,z⟩
  ·cases z;omega
  ·cases q<;>simp only[bump]at z<;>cases z
   have:=h.go j _ hq;omega
  ·cases z
  ·cases z
 ·rw[hl]
  have hp:=h.pos
  rcases at_ hi with⟨_,z⟩|⟨j,q,e,hq,z⟩|⟨e,z⟩|⟨_,z⟩
  ·cases z
  ·cases q<;>simp only[bump]at z<;>cases z
   have:=h.pt j _ _ hq;omega
  ·cases z;omega
  ·cases z
noncomputable def a9(n:Int):Row→List Int
 |.en=>[]
 |.go t=>[t]
 |.pt _ t=>[n+1,t]
 |_=>[n+1]
def aG(rs:List Row)(i j:Nat):Prop:=∃r,rs[i]?=some r∧(j:Int)∈a9 i r∧j<rs.length
inductive fD (rs:List Row):Nat→Nat→Prop
 |refl (i:Nat):fD rs i i
 |step {i j k:Nat}:aG rs i j→fD rs j k→fD rs i k
theorem fD.trans{rs:List Row}{i j k:Nat}(h:fD rs i j)(h':fD rs j k):fD rs i k:=by
 induction h with
 |refl=>exact h'
 |step s _ ih=>exact .step s (ih h')
theorem fD.snoc{rs:List Row}{i j k:Nat}(h:fD rs i j)(s:aG rs j k):fD rs i k:=h.trans (.step s (.refl k))
structure pI (rs:List Row):Prop where
 to:∀i,i<rs.length→fD rs 0 i
 on:∀i,i<rs.length→∃e,fD rs i e∧rs[e]?=some .en
theorem L9{rs:List Row}{i:Nat}{r:Row}(h:rs[i]?=some r)(hp:Row.plain r)(hl:i+1<rs.length):aG rs i (i+1):=by
 refine⟨r,h,?_,hl⟩
 cases r<;>first|exact hp.elim|simp[a9]
theorem Ep{rs:List Row}{i:Nat}{q:Row}(h:rs[i]?=some q):(bT rs)[i]?=some (cX rs.length i q):=by
 unfold bT
 rw[pQ,h]
 rfl
theorem Ma{m n:Int}{r:Row}(h:Row.plain r):Row.plain (cX m n r):=by cases r<;>first|exact h.elim|exact trivial
theorem M9{rs:List Row}{os:List Int}(h:PS rs os none):pI (bT (rs++[.en])):=by
 have hl:(rs++[Row.en]).length=rs.length+1:=by simp
 have tl:(bT (rs++[.en])).length=rs.length+1:=by rw[om,hl]
 have hx:=h.x
 have at_:∀{i:Nat}{q:Row},rs[i]?=some q→(bT (rs++[.en]))[i]?=some (cX ((rs.length+1:Nat):Int) i q):=fun {i q} hq=>by
  rw[Ep (oj hq),hl]
 have Ap:(bT (rs++[.en]))[rs.length]?=some .en:=by
  rw[Ep (q:=.en) (by simp)];rfl
 have K9:∀{b k:Nat}{a:Ko},rs[b]?=some (.pt a (k:Int))→b+1<k→k≤rs.length→aG (bT (rs++[.en])) b k:=fun {b k a} hb h1 h2=>by
  refine⟨_,at_ hb,?_,by omega⟩
  have em:(k:Int)%((rs.length+1:Nat):Int)=k:=Int.emod_eq_of_lt (by omega) (by omega)
  simp only[cX,em,if_neg (show ¬((k:Int)=(b:Int)+1) by omega),a9,List.mem_cons,List.not_mem_nil,or_false,or_true]
 have Cu:∀{i:Nat}{r:Row},rs[i]?=some r→Row.plain r→aG (bT (rs++[.en])) i (i+1):=fun {i r} hr hp=>by
  have:=(bt.mp hr).1
  exact L9 (at_ hr) (Ma hp) (by omega)
 have outer:∀(d n:Nat),rs.length-n≤d→(n:Int)∈os→∃e,fD (bT (rs++[.en])) n e∧(bT (rs++[.en]))[e]?=some .en:=by
  intro d
  induction d with
  |zero =>
   intro n hd hn
   obtain⟨n',e,A4⟩:=hx.ol _ hn
   omega
  |succ d ih =>
   intro n hd hn
   obtain⟨n',e',A4⟩:=hx.ol _ hn
   have:n<rs.length:=by omega
   obtain⟨k,k1,k2,k3⟩:=hx.oc n hn (fun z=>nomatch z)
   have hk:k≤rs.length:=by
    rcases k2 with k2|⟨k2,_⟩
    ·obtain⟨m,em,hm⟩:=hx.ol _ k2;omega
    ·omega
   have st:aG (bT (rs++[.en])) n k:=by
    rcases k3 with⟨e,r,h1,h2⟩|⟨e,a,h1⟩
    ·subst e;exact Cu h1 h2
    ·exact K9 h1 e hk
   rcases k2 with k2|⟨k2,_⟩
   ·obtain⟨e,h1,h2⟩:=ih k (by omega) k2
    exact⟨e,.step st h1,h2⟩
   ·subst k2;exact⟨rs.length,.step st (.refl _),Ap⟩
 have all:∀(d i:Nat),rs.length-i≤d→i≤rs.length→∃e,fD (bT (rs++[.en])) i e∧(bT (rs++[.en]))[e]?=some .en:=by
  intro d
  induction d with
  |zero =>
   intro i hd hi
   have:i=rs.length:=by omega
   subst this
   exact⟨_,.refl _,Ap⟩
  |succ d ih =>
   intro i hd hi
   by_cases e:i=rs.length
   ·subst e;exact⟨_,.refl _,Ap⟩
   have aT:i<rs.length:=by omega
   have hr:rs[i]?=some (rs[i]'aT):=by simp
   generalize rs[i]'aT=r at hr
   by_cases hp:Row.plain r
   ·obtain⟨e,h1,h2⟩:=ih (i+1) (by omega) (by omega)
    exact⟨e,.step (Cu hr hp) h1,h2⟩
   ·cases r with
    |en=>exact⟨i,.refl _,by rw[at_ hr];rfl⟩
    |go t =>
     by_cases ht:t<0
     ·have hp:(0:Int)<((rs.length+1:Nat):Int)-i-1:=by omega
      have e0:=cP (-1-t) (show((rs.length+1:Nat):Int)-i-1≠0 by omega)
      have e1:=di (-1-t) hp
      generalize hq:(-1-t)%(((rs.length+1:Nat):Int)-i-1)=q at e0 e1
      obtain⟨j,hj⟩:∃j:Nat,(i:Int)+1+q=j:=⟨((i:Int)+1+q).toNat,by omega⟩
      obtain⟨e,h1,h2⟩:=ih j (by omega) (by omega)
      refine⟨e,.step ⟨_,at_ hr,?_,by omega⟩ h1,h2⟩
      simp only[cX,if_pos ht,a9,hq,hj,List.mem_singleton]
     ·have h0:0≤t:=by omega
      have hm:=hx.gt i t hr h0
      obtain⟨j,ej,hj⟩:=hx.ol t hm
      subst ej
      obtain⟨e,h1,h2⟩:=outer rs.length j (by omega) hm
      refine⟨e,.step ⟨_,at_ hr,?_,by omega⟩ h1,h2⟩
      simp only[cX,if_neg ht,a9,List.mem_singleton]
    |rk x s a b=>exact absurd trivial hp
    |cp x a=>exact absurd trivial hp
    |sy a=>exact absurd trivial hp
    |pt a t=>exact absurd trivial hp
 have frm:∀(d i:Nat),i≤d→i≤rs.length→fD (bT (rs++[.en])) 0 i:=by
  intro d
  induction d with
  |zero =>
   intro i hd _
   have:i=0:=by omega
   subst this;exact .refl 0
  |succ d ih =>
   intro i hd hi
   cases i with
   |zero=>exact .refl 0
   |succ i =>
    have aT:i<rs.length:=by omega
    have hr:rs[i]?=some (rs[i]'aT):=by simp
    generalize rs[i]'aT=r at hr
    by_cases hp:Row.plain r
    ·exact(ih i (by omega) (by omega)).snoc (Cu hr hp)
    ·obtain⟨b,a,hb,h1,_⟩:=hx.s i r hr hp
     exact(ih b (by omega) (by omega)).snoc (K9 h1 (by omega) hi)
 exact⟨fun i hi=>frm i i (aR _) (by omega),fun i hi=>all (rs.length-i) i (aR _) (by omega)⟩
theorem Er{rs:List Row}{nm:Str}{i:Nat}{r:Row}(h:rs[i]?=some r)(hi:i+1<rs.length):(b6 rs nm)[i+1]?=some (bump r):=by
 simp only[b6,List.getElem?_cons_succ]
 rw[lU (by rw[a7,List.length_dropLast];omega),cG,List.getElem?_dropLast,if_pos (by omega),h]
 rfl
theorem Nb{rs:List Row}{nm:Str}(g:Good rs)(h:pI rs):pI (b6 rs nm):=by
 have hp:=g.pos
 have tl:(b6 rs nm).length=rs.length+2:=by
  simp only[b6,List.length_cons,List.length_append,List.length_map,List.length_dropLast,List.length_nil];omega
 have a0:(b6 rs nm)[0]?=some (.go rs.length):=rfl
 have aM:(b6 rs nm)[rs.length]?=some (.pt (.inr nm) 1):=by
  obtain⟨k,hk⟩:∃k,rs.length=k+1:=⟨rs.length-1,by omega⟩
  rw[hk]
  simp only[b6,List.getElem?_cons_succ]
  rw[List.getElem?_append_right (by rw[a7,List.length_dropLast];omega),a7,List.length_dropLast]
  rw[show k-(rs.length-1)=0 by omega];rfl
 have aE:(b6 rs nm)[rs.length+1]?=some .en:=by
  simp only[b6,List.getElem?_cons_succ]
  rw[List.getElem?_append_right (by rw[a7,List.length_dropLast];omega),a7,List.length_dropLast]
  rw[show rs.length-(rs.length-1)=1 by omega];rfl
 have s0:aG (b6 rs nm) 0 rs.length:=⟨_,a0,by simp[a9],by omega⟩
 have XS:aG (b6 rs nm) rs.length 1:=⟨_,aM,by simp[a9],by omega⟩
 have Cv:aG (b6 rs nm) rs.length (rs.length+1):=⟨_,aM,by simp[a9],by omega⟩
 have up:∀{i j:Nat},aG rs i j→aG (b6 rs nm) (i+1) (j+1):=fun {i j} ⟨r,hr,hm,hj⟩=>by
  have hi:i<rs.length:=(bt.mp hr).1
  have ne:i+1<rs.length:=by
   rcases hX (i+1) rs.length with z|z
   ·exact z
   ·have e:i=rs.length-1:=by omega
    rw[e,g.last]at hr
    cases hr;cases hm
  refine⟨bump r,Er hr ne,?_,by omega⟩
  cases r with
  |en=>cases hm
  |go t=>simp only[a9,List.mem_singleton]at hm;simp only[bump,a9,List.mem_singleton];omega
  |pt a t=>simp only[a9,List.mem_cons,List.not_mem_nil,or_false]at hm;simp only[bump,a9,List.mem_cons,List.not_mem_nil,or_false];omega
  |rk x s a b=>simp only[a9,List.mem_singleton]at hm;simp only[bump,a9,List.mem_singleton];omega
  |cp x a=>simp only[a9,List.mem_singleton]at hm;simp only[bump,a9,List.mem_singleton];omega
  |sy a=>simp only[a9,List.mem_singleton]at hm;simp only[bump,a9,List.mem_singleton];omega
 have Cw:∀{i j:Nat},fD rs i j→fD (b6 rs nm) (i+1) (j+1):=fun {i j} hr=>by
  induction hr with
  |refl i=>exact .refl _
  |step s _ ih=>exact .step (up s) ih
 refine⟨fun i hi=>?_,fun i hi=>?_⟩
 ·cases i with
  |zero=>exact .refl 0
  |succ i =>
   by_cases e:i<rs.length
   ·exact .step s0 (.step XS (Cw (h.to i e)))
   ·have:i=rs.length:=by omega
    subst this;exact .step s0 (.step Cv (.refl _))
 ·cases i with
  |zero=>exact⟨rs.length+1,.step s0 (.step Cv (.refl _)),aE⟩
  |succ i =>
   by_cases e:i<rs.length
   ·obtain⟨e,h1,h2⟩:=h.on i e
    by_cases z:e+1<rs.length
    ·exact⟨e+1,Cw h1,by rw[Er h2 z];rfl⟩
    ·have:=(bt.mp h2).1
     have q:=Cw h1
     rw[show e+1=rs.length by omega]at q
     exact⟨rs.length+1,q.snoc Cv,aE⟩
   ·have:i=rs.length:=by omega
    subst this;exact⟨rs.length+1,.refl _,aE⟩
theorem QW{rs:List Row}(h:∀r∈rs,RV r):∀r∈bT rs,RV r:=fun r hr=>by
 obtain⟨i,hi⟩:=List.mem_iff_getElem?.mp hr
 obtain⟨q,hq,rfl⟩:=y3 hi
 have:=h q (fB hq)
 cases q with
 |go t=>simp only[cX];split<;>exact trivial
 |pt a t=>exact this
 |rk x s a b=>exact this
 |cp x a=>exact this
 |sy a=>exact this
 |en=>exact trivial
theorem QX{rs:List Row}{nm:Str}(h:∀r∈rs,RV r)(hn:nameS nm=true):∀r∈b6 rs nm,RV r:=fun r hr=>by
 simp only[b6,List.mem_cons,List.mem_append,List.mem_map,List.not_mem_nil,or_false]at hr
 rcases hr with rfl|⟨q,hq,rfl⟩|rfl|rfl
 ·exact trivial
 ·have:=h q (by rw[List.dropLast_eq_take]at hq;exact List.mem_of_mem_take hq)
  cases q<;>first|exact this|exact trivial
 ·exact En hn
 ·exact trivial
theorem yq:∀ns:List Int,cF (ns.map .int)=true
 |[]=>by simp only[List.map_nil,cF]
 |n::ns=>by simp only[List.map_cons,cF,J.plain,yq ns,Bool.and_self]
theorem y4{m n:M}(cs:List Int):fu (m,.lst (cs.map .int)) (n,.lst [])=some (.fr,.bl (!cs.isEmpty)):=by
 have ok:jw (.lst (cs.map .int)) (.lst [])=true:=by
  simp only[jw,J.plain,yq,cF,mR,Bool.and_self,Bool.true_and]
  have:min (toPy (.lst (cs.map .int))).depth (toPy (.lst [])).depth≤(toPy (.lst [])).depth:=Nat.min_le_right _ _
  have h2:(toPy (.lst [])).depth≤60:=by simp[toPy,cw,PyData.depth,PyData.depthAll]
  exact fL (bS this h2)
 simp only[fu,ok,if_true]
 cases cs with
 |nil=>simp[toPy,cw,PyData.eqv,PyData.eqvAll]
 |cons c cs=>simp[toPy,cw,PyData.eqv,PyData.eqvAll]
theorem ints_of:∀{xs:List D},(∀x∈xs,∃i:Int,x=.int i)→∃is:List Int,xs=is.map D.int
 |[],_=>⟨[],rfl⟩
 |x::xs,h=>by
  obtain⟨is,e⟩:=ints_of fun y hy=>h y (cT _ hy)
  obtain⟨i,rfl⟩:=h x cM
  exact⟨i::is,by rw[bE,e]⟩
theorem OJ(cs:List Int)(hc:cs.length≤63)(ns:D)(more:Int)(hm:0≤more∧more≤60) :
  ∃ks:List Int,ks.length≤130∧gn (ae aV (jV 0) (gF (iJ (ag (ae c6 (jV 2) (aF c7 (ag (ae fu (jV 0) (bI ah)) ah))) ah)) [0] ft (ae aV (ae aj (jV 1) (ae aZ (jV 0) (aF bJ (ag (jV 1) ah)))) (ae c6 (jC (.int 101)) (jV 0)))))
   [some (.al,.lst (cs.map .int)),some (.al,ns),some (.al,.int more),some (.bo,.lst []),some (.bo,.lst []),some (.fr,.non),none]=some (.fr,ks.map .int):=by
 generalize hN:more*(if (!cs.isEmpty)=true then 1 else 0:Int)=N
 have n0:0≤N∧N≤60:=by
  cases cs with
  |nil=>simp at hN;omega
  |cons c cs=>simp at hN;omega
 have nz:0<N→0<cs.length:=fun h=>by
  cases cs with
  |nil=>simp at hN;omega
  |cons c cs=>simp
 obtain⟨xs,ex,xl,xp⟩:=DM (fc:=ft) (fe:=ae aV (ae aj (jV 1) (ae aZ (jV 0) (aF bJ (ag (jV 1) ah)))) (ae c6 (jC (.int 101)) (jV 0))) (m:=.fr) (fr:=[some (.al,.lst (cs.map .int))]) (P:=fun x=>∃i:Int,x=.int i) (ds:=fM 0 N.toNat) (fun d hd=>by
  obtain⟨i,hi⟩:=List.mem_iff_getElem?.mp hd
  obtain⟨h1,rfl⟩:=zi hi
  have hp:(0:Int)<cs.length:=by have:=nz (by omega);omega
  obtain⟨c,sQ⟩:=yF (ns:=cs) (k:=(0+(i:Int))%cs.length) (cP _ (by omega)) (di _ hp)
  have YS:(i:Int)<60:=by omega
  refine⟨rfl,.int (c+101*(0+(i:Int))),?_,_,rfl⟩
  generalize (0:Int)+(i:Int)=k at sQ ⊢
  walk_at "ev"
  rw[fE hp]
  walk_at "ev"
  rw[sQ]
  walk_at "ev"
  rw[vF (by decide)]
  walk_at "ev")
 obtain⟨is,rfl⟩:=ints_of xp
 rw[yU,a7]at xl
 refine⟨cs++is,by rw[cg];omega,?_⟩
 have eL:eJ ((is.map D.int).map fun x=>(M.fr,x))=some (.un,.lst (is.map D.int)):=E4 (by rw[a7];omega)
 have Aq:aV (.al,.lst (cs.map .int)) (.un,.lst (is.map .int))=some (.un,.lst ((cs++is).map .int)):=by
  rw[oF (by simp[aI]) (by simp[aI]) (by rw[a7,a7];exact bS (show cs.length+is.length≤1000 by omega) (by decide)),UH,←dh]
  exact Gd (gX _)
 have hr:-4611686018427387904≤N∧N<4611686018427387904:=by omega
 have hmul:∀{m n:M},c6 (m,.int more) (n,.int (if (!cs.isEmpty)=true then 1 else 0))=some (.fr,.int N):=fun {m n}=>by
  rw[vF (by omega),hN]
 simp -implicitDefEqProofs only [gn,ae,gF,iJ,ag,ah,aF,jV,bI,eJ,List.length_nil,p8,Nat.zero_le,List.all_nil,if_true,List.map_nil,List.getElem?_cons_zero,List.getElem?_cons_succ,Option.bind_some,id_eq,y4,rj,hmul,hr,and_self]
 show(((fU _ _ M.fr [some (.al,.lst (cs.map .int))] _).bind eJ).bind fun y=>aV _ y).bind _=_
 rw[ex]
 simp -implicitDefEqProofs only [Option.bind_some,eL,Aq,ig,Option.map_some]
theorem Mb(cs:List Int)(hc:cs.length≤63)(ns:List Str)(hv:∀z∈ns,nameS z=true)(h1:0<ns.length)(h2:ns.length≤50)(more:Int)(hm:0≤more∧more≤60) :
  ∃rs,(Good rs∧pI rs∧∀r∈rs,RV r)∧rs.length≤140∧∃m,(m=.un)∧qo [.lst (cs.map .int),.lst (ns.map .str),.int more]=some (m,.lst (rs.map Row.d)):=by
 obtain⟨ks,kl,ek⟩:=OJ cs hc (.lst (ns.map .str)) more hm
 have l1:=mG (g:=gN 6) (b:=n6) (m:=.fr) (ds:=ks.map D.int) (e:=[some (.al,.lst (cs.map .int)),some (.al,.lst (ns.map .str)),some (.al,.int more),some (.bo,.lst []),some (.bo,.lst []),some (.fr,.non),none])
  (fun i e=>∃(rs:List Row) (os:List Int) (bg:Option Nat) (o:Option (M×D)),PS rs os bg∧rs.length≤i∧os.length≤i∧e=[some (.al,.lst (cs.map .int)),some (.al,.lst (ns.map .str)),some (.al,.int more),some (.bo,.lst (rs.map Row.d)),some (.bo,.lst (os.map .int)),some (.fr,jX bg),o])
  ⟨[],[],none,none,PS.nil,aR _,aR _,rfl⟩
  (fun i d e hd ⟨rs,os,bg,o,hp,a1,a2,he⟩=>by
   subst he
   rw[cG]at hd
   cases hk:ks[i]? with
   |none=>rw[hk]at hd;cases hd
   |some c =>
    rw[hk]at hd
    cases hd
    have hi:i<ks.length:=(bt.mp hk).1
    obtain⟨cV,nI,yn,b1,b2,b3,b4⟩:=M6 (some (.al,.lst (cs.map .int))) ns hv h1 h2 (some (.al,.int more)) rs os bg hp (by omega) (by omega) c .fr (.inr rfl)
    exact⟨_,_,rfl,b4,cV,nI,yn,some (.fr,.int c),b1,by omega,by omega,rfl⟩)
 obtain⟨e',l1,rs,os,bg,o,hp,a1,a2,rfl⟩:=l1
 rw[a7]at a1 a2
 have cl:∃cV o5,PS cV os none∧cV.length≤rs.length+1∧aN (jB (ae kf (jV 5) (jC .non))) (i9 [0,3] [3,4] [(0,3),(1,5),(3,4)] lA (ag (jV 3) (ag (jV 5) (ag (jC (.int 0)) (ag (jV 4) ah))))) aY
   [some (.al,.lst (cs.map .int)),some (.al,.lst (ns.map .str)),some (.al,.int more),some (.bo,.lst (rs.map Row.d)),some (.bo,.lst (os.map .int)),some (.fr,jX bg),o]=some (.nx [some (.al,.lst (cs.map .int)),some (.al,.lst (ns.map .str)),some (.al,.int more),some (.bo,.lst (cV.map Row.d)),some (.bo,.lst (os.map .int)),o5,o]):=by
  cases bg with
  |none =>
   refine⟨rs,some (.fr,.non),hp,by omega,?_⟩
   rw[aW (by simp only[jX];walk_at "ev"; simp only[GB];walk_at "ev")]
   rfl
  |some b =>
   obtain⟨⟨a,t,hb⟩,ho⟩:=hp.b b rfl
   obtain⟨x,hx,ex⟩:=DV (some (.al,.lst (cs.map .int))) (some (.al,.lst (ns.map .str))) (some (.al,.int more)) rs os b a t hb ho (by omega) 0 o (jC (.int 0)) rfl
   refine⟨_,some (.fr,.int b),hp.shut hb hx,by simp,?_⟩
   rw[cy (by simp only[jX];walk_at "ev"; simp only[GC];walk_at "ev")]
   exact ex
 obtain⟨cV,o5,mn,a3,ec⟩:=cl
 have Cy:(cV++[Row.en]).length=cV.length+1:=by simp
 have et:=M4 (cV++[.en]) (by rw[Cy];omega) (by rw[Cy];omega) (fun i t hi=>by
  rcases mH hi with z|⟨_,z⟩
  ·have:=(bt.mp z).1;omega
  ·cases z)
 have gt:Good (bT (cV++[.en]))∧pI (bT (cV++[.en]))∧∀r∈bT (cV++[.en]),RV r:=⟨M7 mn,M9 mn,QW (uW mn.x.v trivial)⟩
 have tl:(bT (cV++[.en])).length=cV.length+1:=by rw[om,Cy]
 have Aq:aV (.bo,.lst (cV.map Row.d)) (.un,.lst [.tup [.str "end"]])=some (.un,.lst ((cV++[Row.en]).map Row.d)):=by
  rw[oF (by simp[aI]) (by simp[aI]) (by rw[a7];exact bS (show cV.length+1≤1000 by omega) (by decide)),zI,zh,dh]
  rfl
 obtain⟨nm,XT,XU⟩:=yA (ns:=ns) (k:=0) (by decide) (by omega)
 generalize bT (cV++[.en])=T at et gt tl
 have s3:aH 3 (aJ qm (ag (ae aV (jV 3) (bI (ag (b9 (ag (jC (.str "end")) ah)) ah))) ah)) [some (.al,.lst (cs.map .int)),some (.al,.lst (ns.map .str)),some (.al,.int more),some (.bo,.lst (cV.map Row.d)),some (.bo,.lst (os.map .int)),o5,o]=some (.nx [some (.al,.lst (cs.map .int)),some (.al,.lst (ns.map .str)),some (.al,.int more),some (.bo,.lst (T.map Row.d)),some (.bo,.lst (os.map .int)),o5,o]):=by
  walk_at "ev"
  rw[Aq]
  walk_at "ev"
  rw[et]
  walk_at "ev"
 have fin:∀{g:Ev→Option Fl},qo [.lst (cs.map .int),.lst (ns.map .str),.int more]=(av (aN (bR (jB (ae fu (jV 0) (bI ah))) (bR (jB (ae aQ (ae aZ (ae bC (ae aj (jV 0) (jC (.int 0))) (jC (.int 7))) (jC (.int 6))) (jC (.int 1)))) (jB (ae dX (aF bJ (ag (jV 3) ah)) (jC (.int 59))))))
   (aH 3 (aJ qt (ag (jV 3) (ag (ae aj (jV 1) (jC (.int 0))) ah)))) aY) (aP (jV 3)) [some (.al,.lst (cs.map .int)),some (.al,.lst (ns.map .str)),some (.al,.int more),some (.bo,.lst (T.map Row.d)),some (.bo,.lst (os.map .int)),o5,o]).bind out:=by
  intro g
  unfold qo fn CM
  rw[show([D.lst (cs.map .int),.lst (ns.map .str),.int more].map (fun d=>some (M.al,d))++List.replicate (7 - [D.lst (cs.map .int),.lst (ns.map .str),.int more].length) none:Ev)=[some (.al,.lst (cs.map .int)),some (.al,.lst (ns.map .str)),some (.al,.int more),none,none,none,none] from rfl]
  rw[ay (e':=[some (.al,.lst (cs.map .int)),some (.al,.lst (ns.map .str)),some (.al,.int more),some (.bo,.lst []),none,none,none]) (by walk_at "ev")]
  rw[ay (e':=[some (.al,.lst (cs.map .int)),some (.al,.lst (ns.map .str)),some (.al,.int more),some (.bo,.lst []),some (.bo,.lst []),none,none]) (by walk_at "ev")]
  rw[ay (e':=[some (.al,.lst (cs.map .int)),some (.al,.lst (ns.map .str)),some (.al,.int more),some (.bo,.lst []),some (.bo,.lst []),some (.fr,.non),none]) (by walk_at "ev")]
  rw[ay (e':=[some (.al,.lst (cs.map .int)),some (.al,.lst (ns.map .str)),some (.al,.int more),some (.bo,.lst (rs.map Row.d)),some (.bo,.lst (os.map .int)),some (.fr,jX bg),o]) (by
   rw[fq,ek,aC];exact l1)]
  rw[ay ec,ay s3]
 rw[fin (g:=aY)]
 have GD:∀{Cz:Ev→Option Bool}{th:Ev→Option Fl},Cz [some (.al,.lst (cs.map .int)),some (.al,.lst (ns.map .str)),some (.al,.int more),some (.bo,.lst (T.map Row.d)),some (.bo,.lst (os.map .int)),o5,o]=some false→∃rs,(Good rs∧pI rs∧∀r∈rs,RV r)∧rs.length≤140∧∃m,(m=.un)∧(av (aN Cz th aY) (aP (jV 3)) [some (.al,.lst (cs.map .int)),some (.al,.lst (ns.map .str)),some (.al,.int more),some (.bo,.lst (T.map Row.d)),some (.bo,.lst (os.map .int)),o5,o]).bind out=some (m,.lst (rs.map Row.d)):=fun {Cz th} dM=>by
  refine⟨T,gt,by omega,.un,rfl,?_⟩
  rw[ay (e':=[some (.al,.lst (cs.map .int)),some (.al,.lst (ns.map .str)),some (.al,.int more),some (.bo,.lst (T.map Row.d)),some (.bo,.lst (os.map .int)),o5,o]) (by rw[aW dM];rfl)]
  walk_at "ev"
 cases cs with
 |nil =>
  refine GD ?_
  simp -implicitDefEqProofs only [bR,jB,ae,jV,bI,ah,eJ,List.length_nil,p8,Nat.zero_le,List.all_nil,if_true,List.map_nil,List.getElem?_cons_zero,Option.bind_some,id_eq,show fu (.al,.lst []) (.un,.lst [])=some (.fr,.bl false)from y4 [],bK,Bool.false_eq_true,if_false]
 |cons c0 lr =>
  have gk:∀{m n:M},fu (m,.lst ((c0::lr).map .int)) (n,.lst [])=some (.fr,.bl true):=fun {m n}=>y4 (c0::lr)
  have dM:(bR (jB (ae fu (jV 0) (bI ah))) (bR (jB (ae aQ (ae aZ (ae bC (ae aj (jV 0) (jC (.int 0))) (jC (.int 7))) (jC (.int 6))) (jC (.int 1)))) (jB (ae dX (aF bJ (ag (jV 3) ah)) (jC (.int 59)))))) [some (.al,.lst ((c0::lr).map .int)),some (.al,.lst (ns.map .str)),some (.al,.int more),some (.bo,.lst (T.map Row.d)),some (.bo,.lst (os.map .int)),o5,o]=some (decide (c0/7%6=1)&&decide ((T.length:Int)<59)):=by
   have h0:L2.aX ((c0::lr).map D.int) 0=some (.int c0):=by
    have z:=gZ (l:=(c0::lr).map D.int) (k:=0) (by simp)
    simpa using z
   generalize (c0::lr).map D.int=CS at gk h0
   simp -implicitDefEqProofs only [bR,jB,ae,jV,bI,ah,eJ,ag,aF,jC,List.length_nil,p8,Nat.zero_le,List.all_nil,if_true,List.map_nil,List.getElem?_cons_zero,List.getElem?_cons_succ,Option.bind_some,id_eq,gk,bK,g8,h0,Option.map_some,dq]
   walk_at "ev"
   by_cases g:c0/7%6=1
   ·simp only[g];walk_at "ev"
   ·simp only[g];walk_at "ev"; simp
  by_cases g:(decide (c0/7%6=1)&&decide ((T.length:Int)<59))=true
  ·have hT:T.length<59:=by
    simp only[Bool.and_eq_true,decide_eq_true_eq]at g;omega
   refine⟨b6 T nm,⟨M8 gt.1,Nb gt.1 gt.2.1,QX gt.2.2 (hv nm XU)⟩,?_,.un,rfl,?_⟩
   ·simp only[b6,List.length_cons,List.length_append,List.length_map,List.length_dropLast,List.length_nil];omega
   have XW:=M5 T nm (by omega)
   rw[ay (e':=[some (.al,.lst ((c0::lr).map .int)),some (.al,.lst (ns.map .str)),some (.al,.int more),some (.bo,.lst ((b6 T nm).map Row.d)),some (.bo,.lst (os.map .int)),o5,o]) (by
    rw[cy (by rw[dM,g])]
    generalize (c0::lr).map D.int=CS
    walk_at "ev"
    rw[XT]
    walk_at "ev"
    rw[XW]
    walk_at "ev")]
   generalize (c0::lr).map D.int=CS
   walk_at "ev"
  ·have g':(decide (c0/7%6=1)&&decide ((T.length:Int)<59))=false:=by simpa using g
   exact GD (by rw[dM,g'])
local macro_rules|`(tactic| walk_at "ev")=>`(tactic| simp -implicitDefEqProofs only [av,aN,jB,ae,cQ,jV,aF,ag,ah,aP,G7,aH,aY,jC,aJ,ky,xD,wa,bR,cE,fm,ph,b9,bI,q8,eJ,bM,jt,fq,gn,iJ,ig,List.map_cons,List.map_nil,List.length_cons,List.length_nil,List.cons_append,List.nil_append,List.replicate,List.getElem?_cons_zero,List.getElem?_cons_succ,List.set_cons_zero,List.set_cons_succ,List.all_cons,List.all_nil,Option.bind_some,Option.bind_none,Option.map_some,Option.map_none,id_eq,zG,cY,Hc,lI,vE,qL,vd,vG,He,rg,Hf,Qk,S6,Ql,g8,kg,zH,Hh,Hi,Hj,rj,bK,oG,yT,uP,mI,zg,F5,F6,F7,ve,F9,Ga,fW,wg,Ij,Ik,dq,vf,Gb,vg,if_true,if_false,Bool.and_self,Bool.and_true,Bool.true_and,Bool.false_eq_true,decide_true,decide_false,reduceIte,reduceCtorEq,List.length_map,Nat.reduceAdd,Nat.reduceSub,Bool.not_true,Bool.not_false,p8,Il,Nat.reduceLeDiff,mul_r,fE,div_ii,Hd,S5,Int.reducePow,Int.reduceNeg,Int.reduceLT,Int.reduceLE,Int.reduceToNat,and_self,and_true,true_and,Nat.reducePow,Nat.reduceLT,oF,zI,UG,zh,ne_eq,not_false_eq_true])
theorem T3(rs:List Row)(n:Nat)(r:Row)(h:rs[n]?=some r):n8 [.lst (rs.map Row.d),.int n]=some (.un,.lst ((a9 n r).map .int)):=by
 have aT:n<rs.length:=(bt.mp h).1
 have gU:L2.aX (rs.map Row.d) (n:Int)=some r.d:=by
  rw[gZ (by rw[a7];exact aT),lX]
  rw[bP aT]at h
  rw[c9 h]
 generalize (n:Int)=nn at gU ⊢
 unfold n8 fn C5
 walk_at "ev"
 rw[gU]
 walk_at "ev"
 simp -implicitDefEqProofs only [gW,Option.bind_some,dq,cY,bK,jA,iN,iO]
 cases r with
 |en=>simp only[Row.cz,a9];walk_at "ev"
 |go t =>
  have q:∀{m n:M},aj (m,Row.d (.go t)) (n,.int 1)=some (aI m,.int t):=fun {m n}=>rfl
  simp only[Row.cz,Row.cS,a9]
  walk_at "ev"
  simp -implicitDefEqProofs only [gW,Option.bind_some,dq,cY,bK,jA,iN,iO,Row.cS]
  walk_at "ev"
  rw[q]
  walk_at "ev"
 |pt a t =>
  have q:∀{m n:M},aj (m,Row.d (.pt a t)) (n,.int 2)=some (aI m,.int t):=fun {m n}=>rfl
  simp only[Row.cz,Row.cS,Row.dC,a9]
  walk_at "ev"
  simp -implicitDefEqProofs only [gW,Option.bind_some,dq,cY,bK,jA,iN,iO,Row.cS,Row.dC]
  walk_at "ev"
  simp -implicitDefEqProofs only [gW,Option.bind_some,dq,cY,bK,jA,iN,iO,Row.cS,Row.dC]
  walk_at "ev"
  rw[q]
  walk_at "ev"
 |rk x s a b =>
  simp only[Row.cz,a9]
  walk_at "ev"
  simp -implicitDefEqProofs only [gW,Option.bind_some,dq,cY,bK,jA,iN,iO,Row.cS,Row.dC]
  walk_at "ev"
  simp -implicitDefEqProofs only [gW,Option.bind_some,dq,cY,bK,jA,iN,iO,Row.cS,Row.dC]
  walk_at "ev"
 |cp x a =>
  simp only[Row.cz,a9]
  walk_at "ev"
  simp -implicitDefEqProofs only [gW,Option.bind_some,dq,cY,bK,jA,iN,iO,Row.cS,Row.dC]
  walk_at "ev"
  simp -implicitDefEqProofs only [gW,Option.bind_some,dq,cY,bK,jA,iN,iO,Row.cS,Row.dC]
  walk_at "ev"
 |sy a =>
  simp only[Row.cz,a9]
  walk_at "ev"
  simp -implicitDefEqProofs only [gW,Option.bind_some,dq,cY,bK,jA,iN,iO,Row.cS,Row.dC]
  walk_at "ev"
  simp -implicitDefEqProofs only [gW,Option.bind_some,dq,cY,bK,jA,iN,iO,Row.cS,Row.dC]
  walk_at "ev"
theorem Good.a9{rs:List Row}(h:Good rs){n:Nat}{r:Row}(hn:rs[n]?=some r){m:Int}(hm:m∈a9 n r):0≤m∧m<rs.length:=by
 have aT:n<rs.length:=(bt.mp hn).1
 have nx:¬r=.en→(n:Int)+1<rs.length:=fun ne=>by
  have:n≠rs.length-1:=by
   intro z
   rw[z,h.last]at hn
   exact ne (c9 hn).symm
  omega
 cases r with
 |en=>cases hm
 |go t =>
  have e:m=t:=by simpa[b5.a9]using hm
  have:=h.go n t hn;omega
 |pt a t =>
  have e:m=n+1∨m=t:=by simpa[b5.a9]using hm
  have:=h.pt n a t hn
  have:=nx (fun z=>nomatch z)
  omega
 |rk x s a b =>
  have e:m=n+1:=by simpa[b5.a9]using hm
  have:=nx (fun z=>nomatch z);omega
 |cp x a =>
  have e:m=n+1:=by simpa[b5.a9]using hm
  have:=nx (fun z=>nomatch z);omega
 |sy a =>
  have e:m=n+1:=by simpa[b5.a9]using hm
  have:=nx (fun z=>nomatch z);omega
theorem XX:decide (("-" : Str) = "+")=false:=by decide +kernel
theorem XY:decide (("*" : Str) = "+")=false:=by decide +kernel
theorem XZ:decide (("*" : Str) = "-")=false:=by decide +kernel
theorem X1:decide (("&" : Str) = "+")=false:=by decide +kernel
theorem X2:decide (("&" : Str) = "-")=false:=by decide +kernel
theorem X3:decide (("&" : Str) = "*")=false:=by decide +kernel
theorem X4:decide (("|" : Str) = "+")=false:=by decide +kernel
theorem X5:decide (("|" : Str) = "-")=false:=by decide +kernel
theorem X6:decide (("|" : Str) = "*")=false:=by decide +kernel
theorem X7:decide (("|" : Str) = "&")=false:=by decide +kernel
theorem X8:decide (("^" : Str) = "+")=false:=by decide +kernel
theorem X9:decide (("^" : Str) = "-")=false:=by decide +kernel
theorem Ya:decide (("^" : Str) = "*")=false:=by decide +kernel
theorem Yb:decide (("^" : Str) = "&")=false:=by decide +kernel
theorem Yc:decide (("^" : Str) = "|")=false:=by decide +kernel
theorem Yd:decide (("<" : Str) = "+")=false:=by decide +kernel
theorem Ye:decide (("<" : Str) = "-")=false:=by decide +kernel
theorem Yf:decide (("<" : Str) = "*")=false:=by decide +kernel
theorem Yg:decide (("<" : Str) = "&")=false:=by decide +kernel
theorem Yh:decide (("<" : Str) = "|")=false:=by decide +kernel
theorem Yi:decide (("<" : Str) = "^")=false:=by decide +kernel
theorem Yj:decide (("=" : Str) = "+")=false:=by decide +kernel
theorem Yk:decide (("=" : Str) = "-")=false:=by decide +kernel
theorem Yl:decide (("=" : Str) = "*")=false:=by decide +kernel
theorem Ym:decide (("=" : Str) = "&")=false:=by decide +kernel
theorem Yn:decide (("=" : Str) = "|")=false:=by decide +kernel
theorem Yo:decide (("=" : Str) = "^")=false:=by decide +kernel
theorem Yp:decide (("=" : Str) = "<")=false:=by decide +kernel
noncomputable abbrev W:Int:=18446744073709551616
noncomputable def kE(k:Nat)(a b:Int):Int:=match k with
 |0=>(a+b)%W
 |1=>(a-b)%W
 |2=>a*b%W
 |3=>Builtin.bitAnd a b
 |4=>Builtin.bitOr a b
 |5=>Builtin.bitXor a b
 |6=>if a<b then 1 else 0
 |_=>if a=b then 1 else 0
noncomputable def sg(k:Nat):Str:=match k with
 |0 => "+" |1 => "-" |2 => "*" |3 => "&" |4 => "|" |5 => "^" |6 => "<" |_ => "="
theorem k8{k:Nat}(h:k<8):k=0∨k=1∨k=2∨k=3∨k=4∨k=5∨k=6∨k=7:=by omega
theorem Ft(k:Nat)(hk:k<8)(a b:Int)(ha:0≤a∧a<W)(hb:0≤b∧b<W):og [.str (sg k),.int a,.int b]=some (.fr,.int (kE k a b)):=by
 have hW:W=18446744073709551616:=rfl
 have sk:∀{s t:Str}{f:Ev→Option Fl}{E:Ev},E[0]?=some (some (.al,.str s))→decide (s=t)=false→aN (jB (ae aQ (jV 0) (jC (.str t)))) f aY E=some (.nx E):=fun {s t f E} h hd=>aW (by simp -implicitDefEqProofs only [jB,ae,jV,jC,h,id_eq,Option.bind_some,cY,bK,hd])
 have tk:∀{s:Str}{f:Ev→Option Fl}{E:Ev},E[0]?=some (some (.al,.str s))→aN (jB (ae aQ (jV 0) (jC (.str s)))) f aY E=f E:=fun {s f E} h=>cy (by simp -implicitDefEqProofs only [jB,ae,jV,jC,h,id_eq,Option.bind_some,cY,bK,decide_true])
 unfold og fn Dr
 rw[show([D.str (sg k),.int a,.int b].map (fun d=>some (M.al,d))++List.replicate (3 - [D.str (sg k),.int a,.int b].length) none:Ev)=[some (.al,.str (sg k)),some (.al,.int a),some (.al,.int b)] from rfl]
 rcases k8 hk with rfl|rfl|rfl|rfl|rfl|rfl|rfl|rfl<;>simp only[sg,kE]
 ·rw[g6 (by rw[tk rfl];walk_at "ev"; rfl)]
  rfl
 ·rw[ay (sk rfl XX)]
  rw[g6 (by rw[tk rfl];walk_at "ev"; rfl)]
  rfl
 ·rw[ay (sk rfl XY),ay (sk rfl XZ)]
  rw[g6 (by rw[tk rfl];walk_at "ev"; rw[vF (by omega)];walk_at "ev"; rfl)]
  rfl
 ·rw[ay (sk rfl X1),ay (sk rfl X2),ay (sk rfl X3)]
  rw[g6 (by rw[tk rfl];walk_at "ev"; rfl)]
  rfl
 ·rw[ay (sk rfl X4),ay (sk rfl X5),ay (sk rfl X6),ay (sk rfl X7)]
  rw[g6 (by rw[tk rfl];walk_at "ev"; rfl)]
  rfl
 ·rw[ay (sk rfl X8),ay (sk rfl X9),ay (sk rfl Ya),ay (sk rfl Yb),ay (sk rfl Yc)]
  rw[g6 (by rw[tk rfl];walk_at "ev"; rfl)]
  rfl
 ·rw[ay (sk rfl Yd),ay (sk rfl Ye),ay (sk rfl Yf),ay (sk rfl Yg),ay (sk rfl Yh),ay (sk rfl Yi)]
  rw[av,tk rfl]
  walk_at "ev"
  by_cases h:a<b<;>simp only[h]<;>walk_at "ev"
 ·rw[ay (sk rfl Yj),ay (sk rfl Yk),ay (sk rfl Yl),ay (sk rfl Ym),ay (sk rfl Yn),ay (sk rfl Yo),ay (sk rfl Yp)]
  walk_at "ev"
  by_cases h:a=b<;>simp only[h]<;>walk_at "ev"
theorem GF:∀(n a b:Nat),a<2^n→b<2^n→a+b<2^n+(a&&&b)
 |0,a,b,ha,hb=>by
  have:a=0:=by simpa using ha
  have:b=0:=by simpa using hb
  subst_vars;decide
 |n+1,a,b,ha,hb=>by
  have e:2^(n+1)=2*2^n:=by rw[Nat.pow_succ];omega
  rw[e]at ha hb ⊢
  have ih:=GF n (a/2) (b/2) (by omega) (by omega)
  have h1:(a&&&b)/2=a/2&&&b/2:=Nat.and_div_two
  have h2:(a&&&b)%2=a%2&&&b%2:=by
   have:=Nat.and_mod_two_pow (a:=a) (b:=b) (n:=1)
   simpa using this
  have p:(a%2=0∧(a&&&b)%2=0)∨(b%2=0∧(a&&&b)%2=0)∨(a%2=1∧b%2=1∧(a&&&b)%2=1):=by
   rcases Nat.mod_two_eq_zero_or_one a with x|x<;>rcases Nat.mod_two_eq_zero_or_one b with y|y<;>rw[h2,x,y]<;>simp
  rw[←h1]at ih
  generalize (a&&&b)=c at ih p ⊢
  generalize 2^n=m at *
  omega
theorem Dx(k:Nat)(a b:Int)(ha:0≤a∧a<W)(hb:0≤b∧b<W)(hk:k<8):0≤kE k a b∧kE k a b<W:=by
 have m:∀x:Int,0≤x%W∧x%W<W:=fun x=>⟨cP _ (by decide),di _ (by decide)⟩
 have hW:W=18446744073709551616:=rfl
 have e:=PyProof.Rows.bitAnd_pp ha.1 hb.1
 have JA:(2:Nat)^64=18446744073709551616:=by decide
 have hi:=GF 64 a.toNat b.toNat (by omega) (by omega)
 have l1:a.toNat&&&b.toNat≤a.toNat:=Nat.and_le_left
 have l2:a.toNat&&&b.toNat≤b.toNat:=Nat.and_le_right
 generalize (a.toNat&&&b.toNat)=c at *
 rcases k8 hk with rfl|rfl|rfl|rfl|rfl|rfl|rfl|rfl<;>simp only[kE]
 ·exact m _
 ·exact m _
 ·exact m _
 ·rw[e];omega
 ·rw[PyProof.Rows.bitOr_and,e];omega
 ·rw[PyProof.Rows.bitXor_and,e];omega
 ·split<;>omega
 ·split<;>omega
theorem HB{s:Str}(h:mV (.str s)=true):∃k,k<8∧s=sg k:=by
 simp only[mV,dU,K3]at h
 simp only[List.any_cons,List.any_nil,Bool.or_false,Bool.or_eq_true,jN,beq_iff_eq]at h
 rcases h with rfl|rfl|rfl|rfl|rfl|rfl|rfl|rfl
 ·exact⟨0,by decide,rfl⟩
 ·exact⟨1,by decide,rfl⟩
 ·exact⟨2,by decide,rfl⟩
 ·exact⟨3,by decide,rfl⟩
 ·exact⟨4,by decide,rfl⟩
 ·exact⟨5,by decide,rfl⟩
 ·exact⟨6,by decide,rfl⟩
 ·exact⟨7,by decide,rfl⟩
noncomputable def lu(s:Str)(a b:Int):Int:=match og [.str s,.int a,.int b] with
 |some (_,.int i)=>i
 |_=>0
theorem GH{s:Str}(hs:mV (.str s)=true){a b:Int}(ha:0≤a∧a<W)(hb:0≤b∧b<W):og [.str s,.int a,.int b]=some (.fr,.int (lu s a b))∧0≤lu s a b∧lu s a b<W:=by
 obtain⟨k,hk,rfl⟩:=HB hs
 have e:=Ft k hk a b ha hb
 have z:lu (sg k) a b=kE k a b:=by unfold lu;rw[e]
 rw[z]
 exact⟨e,Dx k a b ha hb hk⟩
noncomputable def wk(ks:List (Key×D))(x:Str):Int:=match bY ks (.inr x) with
 |some (.int i)=>i
 |_=>0
structure WK (ks:List (Key×D)):Prop where
 nd:(ks.map (·.1)).Nodup
 iv:∀p∈ks,∃i:Int,p.2=.int i∧0≤i∧i<W
theorem Et{ks:List (Key×D)}{k:Key}{d:D}(h:bY ks k=some d):∃p∈ks,p.1=k∧p.2=d:=by
 unfold bY at h
 cases f:ks.find? fun kv=>decide (kv.1=k) with
 |none=>rw[f]at h;cases h
 |some p =>
  rw[f]at h;cases h
  have z:=List.find?_some f
  exact⟨p,Jg f,by simpa using z,rfl⟩
theorem WK.val{ks:List (Key×D)}(h:WK ks)(x:Str):(bY ks (.inr x)=none∧wk ks x=0)∨(bY ks (.inr x)=some (.int (wk ks x))∧0≤wk ks x∧wk ks x<W):=by
 cases e:bY ks (.inr x) with
 |none=>exact .inl ⟨rfl,by unfold wk;rw[e]⟩
 |some d =>
  obtain⟨p,m,e1,e2⟩:=Et e
  obtain⟨i,ei,r⟩:=h.iv p m
  rw[ei]at e2
  have z:wk ks x=i:=by unfold wk;rw[e,←e2]
  exact .inr ⟨by rw[z,e2],by rw[z];exact r⟩
theorem WK.range{ks:List (Key×D)}(h:WK ks)(x:Str):0≤wk ks x∧wk ks x<W:=by
 rcases h.val x with⟨_,z⟩|⟨_,z⟩
 ·rw[z];decide
 ·exact z
theorem OL(ks:List (Key×D))(k:Key)(d:D):(putD ks k d).map (·.1)=ks.map (·.1)∨(k∉ks.map (·.1)∧(putD ks k d).map (·.1)=ks.map (·.1)++[k]):=by
 unfold putD
 split
 ·refine .inl ?_
  rw[w6]
  refine List.map_congr_left fun p _=>?_
  simp only[Function.comp]
  split<;>rfl
 ·rename_i h
  refine .inr ⟨fun w=>h ?_,by rw[dh];rfl⟩
  obtain⟨p,hp,e⟩:=de.mp w
  exact List.any_eq_true.mpr ⟨p,hp,fL e⟩
theorem WK.put{ks:List (Key×D)}(h:WK ks){k:Key}{i:Int}(hi:0≤i∧i<W):WK (putD ks k (.int i)):=by
 refine⟨?_,fun p hp=>?_⟩
 ·rcases OL ks k (.int i)with e|⟨hn,e⟩
  ·rw[e];exact h.nd
  ·rw[e,w9]
   refine⟨h.nd,by simp,fun a ha b hb=>?_⟩
   have:b=k:=by simpa using hb
   rw[this]
   exact fun w=>hn (w▸ha)
 ·unfold putD at hp
  split at hp
  ·obtain⟨q,hq,rfl⟩:=de.mp hp
   split
   ·exact⟨i,rfl,hi⟩
   ·exact h.iv q hq
  ·rcases fX.mp hp with hp|hp
   ·exact h.iv p hp
   ·have:p=(k,.int i):=by simpa using hp
    rw[this];exact⟨i,rfl,hi⟩
theorem y6{ks:List (Key×D)}{k:Key}{d:D}:(putD ks k d).length≤ks.length+1:=by
 unfold putD
 split<;>simp
theorem WK.bH{ks:List (Key×D)}(h:WK ks):D.bH (ks.map (·.2))=true:=by
 have:∀ks:List (Key×D),(∀p∈ks,∃i:Int,p.2=.int i∧0≤i∧i<W)→D.bH (ks.map (·.2))=true:=by
  intro ks
  induction ks with
  |nil=>intro _;simp only[List.map_nil,D.bH]
  |cons p ks ih =>
   intro h
   obtain⟨i,e,_⟩:=h p cM
   simp only[List.map_cons,D.bH,e,fW,ih fun q hq=>h q (List.mem_cons_of_mem _ hq),Bool.and_self]
 exact this ks h.iv
noncomputable def cq(ks:List (Key×D)):Ko→Int
 |.inl i=>i
 |.inr x=>wk ks x
theorem mF{ks:List (Key×D)}(h:WK ks){k:Ko}(hk:jW k):0≤cq ks k∧cq ks k<W:=by
 cases k with
 |inl i =>
  have z:=hk.1
  simp only[kD,ym,vQ,zu,Bool.false_or,Bool.and_eq_true,decide_eq_true_eq]at z
  exact z
 |inr x=>exact h.range x
theorem Eu{ks:List (Key×D)}(h:WK ks)(k:Ko):gD [kD k,.dk ks]=some (.fr,.int (cq ks k)):=by
 unfold gD fn Dt
 cases k with
 |inl i =>
  simp only[kD,cq]
  walk_at "ev"
  simp -implicitDefEqProofs only [C3,Option.bind_some,bK,Bool.false_eq_true,if_false,List.getElem?_cons_zero,id_eq,out,fW,if_true]
 |inr x =>
  simp only[kD,cq]
  have hd:(j6 (jV 1) (jV 0) (jC (.int 0))) [some (.al,.str x),some (.al,.dk ks)]=some (.al,.int (wk ks x))∨(j6 (jV 1) (jV 0) (jC (.int 0))) [some (.al,.str x),some (.al,.dk ks)]=some (.fr,.int (wk ks x)):=by
   simp only[j6,jV,jC,List.getElem?_cons_zero,List.getElem?_cons_succ,Option.bind_some,id_eq,kC,keyOf]
   rcases h.val x with⟨e,z⟩|⟨e,_⟩
   ·rw[e,z];right;simp[fW]
   ·rw[e];left;rfl
  have ht:(jB (aF eR (ag (jV 0) (ag (jC (.ty "str")) ah)))) [some (.al,.str x),some (.al,.dk ks)]=some true:=by
   walk_at "ev"
   simp -implicitDefEqProofs only [C2,Option.bind_some,bK]
  simp -implicitDefEqProofs only [List.map_cons,List.map_nil,List.length_cons,List.length_nil,Nat.reduceAdd,Nat.sub_self,List.replicate,List.append_nil,av,aN,ht,Option.bind_some,if_true,aP]
  rcases hd with hd|hd<;>rw[hd]<;>simp -implicitDefEqProofs only [Option.bind_some,out,fW,if_true]
noncomputable def a8(r:Row)(ks:List (Key×D))(sd:List Int):List (Key×D)×List Int:=match r with
 |.rk x s a b=>(putD ks (.inr x) (.int (lu s (cq ks a) (cq ks b))),sd)
 |.cp x a=>(putD ks (.inr x) (.int (cq ks a)),sd)
 |.sy a=>(ks,sd++[cq ks a])
 |_=>(ks,sd)
theorem vR{r:Row}(hr:RV r){ks:List (Key×D)}(h:WK ks)(sd:List Int):WK (a8 r ks sd).1∧(a8 r ks sd).1.length≤ks.length+1∧(a8 r ks sd).2.length≤sd.length+1:=by
 cases r with
 |rk x s a b=>exact⟨h.put (GH hr.2.1.1 (mF h hr.2.2.1) (mF h hr.2.2.2)).2,y6,Nat.le_succ _⟩
 |cp x a=>exact⟨h.put (mF h hr.2),y6,Nat.le_succ _⟩
 |sy a=>exact⟨h,Nat.le_succ _,by simp[a8]⟩
 |go t=>exact⟨h,Nat.le_succ _,Nat.le_succ _⟩
 |pt a t=>exact⟨h,Nat.le_succ _,Nat.le_succ _⟩
 |en=>exact⟨h,Nat.le_succ _,Nat.le_succ _⟩
theorem OO(a b c:D):iq [1,2] [a,b,c]=[some (.al,a),some (.bi,b),some (.bi,c)]:=rfl
theorem eE(r:Row)(w:Str)(x y:Option (M×D)):(jB (ae aQ (ae aj (jV 0) (jC (.int 0))) (jC (.str w)))) [some (.al,r.d),x,y]=some (decide (r.word=w)):=by
 have e:L2.aX r.ds 0=some (.str r.word):=r.p9
 simp -implicitDefEqProofs only [jB,ae,jV,jC,List.getElem?_cons_zero,Option.bind_some,id_eq,Row.d,kg,e,Option.map_some,cY,bK]
theorem oK{r:Row}{ks:List (Key×D)}{sd:List Int}(h:WK ks):kh [1,2] (.nx [some (.al,r.d),some (.bi,.dk ks),some (.bi,.lst (sd.map .int))])=some (.fr,.non,[.dk ks,.lst (sd.map .int)]):=by
 simp only[kh,out,envOf,J.collect,List.getElem?_cons_zero,List.getElem?_cons_succ,dY,h.bH,gX,if_true,Option.bind_some]
theorem GJ{r:Row}{ks:List (Key×D)}{sd:List Int}(hl:ks.length≤9000){fk fv:Ev→Option (M×D)}{x:Str}{i:Int}(hk:fk [some (.al,r.d),some (.bi,.dk ks),some (.bi,.lst (sd.map .int))]=some (.al,.str x))(hv:fv [some (.al,r.d),some (.bi,.dk ks),some (.bi,.lst (sd.map .int))]=some (.fr,.int i)) :
  fH 1 fk fv [some (.al,r.d),some (.bi,.dk ks),some (.bi,.lst (sd.map .int))]=some (.nx [some (.al,r.d),some (.bi,.dk (putD ks (.inr x) (.int i))),some (.bi,.lst (sd.map .int))]):=by
 have hs:ks.length<sizeLine:=dJ hl (by decide)
 simp only[fH,hk,hv,Option.bind_some,keyOf,bO,if_true,jz,own,List.getElem?_cons_zero,List.getElem?_cons_succ,hs,List.set_cons_zero,List.set_cons_succ]
theorem vo{r:Row}{x y:Option (M×D)}{j:Nat}{i:Int}{d:D}(hi:i=(j:Int))(hj:r.ds[j]?=some d):(ae aj (jV 0) (jC (.int i))) [some (.al,r.d),x,y]=some (.al,d):=by
 have hl:j<r.ds.length:=by
  rcases hX j r.ds.length with h|h
  ·exact h
  ·rw[jH h]at hj;cases hj
 subst hi
 have e:L2.aX r.ds (j:Int)=some d:=by rw[gZ hl,←hj,bP hl]
 simp -implicitDefEqProofs only [ae,jV,jC,List.getElem?_cons_zero,Option.bind_some,id_eq,Row.d,kg,e,Option.map_some,dq]
theorem uI{r:Row}{ks:List (Key×D)}(h:WK ks){y:Option (M×D)}{j:Nat}{i:Int}{k:Ko}(hi:i=(j:Int))(hj:r.ds[j]?=some (kD k)):(aJ gD (ag (ae aj (jV 0) (jC (.int i))) (ag (jV 1) ah))) [some (.al,r.d),some (.bi,.dk ks),y]=some (.fr,.int (cq ks k)):=by
 simp -implicitDefEqProofs only [aJ,ag,ah,vo hi hj,Option.bind_some,jV,List.getElem?_cons_zero,List.getElem?_cons_succ,id_eq,List.map_cons,List.map_nil,Eu h]
theorem rD{F:List D→Option (M×D)}{f1 f2 f3:Ev→Option (M×D)}{e:Ev}{a b c:M×D}(h1:f1 e=some a)(h2:f2 e=some b)(h3:f3 e=some c):aJ F (ag f1 (ag f2 (ag f3 ah))) e=F [a.2,b.2,c.2]:=by
 simp only[aJ,ag,ah,h1,h2,h3,Option.bind_some,List.map_cons,List.map_nil]
theorem Vj{r:Row}(hr:RV r){ks:List (Key×D)}(h:WK ks)(hl:ks.length≤9000)(sd:List Int)(hs:sd.length≤9000):oi [r.d,.dk ks,.lst (sd.map .int)]=some (.fr,.non,[.dk (a8 r ks sd).1,.lst ((a8 r ks sd).2.map .int)]):=by
 have w1:∀{w v:Str},w≠v→decide (w=v)=false:=fun h=>fJ h
 unfold oi jv Ek
 rw[OO,cB,cB,cB,sr,Nat.sub_self,List.replicate_zero,nB]
 have q:=vR hr h sd
 cases r with
 |rk x s a b =>
  have e1:=uI (r:=.rk x s a b) (y:=some (.bi,.lst (sd.map .int))) h (j:=3) (i:=3) (k:=a) rfl rfl
  have e2:=uI (r:=.rk x s a b) (y:=some (.bi,.lst (sd.map .int))) h (j:=4) (i:=4) (k:=b) rfl rfl
  have e3:=vo (r:=.rk x s a b) (x:=some (.bi,.dk ks)) (y:=some (.bi,.lst (sd.map .int))) (j:=2) (i:=2) (d:=.str s) rfl rfl
  have e4:=vo (r:=.rk x s a b) (x:=some (.bi,.dk ks)) (y:=some (.bi,.lst (sd.map .int))) (j:=1) (i:=1) (d:=.str x) rfl rfl
  have ev:=(GH hr.2.1.1 (mF h hr.2.2.1) (mF h hr.2.2.2)).1
  rw[ay (by rw[cy (by rw[eE];rfl)];exact GJ hl e4 ((rD e3 e1 e2).trans ev)),
   ay (aW (by rw[eE];rfl)),aW (by rw[eE];rfl)]
  simp only[aY,Option.bind_some]
  exact oK q.1
 |cp x a =>
  have e1:=uI (r:=.cp x a) (y:=some (.bi,.lst (sd.map .int))) h (j:=2) (i:=2) (k:=a) rfl rfl
  have e4:=vo (r:=.cp x a) (x:=some (.bi,.dk ks)) (y:=some (.bi,.lst (sd.map .int))) (j:=1) (i:=1) (d:=.str x) rfl rfl
  rw[ay (aW (by rw[eE];rfl)),ay (by rw[cy (by rw[eE];rfl)];exact GJ hl e4 e1),aW (by rw[eE];rfl)]
  simp only[aY,Option.bind_some]
  exact oK q.1
 |sy a =>
  have e1:=uI (r:=.sy a) (y:=some (.bi,.lst (sd.map .int))) h (j:=1) (i:=1) (k:=a) rfl rfl
  have hsz:(sd.map D.int).length<sizeLine:=by rw[a7];exact dJ hs (by decide)
  rw[ay (aW (by rw[eE];rfl)),ay (aW (by rw[eE];rfl)),cy (by rw[eE];rfl)]
  simp -implicitDefEqProofs only [bM,e1,Option.bind_some,bO,if_true,gO,own,List.getElem?_cons_zero,List.getElem?_cons_succ,hsz,List.set_cons_zero,List.set_cons_succ]
  have z:sd.map D.int++[.int (cq ks a)]=(sd++[cq ks a]).map .int:=by simp
  rw[z]
  exact oK q.1
 |go t =>
  rw[ay (aW (by rw[eE];rfl)),ay (aW (by rw[eE];rfl)),aW (by rw[eE];rfl)]
  exact oK h
 |pt a t =>
  rw[ay (aW (by rw[eE];rfl)),ay (aW (by rw[eE];rfl)),aW (by rw[eE];rfl)]
  exact oK h
 |en =>
  rw[ay (aW (by rw[eE];rfl)),ay (aW (by rw[eE];rfl)),aW (by rw[eE];rfl)]
  exact oK h
noncomputable def cj(ks:List (Key×D))(n:Int):Row→Int
 |.go t=>t
 |.pt a t=>if cq ks a=0 then n+1 else t
 |_=>n+1
theorem call2{F:List D→Option (M×D)}{f1 f2:Ev→Option (M×D)}{e:Ev}{a b:M×D}(h1:f1 e=some a)(h2:f2 e=some b):aJ F (ag f1 (ag f2 ah)) e=F [a.2,b.2]:=by
 simp only[aJ,ag,ah,h1,h2,Option.bind_some,List.map_cons,List.map_nil]
theorem HC{F:List D→Option (M×D)}{f1:Ev→Option (M×D)}{e:Ev}{a:M×D}(h1:f1 e=some a):aJ F (ag f1 ah) e=F [a.2]:=by
 simp only[aJ,ag,ah,h1,Option.bind_some,List.map_cons,List.map_nil]
theorem T4{rs:List Row}{n:Nat}{r:Row}(hn:rs[n]?=some r)(hr:r≠.en){ks:List (Key×D)}(h:WK ks):qq [.lst (rs.map Row.d),.int n,.dk ks]=some (.fr,.int (cj ks n r)):=by
 have hl:n<rs.length:=by
  rcases hX n rs.length with h|h
  ·exact h
  ·rw[jH h]at hn;cases hn
 have ha:L2.aX (rs.map Row.d) (n:Int)=some r.d:=by
  rw[gZ (by rw[a7];exact hl),lX]
  rw[bP hl]at hn
  cases hn;rfl
 have ef:=T3 rs n r hn
 unfold qq fn CQ
 have s1:aH 3 (ae aj (jV 0) (jV 1)) [some (.al,.lst (rs.map Row.d)),some (.al,.int n),some (.al,.dk ks),none,none]=some (.nx [some (.al,.lst (rs.map Row.d)),some (.al,.int n),some (.al,.dk ks),some (.al,r.d),none]):=by
  simp -implicitDefEqProofs only [aH,ae,jV,List.getElem?_cons_zero,List.getElem?_cons_succ,Option.bind_some,id_eq,g8,ha,Option.map_some,dq,uP,List.set_cons_zero,List.set_cons_succ]
 have s2:aH 4 (aJ n8 (ag (jV 0) (ag (jV 1) ah))) [some (.al,.lst (rs.map Row.d)),some (.al,.int n),some (.al,.dk ks),some (.al,r.d),none]=some (.nx [some (.al,.lst (rs.map Row.d)),some (.al,.int n),some (.al,.dk ks),some (.al,r.d),some (.bo,.lst ((a9 n r).map .int))]):=by
  have c:=call2 (F:=n8) (f1:=jV 0) (f2:=jV 1) (e:=[some (.al,.lst (rs.map Row.d)),some (.al,.int n),some (.al,.dk ks),some (.al,r.d),none]) (a:=(.al,.lst (rs.map Row.d))) (b:=(.al,.int n)) rfl rfl
  simp -implicitDefEqProofs only [aH,c,ef,Option.bind_some,mI,List.set_cons_zero,List.set_cons_succ]
 have e3:jV 3 [some (.al,.lst (rs.map Row.d)),some (.al,.int n),some (.al,.dk ks),some (.al,r.d),some (.bo,.lst ((a9 n r).map .int))]=some (.al,.tup r.ds):=rfl
 have CB:(jB (ae aQ (ae aj (jV 3) (jC (.int 0))) (jC (.str "part")))) [some (.al,.lst (rs.map Row.d)),some (.al,.int n),some (.al,.dk ks),some (.al,r.d),some (.bo,.lst ((a9 n r).map .int))]=some (decide (r.word = "part")):=by
  have e:L2.aX r.ds 0=some (.str r.word):=r.p9
  simp -implicitDefEqProofs only [jB,ae,e3,jC,Option.bind_some,kg,e,Option.map_some,cY,bK]
 have ret:∀{j:Nat}{i t:Int},i=(j:Int)→(a9 n r)[j]?=some t→aP (ae aj (jV 4) (jC (.int i))) [some (.al,.lst (rs.map Row.d)),some (.al,.int n),some (.al,.dk ks),some (.al,r.d),some (.bo,.lst ((a9 n r).map .int))]=some (.rt [some (.al,.lst (rs.map Row.d)),some (.al,.int n),some (.al,.dk ks),some (.al,r.d),some (.bo,.lst ((a9 n r).map .int))] .fr (.int t)):=fun {j i t} hi ht=>by
  subst hi
  have hj:j<((a9 n r).map D.int).length:=by
   rw[a7]
   rcases hX j (a9 n r).length with h|h
   ·exact h
   ·rw[jH h]at ht;cases ht
  have e:L2.aX ((a9 n r).map D.int) (j:Int)=some (.int t):=by
   rw[gZ hj,lX]
   rw[bP (by simpa using hj)]at ht
   cases ht;rfl
  have e4:jV 4 [some (.al,.lst (rs.map Row.d)),some (.al,.int n),some (.al,.dk ks),some (.al,r.d),some (.bo,.lst ((a9 n r).map .int))]=some (.bo,.lst ((a9 n r).map .int)):=rfl
  simp -implicitDefEqProofs only [aP,ae,e4,jC,Option.bind_some,g8,e,Option.map_some,vg]
 simp -implicitDefEqProofs only [List.map_cons,List.map_nil,List.length_cons,List.length_nil,Nat.reduceAdd,Nat.reduceSub,List.replicate,List.cons_append,List.nil_append]
 rw[ay s1,ay s2]
 have plain:r.word ≠ "part" → (a9 n r)[0]?=some (cj ks n r)→(av (aN (bR (jB (ae aQ (ae aj (jV 3) (jC (.int 0))) (jC (.str "part")))) (jB (ae b8 (aJ gD (ag (ae aj (jV 3) (jC (.int 1))) (ag (jV 2) ah))) (jC (.int 0)))))
   (aP (ae aj (jV 4) (jC (.int 1)))) aY) (aP (ae aj (jV 4) (jC (.int 0)))) [some (.al,.lst (rs.map Row.d)),some (.al,.int n),some (.al,.dk ks),some (.al,r.d),some (.bo,.lst ((a9 n r).map .int))]).bind out=some (.fr,.int (cj ks n r)):=fun hw h0=>by
  rw[ay (e':=[some (.al,.lst (rs.map Row.d)),some (.al,.int n),some (.al,.dk ks),some (.al,r.d),some (.bo,.lst ((a9 n r).map .int))]) (by rw[aW (by simp only[bR,CB,Option.bind_some,decide_eq_false hw,Bool.false_eq_true,if_false])];rfl),ret (j:=0) (i:=0) rfl h0]
  rfl
 cases r with
 |rk x s a b=>exact plain (by show("reckon" : Str) ≠ "part"; decide +kernel) rfl
 |cp x a=>exact plain (by show("copy" : Str) ≠ "part"; decide +kernel) rfl
 |sy a=>exact plain (by show("say" : Str) ≠ "part"; decide +kernel) rfl
 |go t=>exact plain (by show("go" : Str) ≠ "part"; decide +kernel) rfl
 |en=>exact absurd rfl hr
 |pt a t =>
  have ew:(jB (ae b8 (aJ gD (ag (ae aj (jV 3) (jC (.int 1))) (ag (jV 2) ah))) (jC (.int 0)))) [some (.al,.lst (rs.map Row.d)),some (.al,.int n),some (.al,.dk ks),some (.al,(Row.pt a t).d),some (.bo,.lst ((a9 n (.pt a t)).map .int))]=some (!decide (cq ks a=0)):=by
   have c:=call2 (F:=gD) (f1:=ae aj (jV 3) (jC (.int 1))) (f2:=jV 2) (e:=[some (.al,.lst (rs.map Row.d)),some (.al,.int n),some (.al,.dk ks),some (.al,(Row.pt a t).d),some (.bo,.lst ((a9 n (.pt a t)).map .int))]) (a:=(.al,kD a)) (b:=(.al,.dk ks)) rfl rfl
   have c2:aJ gD (ag (ae aj (jV 3) (jC (.int 1))) (ag (jV 2) ah)) [some (.al,.lst (rs.map Row.d)),some (.al,.int n),some (.al,.dk ks),some (.al,(Row.pt a t).d),some (.bo,.lst ((a9 n (.pt a t)).map .int))]=some (.fr,.int (cq ks a)):=c.trans (Eu h a)
   show((ae b8 _ _ _).bind fQ)=_
   simp -implicitDefEqProofs only [ae,c2,jC,Option.bind_some,lI,bK]
  by_cases hz:cq ks a=0
  ·have hb:cj ks n (.pt a t)=n+1:=by simp only[cj,hz,if_true]
   rw[hb]
   rw[ay (e':=[some (.al,.lst (rs.map Row.d)),some (.al,.int n),some (.al,.dk ks),some (.al,(Row.pt a t).d),some (.bo,.lst ((a9 n (.pt a t)).map .int))]) (by rw[aW (by simp only[bR,CB,ew,Option.bind_some,hz];rfl)];rfl),ret (j:=0) (i:=0) (t:=n+1) rfl rfl]
   rfl
  ·have hb:cj ks n (.pt a t)=t:=by simp only[cj,hz,if_false]
   rw[hb]
   rw[g6 (by rw[cy (by simp only[bR,CB,ew,Option.bind_some,hz];rfl)];exact ret (j:=1) (i:=1) (t:=t) rfl rfl)]
   rfl
noncomputable def nz:D→Bool
 |.int i=>!decide (i=0)
 |_=>false
noncomputable def bA(ks:List (Key×D)):List (Key×D):=ks.filter fun p=>nz p.2
theorem yv(k:Key):keyOf (ck k)=some k:=by cases k<;>rfl
theorem Fu{ks:List (Key×D)}{k:Key}{d:D}(h:k∉ks.map (·.1)):putD ks k d=ks++[(k,d)]:=by
 unfold putD
 rw[if_neg]
 intro w
 obtain⟨p,hp,e⟩:=List.any_eq_true.mp w
 exact h (de.mpr ⟨p,hp,by simpa using e⟩)
theorem yH(ks:List (Key×D)):∀(l acc:List (Key×D)) (o2 o3:Option (M×D)),((acc++l).map (·.1)).Nodup→(∀p∈l,∃i:Int,p.2=.int i)→(acc++l).length≤9000 →
    ∃B8 Yq,forL (gT 2 (b7 (gN 2) (b7 (gN 3) fG))) n5 .al (jj l) [some (.al,.dk ks),some (.bo,.dk acc),o2,o3]=some (.nx [some (.al,.dk ks),some (.bo,.dk (acc++bA l)),B8,Yq])
  |[],acc,o2,o3,_,_,_=>⟨o2,o3,by simp[jj,forL,bA]⟩
  | (k,d)::l,acc,o2,o3,hn,hv,hl=>by
    obtain⟨i,ei⟩:=hv (k,d) cM
    obtain rfl:d=.int i:=ei
    have cH:∀p∈l,∃i:Int,p.2=.int i:=fun p hp=>hv p (cT _ hp)
    have hs:acc.length<sizeLine:=dJ (by rw[cg]at hl;omega:acc.length≤9000) (by decide)
    have hk:k∉acc.map (·.1):=by
      rw[dh,w9]at hn
      intro w
      exact hn.2.2 k w k (by simp) rfl
    have g:(gT 2 (b7 (gN 2) (b7 (gN 3) fG))) (.al,.tup [ck k,.int i]) [some (.al,.dk ks),some (.bo,.dk acc),o2,o3]=some [some (.al,.dk ks),some (.bo,.dk acc),some (.al,ck k),some (.al,.int i)]:=by
      simp only[gT,b7,fG,gN,List.length_cons,List.length_nil,Nat.reduceAdd,if_true,dq,Option.bind_some,List.set_cons_zero,List.set_cons_succ]
    have t:(jB (ae b8 (jV 3) (jC (.int 0)))) [some (.al,.dk ks),some (.bo,.dk acc),some (.al,ck k),some (.al,.int i)]=some (!decide (i=0)):=by
      simp -implicitDefEqProofs only [jB,ae,jV,jC,List.getElem?_cons_zero,List.getElem?_cons_succ,Option.bind_some,id_eq,lI,bK]
    have hm:jj ((k,.int i)::l)=.tup [ck k,.int i]::jj l:=rfl
    rw[hm,forL,g,aC]
    by_cases hz:i=0
    · have b:n5 [some (.al,.dk ks),some (.bo,.dk acc),some (.al,ck k),some (.al,.int i)]=some (.nx [some (.al,.dk ks),some (.bo,.dk acc),some (.al,ck k),some (.al,.int i)]):=by
        unfold n5
        rw[aW (by rw[t,hz];rfl)];rfl
      rw[b,aC]
      have e:bA ((k,.int i)::l)=bA l:=by simp[bA,nz,hz]
      rw[e]
      refine yH ks l acc _ _ ?_ cH ?_
      · rw[dh,bE]at hn
        rw[dh]
        exact hn.sublist (List.Sublist.append_left (List.sublist_cons_self _ _) _)
      · rw[cg,cB]at hl;rw[cg];omega
    · have b:n5 [some (.al,.dk ks),some (.bo,.dk acc),some (.al,ck k),some (.al,.int i)]=some (.nx [some (.al,.dk ks),some (.bo,.dk (acc++[(k,.int i)])),some (.al,ck k),some (.al,.int i)]):=by
        unfold n5
        rw[cy (by rw[t,fJ hz];rfl)]
        simp only[fH,jV,List.getElem?_cons_zero,List.getElem?_cons_succ,Option.bind_some,id_eq,yv,bO,fW,if_true,jz,own,hs,List.set_cons_zero,List.set_cons_succ,Fu hk]
      rw[b,aC]
      have e:acc++bA ((k,.int i)::l)=(acc++[(k,.int i)])++bA l:=by simp[bA,nz,hz]
      rw[e]
      exact yH ks l (acc++[(k,.int i)]) _ _ (by simpa using hn) cH (by simpa using hl)
theorem T5{ks:List (Key×D)}(h:WK ks)(hl:ks.length≤9000):mC [.dk ks]=some (.un,.dk (bA ks)):=by
 obtain⟨o2,o3,e⟩:=yH ks ks [] none none (by simpa using h.nd) (fun p hp=>let ⟨i,ei,_⟩:=h.iv p hp;⟨i,ei⟩) (by simpa using hl)
 unfold mC fn CH
 simp -implicitDefEqProofs only [List.map_cons,List.map_nil,List.length_cons,List.length_nil,Nat.reduceAdd,Nat.reduceSub,List.replicate,List.cons_append,List.nil_append]
 rw[ay (e':=[some (.al,.dk ks),some (.bo,.dk []),none,none]) rfl,ay (e':=[some (.al,.dk ks),some (.bo,.dk ([]++bA ks)),o2,o3]) (by
  show forL _ _ .al (jj ks) _=_
  exact e)]
 simp -implicitDefEqProofs only [aP,jV,List.getElem?_cons_zero,List.getElem?_cons_succ,Option.bind_some,id_eq,out,List.nil_append]
theorem uX{ks:List (Key×D)}:(bA ks).Sublist ks:=List.filter_sublist
theorem zx{ks:List (Key×D)}(h:WK ks):WK (bA ks):=⟨h.nd.sublist (uX.map _),fun p hp=>h.iv p (uX.subset hp)⟩
theorem yB{ks:List (Key×D)}(h:(ks.map (·.1)).Nodup){p:Key×D}(hp:p∈ks):bY ks p.1=some p.2:=by
 obtain⟨i,hi⟩:=List.getElem?_of_mem hp
 exact yr (i:=i) h hi
theorem Nc{ks ls:List (Key×D)}(h:WK ks)(h':WK ls)(e:∀k,bY ks k=bY ls k):lh (.dk ks) (.dk ls)=some true:=by
 have sh:∀{ks:List (Key×D)},WK ks→gw (ks.map (·.2))=true:=fun {ks} h=>by
  have:∀ks:List (Key×D),(∀p∈ks,∃i:Int,p.2=.int i∧0≤i∧i<W)→cF (ks.map (·.2))=true∧∀d∈ks.map (·.2),(toPy d).depth≤40:=by
   intro ks
   induction ks with
   |nil=>intro _;exact⟨by simp[cF],fun d m=>by cases m⟩
   |cons p ks ih =>
    intro h
    obtain⟨i,ei,_⟩:=h p cM
    obtain⟨i1,i2⟩:=ih fun q hq=>h q (cT _ hq)
    refine⟨by simp[cF,ei,J.plain,i1],fun d m=>?_⟩
    rcases fK.mp (by simpa using m:d∈p.2::ks.map (·.2))with rfl|m
    ·rw[ei];simp[toPy,PyData.depth]
    ·exact i2 d m
  obtain⟨a,b⟩:=this ks h.iv
  simp only[gw,a,Bool.true_and,List.all_eq_true,decide_eq_true_eq]
  exact b
 have keys:∀{ks ls:List (Key×D)},(∀k,bY ks k=bY ls k)→WK ks→∀k,k∈ks.map (·.1)→k∈ls.map (·.1):=fun {ks ls} e h k hk=>by
  obtain⟨p,hp,rfl⟩:=de.mp hk
  have q:=yB h.nd hp
  rw[e]at q
  obtain⟨r,hr,e1,_⟩:=Et q
  exact de.mpr ⟨r,hr,e1⟩
 have perm:(ks.map (·.1)).Perm (ls.map (·.1)):=(List.perm_ext_iff_of_nodup h.nd h'.nd).mpr fun k=>⟨keys e h k,keys (fun k=>(e k).symm) h' k⟩
 have len:ks.length=ls.length:=by simpa using perm.length_eq
 have hit:hitsD ls ks=true:=yt fun kd m=>by
  have q:=yB h.nd m
  rw[e]at q
  obtain⟨i,ei,_⟩:=h.iv kd m
  exact⟨kd.2,q,by rw[ei];simp[toPy,PyData.eqv]⟩
 simp only[lh,sh h,sh h',Bool.and_self,if_true,len,hit,beq_self_eq_true]
noncomputable def cz:Row→Bool
 |.en=>true
 |_=>false
structure RS where
 b:Bool
 ks:List (Key×D)
 sd:List Int
 wy:List Int
noncomputable def bD(rs:List Row):Nat→List (Key×D)→List Int→List Int→Nat→RS
 |0,ks,sd,wy,_=>⟨false,ks,sd,wy⟩
 |f+1,ks,sd,wy,n=>match rs[n]? with
  |none=>⟨false,ks,sd,wy⟩
  |some r=>if cz r=true then ⟨true,ks,sd,wy++[(n:Int)]⟩ else bD rs f (a8 r ks sd).1 (a8 r ks sd).2 (wy++[(n:Int)]) (cj (a8 r ks sd).1 n r).toNat
noncomputable def bL(q:RS):D:=.tup [.str (if q.b=true then "end" else "spent"),.lst (q.sd.map .int),.dk (bA q.ks),.lst (q.wy.map .int)]
noncomputable def bN(R N:D)(most:Int)(ks:List (Key×D))(sd wy:List Int)(n:Int):Ev:=[some (.al,R),some (.al,N),some (.al,.int most),some (.bo,.dk ks),some (.bo,.lst (sd.map .int)),some (.bo,.lst (wy.map .int)),some (.fr,.int n)]
theorem Fv(w:Str){R N:D}{most:Int}{ks:List (Key×D)}{sd wy:List Int}{n:Int}(h:WK ks)(hl:ks.length≤9000):oV (ag (jC (.str w)) (ag (jV 4) (ag (aJ mC (ag (jV 3) ah)) (ag (jV 5) ah)))) (bN R N most ks sd wy n) =
  some (.rt ((bN R N most ks sd wy n).map fun _=>none) .ut (.tup [.str w,.lst (sd.map .int),.dk (bA ks),.lst (wy.map .int)])):=by
 have c:aJ mC (ag (jV 3) ah) (bN R N most ks sd wy n)=some (.un,.dk (bA ks)):=(HC (a:=(.bo,.dk ks)) rfl).trans (T5 h hl)
 have e4:jV 4 (bN R N most ks sd wy n)=some (.bo,.lst (sd.map .int)):=rfl
 have e5:jV 5 (bN R N most ks sd wy n)=some (.bo,.lst (wy.map .int)):=rfl
 simp only[oV,ag,ah,jC,c,e4,e5,Option.bind_some]
 rw[if_pos ⟨by show 4≤sizeLine;decide,by simp[tW,D.bG,dY,gX,(zx h).bH]⟩]
 rfl
theorem y7{ks:List (Key×D)}{n:Int}{r:Row}(h:cz r=false):cj ks n r∈a9 n r:=by
 cases r with
 |pt a t=>simp only[cj,a9];split<;>simp
 |en=>cases h
 |_=>simp[cj,a9]
theorem run_io{R r:D}{ks La:List (Key×D)}{sd Lb:List Int}{N:D}{most n:Int}{wy:List Int}(hr:r.bG=true)(hi:D.bH (ks.map (·.2))=true)(e:oi [r,.dk ks,.lst (sd.map .int)]=some (.fr,.non,[.dk La,.lst (Lb.map .int)])){f:Ev→Option (M×D)}(hf:f (bN R N most ks sd wy n)=some (.al,r)) :
  i9 [1,2] [3,4] [(1,3),(2,4)] oi (ag f (ag (jV 3) (ag (jV 4) ah))) (bN R N most ks sd wy n)=some (.nx (bN R N most La Lb wy n)):=by
 have hB:k9 [1,2] [3,4] [(1,3),(2,4)] [(.al,r),(.bo,.dk ks),(.bo,.lst (sd.map .int))]=true:=by
  simp[k9,List.range_succ,own,dY,gi,hr,hi,gX]
 have e3:jV 3 (bN R N most ks sd wy n)=some (.bo,.dk ks):=rfl
 have e4:jV 4 (bN R N most ks sd wy n)=some (.bo,.lst (sd.map .int)):=rfl
 simp -implicitDefEqProofs only [i9,oq,ag,ah,e3,e4,hf,Option.bind_some,hB,if_true,List.map_cons,List.map_nil,e,iA]
 rfl
theorem Ew{r:Row}(h:r≠.en):decide (r.word = "end")=false:=by
 cases r with
 |en=>exact absurd rfl h
 |rk=>exact(by decide +kernel:decide (("reckon" : Str) = "end")=false)
 |cp=>exact(by decide +kernel:decide (("copy" : Str) = "end")=false)
 |sy=>exact(by decide +kernel:decide (("say" : Str) = "end")=false)
 |go=>exact(by decide +kernel:decide (("go" : Str) = "end")=false)
 |pt=>exact(by decide +kernel:decide (("part" : Str) = "end")=false)
theorem OQ{rs:List Row}(g:Good rs)(rv:∀r∈rs,RV r)(N:D)(most:Int):∀(f:Nat) (ks:List (Key×D)) (sd wy:List Int) (n:Nat),WK ks→ks.length+f≤9000→sd.length+f≤9000→(wy.length:Int)+f=most→most≤9000→n<rs.length →
  ((bD rs f ks sd wy n).b=true→∃e',dP j4 j0 (f+1) (bN (.lst (rs.map Row.d)) N most ks sd wy n)=some (.rt e' .ut (bL (bD rs f ks sd wy n)))) ∧
  ((bD rs f ks sd wy n).b=false→∃n',dP j4 j0 (f+1) (bN (.lst (rs.map Row.d)) N most ks sd wy n)=some (.nx (bN (.lst (rs.map Row.d)) N most (bD rs f ks sd wy n).ks (bD rs f ks sd wy n).sd (bD rs f ks sd wy n).wy n')))∧WK (bD rs f ks sd wy n).ks∧(bD rs f ks sd wy n).ks.length≤9000:=by
 intro f
 induction f with
 |zero =>
  intro ks sd wy n h hk hs hw hm hn
  have c:j4 (bN (.lst (rs.map Row.d)) N most ks sd wy n)=some false:=by
   unfold j4 bN
   walk_at "ev"
   rw[fJ (by omega)]
  refine⟨fun z=>by simp[bD]at z,fun _=>⟨n,?_⟩,h,hk⟩
  rw[dP,c];rfl
 |succ f ih =>
  intro ks sd wy n h hk hs hw hm hn
  have c:j4 (bN (.lst (rs.map Row.d)) N most ks sd wy n)=some true:=by
   unfold j4 bN
   walk_at "ev"
   rw[fL (by omega)]
  have hr:rs[n]?=some rs[n]:=bP hn
  have rZ:rs[n]∈rs:=pO hn
  generalize rs[n]=r at hr rZ
  have s1:bM 5 (jV 6) (bN (.lst (rs.map Row.d)) N most ks sd wy n)=some (.nx (bN (.lst (rs.map Row.d)) N most ks sd (wy++[(n:Int)]) n)):=by
   have hz:(wy.map D.int).length<sizeLine:=by rw[a7];exact dJ (by omega:wy.length≤9000) (by decide)
   have z:(wy++[(n:Int)]).map D.int=wy.map .int++[.int n]:=by simp
   unfold bN
   rw[z]
   simp -implicitDefEqProofs only [bM,jV,List.getElem?_cons_zero,List.getElem?_cons_succ,Option.bind_some,id_eq,bO,if_true,gO,own,hz,List.set_cons_zero,List.set_cons_succ]
  have ha:L2.aX (rs.map Row.d) (n:Int)=some r.d:=by
   rw[gZ (by rw[a7];exact hn),lX]
   rw[bP hn]at hr
   cases hr;rfl
  have gU:(ae aj (jV 0) (jV 6)) (bN (.lst (rs.map Row.d)) N most ks sd (wy++[(n:Int)]) n)=some (.al,r.d):=by
   unfold bN
   simp -implicitDefEqProofs only [ae,jV,List.getElem?_cons_zero,List.getElem?_cons_succ,Option.bind_some,id_eq,g8,ha,Option.map_some,dq]
  have t:(jB (ae aQ (ae aj (ae aj (jV 0) (jV 6)) (jC (.int 0))) (jC (.str "end")))) (bN (.lst (rs.map Row.d)) N most ks sd (wy++[(n:Int)]) n)=some (decide (r.word = "end")):=by
   have e:L2.aX r.ds 0=some (.str r.word):=r.p9
   have Wm:(ae aj (jV 0) (jV 6)) (bN (.lst (rs.map Row.d)) N most ks sd (wy++[(n:Int)]) n)=some (.al,.tup r.ds):=gU
   show(((((ae aj (jV 0) (jV 6)) (bN (.lst (rs.map Row.d)) N most ks sd (wy++[(n:Int)]) n)).bind fun x=>((jC (.int 0)) (bN (.lst (rs.map Row.d)) N most ks sd (wy++[(n:Int)]) n)).bind fun y=>aj x y).bind fun x=>((jC (.str "end")) (bN (.lst (rs.map Row.d)) N most ks sd (wy++[(n:Int)]) n)).bind fun y=>aQ x y)).bind fQ=_
   simp -implicitDefEqProofs only [Wm,jC,Option.bind_some,kg,e,Option.map_some,cY,bK]
  by_cases he:cz r=true
  ·have:r=.en:=by cases r<;>first|rfl|cases he
   subst this
   have b:j0 (bN (.lst (rs.map Row.d)) N most ks sd wy n)=some (.rt ((bN (.lst (rs.map Row.d)) N most ks sd (wy++[(n:Int)]) n).map fun _=>none) .ut (.tup [.str "end",.lst (sd.map .int),.dk (bA ks),.lst ((wy++[(n:Int)]).map .int)])):=by
    unfold j0
    rw[ay s1,g6 (by rw[cy (by rw[t];rfl)];exact Fv "end" h (by omega))]
   have e:bD rs (f+1) ks sd wy n=⟨true,ks,sd,wy++[(n:Int)]⟩:=by simp only[bD,hr,cz,if_true]
   rw[e]
   refine⟨fun _=>⟨(bN (.lst (rs.map Row.d)) N most ks sd (wy++[(n:Int)]) n).map fun _=>none,?_⟩,(fun z=>by cases z),h,(by show ks.length≤9000;omega)⟩
   rw[dP,c,aC,if_pos rfl,b]
   rfl
  ·have ik:cz r=false:=by simpa using he
   have gk:r≠.en:=by rintro rfl;exact he rfl
   have ql:=rv r rZ
   obtain⟨q1,q2,q3⟩:=vR ql h sd
   have hB:=y7 (ks:=(a8 r ks sd).1) (n:=(n:Int)) ik
   obtain⟨b0,b1⟩:=g.a9 hr hB
   have eb:(((cj (a8 r ks sd).1 n r).toNat:Nat):Int)=cj (a8 r ks sd).1 n r:=by omega
   have hw:=Ew gk
   have b:j0 (bN (.lst (rs.map Row.d)) N most ks sd wy n)=some (.nx (bN (.lst (rs.map Row.d)) N most (a8 r ks sd).1 (a8 r ks sd).2 (wy++[(n:Int)]) ((cj (a8 r ks sd).1 n r).toNat:Nat))):=by
    unfold j0
    rw[ay s1,ay (e':=bN (.lst (rs.map Row.d)) N most ks sd (wy++[(n:Int)]) n) (by rw[aW (by rw[t,hw])];rfl),ay (run_io (r:=r.d) r.bG h.bH (Vj ql h (by omega) sd (by omega)) gU)]
    have c3:=(rD (F:=qq) (f1:=jV 0) (f2:=jV 6) (f3:=jV 3) (e:=bN (.lst (rs.map Row.d)) N most (a8 r ks sd).1 (a8 r ks sd).2 (wy++[(n:Int)]) n) (a:=(.al,.lst (rs.map Row.d))) (b:=(.fr,.int n)) (c:=(.bo,.dk (a8 r ks sd).1)) rfl rfl rfl).trans (T4 hr gk q1)
    rw[eb]
    simp -implicitDefEqProofs only [aH,c3,Option.bind_some,yT]
    rfl
   have e:bD rs (f+1) ks sd wy n=bD rs f (a8 r ks sd).1 (a8 r ks sd).2 (wy++[(n:Int)]) (cj (a8 r ks sd).1 n r).toNat:=by simp only[bD,hr,ik,Bool.false_eq_true,if_false]
   rw[e]
   obtain⟨i1,i2,i3⟩:=ih (a8 r ks sd).1 (a8 r ks sd).2 (wy++[(n:Int)]) (cj (a8 r ks sd).1 n r).toNat q1 (by omega) (by omega) (by rw[cg];simp;omega) hm (by omega)
   have w:dP j4 j0 (f+1+1) (bN (.lst (rs.map Row.d)) N most ks sd wy n)=dP j4 j0 (f+1) (bN (.lst (rs.map Row.d)) N most (a8 r ks sd).1 (a8 r ks sd).2 (wy++[(n:Int)]) ((cj (a8 r ks sd).1 n r).toNat:Nat)):=by
    rw[dP,c,aC,if_pos rfl,b]
    rfl
   rw[w]
   exact⟨i1,i2,i3⟩
theorem zy{rs:List Row}(g:Good rs)(rv:∀r∈rs,RV r){ks:List (Key×D)}(h:WK ks)(hk:ks.length≤100)(most:Nat)(hm:most≤3000):lL [.lst (rs.map Row.d),.dk ks,.int most]=some (.ut,bL (bD rs most ks [] [] 0))∧WK (bD rs most ks [] [] 0).ks∧(bD rs most ks [] [] 0).ks.length≤9000:=by
 obtain⟨l1,l2,l3,l4⟩:=OQ g rv (.dk ks) most most ks [] [] 0 h (by omega) (by simp;omega) (by simp) (by omega) g.pos
 refine⟨?_,l3,l4⟩
 unfold lL fn Hv
 simp -implicitDefEqProofs only [List.map_cons,List.map_nil,List.length_cons,List.length_nil,Nat.reduceAdd,Nat.reduceSub,List.replicate,List.cons_append,List.nil_append]
 have s1:aH 3 (aF gG (ag (jV 1) ah)) [some (.al,.lst (rs.map Row.d)),some (.al,.dk ks),some (.al,.int most),none,none,none,none]=some (.nx [some (.al,.lst (rs.map Row.d)),some (.al,.dk ks),some (.al,.int most),some (.bo,.dk ks),none,none,none]):=by
  simp -implicitDefEqProofs only [aH,aF,ag,ah,jV,List.getElem?_cons_zero,List.getElem?_cons_succ,Option.bind_some,id_eq,gG,h.bH,if_true,mI,List.set_cons_zero,List.set_cons_succ]
 rw[ay s1,ay (e':=[some (.al,.lst (rs.map Row.d)),some (.al,.dk ks),some (.al,.int most),some (.bo,.dk ks),some (.bo,.lst []),none,none]) rfl,ay (e':=[some (.al,.lst (rs.map Row.d)),some (.al,.dk ks),some (.al,.int most),some (.bo,.dk ks),some (.bo,.lst []),some (.bo,.lst []),none]) rfl,
  ay (e':=bN (.lst (rs.map Row.d)) (.dk ks) most ks [] [] ((0:Nat):Int)) rfl]
 cases hb:(bD rs most ks [] [] 0).b with
 |true =>
  obtain⟨e',w⟩:=l1 hb
  rw[g6 (DJ w)]
  rfl
 |false =>
  obtain⟨n',w⟩:=l2 hb
  rw[ay (DJ w),Fv "spent" l3 l4]
  simp only[Option.bind_some,out,bL,hb,Bool.false_eq_true,if_false]
noncomputable def wF(a b:Int):List (Key×D):=[(.inr "+",.int (a+b)),(.inr "-",.int (a-b)),(.inr "*",.int (a*b)),(.inr "&",.int (Builtin.bitAnd a b)),(.inr "|",.int (Builtin.bitOr a b)),(.inr "^",.int (Builtin.bitXor a b)),(.inr "<",.int (if a<b then 1 else 0)),(.inr "=",.int (if a=b then 1 else 0))]
noncomputable def Ar(k:Nat)(a b:Int):Int:=match k with
 |0=>a+b
 |1=>a-b
 |2=>a*b
 |3=>Builtin.bitAnd a b
 |4=>Builtin.bitOr a b
 |5=>Builtin.bitXor a b
 |6=>if a<b then 1 else 0
 |_=>if a=b then 1 else 0
theorem OS(k:Nat)(hk:k<8)(a b:Int)(ha:0≤a∧a<W)(hb:0≤b∧b<W):Ar k a b%W=kE k a b:=by
 have z:=Dx k a b ha hb hk
 rcases k8 hk with rfl|rfl|rfl|rfl|rfl|rfl|rfl|rfl
 ·rfl
 ·rfl
 ·rfl
 all_goals exact Int.emod_eq_of_lt z.1 z.2
theorem T6(k:Nat)(hk:k<8)(a b:Int):bY (qR (wF a b)) (.inr (sg k))=some (.int (Ar k a b)):=by
 rcases k8 hk with rfl|rfl|rfl|rfl|rfl|rfl|rfl|rfl<;>rfl
theorem Nf{s:Str}{a b:Int}(ha:0≤a∧a<W){o:Option (M×D)}:aH 3 (rA [((jC (.str "+")),(ae aV (jV 1) (jV 2))),((jC (.str "-")),(ae fj (jV 1) (jV 2))),((jC (.str "*")),(ae c6 (jV 1) (jV 2))),((jC (.str "&")),(ae mP (jV 1) (jV 2))),((jC (.str "|")),(ae m7 (jV 1) (jV 2))),((jC (.str "^")),(ae mQ (jV 1) (jV 2))),((jC (.str "<")),(aF c7 (ag (ae dX (jV 1) (jV 2)) ah))),((jC (.str "=")),(aF c7 (ag (ae aQ (jV 1) (jV 2)) ah)))]) [some (.al,.str s),some (.al,.int a),some (.al,.int b),o] =
  some (.nx [some (.al,.str s),some (.al,.int a),some (.al,.int b),some (.bo,.dk (qR (wF a b)))]):=by
 have hW:W=18446744073709551616:=rfl
 have e1:(ae aV (jV 1) (jV 2)) [some (.al,.str s),some (.al,.int a),some (.al,.int b),o]=some (.fr,.int (a+b)):=by walk_at "ev"
 have e2:(ae fj (jV 1) (jV 2)) [some (.al,.str s),some (.al,.int a),some (.al,.int b),o]=some (.fr,.int (a-b)):=by walk_at "ev"
 have e3:(ae c6 (jV 1) (jV 2)) [some (.al,.str s),some (.al,.int a),some (.al,.int b),o]=some (.fr,.int (a*b)):=by
  walk_at "ev"; rw[vF (by omega)]
 have e4:(ae mP (jV 1) (jV 2)) [some (.al,.str s),some (.al,.int a),some (.al,.int b),o]=some (.fr,.int (Builtin.bitAnd a b)):=by walk_at "ev"
 have e5:(ae m7 (jV 1) (jV 2)) [some (.al,.str s),some (.al,.int a),some (.al,.int b),o]=some (.fr,.int (Builtin.bitOr a b)):=by walk_at "ev"
 have e6:(ae mQ (jV 1) (jV 2)) [some (.al,.str s),some (.al,.int a),some (.al,.int b),o]=some (.fr,.int (Builtin.bitXor a b)):=by walk_at "ev"
 have e7:(aF c7 (ag (ae dX (jV 1) (jV 2)) ah)) [some (.al,.str s),some (.al,.int a),some (.al,.int b),o]=some (.fr,.int (if a<b then 1 else 0)):=by
  walk_at "ev"
  by_cases h:a<b<;>simp[h]
 have e8:(aF c7 (ag (ae aQ (jV 1) (jV 2)) ah)) [some (.al,.str s),some (.al,.int a),some (.al,.int b),o]=some (.fr,.int (if a=b then 1 else 0)):=by
  walk_at "ev"
  by_cases h:a=b<;>simp[h]
 have k:∀z:Str,keyOf (.str z)=some (.inr z):=fun _=>rfl
 simp only[aH,rA,wx,jC,e1,e2,e3,e4,e5,e6,e7,e8,k,Option.bind_some,fW,if_true]
 rfl
theorem QY{s:Str}(hs:mV (.str s)=true){a b:Int}(ha:0≤a∧a<W)(hb:0≤b∧b<W):ur [.str s,.int a,.int b]=some (.fr,.int (lu s a b)):=by
 obtain⟨k,hk,rfl⟩:=HB hs
 have er:lu (sg k) a b=kE k a b:=by unfold lu;rw[Ft k hk a b ha hb]
 have hW:W=18446744073709551616:=rfl
 unfold ur fn CN
 simp -implicitDefEqProofs only [List.map_cons,List.map_nil,List.length_cons,List.length_nil,Nat.reduceAdd,Nat.reduceSub,List.replicate,List.cons_append,List.nil_append]
 rw[ay (Nf ha)]
 have g:(iB (jV 3) (jV 0)) [some (.al,.str (sg k)),some (.al,.int a),some (.al,.int b),some (.bo,.dk (qR (wF a b)))]=some (.fr,.int (Ar k a b)):=by
  have kk:keyOf (.str (sg k))=some (.inr (sg k)):=rfl
  simp only[iB,jV,List.getElem?_cons_zero,List.getElem?_cons_succ,Option.bind_some,id_eq,kC,kk,T6 k hk a b]
  rfl
 have e:(ae aZ (iB (jV 3) (jV 0)) (jC (.int 18446744073709551616))) [some (.al,.str (sg k)),some (.al,.int a),some (.al,.int b),some (.bo,.dk (qR (wF a b)))]=some (.fr,.int (kE k a b)):=by
  rw[←OS k hk a b ha hb]
  simp only[ae,g,jC,Option.bind_some]
  rw[fE (by omega)]
 rw[er]
 simp only[aP,e,Option.bind_some,out]
noncomputable def pv(ks:List (Key×D)):D→Int
 |.int i=>i
 |.str x=>wk ks x
 |_=>0
noncomputable def bB(R:D)(n:Int)(ks:List (Key×D))(sd:List Int)(r:Row)(acc:List Int)(o:Option (M×D)):Ev:=[some (.al,R),some (.al,.int n),some (.bi,.dk ks),some (.bi,.lst (sd.map .int)),some (.al,r.d),some (.bo,.lst (acc.map .int)),o]
theorem DW(R:D)(n:Int){ks:List (Key×D)}(h:WK ks)(sd:List Int)(r:Row):∀(l:List D) (acc:List Int) (o:Option (M×D)),(∀d∈l,(∃i,d=.int i)∨∃x,d=.str x)→acc.length+l.length≤100 →
  ∃o',forL (gN 6) qu .al l (bB R n ks sd r acc o)=some (.nx (bB R n ks sd r (acc++l.map (pv ks)) o'))
 |[],acc,o,_,_=>⟨o,by simp[forL]⟩
 |d::l,acc,o,hd,hl=>by
  have kR:acc.length+l.length+1≤100:=by simpa[Nat.add_assoc]using hl
  have hs:(acc.map D.int).length<sizeLine:=by rw[a7];exact dJ (by omega:acc.length≤100) (by decide)
  have z:∀i:Int,acc.map D.int++[.int i]=(acc++[i]).map .int:=fun i=>by simp
  have b:qu (bB R n ks sd r acc (some (.al,d)))=some (.nx (bB R n ks sd r (acc++[pv ks d]) (some (.al,d)))):=by
   unfold qu bB
   rcases hd d cM with⟨i,rfl⟩|⟨x,rfl⟩
   ·rw[aW (by simp -implicitDefEqProofs only [jB,aF,ag,ah,jV,jC,List.getElem?_cons_zero,List.getElem?_cons_succ,Option.bind_some,id_eq,C3,bK])]
    simp -implicitDefEqProofs only [bM,jV,List.getElem?_cons_zero,List.getElem?_cons_succ,Option.bind_some,id_eq,bO,fW,if_true,gO,own,hs,List.set_cons_zero,List.set_cons_succ,z,pv]
   ·rw[cy (by simp -implicitDefEqProofs only [jB,aF,ag,ah,jV,jC,List.getElem?_cons_zero,List.getElem?_cons_succ,Option.bind_some,id_eq,C2,bK])]
    have k:keyOf (.str x)=some (.inr x):=rfl
    have g:(j6 (jV 2) (jV 6) (jC (.int 0))) [some (.al,R),some (.al,.int n),some (.bi,.dk ks),some (.bi,.lst (sd.map .int)),some (.al,r.d),some (.bo,.lst (acc.map .int)),some (.al,.str x)]=some (.fr,.int (wk ks x)):=by
     simp only[j6,jV,jC,List.getElem?_cons_zero,List.getElem?_cons_succ,Option.bind_some,id_eq,kC,k]
     rcases h.val x with⟨e,w⟩|⟨e,_⟩
     ·rw[e,w];simp[fW]
     ·rw[e];rfl
    simp -implicitDefEqProofs only [bM,g,Option.bind_some,bO,if_true,gO,own,List.getElem?_cons_zero,List.getElem?_cons_succ,hs,List.set_cons_zero,List.set_cons_succ,z,pv]
  have g:gN 6 (.al,d) (bB R n ks sd r acc o)=some (bB R n ks sd r acc (some (.al,d))):=rfl
  obtain⟨o',ih⟩:=DW R n h sd r l (acc++[pv ks d]) (some (.al,d)) (fun x hx=>hd x (cT _ hx)) (by simp;omega)
  refine⟨o',?_⟩
  rw[forL,g,aC,b,aC]
  show forL (gN 6) qu .al l (bB R n ks sd r (acc++[pv ks d]) (some (.al,d)))=_
  rw[ih,bE,List.append_assoc]
  rfl
theorem Ng(a b c d:D):iq [2,3] [a,b,c,d]=[some (.al,a),some (.al,b),some (.bi,c),some (.bi,d)]:=rfl
section
variable {R:D}{n:Int}{ks:List (Key×D)}{sd:List Int}{r:Row}{acc:List Int}{o:Option (M×D)}
theorem fw(w:Str):(jB (ae aQ (ae aj (jV 4) (jC (.int 0))) (jC (.str w)))) (bB R n ks sd r acc o)=some (decide (r.word=w)):=by
 have e:L2.aX r.ds 0=some (.str r.word):=r.p9
 unfold bB
 simp -implicitDefEqProofs only [jB,ae,jV,jC,List.getElem?_cons_zero,List.getElem?_cons_succ,Option.bind_some,id_eq,Row.d,kg,e,Option.map_some,cY,bK]
theorem zM{j:Nat}{i:Int}{d:D}(hi:i=(j:Int))(hj:r.ds[j]?=some d):(ae aj (jV 4) (jC (.int i))) (bB R n ks sd r acc o)=some (.al,d):=by
 have hl:j<r.ds.length:=(bt.mp hj).1
 subst hi
 have e:L2.aX r.ds (j:Int)=some d:=by rw[gZ hl,←hj,bP hl]
 unfold bB
 simp -implicitDefEqProofs only [ae,jV,jC,List.getElem?_cons_zero,List.getElem?_cons_succ,Option.bind_some,id_eq,Row.d,kg,e,Option.map_some,dq]
theorem qU{j:Nat}{i v:Int}(hi:i=(j:Int))(hj:acc[j]?=some v):(ae aj (jV 5) (jC (.int i))) (bB R n ks sd r acc o)=some (.fr,.int v):=by
 have hl:j<acc.length:=(bt.mp hj).1
 subst hi
 have e:L2.aX (acc.map D.int) (j:Int)=some (.int v):=by
  rw[gZ (by rw[a7];exact hl),lX]
  rw[bP hl]at hj
  cases hj;rfl
 unfold bB
 simp -implicitDefEqProofs only [ae,jV,jC,List.getElem?_cons_zero,List.getElem?_cons_succ,Option.bind_some,id_eq,g8,e,Option.map_some,vg]
theorem HD(hl:ks.length≤9000){fk fv:Ev→Option (M×D)}{x:Str}{i:Int}(hk:fk (bB R n ks sd r acc o)=some (.al,.str x))(hv:fv (bB R n ks sd r acc o)=some (.fr,.int i)) :
  fH 2 fk fv (bB R n ks sd r acc o)=some (.nx (bB R n (putD ks (.inr x) (.int i)) sd r acc o)):=by
 have hs:ks.length<sizeLine:=dJ hl (by decide)
 unfold bB at hk hv ⊢
 simp only[fH,hk,hv,Option.bind_some,keyOf,bO,if_true,jz,own,List.getElem?_cons_zero,List.getElem?_cons_succ,hs,List.set_cons_zero,List.set_cons_succ]
theorem vS{m:Int}(h:WK ks):kh [2,3] (.rt (bB R n ks sd r acc o) .fr (.int m))=some (.fr,.int m,[.dk ks,.lst (sd.map .int)]):=by
 simp only[kh,out,envOf,bB,J.collect,List.getElem?_cons_zero,List.getElem?_cons_succ,dY,h.bH,gX,if_true,Option.bind_some]
theorem vp:aP (ae aV (jV 1) (jC (.int 1))) (bB R n ks sd r acc o)=some (.rt (bB R n ks sd r acc o) .fr (.int (n+1))):=by
 unfold bB
 simp -implicitDefEqProofs only [aP,ae,jV,jC,List.getElem?_cons_zero,List.getElem?_cons_succ,Option.bind_some,id_eq,qL]
end
theorem rE(ks:List (Key×D))(k:Ko):pv ks (kD k)=cq ks k:=by cases k<;>rfl
theorem Nh(r:Row):∀d∈r.ds.drop 1,(∃i,d=.int i)∨∃x,d=.str x:=by
 have k:∀a:Ko,(∃i,kD a=.int i)∨∃x,kD a=.str x:=fun a=>by cases a<;>first|exact .inl ⟨_,rfl⟩|exact .inr ⟨_,rfl⟩
 intro d hd
 cases r with
 |rk x s a b =>
  have hd:d=.str x∨d=.str s∨d=kD a∨d=kD b:=by simpa[Row.ds]using hd
  rcases hd with rfl|rfl|rfl|rfl
  ·exact .inr ⟨_,rfl⟩
  ·exact .inr ⟨_,rfl⟩
  ·exact k a
  ·exact k b
 |cp x a =>
  have hd:d=.str x∨d=kD a:=by simpa[Row.ds]using hd
  rcases hd with rfl|rfl
  ·exact .inr ⟨_,rfl⟩
  ·exact k a
 |sy a =>
  have hd:d=kD a:=by simpa[Row.ds]using hd
  subst hd;exact k a
 |go t =>
  have hd:d=.int t:=by simpa[Row.ds]using hd
  subst hd;exact .inl ⟨_,rfl⟩
 |pt a t =>
  have hd:d=kD a∨d=.int t:=by simpa[Row.ds]using hd
  rcases hd with rfl|rfl
  ·exact k a
  ·exact .inl ⟨_,rfl⟩
 |en=>simp[Row.ds]at hd
theorem Ni(r:Row):r.ds.length≤5:=by cases r<;>simp[Row.ds]
theorem Wn(R:D)(n:Int)(ks:List (Key×D))(sd:List Int)(r:Row)(acc:List Int)(o:Option (M×D)):xF (gj eY (jV 4) (fF (jC (.int 1))) gu) (bB R n ks sd r acc o)=some (.al,r.ds.drop 1):=by
 cases r<;>rfl
theorem QZ{rs:List Row}{n:Nat}{r:Row}(hn:rs[n]?=some r)(hr:r≠.en)(rv:RV r){ks:List (Key×D)}(h:WK ks)(hl:ks.length≤9000)(sd:List Int)(hs:sd.length≤9000) :
  qw [.lst (rs.map Row.d),.int n,.dk ks,.lst (sd.map .int)]=some (.fr,.int (cj (a8 r ks sd).1 n r),[.dk (a8 r ks sd).1,.lst ((a8 r ks sd).2.map .int)]):=by
 unfold qw jv Dw
 rw[Ng]
 simp -implicitDefEqProofs only [List.length_cons,List.length_nil,Nat.reduceAdd,Nat.reduceSub,List.replicate,List.cons_append,List.nil_append]
 have aT:n<rs.length:=(bt.mp hn).1
 have ha:L2.aX (rs.map Row.d) (n:Int)=some r.d:=by
  rw[gZ (by rw[a7];exact aT),lX]
  rw[bP aT]at hn
  cases hn;rfl
 have s1:aH 4 (ae aj (jV 0) (jV 1)) [some (.al,.lst (rs.map Row.d)),some (.al,.int n),some (.bi,.dk ks),some (.bi,.lst (sd.map .int)),none,none,none]=some (.nx [some (.al,.lst (rs.map Row.d)),some (.al,.int n),some (.bi,.dk ks),some (.bi,.lst (sd.map .int)),some (.al,r.d),none,none]):=by
  simp -implicitDefEqProofs only [aH,ae,jV,List.getElem?_cons_zero,List.getElem?_cons_succ,Option.bind_some,id_eq,g8,ha,Option.map_some,dq,uP,List.set_cons_zero,List.set_cons_succ]
 rw[ay s1,ay (e':=bB (.lst (rs.map Row.d)) n ks sd r [] none) rfl]
 obtain⟨o,lp⟩:=DW (.lst (rs.map Row.d)) n h sd r (r.ds.drop 1) [] none (Nh r) (by have:=Ni r;simp;omega)
 rw[List.nil_append]at lp
 rw[ay (e':=bB (.lst (rs.map Row.d)) n ks sd r ((r.ds.drop 1).map (pv ks)) o) (by unfold fq;rw[Wn,aC];exact lp)]
 have q:=vR rv h sd
 have YT:∀{e:Ev},(cQ eQ (jC (.int 1))) e=some (.fr,.int (-1)):=rfl
 cases r with
 |rk x s a b =>
  have e3:=qU (R:=.lst (rs.map Row.d)) (n:=n) (ks:=ks) (sd:=sd) (r:=.rk x s a b) (o:=o) (acc:=((Row.rk x s a b).ds.drop 1).map (pv ks)) (j:=2) (i:=2) (v:=cq ks a) rfl (by rw[←rE];rfl)
  have e4:=qU (R:=.lst (rs.map Row.d)) (n:=n) (ks:=ks) (sd:=sd) (r:=.rk x s a b) (o:=o) (acc:=((Row.rk x s a b).ds.drop 1).map (pv ks)) (j:=3) (i:=3) (v:=cq ks b) rfl (by rw[←rE];rfl)
  have e2:=zM (R:=.lst (rs.map Row.d)) (n:=n) (ks:=ks) (sd:=sd) (r:=.rk x s a b) (o:=o) (acc:=((Row.rk x s a b).ds.drop 1).map (pv ks)) (j:=2) (i:=2) (d:=.str s) rfl rfl
  have e1:=zM (R:=.lst (rs.map Row.d)) (n:=n) (ks:=ks) (sd:=sd) (r:=.rk x s a b) (o:=o) (acc:=((Row.rk x s a b).ds.drop 1).map (pv ks)) (j:=1) (i:=1) (d:=.str x) rfl rfl
  have ev:=QY rv.2.1.1 (mF h rv.2.2.1) (mF h rv.2.2.2)
  rw[ay (by rw[cy (by rw[fw];rfl)];exact HD hl e1 ((rD e2 e3 e4).trans ev)),vp,aC]
  exact vS q.1
 |cp x a =>
  have e3:=qU (R:=.lst (rs.map Row.d)) (n:=n) (ks:=ks) (sd:=sd) (r:=.cp x a) (o:=o) (acc:=((Row.cp x a).ds.drop 1).map (pv ks)) (j:=1) (i:=1) (v:=cq ks a) rfl (by rw[←rE];rfl)
  have e1:=zM (R:=.lst (rs.map Row.d)) (n:=n) (ks:=ks) (sd:=sd) (r:=.cp x a) (o:=o) (acc:=((Row.cp x a).ds.drop 1).map (pv ks)) (j:=1) (i:=1) (d:=.str x) rfl rfl
  rw[ay (by rw[aW (by rw[fw];rfl),cy (by rw[fw];rfl)];exact HD hl e1 e3),vp,aC]
  exact vS q.1
 |sy a =>
  have e3:=qU (R:=.lst (rs.map Row.d)) (n:=n) (ks:=ks) (sd:=sd) (r:=.sy a) (o:=o) (acc:=((Row.sy a).ds.drop 1).map (pv ks)) (j:=0) (i:=0) (v:=cq ks a) rfl (by rw[←rE];rfl)
  have hsz:(sd.map D.int).length<sizeLine:=by rw[a7];exact dJ hs (by decide)
  have z:sd.map D.int++[.int (cq ks a)]=(sd++[cq ks a]).map .int:=by simp
  have ap:bM 3 (ae aj (jV 5) (jC (.int 0))) (bB (.lst (rs.map Row.d)) n ks sd (.sy a) (((Row.sy a).ds.drop 1).map (pv ks)) o)=some (.nx (bB (.lst (rs.map Row.d)) n ks (sd++[cq ks a]) (.sy a) (((Row.sy a).ds.drop 1).map (pv ks)) o)):=by
   unfold bB at e3 ⊢
   simp -implicitDefEqProofs only [bM,e3,Option.bind_some,bO,if_true,gO,own,List.getElem?_cons_zero,List.getElem?_cons_succ,hsz,List.set_cons_zero,List.set_cons_succ,z]
  rw[ay (by rw[aW (by rw[fw];rfl),aW (by rw[fw];rfl),cy (by rw[fw];rfl)];exact ap),vp,aC]
  exact vS q.1
 |go t =>
  have c:(cE (jB (ae aQ (ae aj (jV 4) (jC (.int 0))) (jC (.str "go")))) (jB (ae b8 (ae aj (jV 5) (jC (.int 0))) (jC (.int 0))))) (bB (.lst (rs.map Row.d)) n ks sd (.go t) (((Row.go t).ds.drop 1).map (pv ks)) o)=some true:=by
   unfold cE
   rw[fw];rfl
  have rt:aP (ae aj (jV 4) (cQ eQ (jC (.int 1)))) (bB (.lst (rs.map Row.d)) n ks sd (.go t) (((Row.go t).ds.drop 1).map (pv ks)) o)=some (.rt (bB (.lst (rs.map Row.d)) n ks sd (.go t) (((Row.go t).ds.drop 1).map (pv ks)) o) .al (.int t)):=rfl
  rw[g6 (by rw[aW (by rw[fw];rfl),aW (by rw[fw];rfl),aW (by rw[fw];rfl),cy c];exact rt),aC]
  simp only[kh,out,envOf,bB,J.collect,List.getElem?_cons_zero,List.getElem?_cons_succ,dY,h.bH,gX,if_true,Option.bind_some,fW,a8,cj]
 |pt a t =>
  have e3:=qU (R:=.lst (rs.map Row.d)) (n:=n) (ks:=ks) (sd:=sd) (r:=.pt a t) (o:=o) (acc:=((Row.pt a t).ds.drop 1).map (pv ks)) (j:=0) (i:=0) (v:=cq ks a) rfl (by rw[←rE];rfl)
  have c:(cE (jB (ae aQ (ae aj (jV 4) (jC (.int 0))) (jC (.str "go")))) (jB (ae b8 (ae aj (jV 5) (jC (.int 0))) (jC (.int 0))))) (bB (.lst (rs.map Row.d)) n ks sd (.pt a t) (((Row.pt a t).ds.drop 1).map (pv ks)) o)=some (!decide (cq ks a=0)):=by
   have f:(jB (ae b8 (ae aj (jV 5) (jC (.int 0))) (jC (.int 0)))) (bB (.lst (rs.map Row.d)) n ks sd (.pt a t) (((Row.pt a t).ds.drop 1).map (pv ks)) o)=some (!decide (cq ks a=0)):=by
    show(((ae aj (jV 5) (jC (.int 0))) (bB (.lst (rs.map Row.d)) n ks sd (.pt a t) (((Row.pt a t).ds.drop 1).map (pv ks)) o)).bind fun x=>((jC (.int 0)) (bB (.lst (rs.map Row.d)) n ks sd (.pt a t) (((Row.pt a t).ds.drop 1).map (pv ks)) o)).bind fun y=>b8 x y).bind fQ=_
    simp -implicitDefEqProofs only [e3,jC,Option.bind_some,lI,bK]
   unfold cE
   rw[fw,aC,show decide ((Row.pt a t).word=("go" : Str))=false from rfl]
   exact f
  have rt:aP (ae aj (jV 4) (cQ eQ (jC (.int 1)))) (bB (.lst (rs.map Row.d)) n ks sd (.pt a t) (((Row.pt a t).ds.drop 1).map (pv ks)) o)=some (.rt (bB (.lst (rs.map Row.d)) n ks sd (.pt a t) (((Row.pt a t).ds.drop 1).map (pv ks)) o) .al (.int t)):=rfl
  by_cases hz:cq ks a=0
  ·rw[ay (e':=bB (.lst (rs.map Row.d)) n ks sd (.pt a t) (((Row.pt a t).ds.drop 1).map (pv ks)) o) (by rw[aW (by rw[fw];rfl),aW (by rw[fw];rfl),aW (by rw[fw];rfl),aW (by rw[c,hz];rfl)];rfl),vp,aC]
   have:cj (a8 (.pt a t) ks sd).1 (n:Int) (.pt a t)=(n:Int)+1:=by simp only[a8,cj,hz,if_true]
   rw[this]
   exact vS h
  ·rw[g6 (by rw[aW (by rw[fw];rfl),aW (by rw[fw];rfl),aW (by rw[fw];rfl),cy (by rw[c,fJ hz];rfl)];exact rt),aC]
   simp only[kh,out,envOf,bB,J.collect,List.getElem?_cons_zero,List.getElem?_cons_succ,dY,h.bH,gX,if_true,Option.bind_some,fW,a8,cj,hz,if_false]
 |en=>exact absurd rfl hr
noncomputable def rowOf(rs:List Row)(w:Int):Row:=rs.getD w.toNat .en
theorem uY{rs:List Row}{n:Nat}{r:Row}(h:rs[n]?=some r):rowOf rs (n:Int)=r:=by
 unfold rowOf
 rw[Int.toNat_natCast,pN,h];rfl
def ly(rs:List Row)(w:Int):Prop:=0≤w∧w<rs.length∧cz (rowOf rs w)=false
theorem Fw{rs:List Row}{f:Nat}{ks:List (Key×D)}{sd wy:List Int}{n:Nat}{r:Row}(h:rs[n]?=some r)(he:cz r=true):bD rs (f+1) ks sd wy n=⟨true,ks,sd,wy++[(n:Int)]⟩:=by simp only[bD,h,he,if_true]
theorem Fx{rs:List Row}{f:Nat}{ks:List (Key×D)}{sd wy:List Int}{n:Nat}{r:Row}(h:rs[n]?=some r)(he:cz r=false):bD rs (f+1) ks sd wy n=bD rs f (a8 r ks sd).1 (a8 r ks sd).2 (wy++[(n:Int)]) (cj (a8 r ks sd).1 n r).toNat:=by simp only[bD,h,he,Bool.false_eq_true,if_false]
theorem uZ{rs:List Row}(g:Good rs):∀(f:Nat) (ks:List (Key×D)) (sd wy:List Int) (n:Nat),n<rs.length→(∀w∈wy,ly rs w) →
  ((bD rs f ks sd wy n).b=true→∃(l:List Int) (m:Nat),(bD rs f ks sd wy n).wy=l++[(m:Int)]∧m<rs.length∧cz (rowOf rs m)=true)∧((bD rs f ks sd wy n).b=false→(bD rs f ks sd wy n).wy.length=wy.length+f∧∀w∈(bD rs f ks sd wy n).wy,ly rs w)∧(bD rs f ks sd wy n).wy.length≤wy.length+f∧wy <+: (bD rs f ks sd wy n).wy∧(bD rs f ks sd wy n).sd.length≤sd.length+f
 |0,ks,sd,wy,n,hn,hw=>⟨fun z=>by simp[bD]at z,fun _=>⟨rfl,hw⟩,aR _,List.prefix_refl _,aR _⟩
 |f+1,ks,sd,wy,n,hn,hw=>by
  have hr:rs[n]?=some rs[n]:=bP hn
  generalize rs[n]=r at hr
  by_cases he:cz r=true
  ·rw[Fw hr he]
   refine⟨fun _=>⟨wy,n,rfl,hn,by rw[uY hr];exact he⟩,(fun z=>by cases z),(by simp),List.prefix_append _ _,(by simp)⟩
  ·have ik:cz r=false:=by simpa using he
   have hB:=y7 (ks:=(a8 r ks sd).1) (n:=(n:Int)) ik
   obtain⟨b0,b1⟩:=g.a9 hr hB
   rw[Fx hr ik]
   have yo:∀w∈wy++[(n:Int)],ly rs w:=fun w m=>by
    rcases fX.mp m with m|m
    ·exact hw w m
    ·have:w=(n:Int):=by simpa using m
     subst this
     exact⟨by omega,by omega,by rw[uY hr];exact ik⟩
   obtain⟨i1,i2,i3,i4,i5⟩:=uZ g f (a8 r ks sd).1 (a8 r ks sd).2 (wy++[(n:Int)]) (cj (a8 r ks sd).1 n r).toNat (by omega) yo
   have Zg:(a8 r ks sd).2.length≤sd.length+1:=by cases r<;>simp[a8]
   refine⟨i1,fun z=>⟨by rw[(i2 z).1];simp;omega,(i2 z).2⟩,bS i3 (by simp;omega),(List.prefix_append _ _).trans i4,by omega⟩
noncomputable def bp(R H:D)(Q:RS)(most:Int)(ks:List (Key×D))(sd:List Int)(n:Int)(o7 o8 o9 aU bj:Option (M×D)):Ev:=[some (.al,R),some (.al,H),some (.al,bL Q),some (.al,.int most),some (.bo,.dk ks),some (.bo,.lst (sd.map .int)),some (.fr,.int n),o7,o8,o9,aU,bj]
section
variable {rs:List Row}{H:D}{Q:RS}{most:Int}{ks:List (Key×D)}{sd:List Int}{n:Int}{o7 o8 o9 aU bj:Option (M×D)}
theorem yI:(ae aj (jV 2) (jC (.int 3))) (bp (.lst (rs.map Row.d)) H Q most ks sd n o7 o8 o9 aU bj)=some (.al,.lst (Q.wy.map .int)):=rfl
theorem zN{f:Ev→Option (M×D)}{m:M}{w:Int}(h0:0≤w)(h1:w<rs.length)(hf:f (bp (.lst (rs.map Row.d)) H Q most ks sd n o7 o8 o9 aU bj)=some (m,.int w)):(ae aj (jV 0) f) (bp (.lst (rs.map Row.d)) H Q most ks sd n o7 o8 o9 aU bj)=some (.al,(rowOf rs w).d):=by
 have e0:jV 0 (bp (.lst (rs.map Row.d)) H Q most ks sd n o7 o8 o9 aU bj)=some (.al,.lst (rs.map Row.d)):=rfl
 have a:L2.aX (rs.map Row.d) w=some (rowOf rs w).d:=by
  rw[Om h0 h1]
  unfold rowOf
  rw[pN,bP (by omega)];rfl
 simp -implicitDefEqProofs only [ae,e0,hf,Option.bind_some,g8,a,Option.map_some,dq]
theorem zA{f:Ev→Option (M×D)}{r:Row}{e:Ev}(hf:f e=some (.al,r.d)):(ae aj f (jC (.int 0))) e=some (.al,.str r.word):=by
 have a:L2.aX r.ds 0=some (.str r.word):=r.p9
 simp -implicitDefEqProofs only [ae,hf,jC,Option.bind_some,Row.d,kg,a,Option.map_some,dq]
end
theorem yJ{r:Row}(h:cz r=false):decide (r.word = "end")=false:=Ew (by rintro rfl;cases h)
theorem Fy{r:Row}(h:cz r=true):decide (r.word = "end")=true:=by
 cases r<;>first|rfl|cases h
section
variable {rs:List Row}{H:D}{Q:RS}{most:Int}{ks:List (Key×D)}{sd:List Int}{o9 aU bj:Option (M×D)}
theorem Nj{k n:Nat}(hk:∀j:Nat,k=j+1→∃w,Q.wy[j]?=some w∧ly rs w) :
  (cE (jB (ae b8 (jV 8) (jV 6))) (bR (jB (ae dN (jV 7) (jC (.int 0)))) (jB (ae aQ (ae aj (ae aj (jV 0) (ae aj (ae aj (jV 2) (jC (.int 3))) (ae fj (jV 7) (jC (.int 1))))) (jC (.int 0))) (jC (.str "end")))))) (bp (.lst (rs.map Row.d)) H Q most ks sd n (some (.al,.int k)) (some (.al,.int n)) o9 aU bj)=some false:=by
 have e1:(jB (ae b8 (jV 8) (jV 6))) (bp (.lst (rs.map Row.d)) H Q most ks sd n (some (.al,.int k)) (some (.al,.int n)) o9 aU bj)=some false:=by
  unfold bp
  simp -implicitDefEqProofs only [jB,ae,jV,List.getElem?_cons_zero,List.getElem?_cons_succ,Option.bind_some,id_eq,lI,bK,decide_true,Bool.not_true]
 have e2:(jB (ae dN (jV 7) (jC (.int 0)))) (bp (.lst (rs.map Row.d)) H Q most ks sd n (some (.al,.int k)) (some (.al,.int n)) o9 aU bj)=some (decide ((0:Int)<k)):=by
  unfold bp
  simp -implicitDefEqProofs only [jB,ae,jV,jC,List.getElem?_cons_zero,List.getElem?_cons_succ,Option.bind_some,id_eq,rg,bK]
 unfold cE
 rw[e1,aC,if_neg a6]
 unfold bR
 rw[e2,aC]
 cases k with
 |zero=>rfl
 |succ j =>
  rw[fL (by omega:(0:Int)<((j+1:Nat):Int)),if_pos rfl]
  obtain⟨w,hw,h0,h1,he⟩:=hk j rfl
  have hj:j<Q.wy.length:=(bt.mp hw).1
  have a:L2.aX (Q.wy.map D.int) (((j+1:Nat):Int)-1)=some (.int w):=by
   rw[show(((j+1:Nat):Int)-1)=(j:Int) by omega,gZ (by rw[a7];exact hj),lX]
   rw[bP hj]at hw
   cases hw;rfl
  have e3:(ae aj (ae aj (jV 2) (jC (.int 3))) (ae fj (jV 7) (jC (.int 1)))) (bp (.lst (rs.map Row.d)) H Q most ks sd n (some (.al,.int ((j+1:Nat):Int))) (some (.al,.int n)) o9 aU bj)=some (.al,.int w):=by
   have s:(ae fj (jV 7) (jC (.int 1))) (bp (.lst (rs.map Row.d)) H Q most ks sd n (some (.al,.int ((j+1:Nat):Int))) (some (.al,.int n)) o9 aU bj)=some (.fr,.int (((j+1:Nat):Int)-1)):=by
    unfold bp
    simp -implicitDefEqProofs only [ae,jV,jC,List.getElem?_cons_zero,List.getElem?_cons_succ,Option.bind_some,id_eq,vd]
   have:=yI (rs:=rs) (H:=H) (Q:=Q) (most:=most) (ks:=ks) (sd:=sd) (n:=n) (o7:=some (.al,.int ((j+1:Nat):Int))) (o8:=some (.al,.int n)) (o9:=o9) (aU:=aU) (bj:=bj)
   rw[ae,this,aC,s,aC,g8,a];rfl
  have e4:=zA (zN h0 h1 e3)
  rw[jB,ae,e4,aC]
  show((aQ (.al,.str (rowOf rs w).word) (.fr,.str "end")).bind fQ)=some false
  rw[cY,aC,yJ he];rfl
theorem Q0{n:Nat}{r:Row}{o7 o8:Option (M×D)}(hn:rs[n]?=some r)(hr:r≠.en)(rv:RV r)(h:WK ks)(hl:ks.length≤9000)(hs:sd.length≤9000) :
  qP 6 [2,3] [4,5] [(0,0),(1,6),(2,4),(3,5)] qw (ag (jV 0) (ag (jV 6) (ag (jV 4) (ag (jV 5) ah)))) (bp (.lst (rs.map Row.d)) H Q most ks sd n o7 o8 o9 aU bj) =
  some (.nx (bp (.lst (rs.map Row.d)) H Q most (a8 r ks sd).1 (a8 r ks sd).2 (cj (a8 r ks sd).1 n r) o7 o8 o9 aU bj)):=by
 have hB:k9 [2,3] [4,5] [(0,0),(1,6),(2,4),(3,5)] [(.al,.lst (rs.map Row.d)),(.fr,.int n),(.bo,.dk ks),(.bo,.lst (sd.map .int))]=true:=by
  simp[k9,List.range_succ,own,dY,gi,h.bH,gX]
 have e0:jV 0 (bp (.lst (rs.map Row.d)) H Q most ks sd n o7 o8 o9 aU bj)=some (.al,.lst (rs.map Row.d)):=rfl
 have e6:jV 6 (bp (.lst (rs.map Row.d)) H Q most ks sd n o7 o8 o9 aU bj)=some (.fr,.int n):=rfl
 have e4:jV 4 (bp (.lst (rs.map Row.d)) H Q most ks sd n o7 o8 o9 aU bj)=some (.bo,.dk ks):=rfl
 have e5:jV 5 (bp (.lst (rs.map Row.d)) H Q most ks sd n o7 o8 o9 aU bj)=some (.bo,.lst (sd.map .int)):=rfl
 simp -implicitDefEqProofs only [qP,oq,ag,ah,e0,e6,e4,e5,Option.bind_some,hB,if_true,List.map_cons,List.map_nil,QZ hn hr rv h hl sd hs,iA]
 rfl
theorem DX{k n:Nat}{r:Row}(hn:rs[n]?=some r)(rv:RV r)(h:WK ks)(hl:ks.length≤9000)(hs:sd.length≤9000)(hk:∀j:Nat,k=j+1→∃w,Q.wy[j]?=some w∧ly rs w) :
  um (bp (.lst (rs.map Row.d)) H Q most ks sd n (some (.al,.int k)) (some (.al,.int n)) o9 aU bj) =
  some (.nx (if cz r=true then bp (.lst (rs.map Row.d)) H Q most ks sd n (some (.al,.int k)) (some (.al,.int n)) o9 aU bj else bp (.lst (rs.map Row.d)) H Q most (a8 r ks sd).1 (a8 r ks sd).2 (cj (a8 r ks sd).1 n r) (some (.al,.int k)) (some (.al,.int n)) o9 aU bj)):=by
 have aT:n<rs.length:=(bt.mp hn).1
 unfold um
 rw[ay (e':=bp (.lst (rs.map Row.d)) H Q most ks sd n (some (.al,.int k)) (some (.al,.int n)) o9 aU bj) (by rw[aW (Nj hk)];rfl)]
 have e6:jV 6 (bp (.lst (rs.map Row.d)) H Q most ks sd n (some (.al,.int k)) (some (.al,.int n)) o9 aU bj)=some (.fr,.int n):=rfl
 have e4:=zA (zN (by omega) (by omega) e6)
 rw[uY hn]at e4
 have c:(jB (ae b8 (ae aj (ae aj (jV 0) (jV 6)) (jC (.int 0))) (jC (.str "end")))) (bp (.lst (rs.map Row.d)) H Q most ks sd n (some (.al,.int k)) (some (.al,.int n)) o9 aU bj)=some (!decide (r.word = "end")):=by
  rw[jB,ae,e4,aC]
  show((b8 (.al,.str r.word) (.fr,.str "end")).bind fQ)=_
  rw[vE];rfl
 by_cases he:cz r=true
 ·rw[if_pos he,aW (by rw[c,Fy he];rfl)];rfl
 ·have ik:cz r=false:=by simpa using he
  rw[if_neg he,cy (by rw[c,yJ ik];rfl)]
  exact Q0 hn (by rintro rfl;exact he rfl) rv h hl hs
end
theorem DY{wy:List Int}{i:Nat}{w:Int}(h:wy[i]?=some w):(cJ (wy.map D.int)).drop i=.tup [.int i,.int w]::(cJ (wy.map D.int)).drop (i+1):=by
 obtain⟨hl,e⟩:=bt.mp h
 rw[lV (by simp[cJ];exact hl)]
 congr 1
 simp[cJ,e]
theorem DZ{rs:List Row}(g:Good rs)(rv:∀r∈rs,RV r)(H:D)(Q:RS)(most:Int)(o9 aU bj:Option (M×D)):∀(f:Nat) (ks:List (Key×D)) (sd wy:List Int) (n:Nat) (o7 o8:Option (M×D)),WK ks→ks.length+f≤9000→sd.length+f≤9000→n<rs.length→(∀w∈wy,ly rs w)→(bD rs f ks sd wy n).wy=Q.wy →
  ∃n' CD CF,forL (gT 2 (b7 (gN 7) (b7 (gN 8) fG))) um .al ((cJ (Q.wy.map .int)).drop wy.length) (bp (.lst (rs.map Row.d)) H Q most ks sd n o7 o8 o9 aU bj)=some (.nx (bp (.lst (rs.map Row.d)) H Q most (bD rs f ks sd wy n).ks (bD rs f ks sd wy n).sd n' CD CF o9 aU bj))
 |0,ks,sd,wy,n,o7,o8,h,hk,hs,hn,hw,e=>by
  have e:wy=Q.wy:=e
  refine⟨n,o7,o8,?_⟩
  rw[←e,List.drop_eq_nil_of_le (by simp[cJ])]
  rfl
 |f+1,ks,sd,wy,n,o7,o8,h,hk,hs,hn,hw,e=>by
  have hr:rs[n]?=some rs[n]:=bP hn
  have rZ:rs[n]∈rs:=pO hn
  generalize rs[n]=r at hr rZ
  have ql:=rv r rZ
  have at_:∀{rest:List Int},Q.wy=(wy++[(n:Int)])++rest→Q.wy[wy.length]?=some (n:Int)∧∀j:Nat,wy.length=j+1→∃w,Q.wy[j]?=some w∧ly rs w:=fun {rest} ez=>by
   refine⟨by rw[ez,List.append_assoc,List.getElem?_append_right (aR _)];simp,fun j hj=>?_⟩
   have CG:j<wy.length:=by omega
   exact⟨wy[j],by rw[ez,List.append_assoc,lU CG,bP CG],hw _ (pO CG)⟩
  have gt:∀{k:Nat},(gT 2 (b7 (gN 7) (b7 (gN 8) fG))) (.al,.tup [.int k,.int n]) (bp (.lst (rs.map Row.d)) H Q most ks sd n o7 o8 o9 aU bj)=some (bp (.lst (rs.map Row.d)) H Q most ks sd n (some (.al,.int k)) (some (.al,.int n)) o9 aU bj):=fun {k}=>rfl
  by_cases he:cz r=true
  ·rw[Fw hr he]at e ⊢
   have e:wy++[(n:Int)]=Q.wy:=e
   obtain⟨a1,a2⟩:=at_ (rest:=[]) (by rw[←e];simp)
   refine⟨n,some (.al,.int wy.length),some (.al,.int n),?_⟩
   rw[DY a1,forL,gt,aC,DX hr ql h (by omega) (by omega) a2,aC,if_pos he]
   show forL _ _ _ ((cJ (Q.wy.map .int)).drop (wy.length+1)) _=_
   rw[List.drop_eq_nil_of_le (by rw[←e];simp[cJ])]
   rfl
  ·have ik:cz r=false:=by simpa using he
   obtain⟨q1,q2,q3⟩:=vR ql h sd
   have hB:=y7 (ks:=(a8 r ks sd).1) (n:=(n:Int)) ik
   obtain⟨b0,b1⟩:=g.a9 hr hB
   have eb:(((cj (a8 r ks sd).1 n r).toNat:Nat):Int)=cj (a8 r ks sd).1 n r:=by omega
   have yo:∀w∈wy++[(n:Int)],ly rs w:=fun w m=>by
    rcases fX.mp m with m|m
    ·exact hw w m
    ·have:w=(n:Int):=by simpa using m
     subst this
     exact⟨by omega,by omega,by rw[uY hr];exact ik⟩
   rw[Fx hr ik]at e ⊢
   obtain⟨_,_,_,⟨rest,pr⟩,_⟩:=uZ g f (a8 r ks sd).1 (a8 r ks sd).2 (wy++[(n:Int)]) (cj (a8 r ks sd).1 n r).toNat (by omega) yo
   rw[e]at pr
   obtain⟨a1,a2⟩:=at_ pr.symm
   obtain⟨n',CD,CF,ih⟩:=DZ g rv H Q most o9 aU bj f (a8 r ks sd).1 (a8 r ks sd).2 (wy++[(n:Int)]) (cj (a8 r ks sd).1 n r).toNat (some (.al,.int wy.length)) (some (.al,.int n)) q1 (by omega) (by omega) (by omega) yo e
   refine⟨n',CD,CF,?_⟩
   rw[DY a1,forL,gt,aC,DX hr ql h (by omega) (by omega) a2,aC,if_neg he]
   rw[cg,cB,sr,Nat.zero_add,eb]at ih
   exact ih
noncomputable def fI(a b c d:Option (M×D))(ks:List (Key×D))(e f g h i:Option (M×D))(acc:List (Key×D))(o:Option (M×D)):Ev:=[a,b,c,d,some (.fr,.dk ks),e,f,g,h,i,some (.bo,.dk acc),o]
theorem yK(a b c d:Option (M×D)){ks:List (Key×D)}(hk:WK ks)(e f g h i:Option (M×D)):∀(l acc:List (Key×D)) (o:Option (M×D)),(∀p∈l,p∈ks)→((acc++l).map (·.1)).Nodup→(acc++l).length≤9000 →
    ∃o',forL (gN 11) mD .fr (l.map fun kv=>ck kv.1) (fI a b c d ks e f g h i acc o)=some (.nx (fI a b c d ks e f g h i (acc++bA l) o'))
  |[],acc,o,_,_,_=>⟨o,by simp[forL,bA]⟩
  | (k,x)::l,acc,o,hm,hn,hl=>by
    obtain⟨j,ej,_⟩:=hk.iv _ (hm (k,x) cM)
    obtain rfl:x=.int j:=ej
    have hv:bY ks k=some (.int j):=yB hk.nd (hm (k,.int j) cM)
    have hs:acc.length<sizeLine:=dJ (by rw[cg]at hl;omega:acc.length≤9000) (by decide)
    have K7:k∉acc.map (·.1):=by
      rw[dh,w9]at hn
      intro w
      exact hn.2.2 k w k (by simp) rfl
    have gg:gN 11 (.fr,ck k) (fI a b c d ks e f g h i acc o)=some (fI a b c d ks e f g h i acc (some (.fr,ck k))):=rfl
    have get:(iB (jV 4) (jV 11)) (fI a b c d ks e f g h i acc (some (.fr,ck k)))=some (.fr,.int j):=by
      unfold fI
      simp only[iB,jV,List.getElem?_cons_zero,List.getElem?_cons_succ,Option.bind_some,id_eq,kC,yv,hv]
      rfl
    have t:(jB (ae b8 (iB (jV 4) (jV 11)) (jC (.int 0)))) (fI a b c d ks e f g h i acc (some (.fr,ck k)))=some (!decide (j=0)):=by
      rw[jB,ae,get]
      simp -implicitDefEqProofs only [jC,Option.bind_some,lI,bK]
    have nZ:∀p∈l,p∈ks:=fun p hp=>hm p (cT _ hp)
    rw[bE,forL,gg,aC]
    by_cases hz:j=0
    · have bb:mD (fI a b c d ks e f g h i acc (some (.fr,ck k)))=some (.nx (fI a b c d ks e f g h i acc (some (.fr,ck k)))):=by
        unfold mD
        rw[aW (by rw[t,hz];rfl)];rfl
      rw[bb,aC]
      have e':bA ((k,.int j)::l)=bA l:=by simp[bA,nz,hz]
      rw[e']
      refine yK a b c d hk e f g h i l acc _ nZ ?_ ?_
      · rw[dh,bE]at hn
        rw[dh]
        exact hn.sublist (List.Sublist.append_left (List.sublist_cons_self _ _) _)
      · rw[cg,cB]at hl;rw[cg];omega
    · have bb:mD (fI a b c d ks e f g h i acc (some (.fr,ck k)))=some (.nx (fI a b c d ks e f g h i (acc++[(k,.int j)]) (some (.fr,ck k)))):=by
        unfold mD
        rw[cy (by rw[t,fJ hz];rfl)]
        have Yr:jV 11 (fI a b c d ks e f g h i acc (some (.fr,ck k)))=some (.fr,ck k):=rfl
        rw[fH,get,Yr]
        unfold fI
        simp only[List.getElem?_cons_zero,List.getElem?_cons_succ,Option.bind_some,id_eq,yv,bO,fW,if_true,jz,own,hs,List.set_cons_zero,List.set_cons_succ,Fu K7]
      rw[bb,aC]
      have e':acc++bA ((k,.int j)::l)=(acc++[(k,.int j)])++bA l:=by simp[bA,nz,hz]
      rw[e']
      exact yK a b c d hk e f g h i l (acc++[(k,.int j)]) _ nZ (by simpa using hn) (by simpa using hl)
theorem C9:∀ns:List Int,PyData.depthAll (cw (ns.map .int))≤1
 |[]=>by simp[cw,PyData.depthAll]
 |n::ns=>by
  have:=C9 ns
  simp only[List.map_cons,cw,toPy,PyData.depthAll,PyData.depth]
  omega
theorem Md(ns:List Int):(toPy (.lst (ns.map .int))).depth≤40:=by
 have:=C9 ns
 simp only[toPy,PyData.depth]
 omega
theorem Ex:∀ns:List Int,PyData.eqvAll (cw (ns.map .int)) (cw (ns.map .int))=true
 |[]=>by simp[cw,PyData.eqvAll]
 |n::ns=>by
  have:=Ex ns
  simp[cw,toPy,PyData.eqvAll,PyData.eqv,this]
theorem OU{m n:M}(a:List Int):lQ (m,.lst (a.map .int)) (n,.lst (a.map .int))=some (.fr,.bl true):=by
 have hd:=Md a
 have ok:jw (.lst (a.map .int)) (.lst (a.map .int))=true:=by
  simp only[jw,J.plain,yq,mR,Bool.and_self,Bool.true_and,Nat.min_self]
  exact fL (by omega)
 have e:PyData.eqv (toPy (.lst (a.map .int))) (toPy (.lst (a.map .int)))=true:=by
  simp only[toPy,PyData.eqv];exact Ex a
 simp only[lQ,ok,if_true,e]
theorem Ey{m n:M}{ks:List (Key×D)}(h:WK ks)(neg:Bool):iL neg (m,.dk ks) (n,.dk ks)=some (.fr,.bl (if neg then false else true)):=by
 have:jS (.dk ks) (.dk ks)=some true:=Nc h h fun _=>rfl
 simp only[iL,this,Option.bind_some]
 cases neg<;>rfl
theorem Nk{l:List Int}{w:Int}:L2.aX ((l++[w]).map D.int) (-1)=some (.int w):=by
 have hl:((l++[w]).map D.int).length=l.length+1:=by simp
 unfold L2.aX
 have:dF ((l++[w]).map D.int).length (-1)=some l.length:=by
  rw[hl];unfold dF;simp;omega
 rw[this]
 simp
section
variable {rs:List Row}{H:D}{Q:RS}{most:Int}{ks:List (Key×D)}{sd:List Int}{n:Int}{o7 o8 o9 aU bj:Option (M×D)}
theorem zO:(aF bJ (ag (ae aj (jV 2) (jC (.int 3))) ah)) (bp (.lst (rs.map Row.d)) H Q most ks sd n o7 o8 o9 aU bj)=some (.fr,.int (Q.wy.length:Int)):=by
 simp -implicitDefEqProofs only [aF,ag,ah,yI,Option.bind_some,zH,List.length_map]
theorem Fz{l:List Int}{w:Int}(h:Q.wy=l++[w])(h0:0≤w)(h1:w<rs.length):(ae aQ (ae aj (ae aj (jV 0) (ae aj (ae aj (jV 2) (jC (.int 3))) (cQ eQ (jC (.int 1))))) (jC (.int 0))) (jC (.str "end"))) (bp (.lst (rs.map Row.d)) H Q most ks sd n o7 o8 o9 aU bj)=some (.fr,.bl (decide ((rowOf rs w).word = "end"))):=by
 have e3:(ae aj (ae aj (jV 2) (jC (.int 3))) (cQ eQ (jC (.int 1)))) (bp (.lst (rs.map Row.d)) H Q most ks sd n o7 o8 o9 aU bj)=some (.al,.int w):=by
  have ng:(cQ eQ (jC (.int 1))) (bp (.lst (rs.map Row.d)) H Q most ks sd n o7 o8 o9 aU bj)=some (.fr,.int (-1)):=rfl
  rw[ae,yI,aC,ng,aC,g8,h,Nk];rfl
 rw[ae,zA (zN h0 h1 e3),aC]
 show aQ (.al,.str (rowOf rs w).word) (.fr,.str "end")=_
 rw[cY]
end
section
variable {rs:List Row}{H:D}{Q:RS}{most:Int}{ks:List (Key×D)}{sd:List Int}{n:Int}{o7 o8 o9 aU bj:Option (M×D)}
theorem Q5(hq:(Q.b=true→∃(l:List Int) (m:Nat),Q.wy=l++[(m:Int)]∧m<rs.length∧cz (rowOf rs m)=true)∧(Q.b=false→∀w∈Q.wy,ly rs w)) :
  (ky (ae dN (aF bJ (ag (ae aj (jV 2) (jC (.int 3))) ah)) (jC (.int 0))) (ae aQ (ae aj (ae aj (jV 0) (ae aj (ae aj (jV 2) (jC (.int 3))) (cQ eQ (jC (.int 1))))) (jC (.int 0))) (jC (.str "end")))) (bp (.lst (rs.map Row.d)) H Q most ks sd n o7 o8 o9 aU bj)=some (.fr,.bl Q.b):=by
 have g:(ae dN (aF bJ (ag (ae aj (jV 2) (jC (.int 3))) ah)) (jC (.int 0))) (bp (.lst (rs.map Row.d)) H Q most ks sd n o7 o8 o9 aU bj)=some (.fr,.bl (decide ((0:Int)<Q.wy.length))):=by
  rw[ae,zO,aC]
  show dN (.fr,.int Q.wy.length) (.fr,.int 0)=_
  rw[rg]
 unfold ky
 rw[g,aC,bK,aC]
 cases hb:Q.b with
 |true =>
  obtain⟨l,m,e,hm,he⟩:=hq.1 hb
  rw[fL (by rw[e];simp),if_pos rfl,Fz e (by omega) (by omega),Fy he]
 |false =>
  have hn:=hq.2 hb
  rcases List.eq_nil_or_concat Q.wy with e|⟨l,w,e⟩
  ·rw[fJ (by rw[e];simp),if_neg a6]
  ·have hw:=hn w (by rw[e];simp)
   rw[fL (by rw[e];simp),if_pos rfl,Fz (by rw[e,List.concat_eq_append]) hw.1 hw.2.1,yJ hw.2.2]
theorem Q6(hq:(Q.b=false→(Q.wy.length:Int)=most)∧(Q.wy.length:Int)≤most) :
  (cE (jB (ae b8 (ae aj (jV 2) (jC (.int 0))) (ae aj (bI (ag (jC (.str "spent")) (ag (jC (.str "end")) ah))) (aF c7 (ag (jV 9) ah))))) (cE (bR (fm (jB (jV 9))) (jB (ae b8 (aF bJ (ag (ae aj (jV 2) (jC (.int 3))) ah)) (jV 3)))) (jB (ae dN (aF bJ (ag (ae aj (jV 2) (jC (.int 3))) ah)) (jV 3))))) (bp (.lst (rs.map Row.d)) H Q most ks sd n o7 o8 (some (.fr,.bl Q.b)) aU bj)=some false:=by
 have e3:jV 3 (bp (.lst (rs.map Row.d)) H Q most ks sd n o7 o8 (some (.fr,.bl Q.b)) aU bj)=some (.al,.int most):=rfl
 have e9:jV 9 (bp (.lst (rs.map Row.d)) H Q most ks sd n o7 o8 (some (.fr,.bl Q.b)) aU bj)=some (.fr,.bl Q.b):=rfl
 have c1:(jB (ae b8 (ae aj (jV 2) (jC (.int 0))) (ae aj (bI (ag (jC (.str "spent")) (ag (jC (.str "end")) ah))) (aF c7 (ag (jV 9) ah))))) (bp (.lst (rs.map Row.d)) H Q most ks sd n o7 o8 (some (.fr,.bl Q.b)) aU bj)=some false:=by
  have f0:(ae aj (jV 2) (jC (.int 0))) (bp (.lst (rs.map Row.d)) H Q most ks sd n o7 o8 (some (.fr,.bl Q.b)) aU bj)=some (.al,.str (if Q.b=true then "end" else "spent")):=rfl
  have w:(ae aj (bI (ag (jC (.str "spent")) (ag (jC (.str "end")) ah))) (aF c7 (ag (jV 9) ah))) (bp (.lst (rs.map Row.d)) H Q most ks sd n o7 o8 (some (.fr,.bl Q.b)) aU bj)=some (.fr,.str (if Q.b=true then "end" else "spent")):=by
   have ix:(aF c7 (ag (jV 9) ah)) (bp (.lst (rs.map Row.d)) H Q most ks sd n o7 o8 (some (.fr,.bl Q.b)) aU bj)=some (.fr,.int (if Q.b then 1 else 0)):=by
    simp -implicitDefEqProofs only [aF,ag,ah,e9,Option.bind_some,rj]
   have ls:(bI (ag (jC (.str "spent")) (ag (jC (.str "end")) ah))) (bp (.lst (rs.map Row.d)) H Q most ks sd n o7 o8 (some (.fr,.bl Q.b)) aU bj)=some (.un,.lst [.str "spent",.str "end"]):=rfl
   rw[ae,ls,aC,ix,aC]
   cases Q.b<;>rfl
  rw[jB,ae,f0,aC,w,aC,vE,fL rfl];rfl
 have c3:(jB (ae dN (aF bJ (ag (ae aj (jV 2) (jC (.int 3))) ah)) (jV 3))) (bp (.lst (rs.map Row.d)) H Q most ks sd n o7 o8 (some (.fr,.bl Q.b)) aU bj)=some false:=by
  rw[jB,ae,zO,aC,e3,aC,rg,fJ (by omega)];rfl
 have c2:(bR (fm (jB (jV 9))) (jB (ae b8 (aF bJ (ag (ae aj (jV 2) (jC (.int 3))) ah)) (jV 3)))) (bp (.lst (rs.map Row.d)) H Q most ks sd n o7 o8 (some (.fr,.bl Q.b)) aU bj)=some false:=by
  have nb:(fm (jB (jV 9))) (bp (.lst (rs.map Row.d)) H Q most ks sd n o7 o8 (some (.fr,.bl Q.b)) aU bj)=some (!Q.b):=by
   rw[fm,jB,e9];rfl
  rw[bR,nb,aC]
  cases hb:Q.b with
  |true=>rfl
  |false =>
   rw[hb]at e3
   show(if (!false)=true then _ else _)=_
   rw[Bool.not_false,if_pos rfl]
   have w:=zO (rs:=rs) (H:=H) (Q:=Q) (most:=most) (ks:=ks) (sd:=sd) (n:=n) (o7:=o7) (o8:=o8) (o9:=some (.fr,.bl false)) (aU:=aU) (bj:=bj)
   rw[jB,ae,w,aC,e3,aC,lI,fL (hq.1 hb)];rfl
 rw[cE,c1,aC,if_neg a6,cE,c2,aC,if_neg a6,c3]
end
theorem D0{rs:List Row}(g:Good rs)(rv:∀r∈rs,RV r){ks:List (Key×D)}(h:WK ks)(hk:ks.length≤100)(most:Nat)(hm:most≤3000):lz [.lst (rs.map Row.d),.dk ks,bL (bD rs most ks [] [] 0),.int most]=some (.fr,.bl true):=by
 obtain⟨_,wq,lq⟩:=zy g rv h hk most hm
 obtain⟨q1,q2,q3,_,_⟩:=uZ g most ks [] [] 0 g.pos (fun _ z=>nomatch z)
 obtain⟨n',o7,o8,lp⟩:=DZ g rv (.dk ks) (bD rs most ks [] [] 0) most none none none most ks [] [] 0 none none h (by omega) (by simp;omega) g.pos (fun _ z=>nomatch z) rfl
 generalize bD rs most ks [] [] 0=Q at *
 unfold lz fn CW
 simp -implicitDefEqProofs only [List.map_cons,List.map_nil,List.length_cons,List.length_nil,Nat.reduceAdd,Nat.reduceSub,List.replicate,List.cons_append,List.nil_append]
 have s1:aH 4 (aF gG (ag (jV 1) ah)) [some (.al,.lst (rs.map Row.d)),some (.al,.dk ks),some (.al,bL Q),some (.al,.int most),none,none,none,none,none,none,none,none]=some (.nx [some (.al,.lst (rs.map Row.d)),some (.al,.dk ks),some (.al,bL Q),some (.al,.int most),some (.bo,.dk ks),none,none,none,none,none,none,none]):=by
  simp -implicitDefEqProofs only [aH,aF,ag,ah,jV,List.getElem?_cons_zero,List.getElem?_cons_succ,Option.bind_some,id_eq,gG,h.bH,if_true,mI,List.set_cons_zero,List.set_cons_succ]
 rw[ay s1,ay (e':=[some (.al,.lst (rs.map Row.d)),some (.al,.dk ks),some (.al,bL Q),some (.al,.int most),some (.bo,.dk ks),some (.bo,.lst []),none,none,none,none,none,none]) rfl,
  ay (e':=bp (.lst (rs.map Row.d)) (.dk ks) Q most ks [] ((0:Nat):Int) none none none none none) rfl,
  ay (e':=bp (.lst (rs.map Row.d)) (.dk ks) Q most Q.ks Q.sd n' o7 o8 none none none) (by
   have it:nS (ag (ae aj (jV 2) (jC (.int 3))) ah) (bp (.lst (rs.map Row.d)) (.dk ks) Q most ks [] ((0:Nat):Int) none none none none none)=some (.al,cJ (Q.wy.map .int)):=rfl
   unfold fq
   rw[it,aC]
   exact lp),
  ay (e':=bp (.lst (rs.map Row.d)) (.dk ks) Q most Q.ks Q.sd n' o7 o8 (some (.fr,.bl Q.b)) none none) (by
   rw[aH,Q5 ⟨q1,fun z=>(q2 z).2⟩];rfl),
  ay (e':=bp (.lst (rs.map Row.d)) (.dk ks) Q most Q.ks Q.sd n' o7 o8 (some (.fr,.bl Q.b)) none none) (by
   rw[aW (Q6 ⟨fun z=>by have:=(q2 z).1;simp at this;omega,by simp at q3;omega⟩)];rfl),
  ay (e':=bp (.lst (rs.map Row.d)) (.dk ks) Q most Q.ks Q.sd n' o7 o8 (some (.fr,.bl Q.b)) (some (.bo,.dk [])) none) rfl]
 obtain⟨o',dl⟩:=yK (some (.al,.lst (rs.map Row.d))) (some (.al,.dk ks)) (some (.al,bL Q)) (some (.al,.int most)) wq (some (.bo,.lst (Q.sd.map .int))) (some (.fr,.int n')) o7 o8 (some (.fr,.bl Q.b)) Q.ks [] none (fun _ z=>z) (by simpa using wq.nd) (by simpa using lq)
 rw[ay (e':=fI (some (.al,.lst (rs.map Row.d))) (some (.al,.dk ks)) (some (.al,bL Q)) (some (.al,.int most)) Q.ks (some (.bo,.lst (Q.sd.map .int))) (some (.fr,.int n')) o7 o8 (some (.fr,.bl Q.b)) ([]++bA Q.ks) o') (by
  show forL (gN 11) mD .fr _ _=_
  exact dl)]
 rw[List.nil_append]
 have a:(ae lQ (ae aj (jV 2) (jC (.int 1))) (jV 5)) (fI (some (.al,.lst (rs.map Row.d))) (some (.al,.dk ks)) (some (.al,bL Q)) (some (.al,.int most)) Q.ks (some (.bo,.lst (Q.sd.map .int))) (some (.fr,.int n')) o7 o8 (some (.fr,.bl Q.b)) (bA Q.ks) o')=some (.fr,.bl true):=by
  show lQ (.al,.lst (Q.sd.map .int)) (.bo,.lst (Q.sd.map .int))=_
  exact OU _
 have b:(ae (iL false) (ae aj (jV 2) (jC (.int 2))) (jV 10)) (fI (some (.al,.lst (rs.map Row.d))) (some (.al,.dk ks)) (some (.al,bL Q)) (some (.al,.int most)) Q.ks (some (.bo,.lst (Q.sd.map .int))) (some (.fr,.int n')) o7 o8 (some (.fr,.bl Q.b)) (bA Q.ks) o')=some (.fr,.bl true):=by
  show iL false (.al,.dk (bA Q.ks)) (.bo,.dk (bA Q.ks))=_
  exact Ey (zx wq) false
 rw[aP,ky,a,aC,bK,aC,if_pos rfl,b]
 rfl
theorem vT{m:M}(ws:List Int):dO m (ws.map .int)=some (.un,.lst (ws.map .int)):=by
 unfold dO
 rw[gX]
 cases m<;>rfl
theorem mE:∀{ks:List (Key×D)},(∀p∈ks,∃i:Int,p.2=.int i∧0≤i∧i<W)→∃is:List Int,ks.map (·.2)=is.map D.int
 |[],_=>⟨[],rfl⟩
 |p::ks,h=>by
  obtain⟨i,e,_⟩:=h p cM
  obtain⟨is,e'⟩:=mE fun q hq=>h q (cT _ hq)
  exact⟨i::is,by rw[bE,bE,e,e']⟩
theorem FC{fe:Ev→Option (M×D)}{m:M}{fr:Ev}{b:Bool}(h:∀i:Int,fe (some (m,.int i)::fr)=some (.fr,.bl b)):∀(l:List Int),fU ft fe m fr (l.map .int)=some ((l.map fun _=>D.bl b).map fun x=>(M.fr,x))
 |[]=>rfl
 |i::l=>by
  rw[bE,fU,show ft (some (m,D.int i)::fr)=some true from rfl,aC,if_pos rfl,h,aC,FC h l,aC];rfl
theorem T7{xs:List D}(h:xs.length≤60000):eJ (xs.map fun x=>(M.fr,x))=some (.un,.lst xs):=by
 unfold eJ
 rw[if_pos (by rw[a7];exact bS h (by decide)),if_pos (by rw[List.all_map];exact jG.mpr fun _ _=>rfl),w6]
 congr 3
 exact List.map_id xs
theorem zB(b:Bool):∀l:List Int,m9 (l.map fun _=>D.bl b)=some (l.map fun _=>b)
 |[]=>rfl
 |_::l=>by rw[bE,m9,zB b l];rfl
theorem kinds_ok{Q:RS}(h:WK Q.ks)(hk:Q.ks.length≤9000)(hs:Q.sd.length≤9000)(hw:Q.wy.length≤9000):oa [bL Q]=some (.fr,.bl true):=by
 obtain⟨is,ei⟩:=mE (zx h).iv
 have il:is.length≤9000:=by
  have a:=cf List.length ei
  rw[a7,a7]at a
  rw[←a]
  exact bS (uX.length_le) hk
 unfold oa fn C7
 simp -implicitDefEqProofs only [List.map_cons,List.map_nil,List.length_cons,List.length_nil,Nat.reduceAdd,Nat.reduceSub,List.replicate,List.cons_append,List.nil_append]
 have f1:(ae aj (jV 0) (jC (.int 1))) [some (.al,bL Q),none]=some (.al,.lst (Q.sd.map .int)):=rfl
 have f2:(ae aj (jV 0) (jC (.int 2))) [some (.al,bL Q),none]=some (.al,.dk (bA Q.ks)):=rfl
 have f3:(ae aj (jV 0) (jC (.int 3))) [some (.al,bL Q),none]=some (.al,.lst (Q.wy.map .int)):=rfl
 have lv:nV (ae aj (jV 0) (jC (.int 2))) [some (.al,bL Q),none]=some (.un,.lst (is.map .int)):=by
  rw[nV,f2,aC]
  show dO .al ((bA Q.ks).map (·.2))=_
  rw[ei,vT]
 have a1:(ae aV (ae aj (jV 0) (jC (.int 1))) (nV (ae aj (jV 0) (jC (.int 2))))) [some (.al,bL Q),none]=some (.un,.lst ((Q.sd++is).map .int)):=by
  rw[ae,f1,aC,lv,aC,oF (by decide) (by decide) (by rw[a7,a7];exact bS (by omega:Q.sd.length+is.length≤60000) (by decide)),←dh,vT]
 have a2:(ae aV (ae aV (ae aj (jV 0) (jC (.int 1))) (nV (ae aj (jV 0) (jC (.int 2))))) (ae aj (jV 0) (jC (.int 3)))) [some (.al,bL Q),none]=some (.un,.lst ((Q.sd++is++Q.wy).map .int)):=by
  rw[ae,a1,aC,f3,aC,oF (by decide) (by decide) (by rw[a7,a7,cg];exact bS (by omega:Q.sd.length+is.length+Q.wy.length≤60000) (by decide)),←dh,vT]
 have hL:(Q.sd++is++Q.wy).length≤60000:=by rw[cg,cg];omega
 generalize Q.sd++is++Q.wy=l at a2 hL
 rw[ay (e':=[some (.al,bL Q),none]) (by rw[aW rfl];rfl),ay (e':=[some (.al,bL Q),none]) (by rw[aW rfl];rfl),
  ay (e':=[some (.al,bL Q),some (.bo,.lst (l.map .int))]) (by rw[aH,a2];rfl)]
 have cp:∀(ty:String) (b:Bool),(∀i:Int,(aF eR (ag (jV 0) (ag (jC (.ty ty)) ah))) [some (.fr,.int i)]=some (.fr,.bl b))→(gF (gn (jV 1)) [] ft (aF eR (ag (jV 0) (ag (jC (.ty ty)) ah)))) [some (.al,bL Q),some (.fr,.lst (l.map .int))]=some (.un,.lst (l.map fun _=>D.bl b)):=fun ty b hh=>by
  have it:gn (jV 1) [some (.al,bL Q),some (.fr,.lst (l.map .int))]=some (.fr,l.map .int):=rfl
  rw[gF,it,aC]
  show(fU ft _ .fr [] (l.map .int)).bind eJ=_
  rw[FC hh,aC,T7 (by rw[a7];exact hL)]
 have any:(jB (aF ni (ag (gF (gn (jV 1)) [] ft (aF eR (ag (jV 0) (ag (jC (.ty "bool")) ah)))) ah))) [some (.al,bL Q),some (.fr,.lst (l.map .int))]=some false:=by
  rw[jB,aF,ag,cp "bool" false (fun _=>rfl),aC]
  show((ni [(.un,.lst (l.map fun _=>D.bl false))]).bind fQ)=_
  rw[ni,zB,aC,show(l.map fun _=>false).any id=false by simp];rfl
 have all:(aF nh (ag (gF (gn (jV 1)) [] ft (aF eR (ag (jV 0) (ag (jC (.ty "int")) ah)))) ah)) [some (.al,bL Q),some (.fr,.lst (l.map .int))]=some (.fr,.bl true):=by
  rw[aF,ag,cp "int" true (fun _=>rfl),aC]
  show nh [(.un,.lst (l.map fun _=>D.bl true))]=_
  rw[nh,zB,aC,show(l.map fun _=>true).all id=true by simp]
 rw[ay (e':=[some (.al,bL Q),some (.fr,.lst (l.map .int))]) (by
  show aN _ _ _ [some (.al,bL Q),some (.fr,.lst (l.map .int))]=_
  rw[aW any];rfl)]
 rw[aP,all]
 rfl
mutual
theorem Ez:∀d:D,J.plain d=true→PyData.eqv (toPy d) (toPy d)=true
 |.non,_=>by simp[toPy,PyData.eqv]
 |.bl b,_=>by simp[toPy,PyData.eqv]
 |.int i,_=>by simp[toPy,PyData.eqv]
 |.str x,_=>by simp[toPy,PyData.eqv]
 |.ty n,h=>by simp[J.plain]at h
 |.dk _,h=>by simp[J.plain]at h
 |.dt _,h=>by simp[J.plain]at h
 |.tup ds,h=>by
  simp only[toPy,PyData.eqv]
  exact yC ds (by simpa only[J.plain]using h)
 |.lst ds,h=>by
  simp only[toPy,PyData.eqv]
  exact yC ds (by simpa only[J.plain]using h)
theorem yC:∀ds:List D,J.cF ds=true→PyData.eqvAll (cw ds) (cw ds)=true
 |[],_=>by simp[cw,PyData.eqvAll]
 |d::ds,h=>by
  have h':J.plain d=true∧J.cF ds=true:=by simpa[J.cF]using h
  simp only[cw,PyData.eqvAll,Ez d h'.1,yC ds h'.2,Bool.and_self]
end
theorem D1{n:Nat}:∀{ds:List D},(∀d∈ds,(toPy d).depth≤n)→PyData.depthAll (cw ds)≤n
 |[],_=>by simp[cw,PyData.depthAll]
 |d::ds,h=>by
  have:=D1 (ds:=ds) fun x hx=>h x (cT _ hx)
  have h1:=h d cM
  simp only[cw,PyData.depthAll];omega
theorem yw:∀{ds:List D},(∀d∈ds,J.plain d=true)→J.cF ds=true
 |[],_=>by simp[J.cF]
 |d::ds,h=>by simp only[J.cF,h d List.mem_cons_self,yw fun x hx=>h x (List.mem_cons_of_mem _ hx),Bool.and_self]
theorem OV{ds:List D}(h1:∀d∈ds,J.plain d=true)(h2:∀d∈ds,(toPy d).depth≤10):jw (.lst ds) (.lst ds)=true:=by
 have hd:(toPy (.lst ds)).depth≤60:=by
  simp only[toPy,PyData.depth]
  have:=D1 h2;omega
 simp only[jw,J.plain,yw h1,mR,Bool.and_self,Bool.true_and]
 exact fL (by omega)
theorem T8{m n:M}{ds:List D}(h1:∀d∈ds,J.plain d=true)(h2:∀d∈ds,(toPy d).depth≤10):fu (m,.lst ds) (n,.lst ds)=some (.fr,.bl false):=by
 have e:=Ez (.lst ds) (by simp only[J.plain];exact yw h1)
 simp only[fu,OV h1 h2,if_true,e,Bool.not_true]
theorem Mf(l:List Row):∀d∈l.map Row.d,J.plain d=true:=fun d hd=>by
 obtain⟨r,_,rfl⟩:=de.mp hd
 have k:∀a:Ko,J.plain (kD a)=true:=fun a=>by cases a<;>simp[kD,J.plain]
 cases r<;>simp[Row.d,Row.ds,J.plain,J.cF,k]
theorem Mg(l:List Row):∀d∈l.map Row.d,(toPy d).depth≤10:=fun d hd=>by
 obtain⟨r,_,rfl⟩:=de.mp hd
 have k:∀a:Ko,(toPy (kD a)).depth=0:=fun a=>by cases a<;>simp[kD,toPy,PyData.depth]
 cases r<;>simp[Row.d,Row.ds,toPy,cw,PyData.depth,PyData.depthAll,k]
theorem LJ(d c:Int)(ns:List Str)(h0:(ns.length:Int)≤d):∃i:Int,iZ [.int d,.int c,.lst (ns.map .str)]=some (.fr,.int i)∧0≤i∧i<W:=by
 have hW:W=18446744073709551616:=rfl
 unfold iZ fn yp
 walk_at "ev"
 have h:¬d<ns.length:=by omega
 simp only[h]
 walk_at "ev"
 by_cases h2:d=ns.length
 ·simp only[h2]
  walk_at "ev"
  have q0:=cP c (show(3:Int)≠0 by decide)
  have q1:=di c (show(0:Int)<3 by decide)
  exact⟨_,rfl,q0,by omega⟩
 ·simp only[h2]
  walk_at "ev"
  by_cases h3:c%3=0
  ·simp only[h3]
   walk_at "ev"
   have q0:=cP (c/3) (show(9:Int)≠0 by decide)
   have q1:=di (c/3) (show(0:Int)<9 by decide)
   exact⟨_,rfl,by omega,by omega⟩
  ·simp only[h3]
   walk_at "ev"
   exact⟨_,rfl,cP _ (by decide),di _ (by decide)⟩
theorem Nn{fs:List Str}{i:Nat}{d:D}(h:(cJ (fs.map D.str))[i]?=some d):∃z,fs[i]?=some z∧d=.tup [.int i,.str z]:=by
 unfold cJ at h
 rw[pQ,cG]at h
 cases e:fs[i]? with
 |none=>rw[e]at h;cases h
 |some z=>rw[e]at h;cases h;exact⟨z,rfl,rfl⟩
theorem FD{α β:Type}(f:α→β)(ws:List α)(lo hi:Option Int):J.cut (ws.map f) lo hi=(J.cut ws lo hi).map f:=by
 unfold J.cut
 simp only[List.length_map,List.map_take,List.map_drop]
theorem Q7{α:Type}(ws:List α)(lo hi:Option Int):(J.cut ws lo hi).length≤ws.length:=by
 unfold J.cut
 rw[kH,List.length_drop];omega
theorem Q8{m:M}(ws:List Int)(lo hi:Option Int):eY (m,.lst (ws.map .int)) lo hi=some (.un,.lst ((J.cut ws lo hi).map .int)):=by
 unfold eY pC m6
 simp only[FD,vT]
theorem Vk{m:M}(ws:List Str):dO m (ws.map .str)=some (.un,.lst (ws.map .str)):=by
 unfold dO
 rw[Ed]
 cases m<;>rfl
theorem FE{m:M}(ws:List Str)(lo hi:Option Int):eY (m,.lst (ws.map .str)) lo hi=some (.un,.lst ((J.cut ws lo hi).map .str)):=by
 unfold eY pC m6
 simp only[FD,Vk]
theorem IZ(ws:List Str)(h:ws.length=5):(J.cut ws none (some 4))=ws.take 4:=by
 have:=h
 match ws,h with
 |[a,b,c,d,e],_=>rfl
theorem Vl{m:M}(rs:List Row):dO m (rs.map Row.d)=some (.un,.lst (rs.map Row.d)):=by
 unfold dO
 rw[qB]
 cases m<;>rfl
noncomputable def dQ(ns:List Int)(fs:List Str)(rs:List Row)(ks:List (Key×D))(o4 o5 o6 o7 o8 o9 aU:Option (M×D)):Ev:=[some (.al,.lst (ns.map .int)),some (.fr,.lst (fs.map .str)),some (.bo,.lst (rs.map Row.d)),some (.bo,.dk ks),o4,o5,o6,o7,o8,o9,aU]
theorem Np(ns:List Int)(fs:List Str)(hf:fs.length=5)(rs:List Row):∃ks o4 o5,(WK ks∧ks.length≤5)∧forL (gT 2 (b7 (gN 4) (b7 (gN 5) fG))) qH .fr (cJ (fs.map .str)) (dQ ns fs rs [] none none none none none none none)=some (.nx (dQ ns fs rs ks o4 o5 none none none none none)):=by
 obtain⟨c3,e3⟩:=uV ns 3 (by decide) (by decide)
 obtain⟨c2,e2⟩:=uV ns 2 (by decide) (by decide)
 obtain⟨e',l,ks,o4,o5,hh,he⟩:=mG (g:=gT 2 (b7 (gN 4) (b7 (gN 5) fG))) (b:=qH) (m:=.fr) (ds:=cJ (fs.map .str)) (e:=dQ ns fs rs [] none none none none none none none)
  (fun i e=>∃ks o4 o5,(WK ks∧ks.length≤i)∧e=dQ ns fs rs ks o4 o5 none none none none none) ⟨[],none,none,⟨⟨by simp,fun p hp=>by cases hp⟩,aR _⟩,rfl⟩
  (fun i d e hd ⟨ks,o4,o5,hh,he⟩=>by
   subst he
   obtain⟨z,hz,rfl⟩:=Nn hd
   have hi:i<5:=by
    rw[←hf]
    exact(bt.mp hz).1
   have q0:=cP (c3/((i:Int)+1)) (show(2:Int)≠0 by decide)
   obtain⟨x,ex,xr⟩:=LJ (4+c3/((i:Int)+1)%2) (c3+i) (fs.take 4) (by rw[kH,hf];omega)
   have hs:ks.length<sizeLine:=dJ (bS hh.2 (by omega:i≤9000)) (by decide)
   generalize hE:dQ ns fs rs ks (some (.fr,.int i)) (some (.fr,.str z)) none none none none none=e
   have v0:jV 0 e=some (.al,.lst (ns.map .int)):=by rw[←hE];rfl
   have v1:jV 1 e=some (.fr,.lst (fs.map .str)):=by rw[←hE];rfl
   have v4:jV 4 e=some (.fr,.int i):=by rw[←hE];rfl
   have v5:jV 5 e=some (.fr,.str z):=by rw[←hE];rfl
   have cc:aJ cW (ag (jV 0) (ag (jC (.int 3)) ah)) e=some (.fr,.int c3):=(call2 (b:=(.fr,.int 3)) v0 rfl).trans e3
   have Ys:aJ cW (ag (jV 0) (ag (jC (.int 2)) ah)) e=some (.fr,.int c2):=(call2 (b:=(.fr,.int 2)) v0 rfl).trans e2
   have d0:(ae aV (jV 4) (jC (.int 1))) e=some (.fr,.int ((i:Int)+1)):=by
    rw[ae,v4];rfl
   have d1:(ae bC (aJ cW (ag (jV 0) (ag (jC (.int 3)) ah))) (ae aV (jV 4) (jC (.int 1)))) e=some (.fr,.int (c3/((i:Int)+1))):=by
    rw[ae,cc,aC,d0,aC,div_ii (by omega)]
   have a1:(ae aV (jC (.int 4)) (ae aZ (ae bC (aJ cW (ag (jV 0) (ag (jC (.int 3)) ah))) (ae aV (jV 4) (jC (.int 1)))) (jC (.int 2)))) e=some (.fr,.int (4+c3/((i:Int)+1)%2)):=by
    have m1:(ae aZ (ae bC (aJ cW (ag (jV 0) (ag (jC (.int 3)) ah))) (ae aV (jV 4) (jC (.int 1)))) (jC (.int 2))) e=some (.fr,.int (c3/((i:Int)+1)%2)):=by
     rw[ae,d1,aC]
     show aZ (.fr,.int (c3/((i:Int)+1))) (.fr,.int 2)=_
     rw[fE (by decide)]
    rw[ae,m1];rfl
   have a2:(ae aV (aJ cW (ag (jV 0) (ag (jC (.int 3)) ah))) (jV 4)) e=some (.fr,.int (c3+i)):=by
    rw[ae,cc,aC,v4];rfl
   have a3:(gj eY (jV 1) gu (fF (jC (.int 4)))) e=some (.un,.lst ((fs.take 4).map .str)):=by
    have z1:gu e=some none:=rfl
    have z2:(fF (jC (.int 4))) e=some (some 4):=rfl
    rw[gj,v1,aC,z1,aC,z2,aC,FE,IZ fs hf]
   have a4:=(rD (F:=iZ) a1 a2 a3).trans ex
   have t:(jB (ae dN (ae aZ (ae bC (aJ cW (ag (jV 0) (ag (jC (.int 2)) ah))) (ae aV (jV 4) (jC (.int 1)))) (jC (.int 3))) (jC (.int 0)))) e=some (decide (0<c2/((i:Int)+1)%3)):=by
    have m0:(ae bC (aJ cW (ag (jV 0) (ag (jC (.int 2)) ah))) (ae aV (jV 4) (jC (.int 1)))) e=some (.fr,.int (c2/((i:Int)+1))):=by
     rw[ae,Ys,aC,d0,aC,div_ii (by omega)]
    have m1:(ae aZ (ae bC (aJ cW (ag (jV 0) (ag (jC (.int 2)) ah))) (ae aV (jV 4) (jC (.int 1)))) (jC (.int 3))) e=some (.fr,.int (c2/((i:Int)+1)%3)):=by
     rw[ae,m0,aC]
     show aZ (.fr,.int (c2/((i:Int)+1))) (.fr,.int 3)=_
     rw[fE (by decide)]
    rw[jB,ae,m1];rfl
   by_cases hc:0<c2/((i:Int)+1)%3
   ·refine⟨e,dQ ns fs rs (putD ks (.inr z) (.int x)) (some (.fr,.int i)) (some (.fr,.str z)) none none none none none,by rw[←hE];rfl,?_,putD ks (.inr z) (.int x),_,_,⟨hh.1.put xr,bS y6 (Nat.succ_le_succ hh.2)⟩,rfl⟩
    unfold qH
    have o3:jz 3 e=some (.bo,ks):=by rw[←hE];rfl
    rw[cy (by rw[t,fL hc]),fH,a4,v5]
    simp only[Option.bind_some,keyOf,bO,if_true,o3,hs]
    rw[←hE];rfl
   ·refine⟨e,e,by rw[←hE];rfl,?_,ks,_,_,⟨hh.1,Nat.le_succ_of_le hh.2⟩,hE.symm⟩
    unfold qH
    rw[aW (by rw[t,fJ hc])];rfl)
 subst he
 have el:(cJ (fs.map D.str)).length=5:=by simp[cJ,hf]
 rw[el]at hh
 exact⟨ks,o4,o5,hh,l⟩
theorem HF{F:List D→Option (M×D)}{f1 f2 f3 f4:Ev→Option (M×D)}{e:Ev}{a b c d:M×D}(h1:f1 e=some a)(h2:f2 e=some b)(h3:f3 e=some c)(h4:f4 e=some d):aJ F (ag f1 (ag f2 (ag f3 (ag f4 ah)))) e=F [a.2,b.2,c.2,d.2]:=by
 simp only[aJ,ag,ah,h1,h2,h3,h4,Option.bind_some,List.map_cons,List.map_nil]
theorem Q9{rs:List Row}(g:Good rs)(rv:∀r∈rs,RV r){ks:List (Key×D)}(h:WK ks)(hk:ks.length≤100)(most:Nat)(hm:most≤3000)(a b o4 o5 o9 aU:Option (M×D)) :
  qI [a,b,some (.bo,.lst (rs.map Row.d)),some (.bo,.dk ks),o4,o5,some (.fr,.int most),some (.bo,.dk ks),some (.bo,.lst (rs.map Row.d)),o9,aU]=some (.nx [a,b,some (.bo,.lst (rs.map Row.d)),some (.bo,.dk ks),o4,o5,some (.fr,.int most),some (.bo,.dk ks),some (.bo,.lst (rs.map Row.d)),o9,none]):=by
 obtain⟨er,wq,lq⟩:=zy g rv h hk most hm
 have ew:=D0 g rv h hk most hm
 obtain⟨_,_,q3,_,q5⟩:=uZ g most ks [] [] 0 g.pos (fun _ z=>nomatch z)
 generalize bD rs most ks [] [] 0=Q at *
 have l3:Q.wy.length≤9000:=by simp at q3;omega
 have l5:Q.sd.length≤9000:=by simp at q5;omega
 have ek:=kinds_ok wq lq l5 l3
 have rc:(aJ lL (ag (jV 2) (ag (jV 3) (ag (jV 6) ah)))) [a,b,some (.bo,.lst (rs.map Row.d)),some (.bo,.dk ks),o4,o5,some (.fr,.int most),some (.bo,.dk ks),some (.bo,.lst (rs.map Row.d)),o9,aU]=some (.ut,bL Q) :=
  (rD (F:=lL) (f1:=jV 2) (f2:=jV 3) (f3:=jV 6) (a:=(.bo,.lst (rs.map Row.d))) (b:=(.bo,.dk ks)) (c:=(.fr,.int most)) rfl rfl rfl).trans er
 have cl:uU [a,b,some (.bo,.lst (rs.map Row.d)),some (.bo,.dk ks),o4,o5,some (.fr,.int most),some (.bo,.dk ks),some (.bo,.lst (rs.map Row.d)),o9,some (.fr,bL Q)]=some false:=by
  have k1:(aJ oa (ag (jV 10) ah)) [a,b,some (.bo,.lst (rs.map Row.d)),some (.bo,.dk ks),o4,o5,some (.fr,.int most),some (.bo,.dk ks),some (.bo,.lst (rs.map Row.d)),o9,some (.fr,bL Q)]=some (.fr,.bl true):=(HC (F:=oa) (f1:=jV 10) (a:=(.fr,bL Q)) rfl).trans ek
  have k2:(aJ lz (ag (jV 2) (ag (jV 7) (ag (jV 10) (ag (jV 6) ah))))) [a,b,some (.bo,.lst (rs.map Row.d)),some (.bo,.dk ks),o4,o5,some (.fr,.int most),some (.bo,.dk ks),some (.bo,.lst (rs.map Row.d)),o9,some (.fr,bL Q)]=some (.fr,.bl true):=(HF (F:=lz) (f1:=jV 2) (f2:=jV 7) (f3:=jV 10) (f4:=jV 6) (a:=(.bo,.lst (rs.map Row.d))) (b:=(.bo,.dk ks)) (c:=(.fr,bL Q)) (d:=(.fr,.int most)) rfl rfl rfl rfl).trans ew
  have k3:(jB (ae (iL true) (jV 3) (jV 7))) [a,b,some (.bo,.lst (rs.map Row.d)),some (.bo,.dk ks),o4,o5,some (.fr,.int most),some (.bo,.dk ks),some (.bo,.lst (rs.map Row.d)),o9,some (.fr,bL Q)]=some false:=by
   show(iL true (.bo,.dk ks) (.bo,.dk ks)).bind fQ=_
   rw[Ey h true];rfl
  have k4:(jB (ae fu (jV 8) (jV 2))) [a,b,some (.bo,.lst (rs.map Row.d)),some (.bo,.dk ks),o4,o5,some (.fr,.int most),some (.bo,.dk ks),some (.bo,.lst (rs.map Row.d)),o9,some (.fr,bL Q)]=some false:=by
   show(fu (.bo,.lst (rs.map Row.d)) (.bo,.lst (rs.map Row.d))).bind fQ=_
   rw[T8 (Mf rs) (Mg rs)];rfl
  unfold uU
  rw[cE,fm,jB,k1,aC,bK,aC,aC,if_neg (by decide),cE,fm,jB,k2,aC,bK,aC,aC,if_neg (by decide),cE,k3,aC,if_neg (by decide),k4]
 have hz:∀k:Nat,k≤9100→k<sizeLine:=fun k hk=>dJ hk (by decide)
 have p1:oW 0 [.str (if Q.b=true then "end" else "spent"),.lst (Q.sd.map .int),.dk (bA Q.ks),.lst (Q.wy.map .int)] 1=true:=by
  show decide ((Q.sd.map D.int).length+0<sizeLine)=true
  rw[a7]
  exact fL (hz _ (by omega))
 have p2:vJ 1 [.str (if Q.b=true then "end" else "spent"),.lst (Q.sd.map .int),.dk (bA Q.ks),.lst (Q.wy.map .int)] 2=true:=by
  show decide ((bA Q.ks).length+1<sizeLine)=true
  have:=uX (ks:=Q.ks).length_le
  exact fL (hz _ (by omega))
 have p3:oW 2 [.str (if Q.b=true then "end" else "spent"),.lst (Q.sd.map .int),.dk (bA Q.ks),.lst (Q.wy.map .int)] 3=true:=by
  show decide ((Q.wy.map D.int).length+2<sizeLine)=true
  rw[a7]
  exact fL (hz _ (by omega))
 have ia:wu [nu (jC (.int 1)) (jC (.int 1)),rS (jC (.int 2)) (jC (.str "a")) (jC (.int 7)),nu (jC (.int 3)) (jC (.int 0))] ([a,b,some (.bo,.lst (rs.map Row.d)),some (.bo,.dk ks),o4,o5,some (.fr,.int most),some (.bo,.dk ks),some (.bo,.lst (rs.map Row.d)),o9,aU].set 10 none) 0 [.str (if Q.b=true then "end" else "spent"),.lst (Q.sd.map .int),.dk (bA Q.ks),.lst (Q.wy.map .int)]=true:=by
  show(oW 0 [.str (if Q.b=true then "end" else "spent"),.lst (Q.sd.map .int),.dk (bA Q.ks),.lst (Q.wy.map .int)] 1&&(((keyOf (.str "a")).isSome&&vJ 1 [.str (if Q.b=true then "end" else "spent"),.lst (Q.sd.map .int),.dk (bA Q.ks),.lst (Q.wy.map .int)] 2)&&(oW 2 [.str (if Q.b=true then "end" else "spent"),.lst (Q.sd.map .int),.dk (bA Q.ks),.lst (Q.wy.map .int)] 3&&true)))=true
  rw[p1,p2,p3];rfl
 unfold qI xQ
 rw[rc,aC]
 show(uU [a,b,some (.bo,.lst (rs.map Row.d)),some (.bo,.dk ks),o4,o5,some (.fr,.int most),some (.bo,.dk ks),some (.bo,.lst (rs.map Row.d)),o9,some (.fr,bL Q)]).bind _=_
 rw[cl,aC,if_neg a6,if_pos ⟨ia,by simp⟩]
 rfl
theorem OW(ns:List Int)(hn:ns.length≤63):∃m,vP [.lst (ns.map .int)]=some (m,.bl true):=by
 obtain⟨c0,e0⟩:=uV ns 0 (by decide) (by decide)
 obtain⟨c1,e1⟩:=uV ns 1 (by decide) (by decide)
 obtain⟨fs,fl,fv,en⟩:=Oz c0 5 (by decide)
 have m0:=cP c1 (show(19:Int)≠0 by decide)
 have m1:=di c1 (show(0:Int)<19 by decide)
 have Zh:(fs.take 4).length=4:=by rw[kH,fl];rfl
 obtain⟨rs,⟨g,lv,rv⟩,rl,_,rfl,ep⟩:=Mb (J.cut ns (some 4) (some 44)) (bS (Q7 _ _ _) hn) (fs.take 4) (fun z hz=>fv z (List.mem_of_mem_take hz)) (by omega) (by omega) (c1%19) (by omega)
 have Yt:=Q8 (m:=.al) ns (some 4) (some 44)
 have Yu:eY (.bo,.lst (fs.map .str)) none (some 4)=some (.un,.lst ((fs.take 4).map .str)):=by rw[FE,IZ fs fl]
 obtain⟨ks,o4,o5,⟨wk,kl⟩,hl⟩:=Np ns fs fl rs
 have n0:=cP (c1/19) (show(100:Int)≠0 by decide)
 have n1:=di (c1/19) (show(0:Int)<100 by decide)
 obtain⟨mo,Yv⟩:∃mo:Nat,(mo:Int)=c1/19%100:=⟨(c1/19%100).toNat,by omega⟩
 have tn:=fun o9 aU=>Q9 g rv wk (by omega) mo (by omega) (some (.al,.lst (ns.map .int))) (some (.fr,.lst (fs.map .str))) o4 o5 o9 aU
 obtain⟨er,_,_⟩:=zy g rv wk (by omega) 1000 (by omega)
 have ew:=D0 g rv wk (by omega) 1000 (by omega)
 refine⟨.fr,?_⟩
 unfold vP fn Hw
 rw[show([D.lst (ns.map .int)].map (fun d=>some (M.al,d))++List.replicate (11 - [D.lst (ns.map .int)].length) none:Ev)=[some (.al,.lst (ns.map .int)),none,none,none,none,none,none,none,none,none,none] from rfl]
 rw[ay (e':=[some (.al,.lst (ns.map .int)),some (.bo,.lst (fs.map .str)),none,none,none,none,none,none,none,none,none]) (by
  have cc:aJ cW (ag (jV 0) (ag (jC (.int 0)) ah)) [some (.al,.lst (ns.map .int)),none,none,none,none,none,none,none,none,none,none]=some (.fr,.int c0):=(call2 (a:=(.al,.lst (ns.map .int))) (b:=(.fr,.int 0)) rfl rfl).trans e0
  have c:=(call2 (F:=n9) (f2:=jC (.int 5)) (b:=(.fr,.int 5)) cc rfl).trans (show n9 [D.int c0,D.int 5]=_ from en)
  simp -implicitDefEqProofs only [aH,c,Option.bind_some,mI]
  rfl)]
 rw[ay (e':=[some (.al,.lst (ns.map .int)),some (.bo,.lst (fs.map .str)),some (.bo,.lst (rs.map Row.d)),none,none,none,none,none,none,none,none]) (by
  simp -implicitDefEqProofs only [aH,aJ,ag,ah,gj,fF,gu,ae,jV,jC,List.getElem?_cons_zero,List.getElem?_cons_succ,id_eq,Option.bind_some,oG,Option.map_some,Yt,Yu,List.map_cons,List.map_nil,e1,fE (show(0:Int)<19 by decide),ep,mI,List.set_cons_zero,List.set_cons_succ])]
 rw[ay (e':=[some (.al,.lst (ns.map .int)),some (.bo,.lst (fs.map .str)),some (.bo,.lst (rs.map Row.d)),some (.bo,.dk []),none,none,none,none,none,none,none]) rfl]
 rw[ay (e':=dQ ns fs rs ks o4 o5 none none none none none) (by exact hl)]
 rw[ay (e':=dQ ns fs rs ks o4 o5 (some (.fr,.int mo)) none none none none) (by
  have cc:aJ cW (ag (jV 0) (ag (jC (.int 1)) ah)) (dQ ns fs rs ks o4 o5 none none none none none)=some (.fr,.int c1):=(call2 (f1:=jV 0) (a:=(.al,.lst (ns.map .int))) (b:=(.fr,.int 1)) rfl rfl).trans e1
  have d1:(ae bC (aJ cW (ag (jV 0) (ag (jC (.int 1)) ah))) (jC (.int 19))) (dQ ns fs rs ks o4 o5 none none none none none)=some (.fr,.int (c1/19)):=by
   rw[ae,cc,aC]
   show bC (.fr,.int c1) (.fr,.int 19)=_
   rw[div_ii (by decide)]
  have d2:(ae aZ (ae bC (aJ cW (ag (jV 0) (ag (jC (.int 1)) ah))) (jC (.int 19))) (jC (.int 100))) (dQ ns fs rs ks o4 o5 none none none none none)=some (.fr,.int mo):=by
   rw[ae,d1,aC,Yv]
   show aZ (.fr,.int (c1/19)) (.fr,.int 100)=_
   rw[fE (by decide)]
  rw[aH,d2];rfl)]
 rw[ay (e':=dQ ns fs rs ks o4 o5 (some (.fr,.int mo)) (some (.bo,.dk ks)) none none none) (by
  have gd:gG [(.bo,.dk ks)]=some (.un,.dk ks):=by simp only[gG,wk.bH,if_true]
  show((gG [(.bo,.dk ks)]).bind fun x=>(lE x).bind fun y=>some (Fl.nx ((dQ ns fs rs ks o4 o5 (some (.fr,.int mo)) none none none none).set 7 (some y))))=_
  rw[gd];rfl)]
 rw[ay (e':=dQ ns fs rs ks o4 o5 (some (.fr,.int mo)) (some (.bo,.dk ks)) (some (.bo,.lst (rs.map Row.d))) none none) (by
  have gd:oQ [(.bo,.lst (rs.map Row.d))]=some (.un,.lst (rs.map Row.d)):=Vl rs
  show((oQ [(.bo,.lst (rs.map Row.d))]).bind fun x=>(lE x).bind fun y=>some (Fl.nx ((dQ ns fs rs ks o4 o5 (some (.fr,.int mo)) (some (.bo,.dk ks)) none none none).set 8 (some y))))=_
  rw[gd];rfl)]
 rw[ay (e':=dQ ns fs rs ks o4 o5 (some (.fr,.int mo)) (some (.bo,.dk ks)) (some (.bo,.lst (rs.map Row.d))) (some (.fr,.int 1)) none) (by
  have it:iJ (ag (jC (.int 2)) ah) (dQ ns fs rs ks o4 o5 (some (.fr,.int mo)) (some (.bo,.dk ks)) (some (.bo,.lst (rs.map Row.d))) none none)=some (.fr,[.int 0,.int 1]):=rfl
  unfold fq
  rw[it,aC,forL]
  show((qI [some (.al,.lst (ns.map .int)),some (.fr,.lst (fs.map .str)),some (.bo,.lst (rs.map Row.d)),some (.bo,.dk ks),o4,o5,some (.fr,.int mo),some (.bo,.dk ks),some (.bo,.lst (rs.map Row.d)),some (.fr,.int 0),none]).bind _)=_
  rw[tn,aC]
  show forL _ _ _ [.int 1] _=_
  rw[forL]
  show((qI [some (.al,.lst (ns.map .int)),some (.fr,.lst (fs.map .str)),some (.bo,.lst (rs.map Row.d)),some (.bo,.dk ks),o4,o5,some (.fr,.int mo),some (.bo,.dk ks),some (.bo,.lst (rs.map Row.d)),some (.fr,.int 1),none]).bind _)=_
  rw[tn,aC]
  rfl)]
 have t:(jB (ae dN (jV 6) (jC (.int 94)))) (dQ ns fs rs ks o4 o5 (some (.fr,.int mo)) (some (.bo,.dk ks)) (some (.bo,.lst (rs.map Row.d))) (some (.fr,.int 1)) none)=some (decide ((94:Int)<mo)):=rfl
 by_cases hc:(94:Int)<mo
 ·have rc:aJ lL (vK 1000 (ag (jV 2) (ag (jV 3) ah))) (dQ ns fs rs ks o4 o5 (some (.fr,.int mo)) (some (.bo,.dk ks)) (some (.bo,.lst (rs.map Row.d))) (some (.fr,.int 1)) none)=some (.ut,bL (bD rs 1000 ks [] [] 0)):=er
  have wc:=(HF (F:=lz) (f1:=jV 2) (f2:=jV 7) (f4:=jC (.int 1000)) (a:=(.bo,.lst (rs.map Row.d))) (b:=(.bo,.dk ks)) (d:=(.fr,.int 1000)) rfl rfl rc rfl).trans ew
  rw[g6 (by rw[cy (by rw[t,fL hc]),aP,wc];rfl)]
  rfl
 ·rw[ay (aW (by rw[t,fJ hc]))]
  rfl
end b5
namespace b5
open PySem PySem.Spec L2 My J
theorem walk {l:PySem.W.OpenLaw}{q:Program}{loose:List Str}{XP:(Str→Option Value)→Heap→Prop}{YP:World→Heap→Prop}{d:DefRec}{K:Params→PySem.W.Frag} (hn:l.most=some 63) (tf:d.params.defaults=[]) (hd:d.name = "law")
  (hY:∀(w:World) (h:Heap),YP w h→(K w.params).In h) (F:∀(w:World),C.x6 (K w.params) wD∧C.x8 (K w.params) bs∧C.x9 (K w.params) gs) :
  PySem.W.WalkO q loose XP YP l.row.toRowW d [] (fun f vs=>PySem.call f vs) :=
 L2.PB (n:=63) (k:=4) (x := "_law_script") (CX:=fun _=>kZ) (sp:=fun w=>k7 (K w.params) 1 vP) hn (by decide) tf ⟨rfl,by decide,by decide⟩ hY (fun w mg fa h X G Ck=>C.U2 X G (hd▸Ck) (F w).2.1 (F w).2.2 (F w).1 ba ok XG fun _ _ _ _ _ _ _ _=>.of_eq rfl) (fun _ _ a ns hl _ hS=>S2 hS (OW ns hl)) fun _ _ _ _ _ z=>z
end b5
namespace PySem.W.Fast
def tw6887344734705812390:=0
def tw10792327401094869385:=0
def tw4194998079122540075:=0
def tw16150065013166831147:=0
def tw6986619802362982337:=0
def tw9539166247891224039:=0
def tw6243777771730187476:=0
def tw1497399020806265876:=0
def tw9324305527736606534:=0
def tw3991001048771256040:=0
def tw9090977426236115562:=0
def tw16492915986218071619:=0
def tw8535697471143912548:=0
def tw880766663233406084:=0
def tw12589335269207083733:=0
def tw14697484805157317690:=0
def tw1433846801621578963:=0
def tw13750888562800192150:=0
def tw2592656750725948269:=0
def tw986897027386696320:=0
def tw1258238546499277925:=0
def tw11587982581107512615:=0
def tw11286353021885610650:=0
def tw11705661314482195657:=0
def tw16507866649746925070:=0
def tw15045449214242482810:=0
def tw13570284675320970862:=0
def tw14850261331831019407:=0
def tw13306009116071809826:=0
def tw15182747815329658878:=0
def tw18326435121407183565:=0
def tw13571650782283052163:=0
def tw14550870705505841229:=0
def tw1327365768904092651:=0
def tw14438457274357771251:=0
def tw5246325154346482612:=0
def tw12246631003889538776:=0
def tw1093673704596121108:=0
def tw2099974671418352146:=0
def tw8366144354638329882:=0
def tw17569978873370838206:=0
def tw7806503355173262925:=0
def tw108638843151118899:=0
def tw14567125052611693731:=0
def tw17380216758839764877:=0
def tw4468350604685336032:=0
def tw8147357101254872894:=0
def tw11720041824319315683:=0
def tw7608668540675297607:=0
def tw864365366257300274:=0
def tw14933359560969646642:=0
def tw2254850826456658565:=0
def tw699693357422998033:=0
def tw254350012741101930:=0
def tw1548807391469764169:=0
def tw17614900307137838397:=0
def tw9929181256106252032:=0
def tw7299702941988921622:=0
def tw12968066724933488918:=0
def tw13062936423652825102:=0
def tw6625309095016759133:=0
def tw8399382879725157956:=0
def tw4821436678729033686:=0
def tw17195613785445179386:=0
def tw17678362226117904951:=0
def tw10928797404636291950:=0
def tw2617660376775034304:=0
def tw6970523521277824318:=0
def tw16665992128460128936:=0
def tw9222390632769960072:=0
def tw5802371469486296793:=0
def tw4156173977936170273:=0
def tw15326110453041999969:=0
def tw2777420563203978892:=0
def tw12087841945898323285:=0
def tw1961687149125539388:=0
def tw4871069429262569747:=0
def tw8480091906286930294:=0
def tw2539569692008587336:=0
def tw5791622448368410406:=0
def tw13057175291732046110:=0
def tw3301091638962822911:=0
def tw1650116423266378687:=0
def tw15724775252671983189:=0
def tw3315621091971286075:=0
def tw3688582882702484185:=0
def tw607409656372983363:=0
def tw7031186304184723045:=0
end PySem.W.Fast
open PySem PySem.W PyProof.Rows
set_option maxRecDepth 100000 in
set_option maxHeartbeats 0 in
theorem PySem.Challenge.cw_lazyhoist_k21_whole_runs_row_by_row_holds : PySem.Challenge.rw_lazyhoist_k21_whole_runs_row_by_row.Holds := by
  w_on; o_law; k_head; (case hw => w_witness2)
  k_fill
  refine b5.walk (l := PySem.Challenge.rw_lazyhoist_k21_whole_runs_row_by_row) rfl rfl rfl (fun w h Y => PySem.W.kIn_of Y) ?F
  case F =>
    intro w
    refine ⟨⟨(?_:C.DE _ "law" (b5.top 24) none), (?_:C.DE _ "_law_kinds" (b5.top 23) none), (?_:C.DE _ "_law_walked" (b5.top 22) none), (?_:C.DE _ "_law_step" (b5.top 21) none), (?_:C.DE _ "_law_come_to" (b5.top 20) none), (?_:C.DE _ "_law_program" (b5.top 19) none), (?_:C.DE _ "_law_tested" (b5.top 18) none), (?_:C.DE _ "_law_turned_to" (b5.top 17) none), (?_:C.DE _ "_law_shut" (b5.top 16) none), (?_:C.DE _ "_law_row" (b5.top 15) none), (?_:C.DE _ "_law_operand" (b5.top 14) none), (?_:C.DE _ "_law_digits" (b5.top 13) none), (?_:C.DE _ "_law_names" (b5.top 12) none), (?_:C.DE _ "_law_cell" (b5.top 11) none), (?_:C.DE _ "run" (b5.top 5) (some 1000)), (?_:C.DE _ "without_noughts" (b5.top 9) none), (?_:C.DE _ "row_behind" (b5.top 7) none), (?_:C.DE _ "do_row" (b5.top 6) none), (?_:C.DE _ "worth_of" (b5.top 8) none), (?_:C.DE _ "reckoned" (b5.top 3) none), (?_:C.DE _ "followers" (b5.top 1) none), trivial⟩, ⟨?Yw, ?Yx, ?Yy, ?Yz, ?YB, ?YC, ?YD, ?YF, ?YG, ?YH, ?Wo, ?Wq, ?Wr, trivial⟩, trivial⟩
    iterate 14 (refine' C.IA ?a ?l ?c ?k; (case a => k_is); (case l => k_is); (case c => k_is); (case k => k_is))
    (refine' C.U0 ?a ?l ?e ?c ?k; (case a => k_is); (case l => k_is); (case e => k_is); (case c => k_is); (case k => k_is))
    iterate 6 (refine' C.IA ?a ?l ?c ?k; (case a => k_is); (case l => k_is); (case c => k_is); (case k => k_is))
    case Yw => (show PySem.W.nsIn _ mainGlobals "abs" = some none); k_is
    case Yx => (show PySem.W.nsIn _ mainGlobals "all" = some none); k_is
    case Yy => (show PySem.W.nsIn _ mainGlobals "any" = some none); k_is
    case Yz => (show PySem.W.nsIn _ mainGlobals "bool" = some none); k_is
    case YB => (show PySem.W.nsIn _ mainGlobals "dict" = some none); k_is
    case YC => (show PySem.W.nsIn _ mainGlobals "enumerate" = some none); k_is
    case YD => (show PySem.W.nsIn _ mainGlobals "int" = some none); k_is
    case YF => (show PySem.W.nsIn _ mainGlobals "isinstance" = some none); k_is
    case YG => (show PySem.W.nsIn _ mainGlobals "len" = some none); k_is
    case YH => (show PySem.W.nsIn _ mainGlobals "list" = some none); k_is
    case Wo => (show PySem.W.nsIn _ mainGlobals "range" = some none); k_is
    case Wq => (show PySem.W.nsIn _ mainGlobals "str" = some none); k_is
    case Wr => (show PySem.W.nsIn _ mainGlobals "tuple" = some none); k_is
