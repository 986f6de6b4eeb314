import Derived.Test.YtkiclbnbnjbcaaaDoorBD0
namespace Go.Proofs.YtkiclbnbnjbcaaaDoor.Bd
open Go.ChangeShapes Go.WideShapes Go.ChangeAt Go.RowKit Go.Maps
set_option linter.unusedSimpArgs false
set_option linter.unusedVariables false
set_option maxRecDepth 8000
theorem modify_same {α :Type} (es:Array α) (j:Nat) (f: α -> α) (h: ∀ e,es[j]? =some e->f e=e):es.modify j f=es:=by
 apply Array.ext
 . simp
 . intro i h1 h2
   rw [Array.getElem_modify]
   split
   . rename_i e
     subst e
     exact h _ (Array.getElem?_eq_getElem h2)
   . rfl
theorem modify_eq {α :Type} (es:Array α) (j:Nat) (f g: α -> α) (h: ∀ e,es[j]? =some e->f e=g e):es.modify j f=es.modify j g:=by
 apply Array.ext
 . simp
 . intro i h1 h2
   have h3:i<es.size:=by simpa using h1
   rw [Array.getElem_modify,Array.getElem_modify]
   split
   . rename_i e
     subst e
     exact h _ (Array.getElem?_eq_getElem h3)
   . rfl
theorem set_same_heap (w:World) (b:Nat) (o:Obj) (h:w.heap[b]? =some o):({ w with heap:=w.heap.setIfInBounds b o }:World)=w:=by
 have:w.heap.setIfInBounds b o=w.heap:=by
  apply Array.ext
  . simp
  . intro i h1 h2
    rw [Array.getElem_setIfInBounds]
    split
    . rename_i e
      subst e
      rw [Array.getElem?_eq_getElem h2] at h
      exact (Option.some.inj h).symm
    . rfl
 rw [this]
theorem born_idx {es:Array MapEntry} {clock:Nat} (hs:MapKept.Stamped es clock) {j:Nat} {e:MapEntry} (hj:es[j]? =some e):es.findIdx? (fun x=>(x.born:Int)==(e.born:Int))=some j:=by
 have hl:j<es.size:=(Array.getElem?_eq_some_iff.1 hj).1
 have hj':es[j]=e:=(Array.getElem?_eq_some_iff.1 hj).2
 rw [Array.findIdx?_eq_some_iff_getElem]
 refine ⟨hl,by rw [hj'];simp,?_⟩
 intro k hk
 have hk2:k<es.size:=by omega
 have nd:=((MapKept.stamped_iff es clock).1 hs).2.1
 intro q
 have q1:es[k].born=e.born:=by
  have:((es[k].born:Nat):Int)=(e.born:Int):=by simpa using q
  omega
 have a1:(es.toList.map (·.born))[k]'(by simpa using hk2)=es[k].born:=by simp
 have a2:(es.toList.map (·.born))[j]'(by simpa using hl)=e.born:=by simp [hj']
 have pw:=List.pairwise_iff_getElem.1 nd k j (by simpa using hk2) (by simpa using hl) hk
 exact pw (a1.trans (q1.trans a2.symm))
theorem MapC.entry {w:World} {b n c:Nat} {f:Int->Option Int} (h:MapC w b n c f) {k:Int} (hk:(Lit.int .i64 k).wf=true) (hf:(f k).isSome=true) :
 ∃ (v:Value) (s:Int),(Instr.mapEntry 108 (.map (some b)) (.int .i64 k)).run Tryd.prog w=.ok (.tuple #[v,.int .i64 s]) w /\
  ∀ val:Value,(Instr.entryStore 108 (.map (some b)) (.int .i64 s) val).run Tryd.prog w=(Instr.mapUpdate 108 (.map (some b)) (.int .i64 k) val).run Tryd.prog w:=by
 have lk:=h.look hk
 rw [hf] at lk
 obtain ⟨D,⟨es,clock,hb,F,hs,rfl⟩,hc,hD⟩:=h
 have hkey:keyOf Tryd.prog 3 (.int .i64 k)=some (.int .i64 k):=keyOf_int_mk Tryd.underlying3 hk
 have hm:=Tryd.underlying108
 have ck:=fun e=>keyLaw.check w e hkey
 rcases keyLaw.find w hkey es.toList F.keys with ⟨hr,hne⟩ | ⟨j,e,hr,hj,he⟩
 . exfalso
   simp [Instr.lookup,run_underlying hm,MapKept.run_getObj_map hb,ck,hr,zeroI,Result.andThen] at lk
 . have hj':es[j]? =some e:=by simpa using hj
   refine ⟨e.val,e.born,?_,fun val=> ?_⟩
   . have st:=keyLaw.stays w hkey
     simp [Instr.mapEntry,run_underlying hm,MapKept.run_getObj_map hb,ck,hr,hj',he,st,MapKept.run_setObj_map _ hb,Result.andThen,goInt]
     rw [modify_same es j _ (fun e' h'=>by rw [hj'] at h';cases h';rw [<- he])]
     exact set_same_heap w b _ hb
   . have st:=keyLaw.stays w hkey
     have ix:=born_idx F.stamped hj'
     simp [Instr.mapUpdate,Instr.entryStore,run_underlying hm,MapKept.run_getObj_map hb,ck,hr,hj',he,st,MapKept.run_setObj_map _ hb,Result.andThen,asInt,asIntOf,ix]
     rw [modify_eq es j (fun e'=>{ key:=e'.key,val:=val,born:=e'.born }) (fun e=>{ key:=.int .i64 k,val:=val,born:=e.born }) (fun e' h'=>by rw [hj'] at h';cases h';simp [he])]
end Go.Proofs.YtkiclbnbnjbcaaaDoor.Bd
