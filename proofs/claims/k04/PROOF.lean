import PyProof.Rows.All
import Wide.All
import OpenK.AllK
import Wide.FinOn
import HandS.ForMost
import HandS.ForExc
import HandS.Evl
import HandS.Wide
import HandS.Gcd
import HandS.IsInst
import HandS.ExcInit
import HandS.ExcField
import HandS.CallSlots
import HandS.Defaults
import HandS.MakeKw
import HandS.OwnEq
import HandS.ExcBuiltin
import HandS.RaiseOp
import HandS.TryOnly
import PyProof.Rows.Range3
import HandS.ExcValue
import KE.KExcIs
import HandS.MakeKwOnly
import PySem.Challenge.RW_anytune_k04_floors_and_rests
set_option Elab.async false
set_option linter.all false
set_option maxRecDepth 100000
set_option maxHeartbeats 2000000
namespace Mo
open PySem PySem.W PySem.Calls PyProof.Rows
section
variable {prog : Program} {w : World} {M : Model} {A : Around} {E : Value → Shared → Prop} {s : Shared} {K : Frag} {x C L f : Addr} {h₀ : Heap} {m : Str → Option Value} {ox : Obj} {od : Option Obj} {f₁ : Addr}

theorem intBin_no {nm : String} {g : Int → Int → Sem PySem.Fin} {refl : Bool} {i : Int} {t : Tok} {Q : PySem.Fin → Shared → Prop} (hx : s.heap.get? x = some ox) (hd : ox.data = .plain)
    (h : Q (.done (.ret .notImplemented)) s) : wpAny M A (Builtin.Int.intBinary nm g refl ⟨[.int i t, .ref x], []⟩) Q E s := by
  obtain ⟨hp, g', d, tk, os⟩ := s
  unfold Builtin.Int.intBinary
  wp_walk using wpAny_loadPart' hx
  rw [hd]
  wp_walk
  exact h

/-- an int's built-in that hands an own instance back -/
def Declines (B : Builtin) : Prop := ∀ (M : Model) (A : Around) (E : Value → Shared → Prop) (s : Shared) (i : Int) (t : Tok) (x : Addr) (ox : Obj) (Q : PySem.Fin → Shared → Prop), s.heap.get? x = some ox → ox.data = .plain → Q (.done (.ret .notImplemented)) s → wpAny M A (B ⟨[.int i t, .ref x], []⟩) Q E s
theorem dec_bin {nm : String} {g : Int → Int → Sem PySem.Fin} {refl : Bool} : Declines (Builtin.Int.intBinary nm g refl) := fun _ _ _ _ _ _ _ _ _ hx hd h => intBin_no hx hd h
theorem call_int_no {id : String} {B : Builtin} {name : Str} {i : Int} {t : Tok} {Q : Value → Shared → Prop} (slot : Slot "int" name id) (entry : entryFor table id = some B) (args : argsOk id ⟨[.int i t, .ref x], []⟩)
    (hB : Declines B) (hx : s.heap.get? x = some ox) (hd : ox.data = .plain) (h : Q .notImplemented s) :
    wpAny (model prog w) A (call (.builtin id) [.int i t, .ref x]) Q E s := by
  exact wpAny_call (codeAny_call_builtin slot.plain entry (slot.check _ _ _ _ _ _ _ _ (typeIs_int s i t) args (hB _ _ _ _ _ _ _ _ _ hx hd h)))

/-- k op a, a an own instance whose class has the reflected operator -/
theorem binR_K {op : Operator} {i : Int} {t : Tok} {id : String} {B : Builtin} {Q : Value → Shared → Prop} (F : Fr h₀ L s.heap m) (X₀ : K.In h₀) (I : InstAt s.heap x ox C od) (hpl : ox.data = .plain) (hc : selfFirst K C = true)
    (hs : findIn K (.ref C) (PySem.dunder op.info.2) = some (some (.ref f₁))) (hs1 : isFn K (.ref f₁) = true)
    (hr : findIn K (.ref C) (dunderR op.info.2) = some (some (.ref f))) (hf : isFn K (.ref f) = true) (hsub : subIn K (.ref C) (.type "int") = some false)
    (slot : Slot "int" (PySem.dunder op.info.2) id) (fills : fillsNumberSlot (.type "int") op.info.2 = pure true) (entry : entryFor table id = some B) (args : argsOk id ⟨[.int i t, .ref x], []⟩)
    (hB : Declines B)
    (h : wpAny (model prog w) A (call (.ref f) [.ref x, .int i t]) (W.CmpBack Q) E s) : wpAny (model prog w) A (binaryOp op (.int i t) (.ref x)) Q E s := by
  have X := X₀.keeps F.keep
  obtain ⟨cd, rest, hcd, hm⟩ := ksp_first hc
  rcases hi : op.info with ⟨sym, nm'⟩
  rw [hi] at hs hr slot fills
  dsimp only at hs hr slot fills
  have two := ksp_try X I hr hf h
  have one : wpAny (model prog w) A (tryMethod (.int i t) (PySem.dunder nm') (.ref x)) (fun r s' => r = none ∧ s' = s) E s :=
    wpAny_tryMethod_declines (typeIs_int s i t) slot (call_int_no slot entry args hB I.1 hpl ⟨rfl, rfl, rfl⟩)
  obtain ⟨hh, g', d, tk, os⟩ := s
  have L1 : Looks (model prog w) hh (typeOf (.int i t)) (.type "int") := Looks.of_pure rfl
  have L2 : Looks (model prog w) hh (typeOf (.ref x)) (.ref C) := I.type
  have L3 : Looks (model prog w) hh (fillsNumberSlot (.type "int") nm') true := Looks.of_pure fills
  have L4 : Looks (model prog w) hh (fillsNumberSlot (.ref C) nm') true := fills_K X hcd hm hs
  have L5 : Looks (model prog w) hh (isSubtype (.ref C) (.type "int")) false := looks_subIn X hsub
  have L6 : Looks (model prog w) hh (numberSlotInPython (.type "int") nm') false := Looks.of_pure rfl
  have hne : (Value.type "int" == Value.ref C) = false := Bool.eq_false_iff.mpr fun q => by cases beq_iff_eq.mp q
  simp only [binaryOp, hi]
  refine wpAny_holding (wpAny_bind ?_)
  unfold binaryOp1
  refine wpAny_bind (L1.at (wpAny_bind (L2.at (wpAny_bind (L3.at ?_)))))
  simp only [hne, Bool.false_eq_true, if_false]
  ksp_lk
  refine wpAny_mono one (fun r s' hr' => ?_) fun _ _ e => e
  obtain ⟨rfl, rfl⟩ := hr'
  ksp_lk
  refine wpAny_mono two (fun r s' hr' => ?_) fun _ _ e => e
  obtain ⟨v, rfl, hq⟩ := hr'
  ksp_lk
  exact hq

/-- int.__lt__ and its like on an own instance -/
theorem tryCmp_int_no {id : String} {B : Builtin} {name : Str} {i : Int} {t : Tok} (slot : Slot "int" name id) (entry : entryFor table id = some B) (args : argsOk id ⟨[.int i t, .ref x], []⟩)
    (hB : Declines B) (hx : s.heap.get? x = some ox) (hd : ox.data = .plain) :
    wpAny (model prog w) A (tryCompare (.int i t) name (.ref x)) (fun r s' => r = none ∧ s' = s) E s := by
  unfold tryCompare
  refine wpAny_bind (wpAny_callSpecialIfBound?_slot (typeIs_int s i t) slot (call_int_no slot entry args hB hx hd ?_))
  exact wpAny_pure ⟨rfl, rfl⟩
theorem tryCmp_K {name : Str} {b : Value} {Q : Value → Shared → Prop} (X : K.In s.heap) (I : InstAt s.heap x ox C od) (hs : findIn K (.ref C) name = some (some (.ref f))) (hf : isFn K (.ref f) = true)
    (h : wpAny M A (call (.ref f) [.ref x, b]) (W.CmpBack Q) E s) : wpAny M A (tryCompare (.ref x) name b) (fun r s' => ∃ v, r = some v ∧ Q v s') E s := by
  unfold tryCompare
  refine wpAny_bind (ifBound_K X I hs hf (wpAny_mono h (fun v s' hv => ?_) fun _ _ e => e))
  cases v <;> first | exact hv.elim | exact wpAny_pure ⟨_, rfl, hv⟩
/-- x != b by x.__eq__(b): object.__ne__ -/
theorem tryNe_K {b : Value} {Q : Value → Shared → Prop} (hu : A.units + 1 < cLine) (X : K.In s.heap) (I : InstAt s.heap x ox C od) (hn : findIn K (.ref C) "__ne__" = some (some (.builtin "object.__ne__"))) (ho : subIn K (.ref C) (.type "object") = some true)
    (hs : findIn K (.ref C) "__eq__" = some (some (.ref f))) (hf : isFn K (.ref f) = true)
    (h : wpAny (model prog w) A.in1 (call (.ref f) [.ref x, b]) (fun v s' => ∃ k, v = .bool k ∧ Q (.bool (!k)) s') E s) :
    wpAny (model prog w) A (tryCompare (.ref x) "__ne__" b) (fun r s' => ∃ v, r = some v ∧ Q v s') E s := by
  have FB := F.cmp_object
  have fin : wpAny (model prog w) A (call (.builtin "object.__ne__") [.ref x, b]) (fun v s' => ∃ k, v = .bool k ∧ Q v s') E s := by
    obtain ⟨hp, g', d, tk, os⟩ := s
    have sub : Looks (model prog w) hp (isInstance (.ref x) (.type "object")) true := I.type.andThen (looks_subIn X ho)
    refine wpAny_call (codeAny_call_builtin FB.ne.plain F.cmpEntry_ne (@W.check_slot (model prog w) _ _ ⟨hp, g', d, tk, os⟩ "object.__ne__" "object" "__ne__" (.ref x) [b] [] _ F.cmpKind_ne F.cmpSplit_ne sub (F.cmpArgs_ne _ _) ?_))
    unfold Builtin.«object.__ne__»
    repeat (first
      | with_reducible refine wpAny_cRoomFor hu ?_
      | (refine wpAny_bind (m := callSpecialIfBound? (.ref x) (Str.ofString "__eq__") [b])
          (ifBound_K X I hs hf (wpAny_mono h (fun r s' hr => by
            obtain ⟨k, rfl, hq⟩ := hr
            repeat (first | exact ⟨_, rfl, hq⟩ | exact wpAny_pure ⟨_, rfl, hq⟩ | (refine wpAny_bind (m := truthy (.bool _)) (wpAny_truthy_bool ?_)) | wp_step)) fun _ _ e => e)))
      | wp_step)
  unfold tryCompare
  refine wpAny_bind ?_
  simp only [callSpecialIfBound?, bindSpecialIfBound?]
  refine wpAny_holding (wpAny_bind (wpAny_bind (wpAny_bind (I.type.here ((looks_findIn X hn).here ?_)))))
  simp only [FB.ne.bind]
  refine wpAny_bind (wpAny_askSetting (wpAny_ite ?_))
  have fin2 : wpAny (model prog w) A (call (.builtin "object.__ne__") ([.ref x] ++ [b]) >>= fun v => pure (some v)) (fun r s' => wpAny (model prog w) A (match r with | some .notImplemented | none => pure none | some v => pure (some v)) (fun r s' => ∃ v, r = some v ∧ Q v s') E s') E s :=
    wpAny_bind (wpAny_mono fin (fun v s' ⟨k, e, h'⟩ => by subst e; exact wpAny_pure (wpAny_pure ⟨_, rfl, h'⟩)) fun _ _ h' => h')
  split
  · exact wpAny_bind (wpAny_pure (wpAny_pure fin2))
  · exact wpAny_tryCatch (wpAny_bind (wpAny_pure (wpAny_pure fin2)))

/-- the rest of a comparison, x the own instance on the left -/
theorem cmpL_K {op : CmpOp} {b tb : Value} {Q : Value → Shared → Prop} (hu : A.units < cLine) (X : K.In s.heap) (I : InstAt s.heap x ox C od) (hb : Looks (model prog w) s.heap (typeOf b) tb) (hn : notFirst K C tb = true)
    (one : wpAny (model prog w) A (tryCompare (.ref x) (cmpInfo op).2.1 b) (fun r s' => ∃ v, r = some v ∧ Q v s') E s) : wpAny (model prog w) A (richCompare op (.ref x) b) Q E s := by
  unfold richCompare
  simp only [oneThing_ref]
  refine wpAny_holding (wpAny_bind (wpAny_cRoomFor hu ?_))
  refine wpAny_bind (I.type.here (wpAny_bind (hb.here ?_)))
  split
  · rename_i q
    have e : subIn K tb (.ref C) = some false := by
      rcases Bool.or_eq_true_iff.mp hn with e | e
      · rw [beq_iff_eq.mp e] at q; simp at q
      · exact beq_iff_eq.mp e
    refine wpAny_bind ((looks_subIn X e).here ?_)
    simp only [Bool.false_eq_true, if_false]
    refine wpAny_bind (wpAny_mono one (fun r s' z => ?_) fun _ _ e => e)
    obtain ⟨v, rfl, hq⟩ := z
    exact wpAny_pure hq
  · refine wpAny_bind (wpAny_pure ?_)
    simp only [Bool.false_eq_true, if_false]
    refine wpAny_bind (wpAny_mono one (fun r s' z => ?_) fun _ _ e => e)
    obtain ⟨v, rfl, hq⟩ := z
    exact wpAny_pure hq
/-- an int on the left -/
theorem cmpR_K {op : CmpOp} {i : Int} {t : Tok} {id : String} {B : Builtin} {Q : Value → Shared → Prop} (hu : A.units < cLine) (X : K.In s.heap) (I : InstAt s.heap x ox C od) (hpl : ox.data = .plain) (hsub : subIn K (.ref C) (.type "int") = some false)
    (slot : Slot "int" (cmpInfo op).2.1 id) (entry : entryFor table id = some B) (args : argsOk id ⟨[.int i t, .ref x], []⟩)
    (hB : Declines B)
    (two : wpAny (model prog w) A (tryCompare (.ref x) (cmpInfo op).2.2 (.int i t)) (fun r s' => ∃ v, r = some v ∧ Q v s') E s) : wpAny (model prog w) A (richCompare op (.int i t) (.ref x)) Q E s := by
  have one := tryCmp_int_no (prog := prog) (w := w) (A := A) (E := E) slot entry args hB I.1 hpl
  have o1 : oneThing? op (.int i t) (.ref x) = none := (typeIs_int s i t).oneThing_none op _
  unfold richCompare
  simp only [o1]
  refine wpAny_holding (wpAny_bind (wpAny_cRoomFor hu ?_))
  refine wpAny_bind (wpAny_typeOf (typeIs_int s i t) (wpAny_bind (I.type.here ?_)))
  have hne : (Value.type "int" != Value.ref C) = true := by
    rw [bne_iff_ne]
    intro q
    cases q
  rw [if_pos hne]
  refine wpAny_bind ((looks_subIn X hsub).here ?_)
  simp only [Bool.false_eq_true, if_false]
  refine wpAny_bind (wpAny_mono one (fun r s' z => ?_) fun _ _ e => e)
  obtain ⟨rfl, rfl⟩ := z
  dsimp only
  rw [if_pos (show (!false) = true from rfl)]
  refine wpAny_bind (wpAny_mono two (fun r s' z => ?_) fun _ _ e => e)
  obtain ⟨v, rfl, hq⟩ := z
  exact wpAny_pure hq
end
end Mo

namespace Mo
open PySem L2
/-- what the written part says of a class with operators of its own -/
structure Opc (K : PySem.W.Frag) (C : Addr) : Prop where
  sf : PySem.W.selfFirst K C = true
  nInt : PySem.W.subIn K (.ref C) (.type "int") = some false
  obj : PySem.W.subIn K (.ref C) (.type "object") = some true
theorem tyNot {K : PySem.W.Frag} {C : Addr} {T : String} (h : (PySem.fastBuiltinMro T).any (fun l => l.all fun v => match v with | .type _ => true | _ => false) = true) : PySem.W.subIn K (.type T) (.ref C) = some false := by
  show (PySem.fastBuiltinMro T).map (·.contains (.ref C)) = some false
  cases e : PySem.fastBuiltinMro T with
  | none => rw [e] at h; cases h
  | some l =>
    rw [e] at h
    show some (l.contains (.ref C)) = some false
    have h' : (l.all fun v => match v with | .type _ => true | _ => false) = true := h
    congr 1
    rw [List.contains_eq_any_beq]
    rw [List.any_eq_false]
    intro v hv q
    have z := List.all_eq_true.mp h' v hv
    have z2 := beq_iff_eq.mp q
    subst z2
    cases z
theorem notFirstT {K : PySem.W.Frag} {C : Addr} {T : String} (h : PySem.W.subIn K (.type T) (.ref C) = some false) : PySem.W.notFirst K C (.type T) = true := by
  unfold PySem.W.notFirst
  rw [h]
  simp
theorem notFirstC {K : PySem.W.Frag} {C : Addr} : PySem.W.notFirst K C (.ref C) = true := by
  unfold PySem.W.notFirst
  simp
theorem nf_int {K : PySem.W.Frag} {C : Addr} : PySem.W.subIn K (.type "int") (.ref C) = some false := tyNot (by decide +kernel)
theorem nf_str {K : PySem.W.Frag} {C : Addr} : PySem.W.subIn K (.type "str") (.ref C) = some false := tyNot (by decide +kernel)
theorem nf_none {K : PySem.W.Frag} {C : Addr} : PySem.W.subIn K (.type "NoneType") (.ref C) = some false := tyNot (by decide +kernel)
theorem nf_list {K : PySem.W.Frag} {C : Addr} : PySem.W.subIn K (.type "list") (.ref C) = some false := tyNot (by decide +kernel)
theorem nf_tuple {K : PySem.W.Frag} {C : Addr} : PySem.W.subIn K (.type "tuple") (.ref C) = some false := tyNot (by decide +kernel)

section
variable {X : Cx} {CX : CXT} {n k : Nat} {f f₁ C : Addr} {fd : FuncData} {ps : List Str} {sp : Sp} {E : XK}
theorem cmpBack_of {pins : List (Addr × Obj)} {σ : St} {Q : VK} {v : Value} {s' : Shared} (h : EP X pins σ Q v s') : PySem.W.CmpBack (EP X pins σ Q) v s' := by
  obtain ⟨x, H', I, r, q⟩ := id h
  cases v <;> first | exact h | skip
  cases x <;> first | (cases r; done) | (obtain ⟨_, r⟩ := r; cases r; done) | (exact absurd r (by intro z; cases z))
theorem run_op (F : FnOk X.prog X.w X.K X.mg X.base CX n f fd ps sp) (hr : Room n X.A) (hb : Binds X.K fd ps []) (hx : Passes CX X E) {pins : List (Addr × Obj)} {s : Shared} {σ : St} {H : Hp} {xs : List V} {us : List Value} {Q : VK}
    (I : Inv X pins σ H s) (r : Vals xs us) (h : sp xs H Q E) : wpAny (model X.prog X.w) X.A (call (.ref f) us) (PySem.W.CmpBack (EP X pins σ Q)) X.xe s :=
  wpAny_mono (run_fn (dvs := []) (ds := []) F hr hb .nil hx I r (by rw [List.append_nil]; exact h)) (fun v s' z => cmpBack_of z) fun _ _ e => e
theorem v2rr (a b : Addr) : Vals [V.ref a, V.ref b] [Value.ref a, Value.ref b] := .cons rfl (.cons rfl .nil)
theorem v2ri (a : Addr) (i : Int) (t : Tok) : Vals [V.ref a, V.int i] [Value.ref a, Value.int i t] := .cons rfl (.cons ⟨_, rfl⟩ .nil)
theorem v2ry (a : Addr) {y : V} {u : Value} (r : RelV y u) : Vals [V.ref a, y] [Value.ref a, u] := .cons rfl (.cons r .nil)
/-- a two-place method of the class -/
structure Op2 (K : PySem.W.Frag) (C : Addr) (nm : String) (f : Addr) : Prop where
  at_ : PySem.W.findIn K (.ref C) (PySem.dunder nm) = some (some (.ref f))
  fn : PySem.W.isFn K (.ref f) = true
  rr : ∃ g : Addr, PySem.W.findIn K (.ref C) (PySem.dunderR nm) = some none ∨ PySem.W.findIn K (.ref C) (PySem.dunderR nm) = some (some (.ref g))
structure OpR2 (K : PySem.W.Frag) (C : Addr) (nm : String) (f : Addr) : Prop where
  at_ : PySem.W.findIn K (.ref C) (PySem.dunderR nm) = some (some (.ref f))
  fn : PySem.W.isFn K (.ref f) = true
  ll : ∃ g : Addr, PySem.W.findIn K (.ref C) (PySem.dunder nm) = some (some (.ref g)) ∧ PySem.W.isFn K (.ref g) = true
def IsC (C : Addr) (x : V) (H : Hp) : Prop := ∃ a dx fs, x = .ref a ∧ H a = some (.ins C dx fs)
def rOwn (C : Addr) (sp : Sp) (E : XK) : R2 := fun x y H Q => IsC C x H ∧ (IsC C y H ∨ ∃ i, y = .int i) ∧ sp [x, y] H Q E
def rOwnR (C : Addr) (sp : Sp) (E : XK) : R2 := fun x y H Q => (∃ i, x = .int i) ∧ IsC C y H ∧ sp [y, x] H Q E
/-- int's own facts of an operator -/
structure IntOp (op : Operator) : Prop where
  fo : ∃ fo ro, (∀ K : PySem.W.Frag, PySem.W.findIn K (.type "int") (PySem.dunder op.info.2) = some fo) ∧ (∀ K : PySem.W.Frag, PySem.W.findIn K (.type "int") (PySem.dunderR op.info.2) = some ro)
theorem op_own {op : Operator} (T : Opc X.K C) (IO : IntOp op) (O : Op2 X.K C op.info.2 f) (F : FnOk X.prog X.w X.K X.mg X.base CX n f fd ps sp) (hr : Room n X.A) (hb : Binds X.K fd ps []) (hx : Passes CX X E) : OpR X (binaryOp op) (rOwn C sp E) := by
  intro pins s σ H x y v u Q I rx ry h
  obtain ⟨⟨a, dx, fs, rfl, ha⟩, hy, q⟩ := h
  cases rx
  obtain ⟨mA, J, _⟩ := ins_get I.hok ha
  obtain ⟨od, J, _⟩ := J.look
  obtain ⟨m, hF⟩ := I.fr
  rcases hy with ⟨b, dy, gs, rfl, hb'⟩ | ⟨i, rfl⟩
  · cases ry
    obtain ⟨mB, J', _⟩ := ins_get I.hok hb'
    obtain ⟨od', J', _⟩ := J'.look
    exact PySem.W.binop_K hF I.ok.mod.kin J J'.type T.sf O.at_ O.fn (run_op F hr hb hx I (v2rr _ _) q)
  · obtain ⟨t, rfl⟩ := ry
    obtain ⟨fo, ro, e1, e2⟩ := IO.fo
    obtain ⟨g, e3⟩ := O.rr
    obtain ⟨rc, e4, e5⟩ : ∃ rc, PySem.W.findIn X.K (.ref C) (PySem.dunderR op.info.2) = some rc ∧ (rc = none ∨ ∃ g : Addr, rc = some (.ref g)) := by
      rcases e3 with e3 | e3
      · exact ⟨_, e3, .inl rfl⟩
      · exact ⟨_, e3, .inr ⟨g, rfl⟩⟩
    exact PySem.W.ksp_binT (T := "int") hF I.ok.mod.kin J rfl T.sf O.at_ O.fn e4 e5 (e1 _) (e2 _) nf_int (run_op F hr hb hx I (v2ri _ _ _) q)
/-- int op own -/
structure IntOpR (op : Operator) : Prop where
  sl : ∃ id B, PySem.Slot "int" (PySem.dunder op.info.2) id ∧ entryFor table id = some B ∧ (∀ i t x, argsOk id ⟨[.int i t, .ref x], []⟩) ∧ Declines B
  fills : fillsNumberSlot (.type "int") op.info.2 = pure true
theorem op_ownR {op : Operator} (T : Opc X.K C) (IO : IntOpR op) (O : OpR2 X.K C op.info.2 f) (F : FnOk X.prog X.w X.K X.mg X.base CX n f fd ps sp) (hr : Room n X.A) (hb : Binds X.K fd ps []) (hx : Passes CX X E) : OpR X (binaryOp op) (rOwnR C sp E) := by
  intro pins s σ H x y v u Q I rx ry h
  obtain ⟨⟨i, rfl⟩, ⟨a, dx, fs, rfl, ha⟩, q⟩ := h
  cases ry
  obtain ⟨t, rfl⟩ := rx
  obtain ⟨mA, J, _⟩ := ins_get I.hok ha
  obtain ⟨od, J, _⟩ := J.look
  obtain ⟨m, hF⟩ := I.fr
  obtain ⟨g, g1, g2⟩ := O.ll
  obtain ⟨id, B, s1, s2, s3, s4⟩ := IO.sl
  exact binR_K hF I.ok.mod.kin J rfl T.sf g1 g2 O.at_ O.fn T.nInt s1 IO.fills s2 (s3 _ _ _) s4 (run_op F hr hb hx I (v2ri _ _ _) q)

/-! ### comparisons -/
/-- the types of what an own instance is compared with -/
inductive Par (C : Addr) (H : Hp) : V → Prop where
  | int (i : Int) : Par C H (.int i)
  | str (z : Str) : Par C H (.str z)
  | non : Par C H .non
  | lst {a : Addr} {xs : List V} (e : H a = some (.lst xs)) : Par C H (.ref a)
  | tup {a : Addr} {xs : List V} (e : H a = some (.tup xs)) : Par C H (.ref a)
  | ins {a dx : Addr} {fs : List (Str × V)} (e : H a = some (.ins C dx fs)) : Par C H (.ref a)
theorem Par.look {H : Hp} {y : V} {u : Value} {pins : List (Addr × Obj)} {s : Shared} {σ : St} (I : Inv X pins σ H s) (p : Par C H y) (ry : RelV y u) : ∃ tb, PySem.W.Looks (model X.prog X.w) s.heap (typeOf u) tb ∧ PySem.W.notFirst X.K C tb = true := by
  cases p with
  | int i => obtain ⟨t, rfl⟩ := ry; exact ⟨_, .of_pure rfl, notFirstT nf_int⟩
  | str z => obtain ⟨t, rfl⟩ := ry; exact ⟨_, .of_pure rfl, notFirstT nf_str⟩
  | non => cases ry; exact ⟨_, .of_pure rfl, notFirstT nf_none⟩
  | @lst a xs e =>
    cases ry
    obtain ⟨_, its, n, _, e⟩ := (show ObjOk X.prog X.w H s.heap a (.lst xs) from I.hok a _ e)
    exact ⟨_, fun A Q E s k q => wpAny_typeOf_ref (k _ _ e) q, notFirstT nf_list⟩
  | @tup a xs e =>
    cases ry
    obtain ⟨_, its, _, o, e, hc, _⟩ := (show ObjOk X.prog X.w H s.heap a (.tup xs) from I.hok a _ e)
    exact ⟨.type "tuple", fun A Q E s k q => wpAny_typeOf_ref (k _ _ e) (by rw [hc]; exact q), notFirstT nf_tuple⟩
  | ins e =>
    cases ry
    obtain ⟨mB, J', _⟩ := ins_get I.hok e
    obtain ⟨od', J', _⟩ := J'.look
    exact ⟨_, J'.type, notFirstC⟩
/-- a op b by the class's own method -/
def rCmp (C : Addr) (sp : Sp) (E : XK) : R2 := fun x y H Q => IsC C x H ∧ Par C H y ∧ sp [x, y] H Q E
theorem op_cmp {op : CmpOp} (hop : ∀ v u : Value, compareOp op v u = richCompare op v u) (hs : PySem.W.findIn X.K (.ref C) (cmpInfo op).2.1 = some (some (.ref f))) (hf : PySem.W.isFn X.K (.ref f) = true)
    (F : FnOk X.prog X.w X.K X.mg X.base CX n f fd ps sp) (hr : Room n X.A) (hb : Binds X.K fd ps []) (hx : Passes CX X E) : OpR X (compareOp op) (rCmp C sp E) := by
  intro pins s σ H x y v u Q I rx ry h
  obtain ⟨⟨a, dx, fs, rfl, ha⟩, p, q⟩ := h
  obtain ⟨tb, lb, nf⟩ := p.look I ry
  cases rx
  obtain ⟨mA, J, _⟩ := ins_get I.hok ha
  obtain ⟨od, J, _⟩ := J.look
  rw [hop]
  exact cmpL_K hr.units0 I.kIn J lb nf (tryCmp_K I.kIn J hs hf (run_op F hr hb hx I (v2ry _ ry) q))
/-- k op a, by a's reflected method -/
def rCmpR (C : Addr) (sp : Sp) (E : XK) : R2 := fun x y H Q => (∃ i, x = .int i) ∧ IsC C y H ∧ sp [y, x] H Q E
structure IntCmp (op : CmpOp) : Prop where
  eq : ∀ v u : Value, compareOp op v u = richCompare op v u
  sl : ∃ id B, PySem.Slot "int" (cmpInfo op).2.1 id ∧ entryFor table id = some B ∧ (∀ i t x, argsOk id ⟨[.int i t, .ref x], []⟩) ∧ Declines B
theorem op_cmpR {op : CmpOp} (T : Opc X.K C) (IC : IntCmp op) (hs : PySem.W.findIn X.K (.ref C) (cmpInfo op).2.2 = some (some (.ref f))) (hf : PySem.W.isFn X.K (.ref f) = true)
    (F : FnOk X.prog X.w X.K X.mg X.base CX n f fd ps sp) (hr : Room n X.A) (hb : Binds X.K fd ps []) (hx : Passes CX X E) : OpR X (compareOp op) (rCmpR C sp E) := by
  intro pins s σ H x y v u Q I rx ry h
  obtain ⟨⟨i, rfl⟩, ⟨a, dx, fs, rfl, ha⟩, q⟩ := h
  cases ry
  obtain ⟨t, rfl⟩ := rx
  obtain ⟨mA, J, _⟩ := ins_get I.hok ha
  obtain ⟨od, J, _⟩ := J.look
  obtain ⟨id, B, s1, s2, s3, s4⟩ := IC.sl
  rw [IC.eq]
  exact cmpR_K hr.units0 I.kIn J rfl T.nInt s1 s2 (s3 _ _ _) s4 (tryCmp_K I.kIn J hs hf (run_op F hr hb hx I (v2ri _ _ _) q))
/-- the own == run a level deeper -/
theorem run_in1 (F : FnOk X.prog X.w X.K X.mg X.base CX n f fd ps sp) (hr : Room (n + 1) X.A) (hb : Binds X.K fd ps []) (hx : Passes CX X E) {pins : List (Addr × Obj)} {s : Shared} {σ : St} {H : Hp} {xs : List V} {us : List Value} {Q : VK}
    (I : Inv X pins σ H s) (r : Vals xs us) (h : sp xs H Q E) : wpAny (model X.prog X.w) X.A.in1 (call (.ref f) us) (EP X pins σ Q) X.xe s := by
  have e0 : Env0 X.prog X.w X.K X.mg X.base X.A.in1 X.stack s H := I.env0.in1
  have hl : us.length = ps.length := by rw [← r.length]; exact F.len _ _ _ _ h
  refine wpAny_call (codeAny_mono (F.run X.A.in1 X.stack s H ⟨us, []⟩ us xs _ E hr.in1 e0 (by
    have := hb s us I.kIn (by simpa using hl)
    simpa using this) r h) fun r s' hq => ?_)
  cases r with
  | error e => exact hx pins σ H s e s' I hq
  | ok fl =>
    cases fl with
    | ret w => exact I.after hq
    | next => exact False.elim hq
    | brk => exact False.elim hq
    | cont => exact False.elim hq
def rNeO (C : Addr) (sp : Sp) (E : XK) : R2 := fun x y H Q => IsC C x H ∧ Par C H y ∧ sp [x, y] H (fun v H' => ∃ k, v = .bl k ∧ Q (.bl (!k)) H') E
theorem ne_back {pins : List (Addr × Obj)} {σ : St} {Q : VK} {v : Value} {s' : Shared} (h : EP X pins σ (fun v H' => ∃ k, v = .bl k ∧ Q (.bl (!k)) H') v s') : ∃ k, v = .bool k ∧ EP X pins σ Q (.bool (!k)) s' := by
  obtain ⟨x, H', I, r, k, rfl, q⟩ := h
  cases r
  exact ⟨k, rfl, .bl (!k), H', I, rfl, q⟩
theorem op_neO (T : Opc X.K C) (hn : PySem.W.findIn X.K (.ref C) "__ne__" = some (some (.builtin "object.__ne__"))) (hs : PySem.W.findIn X.K (.ref C) "__eq__" = some (some (.ref f))) (hf : PySem.W.isFn X.K (.ref f) = true)
    (F : FnOk X.prog X.w X.K X.mg X.base CX n f fd ps sp) (hr : Room (n + 1) X.A) (hb : Binds X.K fd ps []) (hx : Passes CX X E) : OpR X (compareOp .NotEq) (rNeO C sp E) := by
  intro pins s σ H x y v u Q I rx ry h
  obtain ⟨⟨a, dx, fs, rfl, ha⟩, p, q⟩ := h
  obtain ⟨tb, lb, nf⟩ := p.look I ry
  cases rx
  obtain ⟨mA, J, _⟩ := ins_get I.hok ha
  obtain ⟨od, J, _⟩ := J.look
  show wpAny _ _ (richCompare .NotEq (.ref a) u) _ _ _
  exact cmpL_K hr.units0 I.kIn J lb nf (tryNe_K (hu_of hr) I.kIn J hn T.obj hs hf (wpAny_mono (run_in1 F hr hb hx I (v2ry _ ry) q) (fun v s' z => ne_back z) fun _ _ e => e))
def rNeOR (C : Addr) (sp : Sp) (E : XK) : R2 := fun x y H Q => (∃ i, x = .int i) ∧ IsC C y H ∧ sp [y, x] H (fun v H' => ∃ k, v = .bl k ∧ Q (.bl (!k)) H') E
theorem op_neOR (T : Opc X.K C) (IC : IntCmp .NotEq) (hn : PySem.W.findIn X.K (.ref C) "__ne__" = some (some (.builtin "object.__ne__"))) (hs : PySem.W.findIn X.K (.ref C) "__eq__" = some (some (.ref f))) (hf : PySem.W.isFn X.K (.ref f) = true)
    (F : FnOk X.prog X.w X.K X.mg X.base CX n f fd ps sp) (hr : Room (n + 1) X.A) (hb : Binds X.K fd ps []) (hx : Passes CX X E) : OpR X (compareOp .NotEq) (rNeOR C sp E) := by
  intro pins s σ H x y v u Q I rx ry h
  obtain ⟨⟨i, rfl⟩, ⟨a, dx, fs, rfl, ha⟩, q⟩ := h
  cases ry
  obtain ⟨t, rfl⟩ := rx
  obtain ⟨mA, J, _⟩ := ins_get I.hok ha
  obtain ⟨od, J, _⟩ := J.look
  obtain ⟨id, B, s1, s2, s3, s4⟩ := IC.sl
  show wpAny _ _ (richCompare .NotEq _ _) _ _ _
  exact cmpR_K hr.units0 I.kIn J rfl T.nInt s1 s2 (s3 _ _ _) s4 (tryNe_K (hu_of hr) I.kIn J hn T.obj hs hf (wpAny_mono (run_in1 F hr hb hx I (v2ri _ _ _) q) (fun v s' z => ne_back z) fun _ _ e => e))
end
end Mo

namespace Mo
open PySem PySem.W PySem.Calls PyProof.Rows
section
variable {prog : Program} {w : World} {M : Model} {A : Around} {E : Value → Shared → Prop} {s : Shared} {K : Frag} {x C L f : Addr} {h₀ : Heap} {m : Str → Option Value} {ox : Obj} {od : Option Obj}
/-- the class's mro is itself and object -/
def twoUp (K : Frag) (C : Addr) : Bool := (clsIn K C).any fun cd => cd.mro == [.ref C, .type "object"]
theorem noInpl {op : Operator} {h : Heap} {add : Bool} (X : K.In h) (h2 : twoUp K C = true) (hi : findIn K (.ref C) (dunderI op.info.2) = some none) (ho : ∀ M : Model, Looks M h (typeLookup (.type "object") (dunderI op.info.2)) none) : Looks M h (fillsInplaceSlot (.ref C) op.info.2 add) false := by
  intro A Q E s k q
  obtain ⟨cd, hc, hm0⟩ := any_some h2
  have hm : cd.mro = [.ref C, .type "object"] := beq_iff_eq.mp hm0
  have Lm : Looks M h (mroOf (.ref C)) cd.mro := (looks_clsIn X hc).andThen (f := fun cd => pure cd.mro) .now
  have Lm' := Lm.keeps k
  have L2 := (ho M).keeps k
  obtain ⟨hh, g, d, tt, os⟩ := s
  have X' : K.In hh := X.keeps k
  have L1 : Looks M hh (typeLookup (.ref C) (dunderI op.info.2)) none := looks_findIn X' hi
  unfold fillsInplaceSlot
  refine wpAny_bind (Lm'.at ?_)
  rw [hm, List.anyM_cons]
  refine wpAny_bind ?_
  repeat lk
  exact q
/-- what both of an own class's two-place operators come to: the left one's method -/
theorem bin1_same {nm : String} {b : Value} {Q : Value → Shared → Prop} (X : K.In s.heap) (I : InstAt s.heap x ox C od) (hb : Looks (model prog w) s.heap (typeOf b) (.ref C)) (hc : selfFirst K C = true)
    (hs : findIn K (.ref C) (PySem.dunder nm) = some (some (.ref f))) (hf : isFn K (.ref f) = true) (h : wpAny (model prog w) A (call (.ref f) [.ref x, b]) (W.CmpBack Q) E s) :
    wpAny (model prog w) A (binaryOp1 nm (.ref x) b) (fun r s' => ∃ v, r = some v ∧ Q v s') E s := by
  obtain ⟨cd, rest, hcd, hm⟩ := ksp_first hc
  have one := ksp_try X I hs hf h
  have Lf : Looks (model prog w) s.heap (fillsNumberSlot (.ref C) nm) true := fills_K X hcd hm hs
  unfold binaryOp1
  refine wpAny_bind (I.type.here (wpAny_bind (hb.here (wpAny_bind (Lf.here ?_)))))
  simp only [beq_self_eq_true, if_true]
  refine wpAny_bind (wpAny_pure ?_)
  simp only [Bool.and_false, Bool.false_eq_true, if_false, Bool.false_and]
  refine wpAny_bind (wpAny_pure ?_)
  simp only [Bool.false_eq_true, if_false]
  refine wpAny_bind (m := tryMethod (.ref x) _ b) (wpAny_mono one (fun r s' ⟨v, e, hq⟩ => ?_) fun _ _ e => e)
  subst e
  exact wpAny_pure ⟨v, rfl, hq⟩
theorem bin1_type {nm T : String} {b : Value} {fo ro rc : Option Value} {Q : Value → Shared → Prop} (X : K.In s.heap) (I : InstAt s.heap x ox C od) (hb : typeOf b = pure (.type T)) (hc : selfFirst K C = true)
    (hs : findIn K (.ref C) (PySem.dunder nm) = some (some (.ref f))) (hf : isFn K (.ref f) = true) (hr : findIn K (.ref C) (dunderR nm) = some rc) (hp : rc = none ∨ ∃ g : Addr, rc = some (.ref g))
    (h1 : findIn K (.type T) (PySem.dunder nm) = some fo) (h2 : findIn K (.type T) (dunderR nm) = some ro) (hsub : subIn K (.type T) (.ref C) = some false)
    (h : wpAny (model prog w) A (call (.ref f) [.ref x, b]) (W.CmpBack Q) E s) : wpAny (model prog w) A (binaryOp1 nm (.ref x) b) (fun r s' => ∃ v, r = some v ∧ Q v s') E s := by
  obtain ⟨cd, rest, hcd, hm⟩ := ksp_first hc
  have one := ksp_try X I hs hf h
  obtain ⟨hh, g, d, tk, os⟩ := s
  have M1 : Looks (model prog w) hh (typeOf (.ref x)) (.ref C) := I.type
  have M2 : Looks (model prog w) hh (typeOf b) (.type T) := Looks.of_pure hb
  have M3 : Looks (model prog w) hh (fillsNumberSlot (.ref C) nm) true := fills_K X hcd hm hs
  have M4 : Looks (model prog w) hh (fillsNumberSlot (.type T) nm) ((fo.isSome && !isSeqSlot fo) || (ro.isSome && !isSeqSlot ro)) := ksp_fillsT X h1 h2
  have M5 : Looks (model prog w) hh (isSubtype (.type T) (.ref C)) false := looks_subIn X hsub
  have M6 : Looks (model prog w) hh (numberSlotInPython (.ref C) nm) true := ksp_inPy X hs hr hp
  have M7 : Looks (model prog w) hh (numberSlotInPython (.type T) nm) false := Looks.of_pure rfl
  have M8 : Looks (model prog w) hh (typeLookup (.type T) (dunderR nm)) ro := looks_findIn X h2
  generalize ((fo.isSome && !isSeqSlot fo) || (ro.isSome && !isSeqSlot ro)) = right at M4
  have hne : (Value.ref C == Value.type T) = false := Bool.eq_false_iff.mpr fun q => by cases beq_iff_eq.mp q
  unfold binaryOp1
  refine wpAny_bind (M1.at (wpAny_bind (M2.at (wpAny_bind (M3.at ?_)))))
  simp only [hne, Bool.false_eq_true, if_false]
  cases right <;> (ksp_lk; refine wpAny_mono one (fun r s' hr' => ?_) fun _ _ e => e; obtain ⟨v, rfl, hq⟩ := hr'; ksp_lk; exact ⟨v, rfl, hq⟩)
theorem inpl_K {op : Operator} {b : Value} {Q : Value → Shared → Prop} (X : K.In s.heap) (I : InstAt s.heap x ox C od) (h2 : twoUp K C = true) (hi : findIn K (.ref C) (dunderI op.info.2) = some none) (ho : ∀ (M : Model) (h : Heap), Looks M h (typeLookup (.type "object") (dunderI op.info.2)) none)
    (h : wpAny (model prog w) A (binaryOp1 op.info.2 (.ref x) b) (fun r s' => ∃ v, r = some v ∧ Q v s') E s) : wpAny (model prog w) A (inplaceOp op (.ref x) b) Q E s := by
  have N : Looks (model prog w) s.heap (fillsInplaceSlot (.ref C) op.info.2 (op == .Add)) false := noInpl X h2 hi fun M => ho M _
  unfold inplaceOp
  refine wpAny_holding (wpAny_bind (I.type.here (wpAny_bind (N.here ?_))))
  rw [if_neg Bool.false_ne_true]
  refine wpAny_bind (wpAny_mono h (fun r s' hr' => ?_) fun _ _ e => e)
  obtain ⟨v, rfl, hq⟩ := hr'
  exact wpAny_pure hq
end
open L2
section
variable {X : Cx} {CX : CXT} {n k : Nat} {f f₁ C : Addr} {fd : FuncData} {ps : List Str} {sp : Sp} {E : XK}
/-- a op= b, the class without the in-place method -/
theorem iop_own {op : Operator} (T : Opc X.K C) (h2 : twoUp X.K C = true) (hi : PySem.W.findIn X.K (.ref C) (dunderI op.info.2) = some none) (ho : typeLookup (.type "object") (dunderI op.info.2) = pure none)
    (IO : IntOp op) (O : Op2 X.K C op.info.2 f) (F : FnOk X.prog X.w X.K X.mg X.base CX n f fd ps sp) (hr : Room n X.A) (hb : Binds X.K fd ps []) (hx : Passes CX X E) : OpR X (inplaceOp op) (rOwn C sp E) := by
  intro pins s σ H x y v u Q I rx ry h
  obtain ⟨⟨a, dx, fs, rfl, ha⟩, hy, q⟩ := h
  cases rx
  obtain ⟨mA, J, _⟩ := ins_get I.hok ha
  obtain ⟨od, J, _⟩ := J.look
  refine inpl_K I.kIn J h2 hi (fun M h => Looks.of_pure ho) ?_
  rcases hy with ⟨b, dy, gs, rfl, hb'⟩ | ⟨i, rfl⟩
  · cases ry
    obtain ⟨mB, J', _⟩ := ins_get I.hok hb'
    obtain ⟨od', J', _⟩ := J'.look
    exact bin1_same I.kIn J J'.type T.sf O.at_ O.fn (run_op F hr hb hx I (v2rr _ _) q)
  · obtain ⟨t, rfl⟩ := ry
    obtain ⟨fo, ro, e1, e2⟩ := IO.fo
    obtain ⟨g, e3⟩ := O.rr
    obtain ⟨rc, e4, e5⟩ : ∃ rc, PySem.W.findIn X.K (.ref C) (PySem.dunderR op.info.2) = some rc ∧ (rc = none ∨ ∃ g : Addr, rc = some (.ref g)) := by
      rcases e3 with e3 | e3
      · exact ⟨_, e3, .inl rfl⟩
      · exact ⟨_, e3, .inr ⟨g, rfl⟩⟩
    exact bin1_type (T := "int") I.kIn J rfl T.sf O.at_ O.fn e4 e5 (e1 _) (e2 _) nf_int (run_op F hr hb hx I (v2ri _ _ _) q)
/-! the operators' facts of int -/
theorem dec_fdiv : Declines Builtin.«int.__floordiv__» := by
  intro M A E s i t x ox Q hx hd h
  obtain ⟨hp, g', d, tk, os⟩ := s
  unfold Builtin.«int.__floordiv__» Builtin.Int.intBinary
  wp_walk using wpAny_loadPart' hx
  rw [hd]
  wp_walk using wpAny_loadPart' hx
  rw [hd]
  wp_walk
  exact h
theorem io_add : IntOp .Add := ⟨some (.builtin "int.__add__"), some (.builtin "int.__radd__"), fun K => (show PySem.fastLookup "int" (PySem.dunder "add") = _ by decide +kernel), fun K => (show PySem.fastLookup "int" (PySem.dunderR "add") = _ by decide +kernel)⟩
theorem ir_add : IntOpR .Add := ⟨⟨_, _, PySem.F.slot_int_add, PySem.F.entry_int_add, fun _ _ _ => PySem.F.args_int_add_2 _ _, dec_bin⟩, PySem.F.fills_int_add⟩
theorem io_sub : IntOp .Sub := ⟨some (.builtin "int.__sub__"), some (.builtin "int.__rsub__"), fun K => (show PySem.fastLookup "int" (PySem.dunder "sub") = _ by decide +kernel), fun K => (show PySem.fastLookup "int" (PySem.dunderR "sub") = _ by decide +kernel)⟩
theorem ir_sub : IntOpR .Sub := ⟨⟨_, _, PySem.F.slot_int_sub, PySem.F.entry_int_sub, fun _ _ _ => PySem.F.args_int_sub_2 _ _, dec_bin⟩, PySem.F.fills_int_sub⟩
theorem io_mul : IntOp .Mult := ⟨some (.builtin "int.__mul__"), some (.builtin "int.__rmul__"), fun K => (show PySem.fastLookup "int" (PySem.dunder "mul") = _ by decide +kernel), fun K => (show PySem.fastLookup "int" (PySem.dunderR "mul") = _ by decide +kernel)⟩
theorem ir_mul : IntOpR .Mult := ⟨⟨_, _, PySem.F.slot_int_mul, PySem.F.entry_int_mul, fun _ _ _ => PySem.F.args_int_mul_2 _ _, dec_bin⟩, PySem.F.fills_int_mul⟩
theorem io_floordiv : IntOp .FloorDiv := ⟨some (.builtin "int.__floordiv__"), some (.builtin "int.__rfloordiv__"), fun K => (show PySem.fastLookup "int" (PySem.dunder "floordiv") = _ by decide +kernel), fun K => (show PySem.fastLookup "int" (PySem.dunderR "floordiv") = _ by decide +kernel)⟩
theorem ir_floordiv : IntOpR .FloorDiv := ⟨⟨_, _, PySem.F.slot_int_floordiv, PySem.F.entry_int_floordiv, fun _ _ _ => PySem.F.args_int_floordiv_2 _ _, dec_fdiv⟩, PySem.F.fills_int_floordiv⟩
theorem io_mod : IntOp .Mod := ⟨some (.builtin "int.__mod__"), some (.builtin "int.__rmod__"), fun K => (show PySem.fastLookup "int" (PySem.dunder "mod") = _ by decide +kernel), fun K => (show PySem.fastLookup "int" (PySem.dunderR "mod") = _ by decide +kernel)⟩
theorem ir_mod : IntOpR .Mod := ⟨⟨_, _, PySem.F.slot_int_mod, PySem.F.entry_int_mod, fun _ _ _ => PySem.F.args_int_mod_2 _ _, dec_bin⟩, PySem.F.fills_int_mod⟩
theorem ic_lt : IntCmp .Lt := ⟨fun _ _ => rfl, ⟨_, _, PySem.F.slot_int_lt, PySem.F.entry_int_lt, fun _ _ _ => PySem.F.args_int_lt_2 _ _, dec_bin⟩⟩
theorem ic_le : IntCmp .LtE := ⟨fun _ _ => rfl, ⟨_, _, PySem.F.slot_int_le, PySem.F.entry_int_le, fun _ _ _ => PySem.F.args_int_le_2 _ _, dec_bin⟩⟩
theorem ic_gt : IntCmp .Gt := ⟨fun _ _ => rfl, ⟨_, _, PySem.F.slot_int_gt, PySem.F.entry_int_gt, fun _ _ _ => PySem.F.args_int_gt_2 _ _, dec_bin⟩⟩
theorem ic_ge : IntCmp .GtE := ⟨fun _ _ => rfl, ⟨_, _, PySem.F.slot_int_ge, PySem.F.entry_int_ge, fun _ _ _ => PySem.F.args_int_ge_2 _ _, dec_bin⟩⟩
theorem ic_eq : IntCmp .Eq := ⟨fun _ _ => rfl, ⟨_, _, PySem.F.slot_int_eq, PySem.F.entry_int_eq, fun _ _ _ => PySem.F.args_int_eq_2 _ _, dec_bin⟩⟩
theorem ic_ne : IntCmp .NotEq := ⟨fun _ _ => rfl, ⟨_, _, PySem.F.slot_int_ne, PySem.F.entry_int_ne, fun _ _ _ => PySem.F.args_int_ne_2 _ _, dec_bin⟩⟩
end
end Mo

namespace Mo
open PySem L2
/-! ### fractions in lowest terms -/
def Red (t b : Int) : Prop := 0 < b ∧ Int.gcd t b = 1
structure Norm (n d t b : Int) : Prop where
  pos : 0 < b
  gcd : Int.gcd t b = 1
  eq : t * d = n * b
  tle : t.natAbs ≤ n.natAbs
  ble : b.natAbs ≤ d.natAbs
theorem Norm.red {n d t b : Int} (h : Norm n d t b) : Red t b := ⟨h.pos, h.gcd⟩
def sg (n d : Int) : Int := if 0 < d then ((Nat.gcd n.natAbs d.natAbs : Nat) : Int) else -((Nat.gcd n.natAbs d.natAbs : Nat) : Int)
theorem sg_ne {n d : Int} (hd : d ≠ 0) : sg n d ≠ 0 := by
  have hg : 0 < Nat.gcd n.natAbs d.natAbs := Nat.gcd_pos_of_pos_right _ (by omega)
  unfold sg
  split <;> omega
theorem sg_le {n d : Int} (hd : d ≠ 0) : (sg n d).natAbs ≤ d.natAbs := by
  have hg : Nat.gcd n.natAbs d.natAbs ≤ d.natAbs := Nat.gcd_le_right _ (by omega)
  unfold sg
  split <;> omega
theorem norm_mk {n d : Int} (hd : d ≠ 0) : Norm n d (n.fdiv (sg n d)) (d.fdiv (sg n d)) := by
  have hg : 0 < Nat.gcd n.natAbs d.natAbs := Nat.gcd_pos_of_pos_right _ (by omega)
  have hne := sg_ne (n := n) hd
  have habs : (sg n d).natAbs = Int.gcd n d := by
    show _ = Nat.gcd n.natAbs d.natAbs
    unfold sg
    split <;> omega
  have hs1 : 0 < d → 0 < sg n d := fun h0 => by unfold sg; rw [if_pos h0]; omega
  have hs2 : d < 0 → sg n d < 0 := fun h0 => by unfold sg; rw [if_neg (by omega)]; omega
  have hn : sg n d ∣ n := by
    rw [← Int.natAbs_dvd, habs]
    exact Int.gcd_dvd_left n d
  have hdd : sg n d ∣ d := by
    rw [← Int.natAbs_dvd, habs]
    exact Int.gcd_dvd_right n d
  generalize sg n d = g at *
  obtain ⟨n', en⟩ := hn
  obtain ⟨d', ed⟩ := hdd
  subst en
  subst ed
  rw [Int.mul_fdiv_cancel_left _ hne, Int.mul_fdiv_cancel_left _ hne]
  have hp : 0 < g.natAbs := by omega
  have hgg : Int.gcd n' d' = 1 := by
    rw [Int.gcd_mul_left] at habs
    exact Nat.eq_of_mul_eq_mul_left hp (by rw [Nat.mul_one]; exact habs.symm)
  refine ⟨?_, hgg, ?_, ?_, ?_⟩
  · by_cases h0 : 0 < g * d'
    · exact Int.lt_of_mul_lt_mul_left (a := g) (by rw [Int.mul_zero]; exact h0) (Int.le_of_lt (hs1 h0))
    · have h1 : g * d' < 0 := by omega
      have h2 : 0 < (-g) * d' := by rw [Int.neg_mul]; omega
      exact Int.lt_of_mul_lt_mul_left (a := -g) (by rw [Int.mul_zero]; exact h2) (by have := hs2 h1; omega)
  · rw [Int.mul_left_comm, Int.mul_assoc]
  · rw [Int.natAbs_mul]
    exact Nat.le_mul_of_pos_left _ hp
  · rw [Int.natAbs_mul]
    exact Nat.le_mul_of_pos_left _ hp
theorem red_dvd {t b t' b' : Int} (h : Int.gcd t b = 1) (e : t * b' = t' * b) : b ∣ b' := by
  have h1 : b.natAbs ∣ t.natAbs * b'.natAbs := by
    rw [← Int.natAbs_mul, e, Int.natAbs_mul]
    exact Nat.dvd_mul_left _ _
  have h2 : Nat.Coprime b.natAbs t.natAbs := by
    show Nat.gcd b.natAbs t.natAbs = 1
    rw [Nat.gcd_comm]
    exact h
  exact Int.natAbs_dvd_natAbs.mp (h2.dvd_of_dvd_mul_left h1)
theorem red_eq {t b t' b' : Int} (h : Red t b) (h' : Red t' b') (e : t * b' = t' * b) : t = t' ∧ b = b' := by
  have d1 := red_dvd h.2 e
  have d2 := red_dvd h'.2 e.symm
  have hb : b = b' := Int.dvd_antisymm (Int.le_of_lt h.1) (Int.le_of_lt h'.1) d1 d2
  subst hb
  exact ⟨Int.eq_of_mul_eq_mul_right (by have := h.1; omega) e, rfl⟩
theorem red_iff {t b t' b' : Int} (h : Red t b) (h' : Red t' b') : (t = t' ∧ b = b') ↔ t * b' = t' * b :=
  ⟨fun ⟨e1, e2⟩ => by rw [e1, e2], red_eq h h'⟩
/-! ### sizes -/
def Sm (k : Nat) (n : Int) : Prop := n.natAbs < 2 ^ k
theorem Sm.mono {k j : Nat} {n : Int} (h : Sm k n) (hk : k ≤ j) : Sm j n := Nat.lt_of_lt_of_le h (Nat.pow_le_pow_right (by decide) hk)
theorem Sm.mul {k j : Nat} {n m : Int} (h : Sm k n) (h' : Sm j m) : Sm (k + j) (n * m) := wide_lt h h'
theorem Sm.add {k : Nat} {n m : Int} (h : Sm k n) (h' : Sm k m) : Sm (k + 1) (n + m) := by
  unfold Sm at *
  rw [Nat.pow_succ]
  omega
theorem Sm.sub {k : Nat} {n m : Int} (h : Sm k n) (h' : Sm k m) : Sm (k + 1) (n - m) := by
  unfold Sm at *
  rw [Nat.pow_succ]
  omega
theorem Sm.neg {k : Nat} {n : Int} (h : Sm k n) : Sm k (-n) := by
  unfold Sm at *
  omega
theorem Sm.le {k : Nat} {n m : Int} (h : Sm k m) (h' : n.natAbs ≤ m.natAbs) : Sm k n := Nat.lt_of_le_of_lt h' h
theorem Sm.of {k : Nat} {n m : Int} (h : -m ≤ n ∧ n ≤ m) (hm : m.natAbs < 2 ^ k) : Sm k n := Nat.lt_of_le_of_lt (by omega) hm
theorem Sm.cmul {k j : Nat} {n m : Int} (h : Sm k n) (h' : Sm j m) (h0 : 0 < k := by decide) (h1 : 0 < j := by decide) (hk : k + j ≤ 1000000 := by decide) : CMulW n m := wide_mul h h' h0 h1 hk
/-- // by a divisor that is not 0, below 2 ^ 9000 -/
def CDivNW (_ j : Int) : Prop := j ≠ 0 ∧ j.natAbs.log2 < 9000
theorem op_fdivNW {X : Cx} : OpR X (binaryOp .FloorDiv) (rI CDivNW fun i j => .int (i.fdiv j)) := opI fun i j _ _ _ _ _ hc q => PyProof.Rows.floordiv_int hc.1 q (.inl (PyProof.noPylong_of_log2 hc.2))
theorem Sm.cdiv {k : Nat} {i j : Int} (h : Sm k j) (h0 : j ≠ 0) (h1 : 0 < k := by decide) (hk : k ≤ 9000 := by decide) : CDivNW i j := ⟨h0, Nat.lt_of_lt_of_le (PySem.Flt.log2_lt_of h1 h) hk⟩
end Mo

namespace Mo
open PySem L2
open Evl (Ex)
/-! ### a moment as an object -/
def mf (t b : Int) : List (Str × V) := putF "bottom" (.int b) (putF "top" (.int t) [])
theorem ntb : ¬ (("top" : Str) = "bottom") := by decide +kernel
theorem mf_eq (t b : Int) : mf t b = ([("top", V.int t), ("bottom", V.int b)] : List (Str × V)) := by
  show (if ("top" : Str) = "bottom" then [(("top" : Str), V.int b)] else (("top" : Str), V.int t) :: putF "bottom" (V.int b) []) = ([("top", V.int t), ("bottom", V.int b)] : List (Str × V))
  rw [if_neg ntb]
  all_goals rfl
theorem mf_top (t b : Int) : (mf t b).lookup ("top" : Str) = some (.int t) := by
  unfold mf
  rw [lookup_putF, if_neg ntb, lookup_putF, if_pos rfl]
theorem mf_bottom (t b : Int) : (mf t b).lookup ("bottom" : Str) = some (.int b) := by
  unfold mf
  rw [lookup_putF, if_pos rfl]
theorem mf_no (t b : Int) {m : Str} (h1 : ¬ m = "bottom") (h2 : ¬ m = "top") : (mf t b).lookup m = none := by
  unfold mf
  rw [lookup_putF, if_neg h1, lookup_putF, if_neg h2]
  all_goals rfl
def Mo (C : Addr) (t b : Int) (v : V) (H : Hp) : Prop := ∃ a dx, v = .ref a ∧ H a = some (.ins C dx (mf t b))
theorem Mo.ex {C : Addr} {t b : Int} {v : V} {H H' : Hp} (h : Mo C t b v H) (e : Ex H H') : Mo C t b v H' := by
  obtain ⟨a, dx, r, q⟩ := h
  exact ⟨a, dx, r, e _ _ q⟩
theorem Mo.isC {C : Addr} {t b : Int} {v : V} {H : Hp} (h : Mo C t b v H) : IsC C v H := by
  obtain ⟨a, dx, r, q⟩ := h
  exact ⟨a, dx, _, r, q⟩
theorem Mo.par {C : Addr} {t b : Int} {v : V} {H : Hp} (h : Mo C t b v H) : Par C H v := by
  obtain ⟨a, dx, rfl, q⟩ := h
  exact .ins q
/-- the fraction of a time: a moment, or an int -/
def Tm (C : Addr) (t b : Int) (v : V) (H : Hp) : Prop := Mo C t b v H ∨ (v = .int t ∧ b = 1)
theorem Tm.ex {C : Addr} {t b : Int} {v : V} {H H' : Hp} (h : Tm C t b v H) (e : Ex H H') : Tm C t b v H' := h.elim (fun h => .inl (h.ex e)) .inr
theorem Tm.par {C : Addr} {t b : Int} {v : V} {H : Hp} (h : Tm C t b v H) : Par C H v := by
  rcases h with h | ⟨rfl, _⟩
  · exact h.par
  · exact .int _
theorem Tm.op {C : Addr} {t b : Int} {v : V} {H : Hp} (h : Tm C t b v H) : IsC C v H ∨ ∃ i, v = .int i := by
  rcases h with h | ⟨rfl, _⟩
  · exact .inl h.isC
  · exact .inr ⟨_, rfl⟩
/-! ### a def, a method, a class as the top has left them -/
section
variable (P : Program) (w : World) (K : PySem.W.Frag) (mg : Str → Option Value) (base : Heap)
/-- a def by its name, that keeps sp -/
def Ok (CX : CXT) (k : Nat) (x : Str) (ps : List Str) (sp : Sp) : Prop := ∃ f fd, FnOk P w K mg base CX k f fd ps sp ∧ mg x = some (.ref f) ∧ PySem.W.keepIn K (.ref f) = true ∧ Binds K fd ps []
/-- a method of the class at C -/
def OkM (C : Addr) (CX : CXT) (k : Nat) (x : Str) (ps : List Str) (sp : Sp) : Prop := ∃ f fd, FnOk P w K mg base CX k f fd ps sp ∧ PySem.W.findIn K (.ref C) x = some (some (.ref f)) ∧ PySem.W.isFn K (.ref f) = true ∧ PySem.W.keepIn K (.ref f) = true ∧ Binds K fd ps []
end
/-! ### promises -/
def spCell (K : PySem.W.Frag) : Sp := fun vs H Q _ => ∃ (l : Addr) (ns : List Int) (j : Int), vs = [.ref l, .int j] ∧ SqL K H l (ns.map V.int) ∧ 0 ≤ j ∧ ns.length ≤ 63 ∧ ∀ z : Int, Q (.int z) H
def spRow (K : PySem.W.Frag) : Sp := fun vs H Q _ => ∃ (c : Int) (l : Addr) (zs : List Int), vs = [.int c, .ref l] ∧ SqL K H l (zs.map V.int) ∧ zs.length ≤ 40 ∧ (∀ z ∈ zs, 0 < z ∧ z < 1073741824) ∧
  ∀ (p : Addr) (ys : List Int) (H' : Hp), Ex H H' → H' p = some (.lst (ys.map V.int)) → ys.length = zs.length → (∀ (i : Nat) (y z : Int), ys[i]? = some y → zs[i]? = some z → 0 ≤ y ∧ y < z) → Q (.ref p) H'
def spWhole : Sp := fun vs H Q _ => ∃ c m : Int, vs = [.int c, .int m] ∧ 0 < m ∧ Sm 1000 m ∧ ∀ z : Int, -m ≤ z → z ≤ m → Q (.int z) H
def spRatio : Sp := fun vs H Q _ => ∃ a b m : Int, vs = [.int a, .int b, .int m] ∧ 0 < m ∧ Sm 1000 m ∧ ∀ (t d : Int) (p : Addr) (H' : Hp), Ex H H' → H' p = some (.tup [.int t, .int d]) → -m ≤ t → t ≤ m → -m ≤ d → d ≤ m → d ≠ 0 → Q (.ref p) H'
def spGcd : Sp := fun vs H Q _ => ∃ a b : Int, vs = [.int a, .int b] ∧ Sm 8000 a ∧ Sm 8000 b ∧ Q (.int ((Int.gcd a b : Nat) : Int)) H
def spIsInt : Sp := fun vs H Q _ => ∃ a : Int, vs = [.int a] ∧ ∀ H', Ex H H' → Q (.bl true) H'
def spHolds (C : Addr) : Sp := fun vs H Q _ => ∃ (x : V) (t b n d : Int), vs = [x, .int n, .int d] ∧ Mo C t b x H ∧ Red t b ∧ t * d = n * b ∧ Sm 4000 t ∧ Sm 4000 b ∧ Sm 4000 n ∧ Sm 4000 d ∧ ∀ H', Ex H H' → Q (.bl true) H'
/-- Moment(n, d); CN: NoMoment -/
def spInit (C CN : Addr) : Sp := fun vs H Q E => ∃ (p dx : Addr) (n d : Int), vs = [.ref p, .int n, .int d] ∧ H p = some (.ins C dx []) ∧ Sm 8000 n ∧ Sm 8000 d ∧
  (d = 0 → ∀ (dd : Addr) (fs : List (Str × V)) (H' : Hp), H dd = none → fs.lookup ("top" : Str) = some (.int n) → fs.lookup ("bottom" : Str) = some (.int 0) → H' dd = some (.xd fs) → (∀ q o, H q = some o → H' q = some o) → E (.ref CN) (some dd) H') ∧
  (d ≠ 0 → ∀ t b : Int, Norm n d t b → Q .non (upd H p (.ins C dx (mf t b))))
end Mo
namespace Mo
open PySem L2
open Evl (Ex)
section
variable (P : Program) (w : World) (K : PySem.W.Frag) (mg : Str → Option Value) (base : Heap)
def psIn : List Str := ["self", "top", "bottom"]
/-- the class's maker -/
def OkI (C CN : Addr) : Prop := ∃ f fd ds, FnOk P w K mg base (L2.CX P w) 4 f fd psIn (spInit C CN) ∧ Mk K C f ∧ Binds K fd psIn [] ∧ Vals [.int 1] ds ∧ Binds K fd psIn ds
end
theorem made_ok {C : Addr} {H : Hp} {x dx : Addr} (t b : Int) (n1 : H x = none) (n2 : H dx = none) (h : dx ≠ x) :
    Ex H (upd (upd (upd H dx (.own x)) x (.ins C dx [])) x (.ins C dx (mf t b))) ∧ Mo C t b (.ref x) (upd (upd (upd H dx (.own x)) x (.ins C dx [])) x (.ins C dx (mf t b))) := by
  refine ⟨fun a o e => ?_, x, dx, rfl, upd_same⟩
  have q1 : a ≠ x := ne_of_none e n1
  have q2 : a ≠ dx := ne_of_none e n2
  rw [upd_ne q1, upd_ne q1, upd_ne q2]
  exact e
theorem mk_rd {C CN : Addr} {n d : Int} {H : Hp} {Q : VK} {E : XK} (sn : Sm 8000 n) (sd : Sm 8000 d) (hd : d ≠ 0) (k : ∀ (t b : Int) (v : V) (H' : Hp), Norm n d t b → Ex H H' → Mo C t b v H' → Q v H') :
    ∀ x dx, H x = none → H dx = none → dx ≠ x → spInit C CN (.ref x :: ([.int n, .int d] ++ [])) (upd (upd H dx (.own x)) x (.ins C dx [])) (fun v H2 => v = .non ∧ Q (.ref x) H2) E :=
  fun x dx n1 n2 n3 => ⟨x, dx, n, d, rfl, upd_same, sn, sd, fun z => absurd z hd, fun _ t b N => ⟨rfl, k t b _ _ N (made_ok t b n1 n2 n3).1 (made_ok t b n1 n2 n3).2⟩⟩
theorem mk_rd1 {C CN : Addr} {n : Int} {H : Hp} {Q : VK} {E : XK} (sn : Sm 8000 n) (k : ∀ (v : V) (H' : Hp), Ex H H' → Mo C n 1 v H' → Q v H') :
    ∀ x dx, H x = none → H dx = none → dx ≠ x → spInit C CN (.ref x :: ([.int n] ++ [.int 1])) (upd (upd H dx (.own x)) x (.ins C dx [])) (fun v H2 => v = .non ∧ Q (.ref x) H2) E :=
  fun x dx n1 n2 n3 => ⟨x, dx, n, 1, rfl, upd_same, sn, (by show (1 : Int).natAbs < 2 ^ 8000; exact Nat.lt_of_lt_of_le (by decide : (1 : Int).natAbs < 2 ^ 1) (Nat.pow_le_pow_right (by decide) (by decide))), fun z => absurd z (by decide), fun _ t b N => by
    have b1 : b = 1 := by
      have := N.pos
      have := N.ble
      omega
    have t1 : t = n := by
      have := N.eq
      rw [b1] at this
      omega
    rw [b1, t1]
    exact ⟨rfl, k _ _ (made_ok n 1 n1 n2 n3).1 (made_ok n 1 n1 n2 n3).2⟩⟩
def spIsTime (C : Addr) : Sp := fun vs H Q _ => ∃ (x : V) (t b : Int), vs = [x] ∧ Tm C t b x H ∧ ∀ H', Ex H H' → Q (.bl true) H'
def spAsM (C : Addr) : Sp := fun vs H Q _ => ∃ (x : V) (t b : Int), vs = [x] ∧ Tm C t b x H ∧ Sm 8000 t ∧ ∀ (v : V) (H' : Hp), Ex H H' → Mo C t b v H' → Q v H'
/-- a two-place operator: the exact fraction num / den, in lowest terms -/
def spBin (C : Addr) (num den : Int → Int → Int → Int → Int) : Sp := fun vs H Q _ => ∃ (x y : V) (t b t' b' : Int), vs = [x, y] ∧ Mo C t b x H ∧ Tm C t' b' y H ∧ 0 < b ∧ 0 < b' ∧ Sm 1900 t ∧ Sm 1900 b ∧ Sm 1900 t' ∧ Sm 1900 b' ∧
  ∀ (t2 b2 : Int) (v : V) (H' : Hp), Norm (num t b t' b') (den t b t' b') t2 b2 → Ex H H' → Mo C t2 b2 v H' → Q v H'
/-- its reflected twin: self the right operand -/
def spBinR (C : Addr) (num den : Int → Int → Int → Int → Int) : Sp := fun vs H Q _ => ∃ (x y : V) (t b t' b' : Int), vs = [x, y] ∧ Mo C t b x H ∧ Tm C t' b' y H ∧ 0 < b ∧ 0 < b' ∧ Sm 1900 t ∧ Sm 1900 b ∧ Sm 1900 t' ∧ Sm 1900 b' ∧
  ∀ (t2 b2 : Int) (v : V) (H' : Hp), Norm (num t' b' t b) (den t' b' t b) t2 b2 → Ex H H' → Mo C t2 b2 v H' → Q v H'
def nAdd (t b t' b' : Int) : Int := t * b' + t' * b
def nSub (t b t' b' : Int) : Int := t * b' - t' * b
def nMul (t _ t' _ : Int) : Int := t * t'
def dAll (_ b _ b' : Int) : Int := b * b'
end Mo
namespace Mo
open PySem L2
theorem sml {n : Int} {k : Nat} (h : n.natAbs < 2 ^ k) : Sm k n := h
theorem Sm.ofR {k : Nat} {n m : Int} (h1 : -m ≤ n) (h2 : n ≤ m) (hm : Sm k m) : Sm k n := Sm.of ⟨h1, h2⟩ hm
/-! exact arithmetic of fractions n / d, told by t / b -/
theorem add_eq {t2 b2 ta ba tb bb n1 d1 n2 d2 : Int} (N : Norm (nAdd ta ba tb bb) (dAll ta ba tb bb) t2 b2) (h1 : ta * d1 = n1 * ba) (h2 : tb * d2 = n2 * bb) (p1 : 0 < ba) (p2 : 0 < bb) : t2 * (d1 * d2) = (n1 * d2 + n2 * d1) * b2 := by
  have h : t2 * (ba * bb) = (ta * bb + tb * ba) * b2 := N.eq
  exact Int.eq_of_mul_eq_mul_left (Int.ne_of_gt (Int.mul_pos p1 p2)) (by grind)
theorem sub_eq {t2 b2 ta ba tb bb n1 d1 n2 d2 : Int} (N : Norm (nSub ta ba tb bb) (dAll ta ba tb bb) t2 b2) (h1 : ta * d1 = n1 * ba) (h2 : tb * d2 = n2 * bb) (p1 : 0 < ba) (p2 : 0 < bb) : t2 * (d1 * d2) = (n1 * d2 - n2 * d1) * b2 := by
  have h : t2 * (ba * bb) = (ta * bb - tb * ba) * b2 := N.eq
  exact Int.eq_of_mul_eq_mul_left (Int.ne_of_gt (Int.mul_pos p1 p2)) (by grind)
theorem mul_eq {t2 b2 ta ba tb bb n1 d1 n2 d2 : Int} (N : Norm (nMul ta ba tb bb) (dAll ta ba tb bb) t2 b2) (h1 : ta * d1 = n1 * ba) (h2 : tb * d2 = n2 * bb) (p1 : 0 < ba) (p2 : 0 < bb) : t2 * (d1 * d2) = (n1 * n2) * b2 := by
  have h : t2 * (ba * bb) = (ta * tb) * b2 := N.eq
  exact Int.eq_of_mul_eq_mul_left (Int.ne_of_gt (Int.mul_pos p1 p2)) (by grind)
theorem Norm.st {n d t b : Int} {k : Nat} (N : Norm n d t b) (h : Sm k n) : Sm k t := h.le N.tle
theorem Norm.sb {n d t b : Int} {k : Nat} (N : Norm n d t b) (h : Sm k d) : Sm k b := h.le N.ble
def spLaw (K : PySem.W.Frag) : Sp := fun vs H Q _ => ∃ (a : Addr) (ns : List Int), vs = [.ref a] ∧ SqL K H a (ns.map V.int) ∧ ns.length ≤ 63 ∧ ∀ H', Q (.bl true) H'
theorem _root_.L2.SqT.ex' {K : PySem.W.Frag} {H H' : Hp} {a : Addr} {xs : List V} (h : SqT K H a xs) (e : Evl.Ex H H') : SqT K H' a xs := Evl.ex_t e h
theorem _root_.L2.SqL.ex' {K : PySem.W.Frag} {H H' : Hp} {a : Addr} {xs : List V} (h : SqL K H a xs) (e : Evl.Ex H H') : SqL K H' a xs := Evl.ex_l e h
end Mo
namespace Mo
theorem eq_of {t a b n a' n' : Int} (z : t * a = n * b) (ha : a' = a := by first | rfl | exact Int.mul_comm _ _ | (simp only [Int.mul_one, Int.one_mul]; done))
    (hn : n' = n := by first | rfl | exact Int.mul_comm _ _ | omega | (simp only [Int.mul_one, Int.one_mul]; done) | (simp only [Int.mul_one, Int.one_mul]; omega)) : t * a' = n' * b := by rw [ha, hn, z]
end Mo
namespace Mo
open PySem L2
theorem kit_self {K : PySem.W.Frag} {C : Addr} : PySem.W.kitOne K (.ref C) (.ref C) = some true := by
  unfold PySem.W.kitOne
  rw [if_pos (beq_self_eq_true _)]
theorem kit_ct {K : PySem.W.Frag} {C : Addr} {T : String} {b : Bool} (h : PySem.W.subIn K (.ref C) (.type T) = some b) (hm : PySem.W.kitMeta T = true := by decide +kernel) : PySem.W.kitOne K (.ref C) (.type T) = some b := by
  unfold PySem.W.kitOne
  rw [if_neg (by intro z; cases beq_iff_eq.mp z)]
  show (if PySem.W.kitMeta T = true then PySem.W.subIn K (.ref C) (.type T) else none) = some b
  rw [if_pos hm, h]
theorem kit_tc {K : PySem.W.Frag} {C : Addr} {T : String} {b : Bool} (hc : PySem.W.isClsIn K C = true) (ht : PySem.W.typeIn K (.ref C) = some (.type "type")) (h : PySem.W.subIn K (.type T) (.ref C) = some b) : PySem.W.kitOne K (.type T) (.ref C) = some b := by
  unfold PySem.W.kitOne
  rw [if_neg (by intro z; cases beq_iff_eq.mp z)]
  have h2 : (PySem.W.clsIn K C).isSome = true := hc
  show (if ((PySem.W.clsIn K C).isSome && PySem.W.typeIn K (.ref C) == some (.type "type")) = true then PySem.W.subIn K (.type T) (.ref C) else none) = some b
  rw [if_pos (by rw [h2, ht]; rfl), h]
theorem two_up {K : PySem.W.Frag} {C : Addr} {cd : ClassData} (h : PySem.W.clsIn K C = some cd) (hm : cd.mro = [.ref C, .type "object"]) : twoUp K C = true := by
  unfold twoUp
  rw [h]
  show (cd.mro == [.ref C, .type "object"]) = true
  rw [hm]
  exact beq_self_eq_true _
end Mo

namespace Mo
open PySem L2
open Evl (Ex)
section
variable {X : Cx} {CX : CXT} {k : Nat} {f C : Addr} {fd : FuncData} {ps : List Str} {sp : Sp} {E : St → XK} {x m : Str} {p pos apos : Pos} {e o : Expr} {es : List Expr} {ta : TE} {t : TA} {dvs : List V} {ds : List Value}
/-- C(..) in a try: what its __init__ raises is wished for at the caller's slots -/
def tMakeS (C : Addr) (sp : Sp) (dvs : List V) (E : St → XK) (t : TA) : TE := fun σ H Q => t σ H fun vs H1 => ∀ x dx, H1 x = none → H1 dx = none → dx ≠ x →
  sp (.ref x :: (vs ++ dvs)) (upd (upd H1 dx (.own x)) x (.ins C dx [])) (fun v H2 => v = .non ∧ Q (.ref x) H2) (E σ)
theorem run_makeS {pins : List (Addr × Obj)} {σ : St} {H : Hp} {s : Shared} {Q : VK} {us : List Value} {vs : List V} (M : Mk X.K C f) (F : FnOk X.prog X.w X.K X.mg X.base CX k f fd ps sp) (hr : Room (k + 1) X.A) (hb : Binds X.K fd ps ds) (hd : Vals dvs ds)
    (hx : PassesAt CX X σ (E σ)) (I : Inv X pins σ H s) (r : Vals vs us)
    (h : ∀ x dx, H x = none → H dx = none → dx ≠ x → sp (.ref x :: (vs ++ dvs)) (upd (upd H dx (.own x)) x (.ins C dx [])) (fun v H2 => v = .non ∧ Q (.ref x) H2) (E σ)) :
    wpAny (model X.prog X.w) X.A (call (.ref C) us) (EP X pins σ Q) X.xe s := by
  have at_ := h (s.heap.objs.size + 1) s.heap.objs.size (I.hok.fresh (Nat.le_succ _)) (I.hok.fresh (Nat.le_refl _)) (Nat.ne_of_lt (Nat.lt_succ_self _))
  have made := Inv.made (C := C) I
  have rel : Vals (V.ref (s.heap.objs.size + 1) :: (vs ++ dvs)) (Value.ref (s.heap.objs.size + 1) :: (us ++ ds)) := .cons rfl (r.append hd)
  have len : (Value.ref (s.heap.objs.size + 1) :: us ++ ds).length = ps.length := by
    have z := rel.length
    rw [F.len _ _ _ _ at_] at z
    exact z.symm
  refine wpAny_call (make_map (f := f) I.kIn M.makes M.init (beq_iff_eq.mp M.fn) (codeAny_mono (F.run _ X.stack _ _ ⟨Value.ref (s.heap.objs.size + 1) :: us, []⟩ (Value.ref (s.heap.objs.size + 1) :: (us ++ ds)) _ _ (E σ) (hr.make C us []) (made.env0.make C us [])
    (hb _ (Value.ref (s.heap.objs.size + 1) :: us) made.kIn len) rel at_) fun res s' q => ?_))
  cases res with
  | error er => exact hx pins _ _ er s' made q
  | ok fl => cases fl with
    | ret u =>
      obtain ⟨v, H', J, rv, ev, q3⟩ := made.after q
      subst ev
      exact ⟨rv, V.ref (s.heap.objs.size + 1), H', J, rfl, q3⟩
    | next => exact q.elim
    | brk => exact q.elim
    | cont => exact q.elim
theorem pe_makeS (M : Mk X.K C f) (F : FnOk X.prog X.w X.K X.mg X.base CX k f fd ps sp) (hr : Room (k + 1) X.A) (hg : Gl X x) (hm : X.mg x = some (.ref C)) (hb : Binds X.K fd ps ds) (hd : Vals dvs ds) (hx : ∀ σ, PassesAt CX X σ (E σ)) (ha : PA X (e :: es) t)
    (hdb : (x == ("__debug__" : Str)) = false := by decide) (he : starEach (e :: es) X.env = (false, eval e X.env) :: starEach es X.env := by rfl) (hpl : (backTo pos (starEach es X.env)).any (·.1) = false := by rfl) :
    PE X (.Call (.Name x p) (e :: es) [] pos) (tMakeS C sp dvs E t) :=
  ⟨fun pins s σ H Q I h => wpAny_Call_Name_kw (ld_glob I hg hm (PySem.W.callWith_K (h₀ := X.base) I.ok.mod.kin M.kp (thn (ha.run pos pins s σ H _ I h) fun us s1 ⟨vs, H1, I1, r, q⟩ => ⟨I1.kIn, run_makeS M F hr hb hd (hx σ) I1 r q⟩) he hpl) hdb)⟩
end
/-- except C, for an error of C -/
theorem exm_own {K : PySem.W.Frag} {S : Addr} (h1 : PySem.W.subIn K (.ref S) (.type "BaseException") = some true) (h2 : PySem.W.isClsIn K S = true) (h3 : PySem.W.typeIn K (.ref S) = some (.type "type")) (h4 : PySem.W.subIn K (.ref S) (.ref S) = some true) : PySem.W.exmOne K (.ref S) (.ref S) = some true := by
  have h2' : (PySem.W.clsIn K S).isSome = true := h2
  show (if (PySem.W.subIn K (.ref S) (.type "BaseException") == some true) = true then (if ((PySem.W.clsIn K S).isSome && PySem.W.typeIn K (.ref S) == some (.type "type")) = true then PySem.W.subIn K (.ref S) (.ref S) else none) else none) = some true
  rw [if_pos (by rw [h1]; rfl), if_pos (by rw [h2', h3]; rfl), h4]
/-- what is no time -/
inductive Oth (H : Hp) : V → Prop where
  | str (z : Str) : Oth H (.str z)
  | non : Oth H .non
  | lst {a : Addr} {xs : List V} (e : H a = some (.lst xs)) : Oth H (.ref a)
  | tup {a : Addr} {xs : List V} (e : H a = some (.tup xs)) : Oth H (.ref a)
theorem Oth.par {C : Addr} {H : Hp} {y : V} (h : Oth H y) : Par C H y := by
  cases h with
  | str z => exact .str z
  | non => exact .non
  | lst e => exact .lst e
  | tup e => exact .tup e
/-- x == y -/
def spEq2 (C : Addr) : Sp := fun vs H Q _ => ∃ (x y : V) (t b : Int), vs = [x, y] ∧ Mo C t b x H ∧ ((∃ t' b' : Int, Mo C t' b' y H ∧ ∀ (k : Bool) (H' : Hp), Ex H H' → (k = true ↔ t = t' ∧ b = b') → Q (.bl k) H') ∨
  (∃ i : Int, y = .int i ∧ ∀ (k : Bool) (H' : Hp), Ex H H' → (k = true ↔ b = 1 ∧ t = i) → Q (.bl k) H') ∨ (Oth H y ∧ ∀ H', Ex H H' → Q (.bl false) H'))
/-- two lists of the same ints are equal -/
theorem op_eqL {X : Cx} {n : Nat} (hr : Room (n + 1) X.A) : OpR X (compareOp .Eq) (rEqG (DList DFlat)) := op_eqG (rcG_list mon_flat eqG_flat) (hr.mono (by omega))
theorem prs_ints : ∀ {H : Hp} (ns : List Int), Prs DFlat (ns.map V.int) (ns.map V.int) H
  | _, [] => .nil
  | _, n :: ns => .cons ⟨rfl, rfl, by simp [eqV]⟩ (prs_ints ns)
end Mo
namespace Mo
theorem iteB {c : Bool} {A B : Prop} (h : c = false) (hB : B) : if c = true then A else B := by
  subst h
  exact L2.iteF hB
theorem iteA {c : Bool} {A B : Prop} (h : c = true) (hA : A) : if c = true then A else B := by
  subst h
  exact L2.iteT hA
end Mo
namespace Mo
open PySem L2
open Evl (Ex)
/-- x < y and its like: what g says of the cross products -/
def spCmp (C : Addr) (g : Int → Int → Bool) : Sp := fun vs H Q _ => ∃ (x y : V) (t b t' b' : Int), vs = [x, y] ∧ Mo C t b x H ∧ Tm C t' b' y H ∧ Sm 1900 t ∧ Sm 1900 b ∧ Sm 1900 t' ∧ Sm 1900 b' ∧ ∀ H', Ex H H' → Q (.bl (g (t * b') (t' * b))) H'
def gLt (i j : Int) : Bool := decide (i < j)
def gLe (i j : Int) : Bool := decide (i ≤ j)
def gGt (i j : Int) : Bool := decide (j < i)
def gGe (i j : Int) : Bool := decide (j ≤ i)
/-- the two sides of a comparison: a moment first, or an int and a moment -/
def Two (C : Addr) (x : V) (t b : Int) (y : V) (t' b' : Int) (H : Hp) : Prop := (Mo C t b x H ∧ Tm C t' b' y H) ∨ ((x = .int t ∧ b = 1) ∧ Mo C t' b' y H)
theorem Two.ex {C : Addr} {x y : V} {t b t' b' : Int} {H H' : Hp} (h : Two C x t b y t' b' H) (e : Ex H H') : Two C x t b y t' b' H' := h.elim (fun h => .inl ⟨h.1.ex e, h.2.ex e⟩) fun h => .inr ⟨h.1, h.2.ex e⟩
/-- s: the sign of the first less the second -/
def spCompared (C : Addr) : Sp := fun vs H Q _ => ∃ (x y : V) (t b t' b' s : Int), vs = [x, y, .int s] ∧ Two C x t b y t' b' H ∧ Red t b ∧ Red t' b' ∧ Sm 1900 t ∧ Sm 1900 b ∧ Sm 1900 t' ∧ Sm 1900 b' ∧ (s < 0 ↔ t * b' < t' * b) ∧ (s = 0 ↔ t * b' = t' * b) ∧ ∀ H', Ex H H' → Q (.bl true) H'
theorem prs_flat : ∀ {H : Hp} {xs : List V}, (∀ x ∈ xs, flatV x = true ∧ eqV x x = true) → Prs DFlat xs xs H
  | _, [], _ => .nil
  | _, x :: xs, h => .cons ⟨(h x List.mem_cons_self).1, (h x List.mem_cons_self).1, (h x List.mem_cons_self).2⟩ (prs_flat fun y hy => h y (List.mem_cons_of_mem _ hy))
theorem red_one (i : Int) : Red i 1 := ⟨by decide, by unfold Int.gcd; simp⟩
/-- what a comparison by the own method, or by the int's side, hands on -/
theorem cmp_two {C : Addr} {x y : V} {t b t' b' : Int} {H : Hp} {g g' : Int → Int → Bool} {Q : VK} (h : Two C x t b y t' b' H) (st : Sm 1900 t) (sb : Sm 1900 b) (st' : Sm 1900 t') (sb' : Sm 1900 b') (hg : ∀ i j, g' i j = g j i)
    (k : ∀ H', Ex H H' → Q (.bl (g (t * b') (t' * b))) H') : rCmp C (spCmp C g) E0 x y H Q ∨ rCmpR C (spCmp C g') E0 x y H Q := by
  rcases h with ⟨h1, h2⟩ | ⟨⟨h1, h1'⟩, h2⟩
  · exact .inl ⟨h1.isC, h2.par, x, y, t, b, t', b', rfl, h1, h2, st, sb, st', sb', k⟩
  · refine .inr ⟨⟨t, h1⟩, h2.isC, y, x, t', b', t, b, rfl, h2, .inr ⟨h1, h1'⟩, st', sb', st, sb, fun H' e => ?_⟩
    rw [hg]
    exact k H' e
theorem eq_two {C : Addr} {x y : V} {t b t' b' : Int} {H : Hp} {Q : VK} (h : Two C x t b y t' b' H) (r : Red t b) (r' : Red t' b') (k : ∀ H', Ex H H' → Q (.bl (decide (t * b' = t' * b))) H') : rCmp C (spEq2 C) E0 x y H Q ∨ rCmpR C (spEq2 C) E0 x y H Q := by
  have fin : ∀ (c : Bool) (H' : Hp), Ex H H' → (c = true ↔ t * b' = t' * b) → Q (.bl c) H' := fun c H' e hc => by
    have q : c = decide (t * b' = t' * b) := Bool.eq_iff_iff.mpr (hc.trans (decide_eq_true_iff).symm)
    rw [q]
    exact k H' e
  rcases h with ⟨h1, h2 | ⟨h2, h2'⟩⟩ | ⟨⟨h1, h1'⟩, h2⟩
  · exact .inl ⟨h1.isC, h2.par, x, y, t, b, rfl, h1, .inl ⟨t', b', h2, fun c H' e hc => fin c H' e (hc.trans (red_iff r r'))⟩⟩
  · subst h2'
    refine .inl ⟨h1.isC, by rw [h2]; exact .int _, x, y, t, b, rfl, h1, .inr (.inl ⟨t', h2, fun c H' e hc => fin c H' e (hc.trans ?_)⟩)⟩
    rw [← red_iff r r']
    exact ⟨fun z => ⟨z.2, z.1⟩, fun z => ⟨z.2, z.1⟩⟩
  · subst h1'
    refine .inr ⟨⟨t, h1⟩, h2.isC, y, x, t', b', rfl, h2, .inr (.inl ⟨t, h1, fun c H' e hc => fin c H' e (hc.trans ?_)⟩)⟩
    rw [← red_iff r r']
    exact ⟨fun z => ⟨z.2.symm, z.1.symm⟩, fun z => ⟨z.2.symm, z.1.symm⟩⟩
theorem ne_two {C : Addr} {x y : V} {t b t' b' : Int} {H : Hp} {Q : VK} (h : Two C x t b y t' b' H) (r : Red t b) (r' : Red t' b') (k : ∀ H', Ex H H' → Q (.bl (!decide (t * b' = t' * b))) H') : rNeO C (spEq2 C) E0 x y H Q ∨ rNeOR C (spEq2 C) E0 x y H Q := by
  rcases eq_two (Q := fun v H' => ∃ c, v = .bl c ∧ Q (.bl (!c)) H') h r r' (fun H' e => ⟨_, rfl, k H' e⟩) with z | z
  · exact .inl z
  · exact .inr z
end Mo
namespace Mo
open PySem L2
open Evl (Ex)
/-- a value that is no list and no dict -/
inductive Plain (K : PySem.W.Frag) (H : Hp) : V → Prop where
  | int (i : Int) : Plain K H (.int i)
  | str (z : Str) : Plain K H (.str z)
  | ins {C a dx : Addr} {fs : List (Str × V)} (e : H a = some (.ins C dx fs)) (ty : ∀ {H' : Hp} {fs : List (Str × V)}, H' a = some (.ins C dx fs) → TyX K H' (.ref a) (.ref C))
      (l : PySem.W.kitOne K (.ref C) (.type "list") = some false) (d : PySem.W.kitOne K (.ref C) (.type "dict") = some false) : Plain K H (.ref a)
theorem Plain.ty {K : PySem.W.Frag} {H : Hp} {x : V} (h : Plain K H x) : ∃ t, TyX K H x t ∧ PySem.W.kitOne K t (.type "list") = some false ∧ PySem.W.kitOne K t (.type "dict") = some false := by
  cases h with
  | int i => exact ⟨_, .base (.int _), kit_ty (by decide +kernel), kit_ty (by decide +kernel)⟩
  | str z => exact ⟨_, .base (.str _), kit_ty (by decide +kernel), kit_ty (by decide +kernel)⟩
  | ins e ty l d => exact ⟨_, ty e, l, d⟩
theorem Plain.keep {K : PySem.W.Frag} {H H' : Hp} {x : V} (h : Plain K H x) (k : ∀ (q C dx : Addr) (fs : List (Str × V)), H q = some (.ins C dx fs) → H' q = some (.ins C dx fs)) : Plain K H' x := by
  cases h with
  | int i => exact .int i
  | str z => exact .str z
  | ins e ty l d => exact .ins (k _ _ _ _ e) ty l d
theorem Plain.ex {K : PySem.W.Frag} {H H' : Hp} {x : V} (h : Plain K H x) (e : Ex H H') : Plain K H' x := h.keep fun _ _ _ _ q => e _ _ q
/-- _kept(x) -/
def spKept (K : PySem.W.Frag) : Sp := fun vs H Q _ => ∃ x, vs = [x] ∧ Plain K H x ∧ Q x H
/-- what a store into an error leaves of the instances -/
theorem ins_st {H : Hp} {a dx C' : Addr} {u v : HO} (ha : H a = some (exo a C' none)) (hd : H dx = none) : ∀ (q C dx' : Addr) (fs : List (Str × V)), H q = some (.ins C dx' fs) → upd (upd H dx u) a v q = some (.ins C dx' fs) := fun q C d fs e => by
  rw [upd_ne (ne_of e ha (by intro z; cases z)), upd_ne (ne_of_none e hd)]
  exact e
end Mo

namespace Mo
open PySem PySem.W PySem.Calls PyProof.Rows
section
variable {prog : Program} {w : World} {A : Around} {E : Value → Shared → Prop} {s : Shared} {K : Frag} {x C f : Addr} {ox : Obj} {od : Option Obj}
/-- abs(x) by the class's own method -/
theorem abs_K {Q : Value → Shared → Prop} (X : K.In s.heap) (I : InstAt s.heap x ox C od) (hs : findIn K (.ref C) "__abs__" = some (some (.ref f))) (hf : isFn K (.ref f) = true)
    (h : wpAny (model prog w) A.in1 (call (.ref f) [.ref x]) Q E s) : wpAny (model prog w) A (call (.builtin "abs") [.ref x]) Q E s := by
  refine Calls.call_function_entry kind_abs plain_abs entry_abs (args_abs _) ?_
  unfold Builtin.«abs»
  refine wpAny_bind (m := oneArg "abs" _) (wpAny_pure ?_)
  refine wpAny_bind (m := callSpecial? (.ref x) (Str.ofString "__abs__")) (special_fn X I hs (beq_iff_eq.mp hf) (wpAny_mono h (fun v s' q => ?_) fun _ _ z => z))
  exact wpAny_pure ⟨v, rfl, q⟩
theorem truth_K {M : Model} {Q : Bool → Shared → Prop} (X : K.In s.heap) (I : InstAt s.heap x ox C od) (hs : findIn K (.ref C) "__bool__" = some (some (.ref f))) (hf : isFn K (.ref f) = true)
    (h : wpAny M A (call (.ref f) [.ref x]) (fun v s' => ∃ b, v = .bool b ∧ Q b s') E s) : wpAny M A (truthy (.ref x)) Q E s := by
  unfold truthy
  refine wpAny_bind (m := callSpecial? (.ref x) (Str.ofString "__bool__")) (special_fn X I hs (beq_iff_eq.mp hf) (wpAny_mono h (fun r s' hr => ?_) fun _ _ y => y))
  obtain ⟨b, rfl, q⟩ := hr
  exact wpAny_pure q
/-- bool(x) by the class's own method -/
theorem bool_K {Q : Value → Shared → Prop} (X : K.In s.heap) (I : InstAt s.heap x ox C od) (hs : findIn K (.ref C) "__bool__" = some (some (.ref f))) (hf : isFn K (.ref f) = true)
    (h : wpAny (model prog w) A.in1.in1 (call (.ref f) [.ref x]) (fun v s' => ∃ b, v = .bool b ∧ Q (.bool b) s') E s) : wpAny (model prog w) A (call (.type "bool") [.ref x]) Q E s := by
  refine callType_newIn (S := fun A R s => K.In s.heap ∧ InstAt s.heap x ox C od ∧ wpAny (model prog w) A.in1 (call (.ref f) [.ref x]) (fun v s' => ∃ b, v = .bool b ∧ R (.ok (.ret (.bool b))) s') (fun e s' => R (.error e) s') s) F.called_bool F.newNe_bool (F.typeCall_bool_1 _) (F.newCall_bool_1 _) (fun obj => F.args_object_init_2 obj _) F.entry_bool_new (fun A R s ⟨X, I, h⟩ => ?_) ⟨X, I, wpAny_mono h (fun v s' ⟨b, e, q⟩ => ⟨b, e, rfl, q⟩) fun _ _ z => z⟩
  have f1 := F.conv_sub_bool
  have tr : wpAny (model prog w) A.in1 (truthy (.ref x)) (fun b s' => R (.ok (.ret (.bool b))) s') (fun e s' => R (.error e) s') s := truth_K X I hs hf h
  obtain ⟨hp, g, d, tk, os⟩ := s
  unfold Builtin.«bool.__new__»
  repeat (any_goals (first | assumption | (refine wpAny_bind (m := truthy (.ref x)) (wpAny_mono tr (fun b s' q => ?_) fun _ _ z => z)) | wp_step))
  all_goals first | exact q | exact wpAny_pure q | skip
end
open L2
section
variable {X : Cx} {CX : CXT} {n k : Nat} {f C : Addr} {fd : FuncData} {ps : List Str} {sp : Sp} {E : XK}
/-- a method run wherever the frames are ours -/
theorem run_any {A : Around} (F : FnOk X.prog X.w X.K X.mg X.base CX n f fd ps sp) (hr : Room n A) (fr : A.frames = X.A.frames) (hb : Binds X.K fd ps []) (hx : Passes CX X E) {pins : List (Addr × Obj)} {s : Shared} {σ : L2.St} {H : Hp} {xs : List V} {us : List Value} {Q : VK}
    (I : Inv X pins σ H s) (r : Vals xs us) (h : sp xs H Q E) : wpAny (model X.prog X.w) A (call (.ref f) us) (EP X pins σ Q) X.xe s := by
  have e0 : Env0 X.prog X.w X.K X.mg X.base A X.stack s H := ⟨by rw [fr]; exact I.env0.frames, I.env0.mod, I.env0.bs, I.env0.bsz, I.env0.funs, I.env0.frf, I.env0.hok, I.env0.bare⟩
  have hl : us.length = ps.length := by rw [← r.length]; exact F.len _ _ _ _ h
  have bb := hb s us I.kIn (by rw [List.append_nil]; exact hl)
  rw [List.append_nil] at bb
  refine wpAny_call (codeAny_mono (F.run A X.stack s H ⟨us, []⟩ us xs _ E hr e0 bb r h) fun res s' q => ?_)
  cases res with
  | error e => exact hx pins σ H s e s' I q
  | ok fl => cases fl with
    | ret u => exact I.after q
    | next => exact q.elim
    | brk => exact q.elim
    | cont => exact q.elim
def rOne (C : Addr) (sp : Sp) (E : XK) : V → Hp → VK → Prop := fun x H Q => IsC C x H ∧ sp [x] H Q E
theorem v1r (a : Addr) : Vals [V.ref a] [Value.ref a] := .cons rfl .nil
theorem un_own (hs : PySem.W.findIn X.K (.ref C) "__neg__" = some (some (.ref f))) (hf : PySem.W.isFn X.K (.ref f) = true) (F : FnOk X.prog X.w X.K X.mg X.base CX n f fd ps sp) (hr : Room n X.A) (hb : Binds X.K fd ps []) (hx : Passes CX X E) : UnR X (unaryOp .USub) (rOne C sp E) := by
  intro pins s σ H x v Q I rx h
  obtain ⟨⟨a, dx, fs, rfl, ha⟩, q⟩ := h
  cases rx
  obtain ⟨mA, J, _⟩ := ins_get I.hok ha
  obtain ⟨od, J, _⟩ := J.look
  obtain ⟨m, hF⟩ := I.fr
  exact PySem.W.ksp_neg hF I.ok.mod.kin J hs hf (run_any F hr rfl hb hx I (v1r a) q)
def rOneA (C : Addr) (sp : Sp) (E : XK) : List V → Hp → VK → Prop := fun vs H Q => ∃ x, vs = [x] ∧ IsC C x H ∧ sp [x] H Q E
theorem abs_own (hs : PySem.W.findIn X.K (.ref C) "__abs__" = some (some (.ref f))) (hf : PySem.W.isFn X.K (.ref f) = true) (F : FnOk X.prog X.w X.K X.mg X.base CX n f fd ps sp) (hr : Room (n + 1) X.A) (hb : Binds X.K fd ps []) (hx : Passes CX X E) : CallR X (.builtin "abs") (rOneA C sp E) := by
  intro pins s σ H vs us Q I r h
  obtain ⟨x, rfl, ⟨a, dx, fs, rfl, ha⟩, q⟩ := h
  obtain ⟨u, rfl, ru⟩ := vals1 r
  cases ru
  obtain ⟨mA, J, _⟩ := ins_get I.hok ha
  obtain ⟨od, J, _⟩ := J.look
  exact abs_K I.kIn J hs hf (run_any F hr.in1 rfl hb hx I (v1r a) q)
/-- bool(x) -/
def rBoolA (C : Addr) (sp : Sp) (E : XK) : List V → Hp → VK → Prop := fun vs H Q => ∃ x, vs = [x] ∧ IsC C x H ∧ sp [x] H (fun v H' => ∃ k, v = .bl k ∧ Q (.bl k) H') E
theorem bool_own (hs : PySem.W.findIn X.K (.ref C) "__bool__" = some (some (.ref f))) (hf : PySem.W.isFn X.K (.ref f) = true) (F : FnOk X.prog X.w X.K X.mg X.base CX n f fd ps sp) (hr : Room (n + 2) X.A) (hb : Binds X.K fd ps []) (hx : Passes CX X E) : CallR X (.type "bool") (rBoolA C sp E) := by
  intro pins s σ H vs us Q I r h
  obtain ⟨x, rfl, ⟨a, dx, fs, rfl, ha⟩, q⟩ := h
  obtain ⟨u, rfl, ru⟩ := vals1 r
  cases ru
  obtain ⟨mA, J, _⟩ := ins_get I.hok ha
  obtain ⟨od, J, _⟩ := J.look
  have z := run_any (Q := fun v H' => ∃ k, v = .bl k ∧ Q (.bl k) H') F hr.in1.in1 rfl hb hx I (v1r a) q
  refine bool_K I.kIn J hs hf (wpAny_mono z (fun v s' y => ?_) fun _ _ e => e)
  obtain ⟨v', H', I', ry, k, rfl, q'⟩ := y
  cases ry
  exact ⟨k, rfl, .bl k, H', I', rfl, q'⟩
end
section
variable {X : Cx} {CX : CXT} {k : Nat} {f C : Addr} {fd : FuncData} {ps : List Str} {sp : Sp} {E : L2.St → XK} {x m : Str} {p pos apos : Pos} {e o : Expr} {es : List Expr} {ta : TE} {t : TA}
/-- o.m(e, ..) in a try -/
def tMethS (C : Addr) (m : Str) (sp : Sp) (E : L2.St → XK) (ta : TE) (t : TA) : TE := fun σ H Q => ta σ H fun x H1 => ∃ a dx fs, x = .ref a ∧ H1 a = some (.ins C dx fs) ∧ fs.lookup m = none ∧ t σ H1 fun vs H2 => sp (x :: vs) H2 Q (E σ)
theorem pe_methS {pl : Sem Bool} (he : PE X o ta) (c : Cls X.K C) (hm : Meth X.K C m f) (F : FnOk X.prog X.w X.K X.mg X.base CX k f fd ps sp) (hr : Room k X.A) (hb : Binds X.K fd ps []) (hx : ∀ σ, PassesAt CX X σ (E σ)) (ha : PA X (e :: es) t)
    (hst : starEach (e :: es) X.env = (false, eval e X.env) :: starEach es X.env := by rfl) (hpl : (backTo pos (starEach es X.env)).any (·.1) = false := by rfl)
    (ht : eval (.Call (.Attribute o m apos) (e :: es) [] pos) X.env = (do
      let ov ← eval o X.env
      standAt apos.atName
      let (f, first) ← holding [ov] (getMethod ov m pl)
      callWith pos f first (backTo pos (starEach (e :: es) X.env)) (backToKw pos (keywordEach [] X.env))) := by rfl) :
    PE X (.Call (.Attribute o m apos) (e :: es) [] pos) (tMethS C m sp E ta t) := by
  refine ⟨fun pins s σ H Q I h => PySem.W.methodCall_KW (pl := pl) (thn (he.run pins s σ H _ I h) fun u s1 ⟨x, H1, I1, rx, a, dx, fs, ex, ea, l, q⟩ => ?_) ht⟩
  subst ex
  obtain rfl : u = Value.ref a := rx
  refine getmeth_ok I1 ea c hm l ?_
  exact PySem.W.callWith_K (first := [.ref a]) (h₀ := X.base) I.ok.mod.kin hm.kp (thn (ha.run pos pins s1 σ H1 _ I1 q) fun us s2 ⟨vs, H2, I2, r, q2⟩ => ⟨I2.kIn, run_fnS F hr hb (hx σ) I2 (us := .ref a :: us) (vs := .ref a :: vs) (.cons rfl r) q2⟩) hst hpl
end
theorem io_pow : IntOp .Pow := ⟨some (.builtin "int.__pow__"), some (.builtin "int.__rpow__"), fun K => (show PySem.fastLookup "int" (PySem.dunder "pow") = _ by decide +kernel), fun K => (show PySem.fastLookup "int" (PySem.dunderR "pow") = _ by decide +kernel)⟩
theorem exm_ZD {K : PySem.W.Frag} : PySem.W.exmOne K (.type "ZeroDivisionError") (.type "ZeroDivisionError") = some true := by kernel_rfl
/-- i // j where j may be 0, in a def or a try that takes the error -/
def tFdivX (W : WX) (ta tb : TE) : TE := fun σ H Q => ta σ H fun x H1 => tb σ H1 fun y H2 => ∃ i j, x = .int i ∧ y = .int j ∧ ((CDivNW i j ∧ Q (.int (i.fdiv j)) H2) ∨ (j = 0 ∧ ∀ d, W (.type "ZeroDivisionError") d σ H2))
theorem pe_fdivX {X : Cx} {W : WX} {a b : Expr} {ta tb : TE} {pos : Pos} (hc : X.calm = true) (tk : Takes X W) (ha : PE X a ta) (hb : PE X b tb) : PE X (.BinOp a .FloorDiv b pos) (tFdivX W ta tb) := by
  refine ⟨fun pins s σ H Q I h => wpAny_BinOp (binT ha hb I h fun v u s2 x y H2 I2 rx ry q => ?_)⟩
  obtain ⟨i, j, rfl, rfl, q⟩ := q
  rcases q with ⟨hd, q⟩ | ⟨rfl, q⟩
  · exact op_fdivNW pins s2 σ H2 _ _ _ _ Q I2 rx ry ⟨i, j, rfl, rfl, hd, q⟩
  · obtain ⟨t, rfl⟩ := rx
    obtain ⟨t', rfl⟩ := ry
    exact PySem.AutoIntOps.floordiv_0 rfl ⟨I2.ok.hd hc, fun h' tk' e hx => takes_new (t' := tk') tk I2 hx q⟩
end Mo
namespace Mo
open PySem L2
open Evl (Ex)
/-- x.over(y) -/
def spOver (C : Addr) : Sp := fun vs H Q E => ∃ (x y : V) (t b t' b' : Int), vs = [x, y] ∧ Mo C t b x H ∧ Tm C t' b' y H ∧ 0 < b ∧ Sm 1900 t ∧ Sm 1900 b ∧ Sm 1900 t' ∧ Sm 1900 b' ∧ (t' = 0 → ∀ d H', Ex H H' → E (.type "ZeroDivisionError") d H') ∧
  (t' ≠ 0 → ∀ (t2 b2 : Int) (v : V) (H' : Hp), Norm (t * b') (b * t') t2 b2 → Ex H H' → Mo C t2 b2 v H' → Q v H')
def spPow (C : Addr) : Sp := fun vs H Q _ => ∃ (x : V) (t b n : Int), vs = [x, .int n] ∧ Mo C t b x H ∧ 0 < b ∧ 0 ≤ n ∧ n ≤ 100 ∧ (∀ i : Nat, i ≤ n.toNat → Sm 3900 (t ^ i) ∧ Sm 3900 (b ^ i)) ∧ Sm 1900 t ∧ Sm 1900 b ∧
  ∀ (t2 b2 : Int) (v : V) (H' : Hp), Norm (t ^ n.toNat) (b ^ n.toNat) t2 b2 → Ex H H' → Mo C t2 b2 v H' → Q v H'
def spNeg (C : Addr) : Sp := fun vs H Q _ => ∃ (x : V) (t b : Int), vs = [x] ∧ Mo C t b x H ∧ 0 < b ∧ Sm 1900 t ∧ Sm 1900 b ∧ ∀ (t2 b2 : Int) (v : V) (H' : Hp), Norm (-t) b t2 b2 → Ex H H' → Mo C t2 b2 v H' → Q v H'
def spAbs (C : Addr) : Sp := fun vs H Q _ => ∃ (x : V) (t b : Int), vs = [x] ∧ Mo C t b x H ∧ 0 < b ∧ Sm 1900 t ∧ Sm 1900 b ∧ ∀ (t2 b2 : Int) (v : V) (H' : Hp), Norm (if t < 0 then -t else t) b t2 b2 → Ex H H' → Mo C t2 b2 v H' → Q v H'
def spBool (C : Addr) : Sp := fun vs H Q _ => ∃ (x : V) (t b : Int), vs = [x] ∧ Mo C t b x H ∧ Q (.bl (t != 0)) H
def spPower : Sp := fun vs H Q _ => ∃ (t n : Int), vs = [.int t, .int n] ∧ 0 ≤ n ∧ n ≤ 100 ∧ Sm 1900 t ∧ (∀ i : Nat, i ≤ n.toNat → Sm 3900 (t ^ i)) ∧ Q (.int (t ^ n.toNat)) H
def spQuot (C : Addr) : Sp := fun vs H Q _ => ∃ (x y : V) (t b n d t' b' n' d' : Int), vs = [x, y, .int n, .int d, .int n', .int d'] ∧ Mo C t b x H ∧ Tm C t' b' y H ∧ t * d = n * b ∧ t' * d' = n' * b' ∧ 0 < b ∧ 0 < b' ∧ d' ≠ 0 ∧
  Sm 1900 t ∧ Sm 1900 b ∧ Sm 1900 t' ∧ Sm 1900 b' ∧ Sm 1900 n ∧ Sm 1900 d ∧ Sm 1900 n' ∧ Sm 1900 d' ∧ ∀ H', Ex H H' → Q (.bl true) H'
theorem sm_pow {k : Nat} {t : Int} (h : Sm k t) (n : Nat) : Sm (k * n + 1) (t ^ n) := by
  unfold Sm at *
  rw [Int.natAbs_pow, Nat.pow_succ]
  have h1 : t.natAbs ^ n ≤ (2 ^ k) ^ n := Nat.pow_le_pow_left (Nat.le_of_lt h) n
  rw [← Nat.pow_mul] at h1
  have h2 : 0 < 2 ^ (k * n) := Nat.pow_pos (by decide)
  omega
theorem sm_pows {k : Nat} {t : Int} {n : Int} (h : Sm k t) (hn : k * n.toNat ≤ 3899) : ∀ i : Nat, i ≤ n.toNat → Sm 3900 (t ^ i) := fun i hi => (sm_pow h i).mono (by have := Nat.mul_le_mul_left k hi; omega)
theorem over_eq {t b n d t' b' n' d' t2 b2 : Int} (N : Norm (t * b') (b * t') t2 b2) (h1 : t * d = n * b) (h2 : t' * d' = n' * b') (p1 : 0 < b) (p2 : 0 < b') : t2 * (d * n') = (n * d') * b2 := by
  have h := N.eq
  exact Int.eq_of_mul_eq_mul_left (Int.ne_of_gt (Int.mul_pos p1 p2)) (by grind)
theorem pow_eq {t b n d t2 b2 : Int} {m : Nat} (N : Norm (t ^ m) (b ^ m) t2 b2) (h1 : t * d = n * b) (p1 : 0 < b) : t2 * d ^ m = n ^ m * b2 := by
  have h := N.eq
  have e : t ^ m * d ^ m = n ^ m * b ^ m := by rw [← Int.mul_pow, ← Int.mul_pow, h1]
  generalize t ^ m = tm at *
  generalize d ^ m = dm at *
  generalize n ^ m = nm at *
  have p2 : 0 < b ^ m := Int.pow_pos p1
  generalize b ^ m = bm at *
  exact Int.eq_of_mul_eq_mul_left (Int.ne_of_gt p2) (by grind)
theorem neg_eq' {t b n d t2 b2 : Int} (N : Norm (-t) b t2 b2) (h1 : t * d = n * b) (p1 : 0 < b) : t2 * d = (-n) * b2 := by
  have h := N.eq
  exact Int.eq_of_mul_eq_mul_left (Int.ne_of_gt p1) (by grind)
theorem abs_eq' {t b n d t2 b2 s : Int} (N : Norm (if t < 0 then -t else t) b t2 b2) (h1 : t * d = n * b) (p1 : 0 < b) (hd : d ≠ 0) (hs : (n * d < 0 → s = -1) ∧ (¬ n * d < 0 → s = 1)) : t2 * d = (s * n) * b2 := by
  have h := N.eq
  have e : (t * (d * d)) = (n * d) * b := by grind
  have q : 0 < d * d := by
    rcases Int.lt_or_gt_of_ne hd with h | h
    · exact Int.mul_pos_of_neg_of_neg h h
    · exact Int.mul_pos h h
  by_cases ht : t < 0
  · have a : n * d < 0 := by
      have z : t * (d * d) < 0 := Int.mul_neg_of_neg_of_pos ht q
      rw [e] at z
      by_cases y : n * d < 0
      · exact y
      · have := Int.mul_nonneg (show 0 ≤ n * d by omega) (Int.le_of_lt p1)
        omega
    rw [if_pos ht] at h
    rw [hs.1 a]
    exact Int.eq_of_mul_eq_mul_left (Int.ne_of_gt p1) (by grind)
  · have a : ¬ n * d < 0 := fun y => by
      have z : (n * d) * b < 0 := Int.mul_neg_of_neg_of_pos y p1
      rw [← e] at z
      have := Int.mul_nonneg (show 0 ≤ t by omega) (Int.le_of_lt q)
      omega
    rw [if_neg ht] at h
    rw [hs.2 a]
    exact Int.eq_of_mul_eq_mul_left (Int.ne_of_gt p1) (by grind)
theorem zero_iff {t b n d : Int} (h1 : t * d = n * b) (p1 : 0 < b) (hd : d ≠ 0) : t = 0 ↔ n = 0 := by
  constructor <;> intro z
  · rw [z, Int.zero_mul] at h1
    exact (Int.mul_eq_zero.mp h1.symm).resolve_right (by omega)
  · rw [z, Int.zero_mul] at h1
    exact (Int.mul_eq_zero.mp h1).resolve_right hd
/-- a pair (x ** nn, nn) -/
def PowAt (C : Addr) (t b : Int) (x : V) (H : Hp) : Prop := ∃ (tp : Addr) (m : V) (nn t2 b2 : Int), x = .ref tp ∧ H tp = some (.tup [m, .int nn]) ∧ Mo C t2 b2 m H ∧ Norm (t ^ nn.toNat) (b ^ nn.toNat) t2 b2 ∧ 0 ≤ nn ∧ nn ≤ 60
theorem PowAt.ex {C : Addr} {t b : Int} {x : V} {H H' : Hp} (h : PowAt C t b x H) (e : Ex H H') : PowAt C t b x H' := by
  obtain ⟨tp, m, nn, t2, b2, e1, e2, e3, e4, e5, e6⟩ := h
  exact ⟨tp, m, nn, t2, b2, e1, e _ _ e2, e3.ex e, e4, e5, e6⟩
end Mo

namespace Mo
open PySem L2
open Evl (Ex)
section
variable {X : Cx} {CX : CXT} {n k : Nat} {f g C : Addr} {fd gd : FuncData} {ps qs : List Str} {sp spR : Sp} {E : XK} {a b : Expr} {ta tb : TE} {pos : Pos}
theorem run_opS (F : FnOk X.prog X.w X.K X.mg X.base CX n f fd ps sp) (hr : Room n X.A) (hb : Binds X.K fd ps []) {σ : L2.St} (hx : PassesAt CX X σ E) {pins : List (Addr × Obj)} {s : Shared} {H : Hp} {xs : List V} {us : List Value} {Q : VK}
    (I : Inv X pins σ H s) (r : Vals xs us) (h : sp xs H Q E) : wpAny (model X.prog X.w) X.A (call (.ref f) us) (PySem.W.CmpBack (EP X pins σ Q)) X.xe s :=
  wpAny_mono (run_fnS (E := fun _ => E) F hr hb hx I r h) (fun v s' z => cmpBack_of z) fun _ _ e => e
theorem own_at {op : Operator} (T : Opc X.K C) (IO : IntOp op) (O : Op2 X.K C op.info.2 f) (F : FnOk X.prog X.w X.K X.mg X.base CX n f fd ps sp) (hr : Room n X.A) (hb : Binds X.K fd ps []) {σ : L2.St} (hx : PassesAt CX X σ E)
    {pins : List (Addr × Obj)} {s : Shared} {H : Hp} {x y : V} {v u : Value} {Q : VK} (I : Inv X pins σ H s) (rx : RelV x v) (ry : RelV y u) (h : rOwn C sp E x y H Q) : wpAny (model X.prog X.w) X.A (binaryOp op v u) (EP X pins σ Q) X.xe s := by
  obtain ⟨⟨a, dx, fs, rfl, ha⟩, hy, q⟩ := h
  cases rx
  obtain ⟨mA, J, _⟩ := ins_get I.hok ha
  obtain ⟨od, J, _⟩ := J.look
  obtain ⟨m, hF⟩ := I.fr
  rcases hy with ⟨b, dy, gs, rfl, hb'⟩ | ⟨i, rfl⟩
  · cases ry
    obtain ⟨mB, J', _⟩ := ins_get I.hok hb'
    obtain ⟨od', J', _⟩ := J'.look
    exact PySem.W.binop_K hF I.ok.mod.kin J J'.type T.sf O.at_ O.fn (run_opS F hr hb hx I (v2rr _ _) q)
  · obtain ⟨t, rfl⟩ := ry
    obtain ⟨fo, ro, e1, e2⟩ := IO.fo
    obtain ⟨g, e3⟩ := O.rr
    obtain ⟨rc, e4, e5⟩ : ∃ rc, PySem.W.findIn X.K (.ref C) (PySem.dunderR op.info.2) = some rc ∧ (rc = none ∨ ∃ g : Addr, rc = some (.ref g)) := by
      rcases e3 with e3 | e3
      · exact ⟨_, e3, .inl rfl⟩
      · exact ⟨_, e3, .inr ⟨g, rfl⟩⟩
    exact PySem.W.ksp_binT (T := "int") hF I.ok.mod.kin J rfl T.sf O.at_ O.fn e4 e5 (e1 _) (e2 _) nf_int (run_opS F hr hb hx I (v2ri _ _ _) q)
theorem ownR_at {op : Operator} (T : Opc X.K C) (IO : IntOpR op) (O : OpR2 X.K C op.info.2 f) (F : FnOk X.prog X.w X.K X.mg X.base CX n f fd ps sp) (hr : Room n X.A) (hb : Binds X.K fd ps []) {σ : L2.St} (hx : PassesAt CX X σ E)
    {pins : List (Addr × Obj)} {s : Shared} {H : Hp} {x y : V} {v u : Value} {Q : VK} (I : Inv X pins σ H s) (rx : RelV x v) (ry : RelV y u) (h : rOwnR C sp E x y H Q) : wpAny (model X.prog X.w) X.A (binaryOp op v u) (EP X pins σ Q) X.xe s := by
  obtain ⟨⟨i, rfl⟩, ⟨a, dx, fs, rfl, ha⟩, q⟩ := h
  cases ry
  obtain ⟨t, rfl⟩ := rx
  obtain ⟨mA, J, _⟩ := ins_get I.hok ha
  obtain ⟨od, J, _⟩ := J.look
  obtain ⟨m, hF⟩ := I.fr
  obtain ⟨g, g1, g2⟩ := O.ll
  obtain ⟨id, B, s1, s2, s3, s4⟩ := IO.sl
  exact binR_K hF I.ok.mod.kin J rfl T.sf g1 g2 O.at_ O.fn T.nInt s1 IO.fills s2 (s3 _ _ _) s4 (run_opS F hr hb hx I (v2ri _ _ _) q)
/-- a op b in a try, by the left one's method or by the right one's -/
def tTwoS (C : Addr) (sp spR : Sp) (E : L2.St → XK) (ta tb : TE) : TE := fun σ H Q => ta σ H fun x H1 => tb σ H1 fun y H2 => rOwn C sp (E σ) x y H2 Q ∨ rOwnR C spR (E σ) x y H2 Q
theorem pe_twoS {op : Operator} {E : L2.St → XK} (ha : PE X a ta) (hb : PE X b tb) (T : Opc X.K C) (IO : IntOp op) (O : Op2 X.K C op.info.2 f) (F : FnOk X.prog X.w X.K X.mg X.base CX n f fd ps sp) (hr : Room n X.A) (bd : Binds X.K fd ps [])
    (IR : IntOpR op) (OR : OpR2 X.K C op.info.2 g) (G : FnOk X.prog X.w X.K X.mg X.base CX k g gd qs spR) (hr2 : Room k X.A) (bg : Binds X.K gd qs []) (hx : ∀ σ, PassesAt CX X σ (E σ)) : PE X (.BinOp a op b pos) (tTwoS C sp spR E ta tb) := by
  refine ⟨fun pins s σ H Q I h => wpAny_BinOp (binT ha hb I h fun v u s2 x y H2 I2 rx ry q => ?_)⟩
  rcases q with q | q
  · exact own_at T IO O F hr bd (hx σ) I2 rx ry q
  · exact ownR_at T IR OR G hr2 bg (hx σ) I2 rx ry q
end
def ZDs (E : XK) (H : Hp) : Prop := ∀ (d : Option Addr) (H' : Hp), Ex H H' → E (.type "ZeroDivisionError") d H'
def spFloor (C : Addr) : Sp := fun vs H Q E => ∃ (x y : V) (t b t' b' : Int), vs = [x, y] ∧ Mo C t b x H ∧ Tm C t' b' y H ∧ 0 < b ∧ 0 < b' ∧ Sm 1900 t ∧ Sm 1900 b ∧ Sm 1900 t' ∧ Sm 1900 b' ∧ (t' = 0 → ZDs E H) ∧
  (t' ≠ 0 → ∀ H' : Hp, Ex H H' → Q (.int ((t * b').fdiv (b * t'))) H')
def spFloorR (C : Addr) : Sp := fun vs H Q E => ∃ (x y : V) (t b t' b' : Int), vs = [x, y] ∧ Mo C t b x H ∧ Tm C t' b' y H ∧ 0 < b ∧ 0 < b' ∧ Sm 1900 t ∧ Sm 1900 b ∧ Sm 1900 t' ∧ Sm 1900 b' ∧ (t = 0 → ZDs E H) ∧
  (t ≠ 0 → ∀ H' : Hp, Ex H H' → Q (.int ((t' * b).fdiv (b' * t))) H')
/-- what the rest of t/b by t'/b' is -/
def Rest (C : Addr) (t b t' b' : Int) (H : Hp) (Q : VK) : Prop := ∀ (t2 b2 : Int) (v : V) (H' : Hp), Red t2 b2 → t2 * (b * b') = (t * b' - (t * b').fdiv (b * t') * t' * b) * b2 → Sm 4000 t2 → Sm 4000 b2 → Ex H H' → Mo C t2 b2 v H' → Q v H'
def spMod (C : Addr) : Sp := fun vs H Q E => ∃ (x y : V) (t b t' b' : Int), vs = [x, y] ∧ Mo C t b x H ∧ Tm C t' b' y H ∧ 0 < b ∧ 0 < b' ∧ Sm 400 t ∧ Sm 400 b ∧ Sm 400 t' ∧ Sm 400 b' ∧ (t' = 0 → ZDs E H) ∧ (t' ≠ 0 → Rest C t b t' b' H Q)
def spModR (C : Addr) : Sp := fun vs H Q E => ∃ (x y : V) (t b t' b' : Int), vs = [x, y] ∧ Mo C t b x H ∧ Tm C t' b' y H ∧ 0 < b ∧ 0 < b' ∧ Sm 400 t ∧ Sm 400 b ∧ Sm 400 t' ∧ Sm 400 b' ∧ (t = 0 → ZDs E H) ∧ (t ≠ 0 → Rest C t' b' t b H Q)
def spDiv (C : Addr) : Sp := fun vs H Q _ => ∃ (x y : V) (t b n d t' b' n' d' : Int), vs = [x, y, .int n, .int d, .int n', .int d'] ∧ Two C x t b y t' b' H ∧ t * d = n * b ∧ t' * d' = n' * b' ∧ 0 < b ∧ 0 < b' ∧ d ≠ 0 ∧ d' ≠ 0 ∧
  Sm 400 t ∧ Sm 400 b ∧ Sm 400 t' ∧ Sm 400 b' ∧ Sm 400 n ∧ Sm 400 d ∧ Sm 400 n' ∧ Sm 400 d' ∧ ∀ H', Ex H H' → Q (.bl true) H'
theorem Tm.opx {C : Addr} {t b : Int} {v : V} {H : Hp} (h : Tm C t b v H) : IsC C v H ∨ ∃ i, v = .int i := h.op
theorem floor_two {C : Addr} {E : XK} {x y : V} {t b t' b' : Int} {H : Hp} {Q : VK} (h : Two C x t b y t' b' H) (p1 : 0 < b) (p2 : 0 < b') (st : Sm 1900 t) (sb : Sm 1900 b) (st' : Sm 1900 t') (sb' : Sm 1900 b') (kE : t' = 0 → ZDs E H)
    (kQ : t' ≠ 0 → ∀ H' : Hp, Ex H H' → Q (.int ((t * b').fdiv (b * t'))) H') : rOwn C (spFloor C) E x y H Q ∨ rOwnR C (spFloorR C) E x y H Q := by
  rcases h with ⟨h1, h2⟩ | ⟨⟨h1, h1'⟩, h2⟩
  · exact .inl ⟨h1.isC, h2.op, x, y, t, b, t', b', rfl, h1, h2, p1, p2, st, sb, st', sb', kE, kQ⟩
  · exact .inr ⟨⟨t, h1⟩, h2.isC, y, x, t', b', t, b, rfl, h2, .inr ⟨h1, h1'⟩, p2, p1, st', sb', st, sb, kE, kQ⟩
theorem mod_two {C : Addr} {E : XK} {x y : V} {t b t' b' : Int} {H : Hp} {Q : VK} (h : Two C x t b y t' b' H) (p1 : 0 < b) (p2 : 0 < b') (st : Sm 400 t) (sb : Sm 400 b) (st' : Sm 400 t') (sb' : Sm 400 b') (kE : t' = 0 → ZDs E H)
    (kQ : t' ≠ 0 → Rest C t b t' b' H Q) : rOwn C (spMod C) E x y H Q ∨ rOwnR C (spModR C) E x y H Q := by
  rcases h with ⟨h1, h2⟩ | ⟨⟨h1, h1'⟩, h2⟩
  · exact .inl ⟨h1.isC, h2.op, x, y, t, b, t', b', rfl, h1, h2, p1, p2, st, sb, st', sb', kE, kQ⟩
  · exact .inr ⟨⟨t, h1⟩, h2.isC, y, x, t', b', t, b, rfl, h2, .inr ⟨h1, h1'⟩, p2, p1, st', sb', st, sb, kE, kQ⟩
/-! the numbers -/
theorem mod_eqM {t b t' b' q t3 b3 t2 b2 : Int} (N1 : Norm (nMul t' b' q 1) (dAll t' b' q 1) t3 b3) (N2 : Norm (nSub t b t3 b3) (dAll t b t3 b3) t2 b2) : t2 * (b * b') = (t * b' - q * t' * b) * b2 := by
  have h1 : t3 * (b' * 1) = (t' * q) * b3 := N1.eq
  have h2 : t2 * (b * b3) = (t * b3 - t3 * b) * b2 := N2.eq
  have p := N1.pos
  exact Int.eq_of_mul_eq_mul_left (Int.ne_of_gt p) (by grind)
theorem mod_eqI {t b t' q t2 b2 : Int} (N2 : Norm (nSub t b (t' * q) 1) (dAll t b (t' * q) 1) t2 b2) : t2 * (b * 1) = (t * 1 - q * t' * b) * b2 := by
  have h2 : t2 * (b * 1) = (t * 1 - (t' * q) * b) * b2 := N2.eq
  grind
theorem floor_same {t b n d t' b' n' d' : Int} (h1 : t * d = n * b) (h2 : t' * d' = n' * b') (p1 : 0 < b) (p2 : 0 < b') (hd : d ≠ 0) (hd' : d' ≠ 0) : (t * b').fdiv (b * t') = (n * d').fdiv (d * n') := by
  have e1 : (t * b') * (d * d') = (n * d') * (b * b') := by grind
  have e2 : (b * t') * (d * d') = (d * n') * (b * b') := by grind
  have pB : 0 < b * b' := Int.mul_pos p1 p2
  rcases Int.lt_or_gt_of_ne (Int.mul_ne_zero hd hd') with z | z
  · have z' : 0 < -(d * d') := by omega
    rw [← Int.mul_fdiv_mul_of_pos_left (t * b') (b * t') z', ← Int.mul_fdiv_mul_of_pos_left (n * d') (d * n') pB, Int.mul_neg, Int.mul_neg, e1, e2, Int.neg_fdiv_neg]
  · rw [← Int.mul_fdiv_mul_of_pos_left (t * b') (b * t') z, ← Int.mul_fdiv_mul_of_pos_left (n * d') (d * n') pB, e1, e2]
theorem rest_eq {t b n d t' b' n' d' q t2 b2 : Int} (h : t2 * (b * b') = (t * b' - q * t' * b) * b2) (h1 : t * d = n * b) (h2 : t' * d' = n' * b') (p1 : 0 < b) (p2 : 0 < b') : t2 * (d * d') = (n * d' - q * n' * d) * b2 := by
  have pB : 0 < b * b' := Int.mul_pos p1 p2
  exact Int.eq_of_mul_eq_mul_left (Int.ne_of_gt pB) (by grind)
theorem sm_fdiv {k : Nat} {n d : Int} (h : Sm k n) : Sm k (n.fdiv d) := h.le (Int.natAbs_fdiv_le_natAbs n d)
end Mo

namespace Mo
open PySem L2
open Evl (Ex)
def top (i : Nat) : Stmt := PySem.Challenge.pw_anytune_k04_floors_and_rests.main.body.getD i (.Pass ⟨0, 0, 0, 0⟩)
structure Txt (K : PySem.W.Frag) (mg : Str → Option Value) (C : Addr) : Prop where
  len : mg "len" = none
  abs : mg "abs" = none
  int : mg "int" = none
  bool : mg "bool" = none
  isi : mg "isinstance" = none
  range : mg "range" = none
  gcd : mg "gcd" = some (.builtin "math.gcd")
  mgC : mg "Moment" = some (.ref C)
  cl : Cls K C
  nT : NoAttr K C "top"
  nB : NoAttr K C "bottom"
  cls : PySem.W.findIn K (.ref C) "__class__" = some (some (.builtin "object.__class__"))
  clg : PySem.W.specialIn K (.builtin "object.__class__") "__get__" = some (some (.builtin "getset_descriptor.__get__"))
  clt : PySem.W.takesIn K (.builtin "object.__class__") = some true
  obj : PySem.W.mroIn K C (.type "object") = some true
  isC : PySem.W.kitOne K (.ref C) (.ref C) = some true
  isI : PySem.W.kitOne K (.ref C) (.type "int") = some false
  iI : PySem.W.kitOne K (.type "int") (.ref C) = some false
  lst : mg "list" = none
  dct : mg "dict" = none
  nL : PySem.W.kitOne K (.ref C) (.type "list") = some false
  nD : PySem.W.kitOne K (.ref C) (.type "dict") = some false
section
variable {P : Program} {w : World} {K : PySem.W.Frag} {mg : Str → Option Value} {base : Heap} {C CN : Addr}
abbrev sCe : Stmt := top 17
theorem scCe : FnScope ["_law_script", "_law_k"] ["_law_script", "_law_k"] (defScope sCe) := ⟨rfl, rfl, rfl, by decide +kernel, rfl, by decide +kernel, by decide +kernel⟩
theorem ok_cell {f : Addr} {fd : FuncData} (F : Fun K "_law_cell" "_law_cell" sCe f fd) (T : Txt K mg C) : FnOk P w K mg base CX0 1 f fd ["_law_script", "_law_k"] (spCell K) := by
  refine F.ok scCe (fun vs H Q E h => ?_) (fun cdv A outer s H vs Q E hr h => ?_)
  · obtain ⟨l, ns, j, rfl, _⟩ := h
    rfl
  · obtain ⟨l, ns, j, rfl, hS, h0, hl, k⟩ := h
    refine ⟨_, (pss_cons (ps_if (pt_cmpR op_lt (pv 1) (pe_callB call_len rfl T.len PySem.boot_len (pa_cons (pv 0) pa_nil)) (nomark _)) (pss_one (ps_ret (pe_ix ix_list (pv 0) (pv 1) (fun _ _ => rfl)))) pss_nil)
 (pss_one (ps_ret pe_int))), ?_⟩
    refine ⟨_, rfl, _, rfl, _, _, rfl, .inl ⟨_, hS, rfl⟩, _, _, rfl, rfl, _, rfl, ?_⟩
    refine ite2 (fun hc => ?_) (fun hc => k 0)
    have hj : j < (ns.length : Int) := by
      have := of_decide_eq_true hc
      rw [List.length_map] at this
      exact this
    obtain ⟨i, rfl⟩ : ∃ i : Nat, j = (i : Int) := ⟨j.toNat, by omega⟩
    have hi : i < ns.length := by omega
    refine ⟨_, rfl, _, rfl, l, _, _, .int ns[i], rfl, rfl, hS, atI_nat (by rw [List.getElem?_map, List.getElem?_eq_getElem hi]; rfl), k _⟩
abbrev sWh : Stmt := top 19
theorem scWh : FnScope ["_law_cell_here", "_law_most"] ["_law_cell_here", "_law_most"] (defScope sWh) := ⟨rfl, rfl, rfl, by decide +kernel, rfl, by decide +kernel, by decide +kernel⟩
theorem ok_whole {f : Addr} {fd : FuncData} (F : Fun K "_law_whole" "_law_whole" sWh f fd) (T : Txt K mg C) : FnOk P w K mg base CX0 1 f fd ["_law_cell_here", "_law_most"] spWhole := by
  refine F.ok scWh (fun vs H Q E h => ?_) (fun cdv A outer s H vs Q E hr h => ?_)
  · obtain ⟨c, m, rfl, _⟩ := h
    rfl
  · obtain ⟨c, m, rfl, hm, hs, k⟩ := h
    have k2 : Q (.int (c % (2 * m + 1) - m)) H := by
      have h1 := Int.emod_nonneg c (show 2 * m + 1 ≠ 0 by omega)
      have h2 := Int.emod_lt_of_pos c (show 0 < 2 * m + 1 by omega)
      exact k _ (by omega) (by omega)
    have hc2 : CMulW 2 m := Sm.cmul (k := 2) (j := 1000) (by show (2 : Int).natAbs < 2 ^ 2; decide) hs
    refine ⟨_, (pss_cons (ps_if (pt_chain op_le op_le (pe_un un_neg (pv 1)) (pv 0) (pv 1)) (pss_one (ps_ret (pv 0))) pss_nil)
 (pss_one (ps_ret (pe_op op_sub (pe_op op_mod (pe_callTy call_int1 rfl T.int PyProof.Rows.boot_int (pa_cons (pv 0) pa_nil)) (pe_op op_add (pe_op op_mulW pe_int (pv 1)) pe_int)) (pv 1))))), ?_⟩
    refine ⟨_, rfl, _, rfl, _, rfl, _, _, rfl, rfl, _, rfl, ?_⟩
    refine ite2 (fun e1 => ?_) (fun e1 => ⟨_, rfl, iteF ?_⟩)
    · refine ⟨_, rfl, _, _, rfl, rfl, _, rfl, ?_⟩
      refine ite2 (fun e2 => ⟨_, rfl, k c (of_decide_eq_true e1) (of_decide_eq_true e2)⟩) (fun e2 => ?_)
      exact ⟨_, rfl, .inl ⟨_, rfl, _, rfl, _, _, rfl, rfl, hc2, _, _, rfl, rfl, _, _, rfl, rfl, (by show 0 < 2 * m + 1; omega), _, rfl, _, _, rfl, rfl, k2⟩⟩
    · exact ⟨_, rfl, .inl ⟨_, rfl, _, rfl, _, _, rfl, rfl, hc2, _, _, rfl, rfl, _, _, rfl, rfl, (by show 0 < 2 * m + 1; omega), _, rfl, _, _, rfl, rfl, k2⟩⟩
abbrev sRa : Stmt := top 20
theorem scRa : FnScope ["_law_a", "_law_b", "_law_most", "_law_bottom"] ["_law_a", "_law_b", "_law_most"] (defScope sRa) := ⟨rfl, rfl, rfl, by decide +kernel, rfl, by decide +kernel, by decide +kernel⟩
theorem ok_ratio {f : Addr} {fd : FuncData} (F : Fun K "_law_ratio" "_law_ratio" sRa f fd) (T : Txt K mg C) (OW : Ok P w K mg base CX0 1 "_law_whole" ["_law_cell_here", "_law_most"] spWhole) : FnOk P w K mg base CX0 2 f fd ["_law_a", "_law_b", "_law_most"] spRatio := by
  obtain ⟨fWh, fdWh, GWh, mWh, kWh, bWh⟩ := OW
  refine F.ok scRa (fun vs H Q E h => ?_) (fun cdv A outer s H vs Q E hr h => ?_)
  · obtain ⟨a, b, m, rfl, _⟩ := h
    rfl
  · obtain ⟨a, b, m, rfl, hm, hs, k⟩ := h
    refine ⟨_, (pss_cons (ps_set (i := 3) scRa.nd rfl (Or.inl rfl) (pe_call GWh (hr.mono (by decide)) rfl mWh kWh bWh .nil pass0 (pa_cons (pv 1) (pa_cons (pv 2) pa_nil))))
 (pss_cons (ps_if (pt_cmpR op_eq (pv 3) pe_int (nomark _)) (pss_one (ps_set (i := 3) scRa.nd rfl (Or.inl rfl) pe_int)) pss_nil)
 (pss_one (ps_ret (pe_tup (pa_cons (pe_call GWh (hr.mono (by decide)) rfl mWh kWh bWh .nil pass0 (pa_cons (pv 0) (pa_cons (pv 2) pa_nil))) (pa_cons (pv 3) pa_nil))))))), ?_⟩
    refine ⟨_, rfl, _, rfl, b, m, rfl, hm, hs, fun d d1 d2 => ⟨_, rfl, rfl, _, rfl, ?_⟩⟩
    refine ite2 (fun e1 => ?_) (fun e1 => ?_)
    · exact ⟨_, rfl, _, rfl, a, m, rfl, hm, hs, fun t t1 t2 => ⟨_, rfl, (by show 2 ≤ sizeLine; decide), fun p hp => k t 1 p _ (Ex.new hp) upd_same t1 t2 (by omega) (by omega) (by decide)⟩⟩
    · have hd : d ≠ 0 := fun z => e1 (decide_eq_true (by rw [z]))
      exact ⟨_, rfl, _, rfl, a, m, rfl, hm, hs, fun t t1 t2 => ⟨_, rfl, (by show 2 ≤ sizeLine; decide), fun p hp => k t d p _ (Ex.new hp) upd_same t1 t2 d1 d2 hd⟩⟩
abbrev sGc : Stmt := top 21
theorem scGc : FnScope ["_law_a", "_law_b", "_law_rest"] ["_law_a", "_law_b"] (defScope sGc) := ⟨rfl, rfl, rfl, by decide +kernel, rfl, by decide +kernel, by decide +kernel⟩
theorem ok_gcd {f : Addr} {fd : FuncData} (F : Fun K "_law_gcd" "_law_gcd" sGc f fd) (T : Txt K mg C) : FnOk P w K mg base CX0 1 f fd ["_law_a", "_law_b"] spGcd := by
  refine F.ok scGc (fun vs H Q E h => ?_) (fun cdv A outer s H vs Q E hr h => ?_)
  · obtain ⟨a, b, rfl, _⟩ := h
    rfl
  · obtain ⟨a, b, rfl, ha, hb, k⟩ := h
    refine ⟨_, (pss_cons (ps_set (i := 0) scGc.nd rfl (Or.inl rfl) (pe_callB call_abs rfl T.abs PyProof.Rows.boot_abs (pa_cons (pv 0) pa_nil)))
 (pss_cons (ps_set (i := 1) scGc.nd rfl (Or.inl rfl) (pe_callB call_abs rfl T.abs PyProof.Rows.boot_abs (pa_cons (pv 1) pa_nil)))
 (pss_cons (ps_while PassesOwn.never (pt_cmpR op_gt (pv 1) pe_int (nomark _)) (pss_cons (ps_set (i := 2) scGc.nd rfl (Or.inl rfl) (pe_op op_sub (pv 0) (pe_op op_mulW (pe_op op_fdivNW (pv 0) (pv 1)) (pv 1))))
 (pss_cons (ps_set (i := 0) scGc.nd rfl (Or.inl rfl) (pv 1))
 (pss_one (ps_set (i := 1) scGc.nd rfl (Or.inl rfl) (pv 2))))))
 (pss_one (ps_ret (pv 0)))))), ?_⟩
    refine ⟨_, rfl, _, rfl, _, rfl, _, rfl, ?_⟩
    have ha' : Sm 8000 (if a < 0 then -a else a) := by split; exact ha.neg; exact ha
    have hb' : Sm 8000 (if b < 0 then -b else b) := by split; exact hb.neg; exact hb
    have h0 : 0 ≤ (if a < 0 then -a else a) ∧ 0 ≤ (if b < 0 then -b else b) := by constructor <;> (split <;> omega)
    have hg : Int.gcd (if a < 0 then -a else a) (if b < 0 then -b else b) = Int.gcd a b := by
      split <;> split <;> simp [Int.gcd_neg, Int.neg_gcd]
    generalize (if a < 0 then -a else a) = x at *
    generalize (if b < 0 then -b else b) = y at *
    refine ⟨fun m σ H' => ∃ (x y : Int) (r : Option V), σ = [some (.int x), some (.int y), r] ∧ H = H' ∧ 0 ≤ x ∧ 0 ≤ y ∧ Sm 8000 x ∧ Sm 8000 y ∧ Int.gcd x y = Int.gcd a b ∧ m = y.toNat, ⟨y.toNat, x, y, none, rfl, rfl, h0.1, h0.2, ha', hb', hg, rfl⟩, ?_⟩
    rintro m σ H' ⟨x, y, r, rfl, rfl, x0, y0, hx, hy, hg, rfl⟩
    refine ⟨_, rfl, _, _, rfl, rfl, _, rfl, ?_⟩
    refine ite2 (fun e1 => ?_) (fun e1 => ?_)
    · have hp : 0 < y := of_decide_eq_true e1
      have q1 : (x.fdiv y).natAbs ≤ x.natAbs := by
        rw [Int.fdiv_eq_ediv_of_nonneg x (by omega)]
        exact Int.natAbs_ediv_le_natAbs _ _
      have cm : CMulW (x.fdiv y) y := (hx.le q1).cmul hy
      have e2 : x - x.fdiv y * y = x % y := by
        rw [Int.fdiv_eq_ediv_of_nonneg x (by omega), Int.emod_def, Int.mul_comm]
      have l1 := Int.emod_nonneg x (show y ≠ 0 by omega)
      have l2 := Int.emod_lt_of_pos x hp
      refine ⟨fun σ' H' => ∃ m', m' < y.toNat ∧ ∃ (x y : Int) (r : Option V), σ' = [some (.int x), some (.int y), r] ∧ H = H' ∧ 0 ≤ x ∧ 0 ≤ y ∧ Sm 8000 x ∧ Sm 8000 y ∧ Int.gcd x y = Int.gcd a b ∧ m' = y.toNat, fun _ _ z => z, ?_⟩
      refine ⟨_, rfl, _, rfl, _, rfl, _, _, rfl, rfl, hy.cdiv (by omega), _, rfl, _, _, rfl, rfl, cm, _, _, rfl, rfl, _, rfl, _, rfl, ?_⟩
      refine ⟨(x % y).toNat, by omega, y, x % y, some (.int (x % y)), ?_, rfl, by omega, l1, hy, hy.le (by omega), ?_, rfl⟩
      · show [some (V.int y), some (V.int (x - x.fdiv y * y)), some (V.int (x - x.fdiv y * y))] = _
        rw [e2]
      · rw [← hg, Int.gcd_comm]
        show Nat.gcd (x % y).natAbs y.natAbs = Nat.gcd x.natAbs y.natAbs
        rw [Int.natAbs_emod_of_nonneg x0, ← Nat.gcd_rec, Nat.gcd_comm]
    · have hz : y = 0 := by
        have := of_decide_eq_false (Bool.eq_false_iff.mpr e1)
        omega
      subst hz
      refine ⟨_, rfl, ?_⟩
      have e3 : x = ((Int.gcd a b : Nat) : Int) := by
        rw [← hg]
        show x = ((Nat.gcd x.natAbs 0 : Nat) : Int)
        rw [Nat.gcd_zero_right]
        omega
      rw [e3]
      exact k
abbrev sIi : Stmt := top 22
theorem scIi : FnScope ["_law_actual"] ["_law_actual"] (defScope sIi) := ⟨rfl, rfl, rfl, by decide +kernel, rfl, by decide +kernel, by decide +kernel⟩
theorem ok_isint {f : Addr} {fd : FuncData} (F : Fun K "_law_is_int" "_law_is_int" sIi f fd) (T : Txt K mg C) : FnOk P w K mg base CX0 1 f fd ["_law_actual"] spIsInt := by
  refine F.ok scIi (fun vs H Q E h => ?_) (fun cdv A outer s H vs Q E hr h => ?_)
  · obtain ⟨a, rfl, _⟩ := h
    rfl
  · obtain ⟨a, rfl, k⟩ := h
    refine ⟨_, (pss_one (ps_ret (pe_and (pe_callB (r := rIsi K) call_isi rfl T.isi PyProof.Rows.boot_isinstance (pa_cons (pv 0) (pa_cons (pe_bltn (v := .ty "int") rfl T.int PyProof.Rows.boot_int rfl) pa_nil))) (pe_one (pe_not (pe_callB (r := rIsi K) call_isi rfl T.isi PyProof.Rows.boot_isinstance (pa_cons (pv 0) (pa_cons (pe_bltn (v := .ty "bool") rfl T.bool PyProof.Rows.boot_bool rfl) pa_nil)))))))), ?_⟩
    refine ⟨_, rfl, _, _, _, _, true, rfl, .ty "int", .base (.int a), kit_ty (by decide +kernel), true, rfl, iteT ?_⟩
    exact ⟨_, rfl, _, _, _, _, false, rfl, .ty "bool", .base (.int a), kit_ty (by decide +kernel), false, rfl, k _ (Ex.refl _)⟩
abbrev sHo : Stmt := top 23
theorem scHo : FnScope ["_law_actual", "_law_top", "_law_bottom"] ["_law_actual", "_law_top", "_law_bottom"] (defScope sHo) := ⟨rfl, rfl, rfl, by decide +kernel, rfl, by decide +kernel, by decide +kernel⟩
theorem tyM {t b : Int} {v : V} {H : Hp} (T : Txt K mg C) (h : Mo C t b v H) : TyX K H v (.ref C) := by
  obtain ⟨a, dx, rfl, e⟩ := h
  exact .base (.ins e T.cl T.cls T.clg T.clt T.obj)
theorem ok_holds {f : Addr} {fd : FuncData} (F : Fun K "_law_holds" "_law_holds" sHo f fd) (T : Txt K mg C) (OI : Ok P w K mg base CX0 1 "_law_is_int" ["_law_actual"] spIsInt) (OG : Ok P w K mg base CX0 1 "_law_gcd" ["_law_a", "_law_b"] spGcd) :
    FnOk P w K mg base CX0 2 f fd ["_law_actual", "_law_top", "_law_bottom"] (spHolds C) := by
  obtain ⟨fIi, fdIi, GIi, mIi, kIi, bIi⟩ := OI
  obtain ⟨fGc, fdGc, GGc, mGc, kGc, bGc⟩ := OG
  refine F.ok scHo (fun vs H Q E h => ?_) (fun cdv A outer s H vs Q E hr h => ?_)
  · obtain ⟨x, t, b, n, d, rfl, _⟩ := h
    rfl
  · obtain ⟨x, t, b, n, d, rfl, hM, hR, he, st, sb, sn, sd, k⟩ := h
    have ty := tyM T hM
    obtain ⟨a, dx, rfl, hM⟩ := hM
    refine ⟨_, (pss_cons (ps_if (PW.pt (pw_or (pt_not (pt_val (pe_callB (r := rIsi K) call_isi rfl T.isi PyProof.Rows.boot_isinstance (pa_cons (pv 0) (pa_cons (pe_glob (v := .ref C) rfl T.mgC rfl) pa_nil))))) (pw_or (pt_not (pt_val (pe_call GIi (hr.mono (by decide)) rfl mIi kIi bIi .nil pass0 (pa_cons (pe_fld (pv 0) rfl) pa_nil)))) (pw_or1 (pt_not (pt_val (pe_call GIi (hr.mono (by decide)) rfl mIi kIi bIi .nil pass0 (pa_cons (pe_fld (pv 0) rfl) pa_nil)))))))) (pss_one (ps_ret pe_bl)) pss_nil)
 (pss_cons (ps_if (PW.pt (pw_or (pt_cmpR op_lt (pe_fld (pv 0) rfl) pe_int (nomark _)) (pw_or1 (pt_cmpR op_ne (pe_call GGc (hr.mono (by decide)) rfl mGc kGc bGc .nil pass0 (pa_cons (pe_fld (pv 0) rfl) (pa_cons (pe_fld (pv 0) rfl) pa_nil))) pe_int (nomark _))))) (pss_one (ps_ret pe_bl)) pss_nil)
 (pss_one (ps_ret (pe_cmpR op_eq (pe_op op_mulW (pe_fld (pv 0) rfl) (pv 2)) (pe_op op_mulW (pv 1) (pe_fld (pv 0) rfl)) (nomark _)))))), ?_⟩
    refine ⟨_, rfl, _, _, _, _, true, rfl, .own C, ty, T.isC, true, rfl, iteF ?_⟩
    refine ⟨_, rfl, a, C, dx, _, _, rfl, hM, T.cl, T.nT, mf_top _ _, t, rfl, fun H1 e1 => ⟨true, rfl, iteF ?_⟩⟩
    refine ⟨_, rfl, a, C, dx, _, _, rfl, e1 _ _ hM, T.cl, T.nB, mf_bottom _ _, b, rfl, fun H2 e2 => ⟨true, rfl, iteF ?_⟩⟩
    have hM2 := e2 _ _ (e1 _ _ hM)
    refine ⟨_, rfl, a, C, dx, _, _, rfl, hM2, T.cl, T.nB, mf_bottom _ _, _, _, rfl, rfl, _, rfl, ?_⟩
    rw [decide_eq_false (show ¬ b < 1 by have := hR.1; omega)]
    refine iteF ?_
    refine ⟨_, rfl, a, C, dx, _, _, rfl, hM2, T.cl, T.nT, mf_top _ _, _, rfl, a, C, dx, _, _, rfl, hM2, T.cl, T.nB, mf_bottom _ _, t, b, rfl, st.mono (by decide), sb.mono (by decide), rfl, _, rfl, ?_⟩
    rw [hR.2]
    refine iteF ?_
    refine ⟨_, rfl, a, C, dx, _, _, rfl, hM2, T.cl, T.nT, mf_top _ _, _, rfl, _, _, rfl, rfl, st.cmul sd, _, rfl, _, rfl, a, C, dx, _, _, rfl, hM2, T.cl, T.nB, mf_bottom _ _, _, _, rfl, rfl, sn.cmul sb, rfl, ?_⟩
    show Q (V.bl (decide (V.int (t * d) = V.int (n * b)))) H2
    rw [he, decide_eq_true rfl]
    exact k _ (e1.trans e2)
abbrev sKp : Stmt := top 3
theorem scKp : FnScope ["value", "part", "key"] ["value"] (defScope sKp) := ⟨rfl, rfl, rfl, by decide +kernel, rfl, by decide +kernel, by decide +kernel⟩
theorem ok_kept {f : Addr} {fd : FuncData} (F : Fun K "_kept" "_kept" sKp f fd) (T : Txt K mg C) : FnOk P w K mg base CX0 1 f fd ["value"] (spKept K) := by
  refine F.ok scKp (fun vs H Q E h => ?_) (fun cdv A outer s H vs Q E hr h => ?_)
  · obtain ⟨x, rfl, _⟩ := h
    rfl
  · obtain ⟨x, rfl, px, k⟩ := h
    obtain ⟨t, ty, l, d⟩ := px.ty
    refine ⟨_, (pss_cons (ps_if (pt_val (pe_callB (r := rIsi K) call_isi rfl T.isi PyProof.Rows.boot_isinstance (pa_cons (pv 0) (pa_cons (pe_bltn (v := .ty "list") rfl T.lst PyProof.Rows.boot_list rfl) pa_nil)))) (pss_one ps_never) pss_nil)
 (pss_cons (ps_if (pt_val (pe_callB (r := rIsi K) call_isi rfl T.isi PyProof.Rows.boot_isinstance (pa_cons (pv 0) (pa_cons (pe_bltn (v := .ty "dict") rfl T.dct PyProof.Rows.boot_dict rfl) pa_nil)))) (pss_one ps_never) pss_nil)
 (pss_one (ps_ret (pv 0))))), ?_⟩
    exact ⟨_, rfl, _, _, _, _, false, rfl, .ty "list", ty, l, false, rfl, iteF ⟨_, rfl, _, _, _, _, false, rfl, .ty "dict", ty, d, false, rfl, iteF ⟨_, rfl, k⟩⟩⟩
/-! ### NoMoment's and Moment's __init__ -/
structure TxtN (K : PySem.W.Frag) (mg : Str → Option Value) (CN fN : Addr) : Prop where
  ox : OexC K CN
  nT : PySem.W.findIn K (.ref CN) "top" = some none
  nB : PySem.W.findIn K (.ref CN) "bottom" = some none
  iC : PySem.W.findIn K (.ref CN) "__init__" = some (some (.ref fN))
  tI : PySem.W.typeIn K (.ref fN) = some (.type "function")
  mg : mg "NoMoment" = some (.ref CN)
def spNoM (K : PySem.W.Frag) (C : Addr) : Sp := fun vs H Q _ => ∃ (a : Addr) (x y : V), vs = [.ref a, x, y] ∧ H a = some (exo a C none) ∧ Plain K H x ∧ Plain K H y ∧
  ∀ dx, H dx = none → dx ≠ a → Q .non (upd (upd (upd H dx (exd dx [(("top" : Str), x)])) a (exo a C (some dx))) dx (exd dx [(("bottom" : Str), y), (("top" : Str), x)]))
abbrev sNM : Stmt := inClass (top 5) 0
theorem scNM : FnScope ["self", "top", "bottom"] ["self", "top", "bottom"] (defScope sNM) := ⟨rfl, rfl, rfl, by decide +kernel, rfl, by decide +kernel, by decide +kernel⟩
theorem ok_nomom {f fN : Addr} {fd : FuncData} (F : Fun K "__init__" "NoMoment.__init__" sNM f fd) (T : TxtN K mg CN fN) (OK : Ok P w K mg base CX0 1 "_kept" ["value"] (spKept K)) : FnOk P w K mg base CX0 2 f fd ["self", "top", "bottom"] (spNoM K CN) := by
  obtain ⟨fKp, fdKp, GKp, mKp, kKp, bKp⟩ := OK
  refine F.ok scNM (fun vs H Q E h => ?_) (fun cdv A outer s H vs Q E hr h => ?_)
  · obtain ⟨a, x, y, rfl, _⟩ := h
    rfl
  · obtain ⟨a, x, y, rfl, ha, px, py, k⟩ := h
    refine ⟨_, (pss_cons (ps_ost (pv 0) (pe_call GKp (hr.mono (by decide)) rfl mKp kKp bKp .nil pass0 (pa_cons (pv 1) pa_nil)))
 (pss_one (ps_ost (pv 0) (pe_call GKp (hr.mono (by decide)) rfl mKp kKp bKp .nil pass0 (pa_cons (pv 2) pa_nil))))), ?_⟩
    refine ⟨_, rfl, x, rfl, px, _, rfl, a, CN, rfl, T.ox, T.nT, .inl ⟨ha, fun dx n1 n2 => ?_⟩⟩
    exact ⟨_, rfl, y, rfl, py.keep (ins_st ha n1), _, rfl, a, CN, rfl, T.ox, T.nB, .inr ⟨dx, _, upd_same, (by rw [upd_ne n2, upd_same]), (by show 1 ≤ 900; decide), k dx n1 n2⟩⟩
abbrev sIn : Stmt := inClass (top 11) 0
theorem scIn : FnScope ["self", "top", "bottom", "shared"] ["self", "top", "bottom"] (defScope sIn) := ⟨rfl, rfl, rfl, by decide +kernel, rfl, by decide +kernel, by decide +kernel⟩
theorem ok_init {f fN : Addr} {fd fdN : FuncData} {ds : List V} (F : FunD K "__init__" "Moment.__init__" (defArgs sIn) (defBody sIn) (defScope sIn) ds [] f fd) (T : Txt K mg C) (TN : TxtN K mg CN fN) (FNM : Fun K "__init__" "NoMoment.__init__" sNM fN fdN) (bNM : Binds K fdN ["self", "top", "bottom"] []) (OK : Ok P w K mg base CX0 1 "_kept" ["value"] (spKept K)) :
    FnOk P w K mg base (L2.CX P w) 4 f fd ["self", "top", "bottom"] (spInit C CN) := by
  have GNM : FnOk P w K mg base CX0 2 fN fdN ["self", "top", "bottom"] (spNoM K CN) := ok_nomom FNM TN OK
  refine F.ok (CX := L2.CX P w) scIn (fun vs H Q E h => ?_) (fun cdv A outer s H vs Q E hr h => ?_)
  · obtain ⟨p, dx, n, d, rfl, _⟩ := h
    rfl
  · obtain ⟨p, dx, n, d, rfl, hp, sn, sd, kE, kQ⟩ := h
    refine ⟨_, (pss_cons (ps_if (pt_cmpR op_eq (pv 2) pe_int (nomark _)) (pss_one (ps_raise rfl (takes_of rfl rfl rfl rfl) (pmk_oex TN.ox TN.iC TN.tI GNM (hr.mono (by decide)) bNM .nil pass0 rfl TN.mg (pa_cons (pv 1) (pa_cons (pv 2) pa_nil))))) pss_nil)
 (pss_cons (ps_set (i := 3) scIn.nd rfl (Or.inl rfl) (pe_ifExp (pt_cmpR op_gt (pv 2) pe_int (nomark _)) (pe_callBfun cr_gcd rfl T.gcd (pa_cons (pv 1) (pa_cons (pv 2) pa_nil))) (pe_un un_neg (pe_callBfun cr_gcd rfl T.gcd (pa_cons (pv 1) (pa_cons (pv 2) pa_nil))))))
 (pss_cons (ps_fld (pv 0) (pe_op op_fdivNW (pv 1) (pv 3)) rfl)
 (pss_one (ps_fld (pv 0) (pe_op op_fdivNW (pv 2) (pv 3)) rfl))))), ?_⟩
    refine ⟨_, rfl, rfl, _, rfl, ?_⟩
    refine ite2 (fun e1 => ?_) (fun e1 => ?_)
    · have hd : d = 0 := by
        have := of_decide_eq_true e1
        injection this
      subst hd
      refine ⟨_, rfl, _, rfl, (by show 2 ≤ 1000; decide), fun a ha => ⟨a, _, _, rfl, upd_same, .int _, .int _, fun d1 n1 n2 => ⟨rfl, d1, _, ?_, upd_same, ?_, ?_⟩⟩⟩
      · rw [upd_ne n2.symm, upd_same]
      · rw [upd_ne n2] at n1
        exact n1
      · rw [upd_ne n2] at n1
        refine kE rfl d1 _ _ n1 ?_ ?_ upd_same fun q o hq => ?_
        · rw [lookup_put, if_neg ntb, lookup_put, if_pos rfl]
        · rw [lookup_put, if_pos rfl]
        · have q1 : q ≠ d1 := ne_of_none hq n1
          have q2 : q ≠ a := ne_of_none hq ha
          rw [upd_ne q1, del_ne q2, upd_ne q1, upd_ne q2, upd_ne q1, upd_ne q2]
          exact hq
    · have hd : d ≠ 0 := fun z => e1 (decide_eq_true (by rw [z]))
      have N := norm_mk (n := n) hd
      have sN := sg_ne (n := n) hd
      have ss : Sm 8000 (sg n d) := sd.le (sg_le hd)
      have fin : ∀ D : Ends, (D.nx = fun _ H' => Q .non H') → tSeq (sFld K (tVar 0) (tOp (rI CDivNW fun i j => .int (i.fdiv j)) (tVar 1) (tVar 3)) "top") (sFld K (tVar 0) (tOp (rI CDivNW fun i j => .int (i.fdiv j)) (tVar 2) (tVar 3)) "bottom") D
          [some (.ref p), some (.int n), some (.int d), some (.int (sg n d))] H := by
        intro D hD
        refine ⟨_, rfl, _, rfl, _, _, rfl, rfl, ss.cdiv sN, _, rfl, p, C, dx, [], rfl, hp, T.cl, T.nT, (by show 0 < 1000; decide), ?_⟩
        refine ⟨_, rfl, _, rfl, _, _, rfl, rfl, ss.cdiv sN, _, rfl, p, C, dx, _, rfl, upd_same, T.cl, T.nB, (by show 1 < 1000; decide), ?_⟩
        rw [hD]
        have z := kQ hd _ _ N
        have e : upd (upd H p (.ins C dx (putF "top" (.int (n.fdiv (sg n d))) []))) p (.ins C dx (putF "bottom" (.int (d.fdiv (sg n d))) (putF "top" (.int (n.fdiv (sg n d))) []))) = upd H p (.ins C dx (mf (n.fdiv (sg n d)) (d.fdiv (sg n d)))) := by
          funext q
          by_cases hq : q = p
          · subst hq
            rw [upd_same, upd_same]
            rfl
          · rw [upd_ne hq, upd_ne hq, upd_ne hq]
        show Q .non (upd (upd H p _) p _)
        exact e ▸ z
      refine ⟨_, rfl, _, _, rfl, rfl, _, rfl, ?_⟩
      refine ite2 (fun e2 => ?_) (fun e2 => ?_)
      · have h0 := of_decide_eq_true e2
        refine ⟨_, rfl, _, rfl, n, d, rfl, ?_⟩
        have e3 : sg n d = ((Nat.gcd n.natAbs d.natAbs : Nat) : Int) := if_pos h0
        have z := fin { nx := fun _ H' => Q .non H', rt := Q } rfl
        rw [e3] at z
        exact z
      · have h0 := of_decide_eq_false (Bool.eq_false_iff.mpr e2)
        refine ⟨_, rfl, _, rfl, n, d, rfl, _, rfl, ?_⟩
        have e3 : sg n d = -((Nat.gcd n.natAbs d.natAbs : Nat) : Int) := if_neg h0
        have z := fin { nx := fun _ H' => Q .non H', rt := Q } rfl
        rw [e3] at z
        exact z
abbrev sIt : Stmt := top 12
theorem scIt : FnScope ["value"] ["value"] (defScope sIt) := ⟨rfl, rfl, rfl, by decide +kernel, rfl, by decide +kernel, by decide +kernel⟩
theorem ok_istime {f : Addr} {fd : FuncData} (F : Fun K "is_time" "is_time" sIt f fd) (T : Txt K mg C) : FnOk P w K mg base CX0 1 f fd ["value"] (spIsTime C) := by
  refine F.ok scIt (fun vs H Q E h => ?_) (fun cdv A outer s H vs Q E hr h => ?_)
  · obtain ⟨x, t, b, rfl, _⟩ := h
    rfl
  · obtain ⟨x, t, b, rfl, hx, k⟩ := h
    refine ⟨_, (pss_one (ps_ret (pe_callB call_isiT rfl T.isi PyProof.Rows.boot_isinstance (pa_cons (pv 0) (pa_cons (pe_tup (pa_cons (pe_bltn (v := .ty "int") rfl T.int PyProof.Rows.boot_int rfl) (pa_cons (pe_glob (v := .ref C) rfl T.mgC rfl) pa_nil))) pa_nil))))), ?_⟩
    refine ⟨_, rfl, (by show 2 ≤ sizeLine; decide), fun tp htp => ?_⟩
    have e1 : Ex H (upd H tp (.tup [.ty "int", .ref C])) := Ex.new htp
    have pr : Paired ClsV [V.ty "int", V.ref C] [Value.type "int", Value.ref C] := .cons (.ty _) (.cons (.own _) .nil)
    rcases hx with hx | ⟨rfl, _⟩
    · exact ⟨x, tp, _, _, _, true, rfl, upd_same, pr, tyM T (hx.ex e1), kitAny_cons T.isI (fun _ => kitAny_cons T.isC (fun z => by cases z) fun _ => rfl) (fun z => by cases z), k _ e1⟩
    · exact ⟨_, tp, _, _, _, true, rfl, upd_same, pr, .base (.int _), kitAny_cons (kit_ty (r := true) (by decide +kernel)) (fun z => by cases z) (fun _ => rfl), k _ e1⟩
abbrev sAm : Stmt := top 13
theorem scAm : FnScope ["time"] ["time"] (defScope sAm) := ⟨rfl, rfl, rfl, by decide +kernel, rfl, by decide +kernel, by decide +kernel⟩
theorem ok_asm {f : Addr} {fd : FuncData} (F : Fun K "as_moment" "as_moment" sAm f fd) (T : Txt K mg C) (OI : OkI P w K mg base C CN) : FnOk P w K mg base CX0 6 f fd ["time"] (spAsM C) := by
  obtain ⟨fI, fdI, dsI, GI, MkC, bI, vI1, bI1⟩ := OI
  refine F.ok scAm (fun vs H Q E h => ?_) (fun cdv A outer s H vs Q E hr h => ?_)
  · obtain ⟨x, t, b, rfl, _⟩ := h
    rfl
  · obtain ⟨x, t, b, rfl, hx, st, k⟩ := h
    refine ⟨_, (pss_cons (ps_if (pt_val (pe_callB (r := rIsi K) call_isi rfl T.isi PyProof.Rows.boot_isinstance (pa_cons (pv 0) (pa_cons (pe_glob (v := .ref C) rfl T.mgC rfl) pa_nil)))) (pss_one (ps_ret (pv 0))) pss_nil)
 (pss_one (ps_ret (pe_make MkC GI (hr.mono (by decide)) rfl T.mgC bI1 vI1 passL (pa_cons (pv 0) pa_nil))))), ?_⟩
    rcases hx with hx | ⟨rfl, rfl⟩
    · exact ⟨_, rfl, _, _, _, _, true, rfl, .own C, tyM T hx, T.isC, true, rfl, iteT ⟨_, rfl, k _ _ (Ex.refl _) hx⟩⟩
    · exact ⟨_, rfl, _, _, _, _, false, rfl, .own C, .base (.int _), T.iI, false, rfl, iteF ⟨_, rfl, mk_rd1 st k⟩⟩
abbrev sAdd : Stmt := inClass (top 11) 12
theorem scAdd : FnScope ["self", "other"] ["self", "other"] (defScope sAdd) := ⟨rfl, rfl, rfl, by decide +kernel, rfl, by decide +kernel, by decide +kernel⟩
theorem ok_add {f : Addr} {fd : FuncData} (F : Fun K "__add__" "Moment.__add__" sAdd f fd) (T : Txt K mg C) (OI : OkI P w K mg base C CN) (OT : Ok P w K mg base CX0 1 "is_time" ["value"] (spIsTime C)) (OA : Ok P w K mg base CX0 6 "as_moment" ["time"] (spAsM C)) :
    FnOk P w K mg base CX0 7 f fd ["self", "other"] (spBin C nAdd dAll) := by
  obtain ⟨fI, fdI, dsI, GI, MkC, bI, vI1, bI1⟩ := OI
  refine F.ok scAdd (fun vs H Q E h => ?_) (fun cdv A outer s H vs Q E hr h => ?_)
  · obtain ⟨x, y, t, b, t', b', rfl, _⟩ := h
    rfl
  · obtain ⟨x, y, t, b, t', b', rfl, hx, hy, p1, p2, st, sb, st', sb', k⟩ := h
    obtain ⟨a, dx, rfl, hx⟩ := hx
    refine ⟨_, (pss_cons (ps_if (pt_val (pe_callB (r := rIsi K) call_isi rfl T.isi PyProof.Rows.boot_isinstance (pa_cons (pv 1) (pa_cons (pe_glob (v := .ref C) rfl T.mgC rfl) pa_nil)))) (pss_one (ps_ret (pe_make MkC GI (hr.mono (by decide)) rfl T.mgC bI .nil passL (pa_cons (pe_op op_add (pe_op op_mulW (pe_fld (pv 0) rfl) (pe_fld (pv 1) rfl)) (pe_op op_mulW (pe_fld (pv 1) rfl) (pe_fld (pv 0) rfl))) (pa_cons (pe_op op_mulW (pe_fld (pv 0) rfl) (pe_fld (pv 1) rfl)) pa_nil))))) pss_nil)
 (pss_cons (ps_if (pt_val (pe_callB (r := rIsi K) call_isi rfl T.isi PyProof.Rows.boot_isinstance (pa_cons (pv 1) (pa_cons (pe_bltn (v := .ty "int") rfl T.int PyProof.Rows.boot_int rfl) pa_nil)))) (pss_one (ps_ret (pe_make MkC GI (hr.mono (by decide)) rfl T.mgC bI .nil passL (pa_cons (pe_op op_add (pe_fld (pv 0) rfl) (pe_op op_mulW (pv 1) (pe_fld (pv 0) rfl))) (pa_cons (pe_fld (pv 0) rfl) pa_nil))))) pss_nil)
 (pss_one ps_never))), ?_⟩
    rcases hy with hy | ⟨rfl, rfl⟩
    · have ty := tyM T hy
      obtain ⟨a2, dx2, rfl, m1⟩ := hy
      refine ⟨_, rfl, _, _, _, _, true, rfl, .own C, ty, T.isC, true, rfl, iteT ?_⟩
      refine ⟨_, rfl, a, C, dx, _, _, rfl, hx, T.cl, T.nT, mf_top _ _, _, rfl, a2, C, dx2, _, _, rfl, m1, T.cl, T.nB, mf_bottom _ _, _, _, rfl, rfl, st.cmul sb', _, rfl, a2, C, dx2, _, _, rfl, m1, T.cl, T.nT, mf_top _ _, _, rfl, a, C, dx, _, _, rfl, hx, T.cl, T.nB, mf_bottom _ _, _, _, rfl, rfl, st'.cmul sb, _, _, rfl, rfl, _, rfl, a, C, dx, _, _, rfl, hx, T.cl, T.nB, mf_bottom _ _, _, rfl, a2, C, dx2, _, _, rfl, m1, T.cl, T.nB, mf_bottom _ _, _, _, rfl, rfl, sb.cmul sb', ?_⟩
      exact mk_rd (((st.mul sb').add (st'.mul sb)).mono (by decide)) ((sb.mul sb').mono (by decide)) (Int.ne_of_gt (Int.mul_pos p1 p2)) fun t2 b2 v H' N e m => k t2 b2 v H' N e m
    · refine ⟨_, rfl, _, _, _, _, false, rfl, .own C, .base (.int _), T.iI, false, rfl, iteF ?_⟩
      refine ⟨_, rfl, _, _, _, _, true, rfl, .ty "int", .base (.int _), kit_ty (by decide +kernel), true, rfl, iteT ?_⟩
      refine ⟨_, rfl, a, C, dx, _, _, rfl, hx, T.cl, T.nT, mf_top _ _, _, rfl, _, rfl, a, C, dx, _, _, rfl, hx, T.cl, T.nB, mf_bottom _ _, _, _, rfl, rfl, st'.cmul sb, _, _, rfl, rfl, _, rfl, a, C, dx, _, _, rfl, hx, T.cl, T.nB, mf_bottom _ _, ?_⟩
      exact mk_rd (((st.mono (show 1900 ≤ 3800 by decide)).add (st'.mul sb)).mono (by decide)) (sb.mono (by decide)) (Int.ne_of_gt p1) fun t2 b2 v H' N e m => k t2 b2 v H' (by unfold nAdd dAll; rw [Int.mul_one, Int.mul_one]; exact N) e m
abbrev sRAdd : Stmt := inClass (top 11) 13
theorem scRAdd : FnScope ["self", "other"] ["self", "other"] (defScope sRAdd) := ⟨rfl, rfl, rfl, by decide +kernel, rfl, by decide +kernel, by decide +kernel⟩
theorem ok_radd {f fB : Addr} {fd fdB : FuncData} (F : Fun K "__radd__" "Moment.__radd__" sRAdd f fd) (T : Txt K mg C) (TO : Opc K C) (O2 : Op2 K C "add" fB) (GB : FnOk P w K mg base CX0 7 fB fdB ["self", "other"] (spBin C nAdd dAll)) (bB : Binds K fdB ["self", "other"] [])
    (OA : Ok P w K mg base CX0 6 "as_moment" ["time"] (spAsM C)) : FnOk P w K mg base CX0 8 f fd ["self", "other"] (spBinR C nAdd dAll) := by
  obtain ⟨fAm, fdAm, GAm, mAm, kAm, bAm⟩ := OA
  refine F.ok scRAdd (fun vs H Q E h => ?_) (fun cdv A outer s H vs Q E hr h => ?_)
  · obtain ⟨x, y, t, b, t', b', rfl, _⟩ := h
    rfl
  · obtain ⟨x, y, t, b, t', b', rfl, hx, hy, p1, p2, st, sb, st', sb', k⟩ := h
    have oB := op_own (X := (cxOf CX0 P w K mg base ["self", "other"] "Moment.__radd__" (defScope sRAdd) f cdv A outer s H E).nox) (op := .Add) (E := E0) TO io_add O2 GB hr bB pass0
    refine ⟨_, (pss_one (ps_ret (pe_op oB (pe_call GAm (hr.mono (by decide)) rfl mAm kAm bAm .nil pass0 (pa_cons (pv 1) pa_nil)) (pv 0)))), ?_⟩
    refine ⟨_, rfl, y, t', b', rfl, hy, st'.mono (by decide), fun v2 H2 e2 m1 => ?_⟩
    refine ⟨_, rfl, m1.isC, .inl (hx.ex e2).isC, _, _, _, _, _, _, rfl, m1, .inl (hx.ex e2), p2, p1, st', sb', st, sb, fun t2 b2 v H' N e m => k t2 b2 v H' N (e2.trans e) m⟩
abbrev sSub : Stmt := inClass (top 11) 14
theorem scSub : FnScope ["self", "other"] ["self", "other"] (defScope sSub) := ⟨rfl, rfl, rfl, by decide +kernel, rfl, by decide +kernel, by decide +kernel⟩
theorem ok_sub {f : Addr} {fd : FuncData} (F : Fun K "__sub__" "Moment.__sub__" sSub f fd) (T : Txt K mg C) (OI : OkI P w K mg base C CN) (OT : Ok P w K mg base CX0 1 "is_time" ["value"] (spIsTime C)) (OA : Ok P w K mg base CX0 6 "as_moment" ["time"] (spAsM C)) :
    FnOk P w K mg base CX0 7 f fd ["self", "other"] (spBin C nSub dAll) := by
  obtain ⟨fI, fdI, dsI, GI, MkC, bI, vI1, bI1⟩ := OI
  refine F.ok scSub (fun vs H Q E h => ?_) (fun cdv A outer s H vs Q E hr h => ?_)
  · obtain ⟨x, y, t, b, t', b', rfl, _⟩ := h
    rfl
  · obtain ⟨x, y, t, b, t', b', rfl, hx, hy, p1, p2, st, sb, st', sb', k⟩ := h
    obtain ⟨a, dx, rfl, hx⟩ := hx
    refine ⟨_, (pss_cons (ps_if (pt_val (pe_callB (r := rIsi K) call_isi rfl T.isi PyProof.Rows.boot_isinstance (pa_cons (pv 1) (pa_cons (pe_glob (v := .ref C) rfl T.mgC rfl) pa_nil)))) (pss_one (ps_ret (pe_make MkC GI (hr.mono (by decide)) rfl T.mgC bI .nil passL (pa_cons (pe_op op_sub (pe_op op_mulW (pe_fld (pv 0) rfl) (pe_fld (pv 1) rfl)) (pe_op op_mulW (pe_fld (pv 1) rfl) (pe_fld (pv 0) rfl))) (pa_cons (pe_op op_mulW (pe_fld (pv 0) rfl) (pe_fld (pv 1) rfl)) pa_nil))))) pss_nil)
 (pss_cons (ps_if (pt_val (pe_callB (r := rIsi K) call_isi rfl T.isi PyProof.Rows.boot_isinstance (pa_cons (pv 1) (pa_cons (pe_bltn (v := .ty "int") rfl T.int PyProof.Rows.boot_int rfl) pa_nil)))) (pss_one (ps_ret (pe_make MkC GI (hr.mono (by decide)) rfl T.mgC bI .nil passL (pa_cons (pe_op op_sub (pe_fld (pv 0) rfl) (pe_op op_mulW (pv 1) (pe_fld (pv 0) rfl))) (pa_cons (pe_fld (pv 0) rfl) pa_nil))))) pss_nil)
 (pss_one ps_never))), ?_⟩
    rcases hy with hy | ⟨rfl, rfl⟩
    · have ty := tyM T hy
      obtain ⟨a2, dx2, rfl, m1⟩ := hy
      refine ⟨_, rfl, _, _, _, _, true, rfl, .own C, ty, T.isC, true, rfl, iteT ?_⟩
      refine ⟨_, rfl, a, C, dx, _, _, rfl, hx, T.cl, T.nT, mf_top _ _, _, rfl, a2, C, dx2, _, _, rfl, m1, T.cl, T.nB, mf_bottom _ _, _, _, rfl, rfl, st.cmul sb', _, rfl, a2, C, dx2, _, _, rfl, m1, T.cl, T.nT, mf_top _ _, _, rfl, a, C, dx, _, _, rfl, hx, T.cl, T.nB, mf_bottom _ _, _, _, rfl, rfl, st'.cmul sb, _, _, rfl, rfl, _, rfl, a, C, dx, _, _, rfl, hx, T.cl, T.nB, mf_bottom _ _, _, rfl, a2, C, dx2, _, _, rfl, m1, T.cl, T.nB, mf_bottom _ _, _, _, rfl, rfl, sb.cmul sb', ?_⟩
      exact mk_rd (((st.mul sb').sub (st'.mul sb)).mono (by decide)) ((sb.mul sb').mono (by decide)) (Int.ne_of_gt (Int.mul_pos p1 p2)) fun t2 b2 v H' N e m => k t2 b2 v H' N e m
    · refine ⟨_, rfl, _, _, _, _, false, rfl, .own C, .base (.int _), T.iI, false, rfl, iteF ?_⟩
      refine ⟨_, rfl, _, _, _, _, true, rfl, .ty "int", .base (.int _), kit_ty (by decide +kernel), true, rfl, iteT ?_⟩
      refine ⟨_, rfl, a, C, dx, _, _, rfl, hx, T.cl, T.nT, mf_top _ _, _, rfl, _, rfl, a, C, dx, _, _, rfl, hx, T.cl, T.nB, mf_bottom _ _, _, _, rfl, rfl, st'.cmul sb, _, _, rfl, rfl, _, rfl, a, C, dx, _, _, rfl, hx, T.cl, T.nB, mf_bottom _ _, ?_⟩
      exact mk_rd (((st.mono (show 1900 ≤ 3800 by decide)).sub (st'.mul sb)).mono (by decide)) (sb.mono (by decide)) (Int.ne_of_gt p1) fun t2 b2 v H' N e m => k t2 b2 v H' (by unfold nSub dAll; rw [Int.mul_one, Int.mul_one]; exact N) e m
abbrev sRSub : Stmt := inClass (top 11) 15
theorem scRSub : FnScope ["self", "other"] ["self", "other"] (defScope sRSub) := ⟨rfl, rfl, rfl, by decide +kernel, rfl, by decide +kernel, by decide +kernel⟩
theorem ok_rsub {f fB : Addr} {fd fdB : FuncData} (F : Fun K "__rsub__" "Moment.__rsub__" sRSub f fd) (T : Txt K mg C) (TO : Opc K C) (O2 : Op2 K C "sub" fB) (GB : FnOk P w K mg base CX0 7 fB fdB ["self", "other"] (spBin C nSub dAll)) (bB : Binds K fdB ["self", "other"] [])
    (OA : Ok P w K mg base CX0 6 "as_moment" ["time"] (spAsM C)) : FnOk P w K mg base CX0 8 f fd ["self", "other"] (spBinR C nSub dAll) := by
  obtain ⟨fAm, fdAm, GAm, mAm, kAm, bAm⟩ := OA
  refine F.ok scRSub (fun vs H Q E h => ?_) (fun cdv A outer s H vs Q E hr h => ?_)
  · obtain ⟨x, y, t, b, t', b', rfl, _⟩ := h
    rfl
  · obtain ⟨x, y, t, b, t', b', rfl, hx, hy, p1, p2, st, sb, st', sb', k⟩ := h
    have oB := op_own (X := (cxOf CX0 P w K mg base ["self", "other"] "Moment.__rsub__" (defScope sRSub) f cdv A outer s H E).nox) (op := .Sub) (E := E0) TO io_sub O2 GB hr bB pass0
    refine ⟨_, (pss_one (ps_ret (pe_op oB (pe_call GAm (hr.mono (by decide)) rfl mAm kAm bAm .nil pass0 (pa_cons (pv 1) pa_nil)) (pv 0)))), ?_⟩
    refine ⟨_, rfl, y, t', b', rfl, hy, st'.mono (by decide), fun v2 H2 e2 m1 => ?_⟩
    refine ⟨_, rfl, m1.isC, .inl (hx.ex e2).isC, _, _, _, _, _, _, rfl, m1, .inl (hx.ex e2), p2, p1, st', sb', st, sb, fun t2 b2 v H' N e m => k t2 b2 v H' N (e2.trans e) m⟩
abbrev sMul : Stmt := inClass (top 11) 16
theorem scMul : FnScope ["self", "other"] ["self", "other"] (defScope sMul) := ⟨rfl, rfl, rfl, by decide +kernel, rfl, by decide +kernel, by decide +kernel⟩
theorem ok_mul {f : Addr} {fd : FuncData} (F : Fun K "__mul__" "Moment.__mul__" sMul f fd) (T : Txt K mg C) (OI : OkI P w K mg base C CN) (OT : Ok P w K mg base CX0 1 "is_time" ["value"] (spIsTime C)) (OA : Ok P w K mg base CX0 6 "as_moment" ["time"] (spAsM C)) :
    FnOk P w K mg base CX0 7 f fd ["self", "other"] (spBin C nMul dAll) := by
  obtain ⟨fI, fdI, dsI, GI, MkC, bI, vI1, bI1⟩ := OI
  refine F.ok scMul (fun vs H Q E h => ?_) (fun cdv A outer s H vs Q E hr h => ?_)
  · obtain ⟨x, y, t, b, t', b', rfl, _⟩ := h
    rfl
  · obtain ⟨x, y, t, b, t', b', rfl, hx, hy, p1, p2, st, sb, st', sb', k⟩ := h
    obtain ⟨a, dx, rfl, hx⟩ := hx
    refine ⟨_, (pss_cons (ps_if (pt_val (pe_callB (r := rIsi K) call_isi rfl T.isi PyProof.Rows.boot_isinstance (pa_cons (pv 1) (pa_cons (pe_glob (v := .ref C) rfl T.mgC rfl) pa_nil)))) (pss_one (ps_ret (pe_make MkC GI (hr.mono (by decide)) rfl T.mgC bI .nil passL (pa_cons (pe_op op_mulW (pe_fld (pv 0) rfl) (pe_fld (pv 1) rfl)) (pa_cons (pe_op op_mulW (pe_fld (pv 0) rfl) (pe_fld (pv 1) rfl)) pa_nil))))) pss_nil)
 (pss_cons (ps_if (pt_val (pe_callB (r := rIsi K) call_isi rfl T.isi PyProof.Rows.boot_isinstance (pa_cons (pv 1) (pa_cons (pe_bltn (v := .ty "int") rfl T.int PyProof.Rows.boot_int rfl) pa_nil)))) (pss_one (ps_ret (pe_make MkC GI (hr.mono (by decide)) rfl T.mgC bI .nil passL (pa_cons (pe_op op_mulW (pe_fld (pv 0) rfl) (pv 1)) (pa_cons (pe_fld (pv 0) rfl) pa_nil))))) pss_nil)
 (pss_one ps_never))), ?_⟩
    rcases hy with hy | ⟨rfl, rfl⟩
    · have ty := tyM T hy
      obtain ⟨a2, dx2, rfl, m1⟩ := hy
      refine ⟨_, rfl, _, _, _, _, true, rfl, .own C, ty, T.isC, true, rfl, iteT ?_⟩
      refine ⟨_, rfl, a, C, dx, _, _, rfl, hx, T.cl, T.nT, mf_top _ _, _, rfl, a2, C, dx2, _, _, rfl, m1, T.cl, T.nT, mf_top _ _, _, _, rfl, rfl, st.cmul st', _, rfl, a, C, dx, _, _, rfl, hx, T.cl, T.nB, mf_bottom _ _, _, rfl, a2, C, dx2, _, _, rfl, m1, T.cl, T.nB, mf_bottom _ _, _, _, rfl, rfl, sb.cmul sb', ?_⟩
      exact mk_rd ((st.mul st').mono (by decide)) ((sb.mul sb').mono (by decide)) (Int.ne_of_gt (Int.mul_pos p1 p2)) fun t2 b2 v H' N e m => k t2 b2 v H' N e m
    · refine ⟨_, rfl, _, _, _, _, false, rfl, .own C, .base (.int _), T.iI, false, rfl, iteF ?_⟩
      refine ⟨_, rfl, _, _, _, _, true, rfl, .ty "int", .base (.int _), kit_ty (by decide +kernel), true, rfl, iteT ?_⟩
      refine ⟨_, rfl, a, C, dx, _, _, rfl, hx, T.cl, T.nT, mf_top _ _, _, rfl, _, _, rfl, rfl, st.cmul st', _, rfl, a, C, dx, _, _, rfl, hx, T.cl, T.nB, mf_bottom _ _, ?_⟩
      exact mk_rd ((st.mul st').mono (by decide)) (sb.mono (by decide)) (Int.ne_of_gt p1) fun t2 b2 v H' N e m => k t2 b2 v H' (by unfold nMul dAll; rw [Int.mul_one]; exact N) e m
abbrev sRMul : Stmt := inClass (top 11) 17
theorem scRMul : FnScope ["self", "other"] ["self", "other"] (defScope sRMul) := ⟨rfl, rfl, rfl, by decide +kernel, rfl, by decide +kernel, by decide +kernel⟩
theorem ok_rmul {f fB : Addr} {fd fdB : FuncData} (F : Fun K "__rmul__" "Moment.__rmul__" sRMul f fd) (T : Txt K mg C) (TO : Opc K C) (O2 : Op2 K C "mul" fB) (GB : FnOk P w K mg base CX0 7 fB fdB ["self", "other"] (spBin C nMul dAll)) (bB : Binds K fdB ["self", "other"] [])
    (OA : Ok P w K mg base CX0 6 "as_moment" ["time"] (spAsM C)) : FnOk P w K mg base CX0 8 f fd ["self", "other"] (spBinR C nMul dAll) := by
  obtain ⟨fAm, fdAm, GAm, mAm, kAm, bAm⟩ := OA
  refine F.ok scRMul (fun vs H Q E h => ?_) (fun cdv A outer s H vs Q E hr h => ?_)
  · obtain ⟨x, y, t, b, t', b', rfl, _⟩ := h
    rfl
  · obtain ⟨x, y, t, b, t', b', rfl, hx, hy, p1, p2, st, sb, st', sb', k⟩ := h
    have oB := op_own (X := (cxOf CX0 P w K mg base ["self", "other"] "Moment.__rmul__" (defScope sRMul) f cdv A outer s H E).nox) (op := .Mult) (E := E0) TO io_mul O2 GB hr bB pass0
    refine ⟨_, (pss_one (ps_ret (pe_op oB (pe_call GAm (hr.mono (by decide)) rfl mAm kAm bAm .nil pass0 (pa_cons (pv 1) pa_nil)) (pv 0)))), ?_⟩
    refine ⟨_, rfl, y, t', b', rfl, hy, st'.mono (by decide), fun v2 H2 e2 m1 => ?_⟩
    refine ⟨_, rfl, m1.isC, .inl (hx.ex e2).isC, _, _, _, _, _, _, rfl, m1, .inl (hx.ex e2), p2, p1, st', sb', st, sb, fun t2 b2 v H' N e m => k t2 b2 v H' N (e2.trans e) m⟩
abbrev sFd : Stmt := inClass (top 11) 18
theorem scFd : FnScope ["self", "other", "time"] ["self", "other"] (defScope sFd) := ⟨rfl, rfl, rfl, by decide +kernel, rfl, by decide +kernel, by decide +kernel⟩
theorem ok_fd {f : Addr} {fd : FuncData} (F : Fun K "__floordiv__" "Moment.__floordiv__" sFd f fd) (T : Txt K mg C) (OT : Ok P w K mg base CX0 1 "is_time" ["value"] (spIsTime C)) (OA : Ok P w K mg base CX0 6 "as_moment" ["time"] (spAsM C)) :
    FnOk P w K mg base (L2.CX P w) 7 f fd ["self", "other"] (spFloor C) := by
  obtain ⟨fIt, fdIt, GIt, mIt, kIt, bIt⟩ := OT
  obtain ⟨fAm, fdAm, GAm, mAm, kAm, bAm⟩ := OA
  refine F.okX scFd (fun vs H Q E h => ?_) (fun cdv A outer s H vs Q E hr h => ?_)
  · obtain ⟨x, y, t, b, t', b', rfl, _⟩ := h
    rfl
  · obtain ⟨x, y, t, b, t', b', rfl, hx, hy, p1, p2, st, sb, st', sb', kE, kQ⟩ := h
    obtain ⟨a, dx, rfl, hx⟩ := hx
    refine ⟨_, (pss_cons (ps_if (pt_not (pt_val (pe_call GIt (hr.mono (by decide)) rfl mIt kIt bIt .nil pass0 (pa_cons (pv 1) pa_nil)))) (pss_one ps_never) pss_nil)
 (pss_cons (ps_set (i := 2) scFd.nd rfl (Or.inl rfl) (pe_call GAm (hr.mono (by decide)) rfl mAm kAm bAm .nil pass0 (pa_cons (pv 1) pa_nil)))
 (pss_one (ps_ret (pe_fdivX rfl (takes_of rfl rfl rfl rfl) (pe_op op_mulW (pe_fld (pv 0) rfl) (pe_fld (pv 2) rfl)) (pe_op op_mulW (pe_fld (pv 0) rfl) (pe_fld (pv 2) rfl))))))), ?_⟩
    refine ⟨_, rfl, y, t', b', rfl, hy, fun H1 e1 => ⟨true, rfl, iteF ?_⟩⟩
    refine ⟨_, rfl, y, t', b', rfl, hy.ex e1, st'.mono (by decide), fun v2 H2 e2 m1 => ?_⟩
    obtain ⟨a2, dx2, rfl, m1⟩ := m1
    have h1 := e2 _ _ (e1 _ _ hx)
    refine ⟨_, rfl, a, C, dx, _, _, rfl, h1, T.cl, T.nT, mf_top _ _, _, rfl, a2, C, dx2, _, _, rfl, m1, T.cl, T.nB, mf_bottom _ _, _, _, rfl, rfl, st.cmul sb', _, rfl, a, C, dx, _, _, rfl, h1, T.cl, T.nB, mf_bottom _ _, _, rfl, a2, C, dx2, _, _, rfl, m1, T.cl, T.nT, mf_top _ _, _, _, rfl, rfl, sb.cmul st', _, _, rfl, rfl, ?_⟩
    by_cases hz : t' = 0
    · exact .inr ⟨by rw [hz, Int.mul_zero], fun d => kE hz d _ (e1.trans e2)⟩
    · exact .inl ⟨(sb.mul st').cdiv (Int.mul_ne_zero (Int.ne_of_gt p1) hz), kQ hz _ (e1.trans e2)⟩
abbrev sRFd : Stmt := inClass (top 11) 19
theorem scRFd : FnScope ["self", "other"] ["self", "other"] (defScope sRFd) := ⟨rfl, rfl, rfl, by decide +kernel, rfl, by decide +kernel, by decide +kernel⟩
theorem ok_rfd {f fB : Addr} {fd fdB : FuncData} (F : Fun K "__rfloordiv__" "Moment.__rfloordiv__" sRFd f fd) (T : Txt K mg C) (TO : Opc K C) (O2 : Op2 K C "floordiv" fB) (GB : FnOk P w K mg base (L2.CX P w) 7 fB fdB ["self", "other"] (spFloor C)) (bB : Binds K fdB ["self", "other"] [])
    (OA : Ok P w K mg base CX0 6 "as_moment" ["time"] (spAsM C)) : FnOk P w K mg base (L2.CX P w) 8 f fd ["self", "other"] (spFloorR C) := by
  obtain ⟨fAm, fdAm, GAm, mAm, kAm, bAm⟩ := OA
  refine F.okX scRFd (fun vs H Q E h => ?_) (fun cdv A outer s H vs Q E hr h => ?_)
  · obtain ⟨x, y, t, b, t', b', rfl, _⟩ := h
    rfl
  · obtain ⟨x, y, t, b, t', b', rfl, hx, hy, p1, p2, st, sb, st', sb', kE, kQ⟩ := h
    have oB := op_own (X := cxOf (L2.CX P w) P w K mg base ["self", "other"] "Moment.__rfloordiv__" (defScope sRFd) f cdv A outer s H E) (op := .FloorDiv) (E := E) TO io_floordiv O2 GB hr bB (passes_call (takes_of rfl rfl rfl rfl) fun _ _ _ _ h => h)
    refine ⟨_, (pss_one (ps_ret (pe_op oB (pe_call GAm (hr.mono (by decide)) rfl mAm kAm bAm .nil pass0 (pa_cons (pv 1) pa_nil)) (pv 0)))), ?_⟩
    refine ⟨_, rfl, y, t', b', rfl, hy, st'.mono (by decide), fun v2 H2 e2 m1 => ?_⟩
    exact ⟨_, rfl, m1.isC, .inl (hx.ex e2).isC, _, _, _, _, _, _, rfl, m1, .inl (hx.ex e2), p2, p1, st', sb', st, sb, fun hz d H' e => kE hz d H' (e2.trans e), fun hz H' e => kQ hz H' (e2.trans e)⟩
abbrev sMd : Stmt := inClass (top 11) 20
theorem scMd : FnScope ["self", "other"] ["self", "other"] (defScope sMd) := ⟨rfl, rfl, rfl, by decide +kernel, rfl, by decide +kernel, by decide +kernel⟩
theorem ok_md {f fF fM fS : Addr} {fd dF dM dS : FuncData} (F : Fun K "__mod__" "Moment.__mod__" sMd f fd) (T : Txt K mg C) (TO : Opc K C) (OT : Ok P w K mg base CX0 1 "is_time" ["value"] (spIsTime C))
    (F2 : Op2 K C "floordiv" fF) (GF : FnOk P w K mg base (L2.CX P w) 7 fF dF ["self", "other"] (spFloor C)) (bF : Binds K dF ["self", "other"] [])
    (M2 : Op2 K C "mul" fM) (GM : FnOk P w K mg base CX0 7 fM dM ["self", "other"] (spBin C nMul dAll)) (bM : Binds K dM ["self", "other"] [])
    (S2 : Op2 K C "sub" fS) (GS : FnOk P w K mg base CX0 7 fS dS ["self", "other"] (spBin C nSub dAll)) (bS : Binds K dS ["self", "other"] []) :
    FnOk P w K mg base (L2.CX P w) 8 f fd ["self", "other"] (spMod C) := by
  obtain ⟨fIt, fdIt, GIt, mIt, kIt, bIt⟩ := OT
  refine F.okX scMd (fun vs H Q E h => ?_) (fun cdv A outer s H vs Q E hr h => ?_)
  · obtain ⟨x, y, t, b, t', b', rfl, _⟩ := h
    rfl
  · obtain ⟨x, y, t, b, t', b', rfl, hx, hy, p1, p2, st, sb, st', sb', kE, kQ⟩ := h
    let X := cxOf (L2.CX P w) P w K mg base ["self", "other"] "Moment.__mod__" (defScope sMd) f cdv A outer s H E
    have oF := op_own (X := X) (op := .FloorDiv) (E := E) TO io_floordiv F2 GF hr bF (passes_call (takes_of rfl rfl rfl rfl) fun _ _ _ _ h => h)
    have oMl := (op_own (X := X) (op := .Mult) (E := E0) TO io_mul M2 GM hr bM pass0).or (op_mulW (X := X))
    have oS := op_own (X := X) (op := .Sub) (E := E0) TO io_sub S2 GS hr bS pass0
    refine ⟨_, (pss_cons (ps_if (pt_not (pt_val (pe_call GIt (hr.mono (by decide)) rfl mIt kIt bIt .nil pass0 (pa_cons (pv 1) pa_nil)))) (pss_one ps_never) pss_nil)
 (pss_one (ps_ret (pe_op oS (pv 0) (pe_op oMl (pv 1) (pe_op oF (pv 0) (pv 1))))))), ?_⟩
    refine ⟨_, rfl, y, t', b', rfl, hy, fun H1 e1 => ⟨true, rfl, iteF ?_⟩⟩
    have hx := hx.ex e1
    have hy := hy.ex e1
    have one : Sm 1900 1 := (sml (n := 1) (k := 2) (by decide)).mono (by decide)
    refine ⟨_, rfl, _, rfl, _, rfl, _, rfl, hx.isC, hy.op, x, y, t, b, t', b', rfl, hx, hy, p1, p2, st.mono (by decide), sb.mono (by decide), st'.mono (by decide), sb'.mono (by decide), fun hz d H' e => kE hz d H' (e1.trans e), fun hz H2 e2 => ?_⟩
    have hx := hx.ex e2
    have hy := hy.ex e2
    have kQ := kQ hz
    have sq : Sm 800 ((t * b').fdiv (b * t')) := sm_fdiv (st.mul sb')
    unfold Rest at kQ
    generalize (t * b').fdiv (b * t') = q at *
    rcases hy with hy | ⟨rfl, rfl⟩
    · refine .inl ⟨hy.isC, .inr ⟨_, rfl⟩, y, _, t', b', q, 1, rfl, hy, .inr ⟨rfl, rfl⟩, p2, by decide, st'.mono (by decide), sb'.mono (by decide), sq.mono (by decide), one, fun t3 b3 v H3 N1 e3 m3 => ?_⟩
      have s3 : Sm 1200 t3 := N1.st (st'.mul sq)
      have s4 : Sm 402 b3 := N1.sb (sb'.mul (sml (n := 1) (k := 2) (by decide)))
      refine ⟨(hx.ex e3).isC, .inl m3.isC, _, _, t, b, t3, b3, rfl, hx.ex e3, .inl m3, p1, N1.pos, st.mono (by decide), sb.mono (by decide), s3.mono (by decide), s4.mono (by decide), fun t2 b2 v2 H4 N2 e4 m4 => ?_⟩
      exact kQ t2 b2 v2 H4 N2.red (mod_eqM N1 N2) ((N2.st (((st.mul s4).mono (show 400 + 402 ≤ 1600 by decide)).sub ((s3.mul sb).mono (show 1200 + 400 ≤ 1600 by decide)))).mono (by decide)) ((N2.sb (sb.mul s4)).mono (by decide)) (((e1.trans e2).trans e3).trans e4) m4
    · have s3 : Sm 1200 (t' * q) := st'.mul sq
      refine .inr ⟨_, _, rfl, rfl, st'.cmul sq, hx.isC, .inr ⟨_, rfl⟩, _, _, t, b, t' * q, 1, rfl, hx, .inr ⟨rfl, rfl⟩, p1, by decide, st.mono (by decide), sb.mono (by decide), s3.mono (by decide), one, fun t2 b2 v2 H4 N2 e4 m4 => ?_⟩
      exact kQ t2 b2 v2 H4 N2.red (mod_eqI N2) ((N2.st (((st.mul (sml (n := 1) (k := 2) (by decide))).mono (show 400 + 2 ≤ 1600 by decide)).sub ((s3.mul sb).mono (show 1200 + 400 ≤ 1600 by decide)))).mono (by decide)) ((N2.sb (sb.mul (sml (n := 1) (k := 2) (by decide)))).mono (by decide)) ((e1.trans e2).trans e4) m4
abbrev sRMd : Stmt := inClass (top 11) 21
theorem scRMd : FnScope ["self", "other"] ["self", "other"] (defScope sRMd) := ⟨rfl, rfl, rfl, by decide +kernel, rfl, by decide +kernel, by decide +kernel⟩
theorem ok_rmd {f fB : Addr} {fd fdB : FuncData} (F : Fun K "__rmod__" "Moment.__rmod__" sRMd f fd) (T : Txt K mg C) (TO : Opc K C) (O2 : Op2 K C "mod" fB) (GB : FnOk P w K mg base (L2.CX P w) 8 fB fdB ["self", "other"] (spMod C)) (bB : Binds K fdB ["self", "other"] [])
    (OA : Ok P w K mg base CX0 6 "as_moment" ["time"] (spAsM C)) : FnOk P w K mg base (L2.CX P w) 9 f fd ["self", "other"] (spModR C) := by
  obtain ⟨fAm, fdAm, GAm, mAm, kAm, bAm⟩ := OA
  refine F.okX scRMd (fun vs H Q E h => ?_) (fun cdv A outer s H vs Q E hr h => ?_)
  · obtain ⟨x, y, t, b, t', b', rfl, _⟩ := h
    rfl
  · obtain ⟨x, y, t, b, t', b', rfl, hx, hy, p1, p2, st, sb, st', sb', kE, kQ⟩ := h
    have oB := op_own (X := cxOf (L2.CX P w) P w K mg base ["self", "other"] "Moment.__rmod__" (defScope sRMd) f cdv A outer s H E) (op := .Mod) (E := E) TO io_mod O2 GB hr bB (passes_call (takes_of rfl rfl rfl rfl) fun _ _ _ _ h => h)
    refine ⟨_, (pss_one (ps_ret (pe_op oB (pe_call GAm (hr.mono (by decide)) rfl mAm kAm bAm .nil pass0 (pa_cons (pv 1) pa_nil)) (pv 0)))), ?_⟩
    refine ⟨_, rfl, y, t', b', rfl, hy, st'.mono (by decide), fun v2 H2 e2 m1 => ?_⟩
    exact ⟨_, rfl, m1.isC, .inl (hx.ex e2).isC, _, _, _, _, _, _, rfl, m1, .inl (hx.ex e2), p2, p1, st', sb', st, sb, fun hz d H' e => kE hz d H' (e2.trans e), fun hz t2 b2 v H' r q s1 s2 e m => kQ hz t2 b2 v H' r q s1 s2 (e2.trans e) m⟩
abbrev sDv : Stmt := top 24
theorem scDv : FnScope ["_law_a", "_law_b", "_law_top", "_law_bottom", "_law_other_top", "_law_other_bottom", "_law_floor", "_law_rest", "_law_failed", "_law_due"] ["_law_a", "_law_b", "_law_top", "_law_bottom", "_law_other_top", "_law_other_bottom"] (defScope sDv) := ⟨rfl, rfl, rfl, by decide +kernel, rfl, by decide +kernel, by decide +kernel⟩
theorem ok_div {f fF fRF fM fRM : Addr} {fd dF dRF dM dRM : FuncData} (F : Fun K "_law_divided" "_law_divided" sDv f fd) (T : Txt K mg C) (TO : Opc K C) (gZD : mg "ZeroDivisionError" = none)
    (F2 : Op2 K C "floordiv" fF) (GF : FnOk P w K mg base (L2.CX P w) 7 fF dF ["self", "other"] (spFloor C)) (bF : Binds K dF ["self", "other"] [])
    (RF2 : OpR2 K C "floordiv" fRF) (GRF : FnOk P w K mg base (L2.CX P w) 8 fRF dRF ["self", "other"] (spFloorR C)) (bRF : Binds K dRF ["self", "other"] [])
    (M2 : Op2 K C "mod" fM) (GM : FnOk P w K mg base (L2.CX P w) 8 fM dM ["self", "other"] (spMod C)) (bM : Binds K dM ["self", "other"] [])
    (RM2 : OpR2 K C "mod" fRM) (GRM : FnOk P w K mg base (L2.CX P w) 9 fRM dRM ["self", "other"] (spModR C)) (bRM : Binds K dRM ["self", "other"] [])
    (OI : Ok P w K mg base CX0 1 "_law_is_int" ["_law_actual"] spIsInt) (OH : Ok P w K mg base CX0 2 "_law_holds" ["_law_actual", "_law_top", "_law_bottom"] (spHolds C)) : FnOk P w K mg base CX0 10 f fd ["_law_a", "_law_b", "_law_top", "_law_bottom", "_law_other_top", "_law_other_bottom"] (spDiv C) := by
  obtain ⟨fIi, fdIi, GIi, mIi, kIi, bIi⟩ := OI
  obtain ⟨fHo, fdHo, GHo, mHo, kHo, bHo⟩ := OH
  refine F.ok scDv (fun vs H Q E h => ?_) (fun cdv A outer s H vs Q E hr h => ?_)
  · obtain ⟨x, y, t, b, n, d, t', b', n', d', rfl, _⟩ := h
    rfl
  · obtain ⟨x, y, t, b, n, d, t', b', n', d', rfl, hxy, h1, h2, p1, p2, hd, hd', st, sb, st', sb', sn, sd, sn', sd', hQ⟩ := h
    have zi := zero_iff h2 p2 hd'
    refine ⟨_, (pss_cons (ps_set (i := 6) scDv.nd rfl (Or.inl rfl) pe_non)
 (pss_cons (ps_set (i := 7) scDv.nd rfl (Or.inl rfl) pe_non)
 (pss_cons (ps_set (i := 8) scDv.nd rfl (Or.inl rfl) pe_int)
 (pss_cons (ps_try_only (tb := fun W => tAsg (tTwoS C (spFloor C) (spFloorR C) (WE W) (tVar 0) (tVar 1)) (gName 6)) (ts := fun a cls d => tAsg (tOp (rI0 fun i j => .int (i + j)) (tVar 8) (tC (.int 1))) (gName 8)) (Wout := fun _ _ _ _ => False) rfl rfl (names_blt rfl gZD boot_ZeroDivisionError) takes0 (fun W pn xe tk _ => pss_one (ps_set (i := 6) scDv.nd rfl (Or.inl rfl) (by exact (pe_twoS (pv 0) (pv 1) TO io_floordiv F2 GF (hr.mono (by decide)) bF ir_floordiv RF2 GRF (hr.mono (by decide)) bRF fun σ => passAt tk σ)))) (fun a oe cls d pn hz hf => pss_one (ps_set (i := 8) scDv.nd rfl (Or.inl rfl) (pe_op op_add (pv 8) pe_int))))
 (pss_cons (ps_try_only (tb := fun W => tAsg (tTwoS C (spMod C) (spModR C) (WE W) (tVar 0) (tVar 1)) (gName 7)) (ts := fun a cls d => tAsg (tOp (rI0 fun i j => .int (i + j)) (tVar 8) (tC (.int 1))) (gName 8)) (Wout := fun _ _ _ _ => False) rfl rfl (names_blt rfl gZD boot_ZeroDivisionError) takes0 (fun W pn xe tk _ => pss_one (ps_set (i := 7) scDv.nd rfl (Or.inl rfl) (by exact (pe_twoS (pv 0) (pv 1) TO io_mod M2 GM (hr.mono (by decide)) bM ir_mod RM2 GRM (hr.mono (by decide)) bRM fun σ => passAt tk σ)))) (fun a oe cls d pn hz hf => pss_one (ps_set (i := 8) scDv.nd rfl (Or.inl rfl) (pe_op op_add (pv 8) pe_int))))
 (pss_cons (ps_if (pt_cmpR op_eq (pv 4) pe_int (nomark _)) (pss_one (ps_ret (pe_cmpR op_eq (pv 8) pe_int (nomark _)))) pss_nil)
 (pss_cons (ps_if (PW.pt (pw_or (pt_cmpR op_gt (pv 8) pe_int (nomark _)) (pw_or1 (pt_not (pt_val (pe_call GIi (hr.mono (by decide)) rfl mIi kIi bIi .nil pass0 (pa_cons (pv 6) pa_nil))))))) (pss_one (ps_ret pe_bl)) pss_nil)
 (pss_cons (ps_set (i := 9) scDv.nd rfl (Or.inl rfl) (pe_op op_fdivNW (pe_op op_mulW (pv 2) (pv 5)) (pe_op op_mulW (pv 3) (pv 4))))
 (pss_cons (ps_if (pt_cmpR op_ne (pv 6) (pv 9) (nomark _)) (pss_one (ps_ret pe_bl)) pss_nil)
 (pss_one (ps_ret (pe_call GHo (hr.mono (by decide)) rfl mHo kHo bHo .nil pass0 (pa_cons (pv 7) (pa_cons (pe_op op_sub (pe_op op_mulW (pv 2) (pv 5)) (pe_op op_mulW (pe_op op_mulW (pv 9) (pv 4)) (pv 3))) (pa_cons (pe_op op_mulW (pv 3) (pv 5)) pa_nil))))))))))))))), ?_⟩
    by_cases hz : t' = 0
    · have hn : n' = 0 := zi.mp hz
      subst hn
      refine ⟨_, rfl, _, rfl, floor_two hxy p1 p2 (st.mono (by decide)) (sb.mono (by decide)) (st'.mono (by decide)) (sb'.mono (by decide)) (fun _ d0 H1 e1 => ⟨true, exm_ZD, fun _ a0 ha0 => ?_, fun q => Bool.noConfusion q⟩) (fun q => absurd hz q)⟩
      refine ⟨_, rfl, _, _, rfl, rfl, ?_⟩
      refine ⟨_, rfl, _, rfl, mod_two (hxy.ex e1) p1 p2 st sb st' sb' (fun _ d0 H2 e2 => ⟨true, exm_ZD, fun _ a0 ha0 => ?_, fun q => Bool.noConfusion q⟩) (fun q => absurd hz q)⟩
      refine ⟨_, rfl, _, _, rfl, rfl, ?_⟩
      refine ⟨_, rfl, rfl, _, rfl, iteT ?_⟩
      exact ⟨_, rfl, rfl, hQ _ (e1.trans e2)⟩
    · have hn : n' ≠ 0 := fun z => hz (zi.mpr z)
      have hne : ¬ decide (V.int n' = V.int 0) = true := fun z => hn (by have z := of_decide_eq_true z; injection z)
      have fs := floor_same h1 h2 p1 p2 hd hd'
      refine ⟨_, rfl, _, rfl, floor_two hxy p1 p2 (st.mono (by decide)) (sb.mono (by decide)) (st'.mono (by decide)) (sb'.mono (by decide)) (fun q => absurd q hz) (fun _ H1 e1 => ?_)⟩
      refine ⟨_, rfl, _, rfl, mod_two (hxy.ex e1) p1 p2 st sb st' sb' (fun q => absurd q hz) (fun _ t2 b2 v H2 r2 q2 s2 s3 e2 m2 => ?_)⟩
      rw [fs] at q2
      have q3 := rest_eq q2 h1 h2 p1 p2
      have su : Sm 800 ((n * d').fdiv (d * n')) := sm_fdiv (sn.mul sd')
      rw [fs]
      refine ⟨_, rfl, rfl, _, rfl, iteB (Bool.eq_false_iff.mpr hne) ?_⟩
      refine ⟨_, rfl, _, _, rfl, rfl, false, rfl, iteF ?_⟩
      refine ⟨_, rfl, _, rfl, fun H3 e3 => ⟨true, rfl, iteF ?_⟩⟩
      refine ⟨_, rfl, _, rfl, _, _, rfl, rfl, sn.cmul sd', _, rfl, _, rfl, _, _, rfl, rfl, sd.cmul sn', _, _, rfl, rfl, (sd.mul sn').cdiv (Int.mul_ne_zero hd hn), ?_⟩
      refine ⟨_, rfl, _, rfl, rfl, _, rfl, ?_⟩
      refine iteB (by rw [decide_eq_true rfl]; rfl) ?_
      refine ⟨_, rfl, _, rfl, _, rfl, _, _, rfl, rfl, sn.cmul sd', _, rfl, _, rfl, _, _, rfl, rfl, su.cmul sn', _, rfl, _, _, rfl, rfl, (su.mul sn').cmul sd, _, _, rfl, rfl, _, rfl, _, rfl, _, _, rfl, rfl, sd.cmul sd', v, t2, b2, _, _, rfl, m2.ex e3, r2, q3, s2, s3, (((sn.mul sd').mono (show 800 ≤ 1600 by decide)).sub ((su.mul sn').mul sd)).mono (by decide), (sd.mul sd').mono (by decide), fun H4 e4 => hQ _ (((e1.trans e2).trans e3).trans e4)⟩
abbrev sRo : Stmt := top 18
theorem scRo : FnScope ["_law_cell_here", "_law_sizes", "_law_out", "_law_size", "_law_seed", "_law_k", "_law_mixed"] ["_law_cell_here", "_law_sizes"] (defScope sRo) := ⟨rfl, rfl, rfl, by decide +kernel, rfl, by decide +kernel, by decide +kernel⟩
theorem getEl {ys zs : List Int} (hl : ys.length = zs.length) : True := trivial
theorem row_more {ys zs : List Int} {y z : Int} {i : Nat} (hy : ys.length = i) (hz : zs[i]? = some z) (h0 : 0 ≤ y) (h1 : y < z) (hb : ∀ (j : Nat) (a b : Int), ys[j]? = some a → zs[j]? = some b → 0 ≤ a ∧ a < b) :
    ∀ (j : Nat) (a b : Int), (ys ++ [y])[j]? = some a → zs[j]? = some b → 0 ≤ a ∧ a < b := by
  intro j a b e1 e2
  by_cases hj : j < i
  · rw [List.getElem?_append_left (by omega)] at e1
    exact hb j a b e1 e2
  · have : j = i := by
      have := (List.getElem?_eq_some_iff.mp e1).1
      simp at this
      omega
    subst this
    rw [List.getElem?_append_right (by omega), hy] at e1
    simp at e1
    subst e1
    rw [hz] at e2
    cases e2
    exact ⟨h0, h1⟩
theorem sm31 {z : Int} (h : 0 ≤ z ∧ z < 2147483648) : Sm 31 z := by
  unfold Sm
  omega
theorem ok_row {f : Addr} {fd : FuncData} (F : Fun K "_law_row" "_law_row" sRo f fd) (T : Txt K mg C) : FnOk P w K mg base CX0 1 f fd ["_law_cell_here", "_law_sizes"] (spRow K) := by
  refine F.ok scRo (fun vs H Q E h => ?_) (fun cdv A outer s H vs Q E hr h => ?_)
  · obtain ⟨c, l, zs, rfl, _⟩ := h
    rfl
  · obtain ⟨c, l, zs, rfl, hS, hl, hb, k⟩ := h
    refine ⟨_, (pss_cons (ps_set (i := 2) scRo.nd rfl (Or.inl rfl) (pe_lst pa_nil))
 (pss_cons (ps_if (pt_cmpR op_ge (pv 0) (pe_op op_pow pe_int pe_int) (nomark _)) (pss_cons (ps_for PassesOwn.never rfl (pi_list (pv 1)) (pg_name (i := 3) scRo.nd rfl (Or.inl rfl)) (pss_cons (ps_expr (pe_bm PySem.F.plainAttrs_list PySem.F.slot_list_append PySem.F.type_list_append mt_append (pv 2) (pa_cons (pe_op op_mod (pe_callTy call_int1 rfl T.int PyProof.Rows.boot_int (pa_cons (pv 0) pa_nil)) (pv 3)) pa_nil)))
 (pss_one (ps_set (i := 0) scRo.nd rfl (Or.inl rfl) (pe_op op_fdivNW (pv 0) (pv 3))))))
 (pss_one (ps_ret (pv 2)))) pss_nil)
 (pss_cons (ps_set (i := 4) scRo.nd rfl (Or.inl rfl) (pe_op op_mod (pe_callTy call_int1 rfl T.int PyProof.Rows.boot_int (pa_cons (pv 0) pa_nil)) pe_int))
 (pss_cons (ps_for PassesOwn.never rfl (pi_range1 rfl T.range (pa_cons (pe_callB call_len rfl T.len PySem.boot_len (pa_cons (pv 1) pa_nil)) pa_nil)) (pg_name (i := 5) scRo.nd rfl (Or.inl rfl)) (pss_cons (ps_set (i := 6) scRo.nd rfl (Or.inl rfl) (pe_op op_add (pe_op op_mod (pe_callTy call_int1 rfl T.int PyProof.Rows.boot_int (pa_cons (pe_op op_pow (pe_op op_add (pe_op op_add (pv 4) (pe_op op_mulW pe_int (pv 5))) pe_int) pe_int) pa_nil)) pe_int) (pv 5)))
 (pss_one (ps_expr (pe_bm PySem.F.plainAttrs_list PySem.F.slot_list_append PySem.F.type_list_append mt_append (pv 2) (pa_cons (pe_op op_mod (pe_callTy call_int1 rfl T.int PyProof.Rows.boot_int (pa_cons (pe_op op_mod (pe_callTy call_int1 rfl T.int PyProof.Rows.boot_int (pa_cons (pe_op op_mulW (pv 6) pe_int) pa_nil)) pe_int) pa_nil)) (pe_ix ix_list (pv 1) (pv 5) (fun _ _ => rfl))) pa_nil))))))
 (pss_one (ps_ret (pv 2))))))), ?_⟩
    refine ⟨by show 0 ≤ sizeLine; decide, fun o ho => ?_⟩
    have x0 : Ex H (upd H o (.lst [])) := Ex.new ho
    have hS' : ∀ {H' : Hp}, Ex H H' → SqL K H' l (zs.map V.int) := fun e => Evl.ex_l e hS
    refine ⟨_, rfl, _, _, rfl, rfl, ⟨by decide, by decide, by decide⟩, _, _, rfl, rfl, _, rfl, ?_⟩
    refine ite2 (fun e1 => ?_) (fun e1 => ?_)
    · refine ⟨_, rfl, l, rfl, ⟨_, hS' x0⟩, for_list (K := K) (a := l) (xs := zs.map V.int) (fun i σ H' => ∃ (c : Int) (ys : List Int) (v : Option V), σ = [some (.int c), some (.ref l), some (.ref o), v, none, none, none] ∧ Ex H H' ∧ H' o = some (.lst (ys.map V.int)) ∧ ys.length = i ∧
          ∀ (j : Nat) (a b : Int), ys[j]? = some a → zs[j]? = some b → 0 ≤ a ∧ a < b) ⟨c, [], none, rfl, x0, upd_same, rfl, fun j a b e => by simp at e⟩ (fun i σ H' _ ⟨_, _, _, _, e, _⟩ => hS' e) ?_ ?_⟩
      · rintro i y σ H' hi ⟨c, ys, v, rfl, e, hO, hy, hB⟩
        obtain ⟨z, hz, rfl⟩ : ∃ z, zs[i]? = some z ∧ y = V.int z := by
          rw [List.getElem?_map] at hi
          cases e : zs[i]? with
          | none =>
            rw [e] at hi
            cases hi
          | some z =>
            rw [e] at hi
            exact ⟨z, rfl, (Option.some.inj hi).symm⟩
        obtain ⟨z0, z1⟩ := hb z (List.mem_of_getElem? hz)
        refine ⟨_, rfl, .inl ⟨rfl, _, SqL.of hO⟩, _, rfl, .inl ⟨_, rfl, _, rfl, _, _, rfl, rfl, z0, o, _, _, rfl, rfl, hO, ?_, ?_⟩⟩
        · rw [List.length_map]
          exact small1000 (by have := (List.getElem?_eq_some_iff.mp hz).1; omega)
        · refine ⟨_, rfl, _, rfl, _, _, rfl, rfl, (sm31 (z := z) ⟨by omega, by omega⟩).cdiv (by omega), ?_⟩
          refine ⟨_, ys ++ [c % z], _, rfl, Evl.Ex.mut e ho, ?_, by simp [hy], row_more hy hz (Int.emod_nonneg c (by omega)) (Int.emod_lt_of_pos c z0) hB⟩
          rw [upd_same, List.map_append]
          rfl
      · rintro σ H' ⟨c, ys, v, rfl, e, hO, hy, hB⟩
        rw [List.length_map] at hy
        exact ⟨_, rfl, k o ys H' e hO hy hB⟩
    · refine ⟨_, rfl, .inl ⟨_, rfl, _, _, rfl, rfl, (by show (0 : Int) < 2147483647; decide), ?_⟩⟩
      have s0 := Int.emod_nonneg c (show (2147483647 : Int) ≠ 0 by decide)
      have s1 := Int.emod_lt_of_pos c (show (0 : Int) < 2147483647 by decide)
      refine ⟨_, rfl, _, _, rfl, .inl ⟨_, hS' x0, rfl⟩, ?_⟩
      rw [List.length_map]
      refine ⟨(zs.length : Int), rfl, by omega, by omega, for_range (lo := 0) (n := ((zs.length : Int)).toNat) (fun i σ H' => ∃ (ys : List Int) (v4 v5 : Option V), σ = [some (.int c), some (.ref l), some (.ref o), none, some (.int (c % 2147483647)), v4, v5] ∧ Ex H H' ∧ H' o = some (.lst (ys.map V.int)) ∧ ys.length = i ∧
          ∀ (j : Nat) (a b : Int), ys[j]? = some a → zs[j]? = some b → 0 ≤ a ∧ a < b) ⟨[], none, none, rfl, x0, upd_same, rfl, fun j a b e => by simp at e⟩ ?_ ?_⟩
      · rintro i σ H' hi ⟨ys, v4, v5, rfl, e, hO, hy, hB⟩
        have hi' : i < zs.length := by omega
        have hz : zs[i]? = some zs[i] := List.getElem?_eq_getElem hi'
        obtain ⟨z0, z1⟩ := hb _ (List.mem_of_getElem? hz)
        generalize zs[i] = z at *
        have e0 : (0 : Int) + (i : Int) = (i : Int) := Int.zero_add _
        rw [e0]
        have m1 : CMulW 7919 (i : Int) := Sm.cmul (k := 31) (j := 31) (sm31 ⟨by decide, by decide⟩) (sm31 ⟨by omega, by omega⟩)
        have b1 : (c % 2147483647 + 7919 * (i : Int) + 104729).natAbs < 2 ^ 64 := by omega
        refine ⟨_, rfl, _, rfl, _, _, rfl, rfl, m1, _, _, rfl, rfl, _, _, rfl, rfl, _, _, rfl, rfl, ⟨by decide, by decide, b1⟩, .inl ⟨_, rfl, _, _, rfl, rfl, (by show (0 : Int) < 2147483647; decide), _, rfl, _, _, rfl, rfl, ?_⟩⟩
        have p0 := Int.emod_nonneg ((c % 2147483647 + 7919 * (i : Int) + 104729) ^ (5 : Int).toNat) (show (2147483647 : Int) ≠ 0 by decide)
        have p1 := Int.emod_lt_of_pos ((c % 2147483647 + 7919 * (i : Int) + 104729) ^ (5 : Int).toNat) (show (0 : Int) < 2147483647 by decide)
        have m2 : CMulW ((c % 2147483647 + 7919 * (i : Int) + 104729) ^ (5 : Int).toNat % 2147483647 + (i : Int)) 40692 := Sm.cmul (k := 32) (j := 31) (by unfold Sm; omega) (sm31 ⟨by decide, by decide⟩)
        refine ⟨_, rfl, .inl ⟨rfl, _, SqL.of hO⟩, _, rfl, _, _, rfl, rfl, m2, .inl ⟨_, rfl, _, _, rfl, rfl, (by show (0 : Int) < 2147483629; decide), .inl ⟨_, rfl, _, rfl, _, rfl, l, _, _, .int z, rfl, rfl, hS' e, atI_nat (by rw [List.getElem?_map, hz]; rfl), _, _, rfl, rfl, z0, o, _, _, rfl, rfl, hO, ?_, ?_⟩⟩⟩
        · rw [List.length_map]
          exact small1000 (by omega)
        · refine ⟨ys ++ [((c % 2147483647 + 7919 * (i : Int) + 104729) ^ (5 : Int).toNat % 2147483647 + (i : Int)) * 40692 % 2147483629 % z], _, _, rfl, Evl.Ex.mut e ho, ?_, by simp [hy], row_more hy hz (Int.emod_nonneg _ (by omega)) (Int.emod_lt_of_pos _ z0) hB⟩
          rw [upd_same, List.map_append]
          rfl
      · rintro σ H' ⟨ys, v4, v5, rfl, e, hO, hy, hB⟩
        exact ⟨_, rfl, k o ys H' e hO (by omega) hB⟩
theorem big97 : Sm 97 (10 ^ (29 : Int).toNat : Int) := sml (by decide +kernel)
theorem four_of {ys : List Int} (h : ys.length = 4) : ∃ a b c d, ys = [a, b, c, d] := match ys, h with | [a, b, c, d], _ => ⟨a, b, c, d, rfl⟩
theorem sm31' {z : Int} (h : 0 ≤ z ∧ z < 2147483648) : Sm 31 z := by
  unfold Sm
  omega
abbrev sLaw : Stmt := top 25
theorem scLaw : FnScope ["_law_script", "_law_row_here", "_law_one", "_law_two", "_law_k", "_law_a", "_law_b"] ["_law_script"] (defScope sLaw) := ⟨rfl, rfl, rfl, by decide +kernel, rfl, by decide +kernel, by decide +kernel⟩
theorem ok_law {f : Addr} {fd : FuncData} (F : Fun K "law" "law" sLaw f fd) (T : Txt K mg C)
    (OI : OkI P w K mg base C CN) (OC : Ok P w K mg base CX0 1 "_law_cell" ["_law_script", "_law_k"] (spCell K)) (OW : Ok P w K mg base CX0 1 "_law_whole" ["_law_cell_here", "_law_most"] spWhole) (OR : Ok P w K mg base CX0 2 "_law_ratio" ["_law_a", "_law_b", "_law_most"] spRatio) (OO : Ok P w K mg base CX0 1 "_law_row" ["_law_cell_here", "_law_sizes"] (spRow K))
    (OD : Ok P w K mg base CX0 10 "_law_divided" ["_law_a", "_law_b", "_law_top", "_law_bottom", "_law_other_top", "_law_other_bottom"] (spDiv C)) : FnOk P w K mg base CX0 11 f fd ["_law_script"] (spLaw K) := by
  obtain ⟨fI, fdI, dsI, GI, MkC, bI, vI1, bI1⟩ := OI
  obtain ⟨fCe, fdCe, GCe, mCe, kCe, bCe⟩ := OC
  obtain ⟨fWh, fdWh, GWh, mWh, kWh, bWh⟩ := OW
  obtain ⟨fRa, fdRa, GRa, mRa, kRa, bRa⟩ := OR
  obtain ⟨fRo, fdRo, GRo, mRo, kRo, bRo⟩ := OO
  obtain ⟨fDv, fdDv, GDv, mDv, kDv, bDv⟩ := OD
  refine F.ok scLaw (fun vs H Q E h => ?_) (fun cdv A outer s H vs Q E hr h => ?_)
  · obtain ⟨a, ns, rfl, _⟩ := h
    rfl
  · obtain ⟨l, ns, rfl, hS, hlen, hQ⟩ := h
    refine ⟨_, (pss_cons (ps_set (i := 1) scLaw.nd rfl (Or.inl rfl) (pe_call GRo (hr.mono (by decide)) rfl mRo kRo bRo .nil pass0 (pa_cons (pe_call GCe (hr.mono (by decide)) rfl mCe kCe bCe .nil pass0 (pa_cons (pv 0) (pa_cons pe_int pa_nil))) (pa_cons (pe_lst (pa_cons pe_int (pa_cons pe_int (pa_cons pe_int (pa_cons pe_int pa_nil))))) pa_nil))))
 (pss_cons (ps_set (i := 2) scLaw.nd rfl (Or.inl rfl) (pe_call GRa (hr.mono (by decide)) rfl mRa kRa bRa .nil pass0 (pa_cons (pe_call GCe (hr.mono (by decide)) rfl mCe kCe bCe .nil pass0 (pa_cons (pv 0) (pa_cons pe_int pa_nil))) (pa_cons (pe_call GCe (hr.mono (by decide)) rfl mCe kCe bCe .nil pass0 (pa_cons (pv 0) (pa_cons pe_int pa_nil))) (pa_cons (pe_op op_pow pe_int pe_int) pa_nil)))))
 (pss_cons (ps_set (i := 3) scLaw.nd rfl (Or.inl rfl) (pe_call GRa (hr.mono (by decide)) rfl mRa kRa bRa .nil pass0 (pa_cons (pe_call GCe (hr.mono (by decide)) rfl mCe kCe bCe .nil pass0 (pa_cons (pv 0) (pa_cons pe_int pa_nil))) (pa_cons (pe_call GCe (hr.mono (by decide)) rfl mCe kCe bCe .nil pass0 (pa_cons (pv 0) (pa_cons pe_int pa_nil))) (pa_cons (pe_op op_pow pe_int pe_int) pa_nil)))))
 (pss_cons (ps_set (i := 4) scLaw.nd rfl (Or.inl rfl) (pe_call GWh (hr.mono (by decide)) rfl mWh kWh bWh .nil pass0 (pa_cons (pe_call GCe (hr.mono (by decide)) rfl mCe kCe bCe .nil pass0 (pa_cons (pv 0) (pa_cons pe_int pa_nil))) (pa_cons (pe_op op_pow pe_int pe_int) pa_nil))))
 (Evl.pss_cut (ps_if (pt_cmpR op_eq (pe_ix ix_list (pv 1) pe_int (fun _ _ => rfl)) pe_int (nomark _)) (pss_one (ps_set (i := 3) scLaw.nd rfl (Or.inl rfl) (pe_tup (pa_cons pe_int (pa_cons (pe_ix ix_tup (pv 3) pe_int (fun _ _ => rfl)) pa_nil))))) pss_nil)
 (Evl.pss_cut (ps_if (pt_cmpR op_eq (pe_ix ix_list (pv 1) pe_int (fun _ _ => rfl)) pe_int (nomark _)) (pss_one (ps_set (i := 4) scLaw.nd rfl (Or.inl rfl) pe_int)) pss_nil)
 (Evl.pss_cut (ps_if (pt_cmpR op_eq (pe_ix ix_list (pv 1) pe_int (fun _ _ => rfl)) pe_int (nomark _)) (pss_one (ps_set (i := 2) scLaw.nd rfl (Or.inl rfl) (pe_tup (pa_cons (pe_op op_mulW (pe_ix ix_tup (pv 3) pe_int (fun _ _ => rfl)) (pe_op op_sub (pe_ix ix_list (pv 1) pe_int (fun _ _ => rfl)) pe_int)) (pa_cons (pe_ix ix_tup (pv 3) pe_int (fun _ _ => rfl)) pa_nil))))) pss_nil)
 (pss_cons (ps_set (i := 5) scLaw.nd rfl (Or.inl rfl) (pe_make MkC GI (hr.mono (by decide)) rfl T.mgC bI .nil passL (pa_cons (pe_ix ix_tup (pv 2) pe_int (fun _ _ => rfl)) (pa_cons (pe_ix ix_tup (pv 2) pe_int (fun _ _ => rfl)) pa_nil))))
 (pss_cons (ps_set (i := 6) scLaw.nd rfl (Or.inl rfl) (pe_make MkC GI (hr.mono (by decide)) rfl T.mgC bI .nil passL (pa_cons (pe_ix ix_tup (pv 3) pe_int (fun _ _ => rfl)) (pa_cons (pe_ix ix_tup (pv 3) pe_int (fun _ _ => rfl)) pa_nil))))
 (pss_cons (ps_if (pt_not (pt_val (pe_call GDv (hr.mono (by decide)) rfl mDv kDv bDv .nil pass0 (pa_cons (pv 5) (pa_cons (pv 6) (pa_cons (pe_ix ix_tup (pv 2) pe_int (fun _ _ => rfl)) (pa_cons (pe_ix ix_tup (pv 2) pe_int (fun _ _ => rfl)) (pa_cons (pe_ix ix_tup (pv 3) pe_int (fun _ _ => rfl)) (pa_cons (pe_ix ix_tup (pv 3) pe_int (fun _ _ => rfl)) pa_nil))))))))) (pss_one (ps_ret pe_bl)) pss_nil)
 (pss_cons (ps_if (pt_not (pt_val (pe_call GDv (hr.mono (by decide)) rfl mDv kDv bDv .nil pass0 (pa_cons (pv 5) (pa_cons (pv 4) (pa_cons (pe_ix ix_tup (pv 2) pe_int (fun _ _ => rfl)) (pa_cons (pe_ix ix_tup (pv 2) pe_int (fun _ _ => rfl)) (pa_cons (pv 4) (pa_cons pe_int pa_nil))))))))) (pss_one (ps_ret pe_bl)) pss_nil)
 (pss_one (ps_ret (pe_call GDv (hr.mono (by decide)) rfl mDv kDv bDv .nil pass0 (pa_cons (pv 4) (pa_cons (pv 5) (pa_cons (pv 4) (pa_cons pe_int (pa_cons (pe_ix ix_tup (pv 2) pe_int (fun _ _ => rfl)) (pa_cons (pe_ix ix_tup (pv 2) pe_int (fun _ _ => rfl)) pa_nil)))))))))))))))))))), ?_⟩
    have big : Sm 1000 (10 ^ (29 : Int).toNat : Int) := big97.mono (by decide)
    refine ⟨_, rfl, l, ns, 5, rfl, hS, by decide, hlen, fun z5 => ⟨(by show 4 ≤ sizeLine; decide), fun q hq => ⟨z5, q, [8, 8, 4, 1000], rfl, SqL.of upd_same, by decide, by decide +kernel, fun p ys H1 e1 hrow len hb => ?_⟩⟩⟩
    obtain ⟨r0, r1, r2, r3, rfl⟩ := four_of len
    have b3 := hb 3 r3 _ rfl rfl
    have Sr3 : Sm 31 r3 := sm31' ⟨b3.1, by have := b3.2; omega⟩
    have S3 : Sm 10 (r3 - 500) := by have h1 := b3.1; have h2 := b3.2; unfold Sm; omega
    clear hb
    have hS := (hS.ex' (Ex.new hq)).ex' e1
    refine ⟨_, rfl, l, ns, 0, rfl, hS, by decide, hlen, fun z0 => ⟨_, rfl, l, ns, 1, rfl, hS, by decide, hlen, fun z1 => ⟨_, _, rfl, rfl, ⟨by decide, by decide, by decide⟩, z0, z1, (10 ^ (29 : Int).toNat : Int), rfl, by decide, big, fun m1 c1 p1 H1 e1 q1 l1 l2 l3 l4 d1ne => ?_⟩⟩⟩
    have hS := hS.ex' e1
    have hrow := e1 _ _ hrow
    have Sm1 : Sm 97 m1 := Sm.ofR l1 l2 big97
    have Sc1 : Sm 97 c1 := Sm.ofR l3 l4 big97
    clear l1 l2 l3 l4
    refine ⟨_, rfl, l, ns, 2, rfl, hS, by decide, hlen, fun z2 => ⟨_, rfl, l, ns, 3, rfl, hS, by decide, hlen, fun z3 => ⟨_, _, rfl, rfl, ⟨by decide, by decide, by decide⟩, z2, z3, (10 ^ (29 : Int).toNat : Int), rfl, by decide, big, fun m2 d2 p2 H2 e2 q2 l1 l2 l3 l4 d2ne => ?_⟩⟩⟩
    have hS := hS.ex' e2
    have hrow := e2 _ _ hrow
    have Sm2 : Sm 97 m2 := Sm.ofR l1 l2 big97
    have Sd2 : Sm 97 d2 := Sm.ofR l3 l4 big97
    clear l1 l2 l3 l4
    have q1 := e2 _ _ q1
    refine ⟨_, rfl, l, ns, 4, rfl, hS, by decide, hlen, fun z4 => ⟨_, _, rfl, rfl, ⟨by decide, by decide, by decide⟩, z4, (10 ^ (29 : Int).toNat : Int), rfl, by decide, big, fun k0 l1 l2 => ?_⟩⟩
    have Sk0 : Sm 97 k0 := Sm.ofR l1 l2 big97
    refine ⟨fun σ H' => ∃ (p3 : Addr) (n2 : Int), σ = [some (.ref l), some (.ref p), some (.ref p1), some (.ref p3), some (.int k0), none, none] ∧ Ex H2 H' ∧ H' p3 = some (.tup [.int n2, .int d2]) ∧ Sm 97 n2, ⟨_, rfl, p, _, _, _, rfl, rfl, SqL.of hrow, rfl, rfl, _, rfl, ite2 (fun _ => ?_) (fun _ => ⟨p2, m2, rfl, Ex.refl _, q2, Sm2⟩)⟩, ?_⟩
    · refine ⟨_, rfl, _, _, _, _, rfl, rfl, (SqT.of q2), rfl, (by show 2 ≤ sizeLine; decide), fun t ht => ?_⟩
      exact ⟨t, _, rfl, Ex.new ht, upd_same, Sm.mono (sml (n := 0) (k := 1) (by decide)) (by decide)⟩
    clear Sm2 q2
    rintro σ HA ⟨p3, n2, rfl, eX, q3, Sn2⟩
    have hrow := eX _ _ hrow
    have q1 := eX _ _ q1
    clear eX
    refine ⟨fun σ H' => ∃ kk : Int, σ = [some (.ref l), some (.ref p), some (.ref p1), some (.ref p3), some (.int kk), none, none] ∧ HA = H' ∧ Sm 97 kk, ⟨_, rfl, p, _, _, _, rfl, rfl, SqL.of hrow, rfl, rfl, _, rfl, ite2 (fun _ => ?_) (fun _ => ⟨k0, rfl, rfl, Sk0⟩)⟩, ?_⟩
    · exact ⟨0, rfl, rfl, (sml (n := 0) (k := 1) (by decide)).mono (by decide)⟩
    clear Sk0
    rintro σ HA ⟨kk, rfl, rfl, Skk⟩
    refine ⟨fun σ H' => ∃ (p4 : Addr) (n1 d1 : Int), σ = [some (.ref l), some (.ref p), some (.ref p4), some (.ref p3), some (.int kk), none, none] ∧ Ex HA H' ∧ H' p4 = some (.tup [.int n1, .int d1]) ∧ d1 ≠ 0 ∧ Sm 200 n1 ∧ Sm 97 d1, ⟨_, rfl, p, _, _, _, rfl, rfl, SqL.of hrow, rfl, rfl, _, rfl, ite2 (fun _ => ?_) (fun _ => ⟨p1, m1, c1, rfl, Ex.refl _, q1, d1ne, Sm1.mono (by decide), Sc1⟩)⟩, ?_⟩
    · refine ⟨_, rfl, _, _, _, _, rfl, rfl, (SqT.of q3), rfl, _, rfl, _, _, _, _, rfl, rfl, (SqL.of hrow), rfl, _, _, rfl, rfl, _, _, rfl, rfl, (Sm.cmul Sn2 (Sm.sub (Sm.mono Sr3 (show 31 ≤ 31 by decide)) (Sm.mono (sml (n := 500) (k := 10) (by decide)) (show 10 ≤ 31 by decide)))), _, rfl, _, _, _, _, rfl, rfl, (SqT.of q3), rfl, (by show 2 ≤ sizeLine; decide), fun t ht => ?_⟩
      exact ⟨t, _, _, rfl, Ex.new ht, upd_same, d2ne, Sm.mono (Sm.mul Sn2 (Sm.sub (Sm.mono Sr3 (show 31 ≤ 31 by decide)) (Sm.mono (sml (n := 500) (k := 10) (by decide)) (show 10 ≤ 31 by decide)))) (by decide), Sd2⟩
    clear Sm1 Sc1 d1ne q1
    rintro σ HB ⟨p4, n1, d1, rfl, eX, q1, d1ne, Sn1, Sd1⟩
    have q3 := eX _ _ q3
    clear eX
    refine ⟨_, rfl, _, _, _, _, rfl, rfl, (SqT.of q1), rfl, _, rfl, _, _, _, _, rfl, rfl, (SqT.of q1), rfl, fun xa dx i1 i2 i3 => ⟨xa, dx, _, _, rfl, upd_same, (Sm.mono Sn1 (by decide)), (Sm.mono Sd1 (by decide)), fun z => absurd z d1ne, fun _ ta ba Nma => ⟨rfl, ?_⟩⟩⟩
    obtain ⟨e, ma⟩ := made_ok (C := C) ta ba i1 i2 i3
    have q1 := e _ _ q1
    have q3 := e _ _ q3
    refine ⟨_, rfl, _, _, _, _, rfl, rfl, (SqT.of q3), rfl, _, rfl, _, _, _, _, rfl, rfl, (SqT.of q3), rfl, fun xb dx i1 i2 i3 => ⟨xb, dx, _, _, rfl, upd_same, (Sm.mono Sn2 (by decide)), (Sm.mono Sd2 (by decide)), fun z => absurd z d2ne, fun _ tb bb Nmb => ⟨rfl, ?_⟩⟩⟩
    obtain ⟨e, mb⟩ := made_ok (C := C) tb bb i1 i2 i3
    have q1 := e _ _ q1
    have q3 := e _ _ q3
    have ma := ma.ex (e)
    have Sta : Sm 400 ta := (Nma.st Sn1).mono (by decide)
    have Sba : Sm 400 ba := (Nma.sb Sd1).mono (by decide)
    have Stb : Sm 400 tb := (Nmb.st Sn2).mono (by decide)
    have Sbb : Sm 400 bb := (Nmb.sb Sd2).mono (by decide)
    have Tn1 : Sm 400 n1 := Sn1.mono (by decide)
    have Td1 : Sm 400 d1 := Sd1.mono (by decide)
    have Tn2 : Sm 400 n2 := Sn2.mono (by decide)
    have Td2 : Sm 400 d2 := Sd2.mono (by decide)
    have Tkk : Sm 400 kk := Skk.mono (by decide)
    have T1 : Sm 400 1 := (sml (n := 1) (k := 2) (by decide)).mono (by decide)
    refine ⟨_, rfl, _, rfl, _, rfl, _, _, _, _, rfl, rfl, (SqT.of q1), rfl, _, rfl, _, _, _, _, rfl, rfl, (SqT.of q1), rfl, _, rfl, _, _, _, _, rfl, rfl, (SqT.of q3), rfl, _, rfl, _, _, _, _, rfl, rfl, (SqT.of q3), rfl, _, _, ta, ba, n1, d1, tb, bb, n2, d2, rfl, .inl ⟨ma, .inl mb⟩, Nma.eq, Nmb.eq, Nma.pos, Nmb.pos, d1ne, d2ne, Sta, Sba, Stb, Sbb, Tn1, Td1, Tn2, Td2, fun H' e => ⟨true, rfl, iteF ?_⟩⟩
    have q1 := e _ _ q1
    have q3 := e _ _ q3
    have ma := ma.ex (e)
    have mb := mb.ex (e)
    refine ⟨_, rfl, _, rfl, _, rfl, _, _, _, _, rfl, rfl, (SqT.of q1), rfl, _, rfl, _, _, _, _, rfl, rfl, (SqT.of q1), rfl, _, rfl, _, _, ta, ba, n1, d1, kk, 1, kk, 1, rfl, .inl ⟨ma, .inr ⟨rfl, rfl⟩⟩, Nma.eq, rfl, Nma.pos, by decide, d1ne, by decide, Sta, Sba, Tkk, T1, Tn1, Td1, Tkk, T1, fun H' e => ⟨true, rfl, iteF ?_⟩⟩
    have q1 := e _ _ q1
    have q3 := e _ _ q3
    have ma := ma.ex (e)
    have mb := mb.ex (e)
    refine ⟨_, rfl, _, rfl, _, rfl, _, rfl, _, _, _, _, rfl, rfl, (SqT.of q1), rfl, _, rfl, _, _, _, _, rfl, rfl, (SqT.of q1), rfl, _, _, kk, 1, kk, 1, ta, ba, n1, d1, rfl, .inr ⟨⟨rfl, rfl⟩, ma⟩, rfl, Nma.eq, by decide, Nma.pos, by decide, d1ne, Tkk, T1, Sta, Sba, Tkk, T1, Tn1, Td1, fun H' e => hQ _⟩
end
end Mo
namespace Mo
open PySem L2
theorem all_mk {P : Program} {w : World} {K : PySem.W.Frag} {h : Heap} {mg : Str → Option Value} {fa : Addr} (X : K.In h) (G : h.Ns mainGlobals mg) (hfa : mg "law" = some (.ref fa))
    {C CN CA NN NN2 NN3 TD : Addr} {dTD : Option Addr} {slTD : Array (Option Value)} {nTD : Nat} {tkTD : Tok} {ocTD : Value} {nmN qN : Str} {bsN : List Value} {snN : List Str} {subN : List Value} {abN : Bool} {colN : Option Bool} {ddN : Option Addr} {m0 m1 m2 m3 m5 : Option Value}
    {fKp fCe fRo fWh fRa fGc fIi fHo fDv fIt fAm fLaw fNM fIn fsub fmul fFd fRfd fMd fRmd : Addr} {odKp anKp odCe anCe odRo anRo odWh anWh odRa anRa odGc anGc odIi anIi odHo anHo odDv anDv odIt anIt odAm anAm odLaw anLaw odNM anNM odIn anIn odsub ansub odmul anmul odFd anFd odRfd anRfd odMd anMd odRmd anRmd : Option Addr} {slKp slCe slRo slWh slRa slGc slIi slHo slDv slIt slAm slLaw slNM slIn slsub slmul slFd slRfd slMd slRmd : Array (Option Value)} {ocKp kVKp dcKp pmKp cdKp ctKp ocCe kVCe dcCe pmCe cdCe ctCe ocRo kVRo dcRo pmRo cdRo ctRo ocWh kVWh dcWh pmWh cdWh ctWh ocRa kVRa dcRa pmRa cdRa ctRa ocGc kVGc dcGc pmGc cdGc ctGc ocIi kVIi dcIi pmIi cdIi ctIi ocHo kVHo dcHo pmHo cdHo ctHo ocDv kVDv dcDv pmDv cdDv ctDv ocIt kVIt dcIt pmIt cdIt ctIt ocAm kVAm dcAm pmAm cdAm ctAm ocLaw kVLaw dcLaw pmLaw cdLaw ctLaw ocNM kVNM dcNM pmNM cdNM ctNM ocIn kVIn dcIn pmIn cdIn ctIn ocsub kVsub dcsub pmsub cdsub ctsub ocmul kVmul dcmul pmmul cdmul ctmul ocFd kVFd dcFd pmFd cdFd ctFd ocRfd kVRfd dcRfd pmRfd cdRfd ctRfd ocMd kVMd dcMd pmMd cdMd ctMd ocRmd kVRmd dcRmd pmRmd cdRmd ctRmd : Value}
    (aC : PySem.W.nsIn K mainGlobals "Moment" = some (some (.ref C)))
    (aN : PySem.W.nsIn K mainGlobals "NoMoment" = some (some (.ref CN)))
    (aKp : PySem.W.nsIn K mainGlobals "_kept" = some (some (.ref fKp)))
    (lKp : K.lookup fKp = some ⟨ocKp, odKp, .func (PySem.W.fnOf "_kept" "_kept" (defArgs sKp) (defBody sKp) (defScope sKp) .none kVKp dcKp pmKp anKp cdKp ctKp), slKp⟩)
    (cKp : PySem.W.codeIn K cdKp "_kept" = true)
    (kKp : PySem.W.keepIn K (.ref fKp) = true)
    (aCe : PySem.W.nsIn K mainGlobals "_law_cell" = some (some (.ref fCe)))
    (lCe : K.lookup fCe = some ⟨ocCe, odCe, .func (PySem.W.fnOf "_law_cell" "_law_cell" (defArgs sCe) (defBody sCe) (defScope sCe) .none kVCe dcCe pmCe anCe cdCe ctCe), slCe⟩)
    (cCe : PySem.W.codeIn K cdCe "_law_cell" = true)
    (kCe : PySem.W.keepIn K (.ref fCe) = true)
    (aRo : PySem.W.nsIn K mainGlobals "_law_row" = some (some (.ref fRo)))
    (lRo : K.lookup fRo = some ⟨ocRo, odRo, .func (PySem.W.fnOf "_law_row" "_law_row" (defArgs sRo) (defBody sRo) (defScope sRo) .none kVRo dcRo pmRo anRo cdRo ctRo), slRo⟩)
    (cRo : PySem.W.codeIn K cdRo "_law_row" = true)
    (kRo : PySem.W.keepIn K (.ref fRo) = true)
    (aWh : PySem.W.nsIn K mainGlobals "_law_whole" = some (some (.ref fWh)))
    (lWh : K.lookup fWh = some ⟨ocWh, odWh, .func (PySem.W.fnOf "_law_whole" "_law_whole" (defArgs sWh) (defBody sWh) (defScope sWh) .none kVWh dcWh pmWh anWh cdWh ctWh), slWh⟩)
    (cWh : PySem.W.codeIn K cdWh "_law_whole" = true)
    (kWh : PySem.W.keepIn K (.ref fWh) = true)
    (aRa : PySem.W.nsIn K mainGlobals "_law_ratio" = some (some (.ref fRa)))
    (lRa : K.lookup fRa = some ⟨ocRa, odRa, .func (PySem.W.fnOf "_law_ratio" "_law_ratio" (defArgs sRa) (defBody sRa) (defScope sRa) .none kVRa dcRa pmRa anRa cdRa ctRa), slRa⟩)
    (cRa : PySem.W.codeIn K cdRa "_law_ratio" = true)
    (kRa : PySem.W.keepIn K (.ref fRa) = true)
    (aGc : PySem.W.nsIn K mainGlobals "_law_gcd" = some (some (.ref fGc)))
    (lGc : K.lookup fGc = some ⟨ocGc, odGc, .func (PySem.W.fnOf "_law_gcd" "_law_gcd" (defArgs sGc) (defBody sGc) (defScope sGc) .none kVGc dcGc pmGc anGc cdGc ctGc), slGc⟩)
    (cGc : PySem.W.codeIn K cdGc "_law_gcd" = true)
    (kGc : PySem.W.keepIn K (.ref fGc) = true)
    (aIi : PySem.W.nsIn K mainGlobals "_law_is_int" = some (some (.ref fIi)))
    (lIi : K.lookup fIi = some ⟨ocIi, odIi, .func (PySem.W.fnOf "_law_is_int" "_law_is_int" (defArgs sIi) (defBody sIi) (defScope sIi) .none kVIi dcIi pmIi anIi cdIi ctIi), slIi⟩)
    (cIi : PySem.W.codeIn K cdIi "_law_is_int" = true)
    (kIi : PySem.W.keepIn K (.ref fIi) = true)
    (aHo : PySem.W.nsIn K mainGlobals "_law_holds" = some (some (.ref fHo)))
    (lHo : K.lookup fHo = some ⟨ocHo, odHo, .func (PySem.W.fnOf "_law_holds" "_law_holds" (defArgs sHo) (defBody sHo) (defScope sHo) .none kVHo dcHo pmHo anHo cdHo ctHo), slHo⟩)
    (cHo : PySem.W.codeIn K cdHo "_law_holds" = true)
    (kHo : PySem.W.keepIn K (.ref fHo) = true)
    (aDv : PySem.W.nsIn K mainGlobals "_law_divided" = some (some (.ref fDv)))
    (lDv : K.lookup fDv = some ⟨ocDv, odDv, .func (PySem.W.fnOf "_law_divided" "_law_divided" (defArgs sDv) (defBody sDv) (defScope sDv) .none kVDv dcDv pmDv anDv cdDv ctDv), slDv⟩)
    (cDv : PySem.W.codeIn K cdDv "_law_divided" = true)
    (kDv : PySem.W.keepIn K (.ref fDv) = true)
    (aIt : PySem.W.nsIn K mainGlobals "is_time" = some (some (.ref fIt)))
    (lIt : K.lookup fIt = some ⟨ocIt, odIt, .func (PySem.W.fnOf "is_time" "is_time" (defArgs sIt) (defBody sIt) (defScope sIt) .none kVIt dcIt pmIt anIt cdIt ctIt), slIt⟩)
    (cIt : PySem.W.codeIn K cdIt "is_time" = true)
    (kIt : PySem.W.keepIn K (.ref fIt) = true)
    (aAm : PySem.W.nsIn K mainGlobals "as_moment" = some (some (.ref fAm)))
    (lAm : K.lookup fAm = some ⟨ocAm, odAm, .func (PySem.W.fnOf "as_moment" "as_moment" (defArgs sAm) (defBody sAm) (defScope sAm) .none kVAm dcAm pmAm anAm cdAm ctAm), slAm⟩)
    (cAm : PySem.W.codeIn K cdAm "as_moment" = true)
    (kAm : PySem.W.keepIn K (.ref fAm) = true)
    (aLaw : PySem.W.nsIn K mainGlobals "law" = some (some (.ref fLaw)))
    (lLaw : K.lookup fLaw = some ⟨ocLaw, odLaw, .func (PySem.W.fnOf "law" "law" (defArgs sLaw) (defBody sLaw) (defScope sLaw) .none kVLaw dcLaw pmLaw anLaw cdLaw ctLaw), slLaw⟩)
    (cLaw : PySem.W.codeIn K cdLaw "law" = true)
    (kLaw : PySem.W.keepIn K (.ref fLaw) = true)
    (aNM : PySem.W.findIn K (.ref CN) "__init__" = some (some (.ref fNM)))
    (lNM : K.lookup fNM = some ⟨ocNM, odNM, .func (PySem.W.fnOf "__init__" "NoMoment.__init__" (defArgs sNM) (defBody sNM) (defScope sNM) .none kVNM dcNM pmNM anNM cdNM ctNM), slNM⟩)
    (cNM : PySem.W.codeIn K cdNM "NoMoment.__init__" = true)
    (kNM : PySem.W.keepIn K (.ref fNM) = true)
    (iNM : PySem.W.isFn K (.ref fNM) = true)
    (aIn : PySem.W.findIn K (.ref C) "__init__" = some (some (.ref fIn)))
    (lIn : K.lookup fIn = some ⟨ocIn, odIn, .func (PySem.W.fnOf "__init__" "Moment.__init__" (defArgs sIn) (defBody sIn) (defScope sIn) (.ref TD) kVIn dcIn pmIn anIn cdIn ctIn), slIn⟩)
    (cIn : PySem.W.codeIn K cdIn "Moment.__init__" = true)
    (kIn : PySem.W.keepIn K (.ref fIn) = true)
    (iIn : PySem.W.isFn K (.ref fIn) = true)
    (asub : PySem.W.findIn K (.ref C) "__sub__" = some (some (.ref fsub)))
    (lsub : K.lookup fsub = some ⟨ocsub, odsub, .func (PySem.W.fnOf "__sub__" "Moment.__sub__" (defArgs sSub) (defBody sSub) (defScope sSub) .none kVsub dcsub pmsub ansub cdsub ctsub), slsub⟩)
    (csub : PySem.W.codeIn K cdsub "Moment.__sub__" = true)
    (ksub : PySem.W.keepIn K (.ref fsub) = true)
    (isub : PySem.W.isFn K (.ref fsub) = true)
    (amul : PySem.W.findIn K (.ref C) "__mul__" = some (some (.ref fmul)))
    (lmul : K.lookup fmul = some ⟨ocmul, odmul, .func (PySem.W.fnOf "__mul__" "Moment.__mul__" (defArgs sMul) (defBody sMul) (defScope sMul) .none kVmul dcmul pmmul anmul cdmul ctmul), slmul⟩)
    (cmul : PySem.W.codeIn K cdmul "Moment.__mul__" = true)
    (kmul : PySem.W.keepIn K (.ref fmul) = true)
    (imul : PySem.W.isFn K (.ref fmul) = true)
    (aFd : PySem.W.findIn K (.ref C) "__floordiv__" = some (some (.ref fFd)))
    (lFd : K.lookup fFd = some ⟨ocFd, odFd, .func (PySem.W.fnOf "__floordiv__" "Moment.__floordiv__" (defArgs sFd) (defBody sFd) (defScope sFd) .none kVFd dcFd pmFd anFd cdFd ctFd), slFd⟩)
    (cFd : PySem.W.codeIn K cdFd "Moment.__floordiv__" = true)
    (kFd : PySem.W.keepIn K (.ref fFd) = true)
    (iFd : PySem.W.isFn K (.ref fFd) = true)
    (aRfd : PySem.W.findIn K (.ref C) "__rfloordiv__" = some (some (.ref fRfd)))
    (lRfd : K.lookup fRfd = some ⟨ocRfd, odRfd, .func (PySem.W.fnOf "__rfloordiv__" "Moment.__rfloordiv__" (defArgs sRFd) (defBody sRFd) (defScope sRFd) .none kVRfd dcRfd pmRfd anRfd cdRfd ctRfd), slRfd⟩)
    (cRfd : PySem.W.codeIn K cdRfd "Moment.__rfloordiv__" = true)
    (kRfd : PySem.W.keepIn K (.ref fRfd) = true)
    (iRfd : PySem.W.isFn K (.ref fRfd) = true)
    (aMd : PySem.W.findIn K (.ref C) "__mod__" = some (some (.ref fMd)))
    (lMd : K.lookup fMd = some ⟨ocMd, odMd, .func (PySem.W.fnOf "__mod__" "Moment.__mod__" (defArgs sMd) (defBody sMd) (defScope sMd) .none kVMd dcMd pmMd anMd cdMd ctMd), slMd⟩)
    (cMd : PySem.W.codeIn K cdMd "Moment.__mod__" = true)
    (kMd : PySem.W.keepIn K (.ref fMd) = true)
    (iMd : PySem.W.isFn K (.ref fMd) = true)
    (aRmd : PySem.W.findIn K (.ref C) "__rmod__" = some (some (.ref fRmd)))
    (lRmd : K.lookup fRmd = some ⟨ocRmd, odRmd, .func (PySem.W.fnOf "__rmod__" "Moment.__rmod__" (defArgs sRMd) (defBody sRMd) (defScope sRMd) .none kVRmd dcRmd pmRmd anRmd cdRmd ctRmd), slRmd⟩)
    (cRmd : PySem.W.codeIn K cdRmd "Moment.__rmod__" = true)
    (kRmd : PySem.W.keepIn K (.ref fRmd) = true)
    (iRmd : PySem.W.isFn K (.ref fRmd) = true)
    (pgC : PySem.W.plainGet K C Str.empty = true)
    (hdC : PySem.W.hasDictIn K C = true)
    (poC : PySem.W.plainOver K C = true)
    (saC : PySem.W.findIn K (.ref C) "__setattr__" = some (some (.builtin "object.__setattr__")))
    (mkC : PySem.W.makesIn K C = true)
    (kcC : PySem.W.keepIn K (.ref C) = true)
    (nTop : PySem.W.findIn K (.ref C) "top" = some none)
    (nBot : PySem.W.findIn K (.ref C) "bottom" = some none)
    (clC : PySem.W.findIn K (.ref C) "__class__" = some (some (.builtin "object.__class__")))
    (clG : PySem.W.specialIn K (.builtin "object.__class__") "__get__" = some (some (.builtin "getset_descriptor.__get__")))
    (clT : PySem.W.takesIn K (.builtin "object.__class__") = some true)
    (mroO : PySem.W.mroIn K C (.type "object") = some true)
    (icC : PySem.W.isClsIn K C = true)
    (tyC : PySem.W.typeIn K (.ref C) = some (.type "type"))
    (sfC : PySem.W.selfFirst K C = true)
    (nIC : PySem.W.subIn K (.ref C) (.type "int") = some false)
    (nLC : PySem.W.subIn K (.ref C) (.type "list") = some false)
    (nDC : PySem.W.subIn K (.ref C) (.type "dict") = some false)
    (obC : PySem.W.subIn K (.ref C) (.type "object") = some true)
    (gLen : PySem.W.nsIn K mainGlobals "len" = some none)
    (gAbs : PySem.W.nsIn K mainGlobals "abs" = some none)
    (gInt : PySem.W.nsIn K mainGlobals "int" = some none)
    (gBool : PySem.W.nsIn K mainGlobals "bool" = some none)
    (gIsi : PySem.W.nsIn K mainGlobals "isinstance" = some none)
    (gRange : PySem.W.nsIn K mainGlobals "range" = some none)
    (gLst : PySem.W.nsIn K mainGlobals "list" = some none)
    (gDct : PySem.W.nsIn K mainGlobals "dict" = some none)
    (gGcd : PySem.W.nsIn K mainGlobals "gcd" = some (some (.builtin "math.gcd")))
    (xN : K.lookup CN = some (excClassObj nmN qN CN NN bsN [.ref CA, .type "ValueError", .type "Exception", .type "BaseException", .type "object"] true snN subN abN colN ddN m0 m1 m2 m3 m5 "ValueError.__new__"))
    (saN : PySem.W.findIn K (.ref CN) "__setattr__" = some (some (.builtin "object.__setattr__")))
    (exN : PySem.W.subIn K (.ref CN) (.type "BaseException") = some true)
    (tyN : PySem.W.typeIn K (.ref CN) = some (.type "type"))
    (kcN : PySem.W.keepIn K (.ref CN) = true)
    (nTN : PySem.W.findIn K (.ref CN) "top" = some none)
    (nBN : PySem.W.findIn K (.ref CN) "bottom" = some none)
    (tIN : PySem.W.typeIn K (.ref fNM) = some (.type "function"))
    (lTD : K.lookup TD = some ⟨ocTD, dTD, .seq #[.int 1 tkTD] nTD, slTD⟩)
    (gZD : PySem.W.nsIn K mainGlobals "ZeroDivisionError" = some none)
    (aRs : PySem.W.findIn K (.ref C) "__rsub__" = some (some (.ref NN3)))
    (aRm : PySem.W.findIn K (.ref C) "__rmul__" = some (some (.ref NN2))) :
    ∃ fd : FuncData, (∀ (s : Shared) (u : Value), BindsTo s fd ⟨[u], []⟩ [("_law_script", u)]) ∧ ∀ base : Heap, K.In base → base.Ns mainGlobals mg → FnOk P w K mg base CX0 11 fa fd ["_law_script"] (spLaw K) := by
  have e := hfa.symm.trans (PySem.W.mg_of X G aLaw)
  cases e
  have FKp := fun_mk (st := sKp) lKp cKp kKp
  have FCe := fun_mk (st := sCe) lCe cCe kCe
  have FRo := fun_mk (st := sRo) lRo cRo kRo
  have FWh := fun_mk (st := sWh) lWh cWh kWh
  have FRa := fun_mk (st := sRa) lRa cRa kRa
  have FGc := fun_mk (st := sGc) lGc cGc kGc
  have FIi := fun_mk (st := sIi) lIi cIi kIi
  have FHo := fun_mk (st := sHo) lHo cHo kHo
  have FDv := fun_mk (st := sDv) lDv cDv kDv
  have FIt := fun_mk (st := sIt) lIt cIt kIt
  have FAm := fun_mk (st := sAm) lAm cAm kAm
  have FLaw := fun_mk (st := sLaw) lLaw cLaw kLaw
  have FNM := fun_mk (st := sNM) lNM cNM kNM
  have Fsub := fun_mk (st := sSub) lsub csub ksub
  have Fmul := fun_mk (st := sMul) lmul cmul kmul
  have FFd := fun_mk (st := sFd) lFd cFd kFd
  have FRfd := fun_mk (st := sRFd) lRfd cRfd kRfd
  have FMd := fun_mk (st := sMd) lMd cMd kMd
  have FRmd := fun_mk (st := sRMd) lRmd cRmd kRmd
  have bKp := FKp.binds (ps := ["value"]) fun _ _ _ _ _ _ us hl => match us, hl with | [_], _ => rfl
  have bCe := FCe.binds (ps := ["_law_script", "_law_k"]) fun _ _ _ _ _ _ us hl => match us, hl with | [_, _], _ => rfl
  have bRo := FRo.binds (ps := ["_law_cell_here", "_law_sizes"]) fun _ _ _ _ _ _ us hl => match us, hl with | [_, _], _ => rfl
  have bWh := FWh.binds (ps := ["_law_cell_here", "_law_most"]) fun _ _ _ _ _ _ us hl => match us, hl with | [_, _], _ => rfl
  have bRa := FRa.binds (ps := ["_law_a", "_law_b", "_law_most"]) fun _ _ _ _ _ _ us hl => match us, hl with | [_, _, _], _ => rfl
  have bGc := FGc.binds (ps := ["_law_a", "_law_b"]) fun _ _ _ _ _ _ us hl => match us, hl with | [_, _], _ => rfl
  have bIi := FIi.binds (ps := ["_law_actual"]) fun _ _ _ _ _ _ us hl => match us, hl with | [_], _ => rfl
  have bHo := FHo.binds (ps := ["_law_actual", "_law_top", "_law_bottom"]) fun _ _ _ _ _ _ us hl => match us, hl with | [_, _, _], _ => rfl
  have bDv := FDv.binds (ps := ["_law_a", "_law_b", "_law_top", "_law_bottom", "_law_other_top", "_law_other_bottom"]) fun _ _ _ _ _ _ us hl => match us, hl with | [_, _, _, _, _, _], _ => rfl
  have bIt := FIt.binds (ps := ["value"]) fun _ _ _ _ _ _ us hl => match us, hl with | [_], _ => rfl
  have bAm := FAm.binds (ps := ["time"]) fun _ _ _ _ _ _ us hl => match us, hl with | [_], _ => rfl
  have bNM := FNM.binds (ps := ["self", "top", "bottom"]) fun _ _ _ _ _ _ us hl => match us, hl with | [_, _, _], _ => rfl
  have bsub := Fsub.binds (ps := ["self", "other"]) fun _ _ _ _ _ _ us hl => match us, hl with | [_, _], _ => rfl
  have bmul := Fmul.binds (ps := ["self", "other"]) fun _ _ _ _ _ _ us hl => match us, hl with | [_, _], _ => rfl
  have bFd := FFd.binds (ps := ["self", "other"]) fun _ _ _ _ _ _ us hl => match us, hl with | [_, _], _ => rfl
  have bRfd := FRfd.binds (ps := ["self", "other"]) fun _ _ _ _ _ _ us hl => match us, hl with | [_, _], _ => rfl
  have bMd := FMd.binds (ps := ["self", "other"]) fun _ _ _ _ _ _ us hl => match us, hl with | [_, _], _ => rfl
  have bRmd := FRmd.binds (ps := ["self", "other"]) fun _ _ _ _ _ _ us hl => match us, hl with | [_, _], _ => rfl
  have T : Txt K mg C := ⟨PySem.W.mg_none_of X G gLen, PySem.W.mg_none_of X G gAbs, PySem.W.mg_none_of X G gInt, PySem.W.mg_none_of X G gBool, PySem.W.mg_none_of X G gIsi, PySem.W.mg_none_of X G gRange, PySem.W.mg_of X G gGcd, PySem.W.mg_of X G aC, ⟨pgC, hdC, poC, saC⟩, nTop, nBot, clC, clG, clT, mroO, kit_self, kit_ct nIC, kit_tc icC tyC nf_int, PySem.W.mg_none_of X G gLst, PySem.W.mg_none_of X G gDct, kit_ct nLC, kit_ct nDC⟩
  have TN : TxtN K mg CN fNM := ⟨⟨⟨_, _, _, _, _, _, _, _, _, _, _, _, _, _, _, xN, rfl⟩, saN, exN, tyN, kcN⟩, nTN, nBN, aNM, tIN, PySem.W.mg_of X G aN⟩
  have TO : Opc K C := ⟨sfC, nIC, obC⟩
  have FI : FunD K "__init__" "Moment.__init__" (defArgs sIn) (defBody sIn) (defScope sIn) [V.int 1] [] fIn _ := ⟨⟨_, _, _, _, _, _, _, _, _, _, rfl, lIn, cIn, .inr ⟨by simp, TD, _, [Value.int 1 tkTD], nTD, rfl, lTD, rfl, .cons ⟨_, rfl⟩ .nil⟩, .inl rfl⟩, kIn⟩
  obtain ⟨ds1, vds1, bIn1⟩ := FI.binds1 (ps := psIn) 2 0 (by simp) rfl fun _ _ _ _ _ _ _ us its hu hi => match us, hu, its, hi with | [_, _], _, [_], _ => ⟨_, rfl, rfl⟩
  obtain ⟨ds0, vds0, bIn0⟩ := FI.binds1 (ps := psIn) 3 1 (by simp) rfl fun _ _ _ _ _ _ _ us its hu hi => match us, hu, its, hi with | [_, _, _], _, [_], _ => ⟨_, rfl, rfl⟩
  cases vds0
  refine ⟨PySem.W.fnOf "law" "law" (defArgs sLaw) (defBody sLaw) (defScope sLaw) .none kVLaw dcLaw pmLaw anLaw cdLaw ctLaw, fun s v => .of_eq rfl, fun base _ _ => ?_⟩
  have OKp : Ok P w K mg base CX0 1 "_kept" _ (spKept K) := ⟨_, _, ok_kept FKp T, PySem.W.mg_of X G aKp, kKp, bKp⟩
  have OI : OkI P w K mg base C CN := ⟨fIn, _, ds1, ok_init FI T TN FNM bNM OKp, ⟨mkC, aIn, iIn, kcC⟩, bIn0, vds1, bIn1⟩
  have OC : Ok P w K mg base CX0 1 "_law_cell" _ (spCell K) := ⟨_, _, ok_cell FCe T, PySem.W.mg_of X G aCe, kCe, bCe⟩
  have OW : Ok P w K mg base CX0 1 "_law_whole" _ spWhole := ⟨_, _, ok_whole FWh T, PySem.W.mg_of X G aWh, kWh, bWh⟩
  have OR : Ok P w K mg base CX0 2 "_law_ratio" _ spRatio := ⟨_, _, ok_ratio FRa T OW, PySem.W.mg_of X G aRa, kRa, bRa⟩
  have OG : Ok P w K mg base CX0 1 "_law_gcd" _ spGcd := ⟨_, _, ok_gcd FGc T, PySem.W.mg_of X G aGc, kGc, bGc⟩
  have OJ : Ok P w K mg base CX0 1 "_law_is_int" _ spIsInt := ⟨_, _, ok_isint FIi T, PySem.W.mg_of X G aIi, kIi, bIi⟩
  have OH : Ok P w K mg base CX0 2 "_law_holds" _ (spHolds C) := ⟨_, _, ok_holds FHo T OJ OG, PySem.W.mg_of X G aHo, kHo, bHo⟩
  have OO : Ok P w K mg base CX0 1 "_law_row" _ (spRow K) := ⟨_, _, ok_row FRo T, PySem.W.mg_of X G aRo, kRo, bRo⟩
  have OT : Ok P w K mg base CX0 1 "is_time" _ (spIsTime C) := ⟨_, _, ok_istime FIt T, PySem.W.mg_of X G aIt, kIt, bIt⟩
  have OA : Ok P w K mg base CX0 6 "as_moment" _ (spAsM C) := ⟨_, _, ok_asm FAm T OI, PySem.W.mg_of X G aAm, kAm, bAm⟩
  have gz := PySem.W.mg_none_of X G gZD
  have GS : FnOk P w K mg base CX0 7 _ _ _ (spBin C nSub dAll) := ok_sub Fsub T OI OT OA
  have S2 : Op2 K C "sub" fsub := ⟨asub, isub, _, .inr aRs⟩
  have GM : FnOk P w K mg base CX0 7 _ _ _ (spBin C nMul dAll) := ok_mul Fmul T OI OT OA
  have M2 : Op2 K C "mul" fmul := ⟨amul, imul, _, .inr aRm⟩
  have GF : FnOk P w K mg base (L2.CX P w) 7 _ _ _ (spFloor C) := ok_fd FFd T OT OA
  have F2 : Op2 K C "floordiv" fFd := ⟨aFd, iFd, _, .inr aRfd⟩
  have GRF : FnOk P w K mg base (L2.CX P w) 8 _ _ _ (spFloorR C) := ok_rfd FRfd T TO F2 GF bFd OA
  have RF2 : OpR2 K C "floordiv" fRfd := ⟨aRfd, iRfd, _, aFd, iFd⟩
  have GD : FnOk P w K mg base (L2.CX P w) 8 _ _ _ (spMod C) := ok_md FMd T TO OT F2 GF bFd M2 GM bmul S2 GS bsub
  have D2 : Op2 K C "mod" fMd := ⟨aMd, iMd, _, .inr aRmd⟩
  have GRD : FnOk P w K mg base (L2.CX P w) 9 _ _ _ (spModR C) := ok_rmd FRmd T TO D2 GD bMd OA
  have RD2 : OpR2 K C "mod" fRmd := ⟨aRmd, iRmd, _, aMd, iMd⟩
  have OD : Ok P w K mg base CX0 10 "_law_divided" _ (spDiv C) := ⟨_, _, ok_div FDv T TO gz F2 GF bFd RF2 GRF bRfd D2 GD bMd RD2 GRD bRmd OJ OH, PySem.W.mg_of X G aDv, kDv, bDv⟩
  exact ok_law FLaw T OI OC OW OR OO OD
theorem walk {l : PySem.W.OpenLaw} {q : Program} {loose : List Str} {XP : (Str → Option Value) → Heap → Prop} {YP : World → Heap → Prop} {d : DefRec} {K : Params → PySem.W.Frag} (hn : l.most = some 63) (hdf : d.params.defaults = [])
    (hY : ∀ (w : World) (h : Heap), YP w h → (K w.params).In h)
    (F : ∀ (w : World) (mg : Str → Option Value) (fa : Addr) (h : Heap), (K w.params).In h → h.Ns mainGlobals mg → mg d.name = some (.ref fa) →
      ∃ fd : FuncData, (∀ (s : Shared) (u : Value), BindsTo s fd ⟨[u], []⟩ [("_law_script", u)]) ∧ ∀ base : Heap, (K w.params).In base → base.Ns mainGlobals mg → FnOk l.prog w (K w.params) mg base CX0 11 fa fd ["_law_script"] (spLaw (K w.params))) :
    PySem.W.WalkO q loose XP YP l.row.toRowW d [] (fun f vs => PySem.call f vs) :=
  L2.walk_of (n := 63) (k := 11) (x := "_law_script") (CX := fun _ => CX0) (sp := fun w => spLaw (K w.params)) hn (by decide) hdf ⟨rfl, by decide, by decide⟩ hY F (fun _ _ a ns hl _ hS => ⟨a, ns, rfl, hS, hl, fun _ => rfl⟩) fun _ _ _ _ _ z => z
end Mo
open PySem PySem.W PyProof.Rows
set_option maxRecDepth 100000 in
set_option maxHeartbeats 0 in
theorem PySem.Challenge.cw_anytune_k04_floors_and_rests_holds : PySem.Challenge.rw_anytune_k04_floors_and_rests.Holds := by
  w_on; o_law; k_head; (case hw => w_witness2)
  k_fill
  refine Mo.walk (l := PySem.Challenge.rw_anytune_k04_floors_and_rests) rfl rfl (fun w h Y => PySem.W.kIn_of Y) ?F
  case F =>
    intro w mg fa h KX G hmg
    refine' Mo.all_mk KX G hmg ?aC ?aN ?aKp ?lKp ?cKp ?kKp ?aCe ?lCe ?cCe ?kCe ?aRo ?lRo ?cRo ?kRo ?aWh ?lWh ?cWh ?kWh ?aRa ?lRa ?cRa ?kRa ?aGc ?lGc ?cGc ?kGc ?aIi ?lIi ?cIi ?kIi ?aHo ?lHo ?cHo ?kHo ?aDv ?lDv ?cDv ?kDv ?aIt ?lIt ?cIt ?kIt ?aAm ?lAm ?cAm ?kAm ?aLaw ?lLaw ?cLaw ?kLaw ?aNM ?lNM ?cNM ?kNM ?iNM ?aIn ?lIn ?cIn ?kIn ?iIn ?asub ?lsub ?csub ?ksub ?isub ?amul ?lmul ?cmul ?kmul ?imul ?aFd ?lFd ?cFd ?kFd ?iFd ?aRfd ?lRfd ?cRfd ?kRfd ?iRfd ?aMd ?lMd ?cMd ?kMd ?iMd ?aRmd ?lRmd ?cRmd ?kRmd ?iRmd ?pgC ?hdC ?poC ?saC ?mkC ?kcC ?nTop ?nBot ?clC ?clG ?clT ?mroO ?icC ?tyC ?sfC ?nIC ?nLC ?nDC ?obC ?gLen ?gAbs ?gInt ?gBool ?gIsi ?gRange ?gLst ?gDct ?gGcd ?xN ?saN ?exN ?tyN ?kcN ?nTN ?nBN ?tIN ?lTD ?gZD ?aRs ?aRm
    (case aC => k_is)
    (case aN => k_is)
    (case aKp => k_is)
    (case lKp => k_is)
    (case cKp => k_is)
    (case kKp => k_is)
    (case aCe => k_is)
    (case lCe => k_is)
    (case cCe => k_is)
    (case kCe => k_is)
    (case aRo => k_is)
    (case lRo => k_is)
    (case cRo => k_is)
    (case kRo => k_is)
    (case aWh => k_is)
    (case lWh => k_is)
    (case cWh => k_is)
    (case kWh => k_is)
    (case aRa => k_is)
    (case lRa => k_is)
    (case cRa => k_is)
    (case kRa => k_is)
    (case aGc => k_is)
    (case lGc => k_is)
    (case cGc => k_is)
    (case kGc => k_is)
    (case aIi => k_is)
    (case lIi => k_is)
    (case cIi => k_is)
    (case kIi => k_is)
    (case aHo => k_is)
    (case lHo => k_is)
    (case cHo => k_is)
    (case kHo => k_is)
    (case aDv => k_is)
    (case lDv => k_is)
    (case cDv => k_is)
    (case kDv => k_is)
    (case aIt => k_is)
    (case lIt => k_is)
    (case cIt => k_is)
    (case kIt => k_is)
    (case aAm => k_is)
    (case lAm => k_is)
    (case cAm => k_is)
    (case kAm => k_is)
    (case aLaw => k_is)
    (case lLaw => k_is)
    (case cLaw => k_is)
    (case kLaw => k_is)
    (case aNM => k_is)
    (case lNM => k_is)
    (case cNM => k_is)
    (case kNM => k_is)
    (case iNM => k_is)
    (case aIn => k_is)
    (case lIn => k_is)
    (case cIn => k_is)
    (case kIn => k_is)
    (case iIn => k_is)
    (case asub => k_is)
    (case lsub => k_is)
    (case csub => k_is)
    (case ksub => k_is)
    (case isub => k_is)
    (case amul => k_is)
    (case lmul => k_is)
    (case cmul => k_is)
    (case kmul => k_is)
    (case imul => k_is)
    (case aFd => k_is)
    (case lFd => k_is)
    (case cFd => k_is)
    (case kFd => k_is)
    (case iFd => k_is)
    (case aRfd => k_is)
    (case lRfd => k_is)
    (case cRfd => k_is)
    (case kRfd => k_is)
    (case iRfd => k_is)
    (case aMd => k_is)
    (case lMd => k_is)
    (case cMd => k_is)
    (case kMd => k_is)
    (case iMd => k_is)
    (case aRmd => k_is)
    (case lRmd => k_is)
    (case cRmd => k_is)
    (case kRmd => k_is)
    (case iRmd => k_is)
    (case pgC => k_is)
    (case hdC => k_is)
    (case poC => k_is)
    (case saC => k_is)
    (case mkC => k_is)
    (case kcC => k_is)
    (case nTop => k_is)
    (case nBot => k_is)
    (case clC => k_is)
    (case clG => k_is)
    (case clT => k_is)
    (case mroO => k_is)
    (case icC => k_is)
    (case tyC => k_is)
    (case sfC => k_is)
    (case nIC => k_is)
    (case nLC => k_is)
    (case nDC => k_is)
    (case obC => k_is)
    (case gLen => k_is)
    (case gAbs => k_is)
    (case gInt => k_is)
    (case gBool => k_is)
    (case gIsi => k_is)
    (case gRange => k_is)
    (case gLst => k_is)
    (case gDct => k_is)
    (case gGcd => k_is)
    (case xN => k_is)
    (case saN => k_is)
    (case exN => k_is)
    (case tyN => k_is)
    (case kcN => k_is)
    (case nTN => k_is)
    (case nBN => k_is)
    (case tIN => k_is)
    (case lTD => k_is)
    (case gZD => k_is)
    (case aRs => k_is)
    (case aRm => k_is)


