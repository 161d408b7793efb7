import PyProof.Rows.All
import Wide.All
import OpenK.AllK
import Wide.FinOn
import HandS.ForMost
import HandS.Style
import HandS.IsInst
import HandS.More
import HandS.Evl
import HandS.ForExc
import HandS.SlotsOwn
import HandS.OwnIter
import HandS.IterNext
import HandS.ClsMeth
import HandS.Deep
import HandS.Zip
import HandS.Walk
import HandS.SetFor
import HandS.Defaults
import HandS.CallSlots
import KE.KExcSuper
import HandS.ExcInit
import HandS.Nested
import HandS.ExcField
import HandS.ExcIs
import HandS.TryMany
import HandS.TryOnly
import HandS.ExcOwn
import HandS.WordsExc
import KE.KExcIs
import HandS.Sort
import KE.KDictCopyH
import HandS.Comp
import HandS.Exc
import KE.GoesRaise
import HandS.Dict
import PyProof.FactsDict
import PyProof.FactsAll.dict_1
import HandS.Star
import HandS.MakeKwOnly
import PyProof.Rows.SortStr
import HandS.TupAny
import HandS.FStr
import PyProof.Rows.RegStrFacts
import PySem.Challenge.RW_coretower_k34_books_keep_orders
import HandS.Strs
import KE.RegKSuper
set_option Elab.async false
set_option linter.all false
set_option maxRecDepth 100000
set_option maxHeartbeats 4000000
/-! ### small things over the layer: frames, loops, tests -/
namespace My
open PySem L2
section
variable {P : Program} {w : World} {K : PySem.W.Frag} {mg : Str → Option Value} {base : Heap}
/-- a def of the text, where it stands -/
structure Df (K : PySem.W.Frag) (mg : Str → Option Value) (x : Str) (st : Stmt) (ps : List Str) (f : Addr) (fd : FuncData) : Prop where
  F : Fun K x x st f fd
  g : mg x = some (.ref f)
  b : Binds K fd ps []
theorem cxK {CX : CXT} {N : List Str} {q : Str} {sc : Scope} {f : Addr} {cdv : Value} {A : Around} {outer : List Env} {s : Shared} {H : Hp} {E : XK} : (cxOf CX P w K mg base N q sc f cdv A outer s H E).K = K := rfl
theorem cxnK {CX : CXT} {N : List Str} {q : Str} {sc : Scope} {f : Addr} {cdv : Value} {A : Around} {outer : List Env} {s : Shared} {H : Hp} {E : XK} : (cxOf CX P w K mg base N q sc f cdv A outer s H E).nox.K = K := rfl
end
/-! ### frames -/
/-- what stood outside of S stands as it did -/
def Kp (S : List Addr) (H H' : Hp) : Prop := ∀ b o, b ∉ S → H b = some o → H' b = some o
theorem Kp.refl (S : List Addr) (H : Hp) : Kp S H H := fun _ _ _ h => h
theorem Kp.trans {S : List Addr} {H H1 H2 : Hp} (a : Kp S H H1) (b : Kp S H1 H2) : Kp S H H2 := fun c o hc h => b c o hc (a c o hc h)
theorem Kp.mono {S T : List Addr} {H H' : Hp} (a : Kp S H H') (h : ∀ x ∈ S, x ∈ T) : Kp T H H' := fun c o hc e => a c o (fun z => hc (h c z)) e
theorem Kp.of0 {T : List Addr} {H H' : Hp} (a : Kp [] H H') : Kp T H H' := a.mono fun x hx => nomatch hx
theorem Kp.new {S : List Addr} {H : Hp} {p : Addr} {o : HO} (h : H p = none) : Kp S H (upd H p o) := fun a u _ e => by
  rw [upd_ne (ne_of_none e h)]
  exact e
/-- a write to something that was not there at the beginning -/
theorem Kp.wr {S : List Addr} {H H' : Hp} {p : Addr} {o : HO} (a : Kp S H H') (h : H p = none) : Kp S H (upd H' p o) := fun b u hb e => by
  rw [upd_ne (ne_of_none e h)]
  exact a b u hb e
theorem Kp.put {S : List Addr} {H H' : Hp} {p : Addr} {o : HO} (a : Kp S H H') (h : p ∈ S) : Kp S H (upd H' p o) := fun b u hb e => by
  rw [upd_ne (fun z => hb (by rw [z]; exact h))]
  exact a b u hb e
theorem Kp.ls {S : List Addr} {K : PySem.W.Frag} {H H' : Hp} {a : Addr} {xs : List V} (k : Kp S H H') (ha : a ∉ S) (h : SqL K H a xs) : SqL K H' a xs := by
  rcases h with (h | ⟨o, h⟩) | h
  · exact .inl (.inl (k _ _ ha h))
  · exact .inl (.inr ⟨o, k _ _ ha h⟩)
  · exact .inr h
theorem Kp.tp {S : List Addr} {K : PySem.W.Frag} {H H' : Hp} {a : Addr} {xs : List V} (k : Kp S H H') (ha : a ∉ S) (h : SqT K H a xs) : SqT K H' a xs := by
  rcases h with (h | ⟨o, h⟩) | h
  · exact .inl (.inl (k _ _ ha h))
  · exact .inl (.inr ⟨o, k _ _ ha h⟩)
  · exact .inr h
theorem Kp.free {S : List Addr} {H H' : Hp} {p : Addr} (k : Kp S H H') (hp : H' p = none) (hs : ∀ a ∈ S, ∃ o, H' a = some o) : H p = none := by
  cases e : H p with
  | none => rfl
  | some o =>
    by_cases h : p ∈ S
    · obtain ⟨u, hu⟩ := hs p h
      rw [hp] at hu; cases hu
    · rw [k p o h e] at hp; cases hp
theorem Kp.free0 {H H' : Hp} {p : Addr} (k : Kp [] H H') (hp : H' p = none) : H p = none := k.free hp fun a h => nomatch h
theorem not1 {a b : Addr} (h : b ≠ a) : b ∉ [a] := fun z => h (List.mem_singleton.mp z)
theorem not0 {b : Addr} : b ∉ ([] : List Addr) := fun z => nomatch z
theorem sq_l {K : PySem.W.Frag} {H : Hp} {a : Addr} {xs : List V} (h : H a = some (.lst xs)) : SqL K H a xs := .inl (.inl h)
theorem sq_t {K : PySem.W.Frag} {H : Hp} {a : Addr} {xs : List V} (h : H a = some (.tup xs)) : SqT K H a xs := .inl (.inl h)
theorem small {n : Nat} (h : n ≤ 100000) : n ≤ sizeLine := Nat.le_trans h (by decide)
theorem smallL {n : Nat} (h : n ≤ 100000) : n < sizeLine := Nat.lt_of_le_of_lt h (by decide)
theorem ne_kind {H : Hp} {a b : Addr} {o u : HO} (h : H a = some o) (h' : H b = some u) (d : o ≠ u) : a ≠ b := ne_of h h' d
/-! ### subscripts -/
theorem atI_of {α : Type} {xs : List α} {i : Int} {v : α} (h0 : 0 ≤ i) (h : xs[i.toNat]? = some v) : atI xs i = some v := by
  have e := atI_nat h
  rwa [Int.toNat_of_nonneg h0] at e
theorem ixN_of {n : Nat} {i : Int} (h0 : 0 ≤ i) (h : i < n) : ixN n i = some i.toNat := by
  unfold ixN
  rw [if_pos h0, if_pos h]
theorem atI_ex {α : Type} {xs : List α} {i : Int} (h0 : 0 ≤ i) (h : i < xs.length) : ∃ v, v ∈ xs ∧ atI xs i = some v := by
  have hl : i.toNat < xs.length := by omega
  exact ⟨xs[i.toNat], List.getElem_mem hl, atI_of h0 (List.getElem?_eq_getElem hl)⟩
/-! ### isinstance -/
section
variable {K : PySem.W.Frag} {H : Hp} {Q : VK}
theorem isi_mk {x : V} {n m : String} {b : Bool} (h : TyOf K H x (.type n)) (k : kitB n m = some b) (q : Q (.bl b) H) : rIsi K [x, .ty m] H Q := ⟨x, _, _, _, b, rfl, .ty m, .base h, kit_ty k, q⟩
theorem isi_int_str {i : Int} (q : Q (.bl false) H) : rIsi K [.int i, .ty "str"] H Q := isi_mk (.int i) (by decide +kernel) q
theorem isi_str_str {i : Str} (q : Q (.bl true) H) : rIsi K [.str i, .ty "str"] H Q := isi_mk (.str i) (by decide +kernel) q
theorem isi_int_int {i : Int} (q : Q (.bl true) H) : rIsi K [.int i, .ty "int"] H Q := isi_mk (.int i) (by decide +kernel) q
theorem isi_int_bool {i : Int} (q : Q (.bl false) H) : rIsi K [.int i, .ty "bool"] H Q := isi_mk (.int i) (by decide +kernel) q
theorem isi_bl_bool {i : Bool} (q : Q (.bl true) H) : rIsi K [.bl i, .ty "bool"] H Q := isi_mk (.bl i) (by decide +kernel) q
end
theorem sc_ii {i j : Int} : scal (.int i) (.int j) = true := rfl
theorem sc_ss {i j : Str} : scal (.str i) (.str j) = true := rfl
theorem sc_bb {i j : Bool} : scal (.bl i) (.bl j) = true := rfl
theorem sc_ni {j : Int} : scal .non (.int j) = true := rfl
theorem sc_in {j : Int} : scal (.int j) .non = true := rfl
theorem sc_is {i : Int} {j : Str} : scal (.int i) (.str j) = true := rfl
theorem sc_si {i : Int} {j : Str} : scal (.str j) (.int i) = true := rfl
theorem sc_nn : scal .non .non = true := rfl
/-! ### loops -/
section
variable {K : PySem.W.Frag} {g : TG} {tb : TS} {D : Ends} {σ : St} {H : Hp}
theorem forL {a : Addr} {xs : List V} {i : Nat} (Pv : Nat → L2.St → Hp → Prop) (hσ : σ[i]? = some (some (.ref a))) (hS : SqL K H a xs) (h0 : Pv 0 σ H) (hl : ∀ j σ H, j ≤ xs.length → Pv j σ H → SqL K H a xs)
    (hs : ∀ j x σ H, xs[j]? = some x → Pv j σ H → g x σ H fun σ2 H2 => tb { D with nx := Pv (j + 1), ct := Pv (j + 1), bk := D.nx } σ2 H2) (hd : ∀ σ H, Pv xs.length σ H → D.nx σ H) : tFor (iList K (tVar i)) g tb D σ H :=
  ⟨_, hσ, a, rfl, ⟨xs, hS⟩, for_list Pv h0 hl hs hd⟩
theorem forT {a : Addr} {xs : List V} {i : Nat} (Pv : Nat → L2.St → Hp → Prop) (hσ : σ[i]? = some (some (.ref a))) (hS : SqT K H a xs) (h0 : Pv 0 σ H) (hl : ∀ j σ H, j ≤ xs.length → Pv j σ H → SqT K H a xs)
    (hs : ∀ j x σ H, xs[j]? = some x → Pv j σ H → g x σ H fun σ2 H2 => tb { D with nx := Pv (j + 1), ct := Pv (j + 1), bk := D.nx } σ2 H2) (hd : ∀ σ H, Pv xs.length σ H → D.nx σ H) : tFor (iTup K (tVar i)) g tb D σ H :=
  ⟨_, hσ, a, rfl, ⟨xs, hS⟩, for_tup Pv h0 hl hs hd⟩
/-- behind the reckoning of the bound: range(m) -/
theorem forR {ta : TA} {Qx : Hp → Int → Prop} (h : ta σ H fun vs H1 => ∃ m : Int, vs = [.int m] ∧ -(2 ^ 62) ≤ m ∧ m < 2 ^ 62 ∧ ∃ Pv : Nat → L2.St → Hp → Prop, Pv 0 σ H1 ∧
    (∀ j σ H, j < m.toNat → Pv j σ H → g (.int (0 + j)) σ H fun σ2 H2 => tb { D with nx := Pv (j + 1), ct := Pv (j + 1), bk := D.nx } σ2 H2) ∧ (∀ σ H, Pv m.toNat σ H → D.nx σ H))
    (mono : ∀ Q Q' : List V → Hp → Prop, (∀ vs H, Q vs H → Q' vs H) → ta σ H Q → ta σ H Q') : tFor (iRng1 ta) g tb D σ H := by
  refine mono _ _ ?_ h
  rintro vs H1 ⟨m, e, h1, h2, Pv, a, b, c⟩
  exact ⟨m, e, h1, h2, for_range Pv a b c⟩
end
/-! ### dicts -/
section
variable {κ : Type} [DecidableEq κ]
theorem keys_putK (kvs : List (κ × V)) (k : κ) (v : V) (h : (kvs.map (·.1)).Nodup) : ((putK kvs k v).map (·.1)).Nodup := by
  cases e : valV kvs k with
  | none => exact nd_putK v h e
  | some y =>
    have ha : (kvs.any fun kv => decide (kv.1 = k)) = true := by
      unfold valV at e
      cases q : kvs.find? fun kv => decide (kv.1 = k) with
      | none => rw [q] at e; cases e
      | some p => exact List.any_eq_true.mpr ⟨p, List.mem_of_find?_eq_some q, by simpa using List.find?_some q⟩
    unfold putK
    rw [if_pos ha, List.map_map]
    have e2 : ((fun kv : κ × V => kv.1) ∘ fun kv : κ × V => if kv.1 = k then (kv.1, v) else kv) = fun kv => kv.1 := by
      funext p
      show (if p.1 = k then (p.1, v) else p).1 = p.1
      split <;> rfl
    rw [e2]
    exact h
theorem mem_putK {kvs : List (κ × V)} {k : κ} {v : V} {p : κ × V} (h : p ∈ putK kvs k v) : p ∈ kvs ∨ p = (k, v) := by
  unfold putK at h
  split at h
  · obtain ⟨q, hq, e⟩ := List.mem_map.mp h
    split at e
    · rename_i hk
      exact .inr (by rw [← e, hk])
    · exact .inl (by rw [← e]; exact hq)
  · rcases List.mem_append.mp h with h | h
    · exact .inl h
    · exact .inr (List.mem_singleton.mp h)
theorem valV_mem {kvs : List (κ × V)} {k : κ} {v : V} (h : (kvs.map (·.1)).Nodup) (hm : (k, v) ∈ kvs) : valV kvs k = some v := by
  induction kvs with
  | nil => nomatch hm
  | cons p r ih =>
    rw [List.map_cons, List.nodup_cons] at h
    by_cases e : p.1 = k
    · rw [valV_pos e]
      rcases List.mem_cons.mp hm with z | z
      · rw [← z]
      · exact absurd (List.mem_map.mpr ⟨_, z, rfl⟩) (by rw [← e]; exact h.1)
    · rw [valV_neg e]
      rcases List.mem_cons.mp hm with z | z
      · exact absurd (by rw [← z]) e
      · exact ih h.2 z
end
end My

set_option Elab.async false
set_option linter.all false
set_option maxRecDepth 100000
set_option maxHeartbeats 4000000
/-! ### operators, in, len, list of instances of an own class that define them -/
namespace My
open PySem PySem.Spec PyProof.Rows L2
section
variable {X : Cx} {CX : CXT} {pins : List (Addr × Obj)} {σ : L2.St} {H : Hp} {s : Shared} {C g a : Addr} {fd : FuncData} {ps : List Str} {sp : Sp} {E : XK} {k : Nat} {A1 : Around}
theorem inst_of {dx : Addr} {fs : List (Str × V)} (I : Inv X pins σ H s) (ha : H a = some (.ins C dx fs)) : ∃ ox od, PySem.W.InstAt s.heap a ox C (some od) := by
  obtain ⟨mA, J, _⟩ := ins_get I.hok ha
  obtain ⟨od, J', _⟩ := J.look
  exact ⟨_, od, J'⟩
theorem env_under (sb : Sub X k A1) (I : Inv X pins σ H s) : Env0 X.prog X.w X.K X.mg X.base A1 X.stack s H := by
  obtain ⟨f1, f2, f3, f4, f5, f6, f7, f8⟩ := I.env0
  exact ⟨(sb.fr).trans f1, f2, f3, f4, f5, f6, f7, f8⟩
/-- a def of the class runs somewhere below the body -/
theorem run_under {Q : VK} {us : List Value} {vs : List V} (F : FnOk X.prog X.w X.K X.mg X.base CX k g fd ps sp) (sb : Sub X k A1) (hb : Binds X.K fd ps []) (hx : Passes CX X E) (I : Inv X pins σ H s) (r : Vals vs us) (h : sp vs H Q E) :
    wpAny (model X.prog X.w) A1 (call (.ref g) us) (EP X pins σ Q) X.xe s := by
  have len := F.len _ _ _ _ h
  have bnd := hb s us I.kIn (by rw [List.append_nil, ← r.length]; exact len)
  rw [List.append_nil] at bnd
  refine wpAny_call (codeAny_mono (F.run A1 X.stack s H ⟨us, []⟩ us vs Q E sb.room (env_under sb I) bnd r h) ?_)
  rintro (e | fl) s' z
  · exact hx pins σ H s e s' I z
  · cases fl <;> first | exact I.after z | exact z.elim
/-- x op y, both instances of the class at C -/
def rBinO (C : Addr) (sp : Sp) (E : XK) : R2 := fun x y H Q => ∃ (a dx : Addr) (fs : List (Str × V)) (b dy : Addr) (gs : List (Str × V)), x = .ref a ∧ y = .ref b ∧ H a = some (.ins C dx fs) ∧ H b = some (.ins C dy gs) ∧ sp [.ref a, .ref b] H Q E
/-- what stands of an operator's def -/
structure BinC (K : PySem.W.Frag) (C g : Addr) (op : Operator) : Prop where
  one : PySem.W.selfFirst K C = true
  at_ : PySem.W.findIn K (.ref C) (PySem.dunder op.info.2) = some (some (.ref g))
  fn : PySem.W.isFn K (.ref g) = true
theorem sub_here (hr : Room k X.A) : Sub X k X.A := ⟨hr, rfl⟩
theorem op_binO {op : Operator} (c : BinC X.K C g op) (F : FnOk X.prog X.w X.K X.mg X.base CX k g fd ps sp) (hb : Binds X.K fd ps []) (hr : Room k X.A) (hx : Passes CX X E) : OpR X (binaryOp op) (rBinO C sp E) := by
  rintro pins s σ H x y v u Q I rx ry ⟨a, dx, fs, b, dy, gs, rfl, rfl, ha, hb', q⟩
  cases rx
  cases ry
  obtain ⟨ox, od, J⟩ := inst_of I ha
  obtain ⟨oy, ody, J'⟩ := inst_of I hb'
  obtain ⟨m, hF⟩ := I.fr
  refine PySem.W.binop_K hF I.ok.mod.kin J J'.type c.one c.at_ c.fn ?_
  refine thn (run_under (us := [.ref a, .ref b]) (vs := [.ref a, .ref b]) F (sub_here hr) hb hx I (.cons rfl (.cons rfl .nil)) q) ?_
  rintro w s' ⟨z, H', I', rz, qz⟩
  exact SlX.cmpback rz ⟨z, H', I', rz, qz⟩
/-- y in x, x an instance of the class at C: its __contains__ gives a bool -/
def rInO (C : Addr) (sp : Sp) (E : XK) (neg : Bool) : R2 := fun y x H Q => ∃ (a dx : Addr) (fs : List (Str × V)), x = .ref a ∧ H a = some (.ins C dx fs) ∧ sp [.ref a, y] H (fun v H' => ∃ b, v = .bl b ∧ Q (.bl (if neg then !b else b)) H') E
structure InC (K : PySem.W.Frag) (C g : Addr) : Prop where
  at_ : PySem.W.findIn K (.ref C) "__contains__" = some (some (.ref g))
  fn : PySem.W.isFn K (.ref g) = true
theorem op_inO (c : InC X.K C g) (F : FnOk X.prog X.w X.K X.mg X.base CX k g fd ps sp) (hb : Binds X.K fd ps []) (hr : Room k X.A) (hx : Passes CX X E) : OpR X (compareOp .In) (rInO C sp E false) := by
  rintro pins s σ H y x u v Q I ry rx ⟨a, dx, fs, rfl, ha, q⟩
  cases rx
  obtain ⟨ox, od, J⟩ := inst_of I ha
  obtain ⟨m, hF⟩ := I.fr
  refine PySem.W.in_K hF I.ok.mod.kin J c.at_ c.fn ?_
  refine thn (run_under (us := [.ref a, u]) (vs := [.ref a, y]) F (sub_here hr) hb hx I (.cons rfl (.cons ry .nil)) q) ?_
  rintro w s' ⟨z, H', I', rz, b, rfl, qz⟩
  cases rz
  exact wpAny_pure ⟨.bl b, H', I', rfl, qz⟩
theorem op_notInO (c : InC X.K C g) (F : FnOk X.prog X.w X.K X.mg X.base CX k g fd ps sp) (hb : Binds X.K fd ps []) (hr : Room k X.A) (hx : Passes CX X E) : OpR X (compareOp .NotIn) (rInO C sp E true) := by
  rintro pins s σ H y x u v Q I ry rx ⟨a, dx, fs, rfl, ha, q⟩
  cases rx
  obtain ⟨ox, od, J⟩ := inst_of I ha
  obtain ⟨m, hF⟩ := I.fr
  refine PySem.W.notIn_K hF I.ok.mod.kin J c.at_ c.fn ?_
  refine thn (run_under (us := [.ref a, u]) (vs := [.ref a, y]) F (sub_here hr) hb hx I (.cons rfl (.cons ry .nil)) q) ?_
  rintro w s' ⟨z, H', I', rz, b, rfl, qz⟩
  cases rz
  exact wpAny_pure ⟨.bl (!b), H', I', rfl, qz⟩
/-- len(x) -/
structure LenC (K : PySem.W.Frag) (C g : Addr) : Prop where
  at_ : PySem.W.findIn K (.ref C) "__len__" = some (some (.ref g))
  fn : PySem.W.isFn K (.ref g) = true
theorem len_under {R : Value → Shared → Prop} {Q1 : Nat → Hp → Prop} {dx : Addr} {fs : List (Str × V)} (c : LenC X.K C g) (F : FnOk X.prog X.w X.K X.mg X.base CX k g fd ps sp) (hb : Binds X.K fd ps []) (sb : Sub X (k + 1) A1) (hx : Passes CX X E) (I : Inv X pins σ H s)
    (ha : H a = some (.ins C dx fs)) (h : sp [.ref a] H (fun v H' => ∃ n : Nat, v = .int n ∧ n ≤ sizeLine ∧ Q1 n H') E) (hR : ∀ (n : Nat) H' s' t, n ≤ sizeLine → Inv X pins σ H' s' → Q1 n H' → R (.int n t) s') : wpAny (model X.prog X.w) A1 (call (.builtin "len") [.ref a]) R X.xe s := by
  obtain ⟨ox, od, J⟩ := inst_of I ha
  refine Calls.call_function_entry kind_len plain_len entry_len (args_len1 _) ?_
  unfold Builtin.«len»
  refine wpAny_bind (m := oneArg "len" _) (wpAny_pure ?_)
  refine wpAny_bind (PySem.W.special_fn I.kIn J c.at_ (beq_iff_eq.mp c.fn) ?_)
  refine thn (run_under (us := [.ref a]) (vs := [.ref a]) F sb.in1 hb hx I (.cons rfl .nil) h) ?_
  rintro w s' ⟨z, H', I', rz, n, rfl, hn, hq⟩
  obtain ⟨t, rfl⟩ := rz
  have h63 : ((n : Int)) < 2 ^ 63 := by
    rw [sizeLine_eq] at hn
    omega
  refine wpAny_bind (wpAny_holding (wpAny_pure ?_))
  refine wpAny_bind (wpAny_letGo ?_)
  refine wpAny_ite_false (decide_eq_false (show ¬ ((n : Int) < 0) by omega)) ?_
  refine wpAny_ite_false (decide_eq_false (show ¬ ((n : Int) ≥ 2 ^ 63) by omega)) ?_
  exact wpAny_bind (wpAny_mkInt (wpAny_pure ⟨_, rfl, hR n H' _ _ hn (I'.tok _) hq⟩))
def rLenO (C : Addr) (sp : Sp) (E : XK) : List V → Hp → VK → Prop := fun xs H Q => ∃ (a dx : Addr) (fs : List (Str × V)), xs = [.ref a] ∧ H a = some (.ins C dx fs) ∧ sp [.ref a] H (fun v H' => ∃ n : Nat, v = .int n ∧ n ≤ sizeLine ∧ Q (.int n) H') E
theorem call_lenO (c : LenC X.K C g) (F : FnOk X.prog X.w X.K X.mg X.base CX k g fd ps sp) (hb : Binds X.K fd ps []) (hr : Room (k + 1) X.A) (hx : Passes CX X E) : CallR X (.builtin "len") (rLenO C sp E) := by
  rintro pins s σ H xs us Q I r ⟨a, dx, fs, rfl, ha, q⟩
  obtain ⟨u, rfl, ru⟩ := r.one
  cases ru
  exact len_under (Q1 := fun n H' => Q (.int n) H') c F hb (sub_here hr) hx I ha q fun n H' s' t _ I' hq => ⟨.int n, H', I', ⟨t, rfl⟩, hq⟩
/-- something that is no more looked at -/
def junk (q : Addr) : HO := .ext fun h => ∃ o, h.get? q = some o
theorem junk_ok {P : Program} {w : World} {H : Hp} {h : Heap} {q : Addr} {o : Obj} (e : h.get? q = some o) : ObjOk P w H h q (junk q) := ⟨⟨_, e⟩, ⟨_, e⟩, fun _ _ ⟨u, z⟩ k => ⟨u, k _ z⟩⟩
/-- the class's __iter__ gives iter(l) of a list l, and it has a __len__ -/
structure IterC (K : PySem.W.Frag) (C gi gl : Addr) : Prop where
  it : PySem.W.findIn K (.ref C) "__iter__" = some (some (.ref gi))
  itF : PySem.W.isFn K (.ref gi) = true
  ln : LenC K C gl
/-- list(x) -/
def rListO (K : PySem.W.Frag) (C : Addr) (si sl : Sp) (E : XK) : List V → Hp → VK → Prop := fun xs H Q => ∃ (a dx : Addr) (fs : List (Str × V)), xs = [.ref a] ∧ H a = some (.ins C dx fs) ∧ ∀ q, H q = none →
  si [.ref a] (upd H q (.lst [])) (fun v H1 => ∃ (l it : Addr) (zs : List V), v = .ref it ∧ H1 a = some (.ins C dx fs) ∧ H1 it = some (ItO l it 0) ∧ SqL K H1 l zs ∧ l ≠ q ∧ l ≠ it ∧ H1 q = some (.lst []) ∧
    sl [.ref a] H1 (fun v H2 => ∃ n : Nat, v = .int n ∧ n ≤ sizeLine ∧ H2 it = some (ItO l it 0) ∧ SqL K H2 l zs ∧ H2 q = some (.lst []) ∧ Q (.ref q) (upd (upd H2 it (junk it)) q (.lst zs))) E) E
/-- .. where nothing is raised -/
theorem run_under0 {Q : VK} {us : List Value} {vs : List V} {Ex : Value → Shared → Prop} (F : FnOk X.prog X.w X.K X.mg X.base CX0 k g fd ps sp) (sb : Sub X k A1) (hb : Binds X.K fd ps []) (I : Inv X pins σ H s) (r : Vals vs us) (h : sp vs H Q E) :
    wpAny (model X.prog X.w) A1 (call (.ref g) us) (EP X pins σ Q) Ex s := by
  have len := F.len _ _ _ _ h
  have bnd := hb s us I.kIn (by rw [List.append_nil, ← r.length]; exact len)
  rw [List.append_nil] at bnd
  refine wpAny_call (codeAny_mono (F.run A1 X.stack s H ⟨us, []⟩ us vs Q E sb.room (env_under sb I) bnd r h) ?_)
  rintro (e | fl) s' z
  · exact False.elim z
  · cases fl <;> first | exact I.after z | exact z.elim
theorem len_under0 {R : Value → Shared → Prop} {Ex : Value → Shared → Prop} {Q1 : Nat → Hp → Prop} {dx : Addr} {fs : List (Str × V)} (c : LenC X.K C g) (F : FnOk X.prog X.w X.K X.mg X.base CX0 k g fd ps sp) (hb : Binds X.K fd ps []) (sb : Sub X (k + 1) A1) (I : Inv X pins σ H s)
    (ha : H a = some (.ins C dx fs)) (h : sp [.ref a] H (fun v H' => ∃ n : Nat, v = .int n ∧ n ≤ sizeLine ∧ Q1 n H') E) (hR : ∀ (n : Nat) H' s' t, n ≤ sizeLine → Inv X pins σ H' s' → Q1 n H' → R (.int n t) s') : wpAny (model X.prog X.w) A1 (call (.builtin "len") [.ref a]) R Ex s := by
  obtain ⟨ox, od, J⟩ := inst_of I ha
  refine Calls.call_function_entry kind_len plain_len entry_len (args_len1 _) ?_
  unfold Builtin.«len»
  refine wpAny_bind (m := oneArg "len" _) (wpAny_pure ?_)
  refine wpAny_bind (PySem.W.special_fn I.kIn J c.at_ (beq_iff_eq.mp c.fn) ?_)
  refine thn (run_under0 (us := [.ref a]) (vs := [.ref a]) F sb.in1 hb I (.cons rfl .nil) h) ?_
  rintro w s' ⟨z, H', I', rz, n, rfl, hn, hq⟩
  obtain ⟨t, rfl⟩ := rz
  have h63 : ((n : Int)) < 2 ^ 63 := by
    rw [sizeLine_eq] at hn
    omega
  refine wpAny_bind (wpAny_holding (wpAny_pure ?_))
  refine wpAny_bind (wpAny_letGo ?_)
  refine wpAny_ite_false (decide_eq_false (show ¬ ((n : Int) < 0) by omega)) ?_
  refine wpAny_ite_false (decide_eq_false (show ¬ ((n : Int) ≥ 2 ^ 63) by omega)) ?_
  exact wpAny_bind (wpAny_mkInt (wpAny_pure ⟨_, rfl, hR n H' _ _ hn (I'.tok _) hq⟩))
theorem hint_own {Q : Bool → Shared → Prop} {Ex : Value → Shared → Prop} {Q1 : Nat → Hp → Prop} {dx : Addr} {fs : List (Str × V)} (c : LenC X.K C g) (F : FnOk X.prog X.w X.K X.mg X.base CX0 k g fd ps sp) (hb : Binds X.K fd ps []) (sb : Sub X (k + 1) A1) (I : Inv X pins σ H s)
    (ha : H a = some (.ins C dx fs)) (h : sp [.ref a] H (fun v H' => ∃ n : Nat, v = .int n ∧ n ≤ sizeLine ∧ Q1 n H') E) (hR : ∀ b n H' s', Inv X pins σ H' s' → Q1 n H' → Q b s') : wpAny (model X.prog X.w) A1 (Builtin.List.listLengthHint (.ref a)) Q Ex s := by
  obtain ⟨ox, od, J⟩ := inst_of I ha
  unfold Builtin.List.listLengthHint
  refine wpAny_bind (wpAny_bind (J.type.here ((PySem.W.looks_findIn I.kIn c.at_).here ?_)))
  refine PySem.W.KFB.if_not rfl ?_
  refine PySem.W.KFB.if_so rfl ?_
  refine wpAny_bind (wpAny_rule ?_)
  refine wpAny_bind (wpAny_attempt (len_under0 c F hb sb I ha h ?_))
  intro n H' s' t hn I' hq
  show wpAny _ _ (pure (some (n : Int)) >>= _) _ _ _
  refine wpAny_bind (wpAny_pure ?_)
  have hl : Builtin.List.listTooLong ((n : Int).toNat) = false := by
    rw [Int.toNat_natCast]; exact notLongL hn
  refine PySem.W.KFB.if_not hl ?_
  exact wpAny_pure (hR _ n H' s' I' hq)
/-! ### the list's iterator, drawn to its end -/
theorem py_item {it l : Addr} {i : Nat} {items : Array Value} {v : Value} {prog : Program} {w : World} {Q : Option Value → Shared → Prop} {Ex : Value → Shared → Prop} (ho : s.heap.get? it = some (GNX.itObj l i)) (hl : s.heap.IsList l items) (hv : items[i]? = some v)
    (hQ : ∀ h', h'.get? it = some (GNX.itObj l (i + 1)) → (∀ b o, b ≠ it → s.heap.get? b = some o → h'.get? b = some o) → Q (some v) { s with heap := h' }) : wpAny (model prog w) A1 (pyNext (.ref it)) Q Ex s := by
  have hT : s.TypeIs (.ref it) "list_iterator" := ⟨_, ho, rfl⟩
  unfold pyNext
  refine wpAny_bind (wpAny_attempt (wpAny_callSpecial?_slot (name := Str.ofString "__next__") hT slot_listiter_next (wpAny_call_entry slot_listiter_next hT entry_listiter_next (GNX.next_item ho hl hv ?_) (args_listiter_next _))))
  intro h' e sb
  exact wpAny_pure (hQ h' e fun b o hb eb => (sb.2 b hb).trans eb)
theorem py_end {it l : Addr} {i : Nat} {items : Array Value} {prog : Program} {w : World} {Q : Option Value → Shared → Prop} {Ex : Value → Shared → Prop} (hh : A1.handled = none) (ho : s.heap.get? it = some (GNX.itObj l i)) (hl : s.heap.IsList l items) (hv : items[i]? = none)
    (hQ : ∀ h', h'.get? it = some (GNX.itEnd i) → (∀ b o, b ≠ it → s.heap.get? b = some o → h'.get? b = some o) → Q none { s with heap := h' }) : wpAny (model prog w) A1 (pyNext (.ref it)) Q Ex s := by
  have hT : s.TypeIs (.ref it) "list_iterator" := ⟨_, ho, rfl⟩
  unfold pyNext
  refine wpAny_bind (wpAny_attempt (wpAny_callSpecial?_slot (name := Str.ofString "__next__") hT slot_listiter_next (wpAny_call_entry slot_listiter_next hT entry_listiter_next (GNX.next_end hh ho hl hv ?_) (args_listiter_next _))))
  intro h1 h' e vs e1 sb k1 ne he hv'
  refine wpAny_bind (wpAny_isInstance (T := "StopIteration") (b := true) ⟨_, he, rfl⟩ PySem.isSubtype_stop ?_)
  exact wpAny_pure (hQ h' (k1 _ _ e1) fun b o hb eb => k1 _ _ ((sb.2 b hb).trans eb))
theorem same_upd {H : Hp} {q : Addr} {o : HO} (e : H q = some o) : upd H q o = H := by
  funext b
  by_cases z : b = q
  · rw [z, upd_same, e]
  · rw [upd_ne z]
theorem take_next' {α : Type} {xs : List α} {i : Nat} {x : α} (h : xs[i]? = some x) : xs.take (i + 1) = xs.take i ++ [x] := by
  rw [List.take_add_one, h]; rfl
/-- the loop that fills the list at q -/
theorem drain {q l it : Addr} {zs : List V} {F : Hp} {R : Result → Shared → Prop} (hh : A1.in1.handled = none) (lit : l ≠ it) (lq : l ≠ q) (hne : it ≠ q) (hdone : ∀ s', Inv X pins σ F s' → R (.ok (.ret .none)) s') :
    ∀ (n i : Nat) (H1 : Hp) (s1 : Shared), zs.length - i = n → i ≤ zs.length → Inv X pins σ H1 s1 → H1 it = some (ItO l it i) → SqL X.K H1 l zs → H1 q = some (.lst (zs.take i)) → upd (upd H1 it (junk it)) q (.lst zs) = F →
      codeAny (model X.prog X.w) A1 (.builtin "list.extend.loop" ⟨[.ref q, .ref it, .none], []⟩) R s1 := by
  intro n
  induction n with
  | zero =>
    intro i H1 s1 hn hi I hit hl hq hF
    obtain ⟨its, rv, pl, hz⟩ := I.list hl
    have hlen := rv.length
    have nope : its.toArray[i]? = none := by
      rw [List.getElem?_toArray]
      exact List.getElem?_eq_none (by omega)
    refine codeAny_builtin PySem.F.entry_extend_loop ?_
    rw [Around.under_plainId PySem.F.plain_extend_loop _]
    refine wpAny_bind (m := pyNext (.ref it)) (py_end hh (itO_get I hit) pl.isList nope fun h' he hk => ?_)
    have J : Inv X pins σ (upd H1 it (junk it)) { s1 with heap := h' } := I.write (t' := s1.toks) (x := it) (e := it) (by rw [hit]; exact True.intro) (.inl rfl) (fun b u hb e => hk b u hb e) ⟨_, he⟩ (junk_ok he)
    have e : upd H1 it (junk it) = F := by
      rw [← hF]
      refine (same_upd ?_).symm
      rw [upd_ne hne.symm, hq, List.take_of_length_le (by omega)]
    rw [e] at J
    exact wpAny_pure (hdone _ J)
  | succ n ih =>
    intro i H1 s1 hn hi I hit hl hq hF
    obtain ⟨its, rv, pl, hz⟩ := I.list hl
    have hlen := rv.length
    have hx : zs[i]? = some zs[i] := List.getElem?_eq_getElem (by omega)
    obtain ⟨u, hu, ru⟩ := rv.get hx
    refine codeAny_builtin PySem.F.entry_extend_loop ?_
    rw [Around.under_plainId PySem.F.plain_extend_loop _]
    refine wpAny_bind (m := pyNext (.ref it)) (py_item (itO_get I hit) pl.isList (v := u) (by simpa using hu) fun h' he hk => ?_)
    have J : Inv X pins σ (upd H1 it (ItO l it (i + 1))) { s1 with heap := h' } := I.write (t' := s1.toks) (x := it) (e := it) (by rw [hit]; exact True.intro) (.inl rfl) (fun b u hb e => hk b u hb e) ⟨_, he⟩ (itO_ok he)
    have hq' : (upd H1 it (ItO l it (i + 1))) q = some (.lst (zs.take i)) := by rw [upd_ne hne.symm]; exact hq
    obtain ⟨_, ys, c, r2, hl2, e2⟩ := J.lstM hq'
    have hy : ys.length = i := by rw [← hl2, List.length_take]; omega
    refine wpAny_bind (m := updateSeq q (·.push u)) (wpAny_updateSeq e2 rfl (wpAny_pure ⟨plainId_quiet PySem.F.plain_extend_loop _, ?_⟩) (by rw [List.size_toArray]; omega) (by rw [Array.size_push, List.size_toArray]; omega))
    have J2 := J.lset (f := (·.push u)) (its' := ys ++ [u]) (ys := zs.take (i + 1)) (t' := s1.toks) hq' e2 (by simp) (by rw [take_next' hx]; exact r2.append (.cons ru .nil)) (by rw [List.length_take]; omega)
    refine ih (i + 1) _ _ (by omega) (by omega) J2 ?_ ?_ upd_same ?_
    · rw [upd_ne hne]; exact upd_same
    · exact (((Kp.refl [it, q] H1).put (by simp)).put (by simp)).ls (by simp [lit, lq]) hl
    · rw [← hF]
      funext b
      by_cases z : b = q
      · rw [z, upd_same, upd_same]
      · rw [upd_ne z, upd_ne z]
        by_cases y : b = it
        · rw [y, upd_same, upd_same]
        · rw [upd_ne y, upd_ne y, upd_ne z, upd_ne y]
theorem call_listO {gi gl : Addr} {fdi fdl : FuncData} {psi psl : List Str} {si sl : Sp} {ki kl : Nat} (c : IterC X.K C gi gl) (Fi : FnOk X.prog X.w X.K X.mg X.base CX0 ki gi fdi psi si) (bi : Binds X.K fdi psi []) (Fl : FnOk X.prog X.w X.K X.mg X.base CX0 kl gl fdl psl sl) (bl : Binds X.K fdl psl [])
    (hr : Room (max ki (kl + 1) + 2) X.A) (hcalm : X.calm = true := by rfl) : CallR X (.type "list") (rListO X.K C si sl E) := by
  rintro pins s σ H xs us Q I rv ⟨a, dx, fs, rfl, ha, hq⟩
  obtain ⟨u, rfl, ru⟩ := rv.one
  cases ru
  have sb0 : Sub X (max ki (kl + 1)) X.A.in1.in1 := (sub_here hr).in1.in1
  have hh : X.A.handled = none := I.ok.hd hcalm
  refine callType_codes (Q₁ := fun obj s₁ => obj = .ref s.heap.objs.size ∧ s₁ = { s with heap := s.heap.push { cls := .type "list", data := .seq #[] } }) PySem.F.called_list (PySem.F.typeCall_list_1 _) PySem.F.entry_list_init (code_list_new _ ⟨rfl, rfl⟩) ?_
  rintro obj s₁ ⟨rfl, rfl⟩
  have hS : (s.heap.push { cls := .type "list", data := .seq #[] }).get? s.heap.objs.size = some { cls := .type "list", data := .seq #[] } := Heap.get?_push_size _ rfl
  refine ⟨⟨_, hS, rfl⟩, PySem.F.args_list_init_2 _ _, ?_⟩
  have fr : H s.heap.objs.size = none := I.hok.fresh (Nat.le_refl _)
  have todo := hq _ fr
  generalize hqq : s.heap.objs.size = q at *
  have I1 : Inv X pins σ (upd H q (.lst [])) { s with heap := s.heap.push { cls := .type "list", data := .seq #[] } } := by
    rw [← hqq]
    exact I.lnew (its := []) (t' := s.toks) .nil (Nat.zero_le _)
  show wpAny _ _ (Builtin.List.listItems (.ref q) >>= fun old => Builtin.List.listUpdate (.ref q) (fun _ => #[]) >>= fun _ => letGo old.toList.reverse >>= fun _ => Builtin.List.listExtendWith (.ref q) (.ref a) .none) _ _ _
  refine wpAny_bind ?_
  unfold Builtin.List.listItems
  refine wpAny_bind (wpAny_seqItems hS rfl (wpAny_pure ?_))
  refine wpAny_bind (m := updateSeq q fun _ => #[]) (wpAny_updateSeq hS rfl ?_)
  have I2 := I1.lset (f := fun _ => #[]) (its := []) (its' := []) (ys := []) (t' := s.toks) upd_same hS rfl .nil (Nat.zero_le _)
  rw [upd_upd] at I2
  refine wpAny_bind (wpAny_letGo ?_)
  have ha2 : upd H q (.lst []) a = some (.ins C dx fs) := by rw [upd_ne (ne_of_none ha fr)]; exact ha
  obtain ⟨ox, od, J⟩ := inst_of I2 ha2
  obtain ⟨m0, hF⟩ := I2.fr
  have naq : a ≠ q := ne_of_none ha fr
  unfold Builtin.List.listExtendWith
  refine wpAny_bind (J.type.here ?_)
  have h1 : Builtin.List.listSameRef (.ref q) (.ref a) = false := beq_eq_false_iff_ne.mpr naq.symm
  refine PySem.W.KFB.if_not (by rw [h1]; rfl) ?_
  refine wpAny_bind (PySem.W.owit_iter hF I2.ok.mod.kin J c.it c.itF ?_)
  refine thn (run_under0 (us := [.ref a]) (vs := [.ref a]) Fi (sb0.mono (Nat.le_max_left _ _)) bi I2 (.cons rfl .nil) todo) ?_
  rintro w s2 ⟨z, H1, I3, rz, l, it, zs, rfl, ha3, hit, hl, lq, lit, hq3, hsl⟩
  cases rz
  unfold PySem.W.OwitIt
  have hT : s2.TypeIs (.ref it) "list_iterator" := ⟨_, itO_get I3 hit, rfl⟩
  refine wpAny_specialOf (name := Str.ofString "__next__") hT slot_listiter_next.lookup ?_
  refine wpAny_bind (wpAny_holding (hint_own c.ln Fl bl (sb0.mono (Nat.le_max_right _ _)) I3 ha3 hsl ?_))
  rintro room n H2 s3 I4 ⟨hit4, hl4, hq4, qend⟩
  have hne : it ≠ q := ne_of hit4 hq4 (fun z => by cases z)
  have fin : ∀ s4, Inv X pins σ H2 s4 → codeAny (model X.prog X.w) X.A.in1 (.builtin "list.extend.loop" ⟨[.ref q, .ref it, .none], []⟩) (wants (fun r s₂ => r = .none ∧ EP X pins σ Q (.ref q) s₂) X.xe) s4 := fun s4 I5 =>
    drain (A1 := X.A.in1) (F := upd (upd H2 it (junk it)) q (.lst zs)) (by simp [hh]) lit lq hne (fun s' I6 => ⟨rfl, .ref q, _, I6, rfl, qend⟩) _ 0 H2 s4 rfl (Nat.zero_le _) I5 hit4 hl4 (by rw [List.take_zero]; exact hq4) rfl
  refine wpAny_ite_split (fun _ => ?_) (fun _ => wpAny_pure ⟨plainId_quiet PySem.F.plain_extend_loop _, fin s3 I4⟩)
  refine wpAny_bind (wpAny_rule (wpAny_bind ?_))
  obtain ⟨_, its, k4, r4, hl5, e4⟩ := I4.lstM hq4
  cases r4
  refine wpAny_bind (m := updateSeq q (·.push .none)) (wpAny_updateSeq e4 rfl ?_)
  have I5 := I4.lset (f := (·.push Value.none)) (its' := [Value.none]) (ys := [.non]) (t' := s3.toks) hq4 e4 (by simp) (.cons rfl .nil) (by rw [List.length_singleton, sizeLine_eq]; decide)
  obtain ⟨_, its5, k5, r5, hl6, e5⟩ := I5.lstM upd_same
  obtain ⟨u5, rfl, ru5⟩ := r5.one
  refine wpAny_updateSeq (a := q) (f := (·.pop)) e5 rfl ?_ (by show 1 ≤ sizeLine; rw [sizeLine_eq]; decide) (by show 0 ≤ sizeLine + 1; exact Nat.zero_le _)
  have I6 := I5.lset (f := (·.pop)) (its := [u5]) (its' := []) (ys := []) (t' := s3.toks) upd_same e5 (by rfl) .nil (Nat.zero_le _)
  rw [upd_upd, same_upd hq4] at I6
  exact wpAny_pure ⟨plainId_quiet PySem.F.plain_extend_loop _, fin _ I6⟩
end
/-! ### a static method, called by its class's name -/
structure StaC (K : PySem.W.Frag) (C : Addr) (mc : Value) (m : Str) (p g : Addr) : Prop where
  rd : PySem.W.readsIn K C mc = true
  ga : PySem.W.specialIn K (.ref C) "__getattribute__" = some (some (.builtin "type.__getattribute__"))
  at_ : PySem.W.findCls K (.ref C) mc m = some (.get (.builtin "staticmethod.__get__") (.ref p) .none (.ref C))
  rc : ∃ rest, PySem.W.recIn K p "staticmethod" = some (.ref g :: rest)
  kp : PySem.W.keepIn K (.ref g) = true
def tSta (C : Addr) (sp : Sp) (dvs : List V) (E : XK) (ta : TE) (t : TA) : TE := fun σ H Q => ta σ H fun x H1 => x = .ref C ∧ t σ H1 fun vs H2 => sp (vs ++ dvs) H2 Q E
section
variable {X : Cx} {CX : CXT} {C p g : Addr} {mc : Value} {m : Str} {fd : FuncData} {ps : List Str} {sp : Sp} {E : XK} {k : Nat} {o e : Expr} {es : List Expr} {ta : TE} {t : TA} {apos pos : Pos} {dvs : List V} {ds : List Value}
theorem pe_sta {pl : Sem Bool} (he : PE X o ta) (c : StaC X.K C mc m p g) (F : FnOk X.prog X.w X.K X.mg X.base CX k g fd ps sp) (hr : Room k X.A) (hb : Binds X.K fd ps ds) (hd : Vals dvs ds) (hx : Passes CX X E) (ha : PA X (e :: es) t)
    (hst : starEach (e :: es) X.env = (false, eval e X.env) :: starEach es X.env := by rfl) (hpl : (backTo pos (starEach es X.env)).any (·.1) = false := by rfl)
    (ht : eval (.Call (.Attribute o m apos) (e :: es) [] pos) X.env = (eval o X.env >>= fun ov => standAt apos.atName >>= fun _ => holding [ov] (getMethod ov m pl) >>= fun fr => callWith pos fr.1 fr.2 (backTo pos (starEach (e :: es) X.env)) (backToKw pos (keywordEach [] X.env))) := by rfl) :
    PE X (.Call (.Attribute o m apos) (e :: es) [] pos) (tSta C sp dvs E ta t) := by
  refine ⟨fun pins s σ H Q I h => ?_⟩
  refine PySem.W.methodCall_KW (pl := pl) (thn (he.run pins s σ H _ I h) ?_) ht
  rintro u s1 ⟨x, H1, I1, rx, rfl, q⟩
  cases rx
  obtain ⟨rest, hp⟩ := c.rc
  refine PySem.W.method_cls I1.kIn c.ga (PySem.W.cls_bind I1.kIn c.rd c.at_ (wpAny_call ?_))
  refine PySem.W.sm_get (s := { s1 with toks := s1.toks + 1 }) I1.kIn hp (PySem.W.handed_on rfl ?_)
  refine PySem.W.callWith_K (first := []) (h₀ := X.base) I1.ok.mod.kin c.kp (thn (ha.run pos pins _ σ H1 _ (I1.tok _) q) fun us s2 ⟨vs, H2, I2, r, q2⟩ => ⟨I2.kIn, ?_⟩) hst hpl
  exact run_fn F hr hb hd hx I2 r q2
/-- x in t, t a tuple, of data of any depth -/
def rInT (K : PySem.W.Frag) (neg : Bool) : R2 := fun x y H Q => ∃ d ds, Dp K H x d ∧ Dp K H y (.tuple ds) ∧ SeqAt.shaped d = true ∧ SeqAt.shaped (.tuple ds) = true ∧ Q (.bl (if neg then !(ds.any fun z => PyData.eqv z d) else ds.any fun z => PyData.eqv z d)) H
theorem op_inT (hu : X.A.units + 65 < cLine) : OpR X (compareOp .In) (rInT X.K false) := by
  rintro pins s σ H x y v u Q I rx ry ⟨d, ds, hd, he, sd, se, q⟩
  obtain ⟨as, r1⟩ := Dp.reads I d x v hd rx
  obtain ⟨bs, r2⟩ := Dp.reads I (.tuple ds) y u he ry
  exact SeqAt.in_tuple_reads r2 r1 (SeqAt.canLay_of_shaped se) (SeqAt.canLay_of_shaped sd) (room_in_shaped sd hu) ⟨.bl _, H, I, rfl, q⟩
theorem op_notInT (hu : X.A.units + 65 < cLine) : OpR X (compareOp .NotIn) (rInT X.K true) := by
  rintro pins s σ H x y v u Q I rx ry ⟨d, ds, hd, he, sd, se, q⟩
  obtain ⟨as, r1⟩ := Dp.reads I d x v hd rx
  obtain ⟨bs, r2⟩ := Dp.reads I (.tuple ds) y u he ry
  exact SeqAt.notIn_tuple_reads r2 r1 (SeqAt.canLay_of_shaped se) (SeqAt.canLay_of_shaped sd) (room_in_shaped sd hu) ⟨.bl _, H, I, rfl, q⟩
end
end My

set_option Elab.async false
set_option linter.all false
set_option maxRecDepth 100000
set_option maxHeartbeats 4000000
/-! ### data of any depth: kept, walked in lists or tuples -/
namespace My
open PySem PySem.Spec PyProof.Rows L2
/-- no list or tuple stands in S -/
def NoSq (H : Hp) (S : List Addr) : Prop := ∀ a ∈ S, (∀ xs, H a ≠ some (.lst xs)) ∧ (∀ xs, H a ≠ some (.tup xs)) ∧ ∀ o u, H a ≠ some (.frz o u)
theorem noSq0 {H : Hp} : NoSq H [] := fun a h => nomatch h
theorem noSq1 {H : Hp} {a C dx : Addr} {fs : List (Str × V)} (h : H a = some (.ins C dx fs)) : NoSq H [a] := fun b hb => by
  rw [List.mem_singleton.mp hb, h]
  exact ⟨fun _ z => (by cases z), fun _ z => (by cases z), fun _ _ z => (by cases z)⟩
theorem Kp.lsN {S : List Addr} {K : PySem.W.Frag} {H H' : Hp} {a : Addr} {xs : List V} (k : Kp S H H') (n : NoSq H S) (h : SqL K H a xs) : SqL K H' a xs := by
  rcases h with (h | ⟨o, h⟩) | h
  · exact .inl (.inl (k _ _ (fun z => (n a z).1 _ h) h))
  · exact .inl (.inr ⟨o, k _ _ (fun z => (n a z).2.2 _ _ h) h⟩)
  · exact .inr h
theorem Kp.tpN {S : List Addr} {K : PySem.W.Frag} {H H' : Hp} {a : Addr} {xs : List V} (k : Kp S H H') (n : NoSq H S) (h : SqT K H a xs) : SqT K H' a xs := by
  rcases h with (h | ⟨o, h⟩) | h
  · exact .inl (.inl (k _ _ (fun z => (n a z).2.1 _ h) h))
  · exact .inl (.inr ⟨o, k _ _ (fun z => (n a z).2.2 _ _ h) h⟩)
  · exact .inr h
mutual
theorem dpN {S : List Addr} {K : PySem.W.Frag} {H H' : Hp} (k : Kp S H H') (n : NoSq H S) : ∀ {d : PyData} {v : V}, Dp K H v d → Dp K H' v d
  | _, _, .non => .non
  | _, _, .bl b => .bl b
  | _, _, .int i => .int i
  | _, _, .str x => .str x
  | _, _, .lst e h => .lst (k.lsN n e) (dpAllN k n h)
  | _, _, .tup e h => .tup (k.tpN n e) (dpAllN k n h)
theorem dpAllN {S : List Addr} {K : PySem.W.Frag} {H H' : Hp} (k : Kp S H H') (n : NoSq H S) : ∀ {ds : List PyData} {vs : List V}, DpAll K H vs ds → DpAll K H' vs ds
  | _, _, .nil => .nil
  | _, _, .cons h t => .cons (dpN k n h) (dpAllN k n t)
end
mutual
def noLs : PyData → Bool
  | .list _ => false
  | .tuple ds => noLsAll ds
  | _ => true
def noLsAll : List PyData → Bool
  | [] => true
  | d :: ds => noLs d && noLsAll ds
end
/-- .. stand as before, where lists change -/
def NoTp (H : Hp) (S : List Addr) : Prop := ∀ a ∈ S, (∀ xs, H a ≠ some (.tup xs)) ∧ ∀ o u, H a ≠ some (.frz o u)
theorem noTp1 {H : Hp} {a : Addr} {xs : List V} (h : H a = some (.lst xs)) : NoTp H [a] := fun b hb => by
  rw [List.mem_singleton.mp hb, h]
  exact ⟨fun _ z => (by cases z), fun _ _ z => (by cases z)⟩
theorem Kp.tpT {S : List Addr} {K : PySem.W.Frag} {H H' : Hp} {a : Addr} {xs : List V} (k : Kp S H H') (n : NoTp H S) (h : SqT K H a xs) : SqT K H' a xs := by
  rcases h with (h | ⟨o, h⟩) | h
  · exact .inl (.inl (k _ _ (fun z => (n a z).1 _ h) h))
  · exact .inl (.inr ⟨o, k _ _ (fun z => (n a z).2 _ _ h) h⟩)
  · exact .inr h
mutual
theorem dpT {S : List Addr} {K : PySem.W.Frag} {H H' : Hp} (k : Kp S H H') (n : NoTp H S) : ∀ {d : PyData} {v : V}, Dp K H v d → noLs d = true → Dp K H' v d
  | _, _, .non, _ => .non
  | _, _, .bl b, _ => .bl b
  | _, _, .int i, _ => .int i
  | _, _, .str x, _ => .str x
  | _, _, .lst e h, z => by cases z
  | _, _, .tup e h, z => .tup (k.tpT n e) (dpAllT k n h z)
theorem dpAllT {S : List Addr} {K : PySem.W.Frag} {H H' : Hp} (k : Kp S H H') (n : NoTp H S) : ∀ {ds : List PyData} {vs : List V}, DpAll K H vs ds → noLsAll ds = true → DpAll K H' vs ds
  | _, _, .nil, _ => .nil
  | _, _, .cons h t, z => by
    have z' := Bool.and_eq_true_iff.mp z
    exact .cons (dpT k n h z'.1) (dpAllT k n t z'.2)
end
theorem dpLen {K : PySem.W.Frag} {H : Hp} : ∀ {ds : List PyData} {vs : List V}, DpAll K H vs ds → vs.length = ds.length
  | _, _, .nil => rfl
  | _, _, .cons h t => by rw [List.length_cons, List.length_cons, dpLen t]
theorem dpGet {K : PySem.W.Frag} {H : Hp} : ∀ {ds : List PyData} {vs : List V}, DpAll K H vs ds → ∀ {i : Nat} {v : V}, vs[i]? = some v → ∃ d, ds[i]? = some d ∧ Dp K H v d
  | _, _, .nil, _, _, e => nomatch e
  | _, _, .cons h t, 0, _, e => by cases e; exact ⟨_, rfl, h⟩
  | _, _, .cons h t, i + 1, _, e => dpGet t (i := i) e
theorem dpApp {K : PySem.W.Frag} {H : Hp} : ∀ {ds es : List PyData} {vs us : List V}, DpAll K H vs ds → DpAll K H us es → DpAll K H (vs ++ us) (ds ++ es)
  | _, _, _, _, .nil, k => k
  | _, _, _, _, .cons h t, k => .cons h (dpApp t k)
theorem dpTake {K : PySem.W.Frag} {H : Hp} : ∀ {ds : List PyData} {vs : List V}, DpAll K H vs ds → ∀ i, DpAll K H (vs.take i) (ds.take i)
  | _, _, .nil, i => by rw [List.take_nil, List.take_nil]; exact .nil
  | _, _, .cons h t, 0 => .nil
  | _, _, .cons h t, i + 1 => .cons h (dpTake t i)
theorem dpDrop {K : PySem.W.Frag} {H : Hp} : ∀ {ds : List PyData} {vs : List V}, DpAll K H vs ds → ∀ i, DpAll K H (vs.drop i) (ds.drop i)
  | _, _, .nil, i => by rw [List.drop_nil, List.drop_nil]; exact .nil
  | _, _, .cons h t, 0 => .cons h t
  | _, _, .cons h t, i + 1 => dpDrop t i
theorem dpRev {K : PySem.W.Frag} {H : Hp} : ∀ {ds : List PyData} {vs : List V}, DpAll K H vs ds → DpAll K H vs.reverse ds.reverse
  | _, _, .nil => .nil
  | _, _, .cons h t => by
    rw [List.reverse_cons, List.reverse_cons]
    exact dpApp (dpRev t) (.cons h .nil)
theorem dpStrs {K : PySem.W.Frag} {H : Hp} : ∀ zs : List Str, DpAll K H (zs.map V.str) (zs.map PyData.str)
  | [] => .nil
  | z :: zs => .cons (.str z) (dpStrs zs)
/-- an object walked that is a list or a tuple -/
def SqAny (K : PySem.W.Frag) (H : Hp) (a : Addr) (xs : List V) : Prop := SqL K H a xs ∨ SqT K H a xs
theorem Kp.anyN {S : List Addr} {K : PySem.W.Frag} {H H' : Hp} {a : Addr} {xs : List V} (k : Kp S H H') (n : NoSq H S) (h : SqAny K H a xs) : SqAny K H' a xs := h.imp (k.lsN n) (k.tpN n)
def iSeq (K : PySem.W.Frag) (tl : TE) : TI := fun σ H R => tl σ H fun x H1 => ∃ a, x = .ref a ∧ (((∃ xs, SqL K H1 a xs) ∧ R (Itl K a) H1) ∨ ((∃ xs, SqT K H1 a xs) ∧ R (Itt K a) H1))
section
variable {X : Cx} {tg : Expr}
theorem pi_seq {l : Expr} {tl : TE} (hl : PE X l tl) : PI X tg l (iSeq X.K tl) := by
  refine ⟨fun pins s σ H R I h => thn (hl.run pins s σ H _ I h) ?_⟩
  rintro v s1 ⟨x, H1, I1, r1, a, rfl, ⟨⟨xs, hq⟩, q⟩ | ⟨⟨xs, hq⟩, q⟩⟩
  · cases r1
    obtain ⟨its, rv, p, hz⟩ := I1.list hq
    refine wpAny_pyIter_list p.isList ⟨_, [_], _, _, H1, rfl, I1.kept (t' := s1.toks) (fun b o e => Heap.get?_push_of_some _ e), turn_list a _, ⟨_, Heap.get?_push_size _ rfl, rfl, rfl⟩, fun b hb => ?_, q⟩
    rw [List.mem_singleton.mp hb]
    exact I1.fpOk (Nat.le_refl _) (I1.hok.fresh (Nat.le_refl _))
  · cases r1
    obtain ⟨its, rv, p, hz⟩ := I1.tuple hq
    refine wpAny_pyIter_tuple (show s1.heap.IsTuple a its.toArray from p) ⟨_, [_], _, _, H1, rfl, I1.kept (t' := s1.toks) (fun b o e => Heap.get?_push_of_some _ e), turn_tuple a _, ⟨_, Heap.get?_push_size _ rfl, rfl, rfl⟩, fun b hb => ?_, q⟩
    rw [List.mem_singleton.mp hb]
    exact I1.fpOk (Nat.le_refl _) (I1.hok.fresh (Nat.le_refl _))
/-- x in s, s a list or a tuple -/
def rInS (K : PySem.W.Frag) (neg : Bool) : R2 := fun x y H Q => ∃ (d : PyData) (ds : List PyData) (a : Addr) (xs : List V), y = .ref a ∧ SqAny K H a xs ∧ DpAll K H xs ds ∧ Dp K H x d ∧ SeqAt.shaped d = true ∧ SeqAt.shaped (.list ds) = true ∧ Q (.bl (if neg then !(ds.any fun z => PyData.eqv z d) else ds.any fun z => PyData.eqv z d)) H
theorem op_inS (hu : X.A.units + 65 < cLine) : OpR X (compareOp .In) (rInS X.K false) := by
  rintro pins s σ H x y v u Q I rx ry ⟨d, ds, a, xs, rfl, ha | ha, hx, hd, s1, s2, q⟩
  · exact op_inD hu pins s σ H x _ v u Q I rx ry ⟨d, ds, hd, .lst ha hx, s1, s2, q⟩
  · exact op_inT hu pins s σ H x _ v u Q I rx ry ⟨d, ds, hd, .tup ha hx, s1, s2, q⟩
theorem op_notInS (hu : X.A.units + 65 < cLine) : OpR X (compareOp .NotIn) (rInS X.K true) := by
  rintro pins s σ H x y v u Q I rx ry ⟨d, ds, a, xs, rfl, ha | ha, hx, hd, s1, s2, q⟩
  · exact op_notInD hu pins s σ H x _ v u Q I rx ry ⟨d, ds, hd, .lst ha hx, s1, s2, q⟩
  · exact op_notInT hu pins s σ H x _ v u Q I rx ry ⟨d, ds, hd, .tup ha hx, s1, s2, q⟩
theorem hu5 {A : Around} {k : Nat} (hr : Room k A) : A.units + 65 < cLine := by have := hr.un; omega
end
section
variable {K : PySem.W.Frag} {H H0 : Hp} {a : Addr} {xs : List V} {g : TG} {tb : TS} {D : Ends} {σ : L2.St} {i : Nat}
/-- for x in s, s a list or a tuple that stands still -/
theorem forS (Pv : Nat → L2.St → Hp → Prop) (hσ : σ[i]? = some (some (.ref a))) (hS : SqAny K H a xs) (h0 : Pv 0 σ H) (hk : ∀ j σ' H', Pv j σ' H' → Kp [] H H')
    (hs : ∀ j x σ H, xs[j]? = some x → Pv j σ H → g x σ H fun σ2 H2 => tb { D with nx := Pv (j + 1), ct := Pv (j + 1), bk := D.nx } σ2 H2) (hd : ∀ σ H, Pv xs.length σ H → D.nx σ H) : tFor (iSeq K (tVar i)) g tb D σ H := by
  rcases hS with h | h
  · exact ⟨_, hσ, a, rfl, .inl ⟨⟨xs, h⟩, for_list Pv h0 (fun j σ' H' _ p => (hk j σ' H' p).ls not0 h) hs hd⟩⟩
  · exact ⟨_, hσ, a, rfl, .inr ⟨⟨xs, h⟩, for_tup Pv h0 (fun j σ' H' _ p => (hk j σ' H' p).tp not0 h) hs hd⟩⟩
end
end My

set_option Elab.async false
set_option linter.all false
set_option maxRecDepth 100000
set_option maxHeartbeats 4000000
namespace My
open PySem L2
/-! ### data that stands in tracked tuples and lists -/
mutual
inductive Dq (H : Hp) : V → PyData → Prop
  | non : Dq H .non .none
  | bl (b : Bool) : Dq H (.bl b) (.bool b)
  | int (i : Int) : Dq H (.int i) (.int i)
  | str (x : Str) : Dq H (.str x) (.str x)
  | lst {a : Addr} {xs : List V} {ds : List PyData} : H a = some (.lst xs) → DqAll H xs ds → Dq H (.ref a) (.list ds)
  | tup {a : Addr} {xs : List V} {ds : List PyData} : H a = some (.tup xs) → DqAll H xs ds → Dq H (.ref a) (.tuple ds)
inductive DqAll (H : Hp) : List V → List PyData → Prop
  | nil : DqAll H [] []
  | cons {v : V} {vs : List V} {d : PyData} {ds : List PyData} : Dq H v d → DqAll H vs ds → DqAll H (v :: vs) (d :: ds)
end
mutual
theorem Dq.kp {H H' : Hp} (k : Kp [] H H') : ∀ {d : PyData} {v : V}, Dq H v d → Dq H' v d
  | _, _, .non => .non
  | _, _, .bl b => .bl b
  | _, _, .int i => .int i
  | _, _, .str x => .str x
  | _, _, .lst e h => .lst (k _ _ not0 e) (DqAll.kp k h)
  | _, _, .tup e h => .tup (k _ _ not0 e) (DqAll.kp k h)
theorem DqAll.kp {H H' : Hp} (k : Kp [] H H') : ∀ {ds : List PyData} {vs : List V}, DqAll H vs ds → DqAll H' vs ds
  | _, _, .nil => .nil
  | _, _, .cons h t => .cons (Dq.kp k h) (DqAll.kp k t)
end
mutual
theorem Dq.dp {K : PySem.W.Frag} {H : Hp} : ∀ {d : PyData} {v : V}, Dq H v d → Dp K H v d
  | _, _, .non => .non
  | _, _, .bl b => .bl b
  | _, _, .int i => .int i
  | _, _, .str x => .str x
  | _, _, .lst e h => .lst (sq_l e) (DqAll.dp h)
  | _, _, .tup e h => .tup (sq_t e) (DqAll.dp h)
theorem DqAll.dp {K : PySem.W.Frag} {H : Hp} : ∀ {ds : List PyData} {vs : List V}, DqAll H vs ds → DpAll K H vs ds
  | _, _, .nil => .nil
  | _, _, .cons h t => .cons (Dq.dp h) (DqAll.dp t)
end
theorem DqAll.len {H : Hp} : ∀ {ds : List PyData} {vs : List V}, DqAll H vs ds → vs.length = ds.length
  | _, _, .nil => rfl
  | _, _, .cons h t => by rw [List.length_cons, List.length_cons, t.len]
theorem DqAll.get {H : Hp} : ∀ {ds : List PyData} {vs : List V}, DqAll H vs ds → ∀ {i : Nat} {v : V}, vs[i]? = some v → ∃ d, ds[i]? = some d ∧ Dq H v d
  | _, _, .nil, _, _, e => nomatch e
  | _, _, .cons h t, 0, _, e => by cases e; exact ⟨_, rfl, h⟩
  | _, _, .cons h t, i + 1, _, e => t.get (i := i) e
/-- its class -/
def tyD : PyData → String
  | .none => "NoneType"
  | .bool _ => "bool"
  | .int _ => "int"
  | .str _ => "str"
  | .list _ => "list"
  | .tuple _ => "tuple"
  | _ => "object"
theorem Dq.ty {K : PySem.W.Frag} {H : Hp} {v : V} {d : PyData} (h : Dq H v d) : TyOf K H v (.type (tyD d)) := by
  cases h with
  | non => exact .non
  | bl b => exact .bl b
  | int i => exact .int i
  | str x => exact .str x
  | lst e h => exact .lst e
  | tup e h => exact .tup e
def six (d : PyData) : Prop := match d with
  | .none | .bool _ | .int _ | .str _ | .list _ | .tuple _ => True
  | _ => False
theorem Dq.six {H : Hp} {v : V} {d : PyData} (h : Dq H v d) : six d := by
  cases h <;> exact True.intro
def isStrD : PyData → Bool | .str _ => true | _ => false
def isTupD : PyData → Bool | .tuple _ => true | _ => false
def isLstD : PyData → Bool | .list _ => true | _ => false
def isIntD : PyData → Bool | .int _ | .bool _ => true | _ => false
def isBoolD : PyData → Bool | .bool _ => true | _ => false
section
variable {K : PySem.W.Frag} {H : Hp} {Q : VK} {v : V} {d : PyData}
theorem isi_D (h : Dq H v d) {m : String} {b : Bool} (k : kitB (tyD d) m = some b) (q : Q (.bl b) H) : rIsi K [v, .ty m] H Q := isi_mk h.ty k q
theorem isi_Dstr (h : Dq H v d) (q : Q (.bl (isStrD d)) H) : rIsi K [v, .ty "str"] H Q := isi_D h (by cases h <;> simp only [tyD, isStrD, isTupD, isLstD, isIntD, isBoolD] <;> decide +kernel) q
theorem isi_Dtup (h : Dq H v d) (q : Q (.bl (isTupD d)) H) : rIsi K [v, .ty "tuple"] H Q := isi_D h (by cases h <;> simp only [tyD, isStrD, isTupD, isLstD, isIntD, isBoolD] <;> decide +kernel) q
theorem isi_Dlst (h : Dq H v d) (q : Q (.bl (isLstD d)) H) : rIsi K [v, .ty "list"] H Q := isi_D h (by cases h <;> simp only [tyD, isStrD, isTupD, isLstD, isIntD, isBoolD] <;> decide +kernel) q
theorem isi_Dint (h : Dq H v d) (q : Q (.bl (isIntD d)) H) : rIsi K [v, .ty "int"] H Q := isi_D h (by cases h <;> simp only [tyD, isStrD, isTupD, isLstD, isIntD, isBoolD] <;> decide +kernel) q
theorem isi_Dbool (h : Dq H v d) (q : Q (.bl (isBoolD d)) H) : rIsi K [v, .ty "bool"] H Q := isi_D h (by cases h <;> simp only [tyD, isStrD, isTupD, isLstD, isIntD, isBoolD] <;> decide +kernel) q
end
/-! ### xs.remove(text) -/
def eqs (z : Str) (v : Value) : Bool := match v with
  | .str y _ => y == z
  | _ => false
theorem str_beq' (w z : Str) : (w == z) = (w.cps.toList == z.cps.toList) := by
  rw [Bool.eq_iff_iff, beq_iff_eq, beq_iff_eq]
  constructor
  · rintro rfl; rfl
  · intro h
    obtain ⟨a⟩ := w
    obtain ⟨b⟩ := z
    obtain ⟨a⟩ := a
    obtain ⟨b⟩ := b
    have h' : a = b := h
    rw [h']
def rRemS : V → List V → Hp → VK → Prop := fun x xs H Q => ∃ (l : Addr) (zs : List Str) (z : Str) (j : Nat), x = .ref l ∧ xs = [.str z] ∧ H l = some (.lst (zs.map V.str)) ∧ zs[j]? = some z ∧ (∀ m : Nat, m < j → zs[m]? ≠ some z) ∧ Q .non (upd H l (.lst ((zs.eraseIdx j).map V.str)))
theorem vals_str : ∀ {zs : List Str} {us : List Value}, Vals (zs.map V.str) us → ∀ {i : Nat} {u : Value}, us[i]? = some u → ∃ y t, u = .str y t ∧ zs[i]? = some y
  | [], _, r, _, _, e => by cases r; cases e
  | z :: zs, us, r, i, u, e => by
    rw [List.map_cons] at r
    cases r with
    | cons r0 rt =>
      match i, e with
      | 0, e =>
        cases e
        obtain ⟨t, rfl⟩ := r0
        exact ⟨z, t, rfl, rfl⟩
      | i + 1, e => exact vals_str rt (i := i) e
theorem erase_mapS : ∀ (l : List Str) (j : Nat), (l.map V.str).eraseIdx j = (l.eraseIdx j).map V.str
  | [], j => by simp
  | _ :: _, 0 => by simp
  | _ :: r, j + 1 => by simp [erase_mapS r j]
theorem eqs_ok (w z : Str) (tw t : Tok) : MeetsSeq.EqGives (.str w tw) (.str z t) (eqs z (.str w tw)) := by
  have e : eqs z (.str w tw) = (w.cps.toList == z.cps.toList) := (str_beq' w z)
  rw [e]
  exact SeqRoads2.EqGives.str w z tw t
theorem mt_removeS {X : Cx} : MtM X "list.remove" rRemS := by
  intro pins s σ H x xs v us Q I rx rxs h
  obtain ⟨l, zs, z, j, rfl, rfl, hH, hj, hno, q⟩ := h
  cases rx
  obtain ⟨u, rfl, ru⟩ := rxs.one
  obtain ⟨t, rfl⟩ := ru
  obtain ⟨hz, its, n, r, hl, e⟩ := I.lstM hH
  rw [List.length_map] at hl hz
  have hjn : j < zs.length := (List.getElem?_eq_some_iff.mp hj).1
  have hjl : j < its.toArray.size := by rw [List.size_toArray]; omega
  have each : ∀ y, y ∈ its.toArray → MeetsSeq.EqGives y (.str z t) (eqs z y) := fun y hy => by
    obtain ⟨i, hi, e1⟩ := List.mem_iff_getElem.mp (show y ∈ its by simpa using hy)
    obtain ⟨w, tw, rfl, _⟩ := vals_str r (i := i) (by rw [List.getElem?_eq_getElem hi, e1])
    exact eqs_ok w z tw t
  have at_ : ∀ m (hm : m < its.toArray.size), ∃ t', its.toArray[m] = .str (zs[m]'(by rw [List.size_toArray] at hm; omega)) t' := fun m hm => by
    have hm' : m < its.length := by simpa using hm
    obtain ⟨w, tw, ew, ez⟩ := vals_str r (i := m) (List.getElem?_eq_getElem hm')
    have hmz : m < zs.length := by omega
    rw [List.getElem?_eq_getElem hmz] at ez
    exact ⟨tw, by rw [Option.some.inj ez]; simpa using ew⟩
  refine call_meets PySem.F.slot_list_remove ⟨_, e, rfl⟩ PySem.F.entry_list_remove (PySem.F.args_list_remove_2 _ _) (MeetsSeq.list_remove l its.toArray n (.str z t) (eqs z) each j hjl ?_ ?_ (by rw [List.size_toArray]; omega)) ⟨e, ?_⟩
  · obtain ⟨t', et⟩ := at_ j hjl
    rw [List.getElem?_eq_getElem hjn] at hj
    rw [et, Option.some.inj hj]
    exact beq_self_eq_true z
  · intro m hm hmj
    obtain ⟨t', et⟩ := at_ m hm
    rw [et]
    refine beq_eq_false_iff_ne.mpr fun e2 => hno m hmj ?_
    rw [← e2]
    exact List.getElem?_eq_getElem _
  · have rr := r.eraseIdx j
    rw [erase_mapS] at rr
    refine ⟨.non, _, I.lset (its' := its.eraseIdx j) (t' := s.toks) hH e ?_ rr ?_, rfl, q⟩
    · show its.toArray.eraseIdxIfInBounds j = (its.eraseIdx j).toArray
      rw [List.eraseIdxIfInBounds_toArray]
    · have := List.length_eraseIdx_le zs j
      rw [List.length_map]
      omega
/-! ### repr of data, nothing being shown -/
def rReprD (K : PySem.W.Frag) : List V → Hp → VK → Prop := fun xs H Q => ∃ (a : Addr) (d : PyData), xs = [.ref a] ∧ Dp K H (.ref a) d ∧ d.showable = true ∧ d.hasDict = false ∧ d.depth ≤ 60 ∧ d.shown.length ≤ sizeLine ∧ Q (.str d.shown) H
theorem call_reprD {X : Cx} (gd : X.A.guards = some [] ∧ X.A.units + 64 < cLine) : CallR X (.builtin "repr") (rReprD X.K) := by
  intro pins s σ H xs us Q I r h
  obtain ⟨a, d, rfl, hd, hs, hn, hp, hz, q⟩ := h
  obtain ⟨u, rfl, ru⟩ := vals1 r
  obtain ⟨as, rd⟩ := Dp.reads I d (.ref a) u hd ru
  cases (show u = Value.ref a from ru)
  refine repr_of_reads' rd hs (PyData.noDict_hsm hn) gd.1 (by omega) (fun _ _ e => e) (fun h' t tk hk => ⟨.str _, H, I.kept (t' := tk) hk, ⟨_, rfl⟩, q⟩) hz
/-! ### an own class made where what is raised is wished for at the slots -/
def tMakeS (C : Addr) (sp : Sp) (dvs : List V) (E : L2.St → XK) (t : TA) : TE := fun σ H Q => t σ H fun vs H1 => ∀ o d, H1 o = none → H1 d = none → d ≠ o → sp (.ref o :: (vs ++ dvs)) (upd (upd H1 d (.own o)) o (.ins C d [])) (fun v H2 => v = .non ∧ Q (.ref o) H2) (E σ)
section
variable {X : Cx} {CX : CXT} {k : Nat} {f C : Addr} {fd : FuncData} {ps : List Str} {sp : Sp} {dvs : List V} {ds : List Value} {E : L2.St → XK} {x : Str} {p pos : Pos} {e : Expr} {es : List Expr} {t : TA}
theorem pe_makeS (M : Mk X.K C f) (F : FnOk X.prog X.w X.K X.mg X.base CX k f fd ps sp) (hr : Room (k + 1) X.A) (hg : Gl X x) (hm : X.mg x = some (.ref C)) (hb : Binds X.K fd ps ds) (hd : Vals dvs ds) (hx : ∀ σ, PassesAt CX X σ (E σ)) (ha : PA X (e :: es) t)
    (hdb : (x == ("__debug__" : Str)) = false := by decide) (he : starEach (e :: es) X.env = (false, eval e X.env) :: starEach es X.env := by rfl) (hpl : (backTo pos (starEach es X.env)).any (·.1) = false := by rfl) :
    PE X (.Call (.Name x p) (e :: es) [] pos) (tMakeS C sp dvs E t) := by
  refine ⟨fun pins s σ H Q I h => wpAny_Call_Name_kw (ld_glob I hg hm ?_ hdb)⟩
  refine PySem.W.callWith_K (h₀ := X.base) I.ok.mod.kin M.kp (thn (ha.run pos pins s σ H _ I h) fun us s1 ⟨vs, H1, I1, r, q⟩ => ⟨I1.kIn, ?_⟩) he hpl
  have g0 : H1 (s1.heap.objs.size + 1) = none := I1.hok.fresh (Nat.le_succ _)
  have g1 : H1 s1.heap.objs.size = none := I1.hok.fresh (Nat.le_refl _)
  have todo := q _ _ g0 g1 (Nat.ne_of_lt (Nat.lt_succ_self _))
  have J := Inv.made (C := C) I1
  have rr : Vals (V.ref (s1.heap.objs.size + 1) :: (vs ++ dvs)) (Value.ref (s1.heap.objs.size + 1) :: (us ++ ds)) := .cons rfl (r.append hd)
  have many : (Value.ref (s1.heap.objs.size + 1) :: us ++ ds).length = ps.length := (rr.length.symm.trans (F.len _ _ _ _ todo))
  refine wpAny_call (make_map (f := f) I1.kIn M.makes M.init (beq_iff_eq.mp M.fn) (codeAny_mono (F.run _ X.stack _ _ ⟨_, []⟩ _ _ _ (E σ) (hr.make C us []) (J.env0.make C us []) (hb _ (Value.ref (s1.heap.objs.size + 1) :: us) J.kIn many) rr todo) fun
    | .error er, s2, z => hx σ pins _ _ er s2 J z
    | .ok (.ret u), s2, z => ?_
    | .ok .next, _, z => False.elim z
    | .ok .brk, _, z => False.elim z
    | .ok .cont, _, z => False.elim z))
  obtain ⟨v, H3, J3, rv, rfl, z3⟩ := J.after z
  exact ⟨rv, .ref (s1.heap.objs.size + 1), H3, J3, rfl, z3⟩
end
end My

set_option Elab.async false
set_option linter.all false
set_option maxRecDepth 100000
set_option maxHeartbeats 4000000
/-! ### defs that close over their class, and super().__init__(..) of an own error -/
namespace My
open PySem L2 NdefX
/-- a block whose activation is known -/
structure PSat (X : Cx) (c : Code) (body : List Stmt) (t : TS) : Prop where
  run : ∀ (pins : List (Addr × Obj)) (s : Shared) (σ : L2.St) (H : Hp) (D : Ends), Inv X pins σ H s → t D σ H → wpAt (model X.prog X.w) X.A c (execs body X.env) (SP X pins D) X.xe s
structure PSat1 (X : Cx) (c : Code) (st : Stmt) (t : TS) : Prop where
  run : ∀ (pins : List (Addr × Obj)) (s : Shared) (σ : L2.St) (H : Hp) (D : Ends), Inv X pins σ H s → t D σ H → wpAt (model X.prog X.w) X.A c (exec st X.env) (SP X pins D) X.xe s
theorem psat_of {X : Cx} {c : Code} {body : List Stmt} {t : TS} (h : PSs X body t) : PSat X c body t := ⟨fun pins s σ H D I q => wpAt_of_wpAny (h.run pins s σ H D I q)⟩
theorem psat_cons {X : Cx} {c : Code} {st : Stmt} {rest : List Stmt} {t u : TS} (h1 : PSat1 X c st t) (h2 : PSs X rest u) : PSat X c (st :: rest) (tSeq t u) := by
  refine ⟨fun pins s σ H D I q => ?_⟩
  refine PySem.ks_wpAt_execs_cons (wpAt_mono (h1.run pins s σ H { D with nx := u D } I q) (fun f s1 r => ?_) fun _ _ z => z)
  cases f with
  | next =>
    obtain ⟨σ', H', I', r⟩ := r
    exact wpAt_of_wpAny (h2.run pins s1 σ' H' D I' r)
  | brk => exact r
  | cont => exact r
  | ret u => exact r
/-- the words of a def that closes over its class -/
def nfOf (x qual : Str) (st : Stmt) (cc cda : Addr) : NF := ⟨x, qual, defArgs st, defBody st, defScope st, [("__class__", cc)], cda⟩
structure FunX (K : PySem.W.Frag) (x qual : Str) (st : Stmt) (f : Addr) (fd : FuncData) (cc cda D : Addr) : Prop where
  ex : ∃ (oc : Value) (od : Option Addr) (kV doc pm : Value) (an : Option Addr) (ct : Value) (osl : Array (Option Value)),
    fd = PySem.W.fnX x qual (defArgs st) (defBody st) (defScope st) [("__class__", cc)] .none kV doc pm an (.ref cda) ct ∧ K.lookup f = some ⟨oc, od, .func fd, osl⟩ ∧ PySem.W.codeIn K (.ref cda) qual = true
  cell : ∃ (cl : Value) (cld : Option Addr) (csl : Array (Option Value)), K.lookup cc = some ⟨cl, cld, .cell (some (.ref D)), csl⟩
  kp : PySem.W.keepIn K (.ref f) = true
section
variable {P : Program} {w : World} {K : PySem.W.Frag} {mg : Str → Option Value} {base : Heap}
abbrev cxX (CX : CXT) (P : Program) (w : World) (K : PySem.W.Frag) (mg : Str → Option Value) (base : Heap) (N : List Str) (x qual : Str) (st : Stmt) (cc cda f : Addr) (A : Around) (outer : List Env) (s : Shared) (H : Hp) (E : XK) : Cx := ncx CX P w K mg base N (nfOf x qual st cc cda) f A outer s H E
theorem FunX.ok {CX : CXT} {x qual : Str} {st : Stmt} {f cc cda D : Addr} {fd : FuncData} {N ps : List Str} {k : Nat} {sp : Sp} (F : FunX K x qual st f fd cc cda D) (S : NScope N ps ["__class__"] (defScope st)) (len : ∀ vs H Q E, sp vs H Q E → vs.length = ps.length)
    (hbody : ∀ (A : Around) (outer : List Env) (s : Shared) (H : Hp) (vs : List V) (Q : VK) (E : XK), Room k (A.deeper (envF (nfOf x qual st cc cda) f s.heap.objs.size)) → sp vs H Q E →
      ∃ t, PSat (cxX CX P w K mg base N x qual st cc cda f A outer s H E) (.func (defBody st) (envF (nfOf x qual st cc cda) f s.heap.objs.size)) (defBody st) t ∧ t { nx := fun _ H' => Q .non H', rt := Q } (startF N vs [some (.ref D)]) H) :
    FnOk P w K mg base CX (k + 1) f fd ps sp := by
  obtain ⟨oc, od, kV, doc, pm, an, ct, osl, rfl, lk, hcd⟩ := F.ex
  obtain ⟨cl, cld, csl, hcc⟩ := F.cell
  refine ⟨len, fun A outer s H args us vs Q E hr e0 hb r hsp => ?_⟩
  have hl := len _ _ _ _ hsp
  have KX : K.In s.heap := e0.mod.kin.keeps fun b o e => (e0.bs b o e).1
  have lim : s.heap.NoLimit := e0.mod.nolimit.keeps fun b o e => (e0.bs b o e).1
  have hcB := e0.mod.kin _ _ hcc
  have C : CellsAt (nfOf x qual st cc cda).cl ["__class__"] [some (.ref D)] s.heap H := by
    refine ⟨rfl, fun y c e => ?_, fun a b c e1 e2 => ?_, fun i y e => ?_⟩
    · have e' : (if y = ("__class__" : Str) then some cc else none) = some c := by
        rw [← e]
        show _ = List.lookup y [(("__class__" : Str), cc)]
        rw [List.lookup_cons, List.lookup_nil]
        by_cases h : y = ("__class__" : Str)
        · rw [if_pos h, beq_iff_eq.mpr h]
        · rw [if_neg h, beq_eq_false_iff_ne.mpr h]
      split at e'
      · cases e'
        exact ⟨(e0.bs _ _ hcB).2, _, _, KX _ _ hcc, rfl⟩
      · cases e'
    · have g : ∀ (y : Str) (d : Addr), List.lookup y [(("__class__" : Str), cc)] = some d → y = "__class__" := by
        intro y d e
        rw [List.lookup_cons, List.lookup_nil] at e
        by_cases h : y = ("__class__" : Str)
        · exact h
        · rw [beq_eq_false_iff_ne.mpr h] at e
          cases e
      exact (g a c e1).trans (g b c e2).symm
    · match i, e with
      | 0, e =>
        have ey : y = "__class__" := (Option.some.inj e).symm
        subst ey
        exact ⟨cc, rfl, fun v hv => ⟨.ref D, by cases hv; rfl, _, KX _ _ hcc, rfl⟩⟩
      | i + 1, e => cases e
  refine PySem.ks_codeAny_call_defAt (fd := PySem.W.fnX x qual (defArgs st) (defBody st) (defScope st) [("__class__", cc)] .none kV doc pm an (.ref cda) ct) (body := defBody st) (binds := ps.zip us) hr.depth (KX _ _ lk) rfl lim (PySem.W.codeRec_of KX hcd) rfl hb S.nocell (fun ⟨n, v⟩ hy => S.par n (List.of_mem_zip hy).1) (fun h₁ hns kp => ?_) S.co S.gen S.kind
  obtain ⟨t, ht, hq⟩ := hbody A outer s H vs Q E (hr.deeper _) hsp
  have I : Inv (cxX CX P w K mg base N x qual st cc cda f A outer s H E) [] (startF N vs [some (.ref D)]) H { s with heap := h₁, toks := s.toks + (ps.zip us).length } := inv_startN S hr.hd e0 hl r C hns kp
  refine wpAt_mono (ht.run [] _ (startF N vs [some (.ref D)]) H _ I hq) (fun fl s' hs => ?_) fun e s' hs => hs
  have fin : ∀ {σ' : L2.St} {H' : Hp} {v : V} {u : Value}, Inv (cxX CX P w K mg base N x qual st cc cda f A outer s H E) [] σ' H' s' → L2.RelV v u → Q v H' → CE outer P w H s Q u s' :=
    fun {σ' H' v u} J rv q => ⟨v, H', J.os, J.bare, J.base, J.hok, rv, q⟩
  cases fl with
  | ret u =>
    obtain ⟨v, σ', H', J, rv, q⟩ := hs
    exact fin J rv q
  | next =>
    obtain ⟨σ', H', J, q⟩ := hs
    exact fin (v := V.non) (u := Value.none) J rfl q
  | brk =>
    obtain ⟨_, _, _, q⟩ := hs
    exact False.elim q
  | cont =>
    obtain ⟨_, _, _, q⟩ := hs
    exact False.elim q
end

/-! ### super().__init__(e) -/
/-- what the written part says of an own error that is made by an __init__ of its own: OexC, its place in the chain -/
structure ErrC (K : PySem.W.Frag) (C : Addr) : Prop where
  ox : OexC K C
  sup : PySem.W.ks_superIn K C C "__init__" = some (some (.builtin "ValueError.__init__"))
  isV : PySem.W.subIn K (.ref C) (.type "ValueError") = some true
  opq : PySem.W.nsIn K cStatics "thirdparty.any" = some none
  me : PySem.W.mroIn K C (.ref C) = some true
/-- what the code object of the def tells -/
structure CodeF (K : PySem.W.Frag) (P : Program) (cda : Addr) : Prop where
  at_ : ∃ (ccl : Value) (cdd : Option Addr) (vs : Array Value) (ccs : Array (Option Value)) (file : Str) (tf : Tok), K.lookup cda = some ⟨ccl, cdd, .fields vs, ccs⟩ ∧ vs[2]? = some (.str file tf) ∧ ((P.main.file : Str) == file) = true
  noTop : (P.main.scope.names.lookup ("super" : Str)).isSome = false
/-- the reading: the text is reckoned, nothing more -/
def tSupI (C : Addr) (ta : TA) : TS := fun D σ H => ∃ a : Addr, σ[0]? = some (some (.ref a)) ∧ H a = some (exo a C none) ∧ ta σ H fun vs H1 => vs.length ≤ 1000 ∧ H1 a = some (exo a C none) ∧ D.nx σ H1
section
variable {X : Cx}
theorem psat_sup {body : List Stmt} {f cc cda C : Addr} {fd : FuncData} {oc : Value} {od : Option Addr} {osl : Array (Option Value)} {cl : Value} {cld : Option Addr} {csl : Array (Option Value)} {ar : Arg} {e : Expr} {es : List Expr} {ta : TA} {p0 p1 apos cpos pos : Pos} {pl : Sem Bool}
    (T : ErrC X.K C) (G : CodeF X.K X.prog cda)
    (hf : X.K.lookup f = some ⟨oc, od, .func fd, osl⟩) (hp : (fd.params.posonlyargs ++ fd.params.args).head? = some ar)
    (hcell : X.K.lookup cc = some ⟨cl, cld, .cell (some (.ref C)), csl⟩) (hsuper : X.mg "super" = none)
    (hfu : X.env.func = some f) (hco : X.env.code = .ref cda) (hcl : X.env.cells.lookup ("__class__" : Str) = some cc)
    (hks : X.env.scope.names.lookup ("super" : Str) = some .globalImplicit) (hkc : X.env.scope.names.lookup ("__class__" : Str) = some .free) (hka : X.env.scope.names.lookup ar.arg = some .local)
    (hN : X.N[0]? = some ar.arg) (ha : PA X (e :: es) ta)
    (hev : eval (.Call (.Attribute (.Call (.Name "super" p0) [] [] p1) "__init__" apos) (e :: es) [] cpos) X.env = (do
      let ov ← attributeBase (.Call (.Name "super" p0) [] [] p1) "__init__" X.env (eval (.Call (.Name "super" p0) [] [] p1) X.env)
      standAt apos.atName
      let (f, first) ← holding [ov] (getMethod ov "__init__" pl)
      callWith cpos f first (backTo cpos (starEach (e :: es) X.env)) []))
    (hst : starEach (e :: es) X.env = (false, eval e X.env) :: starEach es X.env) (hpl : (backTo cpos (starEach es X.env)).any (·.1) = false)
    (hsw : swapsWith (.Call (.Attribute (.Call (.Name "super" p0) [] [] p1) "__init__" apos) (e :: es) [] cpos) none pos.line X.env = pure false) (hint : interactive X.env = false) :
    PSat1 X (.func body X.env) (.Expr (.Call (.Attribute (.Call (.Name "super" p0) [] [] p1) "__init__" apos) (e :: es) [] cpos) pos) (tSupI C ta) := by
  refine ⟨fun pins s σ H D I h => ?_⟩
  obtain ⟨a, hσ, ea, q⟩ := h
  obtain ⟨ccl, cdd, vs, ccs, file, tf, hcode, hvs, hfile⟩ := G.at_
  obtain ⟨nm, qn, N, bs, bm, sn, sub, ab, col, dd, k0, k1, k2, k3, k5, hC, hbm⟩ := T.ox.cls
  have hcls : PySem.W.clsIn X.K C = some { name := nm, bases := bs, mro := .ref C :: bm, ns := N, qualname := qn, hasDict := true, slotNames := sn, subclasses := sub, abstract := ab, collection := col, hasDel := false } := by unfold PySem.W.clsIn; rw [hC] <;> rfl
  obtain ⟨t1, ho⟩ := exo_at I.hok ea
  obtain ⟨hh, g, d, t, os⟩ := s
  have XK := I.kIn
  obtain ⟨mb, hb1, hb2⟩ := I.mod.blt
  obtain ⟨m, hn, hl⟩ := id I.loc
  obtain ⟨u0, ru0, lk0⟩ := hl 0 ar.arg (.ref a) hN hσ (.inl hka)
  obtain rfl : u0 = Value.ref a := ru0
  have hv : m ar.arg = some (Value.ref a) := by
    rcases lk0 with ⟨_, e⟩ | ⟨z, _⟩
    · exact e
    · exfalso
      rcases z with z | z
      · have z' : X.env.scope.names.lookup ar.arg = some .cell := z
        rw [hka] at z'; cases z'
      · have z' : X.env.scope.names.lookup ar.arg = some .free := z
        rw [hka] at z'; cases z'
  refine PySem.ks_wpAt_Expr_any (PySem.ks_wpAt_MethodCall ?_ hev) hint hsw
  refine PySem.ks_wpAt_super_base (env := X.env) hks hkc (by decide) hfu (XK _ _ hf) rfl hp hco (XK _ _ hcode) rfl hvs hfile G.noTop ?_
  refine PySem.W.ks_loadName_global I.ok.kind hks (PySem.Calls.loadGlobal_builtin (by rw [I.ok.glob]; exact I.mod.glob.keeps I.bk) hsuper (by rw [I.ok.blt]; exact hb1.keeps I.bk) ((hb2 "super" (by decide)).trans (by decide +kernel)) ⟨rfl, ?_⟩)
  refine wpAny_loadName_free I.ok.kind hkc hcl ⟨_, XK _ _ hcell, rfl⟩ ?_
  refine wpAny_loadName_local I.ok.kind hka hn hv ?_
  refine ks_wpAny_isType_cls (XK _ _ hC) rfl ⟨rfl, ?_⟩
  refine ks_wpAny_call_super (XK _ _ hC) rfl ho rfl (fun c z => nomatch z) (PySem.W.looks_mroIn XK T.me) (fun h' e1 k1' => ?_)
  have I1 : Inv X pins σ H ⟨h', g, d, t, os⟩ := I.kept (t' := t) k1'
  have X1 := I1.kIn
  have ho1 := k1' _ _ ho
  have IA : PySem.W.InstAt h' a _ C none := ⟨ho1, rfl, rfl, trivial⟩
  refine PySem.W.kxs_getMethod PySem.W.kxs_ValueError e1 (PySem.W.looks_opaque X1 T.opq) (l₀ := .ref C :: bm) ?_ rfl X1 ?_ (IA.type.andThen (PySem.W.looks_subIn X1 T.isV)) (PySem.W.ks_ne X1 IA hcls) (by decide) ?_
  · exact fun A Q E s k q => wpAny_bind ((PySem.W.looks_clsIn X1 hcls) A _ E s k (wpAny_pure q))
  · have q1 := T.sup
    unfold PySem.W.ks_superIn at q1
    rw [hcls] at q1
    exact q1
  have I2 : Inv X pins σ H ⟨h'.push (PySem.W.kxs_mw "ValueError.__init__" a), g, d, t + 1, os⟩ := I1.kept (t' := t + 1) (fun b o z => Heap.get?_push_of_some _ z)
  have hu2 : (h'.push (PySem.W.kxs_mw "ValueError.__init__" a)).get? h'.objs.size = some (PySem.W.kxs_mw "ValueError.__init__" a) := Heap.get?_push_size _ rfl
  have hHu : H h'.objs.size = none := I1.hok.fresh (Nat.le_refl _)
  have J2 : Inv X ((h'.objs.size, PySem.W.kxs_mw "ValueError.__init__" a) :: pins) σ H ⟨h'.push (PySem.W.kxs_mw "ValueError.__init__" a), g, d, t + 1, os⟩ := by
    refine I2.pins_of fun p hp => ?_
    rcases List.mem_cons.mp hp with rfl | hp
    · exact ⟨hu2, hHu, Nat.ne_of_gt I1.lt, I1.nofs (Nat.le_refl _), fun v z => nomatch z⟩
    · exact I2.pin p (List.mem_append_right _ hp)
  have key : wpAny (model X.prog X.w) X.A (spliced (backTo cpos (starEach (e :: es) X.env))) (fun vs s₁ => PySem.W.KxsAt "ValueError.__init__" h'.objs.size a s₁.heap ∧ wpAny (model X.prog X.w) X.A (call (.ref h'.objs.size) vs) (fun _ => SP X pins D .next) X.xe s₁) X.xe ⟨h'.push (PySem.W.kxs_mw "ValueError.__init__" a), g, d, t + 1, os⟩ := by
    refine thn (ha.run cpos _ _ σ H _ J2 q) fun us s3 ⟨vs3, H1, I3, rv, hvl, ea1, qn⟩ => ?_
    have hu3 := (I3.pin (h'.objs.size, PySem.W.kxs_mw "ValueError.__init__" a) (List.mem_append_right _ List.mem_cons_self)).1
    refine ⟨hu3, ?_⟩
    have J3 : Inv X pins σ H1 s3 := I3.pins_of fun p hp => I3.pin p (List.mem_append_right _ (List.mem_cons_of_mem _ hp))
    obtain ⟨t2, ho3⟩ := exo_at J3.hok ea1
    have hus : us.length ≤ sizeLine := by
      rw [← Paired.length rv, sizeLine_eq]; omega
    have hC3 := J3.kIn _ _ hC
    obtain ⟨h3, g3, d3, tk3, os3⟩ := s3
    refine wpAny_call (codeAny_of_tree ?_)
    show wpAny _ X.A.in1 (callAny (.ref h'.objs.size) ⟨us, []⟩) _ _ _
    simp only [callAny]
    refine wpAny_bind (wpAny_load hu3 ?_)
    simp only [PySem.W.kxs_mw, show (Value.type "method-wrapper" == Value.type "method" || Value.type "method-wrapper" == Value.type "builtin_function_or_method" || Value.type "method-wrapper" == Value.type "method-wrapper") = true by decide, if_true]
    refine PySem.W.KFB.if_so (by decide) ?_
    refine wpAny_bind (PySem.W.check_bound_init F.excBase_ValueError.toExcCallFacts hC3 ho3 rfl ?_)
    refine wpAny_bind (wpAny_pure (wpAny_pure ?_))
    refine ⟨plainId_quiet F.excBase_ValueError.init.plain _, codeAny_builtin F.excBase_ValueError.initEntry ?_⟩
    refine PySem.W.exc_init_tree (cls := .ref C) (t0 := t2) (dv := none) (c2 := .none) (c3 := .none) (b4 := .bool false) ho3 hus fun h4 k4 hx4 ht4 => ?_
    have J := J3.write (t' := tk3) (x := a) (e := a) (o := exo a C none) (h' := h4) (by rw [ea1]; exact True.intro) (.inl rfl) k4 ⟨_, hx4⟩ (exo_ok hx4)
    have eu : upd H1 a (exo a C none) = H1 := by
      funext b
      by_cases hb : b = a
      · rw [hb, upd_same, ea1]
      · rw [upd_ne hb]
    rw [eu] at J
    exact ⟨σ, H1, J, qn⟩
  rw [hst] at key ⊢
  refine PySem.W.kxs_callWith (i := "ValueError.__init__") (x := a) (by show (false || (backTo cpos (starEach es X.env)).any (·.1)) = false; rw [hpl]; rfl) ?_
  exact PySem.Calls.evalArgs_plain key
end
end My

set_option Elab.async false
set_option linter.all false
set_option maxRecDepth 100000
set_option maxHeartbeats 4000000
/-! ### own errors: made, raised, caught, asked -/
namespace My
open PySem L2 NdefX
/-- __init__ of an error with one field: what it promises -/
def spErr1 (C : Addr) (f : Str) (P : V → Prop) : Sp := fun vs H Q _ => ∃ (a : Addr) (v : V), vs = [.ref a, v] ∧ P v ∧ H a = some (exo a C none) ∧ ∀ dx, H dx = none → dx ≠ a → Q .non (upd (upd H dx (exd dx [(f, v)])) a (exo a C (some dx)))
/-- .. with two fields -/
def spErr2 (C : Addr) (f g : Str) (P : V → V → Prop) : Sp := fun vs H Q _ => ∃ (a : Addr) (v u : V), vs = [.ref a, v, u] ∧ P v u ∧ H a = some (exo a C none) ∧ ∀ dx, H dx = none → dx ≠ a → Q .non (upd (upd (upd H dx (exd dx [(f, v)])) a (exo a C (some dx))) dx (exd dx [(g, u), (f, v)]))
theorem err_kp {H1 H2 : Hp} {a dx : Addr} {fs : List (Str × V)} (na : H1 a = none) (nd : H1 dx = none) (k : ∀ b, b ≠ a → b ≠ dx → H2 b = H1 b) : Kp [] H1 (upd (del H2 a) dx (.xd fs)) := fun b o _ e => by
  have h1 : b ≠ a := ne_of_none e na
  have h2 : b ≠ dx := ne_of_none e nd
  rw [upd_ne h2, del_ne h1, k b h1 h2]
  exact e
theorem err1_made {C : Addr} {f : Str} {P : V → Prop} {v : V} {H1 : Hp} {Q : XK} (hp : P v) (q : ∀ d H', H1 d = none → H' d = some (.xd [(f, v)]) → Kp [] H1 H' → Q (.ref C) (some d) H') :
    ([v] : List V).length ≤ 1000 ∧ ∀ a, H1 a = none → spErr1 C f P (.ref a :: ([v] ++ [])) (upd H1 a (exo a C none)) (fun v H2 => v = .non ∧ ∃ (d : Addr) (fs : List (Str × V)), H2 a = some (exo a C (some d)) ∧ H2 d = some (exd d fs) ∧ H1 d = none ∧ Q (.ref C) (some d) (upd (del H2 a) d (.xd fs))) (fun _ _ _ => False) := by
  refine ⟨by show 1 ≤ 1000; decide, fun a na => ⟨a, v, rfl, hp, upd_same, fun dx ndx hne => ?_⟩⟩
  rw [upd_ne hne] at ndx
  refine ⟨rfl, dx, _, upd_same, by rw [upd_ne hne]; exact upd_same, ndx, q dx _ ndx upd_same (err_kp na ndx fun b h1 h2 => ?_)⟩
  rw [upd_ne h1, upd_ne h2, upd_ne h1]
theorem err2_made {C : Addr} {f g : Str} {P : V → V → Prop} {v u : V} {H1 : Hp} {Q : XK} (hp : P v u) (q : ∀ d H', H1 d = none → H' d = some (.xd [(g, u), (f, v)]) → Kp [] H1 H' → Q (.ref C) (some d) H') :
    ([v, u] : List V).length ≤ 1000 ∧ ∀ a, H1 a = none → spErr2 C f g P (.ref a :: ([v, u] ++ [])) (upd H1 a (exo a C none)) (fun v H2 => v = .non ∧ ∃ (d : Addr) (fs : List (Str × V)), H2 a = some (exo a C (some d)) ∧ H2 d = some (exd d fs) ∧ H1 d = none ∧ Q (.ref C) (some d) (upd (del H2 a) d (.xd fs))) (fun _ _ _ => False) := by
  refine ⟨by show 2 ≤ 1000; decide, fun a na => ⟨a, v, u, rfl, hp, upd_same, fun dx ndx hne => ?_⟩⟩
  rw [upd_ne hne] at ndx
  refine ⟨rfl, dx, _, by rw [upd_ne hne.symm]; exact upd_same, upd_same, ndx, q dx _ ndx upd_same (err_kp na ndx fun b h1 h2 => ?_)⟩
  rw [upd_ne h2, upd_ne h1, upd_ne h2, upd_ne h1]
/-- what the written part says of an error class that is caught and asked -/
structure KitC (K : PySem.W.Frag) (C : Addr) : Prop where
  cl : (PySem.W.clsIn K C).isSome = true
  ga : PySem.W.findIn K (.ref C) "__getattribute__" = some (some (.builtin "BaseException.__getattribute__"))
  gg : PySem.W.findIn K (.ref C) "__getattr__" = some none
  bx : PySem.W.subIn K (.ref C) (.type "BaseException") = some true
  hc : PySem.W.findIn K (.ref C) "__class__" = some (some (.builtin "object.__class__"))
  hn : PySem.W.specialIn K (.builtin "object.__class__") "__get__" = some (some (.builtin "getset_descriptor.__get__"))
  ht : PySem.W.takesIn K (.builtin "object.__class__") = some true
  ob : PySem.W.mroIn K C (.type "object") = some true
/-- isinstance(e, c), e the error that the suite holds -/
def rIsX (K : PySem.W.Frag) (a : Addr) (cls : Value) (d : Option Addr) : List V → Hp → VK → Prop := fun xs H Q => ∃ (c : V) (cv : Value) (b : Bool) (D dd : Addr) (fs : List (Str × V)), xs = [.ref a, c] ∧ (∀ u, RelV c u → u = cv) ∧ cls = .ref D ∧ d = some dd ∧ H dd = some (.xd fs) ∧ KitC K D ∧ PySem.W.kitOne K (.ref D) cv = some b ∧ Q (.bl b) H
/-- .. a tuple of classes that was just laid -/
def rIsXT (K : PySem.W.Frag) (a : Addr) (cls : Value) (d : Option Addr) : List V → Hp → VK → Prop := fun xs H Q => ∃ (tp : Addr) (cs : List V) (us : List Value) (b : Bool) (D dd : Addr) (fs : List (Str × V)), xs = [.ref a, .ref tp] ∧ H tp = some (.tup cs) ∧ Paired ClsV cs us ∧ cls = .ref D ∧ d = some dd ∧ H dd = some (.xd fs) ∧ KitC K D ∧ PySem.W.kitAny K (.ref D) us = some b ∧ Q (.bl b) H
section
variable {X : Cx} {a : Addr} {oe : Obj} {cls : Value} {d : Option Addr} {pn : List (Addr × Obj)}
theorem inst_x {pins : List (Addr × Obj)} {s : Shared} {σ : L2.St} {H : Hp} {D dd : Addr} {fs : List (Str × V)} (I : Inv (X.suite a ((a, oe) :: pn)) pins σ H s) (hz : Zc (.ref D) (some dd) oe) (hf : ∃ vs, oe.data = .fields vs) (e : H dd = some (.xd fs)) : ∃ od, PySem.W.InstAt s.heap a oe D (some od) := by
  obtain ⟨ha, _⟩ := I.pin (a, oe) (List.mem_append_left _ List.mem_cons_self)
  obtain ⟨vs, hv⟩ := hf
  obtain ⟨mA, hns, _⟩ := (show ObjOk X.prog X.w H s.heap dd (.xd fs) from I.hok dd _ e)
  obtain ⟨od, ho, _⟩ := lookIn_ns hns
  exact ⟨od, ha, hz.1, by unfold PySem.W.notCls; rw [hv] <;> rfl, by rw [hz.2]; exact ho⟩
theorem call_isX (hz : Zc cls d oe) (hf : ∃ vs, oe.data = .fields vs) : CallR (X.suite a ((a, oe) :: pn)) (.builtin "isinstance") (rIsX X.K a cls d) := by
  intro pins s σ H xs us Q I r h
  obtain ⟨c, cv, b, D, dd, fs, rfl, hcv, rfl, rfl, ed, T, e, q⟩ := h
  obtain ⟨u1, u2, rfl, r1, r2⟩ := vals2 r
  cases (show u1 = Value.ref a from r1)
  cases hcv _ r2
  obtain ⟨od, J⟩ := inst_x I hz hf ed
  exact PySem.W.kia_one (PySem.W.kitx_exc T.cl T.ga T.gg T.bx T.hc T.hn T.ht T.ob) I.kIn J e (fun z => nomatch z) fun tk => ⟨.bl b, H, I.tok tk, rfl, q⟩
theorem call_isXT (hz : Zc cls d oe) (hf : ∃ vs, oe.data = .fields vs) : CallR (X.suite a ((a, oe) :: pn)) (.builtin "isinstance") (rIsXT X.K a cls d) := by
  intro pins s σ H xs us Q I r h
  obtain ⟨tp, cs, ws, b, D, dd, fs, rfl, hT, k, rfl, rfl, ed, T, e, q⟩ := h
  obtain ⟨u1, u2, rfl, r1, r2⟩ := vals2 r
  cases (show u1 = Value.ref a from r1)
  cases (show u2 = Value.ref tp from r2)
  obtain ⟨od, J⟩ := inst_x I hz hf ed
  obtain ⟨_, its, rv, o, h1, h2, n, h3⟩ := (show ObjOk X.prog X.w H s.heap tp (.tup cs) from I.hok tp _ hT)
  cases ClsV.all k rv
  obtain ⟨oc, od2, dt, sl⟩ := o
  simp only at h2 h3
  subst h2 h3
  exact PySem.W.kia_tup (PySem.W.kitx_exc T.cl T.ga T.gg T.bx T.hc T.hn T.ht T.ob) I.kIn J h1 e (fun z => nomatch z) fun tk => ⟨.bl b, H, I.tok tk, rfl, q⟩
end
end My

set_option Elab.async false
set_option linter.all false
set_option maxRecDepth 100000
set_option maxHeartbeats 4000000
/-! ### d.values() as a value, list(d.values()) -/
namespace My
open PySem L2 PySem.W
/-- at q: the view of the values of the dict at d -/
def viewO (q d : Addr) : HO := .ext fun h => h.get? q = some ({ cls := .type "dict_values", data := .fields #[.ref d] } : Obj)
theorem view_ok {P : Program} {w : World} {H : Hp} {h : Heap} {q d : Addr} (e : h.get? q = some ({ cls := .type "dict_values", data := .fields #[.ref d] } : Obj)) : ObjOk P w H h q (viewO q d) := ⟨e, ⟨_, e⟩, fun _ _ z k => k _ z⟩
theorem view_at {P : Program} {w : World} {H : Hp} {h : Heap} {q d : Addr} (ok : HOk P w H h) (e : H q = some (viewO q d)) : h.get? q = some ({ cls := .type "dict_values", data := .fields #[.ref d] } : Obj) := by
  have x : ObjOk P w H h q (.ext fun h => h.get? q = some ({ cls := .type "dict_values", data := .fields #[.ref d] } : Obj)) := ok q _ e
  exact x.1
def tVals (td : TE) : TE := fun σ H Q => td σ H fun x H1 => ∃ (a : Addr) (kvs : List (Key × V)), x = .ref a ∧ H1 a = some (.dK kvs) ∧ ∀ q, H1 q = none → Q (.ref q) (upd H1 q (viewO q a))
def rListV : List V → Hp → VK → Prop := fun xs H Q => ∃ (q a : Addr) (kvs : List (Key × V)), xs = [.ref q] ∧ H q = some (viewO q a) ∧ H a = some (.dK kvs) ∧ ∀ p, H p = none → Q (.ref p) (upd H p (.lst (kvs.map fun kv => kv.2)))
theorem vals_of : ∀ {kvs : List (Key × V)} {vs : List (Key × Value)} {us : List Value}, KV kvs vs → us.length = vs.length → (∀ (j : Nat) (v : Value), us[j]? = some v → ∃ k, vs[j]? = some (k, v)) → Vals (kvs.map fun kv => kv.2) us
  | [], [], [], _, _, _ => .nil
  | p :: r, q :: vs, u :: us, h, hl, e => by
    cases h with
    | cons h1 h2 =>
      obtain ⟨k, e1⟩ := e 0 u rfl
      have e1' : q = (k, u) := Option.some.inj e1
      subst e1'
      exact .cons h1.2 (vals_of h2 (by simpa using hl) fun j v z => e (j + 1) v z)
  | [], _ :: _, _, h, _, _ => by cases h
  | _ :: _, [], _, h, _, _ => by cases h
  | [], [], _ :: _, _, hl, _ => by cases hl
  | _ :: _, _ :: _, [], _, hl, _ => by cases hl
section
variable {X : Cx} {o : Expr} {td : TE} {apos cpos : Pos}
theorem pe_values (he : PE X o td) (hbase : attributeBase o "values" X.env (eval o X.env) = eval o X.env := by rfl) (hline : (apos.endLine == cpos.line) = true := by rfl) : PE X (.Call (.Attribute o "values" apos) [] [] cpos) (tVals td) := by
  refine ⟨fun pins s σ H Q I h => ?_⟩
  refine wpAny_Call_method (T := "dict") (id := "dict.values") hbase rfl hline F.plainAttrs_dict F.slot_dict_values F.type_dict_values (thn (he.run pins s σ H _ I h) fun u s1 ⟨x, H1, I1, rx, d, kvs, ex, hd, q⟩ => ?_)
  subst ex
  cases (show u = Value.ref d from rx)
  obtain ⟨_, hs, vs, rel, dof⟩ := dk_of I1.hok hd
  refine ⟨dof.typeIs, dof.mapOf.noDict, ?_⟩
  have got := Heap.get?_push_size s1.heap (o := ({ cls := .type "dict_values", data := .fields #[.ref d] } : Obj)) rfl
  have J : Inv X pins σ (upd H1 s1.heap.objs.size (viewO s1.heap.objs.size d)) { s1 with heap := s1.heap.push { cls := .type "dict_values", data := .fields #[.ref d] } } := I1.laid (t' := s1.toks) (fun b ob q => Heap.get?_push_of_some _ q) (Nat.le_refl _) (view_ok got)
  exact method_meetsIn F.slot_dict_values F.entry_dict_values rfl (PySem.evalArgs_none ⟨rfl, dof.typeIs, F.args_dict_values_1 _, _, meets_dict_values (mixKind X.prog X.w) d hs, ⟨vs, dof⟩, ⟨.ref s1.heap.objs.size, _, J, rfl, q _ (I1.hok.fresh (Nat.le_refl _))⟩⟩)
theorem call_listV (hcalm : X.calm = true) : CallR X (.type "list") rListV := by
  intro pins s σ H xs us Q I r h
  obtain ⟨v, a, kvs, rfl, hv, ha, q⟩ := h
  obtain ⟨u, rfl, rx⟩ := vals1 r
  cases (show u = Value.ref v from rx)
  obtain ⟨z, hs, vs, rel, dof⟩ := dk_of I.hok ha
  obtain ⟨es, ep, raw, sz, each⟩ := dof.raw
  have hl := KV.length rel
  refine PySem.W.kdl_call (KdlSrc.rawValues (r := v) (d := a) (es := es) (ep := ep)) (I.ok.hd hcalm) ⟨⟨_, view_at I.hok hv, rfl, rfl⟩, raw⟩ (by omega) fun h' tk acc c' hk hD hacc => ?_
  have av : Vals (kvs.map fun kv => kv.2) acc.toList := vals_of rel (by rw [Array.length_toList, hacc.1, sz]) fun j u ej => by
    rw [Array.getElem?_toList] at ej
    obtain ⟨hi, rfl⟩ := hacc.2 j u ej
    have hj : j < vs.length := by omega
    have e1 : vs[j]? = some (vs[j].1, vs[j].2) := List.getElem?_eq_getElem hj
    have e2 := (each j hi _ _ e1).2
    exact ⟨vs[j].1, by rw [e1, e2]⟩
  refine ⟨.ref s.heap.objs.size, upd H s.heap.objs.size (.lst (kvs.map fun kv => kv.2)), I.laid (t' := tk) hk (Nat.le_refl _) ?_, rfl, q _ (I.hok.fresh (Nat.le_refl _))⟩
  exact (show ObjOk X.prog X.w _ _ _ (.lst _) from ⟨by rw [List.length_map]; exact z, acc.toList, c', av, by rw [Array.toArray_toList]; exact hD⟩)
end
end My

set_option Elab.async false
set_option linter.all false
set_option maxRecDepth 100000
set_option maxHeartbeats 4000000
/-! ### an exception that leaves a list comprehension -/
namespace My
open PySem L2
theorem inv_xe {X : Cx} {pins : List (Addr × Obj)} {σ : L2.St} {H : Hp} {s : Shared} (xe' : Value → Shared → Prop) (I : Inv X pins σ H s) : Inv { X with xe := xe' } pins σ H s := by
  obtain ⟨ok, a, b, c, d, e, f, g, h, i, j⟩ := I
  obtain ⟨o1, o2, o3, o4, o5, o6, o7, o8, o9, o10, o11, o12, o13, o14, o15, o16, o17, o18⟩ := ok
  exact ⟨⟨o1, o2, o3, o4, o5, o6, o7, o8, o9, o10, o11, o12, o13, o14, o15, o16, o17, o18⟩, a, b, c, d, e, f, g, h, i, j⟩
theorem hide_ne {h : Heap} {C b : Addr} {o : Obj} (e : (PySem.W.hideAll h [C]).get? b = some o) : b ≠ C := fun z => by
  rw [z] at e
  have q := PySem.W.hideAll_none (h := h) [C] (b := C) (by simp)
  rw [q] at e
  exact nomatch e
section
variable {X : Cx} {pins : List (Addr × Obj)} {σ : L2.St} {H5 : Hp} {s5 s' : Shared} {E : XK} {C : Addr} {ce : Env} {m : Str → Option Value}
theorem out_of_block (tk : L2.Takes X (fun c d _ H => E c d H)) (hs : X.stack = X.env :: X.outer) (hf : X.env.frame = some X.env.locals) (I : Inv X pins σ H5 s5) (hc : ce.frame = X.env.frame) (hl : ce.locals = C) (F : FpOk X pins H5 C) (hn : s5.heap.Ns C m)
    {u : Value} (c : L2.CX X.prog X.w X.stack H5 s5 E u s') : notedBy (model X.prog X.w) X.A ce (CompFails (model X.prog X.w) X.A X.xe ce) u s' := by
  obtain ⟨a0, B0, H0', cls0, d0, e0, fl0, hok0, ub0, na0, os0, ag0, hE0⟩ := c
  have ubf := ub0.free
  have ubk := ub0.keep
  obtain ⟨f0, f1, f2, f3, f4, f5⟩ := F
  have hCs : C ∉ frs X.stack := fun h => by
    rcases List.mem_cons.mp (I.stkSub C h) with z | z
    · exact f1 z
    · exact f2 z
  obtain ⟨oC, es, ep, hoC, hdC, rC⟩ := hn
  have hBC : B0.get? C = some oC := ubk C oC hoC f0 hCs
  have hHC : H0' C = none := ubf C oC hoC f0
  have hsC : s'.heap.get? C = some oC := fl0.1 C oC hBC
  have nsC : s'.heap.Ns C m := ⟨oC, es, ep, hsC, hdC, rC⟩
  have x : L2.XE X (fun c d _ H => E c d H ∧ H C = none) u s' := L2.XE.of_call I (E := fun c d H => E c d H ∧ H C = none) (fun _ _ _ h => h) ⟨a0, B0, H0', cls0, d0, e0, fl0, hok0, ub0, na0, os0, ag0, hE0, hHC⟩
  obtain ⟨a, B, sI, pins2, σ2, H, cls, d, rfl, J, nb, up, sky, na, os, ag, hE, hHC2⟩ := x
  have J0 : Inv X [] σ2 H sI := J.unpinned
  have sne : ∀ b o, (PySem.W.hideAll sI.heap [C]).get? b = some o → b ≠ C ∧ sI.heap.get? b = some o := fun b o e => ⟨hide_ne e, PySem.W.of_hideAll _ e⟩
  have K1 : Inv X [] σ2 H { sI with heap := PySem.W.hideAll sI.heap [C] } := J0.turned (t' := sI.toks) (it := C) (fun b o hb e => PySem.W.hideAll_get _ e (by simpa using hb)) hHC2 f1 f3 f4 (fun p hp => f5 p (by
    rw [List.append_nil] at hp
    exact List.mem_append_left _ hp))
  have bne : ∀ b o, (PySem.W.hideAll B [C]).get? b = some o → b ≠ C ∧ B.get? b = some o := fun b o e => ⟨hide_ne e, PySem.W.of_hideAll _ e⟩
  have hfr : X.A.frames = some (X.env :: X.outer) := by rw [I.ok.frames, hs]
  -- what is behind the note
  have fin : ∀ h1, HandSPX.HeldZ B (X.env :: X.outer) a (Zc cls d) X.env.locals h1 → s'.heap.UpToSlots h1 → CompFails (model X.prog X.w) X.A X.xe ce (.ref a) { s' with heap := h1 } := by
    rintro h1 ⟨g1, g2, g3, g4⟩ up1
    obtain ⟨sl, eC⟩ := up1 C oC hsC fun vs q => by rw [hdC] at q; cases q
    refine ⟨m, by rw [hl]; exact ⟨_, es, ep, eC, hdC, rC⟩, fun h2 m2 hn2 sb => ?_⟩
    rw [hl] at hn2 sb
    have st2 : (PySem.W.hideAll B [C]).StaysIn h2 := fun b o e => by
      obtain ⟨z1, z2⟩ := bne b o e
      exact (sb.2 b z1).trans (g1 b o z2)
    have fl2 : h2.FunFrames (PySem.W.hideAll B [C]) (X.env :: X.outer) := funFrames_none (Heap.FunFrames.sameBut sb hn2 g3) fun L hL => by
      cases q : (PySem.W.hideAll B [C]).get? L with
      | none => rfl
      | some o =>
        have z := (g3.mem hL).1
        rw [(bne L o q).2] at z; cases z
    obtain ⟨oe, vs, T, oT, ts, he, hz, hd, h1', hnT, hTe, hT, hdT, h3⟩ := g4
    have naC : a ≠ C := fun z => by rw [z, eC] at he; cases he; rw [hdC] at hd; cases hd
    have nTC : T ≠ C := fun z => by rw [z, eC] at hT; cases hT; rw [hdC] at hdT; cases hdT
    have nul : ∀ b, B.get? b = none → (PySem.W.hideAll B [C]).get? b = none := fun b e => by
      cases q : (PySem.W.hideAll B [C]).get? b with
      | none => rfl
      | some o => rw [(bne b o q).2] at e; cases e
    have he2 : h2.get? a = some oe := (sb.2 a naC).trans he
    have hT2 : h2.get? T = some oT := (sb.2 T nTC).trans hT
    have tr2 : HandSPX.TracedZ h2 (PySem.W.hideAll B [C]) a (Zc cls d) (rawInt X.env.locals) := ⟨oe, vs, T, oT, ts, he2, hz, hd, h1', nul T hnT, hTe, hT2, hdT, h3⟩
    unfold passOn
    refine wpAny_bind (wpAny_field he2 hd h1' ?_)
    rw [if_neg (show ¬ ((Value.ref T == Value.none) = true) from by simp)]
    rw [hc, hf]
    refine wpAny_bind (HandSPX.setFlight_anyZ (fr := some X.env.locals) st2 fl2 tr2 fun h4 k1 k2 k3 k4 => wpAny_throw ?_)
    refine tk _ _ ⟨a, PySem.W.hideAll B [C], { sI with heap := PySem.W.hideAll sI.heap [C] }, [], σ2, H, cls, d, rfl, K1, fun b o e hb => ?_, fun b o e hnf => ?_, .inr (.inr ?_), na, os, ag, hE⟩
    · obtain ⟨z1, z2⟩ := sne b o e
      exact PySem.W.hideAll_get _ (nb b o z2 hb) (by simpa using z1)
    · obtain ⟨z1, z2⟩ := sne b o e
      obtain ⟨q1, e1⟩ := up b o z2 hnf
      obtain ⟨q2, e2⟩ := up1 b _ e1 hnf
      obtain ⟨q3, e3⟩ := k4 b _ ((sb.2 b z1).trans e2) hnf
      exact ⟨q3, e3⟩
    · rw [hs]
      exact ⟨k1, nul a g2, k2, k3⟩
  show wpAny (model X.prog X.w) X.A (noteFrame (.ref a) ce) _ _ s'
  rw [noteFrame_env _ hc]
  rw [hs] at sky
  rcases sky with ⟨hB, hn, hl, oe, vs, he, hz, hd, h1⟩ | fl | hh
  · exact HandSPX.look_newZ Zc.steady hfr hl hf he hB hn hd h1 hz fin
  · exact HandSPX.looks_onZ Zc.steady hfr hf fl fin
  · exact HandSPX.againZ hf hh.2.2.2 (fin s'.heap hh (Heap.UpToSlots.refl _))
end
/-- the block's context, with a wish for what leaves it -/
abbrev blkX (X : Cx) (xe' : Value → Shared → Prop) (s : Shared) (H : Hp) (scope : Scope) (ce : Env) (fp : List Addr) : Cx := { X.blk s H scope ce fp with xe := xe' }
section
variable {X : Cx} {E : XK} {elt tg iter : Expr} {scope : Scope} {own : List (Str × Nat)} {pos : Pos} {wi : TI} {g : TG} {te : TE}
/-- [elt for tg in iter], where elt may let an exception out that the def passes on; use: what becomes of the list -/
theorem lcX_core {pins : List (Addr × Obj)} {s : Shared} {σ : L2.St} {H : Hp} {Q : VK} {pos' : Pos} {use : Option (Value → Sem Unit)} {Qf : Value → Shared → Prop} (tk : L2.Takes X (fun c d _ H => E c d H)) (hst : X.stack = X.env :: X.outer) (hf : X.env.frame = some X.env.locals) (hc : X.calm = true) (hN : X.N.Nodup) (I : Inv X pins σ H s) (hi : PI X tg iter wi) (ok : BlkOk X.N X.env.scope scope own)
    (hg : ∀ (s : Shared) (H : Hp) (C : Addr) (cl : List (Str × Addr)) (fp : List Addr), PG (X.blk s H scope (compEnvC scope cl C X.env) fp) tg g)
    (he : ∀ (xe' : Value → Shared → Prop) (s : Shared) (H : Hp) (C : Addr) (cl : List (Str × Addr)) (fp : List Addr), Passes (L2.CX X.prog X.w) (blkX X xe' s H scope (compEnvC scope cl C X.env) fp) E → PE (blkX X xe' s H scope (compEnvC scope cl C X.env) fp) elt te)
    (hs : ∀ x, foldedSetIterable iter X.env x = pure x) (h : tLc wi g tYes te (own.map (·.2)) σ H Q)
    (hRR : ∀ D C ce s' m H', Inv X pins σ H' s' → Q (.ref D) H' → s'.heap.Ns C m → FpOk X pins H' C → Env.locals ce = C → compEnds (model X.prog X.w) X.A X.xe use Qf (.ref D) ce (.ok .next) s') :
    wpAny (model X.prog X.w) X.A (comprehension (.ListComp elt [⟨tg, iter, [], 0⟩] scope pos) scope X.env pos' (newList []) false (eval iter X.env) use) Qf X.xe s := by
  have hfree : ∀ y ∈ scope.names, y.2 = .free → ∃ c, X.env.cells.lookup y.1 = some c := fun y hy e => I.ok.has _ (ok.free y hy e)
  refine comprehension_at (use := use) rfl hs (closure_ok hfree) ok.kind (fun y hy e => by rw [ok.uniq y hy, e]) (thn (hi.run pins s σ H _ I h) fun xv s1 hx => thn hx fun itv s2 h2 => ?_)
  obtain ⟨it, fp, tn, J, H2, rfl, I2, T, st2, f2, q⟩ := h2
  refine wpAny_newObj_type (newEnv_comp ?_) (by show 0 ≤ sizeLine; decide)
  -- the new list's address, and the state with it
  have hDn : H2 s2.heap.objs.size = none := I2.hok.fresh (Nat.le_refl _)
  obtain ⟨W, ⟨m0, w0⟩, turn⟩ := q _ hDn
  have I3 : Inv X pins σ (upd H2 s2.heap.objs.size (.lst [])) { s2 with heap := s2.heap.push { cls := .type "list", data := .seq ([] : List Value).toArray } } := by
    refine I2.laid (t' := s2.toks) (fun b o e => Heap.get?_push_of_some _ e) (Nat.le_refl _) ⟨Nat.zero_le _, [], 0, .nil, ?_⟩
    exact Heap.get?_push_size _ rfl
  have f3 : ∀ b ∈ fp, FpOk X pins (upd H2 s2.heap.objs.size (.lst [])) b ∧ b < (s2.heap.push { cls := .type "list", data := .seq ([] : List Value).toArray }).objs.size := fun b hb => by
    obtain ⟨o, e, _⟩ := T.obj _ _ st2 b hb
    have hlt := Heap.lt_size e
    refine ⟨⟨?_, (f2 b hb).2⟩, by rw [Heap.size_push]; exact Nat.lt_succ_of_lt hlt⟩
    rw [upd_ne (Nat.ne_of_lt hlt)]
    exact (f2 b hb).1
  have st3 : tn 0 (s2.heap.push { cls := .type "list", data := .seq ([] : List Value).toArray }) := T.keep _ _ _ st2 fun b _ o e => Heap.get?_push_of_some _ e
  have I4 := block_start I3 ok hN f3
  generalize hs3 : ({ s2 with heap := s2.heap.push { cls := .type "list", data := .seq ([] : List Value).toArray } } : Shared) = s3 at I3 I4
  have h3 : s2.heap.push { cls := .type "list", data := .seq ([] : List Value).toArray } = s3.heap := by rw [← hs3]
  rw [h3] at f3 st3
  generalize hD : s2.heap.objs.size = D at *
  generalize hH3 : upd H2 D (.lst []) = H3 at *
  generalize hcl : cellsFrom (s3.heap.objs.size + 1) scope.names (cloFrom X.env.cells scope.names []) = cl at *
  have hlo : (compEnvC scope cl s3.heap.objs.size X.env).locals = s3.heap.objs.size := rfl
  have hfr : (compEnvC scope cl s3.heap.objs.size X.env).frame = X.env.frame := rfl
  show codeAny _ _ (.compStart (.ListComp elt [⟨tg, iter, [], 0⟩] scope pos) 0 (.ref it) (.ref D) (compEnvC scope cl s3.heap.objs.size X.env)) (compEnds (model X.prog X.w) X.A X.xe use Qf (.ref D) (compEnvC scope cl s3.heap.objs.size X.env)) _
  have pg := hg s3 H3 s3.heap.objs.size cl fp
  have pe := he (fun u s' => notedBy (model X.prog X.w) X.A (compEnvC scope cl s3.heap.objs.size X.env) (CompFails (model X.prog X.w) X.A X.xe (compEnvC scope cl s3.heap.objs.size X.env)) u s') s3 H3 s3.heap.objs.size cl fp
  generalize hce : compEnvC scope cl s3.heap.objs.size X.env = ce at *
  generalize hs4 : ({ s3 with heap := pushCells (s3.heap.push { cls := .type "dict", data := .dict #[] }) scope.names } : Shared) = s4 at *
  have st4 : tn 0 s4.heap := T.keep _ _ _ st3 fun b _ o e => by rw [← hs4]; exact pushCells_keeps _ _ _ _ (Heap.get?_push_of_some _ e)
  have nfp : ∀ b ∈ fp, H3 b = none := fun b hb => (f3 b hb).1.1
  -- out of the block, back in the def's context
  have back : ∀ {σ' : L2.St} {pins' : List (Addr × Obj)} {H' : Hp} {s' : Shared}, Inv (X.blk s3 H3 scope ce fp) pins' σ' H' s' → Inv X pins σ H' s' ∧ FpOk X pins H' s3.heap.objs.size ∧ ∃ m, s'.heap.Ns s3.heap.objs.size m := fun {σ' pins' H' s'} I' => by
    have nC : H' s3.heap.objs.size = none := by
      have z : H' ce.locals = none := I'.free
      rw [hlo] at z
      exact z
    obtain ⟨m, hn, _⟩ := I'.loc
    have hn : s'.heap.Ns ce.locals m := hn
    rw [hlo] at hn
    exact ⟨I3.call' (ch := fp) I'.os I'.base I'.hok I'.bare fun b hb => ⟨(f3 b hb).1.2.2.2.1, (f3 b hb).1.2.1, (f3 b hb).1.2.2.2.2.1, (f3 b hb).1.2.2.2.2.2⟩, I3.fpOk (Nat.le_refl _) nC, m, hn⟩
  have pe := pe fun pins' σ' H' s' u s'' I' c => by
    have I'' : Inv (X.blk s3 H3 scope ce fp) pins' σ' H' s' := inv_xe (fun _ _ => False) I'
    obtain ⟨b1, b2, m, b3⟩ := back I''
    exact out_of_block tk hst hf b1 hfr hlo b2 b3 c
  have stat : ∀ {σ' : L2.St} {H' : Hp} {s' : Shared}, Inv (X.blk s3 H3 scope ce fp) [] σ' H' s' → (∀ b ∈ fp, H' b = none) → ∀ b ∈ fp, FpOk (X.blk s3 H3 scope ce fp) [] H' b := fun {σ' H' s'} I' hn b hb =>
    ⟨hn b hb, (I'.ok.exf b hb).1, I'.ok.exfs b hb, .inl hb, fun x c e => (I'.ok.exf b hb).2 x c e, fun p hp => absurd (show p ∈ ([] : List (Addr × Obj)) ++ [] from hp) (by simp)⟩
  have loop : codeAny (model X.prog X.w) X.A (.compLoop (.ListComp elt [⟨tg, iter, [], 0⟩] scope pos) 0 (.ref it) (.ref D) ce) (compEnds (model X.prog X.w) X.A X.xe use Qf (.ref D) ce) s4 := by
    refine compLoop_any (fun n s' => ∃ i H', Inv (X.blk s3 H3 scope ce fp) [] (wipe σ (own.map (·.2))) H' s' ∧ tn i s'.heap ∧ (∀ b ∈ fp, H' b = none) ∧ W i n H') ?_ m0 ⟨0, H3, I4, st4, nfp, w0⟩
    rintro n s5 ⟨i, H5, I5, st5, n5, w5⟩
    rcases turn i n H5 w5 with ⟨stop, qq⟩ | ⟨go, Nx, hNx, step⟩
    · have td := T.done (X.blk s3 H3 scope ce fp) rfl rfl rfl hc i [] s5 _ H5 (fun _ _ => False) I5 (stat I5 n5) st5 stop
      refine thnF td fun r s6 ⟨hr, I6⟩ => ?_
      subst hr
      obtain ⟨b1, b2, m, hn⟩ := back I6
      exact hRR D _ ce s6 m H5 b1 qq hn b2 hlo
    · have ti := T.item (X.blk s3 H3 scope ce fp) rfl rfl rfl hc i [] s5 _ H5 (fun _ _ => False) I5 (stat I5 n5) st5 go
      refine thnF ti fun r s6 ⟨u, hr, h6⟩ => ?_
      subst hr
      refine thnF h6 fun _ s7 ⟨x, H7, I7, r7, y7, st7, n7⟩ => ?_
      have I7' := I7.pinned (stat I7 n7) (T.obj _ _ st7)
      refine thnF (pg.run _ s7 _ H7 x u _ I7' r7 (step x H7 y7)) fun _ s8 ⟨σ8, H8, I8, hw8, q8⟩ => ?_
      refine wpAny_tests_nil ?_
      have q8 : te σ8 H8 fun y H4 => ∃ acc, H4 D = some (HO.lst acc) ∧ acc.length < sizeLine ∧ Nx (upd H4 D (HO.lst (acc ++ [y]))) := by
        have z := q8
        simp only [tYes, if_true] at z
        exact z
      show wpAny _ _ _ _ _ _
      refine wpAny_mono (pe.run _ s8 σ8 H8 _ (inv_xe _ I8) q8) (fun z s10 ⟨yv, H10, I10, r10, acc, hD10, hz10, nx⟩ => ?_) fun _ _ z => by cases use <;> exact z
      have I10 : Inv (X.blk s3 H3 scope ce fp) _ σ8 H10 s10 := inv_xe (fun _ _ => False) I10
      refine app_ok (X := X.blk s3 H3 scope ce fp) I10 hD10 hz10 r10 fun s11 I11 => ?_
      obtain ⟨m', hm, w'⟩ := hNx _ nx
      have pin' : ∀ b ∈ fp, ∀ o, s7.heap.get? b = some o → s11.heap.get? b = some o ∧ (upd H10 D (.lst (acc ++ [yv]))) b = none := fun b hb o e =>
        let z := I11.pin (b, o) (List.mem_append_right _ (List.mem_append_right _ (mem_pinsAt hb e)))
        ⟨z.1, z.2.1⟩
      have hl : (wipe σ (own.map (·.2))).length = σ8.length := by rw [← hw8, wipe_length]
      refine ⟨m', hm, i + 1, _, (I11.unpinned (pins := [])).weak hl (fun j v e => ?_), T.keep _ _ _ st7 fun b hb o e => (pin' b hb o e).1, fun b hb => ?_, w'⟩
      · rw [← hw8] at e
        exact (wipe_some e).1
      · obtain ⟨o, e, _⟩ := T.obj _ _ st7 b hb
        exact (pin' b hb o e).2
  exact codeAny_compStart_list loop (T.self X.A 0 _ _ _ st4 loop)
/-- as a value -/
theorem pe_lcX (tk : L2.Takes X (fun c d _ H => E c d H)) (hst : X.stack = X.env :: X.outer) (hf : X.env.frame = some X.env.locals) (hc : X.calm = true) (hN : X.N.Nodup) (hi : PI X tg iter wi) (ok : BlkOk X.N X.env.scope scope own)
    (hg : ∀ (s : Shared) (H : Hp) (C : Addr) (cl : List (Str × Addr)) (fp : List Addr), PG (X.blk s H scope (compEnvC scope cl C X.env) fp) tg g)
    (he : ∀ (xe' : Value → Shared → Prop) (s : Shared) (H : Hp) (C : Addr) (cl : List (Str × Addr)) (fp : List Addr), Passes (L2.CX X.prog X.w) (blkX X xe' s H scope (compEnvC scope cl C X.env) fp) E → PE (blkX X xe' s H scope (compEnvC scope cl C X.env) fp) elt te)
    (hs : ∀ x, foldedSetIterable iter X.env x = pure x := by intro _; rfl) : PE X (.ListComp elt [⟨tg, iter, [], 0⟩] scope pos) (tLc wi g tYes te (own.map (·.2))) := by
  refine ⟨fun pins s σ H Q I h => ?_⟩
  rw [eval_ListComp]
  refine lcX_core (E := E) tk hst hf hc hN I hi ok hg he hs h fun D C ce s' m H' I' q hn f hl => ⟨m, by rw [hl]; exact hn, fun h'' sb => ?_⟩
  rw [hl] at sb
  obtain ⟨f0, f1, f2, f3, f4, f5⟩ := f
  exact ⟨.ref D, H', I'.turned (t' := s'.toks) (fun b o hb e => (sb.2 b hb).trans e) f0 f1 f3 f4 f5, rfl, q⟩
/-- name = [..] on one line, the name a local -/
theorem ps_setLcX {i : Nat} {y : Str} {py spos : Pos} (tk : L2.Takes X (fun c d _ H => E c d H)) (hst : X.stack = X.env :: X.outer) (hf : X.env.frame = some X.env.locals) (hc : X.calm = true) (hN : X.N.Nodup) (hy : X.N[i]? = some y) (hyl : X.env.scope.names.lookup y = some .local)
    (hsw : swapsWith (.ListComp elt [⟨tg, iter, [], 0⟩] scope pos) (some (.Name y py)) spos.line X.env = pure true) (hi : PI X tg iter wi) (ok : BlkOk X.N X.env.scope scope own)
    (hg : ∀ (s : Shared) (H : Hp) (C : Addr) (cl : List (Str × Addr)) (fp : List Addr), PG (X.blk s H scope (compEnvC scope cl C X.env) fp) tg g)
    (he : ∀ (xe' : Value → Shared → Prop) (s : Shared) (H : Hp) (C : Addr) (cl : List (Str × Addr)) (fp : List Addr), Passes (L2.CX X.prog X.w) (blkX X xe' s H scope (compEnvC scope cl C X.env) fp) E → PE (blkX X xe' s H scope (compEnvC scope cl C X.env) fp) elt te)
    (hs : ∀ x, foldedSetIterable iter X.env x = pure x := by intro _; rfl) : PS X (.Assign [.Name y py] (.ListComp elt [⟨tg, iter, [], 0⟩] scope pos) spos) (tAsg (tLc wi g tYes te (own.map (·.2))) (gName i)) := by
  refine ⟨fun pins s σ H D I h => ?_⟩
  rw [exec_Assign_Name_used _ _ _ _ hsw]
  refine wpAny_bind (wpAny_standAt (wpAny_bind ?_))
  show wpAny _ X.A (do let _ ← comprehension (.ListComp elt [⟨tg, iter, [], 0⟩] scope pos) scope X.env (firstIterPos [⟨tg, iter, [], 0⟩] pos) (newList []) false (eval iter X.env) (some (assign (.Name y py) X.env))) _ _ s
  have h : tLc wi g tYes te (own.map (·.2)) σ H (fun x H1 => gName i x σ H1 D.nx) := h
  refine wpAny_bind (thn (lcX_core (E := E) (Qf := fun _ s' => SP X pins D .next s') tk hst hf hc hN I hi ok hg he hs h fun L C ce s' m H' I' q hn f hl => ?_) fun _ s' hq => wpAny_pure (wpAny_pure hq))
  show wpAny _ _ (assign (.Name y py) X.env (.ref L)) _ _ _
  rw [hl]
  refine wpAny_assign_Name (store_ok2 (v := V.ref L) I' hN hy (.inl hyl) rfl (fun s2 I2 ⟨a, sb, ha⟩ => ?_) (.inr hyl))
  obtain ⟨f0, f1, f2, f3, f4, f5⟩ := f
  have haC : C ≠ a := by
    rcases ha with z | z
    · rw [z]; exact f1
    · exact fun e => f4 y a z e.symm
  refine ⟨m, hn.sameBut sb haC, fun h3 sb3 => ?_⟩
  exact ⟨_, H', I2.turned (t' := s2.toks) (fun b o hb e => (sb3.2 b hb).trans e) f0 f1 f3 f4 f5, q⟩
end
end My

set_option Elab.async false
set_option linter.all false
set_option maxRecDepth 100000
set_option maxHeartbeats 4000000
/-! ### {**d, k: v}: a dict display that begins with another dict's items -/
namespace My
open PySem L2
section
variable {prog : Program} {w : World} {K : Type} [DecidableEq K] {knd : KeyKind prog w K} {A : Around} {E : Value → Shared → Prop} {s : Shared}
/-- a key that isn't there yet, or is: set by its hash -/
theorem put_pairs {d : Addr} {kvs : List (K × Value)} {k : K} {key v : Value} {Q : Unit → Shared → Prop} (hkey : knd.is k key = true) (hm : s.heap.DictOf knd d kvs) (hsz : kvs.length ≤ sizeLine)
    (hQ : ∀ h', h'.DictOf knd d (stored kvs k v) → Heap.SameBut d s.heap h' → Q () { s with heap := h' }) : wpAny (model prog w) A (dictPut d (knd.hash k) key v) Q E s := by
  obtain ⟨o, es, ep, ho, hc, hd, hk, hp, hn⟩ := hm
  have hes : es.size ≤ sizeLine := by
    have e1 := hp.length
    have e2 : es.toList.length = es.size := by simp
    omega
  have hidx : (es.findIdx? fun e => knd.is k e.key) = kvs.findIdx? fun kv => decide (kv.1 = k) := by
    rw [← hp.findIdx k]; obtain ⟨l⟩ := es; simp
  unfold dictPut
  refine wpAny_bind (wpAny_dictFind_of hkey ho hd hk ?_)
  cases hi : es.findIdx? fun e => knd.is k e.key with
  | some i =>
    have hl : (es.toList.findIdx? fun e => knd.is k e.key) = some i := by rw [← hi]; obtain ⟨l⟩ := es; simp
    refine wpAny_updateDict ho hd (hQ _ ⟨_, _, ep, Heap.get?_update_self _ ho (Obj.isFreed_of_dict (Obj.data_mapDict hd _)), hc.mapDict _, Obj.data_mapDict hd _, hk.modify _ _, ?_, ?_⟩ (Heap.SameBut.update ..))
    · rw [stored, if_pos (any_of_findIdx_some (hidx ▸ hi))]
      have := hp.modify hn hl v
      obtain ⟨l⟩ := es
      simpa using this
    · rw [stored, if_pos (any_of_findIdx_some (hidx ▸ hi)), keys_map_store]; exact hn
  | none =>
    have hnot : k ∉ kvs.map (·.1) := not_mem_of_findIdx_none (hidx ▸ hi)
    have hany : ¬ (kvs.any fun kv => decide (kv.1 = k)) = true := fun z => by
      obtain ⟨kv, hkv, he⟩ := List.any_eq_true.mp z
      exact hnot (List.mem_map.mpr ⟨kv, hkv, of_decide_eq_true he⟩)
    refine wpAny_updateDictKeys (hz := hes) ho hd (hQ _ ⟨_, _, ep + 1, Heap.get?_update_self _ ho (Obj.isFreed_of_dict (Obj.data_mapDictKeys hd _)), hc.mapDictKeys _, Obj.data_mapDictKeys hd _, hk.push hkey _, ?_, ?_⟩ (Heap.SameBut.update ..))
    · rw [stored, if_neg hany]
      have := hp.append hkey (knd.hash k) v
      obtain ⟨l⟩ := es
      simpa using this
    · rw [stored, if_neg hany, List.map_append, List.nodup_append]
      refine ⟨hn, by simp, fun a ha b hb => ?_⟩
      simp only [List.map_cons, List.map_nil, List.mem_singleton] at hb
      subst hb
      exact fun e => hnot (e ▸ ha)
theorem merge_pairs {d o : Addr} {kvs more : List (K × Value)} {Q : Unit → Shared → Prop} (hdo : d ≠ o) (hoS : (o == sysModules) = false) (hd : s.heap.DictOf knd d kvs) (ho : s.heap.DictOf knd o more) (hsz : kvs.length + more.length ≤ sizeLine)
    (hQ : ∀ h', h'.DictOf knd d (merged kvs more) → Heap.SameBut d s.heap h' → Q () { s with heap := h' }) : wpAny (model prog w) A (mergeMapping d (.ref o) false) Q E s := by
  obtain ⟨od, esd, epd, hod, hcd, hdd, hkd, hpd, hnd⟩ := id hd
  obtain ⟨oo, eso, epo, hoo, hco, hdo', hko, hpo, hno⟩ := id ho
  have hT : s.TypeIs (.ref o) "dict" := ⟨oo, hoo, hco.1⟩
  unfold mergeMapping
  refine wpAny_bind (wpAny_isInstance hT isSubtype_dict_dict ?_)
  refine wpAny_bind (wpAny_specialOf hT F.slot_dict_iter.lookup (wpAny_bind (wpAny_pure ?_)))
  simp only [beq_self_eq_true]
  rw [if_neg (by rw [hoS]; exact Bool.false_ne_true)]
  have hlen : more.length = eso.size := by rw [← hpo.length]; simp
  refine wpAny_bind (wpAny_dictEntries hod hdd ?_)
  split
  refine wpAny_bind (wpAny_dictEntries hoo hdo' (wpAny_bind (wpAny_of_eq (a := PUnit.unit) ?_ ?_)))
  · rw [← Array.forIn_toList]
    refine forIn_yield_id _ fun e he c => ?_
    obtain ⟨k, hkey, _⟩ := hko e (Array.mem_toList_iff.mp he)
    have hv := knd.byValue k _ hkey
    cases hk : e.key with
    | ref a => rw [hk] at hv; cases hv
    | _ => rfl
  all_goals
    refine wpAny_bind (wpAny_dictEntries hoo hdo' (wpAny_bind (wpAny_dictEpoch hoo hdo' (wpAny_bind ?_))))
    refine wpAny_forIn_list _ (fun rest _ s' => ∃ h' i, s' = { s with heap := h' } ∧ rest = List.range' i (eso.size - i) ∧ i ≤ eso.size ∧ h'.DictOf knd d (merged kvs (more.take i)) ∧ h'.get? o = some oo ∧ Heap.SameBut d s.heap h') _ ?_ ?_ _ _
      ⟨s.heap, 0, rfl, by rw [Nat.sub_zero, List.range_eq_range'], Nat.zero_le _, by simpa [merged] using hd, hoo, Heap.SameBut.refl _ _⟩
    · rintro x rest b s' ⟨h', i, rfl, hr, hi, hd', hoo', hs'⟩
      have hlt : i < eso.size := by
        rcases Nat.lt_or_ge i eso.size with h | h
        · exact h
        · rw [Nat.sub_eq_zero_of_le h] at hr; simp at hr
      obtain ⟨rfl, hrest⟩ : x = i ∧ rest = List.range' (i + 1) (eso.size - (i + 1)) := by
        have e : eso.size - i = (eso.size - (i + 1)) + 1 := by omega
        rw [e, List.range'_succ] at hr
        injection hr with h1 h2
        exact ⟨h1, h2⟩
      refine wpAny_bind (wpAny_dictEntries hoo' hdo' ?_)
      rw [Array.getElem?_eq_getElem hlt]
      obtain ⟨⟨k, v⟩, hkv⟩ : ∃ kv, more[x]? = some kv := ⟨more[x]'(by rw [hlen]; exact hlt), List.getElem?_eq_getElem _⟩
      obtain ⟨hkey, hval⟩ := hpo.get? (e := eso[x]) (by simp [hlt]) hkv
      obtain ⟨k', hkey', hhash⟩ := hko eso[x] (Array.getElem_mem hlt)
      obtain rfl : k' = k := knd.inj _ _ _ hkey' hkey
      dsimp only
      rw [if_neg Bool.false_ne_true, hhash, hval]
      have hmx : (merged kvs (more.take x)).length ≤ sizeLine := by
        have e1 := merged_length_le kvs (more.take x)
        have e2 : (more.take x).length ≤ more.length := by rw [List.length_take]; omega
        omega
      refine wpAny_bind (wpAny_holding (put_pairs hkey hd' hmx fun h'' hd'' hs'' => ?_))
      have hoo'' : h''.get? o = some oo := (hs''.2 o (Ne.symm hdo)).trans hoo'
      refine wpAny_bind (wpAny_dictEpoch hoo'' hdo' ?_)
      rw [if_neg (by simp)]
      exact wpAny_pure ⟨h'', x + 1, rfl, hrest, hlt, by rw [merged_take_succ kvs more x (k', v) hkv]; exact hd'', hoo'', hs'.trans hs''⟩
    · rintro b s' ⟨h', i, rfl, hr, hi, hd', hoo', hs'⟩
      have hin : i = eso.size := by
        rcases Nat.lt_or_ge i eso.size with h | h
        · have e : eso.size - i = (eso.size - (i + 1)) + 1 := by omega
          rw [e, List.range'_succ] at hr; exact nomatch hr
        · exact Nat.le_antisymm hi h
      refine wpAny_pure (hQ h' ?_ hs')
      rw [hin, ← hlen, List.take_length] at hd'; exact hd'
end
/-- {**d, k: v}: p the new dict, p2 the one that the pair stands in ahead -/
def tDSt (td tk tv : TE) : TE := fun σ H Q => ∀ p, H p = none → td σ (upd H p (.dK [])) fun x H1 => ∃ a kvs, x = .ref a ∧ H1 p = some (.dK []) ∧ H1 a = some (.dK kvs) ∧ a ≠ p ∧ kvs.length ≤ 1000 ∧ ∀ p2, (upd H1 p (.dK kvs)) p2 = none →
  tk σ (upd (upd H1 p (.dK kvs)) p2 (.dK [])) fun kx H2 => tv σ H2 fun vx H3 => H3 p2 = some (.dK []) ∧ H3 p = some (.dK kvs) ∧ ∃ key, kx = kV key ∧ Q (.ref p) (upd (upd H3 p2 (.dK [(key, vx)])) p (.dK (putK kvs key vx)))
theorem pe_dstar {X : Cx} {d k v : Expr} {pos : Pos} {td tk tv : TE} (hd : PE X d td) (hk : PE X k tk) (hv : PE X v tv) : PE X (.Dict [none, some k] [d, v] pos) (tDSt td tk tv) := by
  refine ⟨fun pins s σ H Q I q => ?_⟩
  rw [arm_eval_Dict]
  refine wpAny_bind (wpAny_standAt ?_)
  show wpAny _ _ (dictDisplay [(none, do let x ← eval d X.env; standAt pos; pure x), (some (eval k X.env), do let x ← eval v X.env; standAt pos; pure x)]) _ _ _
  unfold dictDisplay
  simp only [List.forIn_cons, List.forIn_nil, List.isEmpty_nil, if_true, pure_bind, bind_assoc]
  simp only [List.nil_append, List.length_cons, List.length_nil, show ((0 + 1 == 17) = false) from rfl, Bool.false_eq_true, if_false, pure_bind, List.isEmpty_cons, bind_assoc]
  have hn := I.hok.fresh (Nat.le_refl s.heap.objs.size)
  have I1 := I.laid (a := s.heap.objs.size) (o := .dK []) (h' := s.heap.push { cls := .type "dict", data := .dict #[] }) (t' := s.toks) (fun _ _ q => Heap.get?_push_of_some _ q) (Nat.le_refl _) (dk_empty s.heap I.big)
  refine wpAny_bind (wpAny_alloc (wpAny_bind (wpAny_holding (wpAny_bind (thn (hd.run pins _ σ _ _ I1 (q _ hn)) fun u s1 hq => ?_)))))
  obtain ⟨y, H1, I2, ry, a, kvs, rfl, hp, ha, hap, kl, q2⟩ := hq
  refine wpAny_bind (wpAny_standAt (wpAny_pure ?_))
  have eu : u = .ref a := ry
  subst eu
  obtain ⟨z1, b1, vs1, r1, dd1⟩ := dk_of I2.hok hp
  obtain ⟨z2, b2, vs2, r2, dd2⟩ := dk_of I2.hok ha
  cases r1
  have hle : vs2.length = kvs.length := (Paired.length r2).symm
  have hm0 : (vs2.map (·.1)).Nodup := by
    obtain ⟨oo, eso, epo, hoo, hco, hdo', hko, hpo, hno⟩ := dd2
    exact hno
  refine wpAny_bind (wpAny_onRaise (wpAny_tryCatch (wpAny_onRaise (wpAny_holding (merge_pairs (knd := mixKind X.prog X.w) (Ne.symm hap) b2 dd1 dd2 (by rw [sizeLine_eq, List.length_nil, hle]; omega) fun h1 dh1 sb1 => ?_)))))
  rw [merged_nil_of_nodup vs2 hm0] at dh1
  have he1 : ∃ q, h1.get? s.heap.objs.size = some q := let ⟨q, _, _, hq, _⟩ := dh1; ⟨q, hq⟩
  have I3 : Inv X pins σ (upd H1 s.heap.objs.size (.dK kvs)) { s1 with heap := h1, toks := s1.toks } := d_write I2 (by rw [hp]; exact True.intro) sb1 he1 (dk_new z2 b1 r2 dh1)
  have hn2 := I3.hok.fresh (Nat.le_refl h1.objs.size)
  have I4 := I3.laid (a := h1.objs.size) (o := .dK []) (h' := h1.push { cls := .type "dict", data := .dict #[] }) (t' := s1.toks) (fun _ _ q => Heap.get?_push_of_some _ q) (Nat.le_refl _) (dk_empty h1 I3.big)
  have pp : PPs X pos [some k] [v] [(tk, tv)] := pps_cons hk hv pps_nil
  have hne : h1.objs.size ≠ s.heap.objs.size := fun z => by rw [z, upd_same] at hn2; cases hn2
  refine wpAny_bind (wpAny_holding (wpAny_subDict (knd := mixKind X.prog X.w) (Nat.le_of_ble_eq_true rfl) (thn (pp.run pins _ σ _ (fun ps H3 => match ps with
    | [(kx, vx)] => H3 h1.objs.size = some (.dK []) ∧ H3 s.heap.objs.size = some (.dK kvs) ∧ ∃ key, kx = kV key ∧ Q (.ref s.heap.objs.size) (upd (upd H3 h1.objs.size (.dK [(key, vx)])) s.heap.objs.size (.dK (putK kvs key vx)))
    | _ => False) I4 (q2 _ hn2)) fun ws s2 hq => ?_)))
  obtain ⟨ps, H3, I5, rel, qq⟩ := hq
  match ps, rel, qq with
  | [], _, qq => exact qq.elim
  | _ :: _ :: _, _, qq => exact qq.elim
  | [(kx, vx)], rel, qq =>
    obtain ⟨e2, e1, key, rfl, qf⟩ := qq
    obtain ⟨rs, c, rk⟩ := carries_of (P := X.prog) (w := X.w) (kvs := [(key, vx)]) rel
    obtain ⟨z3, b3, vs3, r3, dd3⟩ := dk_of I5.hok e2
    cases r3
    refine ⟨rs, c, dd3, fun h2 dh2 sb2 => ?_⟩
    have he2 : ∃ q, h2.get? h1.objs.size = some q := let ⟨q, _, _, hq, _⟩ := dh2; ⟨q, hq⟩
    have I6 : Inv X pins σ (upd H3 h1.objs.size (.dK [(key, vx)])) { s2 with heap := h2, toks := s2.toks + ws.length } := d_write I5 (by rw [e2]; exact True.intro) sb2 he2 (dk_new (by rw [sizeLine_eq]; show 1 ≤ 16777216; decide) b3 (rk.merge .nil) dh2)
    have e3 : (upd H3 h1.objs.size (.dK [(key, vx)])) s.heap.objs.size = some (.dK kvs) := by rw [upd_ne (Ne.symm hne)]; exact e1
    obtain ⟨z4, b4, vs4, r4, dd4⟩ := dk_of I6.hok e3
    have l4 : vs4.length = kvs.length := (Paired.length r4).symm
    have lr : rs.length = 1 := (Paired.length rk).symm
    have lm : (merged [] rs).length ≤ 1 := by
      have := merged_length_le ([] : List (Key × Value)) rs
      rw [List.length_nil, lr] at this
      omega
    refine wpAny_bind (wpAny_onRaise (wpAny_holding (merge_pairs (knd := mixKind X.prog X.w) (Ne.symm hne) b3 dd4 dh2 (by rw [sizeLine_eq, l4]; omega) fun h3 dh3 sb3 => ?_)))
    have he3 : ∃ q, h3.get? s.heap.objs.size = some q := let ⟨q, _, _, hq, _⟩ := dh3; ⟨q, hq⟩
    have lp := length_putK kvs key vx
    have I7 : Inv X pins σ (upd (upd H3 h1.objs.size (.dK [(key, vx)])) s.heap.objs.size (.dK (putK kvs key vx))) { s2 with heap := h3, toks := s2.toks + ws.length } := d_write (t' := s2.toks + ws.length) (s := { s2 with heap := h2, toks := s2.toks + ws.length }) I6 (by rw [e3]; exact True.intro) sb3 he3 (dk_new (by rw [sizeLine_eq]; omega) b4 ((rk.merge .nil).merge r4) dh3)
    exact wpAny_pure ⟨.ref s.heap.objs.size, _, I7, rfl, qf⟩
end My

set_option Elab.async false
set_option linter.all false
set_option maxRecDepth 100000
set_option maxHeartbeats 4000000
/-! ### methods and called objects within a try -/
namespace My
open PySem L2 StX PySem.Spec PyProof.Rows
def tMethT (C : Addr) (m : Str) (sp : Sp) (E : L2.St → XK) (ta : TE) (t : TA) : TE := fun σ H Q => ta σ H fun x H1 => ∃ a dx fs, x = .ref a ∧ H1 a = some (.ins C dx fs) ∧ fs.lookup m = none ∧ t σ H1 fun vs H2 => sp (.ref a :: vs) H2 Q (E σ)
section
variable {X : Cx} {CX : CXT} {C g : Addr} {fd : FuncData} {ps : List Str} {sp : Sp} {E : L2.St → XK} {k : Nat} {o e : Expr} {es : List Expr} {ta : TE} {t : TA} {pos apos : Pos} {m : Str} {f : Addr}
theorem pe_methT {pl : Sem Bool} (c : Cls X.K C) (hm : Meth X.K C m f) (F : FnOk X.prog X.w X.K X.mg X.base CX k f fd ps sp) (hr : Room k X.A) (hb : Binds X.K fd ps []) (hx : ∀ σ, PassesAt CX X σ (E σ)) (he : PE X o ta) (ha : PA X (e :: es) t)
    (hst : starEach (e :: es) X.env = (false, eval e X.env) :: starEach es X.env := by rfl) (hpl : (backTo pos (starEach es X.env)).any (·.1) = false := by rfl)
    (ht : eval (.Call (.Attribute o m apos) (e :: es) [] pos) X.env = (do
      let ov ← eval o X.env
      standAt apos.atName
      let (f, first) ← holding [ov] (getMethod ov m pl)
      callWith pos f first (backTo pos (starEach (e :: es) X.env)) (backToKw pos (keywordEach [] X.env))) := by rfl) :
    PE X (.Call (.Attribute o m apos) (e :: es) [] pos) (tMethT C m sp E ta t) := by
  refine ⟨fun pins s σ H Q I h => ?_⟩
  refine PySem.W.methodCall_KW (pl := pl) (thn (he.run pins s σ H _ I h) fun u s1 ⟨x, H1, I1, rx, a, dx, fs, ex, ea, l, q⟩ => ?_) ht
  subst ex
  obtain rfl : u = Value.ref a := rx
  refine getmeth_ok I1 ea c hm l ?_
  refine PySem.W.callWith_K (first := [.ref a]) (h₀ := X.base) I.ok.mod.kin hm.kp (thn (ha.run pos pins s1 σ H1 _ I1 q) fun us s2 ⟨vs, H2, I2, r, q2⟩ => ⟨I2.kIn, ?_⟩) hst hpl
  exact run_fnS (us := .ref a :: us) (vs := .ref a :: vs) F hr hb (hx σ) I2 (.cons rfl r) q2
def tCallOT (C : Addr) (sp : Sp) (E : L2.St → XK) (tf : TE) (t : TA) : TE := fun σ H Q => tf σ H fun y H1 => ∃ a, y = V.ref a ∧ t σ H1 fun vs H2 => (∃ dx fs, H2 a = some (.ins C dx fs)) ∧ sp (V.ref a :: vs) H2 Q (E σ)
theorem run_fnRS {pins : List (Addr × Obj)} {σ : L2.St} {H : Hp} {s : Shared} {f : Addr} {Q : VK} {E : L2.St → XK} {us : List Value} {vs : List V} (F : FnR X.prog X.w X.K X.mg X.base CX k f sp) (hr : Room k X.A) (hx : PassesAt CX X σ (E σ)) (I : Inv X pins σ H s) (r : Vals vs us) (h : sp vs H Q (E σ)) :
    codeAny (model X.prog X.w) X.A (.call (.ref f) ⟨us, []⟩) (fun r s' => match r with | .ok (.ret v) => EP X pins σ Q v s' | .ok _ => False | .error e => X.xe e s') s := by
  refine codeAny_mono (F X.A X.stack s H us vs Q (E σ) hr I.env0 r h) fun r s' hq => ?_
  cases r with
  | error e => exact hx pins H s e s' I hq
  | ok fl =>
    cases fl with
    | ret u => exact I.after hq
    | next => exact False.elim hq
    | brk => exact False.elim hq
    | cont => exact False.elim hq
theorem pe_callOT {fe : Expr} {tf : TE} (c : CallO X.K C g) (F : FnR X.prog X.w X.K X.mg X.base CX k g sp) (hr : Room k X.A) (hx : ∀ σ, PassesAt CX X σ (E σ)) (hf : PE X fe tf) (ha : PA X (e :: es) t)
    (ht : eval (.Call fe (e :: es) [] pos) X.env = (do callWith pos (← eval fe X.env) [] (backTo pos (starEach (e :: es) X.env)) (backToKw pos (keywordEach [] X.env))) := by rfl)
    (he : starEach (e :: es) X.env = (false, eval e X.env) :: starEach es X.env := by rfl) (hpl : (backTo pos (starEach es X.env)).any (·.1) = false := by rfl) : PE X (.Call fe (e :: es) [] pos) (tCallOT C sp E tf t) := by
  refine ⟨fun pins s σ H Q I h => ?_⟩
  refine Call_ (thn (hf.run pins s σ H _ I h) fun u s1 ⟨y, H1, I1, ry, a, ey, q⟩ => ?_) ht
  subst ey
  obtain rfl : u = Value.ref a := ry
  refine callO_with (thn (ha.run pos pins s1 σ H1 _ I1 q) fun us s2 ⟨vs, H2, I2, r, hi, q2⟩ => ?_) he hpl
  obtain ⟨ox, od, J, hd⟩ := insC_at I2 (.inr hi)
  exact ⟨⟨C, ox, od, J, hd⟩, wpAny_call (PySem.W.kco_code I2.kIn J hd c.at_ c.fn c.fi (run_fnRS (us := .ref a :: us) (vs := .ref a :: vs) F hr (hx σ) I2 (.cons rfl r) q2))⟩
end
end My

set_option Elab.async false
set_option linter.all false
set_option maxRecDepth 100000
set_option maxHeartbeats 4000000
/-! ### methods with keywords, also within a try; a new instance with keywords within a try -/
namespace My
open PySem L2 StX PySem.Spec PyProof.Rows
def tMethN (C : Addr) (m : Str) (n mk : Nat) (sp : Sp) (gV : List V → List V → List V) (E : XK) (ta : TE) (t tk : TA) : TE := fun σ H Q => ta σ H fun x H1 => ∃ a dx fs, x = .ref a ∧ H1 a = some (.ins C dx fs) ∧ fs.lookup m = none ∧ t σ H1 fun vs H2 => tk σ H2 fun zs H3 => vs.length = n ∧ zs.length = mk ∧ sp (gV (.ref a :: vs) zs) H3 Q E
def tMethNT (C : Addr) (m : Str) (n mk : Nat) (sp : Sp) (gV : List V → List V → List V) (E : L2.St → XK) (ta : TE) (t tk : TA) : TE := fun σ H Q => ta σ H fun x H1 => ∃ a dx fs, x = .ref a ∧ H1 a = some (.ins C dx fs) ∧ fs.lookup m = none ∧ t σ H1 fun vs H2 => tk σ H2 fun zs H3 => vs.length = n ∧ zs.length = mk ∧ sp (gV (.ref a :: vs) zs) H3 Q (E σ)
def tMakeNT (C : Addr) (n m : Nat) (sp : Sp) (gV : List V → List V → List V) (E : L2.St → XK) (t tk : TA) : TE := fun σ H Q => t σ H fun vs H1 => tk σ H1 fun zs H2 => vs.length = n ∧ zs.length = m ∧ ∀ x dx, H2 x = none → H2 dx = none → dx ≠ x →
  sp (gV (.ref x :: vs) zs) (upd (upd H2 dx (.own x)) x (.ins C dx [])) (fun v H3 => v = .non ∧ Q (.ref x) H3) (E σ)
section
variable {X : Cx} {CX : CXT} {C f : Addr} {fd : FuncData} {ps ks : List Str} {sp : Sp} {k n : Nat} {o e : Expr} {es : List Expr} {kws : List Keyword} {ta : TE} {t tk : TA} {pos apos p : Pos} {m x : Str} {g : List Value → List Value → List Value} {gV : List V → List V → List V}
theorem run_fnNS {pins : List (Addr × Obj)} {σ : L2.St} {H : Hp} {s : Shared} {Q : VK} {us ws : List Value} {vs zs : List V} {E : XK} (F : FnOk X.prog X.w X.K X.mg X.base CX k f fd ps sp) (hr : Room k X.A) (hb : KBn X.K fd ps n ks g gV) (hx : PassesAt CX X σ E)
    (I : Inv X pins σ H s) (r : Vals vs us) (rz : Vals zs ws) (l1 : vs.length = n) (l2 : zs.length = ks.length) (h : sp (gV vs zs) H Q E) : wpAny (model X.prog X.w) X.A (call (.ref f) us (ks.zip ws)) (EP X pins σ Q) X.xe s := by
  have r2 := hb.rel r rz
  refine wpAny_call (codeAny_mono (F.run X.A X.stack s H ⟨us, ks.zip ws⟩ (g us ws) (gV vs zs) Q E hr I.env0 (hb.to s us ws I.kIn (r.length.symm.trans l1) (rz.length.symm.trans l2)) r2 h) fun r s' hq => ?_)
  cases r with
  | error e => exact hx pins H s e s' I hq
  | ok fl =>
    cases fl with
    | ret u => exact I.after hq
    | next => exact False.elim hq
    | brk => exact False.elim hq
    | cont => exact False.elim hq
theorem pe_methN {pl : Sem Bool} {E : XK} (c : Cls X.K C) (hm : Meth X.K C m f) (F : FnOk X.prog X.w X.K X.mg X.base CX k f fd ps sp) (hr : Room k X.A) (hb : KBn X.K fd ps (n + 1) ks g gV) (hx : Passes CX X E) (he : PE X o ta) (ha : PA X (e :: es) t) (hkw : PK X kws tk)
    (hall : (backToKw pos (keywordEach kws X.env)).all (·.1.isSome) = true := by rfl) (hks : (backToKw pos (keywordEach kws X.env)).filterMap (·.1) = ks := by rfl)
    (hst : starEach (e :: es) X.env = (false, eval e X.env) :: starEach es X.env := by rfl) (hpl : ((backTo pos (starEach (e :: es) X.env)).any (·.1) || (backToKw pos (keywordEach kws X.env)).any (·.1.isNone)) = false := by rfl)
    (ht : eval (.Call (.Attribute o m apos) (e :: es) kws pos) X.env = (do
      let ov ← eval o X.env
      standAt apos.atName
      let (f, first) ← holding [ov] (getMethod ov m pl)
      callWith pos f first (backTo pos (starEach (e :: es) X.env)) (backToKw pos (keywordEach kws X.env))) := by rfl) :
    PE X (.Call (.Attribute o m apos) (e :: es) kws pos) (tMethN C m n ks.length sp gV E ta t tk) := by
  refine ⟨fun pins s σ H Q I h => ?_⟩
  refine PySem.W.methodCall_KW (pl := pl) (thn (he.run pins s σ H _ I h) fun u s1 ⟨x, H1, I1, rx, a, dx, fs, ex, ea, l, q⟩ => ?_) ht
  subst ex
  obtain rfl : u = Value.ref a := rx
  refine getmeth_ok I1 ea c hm l ?_
  refine PySem.W.callWith_KW (first := [.ref a]) (h₀ := X.base) I.ok.mod.kin hm.kp hall (thn (ha.run pos pins s1 σ H1 _ I1 q) fun us s2 ⟨vs, H2, I2, r, q2⟩ => ?_) hpl hst
  refine thn (hkw.run pos pins s2 σ H2 _ I2 q2) fun ws s3 ⟨zs, H3, I3, rz, l1, l2, q3⟩ => ⟨I3.kIn, ?_⟩
  rw [hks]
  exact run_fnN (us := .ref a :: us) (vs := .ref a :: vs) F hr hb hx I3 (.cons rfl r) rz (by rw [List.length_cons, l1]) l2 q3
theorem pe_methNT {pl : Sem Bool} {E : L2.St → XK} (c : Cls X.K C) (hm : Meth X.K C m f) (F : FnOk X.prog X.w X.K X.mg X.base CX k f fd ps sp) (hr : Room k X.A) (hb : KBn X.K fd ps (n + 1) ks g gV) (hx : ∀ σ, PassesAt CX X σ (E σ)) (he : PE X o ta) (ha : PA X (e :: es) t) (hkw : PK X kws tk)
    (hall : (backToKw pos (keywordEach kws X.env)).all (·.1.isSome) = true := by rfl) (hks : (backToKw pos (keywordEach kws X.env)).filterMap (·.1) = ks := by rfl)
    (hst : starEach (e :: es) X.env = (false, eval e X.env) :: starEach es X.env := by rfl) (hpl : ((backTo pos (starEach (e :: es) X.env)).any (·.1) || (backToKw pos (keywordEach kws X.env)).any (·.1.isNone)) = false := by rfl)
    (ht : eval (.Call (.Attribute o m apos) (e :: es) kws pos) X.env = (do
      let ov ← eval o X.env
      standAt apos.atName
      let (f, first) ← holding [ov] (getMethod ov m pl)
      callWith pos f first (backTo pos (starEach (e :: es) X.env)) (backToKw pos (keywordEach kws X.env))) := by rfl) :
    PE X (.Call (.Attribute o m apos) (e :: es) kws pos) (tMethNT C m n ks.length sp gV E ta t tk) := by
  refine ⟨fun pins s σ H Q I h => ?_⟩
  refine PySem.W.methodCall_KW (pl := pl) (thn (he.run pins s σ H _ I h) fun u s1 ⟨x, H1, I1, rx, a, dx, fs, ex, ea, l, q⟩ => ?_) ht
  subst ex
  obtain rfl : u = Value.ref a := rx
  refine getmeth_ok I1 ea c hm l ?_
  refine PySem.W.callWith_KW (first := [.ref a]) (h₀ := X.base) I.ok.mod.kin hm.kp hall (thn (ha.run pos pins s1 σ H1 _ I1 q) fun us s2 ⟨vs, H2, I2, r, q2⟩ => ?_) hpl hst
  refine thn (hkw.run pos pins s2 σ H2 _ I2 q2) fun ws s3 ⟨zs, H3, I3, rz, l1, l2, q3⟩ => ⟨I3.kIn, ?_⟩
  rw [hks]
  exact run_fnNS (us := .ref a :: us) (vs := .ref a :: vs) F hr hb (hx σ) I3 (.cons rfl r) rz (by rw [List.length_cons, l1]) l2 q3
theorem pe_makeNT {E : L2.St → XK} (M : Mk X.K C f) (F : FnOk X.prog X.w X.K X.mg X.base CX k f fd ps sp) (hr : Room (k + 1) X.A) (hg : Gl X x) (hm : X.mg x = some (.ref C)) (hb : KBn X.K fd ps (n + 1) ks g gV) (hx : ∀ σ, PassesAt CX X σ (E σ)) (ha : PA X (e :: es) t) (hkw : PK X kws tk)
    (hall : (backToKw pos (keywordEach kws X.env)).all (·.1.isSome) = true := by rfl) (hks : (backToKw pos (keywordEach kws X.env)).filterMap (·.1) = ks := by rfl) (hdb : (x == ("__debug__" : Str)) = false := by decide)
    (he : starEach (e :: es) X.env = (false, eval e X.env) :: starEach es X.env := by rfl) (hpl : ((backTo pos (starEach (e :: es) X.env)).any (·.1) || (backToKw pos (keywordEach kws X.env)).any (·.1.isNone)) = false := by rfl) :
    PE X (.Call (.Name x p) (e :: es) kws pos) (tMakeNT C n ks.length sp gV E t tk) := by
  refine ⟨fun pins s σ H Q I h => wpAny_Call_Name_kw (ld_glob I hg hm ?_ hdb)⟩
  refine PySem.W.callWith_KW (h₀ := X.base) I.ok.mod.kin M.kp hall (thn (ha.run pos pins s σ H _ I h) fun us s1 ⟨vs, H1, I1, r, q⟩ => ?_) hpl he
  refine thn (hkw.run pos pins s1 σ H1 _ I1 q) fun ws s2 ⟨zs, H2, I2, rz, l1, l2, q2⟩ => ⟨I2.kIn, ?_⟩
  rw [hks]
  have g0 : H2 (s2.heap.objs.size + 1) = none := I2.hok.fresh (Nat.le_succ _)
  have g1 : H2 s2.heap.objs.size = none := I2.hok.fresh (Nat.le_refl _)
  have todo := q2 _ _ g0 g1 (Nat.ne_of_lt (Nat.lt_succ_self _))
  have J := Inv.made (C := C) I2
  have r1 : Vals (V.ref (s2.heap.objs.size + 1) :: vs) (Value.ref (s2.heap.objs.size + 1) :: us) := .cons rfl r
  have rr := hb.rel r1 rz
  have n1 : (Value.ref (s2.heap.objs.size + 1) :: us).length = n + 1 := by rw [List.length_cons, ← r.length, l1]
  refine wpAny_call (make_map (f := f) I2.kIn M.makes M.init (beq_iff_eq.mp M.fn) (codeAny_mono (F.run _ X.stack _ _ ⟨Value.ref (s2.heap.objs.size + 1) :: us, ks.zip ws⟩ (g (Value.ref (s2.heap.objs.size + 1) :: us) ws) _ _ (E σ) (hr.make C us (ks.zip ws)) (J.env0.make C us (ks.zip ws)) (hb.to _ (Value.ref (s2.heap.objs.size + 1) :: us) ws J.kIn n1 (rz.length.symm.trans l2)) rr todo) fun
    | .error er, s4, z => hx σ pins _ _ er s4 J z
    | .ok (.ret u), s4, z => ?_
    | .ok .next, _, z => False.elim z
    | .ok .brk, _, z => False.elim z
    | .ok .cont, _, z => False.elim z))
  obtain ⟨v, H3, J3, rv, rfl, z3⟩ := J.after z
  exact ⟨rv, .ref (s2.heap.objs.size + 1), H3, J3, rfl, z3⟩
end
end My

set_option linter.all false
/-! ### sorted texts: one list -/
namespace My
open PySem PyProof.Rows
theorem risingS_pw : ∀ (l : List Str) (p : Str), risingS p l = true → (p :: l).Pairwise (fun a b => a.cps.toList ≤ b.cps.toList)
  | [], p, _ => List.pairwise_singleton _ _
  | x :: r, p, h => by
    have h' : (!Spec.ltCps x.cps.toList p.cps.toList && risingS x r) = true := h
    rw [Bool.and_eq_true, ltCps_eq] at h'
    have px : p.cps.toList ≤ x.cps.toList := by
      have := h'.1
      simp only [Bool.not_eq_true', decide_eq_false_iff_not] at this
      exact List.not_lt.mp this
    have ih := risingS_pw r x h'.2
    refine List.pairwise_cons.mpr ⟨fun y hy => ?_, ih⟩
    rcases List.mem_cons.mp hy with rfl | hy
    · exact px
    · exact List.le_trans px (List.rel_of_pairwise_cons ih hy)
theorem sortedS_pw {l : List Str} (h : sortedS l = true) : l.Pairwise (fun a b => a.cps.toList ≤ b.cps.toList) := by
  cases l with
  | nil => exact List.Pairwise.nil
  | cons x r => exact risingS_pw r x h
theorem str_ext {a b : Str} (h : a.cps.toList = b.cps.toList) : a = b := by
  obtain ⟨⟨a⟩⟩ := a
  obtain ⟨⟨b⟩⟩ := b
  have h' : a = b := h
  rw [h']
theorem sorted_uniq {l m : List Str} (hl : sortedS l = true) (hm : sortedS m = true) (p : l.Perm m) : l = m :=
  List.Perm.eq_of_pairwise (le := fun a b : Str => a.cps.toList ≤ b.cps.toList) (fun a b _ _ h1 h2 => str_ext (List.le_antisymm h1 h2)) (sortedS_pw hl) (sortedS_pw hm) p
end My

set_option Elab.async false
set_option linter.all false
set_option maxRecDepth 100000
set_option maxHeartbeats 4000000
/-! ### a loop over a dict's keys -/
namespace My
open PySem L2
theorem forKeys {g : TG} {tb : TS} {D : Ends} {σ : L2.St} {H : Hp} {d : Addr} {kvs : List (Key × V)} {i : Nat} (hσ : σ[i]? = some (some (.ref d))) (hd : H d = some (.dK kvs)) (Pv : Obj → Nat → L2.St → Hp → Prop)
    (h0 : ∀ od, Pv od 0 σ (upd H d (.frz od (.dK kvs)))) (hk : ∀ od j σ H', Pv od j σ H' → H' d = some (.frz od (.dK kvs)))
    (hs : ∀ od j k v σ H', kvs[j]? = some (k, v) → Pv od j σ H' → g (kV k) σ H' fun σ2 H2 => tb ⟨Pv od (j + 1), fun v H' => H' d = some (.frz od (.dK kvs)) ∧ D.rt v (upd H' d (.dK kvs)), fun σ' H' => H' d = some (.frz od (.dK kvs)) ∧ D.nx σ' (upd H' d (.dK kvs)), Pv od (j + 1)⟩ σ2 H2)
    (fin : ∀ od σ' H', Pv od kvs.length σ' H' → D.nx σ' (upd H' d (.dK kvs))) : tLock (tFor (iKeys (tVar i)) g tb) D σ H := by
  refine ⟨d, .dK kvs, hd, True.intro, fun od => ?_⟩
  refine ⟨.ref d, hσ, d, od, rfl, .inl ⟨kvs, upd_same, ?_⟩⟩
  refine for_it (n := kvs.length) walk_keys (Pv od) (h0 od) (fun j σ H _ p => hk od j σ H p) (fun j x σ H1 H' hj p y => ?_) fun σ H p => ⟨hk od _ σ H p, fin od σ H p⟩
  obtain ⟨rfl, k, v, e, rfl⟩ := y
  exact hs od j k v σ _ e p
theorem noSqD {H : Hp} {d : Addr} {kvs : List (Key × V)} (h : H d = some (.dK kvs)) : NoSq H [d] := fun b hb => by
  rw [List.mem_singleton.mp hb, h]
  exact ⟨fun _ z => (by cases z), fun _ z => (by cases z), fun _ _ z => (by cases z)⟩
mutual
theorem dpM {K : PySem.W.Frag} {H H' : Hp} (hl : ∀ a xs, SqL K H a xs → SqL K H' a xs) (ht : ∀ a xs, SqT K H a xs → SqT K H' a xs) : ∀ {d : PyData} {v : V}, Dp K H v d → Dp K H' v d
  | _, _, .non => .non
  | _, _, .bl b => .bl b
  | _, _, .int i => .int i
  | _, _, .str x => .str x
  | _, _, .lst e h => .lst (hl _ _ e) (dpAllM hl ht h)
  | _, _, .tup e h => .tup (ht _ _ e) (dpAllM hl ht h)
theorem dpAllM {K : PySem.W.Frag} {H H' : Hp} (hl : ∀ a xs, SqL K H a xs → SqL K H' a xs) (ht : ∀ a xs, SqT K H a xs → SqT K H' a xs) : ∀ {ds : List PyData} {vs : List V}, DpAll K H vs ds → DpAll K H' vs ds
  | _, _, .nil => .nil
  | _, _, .cons h t => .cons (dpM hl ht h) (dpAllM hl ht t)
end
theorem unfL {K : PySem.W.Frag} {H : Hp} {d : Addr} {o : Obj} {kvs : List (Key × V)} {u : HO} (h : H d = some (.frz o (.dK kvs))) : ∀ a xs, SqL K H a xs → SqL K (upd H d u) a xs := fun a xs z => by
  rcases z with (z | ⟨o2, z⟩) | z
  · exact .inl (.inl (by rw [upd_ne (fun e => by rw [e, h] at z; cases z)]; exact z))
  · exact .inl (.inr ⟨o2, by rw [upd_ne (fun e => by rw [e, h] at z; cases z)]; exact z⟩)
  · exact .inr z
theorem unfT {K : PySem.W.Frag} {H : Hp} {d : Addr} {o : Obj} {kvs : List (Key × V)} {u : HO} (h : H d = some (.frz o (.dK kvs))) : ∀ a xs, SqT K H a xs → SqT K (upd H d u) a xs := fun a xs z => by
  rcases z with (z | ⟨o2, z⟩) | z
  · exact .inl (.inl (by rw [upd_ne (fun e => by rw [e, h] at z; cases z)]; exact z))
  · exact .inl (.inr ⟨o2, by rw [upd_ne (fun e => by rw [e, h] at z; cases z)]; exact z⟩)
  · exact .inr z
/-- over a loop: what stood before stands behind it -/
theorem Kp.unlock {H H' : Hp} {d : Addr} {o : Obj} {u : HO} (hd : H d = some u) (k : Kp [] (upd H d (.frz o u)) H') : Kp [] H (upd H' d u) := fun a x _ e => by
  by_cases z : a = d
  · subst z; rw [upd_same, ← hd, e]
  · rw [upd_ne z]
    exact k a x not0 (by rw [upd_ne z]; exact e)
theorem Kp.lock {H : Hp} {d : Addr} {u : HO} : Kp [d] H (upd H d u) := (Kp.refl [d] H).put (by simp)
end My

set_option Elab.async false
set_option linter.all false
set_option maxRecDepth 100000
set_option maxHeartbeats 4000000
/-! ### slices and sums of any tuples, as their callers read them -/
namespace My
open PySem L2
theorem cut_to (xs : List V) (k : Nat) : cutV xs none (some (k : Int)) = xs.take k := by
  unfold cutV
  rw [HT.sIx_none, HT.sIx_nat, List.drop_zero, Nat.sub_zero]
  by_cases h : k ≤ xs.length
  · rw [Nat.min_eq_left h]
  · rw [Nat.min_eq_right (by omega), List.take_length, List.take_of_length_le (by omega)]
theorem cut_from (xs : List V) (k : Nat) : cutV xs (some (k : Int)) none = xs.drop k := by
  unfold cutV
  rw [HT.sIx_none, HT.sIx_nat]
  by_cases h : k ≤ xs.length
  · rw [Nat.min_eq_left h, List.take_of_length_le (by rw [List.length_drop]; omega)]
  · rw [Nat.min_eq_right (by omega), List.drop_length, List.drop_of_length_le (by omega), List.take_nil]
section
variable {K : PySem.W.Frag} {H : Hp} {a b : Addr} {xs ys : List V} {Q : VK} {k : Nat} {i : Int}
theorem slA_to (e : i = (k : Nat)) (h : H a = some (.tup xs)) (q : ∀ r H', H' r = some (.tup (xs.take k)) → Kp [] H H' → Q (.ref r) H') : rSlA K (.ref a) none (some i) H Q := by
  subst e
  refine ⟨a, xs, rfl, sq_t h, fun z => q a H ?_ (Kp.refl _ _), fun _ p np => q p _ (by rw [upd_same, cut_to]) (Kp.new np)⟩
  have z2 := z.2
  rw [HT.sIx_nat] at z2
  rw [h, List.take_of_length_le (by omega)]
theorem slA_from (e : i = (k : Nat)) (h : H a = some (.tup xs)) (q : ∀ r H', H' r = some (.tup (xs.drop k)) → Kp [] H H' → Q (.ref r) H') : rSlA K (.ref a) (some i) none H Q := by
  subst e
  refine ⟨a, xs, rfl, sq_t h, fun z => q a H ?_ (Kp.refl _ _), fun _ p np => q p _ (by rw [upd_same, cut_from]) (Kp.new np)⟩
  have z1 := z.1
  rw [HT.sIx_nat] at z1
  by_cases h0 : k = 0
  · rw [h, h0]; rfl
  · have : xs = [] := List.eq_nil_of_length_eq_zero (by omega)
    rw [h, this, List.drop_nil]
theorem catA_use (ha : H a = some (.tup xs)) (hb : H b = some (.tup ys)) (hl : xs.length + ys.length ≤ 1000) (q : ∀ r H', H' r = some (.tup (xs ++ ys)) → Kp [] H H' → Q (.ref r) H') : rCatA K (.ref a) (.ref b) H Q := by
  refine ⟨a, b, xs, ys, rfl, rfl, sq_t ha, sq_t hb, small (by omega), fun e => q b H ?_ (Kp.refl _ _), fun _ e => q a H ?_ (Kp.refl _ _), fun _ _ p np => q p _ upd_same (Kp.new np)⟩
  · rw [hb, e]; rfl
  · rw [ha, e, List.append_nil]
end
end My

set_option Elab.async false
set_option linter.all false
set_option maxRecDepth 100000
set_option maxHeartbeats 4000000
namespace My
open PySem L2 NdefX
def top (i : Nat) : Stmt := PySem.Challenge.pw_coretower_k34_books_keep_orders.main.body.getD i (.Pass ⟨0, 0, 0, 0⟩)
def mtop (i j : Nat) : Stmt := match top i with
  | .ClassDef _ _ _ b _ _ _ _ _ _ _ => b.getD j (.Pass ⟨0, 0, 0, 0⟩)
  | _ => .Pass ⟨0, 0, 0, 0⟩
abbrev s_BadPair_init : Stmt := mtop 4 0
theorem sc_BadPair_init : NScope ["self", "pair", "__class__"] ["self", "pair"] ["__class__"] (defScope s_BadPair_init) := nscope_by (by decide +kernel)
theorem ok_BadPair_init {P : Program} {w : World} {K : PySem.W.Frag} {mg : Str → Option Value} {base : Heap} {CX : CXT} {f cc cda C : Addr} {fd : FuncData} (F : FunX K "__init__" "BadPair.__init__" s_BadPair_init f fd cc cda C) (T : ErrC K C) (G : CodeF K P cda) (hsup : mg "super" = none) (n1 : PySem.W.findIn K (.ref C) "pair" = some none) {Pf : V → Prop} :
    FnOk P w K mg base CX 1 f fd ["self", "pair"] (spErr1 C "pair" Pf) := by
  have F0 := F
  obtain ⟨oc, od, kV, doc, pm, an, ct, osl, hfd, lk, hcd⟩ := F0.ex
  obtain ⟨cl, cld, csl, hcc⟩ := F0.cell
  refine F.ok sc_BadPair_init (fun vs H Q E h => ?_) (fun A outer s H vs Q E hr h => ?_)
  · obtain ⟨a, v, rfl, _⟩ := h
    rfl
  · obtain ⟨a, v, rfl, hp, ha, q⟩ := h
    refine ⟨_, psat_cons (psat_sup T G lk (by rw [hfd]; rfl) hcc hsup rfl rfl rfl rfl rfl rfl rfl (pa_cons pe_str pa_nil) rfl rfl rfl rfl rfl) (pss_one (ps_ost (pv 0) (pv 1))), ?_⟩
    try simp (maxSteps := 1000000) only [tSeq, tIfS, tTest, tOp, tUn, tCB, tCons, tNil, tVar, tC, rI0, rI, rU, rEq, rNe, tRet, tRetN, tAsg, gName, gSub, tBM, tBM0, tNext, tB, tNot, tAnd, tOr, tIf, tCall, tDrop, tBreak, tCont, L2.start, tDGet, sDPut, tTup, tLst, tDNewK, tRevL, rCat, rAppend, rPop, rSetL, tAndV, tOrV, tNotV, tSl, tPart, tNoPart, tM1, gTup, gCons, gNil, cxK, cxnK, List.map_cons, List.map_nil, List.length_cons, List.length_nil, List.replicate, List.cons_append, List.nil_append, List.append_nil, List.set_cons_zero, List.set_cons_succ, List.getElem?_cons_zero, List.getElem?_cons_succ, Option.some.injEq, V.ref.injEq, V.int.injEq, V.str.injEq, V.bl.injEq, V.ty.injEq, exists_eq_left', exists_eq_left, exists_and_left, List.cons.injEq, and_true, true_and, sc_ii, sc_ss, sc_bb, sc_ni, sc_in, sc_is, sc_si, sc_nn, decide_true, decide_false, reduceCtorEq, Bool.false_eq_true, if_true, if_false, ite_true, ite_false, exists_const, eq_self, false_and, and_false, or_false, false_or, exists_false, Evl.rLenS, rSum, wipe, tYes, exists_eq, exists_eq', rIxL, rIxT, rIxS, exists_and_right, gt_iff_lt, not_true_eq_false, not_false_eq_true, Bool.not_true, Bool.not_false, decide_eq_true_eq, Nat.reduceSub, Nat.reduceAdd, List.append_assoc, tChain, tDIn, tDNotIn, sDDel, tAug, ipI, startF, tSupI, tOst]
    exact ⟨ha, by decide, ha, C, T.ox, n1, .inl ⟨ha, q⟩⟩
abbrev s_Pairs_init : Stmt := mtop 15 0
theorem sc_Pairs_init : FnScope ["self", "pairs", "item", "pair"] ["self", "pairs"] (defScope s_Pairs_init) := ⟨rfl, rfl, rfl, by decide +kernel, rfl, by decide +kernel, by decide +kernel⟩
abbrev s_Pairs_contains : Stmt := mtop 15 1
theorem sc_Pairs_contains : FnScope ["self", "x"] ["self", "x"] (defScope s_Pairs_contains) := ⟨rfl, rfl, rfl, by decide +kernel, rfl, by decide +kernel, by decide +kernel⟩
abbrev s_Pairs_len : Stmt := mtop 15 2
theorem sc_Pairs_len : FnScope ["self"] ["self"] (defScope s_Pairs_len) := ⟨rfl, rfl, rfl, by decide +kernel, rfl, by decide +kernel, by decide +kernel⟩
abbrev s_Pairs_iter : Stmt := mtop 15 3
theorem sc_Pairs_iter : FnScope ["self"] ["self"] (defScope s_Pairs_iter) := ⟨rfl, rfl, rfl, by decide +kernel, rfl, by decide +kernel, by decide +kernel⟩
abbrev s_Pairs_and : Stmt := mtop 15 4
theorem sc_Pairs_and : FnScope ["self", "other", "pair"] ["self", "other"] (defScope s_Pairs_and) := ⟨rfl, rfl, rfl, by decide +kernel, rfl, by decide +kernel, by decide +kernel⟩
abbrev s_Pairs_or : Stmt := mtop 15 5
theorem sc_Pairs_or : FnScope ["self", "other"] ["self", "other"] (defScope s_Pairs_or) := ⟨rfl, rfl, rfl, by decide +kernel, rfl, by decide +kernel, by decide +kernel⟩
abbrev s_Pairs_sub : Stmt := mtop 15 6
theorem sc_Pairs_sub : FnScope ["self", "other", "pair"] ["self", "other"] (defScope s_Pairs_sub) := ⟨rfl, rfl, rfl, by decide +kernel, rfl, by decide +kernel, by decide +kernel⟩
abbrev s_Pairs_within : Stmt := mtop 15 7
theorem sc_Pairs_within : FnScope ["self", "other", "pair"] ["self", "other"] (defScope s_Pairs_within) := ⟨rfl, rfl, rfl, by decide +kernel, rfl, by decide +kernel, by decide +kernel⟩
abbrev s_Pairs_between : Stmt := mtop 15 8
theorem sc_Pairs_between : FnScope ["firsts", "seconds", "pair"] ["firsts", "seconds"] (defScope s_Pairs_between) := ⟨rfl, rfl, rfl, by decide +kernel, rfl, by decide +kernel, by decide +kernel⟩
/-! ### pairs of kinds -/
abbrev Pr := Str × Str
def kindsL : List Str := ["read", "acquire", "write", "release", "both"]
def rowP (x : Str) : List Pr := (kindsL.map fun y => (x, y)) ++ (if x = ("write" : Str) ∨ x = ("release" : Str) then [(x, ("return" : Str))] else [])
def pairsL : List Pr := kindsL.flatMap rowP
def pD (p : Pr) : PyData := .tuple [.str p.1, .str p.2]
theorem eqvP (p q : Pr) : PyData.eqv (pD p) (pD q) = decide (p = q) := by
  obtain ⟨a, b⟩ := p
  obtain ⟨c, d⟩ := q
  have e : PyData.eqv (pD (a, b)) (pD (c, d)) = ((a == c) && ((b == d) && true)) := by simp only [pD, PyData.eqv, PyData.eqvAll]
  rw [e, Bool.and_true]
  by_cases h1 : a = c
  · by_cases h2 : b = d
    · simp [h1, h2]
    · simp [h1, h2, beq_eq_false_iff_ne.mpr h2]
  · simp [h1, beq_eq_false_iff_ne.mpr h1]
theorem any_eq {ps : List Pr} {q : Pr} : ((ps.map pD).any fun z => PyData.eqv z (pD q)) = decide (q ∈ ps) := by
  induction ps with
  | nil => simp
  | cons p r ih =>
    rw [List.map_cons, List.any_cons, ih, eqvP]
    by_cases h : p = q
    · simp [h]
    · by_cases h2 : q ∈ r
      · simp [h2]
      · simp [h, h2, Ne.symm h]
/-- what a Pairs of the data ds has -/
def isP (d : PyData) : Bool := (pairsL.map pD).any fun z => PyData.eqv z d
def okStr (z : Str) : Bool := PyData.canLay0 (.str z)
theorem okP {p : Pr} (h : p ∈ pairsL) : SeqAt.shaped (pD p) = true := by
  have : ∀ q ∈ pairsL, SeqAt.shaped (pD q) = true := by decide +kernel
  exact this p h
theorem shapedL {ds : List PyData} (h : ∀ d ∈ ds, SeqAt.shaped d = true ∧ d.depth ≤ 60) : SeqAt.shaped (.list ds) = true ∧ SeqAt.shaped (.tuple ds) = true := by
  have a1 : PyData.canLayAll0 ds = true := by
    induction ds with
    | nil => rfl
    | cons d r ih =>
      have h1 := h d List.mem_cons_self
      show (PyData.canLay0 d && PyData.canLayAll0 r) = true
      rw [SeqAt.canLay_of_shaped h1.1, ih fun x hx => h x (List.mem_cons_of_mem _ hx)]; rfl
  have a2 : PyData.depthAll ds ≤ 60 := by
    clear a1
    induction ds with
    | nil => exact Nat.zero_le _
    | cons d r ih =>
      have h1 := h d List.mem_cons_self
      have h2 := ih fun x hx => h x (List.mem_cons_of_mem _ hx)
      show max d.depth (PyData.depthAll r) ≤ 60
      omega
  have b1 : decide (PyData.depthAll ds + 1 ≤ 64) = true := decide_eq_true (by omega)
  constructor
  · show (PyData.canLayAll0 ds && decide (PyData.depthAll ds + 1 ≤ 64)) = true
    rw [a1, b1]; rfl
  · show (PyData.canLayAll0 ds && decide (PyData.depthAll ds + 1 ≤ 64)) = true
    rw [a1, b1]; rfl
/-- data that may stand in a row -/
def Fit (d : PyData) : Prop := SeqAt.shaped d = true ∧ d.depth ≤ 60
theorem fitP {p : Pr} (h : p ∈ pairsL) : Fit (pD p) := ⟨okP h, by show max 0 (max 0 0) + 1 ≤ 60; decide⟩
theorem fitsP {ps : List Pr} (h : ∀ p ∈ ps, p ∈ pairsL) : ∀ d ∈ ps.map pD, Fit d := fun d hd => by
  obtain ⟨p, hp, rfl⟩ := List.mem_map.mp hd
  exact fitP (h p hp)
def pick (ds : List PyData) : Pr → Bool := fun p => ds.any fun z => PyData.eqv z (pD p)
theorem subP (f : Pr → Bool) : ∀ p ∈ pairsL.filter f, p ∈ pairsL := fun p h => (List.mem_filter.mp h).1
theorem pairs_len : pairsL.length = 27 := by decide +kernel
theorem lenP (f : Pr → Bool) : (pairsL.filter f).length ≤ 27 := by
  rw [← pairs_len]; exact List.length_filter_le _ _
theorem pick_eq {f : Pr → Bool} {p : Pr} (h : p ∈ pairsL) : pick ((pairsL.filter f).map pD) p = f p := by
  unfold pick
  rw [any_eq]
  by_cases e : f p = true
  · rw [e]; exact decide_eq_true (List.mem_filter.mpr ⟨h, e⟩)
  · rw [Bool.not_eq_true] at e
    rw [e]
    exact decide_eq_false fun z => by rw [(List.mem_filter.mp z).2] at e; cases e
theorem filter_same {f g : Pr → Bool} (h : ∀ p ∈ pairsL, f p = g p) : pairsL.filter f = pairsL.filter g := List.filter_congr h
theorem isP_pair {p : Pr} (h : p ∈ pairsL) : isP (pD p) = true := by
  unfold isP
  rw [any_eq]; exact decide_eq_true h
/-- at o a Pairs whose pairs are those of f -/
def PrAt (K : PySem.W.Frag) (PC : Addr) (H : Hp) (o : Addr) (f : Pr → Bool) : Prop := ∃ (dx l : Addr) (vs : List V), H o = some (.ins PC dx [("_pairs", .ref l)]) ∧ H l = some (.lst vs) ∧ DpAll K H vs ((pairsL.filter f).map pD)
/-- .. its list stands at l -/
def PrL (K : PySem.W.Frag) (PC : Addr) (H : Hp) (o l : Addr) (f : Pr → Bool) : Prop := ∃ (dx : Addr) (vs : List V), H o = some (.ins PC dx [("_pairs", .ref l)]) ∧ H l = some (.lst vs) ∧ DpAll K H vs ((pairsL.filter f).map pD)
theorem PrL.at {K : PySem.W.Frag} {PC : Addr} {H : Hp} {o l : Addr} {f : Pr → Bool} (h : PrL K PC H o l f) : PrAt K PC H o f := by
  obtain ⟨dx, vs, a⟩ := h
  exact ⟨dx, l, vs, a⟩
theorem PrAt.kp {K : PySem.W.Frag} {PC : Addr} {H H' : Hp} {o : Addr} {f : Pr → Bool} (h : PrAt K PC H o f) (k : Kp [] H H') : PrAt K PC H' o f := by
  obtain ⟨dx, l, vs, a, b, c⟩ := h
  exact ⟨dx, l, vs, k _ _ not0 a, k _ _ not0 b, dpAllN k noSq0 c⟩
/-- at a a list of the data ds -/
def LsD (K : PySem.W.Frag) (H : Hp) (a : Addr) (ds : List PyData) : Prop := ∃ vs, SqL K H a vs ∧ DpAll K H vs ds
theorem LsD.kp {K : PySem.W.Frag} {H H' : Hp} {a : Addr} {ds : List PyData} (h : LsD K H a ds) (k : Kp [] H H') : LsD K H' a ds := by
  obtain ⟨vs, a, b⟩ := h
  exact ⟨vs, k.ls not0 a, dpAllN k noSq0 b⟩
/-- the tuple of all pairs -/
def PairsK (K : PySem.W.Frag) (T : Addr) : Prop := ∃ xs, ∀ H, SqT K H T xs ∧ DpAll K H xs (pairsL.map pD)
structure PrC (K : PySem.W.Frag) (mg : Str → Option Value) (PC : Addr) : Prop where
  k : mg "Pairs" = some (.ref PC)
  cl : Cls K PC
  n1 : NoAttr K PC "_pairs"
/-- what stands of an own error with one field, and its __init__ -/
structure Er1 (P : Program) (w : World) (K : PySem.W.Frag) (mg : Str → Option Value) (base : Heap) (nm fld : Str) (C f : Addr) (fd : FuncData) (ps : List Str) (Pf : V → Prop) : Prop where
  k : mg nm = some (.ref C)
  ox : OexC K C
  ic : PySem.W.findIn K (.ref C) "__init__" = some (some (.ref f))
  ti : PySem.W.typeIn K (.ref f) = some (.type "function")
  b : Binds K fd ps []
  G : FnOk P w K mg base (L2.CX P w) 1 f fd ps (spErr1 C fld Pf)
structure Bt (K : PySem.W.Frag) (mg : Str → Option Value) (T_PAIRS : Addr) : Prop where
  b_len : mg "len" = none
  b_iter : mg "iter" = none
  b_all : mg "all" = none
  c_PAIRS : mg "PAIRS" = some (.ref T_PAIRS)
  pk : PairsK K T_PAIRS
def spPI (K : PySem.W.Frag) (PC BP : Addr) : Sp := fun vs H Q E => ∃ (o dx a : Addr) (xs : List V) (ds : List PyData), vs = [.ref o, .ref a] ∧ H o = some (.ins PC dx []) ∧ SqAny K H a xs ∧ DpAll K H xs ds ∧ (∀ d ∈ ds, Fit d) ∧ ds.length ≤ 1000 ∧
  (ds.all isP = true → ∀ l H', H l = none → PrL K PC H' o l (pick ds) → Kp [o] H H' → Q .non H') ∧
  (∀ (i : Nat) (v : V) (d : PyData), xs[i]? = some v → ds[i]? = some d → isP d = false → (∀ j e, j < i → ds[j]? = some e → isP e = true) → ∀ (e : Addr) (H' : Hp), H e = none → H' e = some (.xd [("pair", v)]) → Kp [] H H' → E (.ref BP) (some e) H')
section
variable {P : Program} {w : World} {K : PySem.W.Frag} {mg : Str → Option Value} {base : Heap} {T_PAIRS : Addr}
def PIInv (o a : Addr) (H : Hp) (ds : List PyData) (i : Nat) (σ : L2.St) (H' : Hp) : Prop := ∃ c, σ = [some (.ref o), some (.ref a), c, none] ∧ Kp [] H H' ∧ ∀ j e, j < i → ds[j]? = some e → isP e = true
def PICInv (K : PySem.W.Frag) (D : Addr) (H : Hp) (f : Pr → Bool) (i : Nat) (H' : Hp) : Prop := ∃ vs, H' D = some (.lst vs) ∧ DpAll K H' vs (((pairsL.take i).filter f).map pD) ∧ Kp [] H H'
theorem filter_take {α : Type} {f : α → Bool} {xs : List α} {i : Nat} {x : α} (h : xs[i]? = some x) : (xs.take (i + 1)).filter f = (xs.take i).filter f ++ (if f x = true then [x] else []) := by
  have e : xs.take (i + 1) = xs.take i ++ [x] := by rw [List.take_add_one, h]; rfl
  rw [e, List.filter_append]
  by_cases z : f x = true
  · rw [if_pos z, List.filter_cons, if_pos z]; rfl
  · rw [if_neg z, List.filter_cons, if_neg z]; rfl
theorem ok_Pairs_init {f : Addr} {fd : FuncData} {dvs : List V} (F : FunD K "__init__" "Pairs.__init__" (defArgs s_Pairs_init) (defBody s_Pairs_init) (defScope s_Pairs_init) dvs [] f fd) (T : Bt K mg T_PAIRS) {PC BP fB : Addr} {fdB : FuncData} (C : PrC K mg PC) (E_BadPair : Er1 P w K mg base "BadPair" "pair" BP fB fdB ["self", "pair"] (fun _ => True)) :
    FnOk P w K mg base (L2.CX P w) 3 f fd ["self", "pairs"] (spPI K PC BP) := by
  refine F.ok (CX := L2.CX P w) sc_Pairs_init (fun vs H Q E h => ?_) (fun cdv A outer s H vs Q E hr h => ?_)
  · obtain ⟨o, dx, a, xs, ds, rfl, _⟩ := h
    rfl
  · obtain ⟨o, dx, a, xs, ds, rfl, ho, hS, hD, hF, hl, qG, qB⟩ := h
    obtain ⟨zs, hz⟩ := T.pk
    refine ⟨_, (pss_cons (ps_for (passes_of rfl) rfl (pi_seq (pv 1)) (pg_name (i := 2) sc_Pairs_init.nd rfl (Or.inl rfl)) (pss_one (ps_if (pt_cmpR (op_notInT (hu5 hr)) (pv 2) (pe_glob (v := .ref T_PAIRS) rfl T.c_PAIRS rfl) (by rfl)) (pss_one (ps_raise rfl (takes_of rfl rfl rfl rfl) (pmk_oex E_BadPair.ox E_BadPair.ic E_BadPair.ti E_BadPair.G (hr.mono (by decide)) E_BadPair.b .nil passL rfl E_BadPair.k (pa_cons (pv 2) pa_nil)))) pss_nil)))
      (pss_one (ps_fld (pv 0) (pe_lc (own := [("pair", 3)]) (g := (gName 3)) rfl sc_Pairs_init.nd (pi_tup (pe_glob (v := .ref T_PAIRS) rfl T.c_PAIRS rfl)) (blkOk_by (N := ["self", "pairs", "item", "pair"]) (sc := defScope s_Pairs_init) (by decide +kernel)) (fun _ _ _ _ _ => (pg_name (i := 3) sc_Pairs_init.nd rfl (Or.inl rfl))) (fun _ _ _ _ _ => (pts_one (pt_cmpR (r := rInS K false) (op_inS (hu5 hr)) (pv 3) (pv 1) (by rfl)))) (fun _ _ _ _ _ => (pv 3))) rfl))), ?_⟩
    have shL := (shapedL hF).1
    have shT : SeqAt.shaped (.tuple (pairsL.map pD)) = true := (shapedL (fitsP fun p h => h)).2
    try simp (maxSteps := 1000000) only [tSeq, tIfS, tTest, tOp, tUn, tCB, tCons, tNil, tVar, tC, rI0, rI, rU, rEq, rNe, tRet, tRetN, tAsg, gName, gSub, tBM, tBM0, tNext, tB, tNot, tAnd, tOr, tIf, tCall, tDrop, tBreak, tCont, L2.start, tDGet, sDPut, tTup, tLst, tDNewK, tRevL, rCat, rAppend, rPop, rSetL, tAndV, tOrV, tNotV, tSl, tPart, tNoPart, tM1, gTup, gCons, gNil, cxK, cxnK, List.map_cons, List.map_nil, List.length_cons, List.length_nil, List.replicate, List.cons_append, List.nil_append, List.append_nil, List.set_cons_zero, List.set_cons_succ, List.getElem?_cons_zero, List.getElem?_cons_succ, Option.some.injEq, V.ref.injEq, V.int.injEq, V.str.injEq, V.bl.injEq, V.ty.injEq, exists_eq_left', exists_eq_left, exists_and_left, List.cons.injEq, and_true, true_and, sc_ii, sc_ss, sc_bb, sc_ni, sc_in, sc_is, sc_si, sc_nn, decide_true, decide_false, reduceCtorEq, Bool.false_eq_true, if_true, if_false, ite_true, ite_false, exists_const, eq_self, false_and, and_false, or_false, false_or, exists_false, Evl.rLenS, rSum, wipe, tYes, exists_eq, exists_eq', rIxL, rIxT, rIxS, exists_and_right, gt_iff_lt, not_true_eq_false, not_false_eq_true, Bool.not_true, Bool.not_false, decide_eq_true_eq, Nat.reduceSub, Nat.reduceAdd, List.append_assoc, tChain, tDIn, tDNotIn, sDDel, tAug, ipI]
    refine forS (K := K) (a := a) (xs := xs) (PIInv o a H ds) rfl hS ⟨none, rfl, Kp.refl _ _, fun j e hj => absurd hj (by omega)⟩ (fun j σ' H' h => by obtain ⟨_, _, k, _⟩ := h; exact k) ?_ ?_
    · rintro i x σ H1 hx ⟨c, rfl, kp, hg⟩
      obtain ⟨d, ed, hd⟩ := dpGet hD hx
      try simp (maxSteps := 1000000) only [tSeq, tIfS, tTest, tOp, tUn, tCB, tCons, tNil, tVar, tC, rI0, rI, rU, rEq, rNe, tRet, tRetN, tAsg, gName, gSub, tBM, tBM0, tNext, tB, tNot, tAnd, tOr, tIf, tCall, tDrop, tBreak, tCont, L2.start, tDGet, sDPut, tTup, tLst, tDNewK, tRevL, rCat, rAppend, rPop, rSetL, tAndV, tOrV, tNotV, tSl, tPart, tNoPart, tM1, gTup, gCons, gNil, cxK, cxnK, List.map_cons, List.map_nil, List.length_cons, List.length_nil, List.replicate, List.cons_append, List.nil_append, List.append_nil, List.set_cons_zero, List.set_cons_succ, List.getElem?_cons_zero, List.getElem?_cons_succ, Option.some.injEq, V.ref.injEq, V.int.injEq, V.str.injEq, V.bl.injEq, V.ty.injEq, exists_eq_left', exists_eq_left, exists_and_left, List.cons.injEq, and_true, true_and, sc_ii, sc_ss, sc_bb, sc_ni, sc_in, sc_is, sc_si, sc_nn, decide_true, decide_false, reduceCtorEq, Bool.false_eq_true, if_true, if_false, ite_true, ite_false, exists_const, eq_self, false_and, and_false, or_false, false_or, exists_false, Evl.rLenS, rSum, wipe, tYes, exists_eq, exists_eq', rIxL, rIxT, rIxS, exists_and_right, gt_iff_lt, not_true_eq_false, not_false_eq_true, Bool.not_true, Bool.not_false, decide_eq_true_eq, Nat.reduceSub, Nat.reduceAdd, List.append_assoc, tChain, tDIn, tDNotIn, sDDel, tAug, ipI]
      refine ⟨d, _, dpN kp noSq0 hd, .tup (hz H1).1 (hz H1).2, (hF d (List.mem_of_getElem? ed)).1, shT, ?_⟩
      have ei : ((pairsL.map pD).any fun z => PyData.eqv z d) = isP d := rfl
      rw [ei]
      cases hi : isP d with
      | false =>
        try simp (maxSteps := 1000000) only [tSeq, tIfS, tTest, tOp, tUn, tCB, tCons, tNil, tVar, tC, rI0, rI, rU, rEq, rNe, tRet, tRetN, tAsg, gName, gSub, tBM, tBM0, tNext, tB, tNot, tAnd, tOr, tIf, tCall, tDrop, tBreak, tCont, L2.start, tDGet, sDPut, tTup, tLst, tDNewK, tRevL, rCat, rAppend, rPop, rSetL, tAndV, tOrV, tNotV, tSl, tPart, tNoPart, tM1, gTup, gCons, gNil, cxK, cxnK, List.map_cons, List.map_nil, List.length_cons, List.length_nil, List.replicate, List.cons_append, List.nil_append, List.append_nil, List.set_cons_zero, List.set_cons_succ, List.getElem?_cons_zero, List.getElem?_cons_succ, Option.some.injEq, V.ref.injEq, V.int.injEq, V.str.injEq, V.bl.injEq, V.ty.injEq, exists_eq_left', exists_eq_left, exists_and_left, List.cons.injEq, and_true, true_and, sc_ii, sc_ss, sc_bb, sc_ni, sc_in, sc_is, sc_si, sc_nn, decide_true, decide_false, reduceCtorEq, Bool.false_eq_true, if_true, if_false, ite_true, ite_false, exists_const, eq_self, false_and, and_false, or_false, false_or, exists_false, Evl.rLenS, rSum, wipe, tYes, exists_eq, exists_eq', rIxL, rIxT, rIxS, exists_and_right, gt_iff_lt, not_true_eq_false, not_false_eq_true, Bool.not_true, Bool.not_false, decide_eq_true_eq, Nat.reduceSub, Nat.reduceAdd, List.append_assoc, tChain, tDIn, tDNotIn, sDDel, tAug, ipI]
        refine ⟨x, rfl, err1_made (P := fun _ => True) True.intro fun e H' ne he k => ?_⟩
        exact qB i x d hx ed hi hg e H' (kp.free0 ne) he (kp.trans k)
      | true =>
        try simp (maxSteps := 1000000) only [tSeq, tIfS, tTest, tOp, tUn, tCB, tCons, tNil, tVar, tC, rI0, rI, rU, rEq, rNe, tRet, tRetN, tAsg, gName, gSub, tBM, tBM0, tNext, tB, tNot, tAnd, tOr, tIf, tCall, tDrop, tBreak, tCont, L2.start, tDGet, sDPut, tTup, tLst, tDNewK, tRevL, rCat, rAppend, rPop, rSetL, tAndV, tOrV, tNotV, tSl, tPart, tNoPart, tM1, gTup, gCons, gNil, cxK, cxnK, List.map_cons, List.map_nil, List.length_cons, List.length_nil, List.replicate, List.cons_append, List.nil_append, List.append_nil, List.set_cons_zero, List.set_cons_succ, List.getElem?_cons_zero, List.getElem?_cons_succ, Option.some.injEq, V.ref.injEq, V.int.injEq, V.str.injEq, V.bl.injEq, V.ty.injEq, exists_eq_left', exists_eq_left, exists_and_left, List.cons.injEq, and_true, true_and, sc_ii, sc_ss, sc_bb, sc_ni, sc_in, sc_is, sc_si, sc_nn, decide_true, decide_false, reduceCtorEq, Bool.false_eq_true, if_true, if_false, ite_true, ite_false, exists_const, eq_self, false_and, and_false, or_false, false_or, exists_false, Evl.rLenS, rSum, wipe, tYes, exists_eq, exists_eq', rIxL, rIxT, rIxS, exists_and_right, gt_iff_lt, not_true_eq_false, not_false_eq_true, Bool.not_true, Bool.not_false, decide_eq_true_eq, Nat.reduceSub, Nat.reduceAdd, List.append_assoc, tChain, tDIn, tDNotIn, sDDel, tAug, ipI]
        refine ⟨_, rfl, kp, fun j e hj ej => ?_⟩
        by_cases z : j = i
        · subst z; rw [ed] at ej; cases ej; exact hi
        · exact hg j e (by omega) ej
    · rintro σ H1 ⟨c, rfl, kp, hg⟩
      try simp (maxSteps := 1000000) only [tSeq, tIfS, tTest, tOp, tUn, tCB, tCons, tNil, tVar, tC, rI0, rI, rU, rEq, rNe, tRet, tRetN, tAsg, gName, gSub, tBM, tBM0, tNext, tB, tNot, tAnd, tOr, tIf, tCall, tDrop, tBreak, tCont, L2.start, tDGet, sDPut, tTup, tLst, tDNewK, tRevL, rCat, rAppend, rPop, rSetL, tAndV, tOrV, tNotV, tSl, tPart, tNoPart, tM1, gTup, gCons, gNil, cxK, cxnK, List.map_cons, List.map_nil, List.length_cons, List.length_nil, List.replicate, List.cons_append, List.nil_append, List.append_nil, List.set_cons_zero, List.set_cons_succ, List.getElem?_cons_zero, List.getElem?_cons_succ, Option.some.injEq, V.ref.injEq, V.int.injEq, V.str.injEq, V.bl.injEq, V.ty.injEq, exists_eq_left', exists_eq_left, exists_and_left, List.cons.injEq, and_true, true_and, sc_ii, sc_ss, sc_bb, sc_ni, sc_in, sc_is, sc_si, sc_nn, decide_true, decide_false, reduceCtorEq, Bool.false_eq_true, if_true, if_false, ite_true, ite_false, exists_const, eq_self, false_and, and_false, or_false, false_or, exists_false, Evl.rLenS, rSum, wipe, tYes, exists_eq, exists_eq', rIxL, rIxT, rIxS, exists_and_right, gt_iff_lt, not_true_eq_false, not_false_eq_true, Bool.not_true, Bool.not_false, decide_eq_true_eq, Nat.reduceSub, Nat.reduceAdd, List.append_assoc, tChain, tDIn, tDNotIn, sDDel, tAug, ipI]
      have allP : ds.all isP = true := by
        rw [List.all_eq_true]
        intro d hd
        obtain ⟨j, ej⟩ := List.getElem?_of_mem hd
        exact hg j d (by rw [dpLen hD]; exact (List.getElem?_eq_some_iff.mp ej).1) ej
      refine ⟨T_PAIRS, rfl, ⟨_, (hz H1).1⟩, fun D nD => lc_tup (K := K) (a := T_PAIRS) (xs := zs) (PICInv K D H (pick ds)) ⟨[], upd_same, .nil, kp.trans (Kp.new nD)⟩ (fun i H _ _ => (hz H).1) ?_ ?_⟩
      · rintro i x H2 hx ⟨vs, hv, hvs, k2⟩
        obtain ⟨d, ed, hd⟩ := dpGet (hz H2).2 hx
        rw [List.getElem?_map] at ed
        obtain ⟨p, ep, rfl⟩ : ∃ p, pairsL[i]? = some p ∧ pD p = d := by
          cases e : pairsL[i]? with
          | none => rw [e] at ed; cases ed
          | some p => rw [e] at ed; exact ⟨p, rfl, Option.some.inj ed⟩
        have hp : p ∈ pairsL := List.mem_of_getElem? ep
        have hvl : vs.length ≤ 27 := by
          rw [dpLen hvs, List.length_map]
          have h1 := List.length_filter_le (pick ds) (pairsL.take i)
          have h2 : (pairsL.take i).length ≤ pairsL.length := by rw [List.length_take]; omega
          rw [pairs_len] at h2
          omega
        try simp (maxSteps := 1000000) only [tSeq, tIfS, tTest, tOp, tUn, tCB, tCons, tNil, tVar, tC, rI0, rI, rU, rEq, rNe, tRet, tRetN, tAsg, gName, gSub, tBM, tBM0, tNext, tB, tNot, tAnd, tOr, tIf, tCall, tDrop, tBreak, tCont, L2.start, tDGet, sDPut, tTup, tLst, tDNewK, tRevL, rCat, rAppend, rPop, rSetL, tAndV, tOrV, tNotV, tSl, tPart, tNoPart, tM1, gTup, gCons, gNil, cxK, cxnK, List.map_cons, List.map_nil, List.length_cons, List.length_nil, List.replicate, List.cons_append, List.nil_append, List.append_nil, List.set_cons_zero, List.set_cons_succ, List.getElem?_cons_zero, List.getElem?_cons_succ, Option.some.injEq, V.ref.injEq, V.int.injEq, V.str.injEq, V.bl.injEq, V.ty.injEq, exists_eq_left', exists_eq_left, exists_and_left, List.cons.injEq, and_true, true_and, sc_ii, sc_ss, sc_bb, sc_ni, sc_in, sc_is, sc_si, sc_nn, decide_true, decide_false, reduceCtorEq, Bool.false_eq_true, if_true, if_false, ite_true, ite_false, exists_const, eq_self, false_and, and_false, or_false, false_or, exists_false, Evl.rLenS, rSum, wipe, tYes, exists_eq, exists_eq', rIxL, rIxT, rIxS, exists_and_right, gt_iff_lt, not_true_eq_false, not_false_eq_true, Bool.not_true, Bool.not_false, decide_eq_true_eq, Nat.reduceSub, Nat.reduceAdd, List.append_assoc, tChain, tDIn, tDNotIn, sDDel, tAug, ipI]
        refine ⟨pD p, ds, a, xs, rfl, k2.anyN noSq0 hS, dpAllN k2 noSq0 hD, hd, okP hp, shL, ?_⟩
        have epk : (ds.any fun z => PyData.eqv z (pD p)) = pick ds p := rfl
        rw [epk]
        cases hk : pick ds p with
        | true =>
          try simp (maxSteps := 1000000) only [tSeq, tIfS, tTest, tOp, tUn, tCB, tCons, tNil, tVar, tC, rI0, rI, rU, rEq, rNe, tRet, tRetN, tAsg, gName, gSub, tBM, tBM0, tNext, tB, tNot, tAnd, tOr, tIf, tCall, tDrop, tBreak, tCont, L2.start, tDGet, sDPut, tTup, tLst, tDNewK, tRevL, rCat, rAppend, rPop, rSetL, tAndV, tOrV, tNotV, tSl, tPart, tNoPart, tM1, gTup, gCons, gNil, cxK, cxnK, List.map_cons, List.map_nil, List.length_cons, List.length_nil, List.replicate, List.cons_append, List.nil_append, List.append_nil, List.set_cons_zero, List.set_cons_succ, List.getElem?_cons_zero, List.getElem?_cons_succ, Option.some.injEq, V.ref.injEq, V.int.injEq, V.str.injEq, V.bl.injEq, V.ty.injEq, exists_eq_left', exists_eq_left, exists_and_left, List.cons.injEq, and_true, true_and, sc_ii, sc_ss, sc_bb, sc_ni, sc_in, sc_is, sc_si, sc_nn, decide_true, decide_false, reduceCtorEq, Bool.false_eq_true, if_true, if_false, ite_true, ite_false, exists_const, eq_self, false_and, and_false, or_false, false_or, exists_false, Evl.rLenS, rSum, wipe, tYes, exists_eq, exists_eq', rIxL, rIxT, rIxS, exists_and_right, gt_iff_lt, not_true_eq_false, not_false_eq_true, Bool.not_true, Bool.not_false, decide_eq_true_eq, Nat.reduceSub, Nat.reduceAdd, List.append_assoc, tChain, tDIn, tDNotIn, sDDel, tAug, ipI]
          have nw : Kp [D] H2 (upd H2 D (.lst (vs ++ [x]))) := (Kp.refl [D] H2).put (by simp)
          have nt : NoTp H2 [D] := noTp1 hv
          have noL : ∀ l : List Pr, noLsAll (l.map pD) = true := fun l => by
            induction l with
            | nil => rfl
            | cons p r ih => show (noLs (pD p) && noLsAll (r.map pD)) = true; rw [ih]; rfl
          refine ⟨_, hv, smallL (by omega), _, upd_same, ?_, k2.wr (kp.free0 nD)⟩
          rw [filter_take ep, if_pos hk, List.map_append]
          exact dpApp (dpAllT nw nt hvs (noL _)) (.cons (dpT nw nt hd rfl) .nil)
        | false =>
          try simp (maxSteps := 1000000) only [tSeq, tIfS, tTest, tOp, tUn, tCB, tCons, tNil, tVar, tC, rI0, rI, rU, rEq, rNe, tRet, tRetN, tAsg, gName, gSub, tBM, tBM0, tNext, tB, tNot, tAnd, tOr, tIf, tCall, tDrop, tBreak, tCont, L2.start, tDGet, sDPut, tTup, tLst, tDNewK, tRevL, rCat, rAppend, rPop, rSetL, tAndV, tOrV, tNotV, tSl, tPart, tNoPart, tM1, gTup, gCons, gNil, cxK, cxnK, List.map_cons, List.map_nil, List.length_cons, List.length_nil, List.replicate, List.cons_append, List.nil_append, List.append_nil, List.set_cons_zero, List.set_cons_succ, List.getElem?_cons_zero, List.getElem?_cons_succ, Option.some.injEq, V.ref.injEq, V.int.injEq, V.str.injEq, V.bl.injEq, V.ty.injEq, exists_eq_left', exists_eq_left, exists_and_left, List.cons.injEq, and_true, true_and, sc_ii, sc_ss, sc_bb, sc_ni, sc_in, sc_is, sc_si, sc_nn, decide_true, decide_false, reduceCtorEq, Bool.false_eq_true, if_true, if_false, ite_true, ite_false, exists_const, eq_self, false_and, and_false, or_false, false_or, exists_false, Evl.rLenS, rSum, wipe, tYes, exists_eq, exists_eq', rIxL, rIxT, rIxS, exists_and_right, gt_iff_lt, not_true_eq_false, not_false_eq_true, Bool.not_true, Bool.not_false, decide_eq_true_eq, Nat.reduceSub, Nat.reduceAdd, List.append_assoc, tChain, tDIn, tDNotIn, sDDel, tAug, ipI]
          refine ⟨vs, hv, ?_, k2⟩
          rw [filter_take ep, if_neg (by rw [hk]; exact Bool.false_ne_true), List.append_nil]
          exact hvs
      · rintro H2 ⟨vs, hv, hvs, k2⟩
        have hz27 : zs.length = pairsL.length := by
          have := dpLen (hz H2).2
          rw [List.length_map] at this; exact this
        rw [hz27, List.take_length] at hvs
        have ho2 := k2 _ _ not0 ho
        try simp (maxSteps := 1000000) only [tSeq, tIfS, tTest, tOp, tUn, tCB, tCons, tNil, tVar, tC, rI0, rI, rU, rEq, rNe, tRet, tRetN, tAsg, gName, gSub, tBM, tBM0, tNext, tB, tNot, tAnd, tOr, tIf, tCall, tDrop, tBreak, tCont, L2.start, tDGet, sDPut, tTup, tLst, tDNewK, tRevL, rCat, rAppend, rPop, rSetL, tAndV, tOrV, tNotV, tSl, tPart, tNoPart, tM1, gTup, gCons, gNil, cxK, cxnK, List.map_cons, List.map_nil, List.length_cons, List.length_nil, List.replicate, List.cons_append, List.nil_append, List.append_nil, List.set_cons_zero, List.set_cons_succ, List.getElem?_cons_zero, List.getElem?_cons_succ, Option.some.injEq, V.ref.injEq, V.int.injEq, V.str.injEq, V.bl.injEq, V.ty.injEq, exists_eq_left', exists_eq_left, exists_and_left, List.cons.injEq, and_true, true_and, sc_ii, sc_ss, sc_bb, sc_ni, sc_in, sc_is, sc_si, sc_nn, decide_true, decide_false, reduceCtorEq, Bool.false_eq_true, if_true, if_false, ite_true, ite_false, exists_const, eq_self, false_and, and_false, or_false, false_or, exists_false, Evl.rLenS, rSum, wipe, tYes, exists_eq, exists_eq', rIxL, rIxT, rIxS, exists_and_right, gt_iff_lt, not_true_eq_false, not_false_eq_true, Bool.not_true, Bool.not_false, decide_eq_true_eq, Nat.reduceSub, Nat.reduceAdd, List.append_assoc, tChain, tDIn, tDNotIn, sDDel, tAug, ipI]
        refine ⟨PC, dx, [], ho2, C.cl, C.n1, by decide, ?_⟩
        have kO : Kp [o] H (upd H2 o (.ins PC dx (putF "_pairs" (.ref D) []))) := (k2.of0).put (by simp)
        have nD' : D ≠ o := ne_of hv ho2 (fun z => by cases z)
        have kO2 : Kp [o] H2 (upd H2 o (.ins PC dx (putF "_pairs" (.ref D) []))) := (Kp.refl [o] H2).put (by simp)
        refine qG allP D _ (kp.free0 nD) ⟨dx, vs, upd_same, by rw [upd_ne nD']; exact hv, dpAllN kO2 (noSq1 ho2) hvs⟩ kO
def spCont (K : PySem.W.Frag) (PC : Addr) : Sp := fun vs H Q _ => ∃ (o : Addr) (f : Pr → Bool) (v : V) (d : PyData), vs = [.ref o, v] ∧ PrAt K PC H o f ∧ Dp K H v d ∧ SeqAt.shaped d = true ∧ Q (.bl (((pairsL.filter f).map pD).any fun z => PyData.eqv z d)) H
theorem ok_Pairs_contains {f : Addr} {fd : FuncData} (F : Fun K "__contains__" "Pairs.__contains__" s_Pairs_contains f fd) {PC : Addr} (C : PrC K mg PC) : FnOk P w K mg base CX0 1 f fd ["self", "x"] (spCont K PC) := by
  refine F.ok sc_Pairs_contains (fun vs H Q E h => ?_) (fun cdv A outer s H vs Q E hr h => ?_)
  · obtain ⟨o, g, v, d, rfl, _⟩ := h
    rfl
  · obtain ⟨o, g, v, d, rfl, ⟨dx, l, us, ho, hl, hD⟩, hd, sd, q⟩ := h
    refine ⟨_, (pss_one (ps_ret (pe_cmpR (op_inD (hu5 hr)) (pv 1) (pe_fld (pv 0) rfl) (by rfl)))), ?_⟩
    try simp (maxSteps := 1000000) only [tSeq, tIfS, tTest, tOp, tUn, tCB, tCons, tNil, tVar, tC, rI0, rI, rU, rEq, rNe, tRet, tRetN, tAsg, gName, gSub, tBM, tBM0, tNext, tB, tNot, tAnd, tOr, tIf, tCall, tDrop, tBreak, tCont, L2.start, tDGet, sDPut, tTup, tLst, tDNewK, tRevL, rCat, rAppend, rPop, rSetL, tAndV, tOrV, tNotV, tSl, tPart, tNoPart, tM1, gTup, gCons, gNil, cxK, cxnK, List.map_cons, List.map_nil, List.length_cons, List.length_nil, List.replicate, List.cons_append, List.nil_append, List.append_nil, List.set_cons_zero, List.set_cons_succ, List.getElem?_cons_zero, List.getElem?_cons_succ, Option.some.injEq, V.ref.injEq, V.int.injEq, V.str.injEq, V.bl.injEq, V.ty.injEq, exists_eq_left', exists_eq_left, exists_and_left, List.cons.injEq, and_true, true_and, sc_ii, sc_ss, sc_bb, sc_ni, sc_in, sc_is, sc_si, sc_nn, decide_true, decide_false, reduceCtorEq, Bool.false_eq_true, if_true, if_false, ite_true, ite_false, exists_const, eq_self, false_and, and_false, or_false, false_or, exists_false, Evl.rLenS, rSum, wipe, tYes, exists_eq, exists_eq', rIxL, rIxT, rIxS, exists_and_right, gt_iff_lt, not_true_eq_false, not_false_eq_true, Bool.not_true, Bool.not_false, decide_eq_true_eq, Nat.reduceSub, Nat.reduceAdd, List.append_assoc, tChain, tDIn, tDNotIn, sDDel, tAug, ipI]
    exact ⟨.ref o, rfl, o, PC, dx, _, .ref l, rfl, ho, C.cl, C.n1, rfl, d, _, hd, .lst (sq_l hl) hD, sd, (shapedL (fitsP (subP g))).1, q⟩
def spLen (K : PySem.W.Frag) (PC : Addr) : Sp := fun vs H Q _ => ∃ (o : Addr) (f : Pr → Bool), vs = [.ref o] ∧ PrAt K PC H o f ∧ Q (.int (pairsL.filter f).length) H
theorem ok_Pairs_len {f : Addr} {fd : FuncData} (F : Fun K "__len__" "Pairs.__len__" s_Pairs_len f fd) (T : Bt K mg T_PAIRS) {PC : Addr} (C : PrC K mg PC) : FnOk P w K mg base CX0 1 f fd ["self"] (spLen K PC) := by
  refine F.ok sc_Pairs_len (fun vs H Q E h => ?_) (fun cdv A outer s H vs Q E hr h => ?_)
  · obtain ⟨o, g, rfl, _⟩ := h
    rfl
  · obtain ⟨o, g, rfl, ⟨dx, l, us, ho, hl, hD⟩, q⟩ := h
    refine ⟨_, (pss_one (ps_ret (pe_callB (id := "len") (r := Evl.rLenS K) call_len_seq (by rfl) T.b_len PySem.boot_len (pa_cons (pe_fld (pv 0) rfl) pa_nil)))), ?_⟩
    try simp (maxSteps := 1000000) only [tSeq, tIfS, tTest, tOp, tUn, tCB, tCons, tNil, tVar, tC, rI0, rI, rU, rEq, rNe, tRet, tRetN, tAsg, gName, gSub, tBM, tBM0, tNext, tB, tNot, tAnd, tOr, tIf, tCall, tDrop, tBreak, tCont, L2.start, tDGet, sDPut, tTup, tLst, tDNewK, tRevL, rCat, rAppend, rPop, rSetL, tAndV, tOrV, tNotV, tSl, tPart, tNoPart, tM1, gTup, gCons, gNil, cxK, cxnK, List.map_cons, List.map_nil, List.length_cons, List.length_nil, List.replicate, List.cons_append, List.nil_append, List.append_nil, List.set_cons_zero, List.set_cons_succ, List.getElem?_cons_zero, List.getElem?_cons_succ, Option.some.injEq, V.ref.injEq, V.int.injEq, V.str.injEq, V.bl.injEq, V.ty.injEq, exists_eq_left', exists_eq_left, exists_and_left, List.cons.injEq, and_true, true_and, sc_ii, sc_ss, sc_bb, sc_ni, sc_in, sc_is, sc_si, sc_nn, decide_true, decide_false, reduceCtorEq, Bool.false_eq_true, if_true, if_false, ite_true, ite_false, exists_const, eq_self, false_and, and_false, or_false, false_or, exists_false, Evl.rLenS, rSum, wipe, tYes, exists_eq, exists_eq', rIxL, rIxT, rIxS, exists_and_right, gt_iff_lt, not_true_eq_false, not_false_eq_true, Bool.not_true, Bool.not_false, decide_eq_true_eq, Nat.reduceSub, Nat.reduceAdd, List.append_assoc, tChain, tDIn, tDNotIn, sDDel, tAug, ipI]
    refine ⟨.ref o, rfl, o, PC, dx, _, .ref l, rfl, ho, C.cl, C.n1, rfl, l, rfl, us, .inl (sq_l hl), ?_⟩
    rw [dpLen hD, List.length_map]
    exact q
def spIter (PC : Addr) : Sp := fun vs H Q _ => ∃ (o dx l : Addr) (us : List V), vs = [.ref o] ∧ H o = some (.ins PC dx [("_pairs", .ref l)]) ∧ H l = some (.lst us) ∧ ∀ it, H it = none → Q (.ref it) (upd H it (ItO l it 0))
theorem ok_Pairs_iter {f : Addr} {fd : FuncData} (F : Fun K "__iter__" "Pairs.__iter__" s_Pairs_iter f fd) (T : Bt K mg T_PAIRS) {PC : Addr} (C : PrC K mg PC) : FnOk P w K mg base CX0 1 f fd ["self"] (spIter PC) := by
  refine F.ok sc_Pairs_iter (fun vs H Q E h => ?_) (fun cdv A outer s H vs Q E hr h => ?_)
  · obtain ⟨o, dx, l, us, rfl, _⟩ := h
    rfl
  · obtain ⟨o, dx, l, us, rfl, ho, hl, q⟩ := h
    refine ⟨_, (pss_one (ps_ret (pe_callB (id := "iter") (r := rIter K) call_iterL (by rfl) T.b_iter (by decide +kernel) (pa_cons (pe_fld (pv 0) rfl) pa_nil)))), ?_⟩
    try simp (maxSteps := 1000000) only [tSeq, tIfS, tTest, tOp, tUn, tCB, tCons, tNil, tVar, tC, rI0, rI, rU, rEq, rNe, tRet, tRetN, tAsg, gName, gSub, tBM, tBM0, tNext, tB, tNot, tAnd, tOr, tIf, tCall, tDrop, tBreak, tCont, L2.start, tDGet, sDPut, tTup, tLst, tDNewK, tRevL, rCat, rAppend, rPop, rSetL, tAndV, tOrV, tNotV, tSl, tPart, tNoPart, tM1, gTup, gCons, gNil, cxK, cxnK, List.map_cons, List.map_nil, List.length_cons, List.length_nil, List.replicate, List.cons_append, List.nil_append, List.append_nil, List.set_cons_zero, List.set_cons_succ, List.getElem?_cons_zero, List.getElem?_cons_succ, Option.some.injEq, V.ref.injEq, V.int.injEq, V.str.injEq, V.bl.injEq, V.ty.injEq, exists_eq_left', exists_eq_left, exists_and_left, List.cons.injEq, and_true, true_and, sc_ii, sc_ss, sc_bb, sc_ni, sc_in, sc_is, sc_si, sc_nn, decide_true, decide_false, reduceCtorEq, Bool.false_eq_true, if_true, if_false, ite_true, ite_false, exists_const, eq_self, false_and, and_false, or_false, false_or, exists_false, Evl.rLenS, rSum, wipe, tYes, exists_eq, exists_eq', rIxL, rIxT, rIxS, exists_and_right, gt_iff_lt, not_true_eq_false, not_false_eq_true, Bool.not_true, Bool.not_false, decide_eq_true_eq, Nat.reduceSub, Nat.reduceAdd, List.append_assoc, tChain, tDIn, tDNotIn, sDDel, tAug, ipI]
    exact ⟨.ref o, rfl, o, PC, dx, _, .ref l, rfl, ho, C.cl, C.n1, rfl, l, us, rfl, sq_l hl, q⟩
/-! ### new Pairs -/
theorem Kp.one {H H1 H2 : Hp} {o : Addr} (a : Kp [] H H1) (b : Kp [o] H1 H2) (h : H o = none) : Kp [] H H2 := fun c u _ e => b c u (not1 fun z => by rw [z, h] at e; cases e) (a c u not0 e)
theorem PrAt.same {PC : Addr} {H : Hp} {o : Addr} {f g : Pr → Bool} (h : PrAt K PC H o f) (e : ∀ p ∈ pairsL, f p = g p) : PrAt K PC H o g := by
  obtain ⟨dx, l, vs, a, b, c⟩ := h
  rw [filter_same e] at c
  exact ⟨dx, l, vs, a, b, c⟩
theorem pr_makeL {PC BP : Addr} {H2 : Hp} {D : Addr} {ws : List V} {ds : List PyData} {Q : VK} (hD : SqAny K H2 D ws) (hd : DpAll K H2 ws ds) (fit : ∀ d ∈ ds, Fit d) (hl : ds.length ≤ 1000) (all : ∀ d ∈ ds, isP d = true) (q : ∀ o l H', H2 o = none → H2 l = none → PrL K PC H' o l (pick ds) → Kp [] H2 H' → Q (.ref o) H') :
    ∀ x dx, H2 x = none → H2 dx = none → dx ≠ x → spPI K PC BP (.ref x :: ([.ref D] ++ [])) (upd (upd H2 dx (.own x)) x (.ins PC dx [])) (fun v H3 => v = .non ∧ Q (.ref x) H3) E0 := by
  intro x dx nx nd hne
  have k1 : Kp [] H2 (upd H2 dx (.own x)) := Kp.new nd
  have k2 : Kp [] (upd H2 dx (.own x)) (upd (upd H2 dx (.own x)) x (.ins PC dx [])) := Kp.new (by rw [upd_ne hne.symm]; exact nx)
  have k := k1.trans k2
  refine ⟨x, dx, D, ws, ds, rfl, upd_same, k.anyN noSq0 hD, dpAllN k noSq0 hd, fit, hl, fun _ l H' nl hp hk => ⟨rfl, q x l H' nx (k.free0 nl) hp (k.one hk nx)⟩, ?_⟩
  intro i v d _ e hb
  rw [all d (List.mem_of_getElem? e)] at hb
  cases hb
theorem pr_make {PC BP : Addr} {H2 : Hp} {D : Addr} {ws : List V} {ds : List PyData} {Q : VK} (hD : SqAny K H2 D ws) (hd : DpAll K H2 ws ds) (fit : ∀ d ∈ ds, Fit d) (hl : ds.length ≤ 1000) (all : ∀ d ∈ ds, isP d = true) (q : ∀ o H', H2 o = none → PrAt K PC H' o (pick ds) → Kp [] H2 H' → Q (.ref o) H') :
    ∀ x dx, H2 x = none → H2 dx = none → dx ≠ x → spPI K PC BP (.ref x :: ([.ref D] ++ [])) (upd (upd H2 dx (.own x)) x (.ins PC dx [])) (fun v H3 => v = .non ∧ Q (.ref x) H3) E0 :=
  pr_makeL hD hd fit hl all fun o l H' no _ hp hk => q o H' no hp.at hk
def LcD (K : PySem.W.Frag) (D : Addr) (H : Hp) (ps : Nat → List Pr) (i : Nat) (H' : Hp) : Prop := ∃ ws, H' D = some (.lst ws) ∧ DpAll K H' ws ((ps i).map pD) ∧ Kp [] H H'
theorem noLsP : ∀ l : List Pr, noLsAll (l.map pD) = true
  | [] => rfl
  | p :: r => by show (noLs (pD p) && noLsAll (r.map pD)) = true; rw [noLsP r]; rfl
theorem lcD_put {D : Addr} {H H2 : Hp} {ps : Nat → List Pr} {i : Nat} {x : V} {p : Pr} (h : LcD K D H ps i H2) (nD : H D = none) (hx : Dp K H2 x (pD p)) (e : ps (i + 1) = ps i ++ [p]) (hl : (ps i).length ≤ 1000) :
    ∃ acc, H2 D = some (.lst acc) ∧ acc.length < sizeLine ∧ LcD K D H ps (i + 1) (upd H2 D (.lst (acc ++ [x]))) := by
  obtain ⟨ws, hv, hws, k⟩ := h
  have nw : Kp [D] H2 (upd H2 D (.lst (ws ++ [x]))) := (Kp.refl [D] H2).put (by simp)
  have nt : NoTp H2 [D] := noTp1 hv
  refine ⟨ws, hv, smallL (by rw [dpLen hws, List.length_map]; omega), _, upd_same, ?_, k.wr nD⟩
  rw [e, List.map_append]
  exact dpApp (dpAllT nw nt hws (noLsP _)) (.cons (dpT nw nt hx rfl) .nil)
theorem lcD_skip {D : Addr} {H H2 : Hp} {ps : Nat → List Pr} {i : Nat} (h : LcD K D H ps i H2) (e : ps (i + 1) = ps i) : LcD K D H ps (i + 1) H2 := by
  obtain ⟨ws, hv, hws, k⟩ := h
  exact ⟨ws, hv, by rw [e]; exact hws, k⟩
theorem pD_at {ps : List Pr} {i : Nat} {d : PyData} (h : (ps.map pD)[i]? = some d) : ∃ p, ps[i]? = some p ∧ d = pD p := by
  rw [List.getElem?_map] at h
  cases e : ps[i]? with
  | none => rw [e] at h; cases h
  | some p => rw [e] at h; exact ⟨p, rfl, (Option.some.inj h).symm⟩
theorem take_len {α : Type} {f : α → Bool} {xs : List α} {i n : Nat} (h : xs.length ≤ n) : ((xs.take i).filter f).length ≤ n := by
  have h1 := List.length_filter_le f (xs.take i)
  have h2 : (xs.take i).length ≤ xs.length := by rw [List.length_take]; omega
  omega
def spBin (K : PySem.W.Frag) (PC : Addr) (op : Bool → Bool → Bool) : Sp := fun vs H Q _ => ∃ (o1 o2 : Addr) (f1 f2 : Pr → Bool), vs = [.ref o1, .ref o2] ∧ PrAt K PC H o1 f1 ∧ PrAt K PC H o2 f2 ∧ ∀ o H', H o = none → PrAt K PC H' o (fun p => op (f1 p) (f2 p)) → Kp [] H H' → Q (.ref o) H'
theorem pick_filter {f g : Pr → Bool} {p : Pr} (h : p ∈ pairsL) : pick (((pairsL.filter f).filter g).map pD) p = (f p && g p) := by
  rw [show (pairsL.filter f).filter g = pairsL.filter (fun p => f p && g p) by rw [List.filter_filter]; exact List.filter_congr fun x _ => Bool.and_comm _ _]
  exact pick_eq h
structure Bt2 (K : PySem.W.Frag) (mg : Str → Option Value) (T_PAIRS PC fI : Addr) : Prop extends Bt K mg T_PAIRS where
  k_Pairs : mg "Pairs" = some (.ref PC)
  M_Pairs : Mk K PC fI
theorem all_isP {ps : List Pr} (h : ∀ p ∈ ps, p ∈ pairsL) : ∀ d ∈ ps.map pD, isP d = true := fun d hd => by
  obtain ⟨p, hp, rfl⟩ := List.mem_map.mp hd
  exact isP_pair (h p hp)
theorem sub_ff {f g : Pr → Bool} : ∀ p ∈ (pairsL.filter f).filter g, p ∈ pairsL := fun p h => subP f p (List.mem_filter.mp h).1
theorem ok_Pairs_and {f : Addr} {fd : FuncData} (F : Fun K "__and__" "Pairs.__and__" s_Pairs_and f fd) {PC BP fI : Addr} {fdI : FuncData} (T : Bt2 K mg T_PAIRS PC fI) (C : PrC K mg PC) (bI_Pairs : Binds K fdI ["self", "pairs"] []) (G_Pairs_init : FnOk P w K mg base (L2.CX P w) 3 fI fdI ["self", "pairs"] (spPI K PC BP)) :
    FnOk P w K mg base CX0 5 f fd ["self", "other"] (spBin K PC (· && ·)) := by
  refine F.ok sc_Pairs_and (fun vs H Q E h => ?_) (fun cdv A outer s H vs Q E hr h => ?_)
  · obtain ⟨o1, o2, f1, f2, rfl, _⟩ := h
    rfl
  · obtain ⟨o1, o2, f1, f2, rfl, h1, h2, q⟩ := h
    have M_Pairs := T.M_Pairs
    refine ⟨_, (pss_one (ps_ret (pe_make M_Pairs G_Pairs_init (hr.mono (by decide)) rfl C.k bI_Pairs .nil passL (pa_cons (pe_lc (own := [("pair", 2)]) (g := (gName 2)) rfl sc_Pairs_and.nd (pi_list (pe_fld (pv 0) rfl)) (blkOk_by (N := ["self", "other", "pair"]) (sc := defScope s_Pairs_and) (by decide +kernel)) (fun _ _ _ _ _ => (pg_name (i := 2) sc_Pairs_and.nd rfl (Or.inl rfl))) (fun _ _ _ _ _ => (pts_one (pt_cmpR (r := rInD K) (op_inD (hu5 hr)) (pv 2) ((pe_fld (pv 1) rfl) : PE _ _ (tFld K _ "_pairs")) (by rfl)))) (fun _ _ _ _ _ => (pv 2))) pa_nil)))), ?_⟩
    try simp (maxSteps := 1000000) only [tSeq, tIfS, tTest, tOp, tUn, tCB, tCons, tNil, tVar, tC, rI0, rI, rU, rEq, rNe, tRet, tRetN, tAsg, gName, gSub, tBM, tBM0, tNext, tB, tNot, tAnd, tOr, tIf, tCall, tDrop, tBreak, tCont, L2.start, tDGet, sDPut, tTup, tLst, tDNewK, tRevL, rCat, rAppend, rPop, rSetL, tAndV, tOrV, tNotV, tSl, tPart, tNoPart, tM1, gTup, gCons, gNil, cxK, cxnK, List.map_cons, List.map_nil, List.length_cons, List.length_nil, List.replicate, List.cons_append, List.nil_append, List.append_nil, List.set_cons_zero, List.set_cons_succ, List.getElem?_cons_zero, List.getElem?_cons_succ, Option.some.injEq, V.ref.injEq, V.int.injEq, V.str.injEq, V.bl.injEq, V.ty.injEq, exists_eq_left', exists_eq_left, exists_and_left, List.cons.injEq, and_true, true_and, sc_ii, sc_ss, sc_bb, sc_ni, sc_in, sc_is, sc_si, sc_nn, decide_true, decide_false, reduceCtorEq, Bool.false_eq_true, if_true, if_false, ite_true, ite_false, exists_const, eq_self, false_and, and_false, or_false, false_or, exists_false, Evl.rLenS, rSum, wipe, tYes, exists_eq, exists_eq', rIxL, rIxT, rIxS, exists_and_right, gt_iff_lt, not_true_eq_false, not_false_eq_true, Bool.not_true, Bool.not_false, decide_eq_true_eq, Nat.reduceSub, Nat.reduceAdd, List.append_assoc, tChain, tDIn, tDNotIn, sDDel, tAug, ipI, tMake]
    obtain ⟨dx, l, us, ho, hl, hD⟩ := h1
    refine ⟨.ref o1, rfl, o1, PC, dx, _, .ref l, rfl, ho, C.cl, C.n1, rfl, l, rfl, ⟨us, sq_l hl⟩, fun D nD => lc_list (K := K) (a := l) (xs := us) (LcD K D H fun i => ((pairsL.filter f1).take i).filter f2) ⟨[], upd_same, .nil, Kp.new nD⟩ (fun i H' _ h => by obtain ⟨_, _, _, k⟩ := h; exact k.ls not0 (sq_l hl)) ?_ ?_⟩
    · rintro i x H2 hx hh
      have k2 : Kp [] H H2 := by obtain ⟨_, _, _, k⟩ := hh; exact k
      obtain ⟨d, ed, hd⟩ := dpGet (dpAllN k2 noSq0 hD) hx
      obtain ⟨p, ep, rfl⟩ := pD_at ed
      have hp : p ∈ pairsL := subP f1 p (List.mem_of_getElem? ep)
      obtain ⟨dx2, l2, us2, ho2, hl2, hD2⟩ := h2.kp k2
      try simp (maxSteps := 1000000) only [tSeq, tIfS, tTest, tOp, tUn, tCB, tCons, tNil, tVar, tC, rI0, rI, rU, rEq, rNe, tRet, tRetN, tAsg, gName, gSub, tBM, tBM0, tNext, tB, tNot, tAnd, tOr, tIf, tCall, tDrop, tBreak, tCont, L2.start, tDGet, sDPut, tTup, tLst, tDNewK, tRevL, rCat, rAppend, rPop, rSetL, tAndV, tOrV, tNotV, tSl, tPart, tNoPart, tM1, gTup, gCons, gNil, cxK, cxnK, List.map_cons, List.map_nil, List.length_cons, List.length_nil, List.replicate, List.cons_append, List.nil_append, List.append_nil, List.set_cons_zero, List.set_cons_succ, List.getElem?_cons_zero, List.getElem?_cons_succ, Option.some.injEq, V.ref.injEq, V.int.injEq, V.str.injEq, V.bl.injEq, V.ty.injEq, exists_eq_left', exists_eq_left, exists_and_left, List.cons.injEq, and_true, true_and, sc_ii, sc_ss, sc_bb, sc_ni, sc_in, sc_is, sc_si, sc_nn, decide_true, decide_false, reduceCtorEq, Bool.false_eq_true, if_true, if_false, ite_true, ite_false, exists_const, eq_self, false_and, and_false, or_false, false_or, exists_false, Evl.rLenS, rSum, wipe, tYes, exists_eq, exists_eq', rIxL, rIxT, rIxS, exists_and_right, gt_iff_lt, not_true_eq_false, not_false_eq_true, Bool.not_true, Bool.not_false, decide_eq_true_eq, Nat.reduceSub, Nat.reduceAdd, List.append_assoc, tChain, tDIn, tDNotIn, sDDel, tAug, ipI]
      refine ⟨.ref o2, rfl, o2, PC, dx2, _, .ref l2, rfl, ho2, C.cl, C.n1, rfl, pD p, _, hd, .lst (sq_l hl2) hD2, okP hp, (shapedL (fitsP (subP f2))).1, ?_⟩
      have e : (((pairsL.filter f2).map pD).any fun z => PyData.eqv z (pD p)) = f2 p := pick_eq hp
      rw [e]
      cases hk : f2 p with
      | true =>
        try simp (maxSteps := 1000000) only [tSeq, tIfS, tTest, tOp, tUn, tCB, tCons, tNil, tVar, tC, rI0, rI, rU, rEq, rNe, tRet, tRetN, tAsg, gName, gSub, tBM, tBM0, tNext, tB, tNot, tAnd, tOr, tIf, tCall, tDrop, tBreak, tCont, L2.start, tDGet, sDPut, tTup, tLst, tDNewK, tRevL, rCat, rAppend, rPop, rSetL, tAndV, tOrV, tNotV, tSl, tPart, tNoPart, tM1, gTup, gCons, gNil, cxK, cxnK, List.map_cons, List.map_nil, List.length_cons, List.length_nil, List.replicate, List.cons_append, List.nil_append, List.append_nil, List.set_cons_zero, List.set_cons_succ, List.getElem?_cons_zero, List.getElem?_cons_succ, Option.some.injEq, V.ref.injEq, V.int.injEq, V.str.injEq, V.bl.injEq, V.ty.injEq, exists_eq_left', exists_eq_left, exists_and_left, List.cons.injEq, and_true, true_and, sc_ii, sc_ss, sc_bb, sc_ni, sc_in, sc_is, sc_si, sc_nn, decide_true, decide_false, reduceCtorEq, Bool.false_eq_true, if_true, if_false, ite_true, ite_false, exists_const, eq_self, false_and, and_false, or_false, false_or, exists_false, Evl.rLenS, rSum, wipe, tYes, exists_eq, exists_eq', rIxL, rIxT, rIxS, exists_and_right, gt_iff_lt, not_true_eq_false, not_false_eq_true, Bool.not_true, Bool.not_false, decide_eq_true_eq, Nat.reduceSub, Nat.reduceAdd, List.append_assoc, tChain, tDIn, tDNotIn, sDDel, tAug, ipI]
        exact lcD_put hh nD hd (by rw [filter_take ep, if_pos hk]) (take_len (Nat.le_trans (lenP f1) (by decide)))
      | false =>
        try simp (maxSteps := 1000000) only [tSeq, tIfS, tTest, tOp, tUn, tCB, tCons, tNil, tVar, tC, rI0, rI, rU, rEq, rNe, tRet, tRetN, tAsg, gName, gSub, tBM, tBM0, tNext, tB, tNot, tAnd, tOr, tIf, tCall, tDrop, tBreak, tCont, L2.start, tDGet, sDPut, tTup, tLst, tDNewK, tRevL, rCat, rAppend, rPop, rSetL, tAndV, tOrV, tNotV, tSl, tPart, tNoPart, tM1, gTup, gCons, gNil, cxK, cxnK, List.map_cons, List.map_nil, List.length_cons, List.length_nil, List.replicate, List.cons_append, List.nil_append, List.append_nil, List.set_cons_zero, List.set_cons_succ, List.getElem?_cons_zero, List.getElem?_cons_succ, Option.some.injEq, V.ref.injEq, V.int.injEq, V.str.injEq, V.bl.injEq, V.ty.injEq, exists_eq_left', exists_eq_left, exists_and_left, List.cons.injEq, and_true, true_and, sc_ii, sc_ss, sc_bb, sc_ni, sc_in, sc_is, sc_si, sc_nn, decide_true, decide_false, reduceCtorEq, Bool.false_eq_true, if_true, if_false, ite_true, ite_false, exists_const, eq_self, false_and, and_false, or_false, false_or, exists_false, Evl.rLenS, rSum, wipe, tYes, exists_eq, exists_eq', rIxL, rIxT, rIxS, exists_and_right, gt_iff_lt, not_true_eq_false, not_false_eq_true, Bool.not_true, Bool.not_false, decide_eq_true_eq, Nat.reduceSub, Nat.reduceAdd, List.append_assoc, tChain, tDIn, tDNotIn, sDDel, tAug, ipI]
        exact lcD_skip hh (by rw [filter_take ep, if_neg (by rw [hk]; exact Bool.false_ne_true), List.append_nil])
    · rintro H2 ⟨ws, hv, hws, k2⟩
      rw [dpLen hD, List.length_map] at hws
      dsimp only at hws
      rw [List.take_length] at hws
      try simp (maxSteps := 1000000) only [tSeq, tIfS, tTest, tOp, tUn, tCB, tCons, tNil, tVar, tC, rI0, rI, rU, rEq, rNe, tRet, tRetN, tAsg, gName, gSub, tBM, tBM0, tNext, tB, tNot, tAnd, tOr, tIf, tCall, tDrop, tBreak, tCont, L2.start, tDGet, sDPut, tTup, tLst, tDNewK, tRevL, rCat, rAppend, rPop, rSetL, tAndV, tOrV, tNotV, tSl, tPart, tNoPart, tM1, gTup, gCons, gNil, cxK, cxnK, List.map_cons, List.map_nil, List.length_cons, List.length_nil, List.replicate, List.cons_append, List.nil_append, List.append_nil, List.set_cons_zero, List.set_cons_succ, List.getElem?_cons_zero, List.getElem?_cons_succ, Option.some.injEq, V.ref.injEq, V.int.injEq, V.str.injEq, V.bl.injEq, V.ty.injEq, exists_eq_left', exists_eq_left, exists_and_left, List.cons.injEq, and_true, true_and, sc_ii, sc_ss, sc_bb, sc_ni, sc_in, sc_is, sc_si, sc_nn, decide_true, decide_false, reduceCtorEq, Bool.false_eq_true, if_true, if_false, ite_true, ite_false, exists_const, eq_self, false_and, and_false, or_false, false_or, exists_false, Evl.rLenS, rSum, wipe, tYes, exists_eq, exists_eq', rIxL, rIxT, rIxS, exists_and_right, gt_iff_lt, not_true_eq_false, not_false_eq_true, Bool.not_true, Bool.not_false, decide_eq_true_eq, Nat.reduceSub, Nat.reduceAdd, List.append_assoc, tChain, tDIn, tDNotIn, sDDel, tAug, ipI]
      refine pr_make (.inl (sq_l hv)) hws (fitsP sub_ff) (by rw [List.length_map]; exact Nat.le_trans (List.length_filter_le _ _) (Nat.le_trans (lenP f1) (by decide))) (all_isP sub_ff) fun o H' no hp hk => ?_
      exact q o H' (k2.free0 no) (hp.same fun p h => pick_filter h) (k2.trans hk)
theorem ok_Pairs_sub {f : Addr} {fd : FuncData} (F : Fun K "__sub__" "Pairs.__sub__" s_Pairs_sub f fd) {PC BP fI : Addr} {fdI : FuncData} (T : Bt2 K mg T_PAIRS PC fI) (C : PrC K mg PC) (bI_Pairs : Binds K fdI ["self", "pairs"] []) (G_Pairs_init : FnOk P w K mg base (L2.CX P w) 3 fI fdI ["self", "pairs"] (spPI K PC BP)) :
    FnOk P w K mg base CX0 5 f fd ["self", "other"] (spBin K PC (fun x y => x && !y)) := by
  refine F.ok sc_Pairs_sub (fun vs H Q E h => ?_) (fun cdv A outer s H vs Q E hr h => ?_)
  · obtain ⟨o1, o2, f1, f2, rfl, _⟩ := h
    rfl
  · obtain ⟨o1, o2, f1, f2, rfl, h1, h2, q⟩ := h
    have M_Pairs := T.M_Pairs
    refine ⟨_, (pss_one (ps_ret (pe_make M_Pairs G_Pairs_init (hr.mono (by decide)) rfl C.k bI_Pairs .nil passL (pa_cons (pe_lc (own := [("pair", 2)]) (g := (gName 2)) rfl sc_Pairs_sub.nd (pi_list (pe_fld (pv 0) rfl)) (blkOk_by (N := ["self", "other", "pair"]) (sc := defScope s_Pairs_sub) (by decide +kernel)) (fun _ _ _ _ _ => (pg_name (i := 2) sc_Pairs_sub.nd rfl (Or.inl rfl))) (fun _ _ _ _ _ => (pts_one (pt_cmpR (r := rNotInD K) (op_notInD (hu5 hr)) (pv 2) ((pe_fld (pv 1) rfl) : PE _ _ (tFld K _ "_pairs")) (by rfl)))) (fun _ _ _ _ _ => (pv 2))) pa_nil)))), ?_⟩
    try simp (maxSteps := 1000000) only [tSeq, tIfS, tTest, tOp, tUn, tCB, tCons, tNil, tVar, tC, rI0, rI, rU, rEq, rNe, tRet, tRetN, tAsg, gName, gSub, tBM, tBM0, tNext, tB, tNot, tAnd, tOr, tIf, tCall, tDrop, tBreak, tCont, L2.start, tDGet, sDPut, tTup, tLst, tDNewK, tRevL, rCat, rAppend, rPop, rSetL, tAndV, tOrV, tNotV, tSl, tPart, tNoPart, tM1, gTup, gCons, gNil, cxK, cxnK, List.map_cons, List.map_nil, List.length_cons, List.length_nil, List.replicate, List.cons_append, List.nil_append, List.append_nil, List.set_cons_zero, List.set_cons_succ, List.getElem?_cons_zero, List.getElem?_cons_succ, Option.some.injEq, V.ref.injEq, V.int.injEq, V.str.injEq, V.bl.injEq, V.ty.injEq, exists_eq_left', exists_eq_left, exists_and_left, List.cons.injEq, and_true, true_and, sc_ii, sc_ss, sc_bb, sc_ni, sc_in, sc_is, sc_si, sc_nn, decide_true, decide_false, reduceCtorEq, Bool.false_eq_true, if_true, if_false, ite_true, ite_false, exists_const, eq_self, false_and, and_false, or_false, false_or, exists_false, Evl.rLenS, rSum, wipe, tYes, exists_eq, exists_eq', rIxL, rIxT, rIxS, exists_and_right, gt_iff_lt, not_true_eq_false, not_false_eq_true, Bool.not_true, Bool.not_false, decide_eq_true_eq, Nat.reduceSub, Nat.reduceAdd, List.append_assoc, tChain, tDIn, tDNotIn, sDDel, tAug, ipI, tMake]
    obtain ⟨dx, l, us, ho, hl, hD⟩ := h1
    refine ⟨.ref o1, rfl, o1, PC, dx, _, .ref l, rfl, ho, C.cl, C.n1, rfl, l, rfl, ⟨us, sq_l hl⟩, fun D nD => lc_list (K := K) (a := l) (xs := us) (LcD K D H fun i => ((pairsL.filter f1).take i).filter fun p => !f2 p) ⟨[], upd_same, .nil, Kp.new nD⟩ (fun i H' _ h => by obtain ⟨_, _, _, k⟩ := h; exact k.ls not0 (sq_l hl)) ?_ ?_⟩
    · rintro i x H2 hx hh
      have k2 : Kp [] H H2 := by obtain ⟨_, _, _, k⟩ := hh; exact k
      obtain ⟨d, ed, hd⟩ := dpGet (dpAllN k2 noSq0 hD) hx
      obtain ⟨p, ep, rfl⟩ := pD_at ed
      have hp : p ∈ pairsL := subP f1 p (List.mem_of_getElem? ep)
      obtain ⟨dx2, l2, us2, ho2, hl2, hD2⟩ := h2.kp k2
      try simp (maxSteps := 1000000) only [tSeq, tIfS, tTest, tOp, tUn, tCB, tCons, tNil, tVar, tC, rI0, rI, rU, rEq, rNe, tRet, tRetN, tAsg, gName, gSub, tBM, tBM0, tNext, tB, tNot, tAnd, tOr, tIf, tCall, tDrop, tBreak, tCont, L2.start, tDGet, sDPut, tTup, tLst, tDNewK, tRevL, rCat, rAppend, rPop, rSetL, tAndV, tOrV, tNotV, tSl, tPart, tNoPart, tM1, gTup, gCons, gNil, cxK, cxnK, List.map_cons, List.map_nil, List.length_cons, List.length_nil, List.replicate, List.cons_append, List.nil_append, List.append_nil, List.set_cons_zero, List.set_cons_succ, List.getElem?_cons_zero, List.getElem?_cons_succ, Option.some.injEq, V.ref.injEq, V.int.injEq, V.str.injEq, V.bl.injEq, V.ty.injEq, exists_eq_left', exists_eq_left, exists_and_left, List.cons.injEq, and_true, true_and, sc_ii, sc_ss, sc_bb, sc_ni, sc_in, sc_is, sc_si, sc_nn, decide_true, decide_false, reduceCtorEq, Bool.false_eq_true, if_true, if_false, ite_true, ite_false, exists_const, eq_self, false_and, and_false, or_false, false_or, exists_false, Evl.rLenS, rSum, wipe, tYes, exists_eq, exists_eq', rIxL, rIxT, rIxS, exists_and_right, gt_iff_lt, not_true_eq_false, not_false_eq_true, Bool.not_true, Bool.not_false, decide_eq_true_eq, Nat.reduceSub, Nat.reduceAdd, List.append_assoc, tChain, tDIn, tDNotIn, sDDel, tAug, ipI]
      refine ⟨.ref o2, rfl, o2, PC, dx2, _, .ref l2, rfl, ho2, C.cl, C.n1, rfl, pD p, _, hd, .lst (sq_l hl2) hD2, okP hp, (shapedL (fitsP (subP f2))).1, ?_⟩
      have e : (((pairsL.filter f2).map pD).any fun z => PyData.eqv z (pD p)) = f2 p := pick_eq hp
      rw [e]
      cases hk : f2 p with
      | false =>
        try simp (maxSteps := 1000000) only [tSeq, tIfS, tTest, tOp, tUn, tCB, tCons, tNil, tVar, tC, rI0, rI, rU, rEq, rNe, tRet, tRetN, tAsg, gName, gSub, tBM, tBM0, tNext, tB, tNot, tAnd, tOr, tIf, tCall, tDrop, tBreak, tCont, L2.start, tDGet, sDPut, tTup, tLst, tDNewK, tRevL, rCat, rAppend, rPop, rSetL, tAndV, tOrV, tNotV, tSl, tPart, tNoPart, tM1, gTup, gCons, gNil, cxK, cxnK, List.map_cons, List.map_nil, List.length_cons, List.length_nil, List.replicate, List.cons_append, List.nil_append, List.append_nil, List.set_cons_zero, List.set_cons_succ, List.getElem?_cons_zero, List.getElem?_cons_succ, Option.some.injEq, V.ref.injEq, V.int.injEq, V.str.injEq, V.bl.injEq, V.ty.injEq, exists_eq_left', exists_eq_left, exists_and_left, List.cons.injEq, and_true, true_and, sc_ii, sc_ss, sc_bb, sc_ni, sc_in, sc_is, sc_si, sc_nn, decide_true, decide_false, reduceCtorEq, Bool.false_eq_true, if_true, if_false, ite_true, ite_false, exists_const, eq_self, false_and, and_false, or_false, false_or, exists_false, Evl.rLenS, rSum, wipe, tYes, exists_eq, exists_eq', rIxL, rIxT, rIxS, exists_and_right, gt_iff_lt, not_true_eq_false, not_false_eq_true, Bool.not_true, Bool.not_false, decide_eq_true_eq, Nat.reduceSub, Nat.reduceAdd, List.append_assoc, tChain, tDIn, tDNotIn, sDDel, tAug, ipI]
        exact lcD_put hh nD hd (by rw [filter_take ep, if_pos (by rw [hk]; rfl)]) (take_len (Nat.le_trans (lenP f1) (by decide)))
      | true =>
        try simp (maxSteps := 1000000) only [tSeq, tIfS, tTest, tOp, tUn, tCB, tCons, tNil, tVar, tC, rI0, rI, rU, rEq, rNe, tRet, tRetN, tAsg, gName, gSub, tBM, tBM0, tNext, tB, tNot, tAnd, tOr, tIf, tCall, tDrop, tBreak, tCont, L2.start, tDGet, sDPut, tTup, tLst, tDNewK, tRevL, rCat, rAppend, rPop, rSetL, tAndV, tOrV, tNotV, tSl, tPart, tNoPart, tM1, gTup, gCons, gNil, cxK, cxnK, List.map_cons, List.map_nil, List.length_cons, List.length_nil, List.replicate, List.cons_append, List.nil_append, List.append_nil, List.set_cons_zero, List.set_cons_succ, List.getElem?_cons_zero, List.getElem?_cons_succ, Option.some.injEq, V.ref.injEq, V.int.injEq, V.str.injEq, V.bl.injEq, V.ty.injEq, exists_eq_left', exists_eq_left, exists_and_left, List.cons.injEq, and_true, true_and, sc_ii, sc_ss, sc_bb, sc_ni, sc_in, sc_is, sc_si, sc_nn, decide_true, decide_false, reduceCtorEq, Bool.false_eq_true, if_true, if_false, ite_true, ite_false, exists_const, eq_self, false_and, and_false, or_false, false_or, exists_false, Evl.rLenS, rSum, wipe, tYes, exists_eq, exists_eq', rIxL, rIxT, rIxS, exists_and_right, gt_iff_lt, not_true_eq_false, not_false_eq_true, Bool.not_true, Bool.not_false, decide_eq_true_eq, Nat.reduceSub, Nat.reduceAdd, List.append_assoc, tChain, tDIn, tDNotIn, sDDel, tAug, ipI]
        exact lcD_skip hh (by rw [filter_take ep, if_neg (by rw [hk]; exact Bool.false_ne_true), List.append_nil])
    · rintro H2 ⟨ws, hv, hws, k2⟩
      rw [dpLen hD, List.length_map] at hws
      dsimp only at hws
      rw [List.take_length] at hws
      try simp (maxSteps := 1000000) only [tSeq, tIfS, tTest, tOp, tUn, tCB, tCons, tNil, tVar, tC, rI0, rI, rU, rEq, rNe, tRet, tRetN, tAsg, gName, gSub, tBM, tBM0, tNext, tB, tNot, tAnd, tOr, tIf, tCall, tDrop, tBreak, tCont, L2.start, tDGet, sDPut, tTup, tLst, tDNewK, tRevL, rCat, rAppend, rPop, rSetL, tAndV, tOrV, tNotV, tSl, tPart, tNoPart, tM1, gTup, gCons, gNil, cxK, cxnK, List.map_cons, List.map_nil, List.length_cons, List.length_nil, List.replicate, List.cons_append, List.nil_append, List.append_nil, List.set_cons_zero, List.set_cons_succ, List.getElem?_cons_zero, List.getElem?_cons_succ, Option.some.injEq, V.ref.injEq, V.int.injEq, V.str.injEq, V.bl.injEq, V.ty.injEq, exists_eq_left', exists_eq_left, exists_and_left, List.cons.injEq, and_true, true_and, sc_ii, sc_ss, sc_bb, sc_ni, sc_in, sc_is, sc_si, sc_nn, decide_true, decide_false, reduceCtorEq, Bool.false_eq_true, if_true, if_false, ite_true, ite_false, exists_const, eq_self, false_and, and_false, or_false, false_or, exists_false, Evl.rLenS, rSum, wipe, tYes, exists_eq, exists_eq', rIxL, rIxT, rIxS, exists_and_right, gt_iff_lt, not_true_eq_false, not_false_eq_true, Bool.not_true, Bool.not_false, decide_eq_true_eq, Nat.reduceSub, Nat.reduceAdd, List.append_assoc, tChain, tDIn, tDNotIn, sDDel, tAug, ipI]
      refine pr_make (.inl (sq_l hv)) hws (fitsP sub_ff) (by rw [List.length_map]; exact Nat.le_trans (List.length_filter_le _ _) (Nat.le_trans (lenP f1) (by decide))) (all_isP sub_ff) fun o H' no hp hk => ?_
      exact q o H' (k2.free0 no) (hp.same fun p h => pick_filter h) (k2.trans hk)
theorem ok_Pairs_or {f : Addr} {fd : FuncData} (F : Fun K "__or__" "Pairs.__or__" s_Pairs_or f fd) {PC BP fI : Addr} {fdI : FuncData} (T : Bt2 K mg T_PAIRS PC fI) (C : PrC K mg PC) (bI_Pairs : Binds K fdI ["self", "pairs"] []) (G_Pairs_init : FnOk P w K mg base (L2.CX P w) 3 fI fdI ["self", "pairs"] (spPI K PC BP)) :
    FnOk P w K mg base CX0 5 f fd ["self", "other"] (spBin K PC (· || ·)) := by
  refine F.ok sc_Pairs_or (fun vs H Q E h => ?_) (fun cdv A outer s H vs Q E hr h => ?_)
  · obtain ⟨o1, o2, f1, f2, rfl, _⟩ := h
    rfl
  · obtain ⟨o1, o2, f1, f2, rfl, ⟨dx, l, us, ho, hl, hD⟩, ⟨dx2, l2, us2, ho2, hl2, hD2⟩, q⟩ := h
    have M_Pairs := T.M_Pairs
    refine ⟨_, (pss_one (ps_ret (pe_make M_Pairs G_Pairs_init (hr.mono (by decide)) rfl C.k bI_Pairs .nil passL (pa_cons (pe_op op_cat (pe_fld (pv 0) rfl) (pe_fld (pv 1) rfl)) pa_nil)))), ?_⟩
    have n1 := lenP f1
    have n2 := lenP f2
    have z1 := dpLen hD
    have z2 := dpLen hD2
    rw [List.length_map] at z1 z2
    try simp (maxSteps := 1000000) only [tSeq, tIfS, tTest, tOp, tUn, tCB, tCons, tNil, tVar, tC, rI0, rI, rU, rEq, rNe, tRet, tRetN, tAsg, gName, gSub, tBM, tBM0, tNext, tB, tNot, tAnd, tOr, tIf, tCall, tDrop, tBreak, tCont, L2.start, tDGet, sDPut, tTup, tLst, tDNewK, tRevL, rCat, rAppend, rPop, rSetL, tAndV, tOrV, tNotV, tSl, tPart, tNoPart, tM1, gTup, gCons, gNil, cxK, cxnK, List.map_cons, List.map_nil, List.length_cons, List.length_nil, List.replicate, List.cons_append, List.nil_append, List.append_nil, List.set_cons_zero, List.set_cons_succ, List.getElem?_cons_zero, List.getElem?_cons_succ, Option.some.injEq, V.ref.injEq, V.int.injEq, V.str.injEq, V.bl.injEq, V.ty.injEq, exists_eq_left', exists_eq_left, exists_and_left, List.cons.injEq, and_true, true_and, sc_ii, sc_ss, sc_bb, sc_ni, sc_in, sc_is, sc_si, sc_nn, decide_true, decide_false, reduceCtorEq, Bool.false_eq_true, if_true, if_false, ite_true, ite_false, exists_const, eq_self, false_and, and_false, or_false, false_or, exists_false, Evl.rLenS, rSum, wipe, tYes, exists_eq, exists_eq', rIxL, rIxT, rIxS, exists_and_right, gt_iff_lt, not_true_eq_false, not_false_eq_true, Bool.not_true, Bool.not_false, decide_eq_true_eq, Nat.reduceSub, Nat.reduceAdd, List.append_assoc, tChain, tDIn, tDNotIn, sDDel, tAug, ipI, tMake]
    refine ⟨.ref o1, rfl, o1, PC, dx, _, .ref l, rfl, ho, C.cl, C.n1, rfl, .ref o2, rfl, o2, PC, dx2, _, .ref l2, rfl, ho2, C.cl, C.n1, rfl, ?_⟩
    refine ⟨l, rfl, l2, rfl, us, hl, us2, hl2, small (by omega), fun D nD => ?_⟩
    have kn : Kp [] H (upd H D (.lst (us ++ us2))) := Kp.new nD
    have hap : DpAll K (upd H D (.lst (us ++ us2))) (us ++ us2) ((pairsL.filter f1 ++ pairsL.filter f2).map pD) := by
      rw [List.map_append]
      exact dpApp (dpAllN kn noSq0 hD) (dpAllN kn noSq0 hD2)
    have sub2 : ∀ p ∈ pairsL.filter f1 ++ pairsL.filter f2, p ∈ pairsL := fun p h => by
      rcases List.mem_append.mp h with h | h
      · exact subP f1 p h
      · exact subP f2 p h
    refine pr_make (.inl (sq_l upd_same)) hap (fitsP sub2) (by rw [List.length_map, List.length_append]; omega) (all_isP sub2) fun o H' no hp hk => ?_
    refine q o H' (kn.free0 no) (hp.same fun p h => ?_) (kn.trans hk)
    unfold pick
    rw [List.map_append, List.any_append]
    show (pick ((pairsL.filter f1).map pD) p || pick ((pairsL.filter f2).map pD) p) = _
    rw [pick_eq h, pick_eq h]
def spWithin (K : PySem.W.Frag) (PC : Addr) : Sp := fun vs H Q _ => ∃ (o1 o2 : Addr) (f1 f2 : Pr → Bool), vs = [.ref o1, .ref o2] ∧ PrAt K PC H o1 f1 ∧ PrAt K PC H o2 f2 ∧ ∀ H', Kp [] H H' → Q (.bl ((pairsL.filter f1).all f2)) H'
def WiInv (D : Addr) (H : Hp) (f1 f2 : Pr → Bool) (i : Nat) (H' : Hp) : Prop := ∃ bs : List Bool, H' D = some (.lst (bs.map V.bl)) ∧ bs = ((pairsL.filter f1).take i).map f2 ∧ Kp [] H H'
theorem ok_Pairs_within {f : Addr} {fd : FuncData} (F : Fun K "within" "Pairs.within" s_Pairs_within f fd) (T : Bt K mg T_PAIRS) {PC fC : Addr} {fdC : FuncData} (C : PrC K mg PC) (IN_Pairs : InC K PC fC) (b_Pairs_contains : Binds K fdC ["self", "x"] []) (G_Pairs_contains : FnOk P w K mg base CX0 1 fC fdC ["self", "x"] (spCont K PC)) :
    FnOk P w K mg base CX0 2 f fd ["self", "other"] (spWithin K PC) := by
  refine F.ok sc_Pairs_within (fun vs H Q E h => ?_) (fun cdv A outer s H vs Q E hr h => ?_)
  · obtain ⟨o1, o2, f1, f2, rfl, _⟩ := h
    rfl
  · obtain ⟨o1, o2, f1, f2, rfl, ⟨dx, l, us, ho, hl, hD⟩, h2, q⟩ := h
    refine ⟨_, (pss_one (ps_ret (pe_callB (id := "all") (r := rAll K) (cr_all rfl) (by rfl) T.b_all (by decide +kernel) (pa_cons (pe_lc (own := [("pair", 2)]) (g := (gName 2)) (tt := tYes) rfl sc_Pairs_within.nd (pi_list (pe_fld (pv 0) rfl)) (blkOk_by (N := ["self", "other", "pair"]) (sc := defScope s_Pairs_within) (by decide +kernel)) (fun _ _ _ _ _ => (pg_name (i := 2) sc_Pairs_within.nd rfl (Or.inl rfl))) (fun _ _ _ _ _ => pts_nil) (fun _ _ _ _ _ => (pe_cmpR (op_inO IN_Pairs G_Pairs_contains b_Pairs_contains (hr.mono (by decide)) pass0) (pv 2) (pv 1) (by rfl)))) pa_nil)))), ?_⟩
    try simp (maxSteps := 1000000) only [tSeq, tIfS, tTest, tOp, tUn, tCB, tCons, tNil, tVar, tC, rI0, rI, rU, rEq, rNe, tRet, tRetN, tAsg, gName, gSub, tBM, tBM0, tNext, tB, tNot, tAnd, tOr, tIf, tCall, tDrop, tBreak, tCont, L2.start, tDGet, sDPut, tTup, tLst, tDNewK, tRevL, rCat, rAppend, rPop, rSetL, tAndV, tOrV, tNotV, tSl, tPart, tNoPart, tM1, gTup, gCons, gNil, cxK, cxnK, List.map_cons, List.map_nil, List.length_cons, List.length_nil, List.replicate, List.cons_append, List.nil_append, List.append_nil, List.set_cons_zero, List.set_cons_succ, List.getElem?_cons_zero, List.getElem?_cons_succ, Option.some.injEq, V.ref.injEq, V.int.injEq, V.str.injEq, V.bl.injEq, V.ty.injEq, exists_eq_left', exists_eq_left, exists_and_left, List.cons.injEq, and_true, true_and, sc_ii, sc_ss, sc_bb, sc_ni, sc_in, sc_is, sc_si, sc_nn, decide_true, decide_false, reduceCtorEq, Bool.false_eq_true, if_true, if_false, ite_true, ite_false, exists_const, eq_self, false_and, and_false, or_false, false_or, exists_false, Evl.rLenS, rSum, wipe, tYes, exists_eq, exists_eq', rIxL, rIxT, rIxS, exists_and_right, gt_iff_lt, not_true_eq_false, not_false_eq_true, Bool.not_true, Bool.not_false, decide_eq_true_eq, Nat.reduceSub, Nat.reduceAdd, List.append_assoc, tChain, tDIn, tDNotIn, sDDel, tAug, ipI]
    refine ⟨.ref o1, rfl, o1, PC, dx, _, .ref l, rfl, ho, C.cl, C.n1, rfl, l, rfl, ⟨us, sq_l hl⟩, fun D nD => lc_list (K := K) (a := l) (xs := us) (WiInv D H f1 f2) ⟨[], upd_same, rfl, Kp.new nD⟩ (fun i H' _ h => by obtain ⟨_, _, _, k⟩ := h; exact k.ls not0 (sq_l hl)) ?_ ?_⟩
    · rintro i x H2 hx ⟨bs, hb, eb, k2⟩
      obtain ⟨d, ed, hd⟩ := dpGet (dpAllN k2 noSq0 hD) hx
      obtain ⟨p, ep, rfl⟩ := pD_at ed
      have hp : p ∈ pairsL := subP f1 p (List.mem_of_getElem? ep)
      have h22 := h2.kp k2
      obtain ⟨dx2, l2, us2, ho2, hl2, hD2⟩ := h2.kp k2
      try simp (maxSteps := 1000000) only [tSeq, tIfS, tTest, tOp, tUn, tCB, tCons, tNil, tVar, tC, rI0, rI, rU, rEq, rNe, tRet, tRetN, tAsg, gName, gSub, tBM, tBM0, tNext, tB, tNot, tAnd, tOr, tIf, tCall, tDrop, tBreak, tCont, L2.start, tDGet, sDPut, tTup, tLst, tDNewK, tRevL, rCat, rAppend, rPop, rSetL, tAndV, tOrV, tNotV, tSl, tPart, tNoPart, tM1, gTup, gCons, gNil, cxK, cxnK, List.map_cons, List.map_nil, List.length_cons, List.length_nil, List.replicate, List.cons_append, List.nil_append, List.append_nil, List.set_cons_zero, List.set_cons_succ, List.getElem?_cons_zero, List.getElem?_cons_succ, Option.some.injEq, V.ref.injEq, V.int.injEq, V.str.injEq, V.bl.injEq, V.ty.injEq, exists_eq_left', exists_eq_left, exists_and_left, List.cons.injEq, and_true, true_and, sc_ii, sc_ss, sc_bb, sc_ni, sc_in, sc_is, sc_si, sc_nn, decide_true, decide_false, reduceCtorEq, Bool.false_eq_true, if_true, if_false, ite_true, ite_false, exists_const, eq_self, false_and, and_false, or_false, false_or, exists_false, Evl.rLenS, rSum, wipe, tYes, exists_eq, exists_eq', rIxL, rIxT, rIxS, exists_and_right, gt_iff_lt, not_true_eq_false, not_false_eq_true, Bool.not_true, Bool.not_false, decide_eq_true_eq, Nat.reduceSub, Nat.reduceAdd, List.append_assoc, tChain, tDIn, tDNotIn, sDDel, tAug, ipI, rInO]
      refine ⟨⟨dx2, _, ho2⟩, o2, f2, x, pD p, rfl, h22, hd, okP hp, _, rfl, ?_⟩
      have e : (((pairsL.filter f2).map pD).any fun z => PyData.eqv z (pD p)) = f2 p := pick_eq hp
      rw [e]
      have bl : bs.length ≤ 27 := by
        rw [eb, List.length_map, List.length_take]
        have := lenP f1
        omega
      refine ⟨_, hb, by rw [List.length_map]; exact smallL (by omega), bs ++ [f2 p], ?_, ?_, k2.wr nD⟩
      · rw [upd_same, List.map_append]; rfl
      · rw [List.take_add_one, ep, List.map_append, eb]; rfl
    · rintro H2 ⟨bs, hb, eb, k2⟩
      rw [dpLen hD, List.length_map, List.take_length] at eb
      refine ⟨D, bs, rfl, sq_l hb, ?_⟩
      have e : bs.all id = (pairsL.filter f1).all f2 := by rw [eb, List.all_map]; rfl
      rw [e]
      exact q _ k2
def inW (zs : List Str) (x : Str) : Bool := decide (x ∈ zs)
def spBetween (K : PySem.W.Frag) (PC : Addr) : Sp := fun vs H Q _ => ∃ (a1 a2 : Addr) (z1 z2 : List Str), vs = [.ref a1, .ref a2] ∧ SqT K H a1 (z1.map V.str) ∧ SqT K H a2 (z2.map V.str) ∧ ∀ o H', H o = none → PrAt K PC H' o (fun p => inW z1 p.1 && inW z2 p.2) → Kp [] H H' → Q (.ref o) H'
theorem in_strs {zs : List Str} {x : Str} : inV (.str x) (zs.map V.str) = inW zs x := by
  unfold inV inW
  rw [List.any_map]
  have e : ((fun y => eqV y (V.str x)) ∘ V.str) = fun y => y == x := by funext y; rfl
  rw [e]
  by_cases h : x ∈ zs
  · rw [decide_eq_true h]
    exact List.any_eq_true.mpr ⟨x, h, beq_self_eq_true x⟩
  · rw [decide_eq_false h]
    refine Bool.eq_false_iff.mpr fun z => ?_
    obtain ⟨y, hy, e⟩ := List.any_eq_true.mp z
    exact h (eq_of_beq e ▸ hy)
theorem flat_map (zs : List Str) : (zs.map V.str).all flatV = true := by
  rw [List.all_map]
  exact List.all_eq_true.mpr fun _ _ => rfl
theorem dpPair {H : Hp} {v : V} {p : Pr} (h : Dp K H v (pD p)) : ∃ t, v = .ref t ∧ SqT K H t [.str p.1, .str p.2] := by
  cases h with
  | tup e a =>
    cases a with
    | cons a1 a =>
      cases a with
      | cons a2 a =>
        cases a
        cases a1
        cases a2
        exact ⟨_, rfl, e⟩
theorem ok_Pairs_between {f : Addr} {fd : FuncData} (F : Fun K "between" "Pairs.between" s_Pairs_between f fd) {PC BP fI : Addr} {fdI : FuncData} (T : Bt2 K mg T_PAIRS PC fI) (C : PrC K mg PC) (bI_Pairs : Binds K fdI ["self", "pairs"] []) (G_Pairs_init : FnOk P w K mg base (L2.CX P w) 3 fI fdI ["self", "pairs"] (spPI K PC BP)) :
    FnOk P w K mg base CX0 5 f fd ["firsts", "seconds"] (spBetween K PC) := by
  refine F.ok sc_Pairs_between (fun vs H Q E h => ?_) (fun cdv A outer s H vs Q E hr h => ?_)
  · obtain ⟨o1, o2, f1, f2, rfl, _⟩ := h
    rfl
  · obtain ⟨a1, a2, z1, z2, rfl, h1, h2, q⟩ := h
    have M_Pairs := T.M_Pairs
    obtain ⟨zs, hz⟩ := T.pk
    refine ⟨_, (pss_one (ps_ret (pe_make M_Pairs G_Pairs_init (hr.mono (by decide)) rfl C.k bI_Pairs .nil passL (pa_cons (pe_lc (own := [("pair", 2)]) (g := (gName 2)) rfl sc_Pairs_between.nd (pi_tup (pe_glob (v := .ref T_PAIRS) rfl T.c_PAIRS rfl)) (blkOk_by (N := ["firsts", "seconds", "pair"]) (sc := defScope s_Pairs_between) (by decide +kernel)) (fun _ _ _ _ _ => (pg_name (i := 2) sc_Pairs_between.nd rfl (Or.inl rfl))) (fun _ _ _ _ _ => (pts_one (PW.pt (pw_and (pt_cmpR (r := rIn K false) op_in_seq (pe_ix (r := rIxT K) ix_tup (pv 2) pe_int (fun _ _ => rfl)) (pv 0) (by rfl)) (pw_and1 (pt_cmpR (r := rIn K false) op_in_seq (pe_ix (r := rIxT K) ix_tup (pv 2) pe_int (fun _ _ => rfl)) (pv 1) (by rfl))))))) (fun _ _ _ _ _ => (pv 2))) pa_nil)))), ?_⟩
    try simp (maxSteps := 1000000) only [tSeq, tIfS, tTest, tOp, tUn, tCB, tCons, tNil, tVar, tC, rI0, rI, rU, rEq, rNe, tRet, tRetN, tAsg, gName, gSub, tBM, tBM0, tNext, tB, tNot, tAnd, tOr, tIf, tCall, tDrop, tBreak, tCont, L2.start, tDGet, sDPut, tTup, tLst, tDNewK, tRevL, rCat, rAppend, rPop, rSetL, tAndV, tOrV, tNotV, tSl, tPart, tNoPart, tM1, gTup, gCons, gNil, cxK, cxnK, List.map_cons, List.map_nil, List.length_cons, List.length_nil, List.replicate, List.cons_append, List.nil_append, List.append_nil, List.set_cons_zero, List.set_cons_succ, List.getElem?_cons_zero, List.getElem?_cons_succ, Option.some.injEq, V.ref.injEq, V.int.injEq, V.str.injEq, V.bl.injEq, V.ty.injEq, exists_eq_left', exists_eq_left, exists_and_left, List.cons.injEq, and_true, true_and, sc_ii, sc_ss, sc_bb, sc_ni, sc_in, sc_is, sc_si, sc_nn, decide_true, decide_false, reduceCtorEq, Bool.false_eq_true, if_true, if_false, ite_true, ite_false, exists_const, eq_self, false_and, and_false, or_false, false_or, exists_false, Evl.rLenS, rSum, wipe, tYes, exists_eq, exists_eq', rIxL, rIxT, rIxS, exists_and_right, gt_iff_lt, not_true_eq_false, not_false_eq_true, Bool.not_true, Bool.not_false, decide_eq_true_eq, Nat.reduceSub, Nat.reduceAdd, List.append_assoc, tChain, tDIn, tDNotIn, sDDel, tAug, ipI, tMake]
    refine ⟨T_PAIRS, rfl, ⟨_, (hz H).1⟩, fun D nD => lc_tup (K := K) (a := T_PAIRS) (xs := zs) (LcD K D H fun i => (pairsL.take i).filter fun p => inW z1 p.1 && inW z2 p.2) ⟨[], upd_same, .nil, Kp.new nD⟩ (fun i H' _ h => (hz H').1) ?_ ?_⟩
    · rintro i x H2 hx hh
      have k2 : Kp [] H H2 := by obtain ⟨_, _, _, k⟩ := hh; exact k
      obtain ⟨d, ed, hd⟩ := dpGet (hz H2).2 hx
      obtain ⟨p, ep, rfl⟩ := pD_at ed
      have hp : p ∈ pairsL := List.mem_of_getElem? ep
      obtain ⟨t, rfl, ht⟩ := dpPair hd
      have h12 := k2.tp not0 h1
      have h22 := k2.tp not0 h2
      try simp (maxSteps := 1000000) only [tSeq, tIfS, tTest, tOp, tUn, tCB, tCons, tNil, tVar, tC, rI0, rI, rU, rEq, rNe, tRet, tRetN, tAsg, gName, gSub, tBM, tBM0, tNext, tB, tNot, tAnd, tOr, tIf, tCall, tDrop, tBreak, tCont, L2.start, tDGet, sDPut, tTup, tLst, tDNewK, tRevL, rCat, rAppend, rPop, rSetL, tAndV, tOrV, tNotV, tSl, tPart, tNoPart, tM1, gTup, gCons, gNil, cxK, cxnK, List.map_cons, List.map_nil, List.length_cons, List.length_nil, List.replicate, List.cons_append, List.nil_append, List.append_nil, List.set_cons_zero, List.set_cons_succ, List.getElem?_cons_zero, List.getElem?_cons_succ, Option.some.injEq, V.ref.injEq, V.int.injEq, V.str.injEq, V.bl.injEq, V.ty.injEq, exists_eq_left', exists_eq_left, exists_and_left, List.cons.injEq, and_true, true_and, sc_ii, sc_ss, sc_bb, sc_ni, sc_in, sc_is, sc_si, sc_nn, decide_true, decide_false, reduceCtorEq, Bool.false_eq_true, if_true, if_false, ite_true, ite_false, exists_const, eq_self, false_and, and_false, or_false, false_or, exists_false, Evl.rLenS, rSum, wipe, tYes, exists_eq, exists_eq', rIxL, rIxT, rIxS, exists_and_right, gt_iff_lt, not_true_eq_false, not_false_eq_true, Bool.not_true, Bool.not_false, decide_eq_true_eq, Nat.reduceSub, Nat.reduceAdd, List.append_assoc, tChain, tDIn, tDNotIn, sDDel, tAug, ipI]
      refine ⟨_, ht, _, rfl, a1, _, rfl, .inr h12, rfl, flat_map _, _, rfl, ?_⟩
      rw [if_neg Bool.false_ne_true, in_strs]
      have skip : (inW z1 p.1 && inW z2 p.2) = false → LcD K D H (fun i => (pairsL.take i).filter fun p => inW z1 p.1 && inW z2 p.2) (i + 1) H2 := fun e => lcD_skip hh (by rw [filter_take ep, if_neg (by rw [e]; exact Bool.false_ne_true), List.append_nil])
      cases e1 : inW z1 p.1 with
      | false =>
        try simp (maxSteps := 1000000) only [tSeq, tIfS, tTest, tOp, tUn, tCB, tCons, tNil, tVar, tC, rI0, rI, rU, rEq, rNe, tRet, tRetN, tAsg, gName, gSub, tBM, tBM0, tNext, tB, tNot, tAnd, tOr, tIf, tCall, tDrop, tBreak, tCont, L2.start, tDGet, sDPut, tTup, tLst, tDNewK, tRevL, rCat, rAppend, rPop, rSetL, tAndV, tOrV, tNotV, tSl, tPart, tNoPart, tM1, gTup, gCons, gNil, cxK, cxnK, List.map_cons, List.map_nil, List.length_cons, List.length_nil, List.replicate, List.cons_append, List.nil_append, List.append_nil, List.set_cons_zero, List.set_cons_succ, List.getElem?_cons_zero, List.getElem?_cons_succ, Option.some.injEq, V.ref.injEq, V.int.injEq, V.str.injEq, V.bl.injEq, V.ty.injEq, exists_eq_left', exists_eq_left, exists_and_left, List.cons.injEq, and_true, true_and, sc_ii, sc_ss, sc_bb, sc_ni, sc_in, sc_is, sc_si, sc_nn, decide_true, decide_false, reduceCtorEq, Bool.false_eq_true, if_true, if_false, ite_true, ite_false, exists_const, eq_self, false_and, and_false, or_false, false_or, exists_false, Evl.rLenS, rSum, wipe, tYes, exists_eq, exists_eq', rIxL, rIxT, rIxS, exists_and_right, gt_iff_lt, not_true_eq_false, not_false_eq_true, Bool.not_true, Bool.not_false, decide_eq_true_eq, Nat.reduceSub, Nat.reduceAdd, List.append_assoc, tChain, tDIn, tDNotIn, sDDel, tAug, ipI]
        exact skip (by rw [e1]; rfl)
      | true =>
        try simp (maxSteps := 1000000) only [tSeq, tIfS, tTest, tOp, tUn, tCB, tCons, tNil, tVar, tC, rI0, rI, rU, rEq, rNe, tRet, tRetN, tAsg, gName, gSub, tBM, tBM0, tNext, tB, tNot, tAnd, tOr, tIf, tCall, tDrop, tBreak, tCont, L2.start, tDGet, sDPut, tTup, tLst, tDNewK, tRevL, rCat, rAppend, rPop, rSetL, tAndV, tOrV, tNotV, tSl, tPart, tNoPart, tM1, gTup, gCons, gNil, cxK, cxnK, List.map_cons, List.map_nil, List.length_cons, List.length_nil, List.replicate, List.cons_append, List.nil_append, List.append_nil, List.set_cons_zero, List.set_cons_succ, List.getElem?_cons_zero, List.getElem?_cons_succ, Option.some.injEq, V.ref.injEq, V.int.injEq, V.str.injEq, V.bl.injEq, V.ty.injEq, exists_eq_left', exists_eq_left, exists_and_left, List.cons.injEq, and_true, true_and, sc_ii, sc_ss, sc_bb, sc_ni, sc_in, sc_is, sc_si, sc_nn, decide_true, decide_false, reduceCtorEq, Bool.false_eq_true, if_true, if_false, ite_true, ite_false, exists_const, eq_self, false_and, and_false, or_false, false_or, exists_false, Evl.rLenS, rSum, wipe, tYes, exists_eq, exists_eq', rIxL, rIxT, rIxS, exists_and_right, gt_iff_lt, not_true_eq_false, not_false_eq_true, Bool.not_true, Bool.not_false, decide_eq_true_eq, Nat.reduceSub, Nat.reduceAdd, List.append_assoc, tChain, tDIn, tDNotIn, sDDel, tAug, ipI]
        refine ⟨_, ht, _, rfl, a2, _, rfl, .inr h22, rfl, flat_map _, _, rfl, ?_⟩
        rw [if_neg Bool.false_ne_true, in_strs]
        cases e2 : inW z2 p.2 with
        | false =>
          try simp (maxSteps := 1000000) only [tSeq, tIfS, tTest, tOp, tUn, tCB, tCons, tNil, tVar, tC, rI0, rI, rU, rEq, rNe, tRet, tRetN, tAsg, gName, gSub, tBM, tBM0, tNext, tB, tNot, tAnd, tOr, tIf, tCall, tDrop, tBreak, tCont, L2.start, tDGet, sDPut, tTup, tLst, tDNewK, tRevL, rCat, rAppend, rPop, rSetL, tAndV, tOrV, tNotV, tSl, tPart, tNoPart, tM1, gTup, gCons, gNil, cxK, cxnK, List.map_cons, List.map_nil, List.length_cons, List.length_nil, List.replicate, List.cons_append, List.nil_append, List.append_nil, List.set_cons_zero, List.set_cons_succ, List.getElem?_cons_zero, List.getElem?_cons_succ, Option.some.injEq, V.ref.injEq, V.int.injEq, V.str.injEq, V.bl.injEq, V.ty.injEq, exists_eq_left', exists_eq_left, exists_and_left, List.cons.injEq, and_true, true_and, sc_ii, sc_ss, sc_bb, sc_ni, sc_in, sc_is, sc_si, sc_nn, decide_true, decide_false, reduceCtorEq, Bool.false_eq_true, if_true, if_false, ite_true, ite_false, exists_const, eq_self, false_and, and_false, or_false, false_or, exists_false, Evl.rLenS, rSum, wipe, tYes, exists_eq, exists_eq', rIxL, rIxT, rIxS, exists_and_right, gt_iff_lt, not_true_eq_false, not_false_eq_true, Bool.not_true, Bool.not_false, decide_eq_true_eq, Nat.reduceSub, Nat.reduceAdd, List.append_assoc, tChain, tDIn, tDNotIn, sDDel, tAug, ipI]
          exact skip (by rw [e1, e2]; rfl)
        | true =>
          try simp (maxSteps := 1000000) only [tSeq, tIfS, tTest, tOp, tUn, tCB, tCons, tNil, tVar, tC, rI0, rI, rU, rEq, rNe, tRet, tRetN, tAsg, gName, gSub, tBM, tBM0, tNext, tB, tNot, tAnd, tOr, tIf, tCall, tDrop, tBreak, tCont, L2.start, tDGet, sDPut, tTup, tLst, tDNewK, tRevL, rCat, rAppend, rPop, rSetL, tAndV, tOrV, tNotV, tSl, tPart, tNoPart, tM1, gTup, gCons, gNil, cxK, cxnK, List.map_cons, List.map_nil, List.length_cons, List.length_nil, List.replicate, List.cons_append, List.nil_append, List.append_nil, List.set_cons_zero, List.set_cons_succ, List.getElem?_cons_zero, List.getElem?_cons_succ, Option.some.injEq, V.ref.injEq, V.int.injEq, V.str.injEq, V.bl.injEq, V.ty.injEq, exists_eq_left', exists_eq_left, exists_and_left, List.cons.injEq, and_true, true_and, sc_ii, sc_ss, sc_bb, sc_ni, sc_in, sc_is, sc_si, sc_nn, decide_true, decide_false, reduceCtorEq, Bool.false_eq_true, if_true, if_false, ite_true, ite_false, exists_const, eq_self, false_and, and_false, or_false, false_or, exists_false, Evl.rLenS, rSum, wipe, tYes, exists_eq, exists_eq', rIxL, rIxT, rIxS, exists_and_right, gt_iff_lt, not_true_eq_false, not_false_eq_true, Bool.not_true, Bool.not_false, decide_eq_true_eq, Nat.reduceSub, Nat.reduceAdd, List.append_assoc, tChain, tDIn, tDNotIn, sDDel, tAug, ipI]
          exact lcD_put hh nD hd (by rw [filter_take ep, if_pos (by rw [e1, e2]; rfl)]) (take_len (Nat.le_trans (Nat.le_of_eq pairs_len) (by decide)))
    · rintro H2 ⟨ws, hv, hws, k2⟩
      have hz27 : zs.length = pairsL.length := by
        have := dpLen (hz H2).2
        rw [List.length_map] at this; exact this
      rw [hz27] at hws
      dsimp only at hws
      rw [List.take_length] at hws
      try simp (maxSteps := 1000000) only [tSeq, tIfS, tTest, tOp, tUn, tCB, tCons, tNil, tVar, tC, rI0, rI, rU, rEq, rNe, tRet, tRetN, tAsg, gName, gSub, tBM, tBM0, tNext, tB, tNot, tAnd, tOr, tIf, tCall, tDrop, tBreak, tCont, L2.start, tDGet, sDPut, tTup, tLst, tDNewK, tRevL, rCat, rAppend, rPop, rSetL, tAndV, tOrV, tNotV, tSl, tPart, tNoPart, tM1, gTup, gCons, gNil, cxK, cxnK, List.map_cons, List.map_nil, List.length_cons, List.length_nil, List.replicate, List.cons_append, List.nil_append, List.append_nil, List.set_cons_zero, List.set_cons_succ, List.getElem?_cons_zero, List.getElem?_cons_succ, Option.some.injEq, V.ref.injEq, V.int.injEq, V.str.injEq, V.bl.injEq, V.ty.injEq, exists_eq_left', exists_eq_left, exists_and_left, List.cons.injEq, and_true, true_and, sc_ii, sc_ss, sc_bb, sc_ni, sc_in, sc_is, sc_si, sc_nn, decide_true, decide_false, reduceCtorEq, Bool.false_eq_true, if_true, if_false, ite_true, ite_false, exists_const, eq_self, false_and, and_false, or_false, false_or, exists_false, Evl.rLenS, rSum, wipe, tYes, exists_eq, exists_eq', rIxL, rIxT, rIxS, exists_and_right, gt_iff_lt, not_true_eq_false, not_false_eq_true, Bool.not_true, Bool.not_false, decide_eq_true_eq, Nat.reduceSub, Nat.reduceAdd, List.append_assoc, tChain, tDIn, tDNotIn, sDDel, tAug, ipI]
      refine pr_make (.inl (sq_l hv)) hws (fitsP (subP _)) (by rw [List.length_map]; exact Nat.le_trans (lenP _) (by decide)) (all_isP (subP _)) fun o H' no hp hk => ?_
      exact q o H' (k2.free0 no) (hp.same fun p h => pick_eq h) (k2.trans hk)
end
end My

set_option Elab.async false
set_option linter.all false
set_option maxRecDepth 100000
set_option maxHeartbeats 4000000
namespace My
open PySem L2 NdefX
theorem len_app (x y : Str) : (x ++ y).length = x.length + y.length := Array.size_append
abbrev s_is_name : Stmt := top 9
theorem sc_is_name : FnScope ["value", "letter"] ["value"] (defScope s_is_name) := ⟨rfl, rfl, rfl, by decide +kernel, rfl, by decide +kernel, by decide +kernel⟩
abbrev s_is_fence_name : Stmt := top 17
theorem sc_is_fence_name : FnScope ["name"] ["name"] (defScope s_is_fence_name) := ⟨rfl, rfl, rfl, by decide +kernel, rfl, by decide +kernel, by decide +kernel⟩
abbrev s_TooLarge_init : Stmt := mtop 3 0
theorem sc_TooLarge_init : NScope ["self", "bound", "__class__"] ["self", "bound"] ["__class__"] (defScope s_TooLarge_init) := nscope_by (by decide +kernel)
theorem ok_TooLarge_init {P : Program} {w : World} {K : PySem.W.Frag} {mg : Str → Option Value} {base : Heap} {CX : CXT} {f cc cda C : Addr} {fd : FuncData} (F : FunX K "__init__" "TooLarge.__init__" s_TooLarge_init f fd cc cda C) (T : ErrC K C) (G : CodeF K P cda) (hsup : mg "super" = none) (n1 : PySem.W.findIn K (.ref C) "bound" = some none) {Pf : V → Prop} (hPf : ∀ v, Pf v → ∃ i : Int, v = .int i ∧ i.natAbs.log2 < 1920) :
    FnOk P w K mg base CX 1 f fd ["self", "bound"] (spErr1 C "bound" Pf) := by
  have F0 := F
  obtain ⟨oc, od, kV, doc, pm, an, ct, osl, hfd, lk, hcd⟩ := F0.ex
  obtain ⟨cl, cld, csl, hcc⟩ := F0.cell
  refine F.ok sc_TooLarge_init (fun vs H Q E h => ?_) (fun A outer s H vs Q E hr h => ?_)
  · obtain ⟨a, v, rfl, _⟩ := h
    rfl
  · obtain ⟨a, v, rfl, hp, ha, q⟩ := h
    obtain ⟨i, rfl, il⟩ := hPf v hp
    have tl := PyProof.Rows.int_text_len_1921 il
    refine ⟨_, psat_cons (psat_sup T G lk (by rw [hfd]; rfl) hcc hsup rfl rfl rfl rfl rfl rfl rfl (pa_cons (pe_joined (.cons pe_str (.cons (pe_fmt (pv 1)) .nil))) pa_nil) rfl rfl rfl rfl rfl) (pss_one (ps_ost (pv 0) (pv 1))), ?_⟩
    try simp (maxSteps := 1000000) only [tSeq, tIfS, tTest, tOp, tUn, tCB, tCons, tNil, tVar, tC, rI0, rI, rU, rEq, rNe, tRet, tRetN, tAsg, gName, gSub, tBM, tBM0, tNext, tB, tNot, tAnd, tOr, tIf, tCall, tDrop, tBreak, tCont, L2.start, tDGet, sDPut, tTup, tLst, tDNewK, tRevL, rCat, rAppend, rPop, rSetL, tAndV, tOrV, tNotV, tSl, tPart, tNoPart, tM1, gTup, gCons, gNil, cxK, cxnK, List.map_cons, List.map_nil, List.length_cons, List.length_nil, List.replicate, List.cons_append, List.nil_append, List.append_nil, List.set_cons_zero, List.set_cons_succ, List.getElem?_cons_zero, List.getElem?_cons_succ, Option.some.injEq, V.ref.injEq, V.int.injEq, V.str.injEq, V.bl.injEq, V.ty.injEq, exists_eq_left', exists_eq_left, exists_and_left, List.cons.injEq, and_true, true_and, sc_ii, sc_ss, sc_bb, sc_ni, sc_in, sc_is, sc_si, sc_nn, decide_true, decide_false, reduceCtorEq, Bool.false_eq_true, if_true, if_false, ite_true, ite_false, exists_const, eq_self, false_and, and_false, or_false, false_or, exists_false, Evl.rLenS, rSum, wipe, tYes, exists_eq, exists_eq', rIxL, rIxT, rIxS, exists_and_right, gt_iff_lt, not_true_eq_false, not_false_eq_true, Bool.not_true, Bool.not_false, decide_eq_true_eq, Nat.reduceSub, Nat.reduceAdd, List.append_assoc, tChain, tDIn, tDNotIn, sDDel, tAug, ipI, startF, tSupI, tJs, tFmt, tOst]
    have z0 : Str.empty.length = 0 := rfl
    have s0 : (Str.ofString "not within the bound of ").length = 24 := by decide +kernel
    refine ⟨ha, small ?_, il, small ?_, by decide, ha, C, T.ox, n1, .inl ⟨ha, q⟩⟩
    all_goals (simp only [len_app, z0, s0]; omega)
abbrev s_BadFence_init : Stmt := mtop 5 0
theorem sc_BadFence_init : NScope ["self", "name", "__class__"] ["self", "name"] ["__class__"] (defScope s_BadFence_init) := nscope_by (by decide +kernel)
theorem ok_BadFence_init {P : Program} {w : World} {K : PySem.W.Frag} {mg : Str → Option Value} {base : Heap} {CX : CXT} {f cc cda C : Addr} {fd : FuncData} (F : FunX K "__init__" "BadFence.__init__" s_BadFence_init f fd cc cda C) (T : ErrC K C) (G : CodeF K P cda) (hsup : mg "super" = none) (n1 : PySem.W.findIn K (.ref C) "name" = some none) {Pf : V → Prop} :
    FnOk P w K mg base CX 1 f fd ["self", "name"] (spErr1 C "name" Pf) := by
  have F0 := F
  obtain ⟨oc, od, kV, doc, pm, an, ct, osl, hfd, lk, hcd⟩ := F0.ex
  obtain ⟨cl, cld, csl, hcc⟩ := F0.cell
  refine F.ok sc_BadFence_init (fun vs H Q E h => ?_) (fun A outer s H vs Q E hr h => ?_)
  · obtain ⟨a, v, rfl, _⟩ := h
    rfl
  · obtain ⟨a, v, rfl, hp, ha, q⟩ := h
    refine ⟨_, psat_cons (psat_sup T G lk (by rw [hfd]; rfl) hcc hsup rfl rfl rfl rfl rfl rfl rfl (pa_cons pe_str pa_nil) rfl rfl rfl rfl rfl) (pss_one (ps_ost (pv 0) (pv 1))), ?_⟩
    try simp (maxSteps := 1000000) only [tSeq, tIfS, tTest, tOp, tUn, tCB, tCons, tNil, tVar, tC, rI0, rI, rU, rEq, rNe, tRet, tRetN, tAsg, gName, gSub, tBM, tBM0, tNext, tB, tNot, tAnd, tOr, tIf, tCall, tDrop, tBreak, tCont, L2.start, tDGet, sDPut, tTup, tLst, tDNewK, tRevL, rCat, rAppend, rPop, rSetL, tAndV, tOrV, tNotV, tSl, tPart, tNoPart, tM1, gTup, gCons, gNil, cxK, cxnK, List.map_cons, List.map_nil, List.length_cons, List.length_nil, List.replicate, List.cons_append, List.nil_append, List.append_nil, List.set_cons_zero, List.set_cons_succ, List.getElem?_cons_zero, List.getElem?_cons_succ, Option.some.injEq, V.ref.injEq, V.int.injEq, V.str.injEq, V.bl.injEq, V.ty.injEq, exists_eq_left', exists_eq_left, exists_and_left, List.cons.injEq, and_true, true_and, sc_ii, sc_ss, sc_bb, sc_ni, sc_in, sc_is, sc_si, sc_nn, decide_true, decide_false, reduceCtorEq, Bool.false_eq_true, if_true, if_false, ite_true, ite_false, exists_const, eq_self, false_and, and_false, or_false, false_or, exists_false, Evl.rLenS, rSum, wipe, tYes, exists_eq, exists_eq', rIxL, rIxT, rIxS, exists_and_right, gt_iff_lt, not_true_eq_false, not_false_eq_true, Bool.not_true, Bool.not_false, decide_eq_true_eq, Nat.reduceSub, Nat.reduceAdd, List.append_assoc, tChain, tDIn, tDNotIn, sDDel, tAug, ipI, startF, tSupI, tOst]
    exact ⟨ha, by decide, ha, C, T.ox, n1, .inl ⟨ha, q⟩⟩
abbrev s_NoFence_init : Stmt := mtop 6 0
theorem sc_NoFence_init : NScope ["self", "name", "__class__"] ["self", "name"] ["__class__"] (defScope s_NoFence_init) := nscope_by (by decide +kernel)
theorem ok_NoFence_init {P : Program} {w : World} {K : PySem.W.Frag} {mg : Str → Option Value} {base : Heap} {CX : CXT} {f cc cda C : Addr} {fd : FuncData} (F : FunX K "__init__" "NoFence.__init__" s_NoFence_init f fd cc cda C) (T : ErrC K C) (G : CodeF K P cda) (hsup : mg "super" = none) (n1 : PySem.W.findIn K (.ref C) "name" = some none) {Pf : V → Prop} :
    FnOk P w K mg base CX 1 f fd ["self", "name"] (spErr1 C "name" Pf) := by
  have F0 := F
  obtain ⟨oc, od, kV, doc, pm, an, ct, osl, hfd, lk, hcd⟩ := F0.ex
  obtain ⟨cl, cld, csl, hcc⟩ := F0.cell
  refine F.ok sc_NoFence_init (fun vs H Q E h => ?_) (fun A outer s H vs Q E hr h => ?_)
  · obtain ⟨a, v, rfl, _⟩ := h
    rfl
  · obtain ⟨a, v, rfl, hp, ha, q⟩ := h
    refine ⟨_, psat_cons (psat_sup T G lk (by rw [hfd]; rfl) hcc hsup rfl rfl rfl rfl rfl rfl rfl (pa_cons pe_str pa_nil) rfl rfl rfl rfl rfl) (pss_one (ps_ost (pv 0) (pv 1))), ?_⟩
    try simp (maxSteps := 1000000) only [tSeq, tIfS, tTest, tOp, tUn, tCB, tCons, tNil, tVar, tC, rI0, rI, rU, rEq, rNe, tRet, tRetN, tAsg, gName, gSub, tBM, tBM0, tNext, tB, tNot, tAnd, tOr, tIf, tCall, tDrop, tBreak, tCont, L2.start, tDGet, sDPut, tTup, tLst, tDNewK, tRevL, rCat, rAppend, rPop, rSetL, tAndV, tOrV, tNotV, tSl, tPart, tNoPart, tM1, gTup, gCons, gNil, cxK, cxnK, List.map_cons, List.map_nil, List.length_cons, List.length_nil, List.replicate, List.cons_append, List.nil_append, List.append_nil, List.set_cons_zero, List.set_cons_succ, List.getElem?_cons_zero, List.getElem?_cons_succ, Option.some.injEq, V.ref.injEq, V.int.injEq, V.str.injEq, V.bl.injEq, V.ty.injEq, exists_eq_left', exists_eq_left, exists_and_left, List.cons.injEq, and_true, true_and, sc_ii, sc_ss, sc_bb, sc_ni, sc_in, sc_is, sc_si, sc_nn, decide_true, decide_false, reduceCtorEq, Bool.false_eq_true, if_true, if_false, ite_true, ite_false, exists_const, eq_self, false_and, and_false, or_false, false_or, exists_false, Evl.rLenS, rSum, wipe, tYes, exists_eq, exists_eq', rIxL, rIxT, rIxS, exists_and_right, gt_iff_lt, not_true_eq_false, not_false_eq_true, Bool.not_true, Bool.not_false, decide_eq_true_eq, Nat.reduceSub, Nat.reduceAdd, List.append_assoc, tChain, tDIn, tDNotIn, sDDel, tAug, ipI, startF, tSupI, tOst]
    exact ⟨ha, by decide, ha, C, T.ox, n1, .inl ⟨ha, q⟩⟩
abbrev s_Book_init : Stmt := mtop 16 0
theorem sc_Book_init : FnScope ["self", "kept", "fences", "further", "name"] ["self", "kept", "fences"] (defScope s_Book_init) := ⟨rfl, rfl, rfl, by decide +kernel, rfl, by decide +kernel, by decide +kernel⟩
abbrev s_Book_fences : Stmt := mtop 16 1
theorem sc_Book_fences : FnScope ["self"] ["self"] (defScope s_Book_fences) := ⟨rfl, rfl, rfl, by decide +kernel, rfl, by decide +kernel, by decide +kernel⟩
abbrev s_Book_fence : Stmt := mtop 16 2
theorem sc_Book_fence : FnScope ["self", "name"] ["self", "name"] (defScope s_Book_fence) := ⟨rfl, rfl, rfl, by decide +kernel, rfl, by decide +kernel, by decide +kernel⟩
abbrev s_Book_keeps : Stmt := mtop 16 3
theorem sc_Book_keeps : FnScope ["self", "first", "second", "between", "pair", "kept", "name"] ["self", "first", "second", "between"] (defScope s_Book_keeps) := ⟨rfl, rfl, rfl, by decide +kernel, rfl, by decide +kernel, by decide +kernel⟩
def lets : Str := "abcdefghijklmnopqrstuvwxyz"
def lowC (c : Nat) : Bool := decide (97 ≤ c) && decide (c ≤ 122)
def nameS (z : Str) : Bool := decide (1 ≤ z.length) && (decide (z.length ≤ 8) && z.cps.toList.all lowC)
def nameD : PyData → Bool
  | .str z => nameS z
  | _ => false
def belowD (m : Int) : PyData → Bool
  | .int i => decide (0 ≤ i) && decide (i < m)
  | _ => false
mutual
def szD : PyData → Bool
  | .str z => decide (z.length ≤ 1000)
  | .tuple ds => szAll ds
  | .list ds => szAll ds
  | _ => true
def szAll : List PyData → Bool
  | [] => true
  | d :: ds => szD d && szAll ds
end
theorem szAll_mem : ∀ {ds : List PyData}, szAll ds = true → ∀ d ∈ ds, szD d = true
  | d :: ds, h, e, he => by
    have h' : (szD d && szAll ds) = true := h
    rw [Bool.and_eq_true] at h'
    rcases List.mem_cons.mp he with rfl | he
    · exact h'.1
    · exact szAll_mem h'.2 e he
structure BtB (mg : Str → Option Value) (tL : Tok) : Prop where
  b_isinstance : mg "isinstance" = none
  b_str : mg "str" = none
  b_len : mg "len" = none
  b_all : mg "all" = none
  b_any : mg "any" = none
  b_dict : mg "dict" = none
  b_sorted : mg "sorted" = none
  c_LETTERS : mg "LETTERS" = some (.str lets tL)
/-- the promise of a test of data -/
def spD (pre : PyData → Prop) (f : PyData → Bool) : Sp := fun vs H Q _ => ∃ (v : V) (d : PyData), vs = [v] ∧ Dq H v d ∧ szD d = true ∧ pre d ∧ ∀ H', Kp [] H H' → Q (.bl (f d)) H'
def LowIn (z : Str) (D : Addr) (H : Hp) (i : Nat) (H' : Hp) : Prop := H' D = some (.lst ((z.cps.toList.take i).map fun c => V.bl (lowC c))) ∧ Kp [] H H'
theorem lets_mem (c : Nat) : decide (c ∈ lets.cps.toList) = lowC c := by
  have e : lets.cps.toList = (List.range 26).map (97 + ·) := by decide +kernel
  rw [e, Bool.eq_iff_iff, decide_eq_true_eq]
  unfold lowC
  rw [Bool.and_eq_true, decide_eq_true_eq, decide_eq_true_eq, List.mem_map]
  constructor
  · rintro ⟨i, hi, rfl⟩
    have := List.mem_range.mp hi
    omega
  · rintro ⟨h1, h2⟩
    exact ⟨c - 97, List.mem_range.mpr (by omega), by omega⟩
theorem all_takeS {α : Type} {f : α → Bool} {l : List α} : ((l.map fun c => f c).all id) = l.all f := by
  rw [List.all_map]; rfl
theorem take_snocS {α : Type} {l : List α} {i : Nat} {x : α} (h : l[i]? = some x) : l.take (i + 1) = l.take i ++ [x] := by
  rw [List.take_add_one, h]; rfl
section
variable {P : Program} {w : World} {K : PySem.W.Frag} {mg : Str → Option Value} {base : Heap} {tL : Tok}
theorem ok_is_name {f : Addr} {fd : FuncData} (D : Df K mg "is_name" s_is_name ["value"] f fd) (T : BtB mg tL) : FnOk P w K mg base CX0 1 f fd ["value"] (spD (fun _ => True) nameD) := by
  refine D.F.ok sc_is_name (fun vs H Q E h => ?_) (fun cdv A outer s H vs Q E hr h => ?_)
  · obtain ⟨a, m, rfl, _⟩ := h
    rfl
  · obtain ⟨v, d, rfl, hd, sz, _, q⟩ := h
    have hu := hu_of hr
    refine ⟨_, (pss_cons (ps_if (pt_not (pt_val (pe_callB (id := "isinstance") (r := rIsi K) call_isi (by rfl) T.b_isinstance (by decide +kernel) (pa_cons (pv 0) (pa_cons (pe_bltn (v := .ty "str") (by rfl) T.b_str (by decide +kernel) rfl) pa_nil))))) (pss_one (ps_ret pe_bl)) pss_nil)
      (pss_one (ps_ret (pe_and (pe_chain op_le op_le pe_int (pe_callB (id := "len") call_len_str (by rfl) T.b_len PySem.boot_len (pa_cons (pv 0) pa_nil)) pe_int) (pe_one (pe_callB (id := "all") (r := rAll K) (cr_all rfl) (by rfl) T.b_all (by decide +kernel) (pa_cons (pe_lc (own := [("letter", 1)]) (g := (gName 1)) (tt := tYes) rfl sc_is_name.nd (pi_str (pv 0)) (blkOk_by (N := ["value", "letter"]) (sc := defScope s_is_name) (by decide +kernel)) (fun _ _ _ _ _ => (pg_name (i := 1) sc_is_name.nd rfl (Or.inl rfl))) (fun _ _ _ _ _ => pts_nil) (fun _ _ _ _ _ => (pe_cmpR op_in_sign (pv 1) (pe_glob (v := .str lets) rfl T.c_LETTERS ⟨_, rfl⟩) (by rfl)))) pa_nil))))))), ?_⟩
    try simp (maxSteps := 1000000) only [tSeq, tIfS, tTest, tOp, tUn, tCB, tCons, tNil, tVar, tC, rI0, rI, rU, rEq, rNe, tRet, tRetN, tAsg, gName, gSub, tBM, tBM0, tNext, tB, tNot, tAnd, tOr, tIf, tCall, tDrop, tBreak, tCont, L2.start, tDGet, sDPut, tTup, tLst, tDNewK, tRevL, rCat, rAppend, rPop, rSetL, tAndV, tOrV, tNotV, tSl, tPart, tNoPart, tM1, gTup, gCons, gNil, cxK, cxnK, List.map_cons, List.map_nil, List.length_cons, List.length_nil, List.replicate, List.cons_append, List.nil_append, List.append_nil, List.set_cons_zero, List.set_cons_succ, List.getElem?_cons_zero, List.getElem?_cons_succ, Option.some.injEq, V.ref.injEq, V.int.injEq, V.str.injEq, V.bl.injEq, V.ty.injEq, exists_eq_left', exists_eq_left, exists_and_left, List.cons.injEq, and_true, true_and, sc_ii, sc_ss, sc_bb, sc_ni, sc_in, sc_is, sc_si, sc_nn, decide_true, decide_false, reduceCtorEq, Bool.false_eq_true, if_true, if_false, ite_true, ite_false, exists_const, eq_self, false_and, and_false, or_false, false_or, exists_false, Evl.rLenS, rSum, wipe, tYes, exists_eq, exists_eq', rIxL, rIxT, rIxS, exists_and_right, gt_iff_lt, not_true_eq_false, not_false_eq_true, Bool.not_true, Bool.not_false, decide_eq_true_eq, Nat.reduceSub, Nat.reduceAdd, List.append_assoc, tChain, tDIn, tDNotIn, sDDel, tAug, ipI]
    refine isi_Dstr hd ?_
    try simp (maxSteps := 1000000) only [tSeq, tIfS, tTest, tOp, tUn, tCB, tCons, tNil, tVar, tC, rI0, rI, rU, rEq, rNe, tRet, tRetN, tAsg, gName, gSub, tBM, tBM0, tNext, tB, tNot, tAnd, tOr, tIf, tCall, tDrop, tBreak, tCont, L2.start, tDGet, sDPut, tTup, tLst, tDNewK, tRevL, rCat, rAppend, rPop, rSetL, tAndV, tOrV, tNotV, tSl, tPart, tNoPart, tM1, gTup, gCons, gNil, cxK, cxnK, List.map_cons, List.map_nil, List.length_cons, List.length_nil, List.replicate, List.cons_append, List.nil_append, List.append_nil, List.set_cons_zero, List.set_cons_succ, List.getElem?_cons_zero, List.getElem?_cons_succ, Option.some.injEq, V.ref.injEq, V.int.injEq, V.str.injEq, V.bl.injEq, V.ty.injEq, exists_eq_left', exists_eq_left, exists_and_left, List.cons.injEq, and_true, true_and, sc_ii, sc_ss, sc_bb, sc_ni, sc_in, sc_is, sc_si, sc_nn, decide_true, decide_false, reduceCtorEq, Bool.false_eq_true, if_true, if_false, ite_true, ite_false, exists_const, eq_self, false_and, and_false, or_false, false_or, exists_false, Evl.rLenS, rSum, wipe, tYes, exists_eq, exists_eq', rIxL, rIxT, rIxS, exists_and_right, gt_iff_lt, not_true_eq_false, not_false_eq_true, Bool.not_true, Bool.not_false, decide_eq_true_eq, Nat.reduceSub, Nat.reduceAdd, List.append_assoc, tChain, tDIn, tDNotIn, sDDel, tAug, ipI]
    cases hd with
    | str z =>
      try simp (maxSteps := 1000000) only [tSeq, tIfS, tTest, tOp, tUn, tCB, tCons, tNil, tVar, tC, rI0, rI, rU, rEq, rNe, tRet, tRetN, tAsg, gName, gSub, tBM, tBM0, tNext, tB, tNot, tAnd, tOr, tIf, tCall, tDrop, tBreak, tCont, L2.start, tDGet, sDPut, tTup, tLst, tDNewK, tRevL, rCat, rAppend, rPop, rSetL, tAndV, tOrV, tNotV, tSl, tPart, tNoPart, tM1, gTup, gCons, gNil, cxK, cxnK, List.map_cons, List.map_nil, List.length_cons, List.length_nil, List.replicate, List.cons_append, List.nil_append, List.append_nil, List.set_cons_zero, List.set_cons_succ, List.getElem?_cons_zero, List.getElem?_cons_succ, Option.some.injEq, V.ref.injEq, V.int.injEq, V.str.injEq, V.bl.injEq, V.ty.injEq, exists_eq_left', exists_eq_left, exists_and_left, List.cons.injEq, and_true, true_and, sc_ii, sc_ss, sc_bb, sc_ni, sc_in, sc_is, sc_si, sc_nn, decide_true, decide_false, reduceCtorEq, Bool.false_eq_true, if_true, if_false, ite_true, ite_false, exists_const, eq_self, false_and, and_false, or_false, false_or, exists_false, Evl.rLenS, rSum, wipe, tYes, exists_eq, exists_eq', rIxL, rIxT, rIxS, exists_and_right, gt_iff_lt, not_true_eq_false, not_false_eq_true, Bool.not_true, Bool.not_false, decide_eq_true_eq, Nat.reduceSub, Nat.reduceAdd, List.append_assoc, tChain, tDIn, tDNotIn, sDDel, tAug, ipI, isStrD]
      have zs : z.cps.toList.length = z.length := Array.length_toList
      have zl : z.length ≤ 1000 := of_decide_eq_true sz
      have q' : ∀ H', Kp [] H H' → Q (.bl (nameS z)) H' := q
      unfold nameS at q'
      refine ⟨small (by omega), ?_⟩
      by_cases h1 : 1 ≤ z.length
      · by_cases h8 : z.length ≤ 8
        · have e1 : (1 : Int) ≤ (z.length : Nat) := by omega
          have e8 : ((z.length : Nat) : Int) ≤ 8 := by omega
          rw [decide_eq_true h1, decide_eq_true h8] at q'
          rw [if_pos e1, if_pos e8]
          refine ⟨.str z, rfl, z, rfl, fun o no => lc_it walk_str (LowIn z o H) ⟨upd_same, Kp.new no⟩ (fun _ _ _ _ => True.intro) ?_ ?_⟩
          · rintro i x H1 H2 hi ⟨ho, kp⟩ ⟨rfl, c, hc, rfl⟩
            try simp (maxSteps := 1000000) only [tSeq, tIfS, tTest, tOp, tUn, tCB, tCons, tNil, tVar, tC, rI0, rI, rU, rEq, rNe, tRet, tRetN, tAsg, gName, gSub, tBM, tBM0, tNext, tB, tNot, tAnd, tOr, tIf, tCall, tDrop, tBreak, tCont, L2.start, tDGet, sDPut, tTup, tLst, tDNewK, tRevL, rCat, rAppend, rPop, rSetL, tAndV, tOrV, tNotV, tSl, tPart, tNoPart, tM1, gTup, gCons, gNil, cxK, cxnK, List.map_cons, List.map_nil, List.length_cons, List.length_nil, List.replicate, List.cons_append, List.nil_append, List.append_nil, List.set_cons_zero, List.set_cons_succ, List.getElem?_cons_zero, List.getElem?_cons_succ, Option.some.injEq, V.ref.injEq, V.int.injEq, V.str.injEq, V.bl.injEq, V.ty.injEq, exists_eq_left', exists_eq_left, exists_and_left, List.cons.injEq, and_true, true_and, sc_ii, sc_ss, sc_bb, sc_ni, sc_in, sc_is, sc_si, sc_nn, decide_true, decide_false, reduceCtorEq, Bool.false_eq_true, if_true, if_false, ite_true, ite_false, exists_const, eq_self, false_and, and_false, or_false, false_or, exists_false, Evl.rLenS, rSum, wipe, tYes, exists_eq, exists_eq', rIxL, rIxT, rIxS, exists_and_right, gt_iff_lt, not_true_eq_false, not_false_eq_true, Bool.not_true, Bool.not_false, decide_eq_true_eq, Nat.reduceSub, Nat.reduceAdd, List.append_assoc, tChain, tDIn, tDNotIn, sDDel, tAug, ipI]
            refine ⟨c, rfl, _, ho, ?_, ?_, kp.wr no⟩
            · rw [List.length_map, List.length_take, zs]; exact smallL (by omega)
            · rw [upd_same, lets_mem, take_snocS (x := c) (by rw [← hc]; simp), List.map_append]; rfl
          · rintro H1 ⟨ho, kp⟩
            have q2 := q' H1 kp
            rw [← all_takeS] at q2
            refine ⟨_, z.cps.toList.map lowC, rfl, sq_l (ho.trans ?_), ?_⟩
            · rw [List.take_of_length_le (by simp), List.map_map]; rfl
            · simpa using q2
        · have e1 : (1 : Int) ≤ (z.length : Nat) := by omega
          have e8 : ¬ ((z.length : Nat) : Int) ≤ 8 := by omega
          rw [decide_eq_true h1, decide_eq_false h8] at q'
          rw [if_pos e1, if_neg e8]
          exact q' _ (Kp.refl _ _)
      · have e1 : ¬ (1 : Int) ≤ (z.length : Nat) := by omega
        rw [decide_eq_false h1] at q'
        rw [if_neg e1]
        exact q' _ (Kp.refl _ _)
    | _ => exact q H (Kp.refl _ _)

def fenS (z : Str) : Bool := nameS z && (!decide (z ∈ kindsL) && !decide (z = ("return" : Str)))
def spFen : Sp := fun vs H Q _ => ∃ z : Str, vs = [.str z] ∧ z.length ≤ 1000 ∧ ∀ H', Kp [] H H' → Q (.bl (fenS z)) H'
structure BtK (K : PySem.W.Frag) (mg : Str → Option Value) (T_KINDS : Addr) : Prop where
  c_KINDS : mg "KINDS" = some (.ref T_KINDS)
  kk : ∀ H, SqT K H T_KINDS (kindsL.map V.str)
theorem ok_is_fence_name {f : Addr} {fd : FuncData} {T_KINDS : Addr} (D : Df K mg "is_fence_name" s_is_fence_name ["name"] f fd) (T : BtK K mg T_KINDS) {fa : Addr} {fda : FuncData} (D_is_name : Df K mg "is_name" s_is_name ["value"] fa fda) (G_is_name : FnOk P w K mg base CX0 1 fa fda ["value"] (spD (fun _ => True) nameD)) : FnOk P w K mg base CX0 2 f fd ["name"] spFen := by
  refine D.F.ok sc_is_fence_name (fun vs H Q E h => ?_) (fun cdv A outer s H vs Q E hr h => ?_)
  · obtain ⟨z, rfl, _⟩ := h
    rfl
  · obtain ⟨z, rfl, zl, q⟩ := h
    refine ⟨_, (pss_one (ps_ret (pe_and (pe_call G_is_name (hr.mono (by decide)) rfl D_is_name.g D_is_name.F.kp D_is_name.b .nil pass0 (pa_cons (pv 0) pa_nil)) (pe_and (pe_cmpR op_notIn_seq (pv 0) (pe_glob (v := .ref T_KINDS) rfl T.c_KINDS rfl) (by rfl)) (pe_one (pe_cmpR op_ne (pv 0) pe_str (nomark _))))))), ?_⟩
    try simp (maxSteps := 1000000) only [tSeq, tIfS, tTest, tOp, tUn, tCB, tCons, tNil, tVar, tC, rI0, rI, rU, rEq, rNe, tRet, tRetN, tAsg, gName, gSub, tBM, tBM0, tNext, tB, tNot, tAnd, tOr, tIf, tCall, tDrop, tBreak, tCont, L2.start, tDGet, sDPut, tTup, tLst, tDNewK, tRevL, rCat, rAppend, rPop, rSetL, tAndV, tOrV, tNotV, tSl, tPart, tNoPart, tM1, gTup, gCons, gNil, cxK, cxnK, List.map_cons, List.map_nil, List.length_cons, List.length_nil, List.replicate, List.cons_append, List.nil_append, List.append_nil, List.set_cons_zero, List.set_cons_succ, List.getElem?_cons_zero, List.getElem?_cons_succ, Option.some.injEq, V.ref.injEq, V.int.injEq, V.str.injEq, V.bl.injEq, V.ty.injEq, exists_eq_left', exists_eq_left, exists_and_left, List.cons.injEq, and_true, true_and, sc_ii, sc_ss, sc_bb, sc_ni, sc_in, sc_is, sc_si, sc_nn, decide_true, decide_false, reduceCtorEq, Bool.false_eq_true, if_true, if_false, ite_true, ite_false, exists_const, eq_self, false_and, and_false, or_false, false_or, exists_false, Evl.rLenS, rSum, wipe, tYes, exists_eq, exists_eq', rIxL, rIxT, rIxS, exists_and_right, gt_iff_lt, not_true_eq_false, not_false_eq_true, Bool.not_true, Bool.not_false, decide_eq_true_eq, Nat.reduceSub, Nat.reduceAdd, List.append_assoc, tChain, tDIn, tDNotIn, sDDel, tAug, ipI]
    refine ⟨.str z, .str z, rfl, .str _, decide_eq_true zl, True.intro, fun H' k => ⟨_, rfl, ?_⟩⟩
    have e0 : nameD (.str z) = nameS z := rfl
    rw [e0]
    have q' := q H' k
    unfold fenS at q'
    cases hn : nameS z with
    | false => rw [hn] at q'; exact q'
    | true =>
      rw [hn] at q'
      refine ⟨T_KINDS, _, rfl, .inr (T.kk H'), rfl, flat_map _, _, rfl, ?_⟩
      rw [if_pos rfl, in_strs]
      unfold inW
      cases hd : decide (z ∈ kindsL) with
      | true => rw [hd] at q'; exact q'
      | false => rw [hd] at q'; exact q'
end
end My

set_option Elab.async false
set_option linter.all false
set_option maxRecDepth 100000
set_option maxHeartbeats 4000000
namespace My
open PySem L2 NdefX
theorem valV_fresh {kvs : List (Key × V)} {k : Key} (h : k ∉ kvs.map (·.1)) : valV kvs k = none := by
  induction kvs with
  | nil => rfl
  | cons p r ih =>
    rw [List.map_cons, List.mem_cons, not_or] at h
    have e := ih h.2
    unfold valV at e ⊢
    simp [Ne.symm h.1, e]
structure BkC (K : PySem.W.Frag) (mg : Str → Option Value) (BK : Addr) : Prop where
  k : mg "Book" = some (.ref BK)
  cl : Cls K BK
  n1 : NoAttr K BK "kept"
  n2 : NoAttr K BK "_fences"
/-- the dict's items are the fences fs -/
def Fen (K : PySem.W.Frag) (PC : Addr) (H : Hp) (kvs : List (Key × V)) (fs : List (Str × (Pr → Bool))) : Prop := kvs.map (·.1) = fs.map (fun x => (Sum.inr x.1 : Key)) ∧ ∀ (i : Nat) (n : Str) (g : Pr → Bool), fs[i]? = some (n, g) → ∃ q, kvs[i]? = some (Sum.inr n, V.ref q) ∧ PrAt K PC H q g
theorem Fen.kp {K : PySem.W.Frag} {PC : Addr} {H H' : Hp} {kvs : List (Key × V)} {fs : List (Str × (Pr → Bool))} (h : Fen K PC H kvs fs) (k : Kp [] H H') : Fen K PC H' kvs fs := ⟨h.1, fun i n g e => by
  obtain ⟨q, a, b⟩ := h.2 i n g e
  exact ⟨q, a, b.kp k⟩⟩
/-- at o a Book: kept f, fences fs (names of their own, at most three) -/
def BookAt (K : PySem.W.Frag) (BK PC : Addr) (H : Hp) (o : Addr) (f : Pr → Bool) (fs : List (Str × (Pr → Bool))) : Prop := ∃ (dx ko d : Addr) (kvs : List (Key × V)), H o = some (.ins BK dx [("kept", .ref ko), ("_fences", .ref d)]) ∧ PrAt K PC H ko f ∧ H d = some (.dK kvs) ∧ Fen K PC H kvs fs ∧ fs.length ≤ 3 ∧ (fs.map (·.1)).Nodup
theorem BookAt.kp {K : PySem.W.Frag} {BK PC : Addr} {H H' : Hp} {o : Addr} {f : Pr → Bool} {fs : List (Str × (Pr → Bool))} (h : BookAt K BK PC H o f fs) (k : Kp [] H H') : BookAt K BK PC H' o f fs := by
  obtain ⟨dx, ko, d, kvs, a, b, c, e, r⟩ := h
  exact ⟨dx, ko, d, kvs, k _ _ not0 a, b.kp k, k _ _ not0 c, e.kp k, r⟩
section
variable {P : Program} {w : World} {K : PySem.W.Frag} {mg : Str → Option Value} {base : Heap} {tL : Tok} {BK PC : Addr}
def spFences (K : PySem.W.Frag) (BK PC : Addr) : Sp := fun vs H Q _ => ∃ (o : Addr) (f : Pr → Bool) (fs : List (Str × (Pr → Bool))), vs = [.ref o] ∧ BookAt K BK PC H o f fs ∧ ∀ (ys : List Str) p, ys.Perm (fs.map (·.1)) → PyProof.Rows.sortedS ys = true → H p = none → Q (.ref p) (upd H p (.lst (ys.map V.str)))
theorem ok_Book_fences {f : Addr} {fd : FuncData} (F : Fun K "fences" "Book.fences" s_Book_fences f fd) (T : BtB mg tL) (B : BkC K mg BK) : FnOk P w K mg base CX0 1 f fd ["self"] (spFences K BK PC) := by
  refine F.ok sc_Book_fences (fun vs H Q E h => ?_) (fun cdv A outer s H vs Q E hr h => ?_)
  · obtain ⟨_, _, _, rfl, _⟩ := h
    rfl
  · obtain ⟨o, f, fs, rfl, ⟨dx, ko, d, kvs, ho, hk, hd, hf, fl, nd⟩, q⟩ := h
    refine ⟨_, (pss_one (ps_ret (pe_callB (id := "sorted") (call_sortedD (by first | exact hcalm | rfl)) (by rfl) T.b_sorted (by decide +kernel) (pa_cons (pe_fld (pv 0) rfl) pa_nil)))), ?_⟩
    try simp (maxSteps := 1000000) only [tSeq, tIfS, tTest, tOp, tUn, tCB, tCons, tNil, tVar, tC, rI0, rI, rU, rEq, rNe, tRet, tRetN, tAsg, gName, gSub, tBM, tBM0, tNext, tB, tNot, tAnd, tOr, tIf, tCall, tDrop, tBreak, tCont, L2.start, tDGet, sDPut, tTup, tLst, tDNewK, tRevL, rCat, rAppend, rPop, rSetL, tAndV, tOrV, tNotV, tSl, tPart, tNoPart, tM1, gTup, gCons, gNil, cxK, cxnK, List.map_cons, List.map_nil, List.length_cons, List.length_nil, List.replicate, List.cons_append, List.nil_append, List.append_nil, List.set_cons_zero, List.set_cons_succ, List.getElem?_cons_zero, List.getElem?_cons_succ, Option.some.injEq, V.ref.injEq, V.int.injEq, V.str.injEq, V.bl.injEq, V.ty.injEq, exists_eq_left', exists_eq_left, exists_and_left, List.cons.injEq, and_true, true_and, sc_ii, sc_ss, sc_bb, sc_ni, sc_in, sc_is, sc_si, sc_nn, decide_true, decide_false, reduceCtorEq, Bool.false_eq_true, if_true, if_false, ite_true, ite_false, exists_const, eq_self, false_and, and_false, or_false, false_or, exists_false, Evl.rLenS, rSum, wipe, tYes, exists_eq, exists_eq', rIxL, rIxT, rIxS, exists_and_right, gt_iff_lt, not_true_eq_false, not_false_eq_true, Bool.not_true, Bool.not_false, decide_eq_true_eq, Nat.reduceSub, Nat.reduceAdd, List.append_assoc, tChain, tDIn, tDNotIn, sDDel, tAug, ipI]
    refine ⟨.ref o, rfl, o, BK, dx, _, .ref d, rfl, ho, B.cl, B.n2, rfl, ?_⟩
    exact ⟨d, rfl, kvs, .inl hd, fs.map (·.1), by rw [hf.1, List.map_map]; rfl, by rw [List.length_map]; omega, q⟩
def spFence (K : PySem.W.Frag) (BK PC NF : Addr) : Sp := fun vs H Q E => ∃ (o : Addr) (f : Pr → Bool) (fs : List (Str × (Pr → Bool))) (z : Str), vs = [.ref o, .str z] ∧ BookAt K BK PC H o f fs ∧ z.length ≤ 1000 ∧
  (∀ (i : Nat) (g : Pr → Bool), fs[i]? = some (z, g) → nameS z = true → ∀ (p : Addr) H', PrAt K PC H' p g → Kp [] H H' → Q (.ref p) H') ∧
  ((nameS z = false ∨ z ∉ fs.map (·.1)) → ∀ (e : Addr) (H' : Hp), H e = none → H' e = some (.xd [("name", .str z)]) → Kp [] H H' → E (.ref NF) (some e) H')
theorem ok_Book_fence {f : Addr} {fd : FuncData} (F : Fun K "fence" "Book.fence" s_Book_fence f fd) (T : BtB mg tL) (B : BkC K mg BK) {NF fB : Addr} {fdB : FuncData} (E_NoFence : Er1 P w K mg base "NoFence" "name" NF fB fdB ["self", "name"] (fun _ => True))
    {fa : Addr} {fda : FuncData} (D_is_name : Df K mg "is_name" s_is_name ["value"] fa fda) (G_is_name : FnOk P w K mg base CX0 1 fa fda ["value"] (spD (fun _ => True) nameD)) : FnOk P w K mg base (L2.CX P w) 3 f fd ["self", "name"] (spFence K BK PC NF) := by
  refine F.okX sc_Book_fence (fun vs H Q E h => ?_) (fun cdv A outer s H vs Q E hr h => ?_)
  · obtain ⟨_, _, _, _, rfl, _⟩ := h
    rfl
  · obtain ⟨o, f, fs, z, rfl, ⟨dx, ko, d, kvs, ho, hk, hd, hf, fl, nd⟩, zl, qG, qB⟩ := h
    have hu := hu_of hr
    refine ⟨_, (pss_cons (ps_if (PW.pt (pw_or (pt_not (pt_val (pe_call G_is_name (hr.mono (by decide)) rfl D_is_name.g D_is_name.F.kp D_is_name.b .nil pass0 (pa_cons (pv 1) pa_nil)))) (pw_or1 (pt_cmp (pc_dnotin hu (pv 1) (pe_fld (pv 0) rfl)))))) (pss_one (ps_raise rfl (takes_of rfl rfl rfl rfl) (pmk_oex E_NoFence.ox E_NoFence.ic E_NoFence.ti E_NoFence.G (hr.mono (by decide)) E_NoFence.b .nil passL rfl E_NoFence.k (pa_cons (pv 1) pa_nil)))) pss_nil)
      (pss_one (ps_ret (pe_dget hu (pe_fld (pv 0) rfl) (pv 1) (fun _ _ => rfl))))), ?_⟩
    try simp (maxSteps := 1000000) only [tSeq, tIfS, tTest, tOp, tUn, tCB, tCons, tNil, tVar, tC, rI0, rI, rU, rEq, rNe, tRet, tRetN, tAsg, gName, gSub, tBM, tBM0, tNext, tB, tNot, tAnd, tOr, tIf, tCall, tDrop, tBreak, tCont, L2.start, tDGet, sDPut, tTup, tLst, tDNewK, tRevL, rCat, rAppend, rPop, rSetL, tAndV, tOrV, tNotV, tSl, tPart, tNoPart, tM1, gTup, gCons, gNil, cxK, cxnK, List.map_cons, List.map_nil, List.length_cons, List.length_nil, List.replicate, List.cons_append, List.nil_append, List.append_nil, List.set_cons_zero, List.set_cons_succ, List.getElem?_cons_zero, List.getElem?_cons_succ, Option.some.injEq, V.ref.injEq, V.int.injEq, V.str.injEq, V.bl.injEq, V.ty.injEq, exists_eq_left', exists_eq_left, exists_and_left, List.cons.injEq, and_true, true_and, sc_ii, sc_ss, sc_bb, sc_ni, sc_in, sc_is, sc_si, sc_nn, decide_true, decide_false, reduceCtorEq, Bool.false_eq_true, if_true, if_false, ite_true, ite_false, exists_const, eq_self, false_and, and_false, or_false, false_or, exists_false, Evl.rLenS, rSum, wipe, tYes, exists_eq, exists_eq', rIxL, rIxT, rIxS, exists_and_right, gt_iff_lt, not_true_eq_false, not_false_eq_true, Bool.not_true, Bool.not_false, decide_eq_true_eq, Nat.reduceSub, Nat.reduceAdd, List.append_assoc, tChain, tDIn, tDNotIn, sDDel, tAug, ipI]
    refine ⟨.str z, .str z, rfl, .str _, decide_eq_true zl, True.intro, fun H1 k1 => ?_⟩
    have e0 : nameD (.str z) = nameS z := rfl
    rw [e0]
    have hn1 : (nameS z = false ∨ z ∉ fs.map (·.1)) → tMkO NF (spErr1 NF "name" fun _ => True) [] (tCons (tVar 1) tNil) [some (.ref o), some (.str z)] H1 (fun cls d H' => E cls d H') := fun hb =>
      ⟨.str z, rfl, err1_made (P := fun _ => True) True.intro fun e H' ne he k => qB hb e H' (k1.free0 ne) he (k1.trans k)⟩
    cases hn : nameS z with
    | false =>
      try simp (maxSteps := 1000000) only [tSeq, tIfS, tTest, tOp, tUn, tCB, tCons, tNil, tVar, tC, rI0, rI, rU, rEq, rNe, tRet, tRetN, tAsg, gName, gSub, tBM, tBM0, tNext, tB, tNot, tAnd, tOr, tIf, tCall, tDrop, tBreak, tCont, L2.start, tDGet, sDPut, tTup, tLst, tDNewK, tRevL, rCat, rAppend, rPop, rSetL, tAndV, tOrV, tNotV, tSl, tPart, tNoPart, tM1, gTup, gCons, gNil, cxK, cxnK, List.map_cons, List.map_nil, List.length_cons, List.length_nil, List.replicate, List.cons_append, List.nil_append, List.append_nil, List.set_cons_zero, List.set_cons_succ, List.getElem?_cons_zero, List.getElem?_cons_succ, Option.some.injEq, V.ref.injEq, V.int.injEq, V.str.injEq, V.bl.injEq, V.ty.injEq, exists_eq_left', exists_eq_left, exists_and_left, List.cons.injEq, and_true, true_and, sc_ii, sc_ss, sc_bb, sc_ni, sc_in, sc_is, sc_si, sc_nn, decide_true, decide_false, reduceCtorEq, Bool.false_eq_true, if_true, if_false, ite_true, ite_false, exists_const, eq_self, false_and, and_false, or_false, false_or, exists_false, Evl.rLenS, rSum, wipe, tYes, exists_eq, exists_eq', rIxL, rIxT, rIxS, exists_and_right, gt_iff_lt, not_true_eq_false, not_false_eq_true, Bool.not_true, Bool.not_false, decide_eq_true_eq, Nat.reduceSub, Nat.reduceAdd, List.append_assoc, tChain, tDIn, tDNotIn, sDDel, tAug, ipI]
      exact hn1 (.inl hn)
    | true =>
      have ho1 := k1 _ _ not0 ho
      have hd1 := k1 _ _ not0 hd
      have hf1 := hf.kp k1
      have ndk : (kvs.map (·.1)).Nodup := by
        have e : kvs.map (·.1) = (fs.map (·.1)).map Sum.inr := by rw [hf.1, List.map_map]; rfl
        rw [e]
        exact (List.Pairwise.map _ (fun a b h z => h (Sum.inr.inj z)) nd)
      try simp (maxSteps := 1000000) only [tSeq, tIfS, tTest, tOp, tUn, tCB, tCons, tNil, tVar, tC, rI0, rI, rU, rEq, rNe, tRet, tRetN, tAsg, gName, gSub, tBM, tBM0, tNext, tB, tNot, tAnd, tOr, tIf, tCall, tDrop, tBreak, tCont, L2.start, tDGet, sDPut, tTup, tLst, tDNewK, tRevL, rCat, rAppend, rPop, rSetL, tAndV, tOrV, tNotV, tSl, tPart, tNoPart, tM1, gTup, gCons, gNil, cxK, cxnK, List.map_cons, List.map_nil, List.length_cons, List.length_nil, List.replicate, List.cons_append, List.nil_append, List.append_nil, List.set_cons_zero, List.set_cons_succ, List.getElem?_cons_zero, List.getElem?_cons_succ, Option.some.injEq, V.ref.injEq, V.int.injEq, V.str.injEq, V.bl.injEq, V.ty.injEq, exists_eq_left', exists_eq_left, exists_and_left, List.cons.injEq, and_true, true_and, sc_ii, sc_ss, sc_bb, sc_ni, sc_in, sc_is, sc_si, sc_nn, decide_true, decide_false, reduceCtorEq, Bool.false_eq_true, if_true, if_false, ite_true, ite_false, exists_const, eq_self, false_and, and_false, or_false, false_or, exists_false, Evl.rLenS, rSum, wipe, tYes, exists_eq, exists_eq', rIxL, rIxT, rIxS, exists_and_right, gt_iff_lt, not_true_eq_false, not_false_eq_true, Bool.not_true, Bool.not_false, decide_eq_true_eq, Nat.reduceSub, Nat.reduceAdd, List.append_assoc, tChain, tDIn, tDNotIn, sDDel, tAug, ipI, tFld]
      refine ⟨BK, dx, _, ho1, B.cl, B.n2, .ref d, rfl, d, rfl, _, .inl ⟨kvs, Sum.inr z, .inl hd1, rfl, rfl⟩, ?_⟩
      by_cases hz : z ∈ fs.map (·.1)
      · obtain ⟨⟨n, g⟩, hm, en⟩ := List.mem_map.mp hz
        have en : n = z := en
        subst en
        obtain ⟨i, ei⟩ := List.getElem?_of_mem hm
        obtain ⟨q, eq, hq⟩ := hf1.2 i n g ei
        have em : ((Sum.inr n : Key), V.ref q) ∈ kvs := List.mem_of_getElem? eq
        rw [valV_mem ndk em]
        refine ⟨BK, dx, _, ho1, B.cl, B.n2, .ref d, rfl, d, rfl, _, .inl ⟨kvs, Sum.inr n, .inl hd1, rfl, (valV_mem ndk em).symm⟩, ?_⟩
        exact qG i g ei hn q H1 hq k1
      · have hk : (Sum.inr z : Key) ∉ kvs.map (·.1) := by
          rw [hf.1]
          intro h
          obtain ⟨z', hz', e⟩ := List.mem_map.mp h
          cases e
          exact hz (List.mem_map_of_mem hz')
        rw [valV_fresh hk]
        exact hn1 (.inr hz)
structure BtC (K : PySem.W.Frag) (mg : Str → Option Value) (tL : Tok) (T_PAIRS : Addr) : Prop extends BtB mg tL, Bt K mg T_PAIRS
/-- ahead of the i-th name: the list at D has what the fences say of the pair -/
def KeIn (D : Addr) (H : Hp) (fs : List (Str × (Pr → Bool))) (zs : List Str) (a b : Str) (i : Nat) (H' : Hp) : Prop := ∃ gs : List (Pr → Bool), gs.length = i ∧ H' D = some (.lst ((gs.map fun g => g (a, b)).map V.bl)) ∧ (∀ (j : Nat) z, j < i → zs[j]? = some z → nameS z = true ∧ ∃ (i' : Nat) (g : Pr → Bool), fs[i']? = some (z, g) ∧ gs[j]? = some g) ∧ Kp [] H H'
def spKeeps (K : PySem.W.Frag) (BK PC BP NF : Addr) : Sp := fun vs H Q E => ∃ (o t : Addr) (f : Pr → Bool) (fs : List (Str × (Pr → Bool))) (a b : Str) (zs : List Str), vs = [.ref o, .str a, .str b, .ref t] ∧ BookAt K BK PC H o f fs ∧ SqT K H t (zs.map V.str) ∧ zs.length ≤ 1000 ∧ (∀ z ∈ zs, z.length ≤ 1000) ∧ SeqAt.shaped (pD (a, b)) = true ∧
  (∀ gs : List (Pr → Bool), (a, b) ∈ pairsL → gs.length = zs.length → (∀ (j : Nat) z, zs[j]? = some z → nameS z = true ∧ ∃ (i : Nat) (g : Pr → Bool), fs[i]? = some (z, g) ∧ gs[j]? = some g) → ∀ H', Kp [] H H' → Q (.bl (f (a, b) || gs.any fun g => g (a, b))) H') ∧
  ((a, b) ∉ pairsL → ∀ (v : V) (e : Addr) (H' : Hp), H e = none → H' e = some (.xd [("pair", v)]) → Dp K H' v (pD (a, b)) → Kp [] H H' → E (.ref BP) (some e) H') ∧
  (∀ (j : Nat) z, (a, b) ∈ pairsL → zs[j]? = some z → (nameS z = false ∨ z ∉ fs.map (·.1)) → (∀ (i : Nat) y, i < j → zs[i]? = some y → nameS y = true ∧ y ∈ fs.map (·.1)) → ∀ (e : Addr) (H' : Hp), H e = none → H' e = some (.xd [("name", .str z)]) → Kp [] H H' → E (.ref NF) (some e) H')
theorem ok_Book_keeps {f : Addr} {fd : FuncData} {dvs : List V} {T_PAIRS : Addr} (F : FunD K "keeps" "Book.keeps" (defArgs s_Book_keeps) (defBody s_Book_keeps) (defScope s_Book_keeps) dvs [] f fd) (T : BtC K mg tL T_PAIRS) (B : BkC K mg BK) (C : PrC K mg PC) {NF BP fB fX : Addr} {fdB fdX : FuncData} (E_BadPair : Er1 P w K mg base "BadPair" "pair" BP fB fdB ["self", "pair"] (fun _ => True))
    (ME_Book_fence : Meth K BK "fence" fX) (bM_Book_fence : Binds K fdX ["self", "name"] []) (G_Book_fence : FnOk P w K mg base (L2.CX P w) 3 fX fdX ["self", "name"] (spFence K BK PC NF))
    {fC : Addr} {fdC : FuncData} (IN_Pairs : InC K PC fC) (b_Pairs_contains : Binds K fdC ["self", "x"] []) (G_Pairs_contains : FnOk P w K mg base CX0 1 fC fdC ["self", "x"] (spCont K PC)) : FnOk P w K mg base (L2.CX P w) 4 f fd ["self", "first", "second", "between"] (spKeeps K BK PC BP NF) := by
  refine F.ok (CX := L2.CX P w) sc_Book_keeps (fun vs H Q E h => ?_) (fun cdv A outer s H vs Q E hr h => ?_)
  · obtain ⟨_, _, _, _, _, _, _, rfl, _⟩ := h
    rfl
  · obtain ⟨o, t, f, fs, a, b, zs, rfl, hB, hT, zl, zn, sh, qG, qP, qN⟩ := h
    have hu := hu_of hr
    refine ⟨_, (pss_cons (ps_set (i := 4) sc_Book_keeps.nd rfl (Or.inr rfl) (pe_tup (pa_cons (pv 1) (pa_cons (pv 2) pa_nil))))
      (pss_cons (ps_if (pt_cmpR (op_notInT (hu5 hr)) (pv 4) (pe_glob (v := .ref T_PAIRS) rfl T.c_PAIRS rfl) (by rfl)) (pss_one (ps_raise rfl (takes_of rfl rfl rfl rfl) (pmk_oex E_BadPair.ox E_BadPair.ic E_BadPair.ti E_BadPair.G (hr.mono (by decide)) E_BadPair.b .nil passL rfl E_BadPair.k (pa_cons (pv 4) pa_nil)))) pss_nil)
      (pss_cons (ps_setLcX (E := E) (i := 5) (own := [("name", 6)]) (g := (gName 6)) (takes_of rfl rfl rfl rfl) rfl rfl rfl sc_Book_keeps.nd rfl rfl (sw_true rfl rfl rfl (by decide +kernel)) (pi_tup (pv 3)) (blkOk_by (N := ["self", "first", "second", "between", "pair", "kept", "name"]) (sc := defScope s_Book_keeps) (by decide +kernel)) (fun _ _ _ _ _ => (pg_name (i := 6) sc_Book_keeps.nd rfl (Or.inl rfl))) (fun _ _ _ _ _ _ hxx => (pe_cmpR (op_inO IN_Pairs G_Pairs_contains b_Pairs_contains (hr.mono (by decide)) pass0) (pv 4) (pe_meth (pv 0) B.cl ME_Book_fence G_Book_fence (hr.mono (by decide)) bM_Book_fence .nil hxx (pa_cons (pv 6) pa_nil)) (by rfl))))
      (pss_one (ps_ret (pe_or (pe_cmpR (op_inO IN_Pairs G_Pairs_contains b_Pairs_contains (hr.mono (by decide)) pass0) (pv 4) (pe_fld (pv 0) rfl) (by rfl)) (pe_one (pe_callB (id := "any") (r := rAny K) (cr_any rfl) (by rfl) T.b_any (by decide +kernel) (pa_cons (pv 5) pa_nil))))))))), ?_⟩
    try simp (maxSteps := 1000000) only [tSeq, tIfS, tTest, tOp, tUn, tCB, tCons, tNil, tVar, tC, rI0, rI, rU, rEq, rNe, tRet, tRetN, tAsg, gName, gSub, tBM, tBM0, tNext, tB, tNot, tAnd, tOr, tIf, tCall, tDrop, tBreak, tCont, L2.start, tDGet, sDPut, tTup, tLst, tDNewK, tRevL, rCat, rAppend, rPop, rSetL, tAndV, tOrV, tNotV, tSl, tPart, tNoPart, tM1, gTup, gCons, gNil, cxK, cxnK, List.map_cons, List.map_nil, List.length_cons, List.length_nil, List.replicate, List.cons_append, List.nil_append, List.append_nil, List.set_cons_zero, List.set_cons_succ, List.getElem?_cons_zero, List.getElem?_cons_succ, Option.some.injEq, V.ref.injEq, V.int.injEq, V.str.injEq, V.bl.injEq, V.ty.injEq, exists_eq_left', exists_eq_left, exists_and_left, List.cons.injEq, and_true, true_and, sc_ii, sc_ss, sc_bb, sc_ni, sc_in, sc_is, sc_si, sc_nn, decide_true, decide_false, reduceCtorEq, Bool.false_eq_true, if_true, if_false, ite_true, ite_false, exists_const, eq_self, false_and, and_false, or_false, false_or, exists_false, Evl.rLenS, rSum, wipe, tYes, exists_eq, exists_eq', rIxL, rIxT, rIxS, exists_and_right, gt_iff_lt, not_true_eq_false, not_false_eq_true, Bool.not_true, Bool.not_false, decide_eq_true_eq, Nat.reduceSub, Nat.reduceAdd, List.append_assoc, tChain, tDIn, tDNotIn, sDDel, tAug, ipI]
    refine ⟨small (by decide), fun p np => ?_⟩
    obtain ⟨ps, hz⟩ := T.pk
    have shT : SeqAt.shaped (.tuple (pairsL.map pD)) = true := (shapedL (fitsP fun p h => h)).2
    have kp1 : Kp [] H (upd H p (.tup [.str a, .str b])) := Kp.new np
    have hp1 : (upd H p (.tup [.str a, .str b])) p = some (.tup [.str a, .str b]) := upd_same
    generalize (upd H p (.tup [.str a, .str b])) = H1 at kp1 hp1 ⊢
    have dpp : ∀ {H' : Hp}, Kp [] H1 H' → Dp K H' (.ref p) (pD (a, b)) := fun k => .tup (k.tp not0 (sq_t hp1)) (.cons (.str _) (.cons (.str _) .nil))
    refine ⟨pD (a, b), _, dpp (Kp.refl _ _), .tup (hz H1).1 (hz H1).2, sh, shT, ?_⟩
    rw [any_eq]
    by_cases hm : (a, b) ∈ pairsL
    · rw [decide_eq_true hm]
      try simp (maxSteps := 1000000) only [tSeq, tIfS, tTest, tOp, tUn, tCB, tCons, tNil, tVar, tC, rI0, rI, rU, rEq, rNe, tRet, tRetN, tAsg, gName, gSub, tBM, tBM0, tNext, tB, tNot, tAnd, tOr, tIf, tCall, tDrop, tBreak, tCont, L2.start, tDGet, sDPut, tTup, tLst, tDNewK, tRevL, rCat, rAppend, rPop, rSetL, tAndV, tOrV, tNotV, tSl, tPart, tNoPart, tM1, gTup, gCons, gNil, cxK, cxnK, List.map_cons, List.map_nil, List.length_cons, List.length_nil, List.replicate, List.cons_append, List.nil_append, List.append_nil, List.set_cons_zero, List.set_cons_succ, List.getElem?_cons_zero, List.getElem?_cons_succ, Option.some.injEq, V.ref.injEq, V.int.injEq, V.str.injEq, V.bl.injEq, V.ty.injEq, exists_eq_left', exists_eq_left, exists_and_left, List.cons.injEq, and_true, true_and, sc_ii, sc_ss, sc_bb, sc_ni, sc_in, sc_is, sc_si, sc_nn, decide_true, decide_false, reduceCtorEq, Bool.false_eq_true, if_true, if_false, ite_true, ite_false, exists_const, eq_self, false_and, and_false, or_false, false_or, exists_false, Evl.rLenS, rSum, wipe, tYes, exists_eq, exists_eq', rIxL, rIxT, rIxS, exists_and_right, gt_iff_lt, not_true_eq_false, not_false_eq_true, Bool.not_true, Bool.not_false, decide_eq_true_eq, Nat.reduceSub, Nat.reduceAdd, List.append_assoc, tChain, tDIn, tDNotIn, sDDel, tAug, ipI]
      refine ⟨.ref t, rfl, t, rfl, ⟨_, kp1.tp not0 hT⟩, fun D nD => lc_tup (K := K) (a := t) (xs := zs.map V.str) (KeIn D H1 fs zs a b) ⟨[], rfl, upd_same, fun j z h => absurd h (by omega), Kp.new nD⟩ (fun i H' _ h => by obtain ⟨_, _, _, _, k⟩ := h; exact k.tp not0 (kp1.tp not0 hT)) ?_ ?_⟩
      · rintro i x H2 hx ⟨gs, gl, hD, hg, k2⟩
        rw [List.getElem?_map] at hx
        obtain ⟨z, ez, rfl⟩ : ∃ z, zs[i]? = some z ∧ V.str z = x := by
          cases e : zs[i]? with
          | none => rw [e] at hx; cases hx
          | some z => rw [e] at hx; exact ⟨z, rfl, Option.some.inj hx⟩
        have hB2 := hB.kp (kp1.trans k2)
        obtain ⟨dx, ko, d, kvs, ho, hk, hd, hf, fl, nd⟩ := id hB2
        try simp (maxSteps := 1000000) only [tSeq, tIfS, tTest, tOp, tUn, tCB, tCons, tNil, tVar, tC, rI0, rI, rU, rEq, rNe, tRet, tRetN, tAsg, gName, gSub, tBM, tBM0, tNext, tB, tNot, tAnd, tOr, tIf, tCall, tDrop, tBreak, tCont, L2.start, tDGet, sDPut, tTup, tLst, tDNewK, tRevL, rCat, rAppend, rPop, rSetL, tAndV, tOrV, tNotV, tSl, tPart, tNoPart, tM1, gTup, gCons, gNil, cxK, cxnK, List.map_cons, List.map_nil, List.length_cons, List.length_nil, List.replicate, List.cons_append, List.nil_append, List.append_nil, List.set_cons_zero, List.set_cons_succ, List.getElem?_cons_zero, List.getElem?_cons_succ, Option.some.injEq, V.ref.injEq, V.int.injEq, V.str.injEq, V.bl.injEq, V.ty.injEq, exists_eq_left', exists_eq_left, exists_and_left, List.cons.injEq, and_true, true_and, sc_ii, sc_ss, sc_bb, sc_ni, sc_in, sc_is, sc_si, sc_nn, decide_true, decide_false, reduceCtorEq, Bool.false_eq_true, if_true, if_false, ite_true, ite_false, exists_const, eq_self, false_and, and_false, or_false, false_or, exists_false, Evl.rLenS, rSum, wipe, tYes, exists_eq, exists_eq', rIxL, rIxT, rIxS, exists_and_right, gt_iff_lt, not_true_eq_false, not_false_eq_true, Bool.not_true, Bool.not_false, decide_eq_true_eq, Nat.reduceSub, Nat.reduceAdd, List.append_assoc, tChain, tDIn, tDNotIn, sDDel, tAug, ipI, tMeth]
        refine ⟨dx, _, ho, rfl, o, f, fs, z, rfl, hB2, zn z (List.mem_of_getElem? ez), fun i' g eg nz q H3 hq k3 => ?_, fun bad e H' ne he k => ?_⟩
        · obtain ⟨dx3, l3, us3, ho3, hl3, hD3⟩ := id hq
          try simp (maxSteps := 1000000) only [tSeq, tIfS, tTest, tOp, tUn, tCB, tCons, tNil, tVar, tC, rI0, rI, rU, rEq, rNe, tRet, tRetN, tAsg, gName, gSub, tBM, tBM0, tNext, tB, tNot, tAnd, tOr, tIf, tCall, tDrop, tBreak, tCont, L2.start, tDGet, sDPut, tTup, tLst, tDNewK, tRevL, rCat, rAppend, rPop, rSetL, tAndV, tOrV, tNotV, tSl, tPart, tNoPart, tM1, gTup, gCons, gNil, cxK, cxnK, List.map_cons, List.map_nil, List.length_cons, List.length_nil, List.replicate, List.cons_append, List.nil_append, List.append_nil, List.set_cons_zero, List.set_cons_succ, List.getElem?_cons_zero, List.getElem?_cons_succ, Option.some.injEq, V.ref.injEq, V.int.injEq, V.str.injEq, V.bl.injEq, V.ty.injEq, exists_eq_left', exists_eq_left, exists_and_left, List.cons.injEq, and_true, true_and, sc_ii, sc_ss, sc_bb, sc_ni, sc_in, sc_is, sc_si, sc_nn, decide_true, decide_false, reduceCtorEq, Bool.false_eq_true, if_true, if_false, ite_true, ite_false, exists_const, eq_self, false_and, and_false, or_false, false_or, exists_false, Evl.rLenS, rSum, wipe, tYes, exists_eq, exists_eq', rIxL, rIxT, rIxS, exists_and_right, gt_iff_lt, not_true_eq_false, not_false_eq_true, Bool.not_true, Bool.not_false, decide_eq_true_eq, Nat.reduceSub, Nat.reduceAdd, List.append_assoc, tChain, tDIn, tDNotIn, sDDel, tAug, ipI, rInO]
          refine ⟨⟨dx3, _, ho3⟩, q, g, .ref p, pD (a, b), rfl, hq, dpp (k2.trans k3), sh, _, rfl, ?_⟩
          have e : (((pairsL.filter g).map pD).any fun z => PyData.eqv z (pD (a, b))) = g (a, b) := pick_eq hm
          rw [e]
          have gl2 : gs.length ≤ 1000 := by rw [gl]; have := (List.getElem?_eq_some_iff.mp ez).1; omega
          refine ⟨_, k3 _ _ not0 hD, by rw [List.length_map, List.length_map]; exact smallL (by omega), gs ++ [g], by rw [List.length_append, gl]; rfl, by rw [upd_same, List.map_append, List.map_append]; rfl, fun j y hj ey => ?_, (k2.trans k3).wr nD⟩
          by_cases ji : j = i
          · subst ji
            rw [ez] at ey; cases ey
            exact ⟨nz, i', g, eg, by rw [List.getElem?_append_right (by omega), gl, Nat.sub_self]; rfl⟩
          · obtain ⟨n1, i2, g2, e1, e2⟩ := hg j y (by omega) ey
            exact ⟨n1, i2, g2, e1, by rw [List.getElem?_append_left (by omega)]; exact e2⟩
        · have k12 := kp1.trans k2
          exact qN i z hm ez bad (fun i2 y h2 ey => by
            obtain ⟨n1, i3, g3, e1, _⟩ := hg i2 y h2 ey
            exact ⟨n1, List.mem_map_of_mem (List.mem_of_getElem? e1)⟩) e H' (k12.free0 ne) he (k12.trans k)
      · rintro H2 ⟨gs, gl, hD, hg, k2⟩
        obtain ⟨dx, ko, d, kvs, ho, hk, hd, hf, fl, nd⟩ := hB.kp (kp1.trans k2)
        try simp (maxSteps := 1000000) only [tSeq, tIfS, tTest, tOp, tUn, tCB, tCons, tNil, tVar, tC, rI0, rI, rU, rEq, rNe, tRet, tRetN, tAsg, gName, gSub, tBM, tBM0, tNext, tB, tNot, tAnd, tOr, tIf, tCall, tDrop, tBreak, tCont, L2.start, tDGet, sDPut, tTup, tLst, tDNewK, tRevL, rCat, rAppend, rPop, rSetL, tAndV, tOrV, tNotV, tSl, tPart, tNoPart, tM1, gTup, gCons, gNil, cxK, cxnK, List.map_cons, List.map_nil, List.length_cons, List.length_nil, List.replicate, List.cons_append, List.nil_append, List.append_nil, List.set_cons_zero, List.set_cons_succ, List.getElem?_cons_zero, List.getElem?_cons_succ, Option.some.injEq, V.ref.injEq, V.int.injEq, V.str.injEq, V.bl.injEq, V.ty.injEq, exists_eq_left', exists_eq_left, exists_and_left, List.cons.injEq, and_true, true_and, sc_ii, sc_ss, sc_bb, sc_ni, sc_in, sc_is, sc_si, sc_nn, decide_true, decide_false, reduceCtorEq, Bool.false_eq_true, if_true, if_false, ite_true, ite_false, exists_const, eq_self, false_and, and_false, or_false, false_or, exists_false, Evl.rLenS, rSum, wipe, tYes, exists_eq, exists_eq', rIxL, rIxT, rIxS, exists_and_right, gt_iff_lt, not_true_eq_false, not_false_eq_true, Bool.not_true, Bool.not_false, decide_eq_true_eq, Nat.reduceSub, Nat.reduceAdd, List.append_assoc, tChain, tDIn, tDNotIn, sDDel, tAug, ipI, tFld, rInO]
        obtain ⟨dx3, l3, us3, ho3, hl3, hD3⟩ := id hk
        refine ⟨BK, dx, _, ho, B.cl, B.n1, .ref ko, rfl, ko, rfl, ⟨dx3, _, ho3⟩, ko, f, .ref p, pD (a, b), rfl, hk, dpp k2, sh, _, rfl, ?_⟩
        have e : (((pairsL.filter f).map pD).any fun z => PyData.eqv z (pD (a, b))) = f (a, b) := pick_eq hm
        rw [e]
        have q' := qG gs hm (by rw [gl, List.length_map]) (fun j z ez => hg j z (by rw [List.length_map]; exact (List.getElem?_eq_some_iff.mp ez).1) ez) H2 (kp1.trans k2)
        cases hfp : f (a, b) with
        | true => rw [hfp] at q'; exact q'
        | false =>
          rw [hfp] at q'
          try simp (maxSteps := 1000000) only [tSeq, tIfS, tTest, tOp, tUn, tCB, tCons, tNil, tVar, tC, rI0, rI, rU, rEq, rNe, tRet, tRetN, tAsg, gName, gSub, tBM, tBM0, tNext, tB, tNot, tAnd, tOr, tIf, tCall, tDrop, tBreak, tCont, L2.start, tDGet, sDPut, tTup, tLst, tDNewK, tRevL, rCat, rAppend, rPop, rSetL, tAndV, tOrV, tNotV, tSl, tPart, tNoPart, tM1, gTup, gCons, gNil, cxK, cxnK, List.map_cons, List.map_nil, List.length_cons, List.length_nil, List.replicate, List.cons_append, List.nil_append, List.append_nil, List.set_cons_zero, List.set_cons_succ, List.getElem?_cons_zero, List.getElem?_cons_succ, Option.some.injEq, V.ref.injEq, V.int.injEq, V.str.injEq, V.bl.injEq, V.ty.injEq, exists_eq_left', exists_eq_left, exists_and_left, List.cons.injEq, and_true, true_and, sc_ii, sc_ss, sc_bb, sc_ni, sc_in, sc_is, sc_si, sc_nn, decide_true, decide_false, reduceCtorEq, Bool.false_eq_true, if_true, if_false, ite_true, ite_false, exists_const, eq_self, false_and, and_false, or_false, false_or, exists_false, Evl.rLenS, rSum, wipe, tYes, exists_eq, exists_eq', rIxL, rIxT, rIxS, exists_and_right, gt_iff_lt, not_true_eq_false, not_false_eq_true, Bool.not_true, Bool.not_false, decide_eq_true_eq, Nat.reduceSub, Nat.reduceAdd, List.append_assoc, tChain, tDIn, tDNotIn, sDDel, tAug, ipI]
          refine ⟨D, _, rfl, sq_l hD, ?_⟩
          have ea : ((gs.map fun g => g (a, b)).any id) = gs.any fun g => g (a, b) := by rw [List.any_map]; rfl
          rw [ea]
          exact q'
    · rw [decide_eq_false hm]
      try simp (maxSteps := 1000000) only [tSeq, tIfS, tTest, tOp, tUn, tCB, tCons, tNil, tVar, tC, rI0, rI, rU, rEq, rNe, tRet, tRetN, tAsg, gName, gSub, tBM, tBM0, tNext, tB, tNot, tAnd, tOr, tIf, tCall, tDrop, tBreak, tCont, L2.start, tDGet, sDPut, tTup, tLst, tDNewK, tRevL, rCat, rAppend, rPop, rSetL, tAndV, tOrV, tNotV, tSl, tPart, tNoPart, tM1, gTup, gCons, gNil, cxK, cxnK, List.map_cons, List.map_nil, List.length_cons, List.length_nil, List.replicate, List.cons_append, List.nil_append, List.append_nil, List.set_cons_zero, List.set_cons_succ, List.getElem?_cons_zero, List.getElem?_cons_succ, Option.some.injEq, V.ref.injEq, V.int.injEq, V.str.injEq, V.bl.injEq, V.ty.injEq, exists_eq_left', exists_eq_left, exists_and_left, List.cons.injEq, and_true, true_and, sc_ii, sc_ss, sc_bb, sc_ni, sc_in, sc_is, sc_si, sc_nn, decide_true, decide_false, reduceCtorEq, Bool.false_eq_true, if_true, if_false, ite_true, ite_false, exists_const, eq_self, false_and, and_false, or_false, false_or, exists_false, Evl.rLenS, rSum, wipe, tYes, exists_eq, exists_eq', rIxL, rIxT, rIxS, exists_and_right, gt_iff_lt, not_true_eq_false, not_false_eq_true, Bool.not_true, Bool.not_false, decide_eq_true_eq, Nat.reduceSub, Nat.reduceAdd, List.append_assoc, tChain, tDIn, tDNotIn, sDDel, tAug, ipI]
      refine ⟨.ref p, rfl, err1_made (P := fun _ => True) True.intro fun e H' ne he k => ?_⟩
      exact qP hm (.ref p) e H' (kp1.free0 ne) he (dpp k) (kp1.trans k)
end
end My

set_option Elab.async false
set_option linter.all false
set_option maxRecDepth 100000
set_option maxHeartbeats 4000000
namespace My
open PySem L2 NdefX
structure BtI (K : PySem.W.Frag) (mg : Str → Option Value) (tL t1 t2 : Tok) (T_PAIRS PC fI : Addr) : Prop extends BtC K mg tL T_PAIRS where
  c_FULL : mg "FULL" = some (.str "full" t1)
  c_MOST_FENCES : mg "MOST_FENCES" = some (.int 2 t2)
  M_Pairs : Mk K PC fI
section
variable {P : Program} {w : World} {K : PySem.W.Frag} {mg : Str → Option Value} {base : Heap} {tL t1 t2 : Tok} {BK PC T_PAIRS : Addr}
def SmallI (v : V) : Prop := ∃ i : Int, v = .int i ∧ 0 ≤ i ∧ i ≤ 1000
def goodF (z : Str) : Bool := !decide (z = ("full" : Str)) && fenS z
theorem forL_src34 {K : PySem.W.Frag} {te : TE} {g : TG} {tb : TS} {D : Ends} {σ : L2.St} {H : Hp} (h : te σ H fun v H1 => tFor (iList K (tC v)) g tb D σ H1) : tFor (iList K te) g tb D σ H := h
theorem forLC34 {K : PySem.W.Frag} {g : TG} {tb : TS} {D : Ends} {σ : L2.St} {H : Hp} {a : Addr} {xs : List V} (Pv : Nat → L2.St → Hp → Prop) (hS : SqL K H a xs) (h0 : Pv 0 σ H) (hl : ∀ j σ H, j ≤ xs.length → Pv j σ H → SqL K H a xs)
    (hs : ∀ j x σ H, xs[j]? = some x → Pv j σ H → g x σ H fun σ2 H2 => tb { D with nx := Pv (j + 1), ct := Pv (j + 1), bk := D.nx } σ2 H2) (hd : ∀ σ H, Pv xs.length σ H → D.nx σ H) : tFor (iList K (tC (.ref a))) g tb D σ H :=
  ⟨a, rfl, ⟨xs, hS⟩, for_list Pv h0 hl hs hd⟩
theorem PrAt.kpN {K : PySem.W.Frag} {PC : Addr} {H H' : Hp} {S : List Addr} {x : Addr} {f : Pr → Bool} (h : PrAt K PC H x f) (k : Kp S H H') (n : NoSq H S) (hx : x ∉ S) : PrAt K PC H' x f := by
  obtain ⟨dx, l, vs, a, b, c⟩ := h
  exact ⟨dx, l, vs, k _ _ hx a, k _ _ (fun hm => (n l hm).1 vs b) b, dpAllN k n c⟩
theorem ne_of_none2 {H : Hp} {a b : Addr} {o : HO} (h : H a = some o) (n : H b = none) : b ≠ a := fun z => by rw [z, h] at n; cases n
def BiPre (K : PySem.W.Frag) (PC o ko : Addr) (vf : V) (fs : List (Str × (Pr → Bool))) (H : Hp) (σ : L2.St) (H9 : Hp) : Prop := ∃ (p : Addr) (kvs : List (Key × V)), σ = [some (.ref o), some (.ref ko), some vf, some (.ref p), none] ∧ H p = none ∧ H9 p = some (.dK kvs) ∧ Fen K PC H9 kvs fs ∧ Kp [] H H9
def BiIn (o ko : Addr) (vf : V) (p : Addr) (ys : List Str) (H : Hp) (i : Nat) (σ : L2.St) (H' : Hp) : Prop := ∃ c : Option V, σ = [some (.ref o), some (.ref ko), some vf, some (.ref p), c] ∧ Kp [] H H' ∧ ∀ (j : Nat) y, j < i → ys[j]? = some y → goodF y = true
def spBI (K : PySem.W.Frag) (BK PC TL BF : Addr) : Sp := fun vs H Q E => ∃ (o dx ko : Addr) (vf : V) (f : Pr → Bool) (fs : List (Str × (Pr → Bool))), vs = [.ref o, .ref ko, vf] ∧ H o = some (.ins BK dx []) ∧ PrAt K PC H ko f ∧ o ≠ ko ∧
  ((vf = .non ∧ fs = []) ∨ ∃ (d : Addr) (kvs : List (Key × V)), vf = .ref d ∧ H d = some (.dK kvs) ∧ Fen K PC H kvs fs) ∧ (fs.map (·.1)).Nodup ∧ fs.length ≤ 50 ∧ (∀ x ∈ fs, x.1.length ≤ 1000) ∧
  (fs.length ≤ 2 → (∀ x ∈ fs, goodF x.1 = true) → ∀ H', BookAt K BK PC H' o f (fs ++ [(("full" : Str), fun _ => true)]) → Kp [o] H H' → Q .non H') ∧
  (2 < fs.length → ∀ (e : Addr) (H' : Hp), H e = none → H' e = some (.xd [("bound", .int 2)]) → Kp [] H H' → E (.ref TL) (some e) H') ∧
  (fs.length ≤ 2 → ∀ (ys : List Str) (i : Nat) (z : Str), ys.Perm (fs.map (·.1)) → PyProof.Rows.sortedS ys = true → ys[i]? = some z → goodF z = false → (∀ (j : Nat) y, j < i → ys[j]? = some y → goodF y = true) → ∀ (e : Addr) (H' : Hp), H e = none → H' e = some (.xd [("name", .str z)]) → Kp [] H H' → E (.ref BF) (some e) H')
theorem ok_Book_init {f : Addr} {fd : FuncData} {dvs : List V} {fI : Addr} (F : FunD K "__init__" "Book.__init__" (defArgs s_Book_init) (defBody s_Book_init) (defScope s_Book_init) dvs [] f fd) (T : BtI K mg tL t1 t2 T_PAIRS PC fI) (B : BkC K mg BK) (C : PrC K mg PC) {TL BF BP fT fB : Addr} {fdT fdB fdI : FuncData} (E_TooLarge : Er1 P w K mg base "TooLarge" "bound" TL fT fdT ["self", "bound"] SmallI) (E_BadFence : Er1 P w K mg base "BadFence" "name" BF fB fdB ["self", "name"] (fun _ => True))
    {fa : Addr} {fda : FuncData} (D_is_fence_name : Df K mg "is_fence_name" s_is_fence_name ["name"] fa fda) (G_is_fence_name : FnOk P w K mg base CX0 2 fa fda ["name"] spFen)
    (bI_Pairs : Binds K fdI ["self", "pairs"] []) (G_Pairs_init : FnOk P w K mg base (L2.CX P w) 3 fI fdI ["self", "pairs"] (spPI K PC BP)) : FnOk P w K mg base (L2.CX P w) 5 f fd ["self", "kept", "fences"] (spBI K BK PC TL BF) := by
  refine F.ok (CX := L2.CX P w) sc_Book_init (fun vs H Q E h => ?_) (fun cdv A outer s H vs Q E hr h => ?_)
  · obtain ⟨_, _, _, _, _, _, rfl, _⟩ := h
    rfl
  · obtain ⟨o, dx, ko, vf, ff, fs, rfl, ho, hk, hok, hf, nd, fl, zl, qG, qT, qB⟩ := h
    have hu := hu_of hr
    have M_Pairs := T.M_Pairs
    have hcalm : True := True.intro
    obtain ⟨t, ht, hq⟩ : ∃ t, PSs (cxOf (L2.CX P w) P w K mg base ["self", "kept", "fences", "further", "name"] "Book.__init__" (defScope s_Book_init) f cdv A outer s H E) ((defBody s_Book_init).drop 1) t ∧ ∀ σ H9, BiPre K PC o ko vf fs H σ H9 → t { nx := fun _ H' => Q .non H', rt := Q } σ H9 := by
      refine ⟨_, (pss_cons (ps_if (pt_cmpR op_gt (pe_callB call_lenD (by rfl) T.b_len PySem.boot_len (pa_cons (pv 3) pa_nil)) (pe_glob (v := .int 2) rfl T.c_MOST_FENCES ⟨_, rfl⟩) (nomark _)) (pss_one (ps_raise rfl (takes_of rfl rfl rfl rfl) (pmk_oex E_TooLarge.ox E_TooLarge.ic E_TooLarge.ti E_TooLarge.G (hr.mono (by decide)) E_TooLarge.b .nil passL rfl E_TooLarge.k (pa_cons (pe_glob (v := .int 2) rfl T.c_MOST_FENCES ⟨_, rfl⟩) pa_nil)))) pss_nil)
      (pss_cons (ps_for (passes_of rfl) rfl (pi_list (pe_callB (id := "sorted") (call_sortedD (by first | exact hcalm | rfl)) (by rfl) T.b_sorted (by decide +kernel) (pa_cons (pv 3) pa_nil))) (pg_name (i := 4) sc_Book_init.nd rfl (Or.inl rfl)) (pss_one (ps_if (PW.pt (pw_or (pt_cmpR op_eq (pv 4) (pe_glob (v := .str ("full" : Str)) rfl T.c_FULL ⟨_, rfl⟩) (nomark _)) (pw_or1 (pt_not (pt_val (pe_call G_is_fence_name (hr.mono (by decide)) rfl D_is_fence_name.g D_is_fence_name.F.kp D_is_fence_name.b .nil pass0 (pa_cons (pv 4) pa_nil))))))) (pss_one (ps_raise rfl (takes_of rfl rfl rfl rfl) (pmk_oex E_BadFence.ox E_BadFence.ic E_BadFence.ti E_BadFence.G (hr.mono (by decide)) E_BadFence.b .nil passL rfl E_BadFence.k (pa_cons (pv 4) pa_nil)))) pss_nil)))
      (pss_cons (ps_fld (pv 0) (pv 1) rfl)
      (pss_one (ps_fld (pv 0) (pe_dstar (pv 3) (pe_glob (v := .str ("full" : Str)) rfl T.c_FULL ⟨_, rfl⟩) (pe_make M_Pairs G_Pairs_init (hr.mono (by decide)) rfl C.k bI_Pairs .nil (passes_call (E := E) (takes_of rfl rfl rfl rfl) (fun _ _ _ _ h => h)) (pa_cons (pe_glob (v := .ref T_PAIRS) rfl T.c_PAIRS rfl) pa_nil))) rfl))))), ?_⟩
      rintro σ H9 ⟨p, kvs, rfl, np, hp, hF, k9⟩
      have klen : kvs.length = fs.length := by have := congrArg List.length hF.1; simpa using this
      try simp (maxSteps := 1000000) only [tSeq, tIfS, tTest, tOp, tUn, tCB, tCons, tNil, tVar, tC, rI0, rI, rU, rEq, rNe, tRet, tRetN, tAsg, gName, gSub, tBM, tBM0, tNext, tB, tNot, tAnd, tOr, tIf, tCall, tDrop, tBreak, tCont, L2.start, tDGet, sDPut, tTup, tLst, tDNewK, tRevL, rCat, rAppend, rPop, rSetL, tAndV, tOrV, tNotV, tSl, tPart, tNoPart, tM1, gTup, gCons, gNil, cxK, cxnK, List.map_cons, List.map_nil, List.length_cons, List.length_nil, List.replicate, List.cons_append, List.nil_append, List.append_nil, List.set_cons_zero, List.set_cons_succ, List.getElem?_cons_zero, List.getElem?_cons_succ, Option.some.injEq, V.ref.injEq, V.int.injEq, V.str.injEq, V.bl.injEq, V.ty.injEq, exists_eq_left', exists_eq_left, exists_and_left, List.cons.injEq, and_true, true_and, sc_ii, sc_ss, sc_bb, sc_ni, sc_in, sc_is, sc_si, sc_nn, decide_true, decide_false, reduceCtorEq, Bool.false_eq_true, if_true, if_false, ite_true, ite_false, exists_const, eq_self, false_and, and_false, or_false, false_or, exists_false, Evl.rLenS, rSum, wipe, tYes, exists_eq, exists_eq', rIxL, rIxT, rIxS, exists_and_right, gt_iff_lt, not_true_eq_false, not_false_eq_true, Bool.not_true, Bool.not_false, decide_eq_true_eq, Nat.reduceSub, Nat.reduceAdd, List.append_assoc, tChain, tDIn, tDNotIn, sDDel, tAug, ipI]
      refine ⟨_, hp, ?_⟩
      rw [klen]
      refine ite2 (fun h1 => ?_) (fun h1 => ?_)
      · exact err1_made (P := SmallI) ⟨2, rfl, by decide, by decide⟩ fun e H' ne he k => qT (by omega) e H' (k9.free0 ne) he (k9.trans k)
      have fl2 : fs.length ≤ 2 := by omega
      refine forL_src34 ?_
      try simp (maxSteps := 1000000) only [tSeq, tIfS, tTest, tOp, tUn, tCB, tCons, tNil, tVar, tC, rI0, rI, rU, rEq, rNe, tRet, tRetN, tAsg, gName, gSub, tBM, tBM0, tNext, tB, tNot, tAnd, tOr, tIf, tCall, tDrop, tBreak, tCont, L2.start, tDGet, sDPut, tTup, tLst, tDNewK, tRevL, rCat, rAppend, rPop, rSetL, tAndV, tOrV, tNotV, tSl, tPart, tNoPart, tM1, gTup, gCons, gNil, cxK, cxnK, List.map_cons, List.map_nil, List.length_cons, List.length_nil, List.replicate, List.cons_append, List.nil_append, List.append_nil, List.set_cons_zero, List.set_cons_succ, List.getElem?_cons_zero, List.getElem?_cons_succ, Option.some.injEq, V.ref.injEq, V.int.injEq, V.str.injEq, V.bl.injEq, V.ty.injEq, exists_eq_left', exists_eq_left, exists_and_left, List.cons.injEq, and_true, true_and, sc_ii, sc_ss, sc_bb, sc_ni, sc_in, sc_is, sc_si, sc_nn, decide_true, decide_false, reduceCtorEq, Bool.false_eq_true, if_true, if_false, ite_true, ite_false, exists_const, eq_self, false_and, and_false, or_false, false_or, exists_false, Evl.rLenS, rSum, wipe, tYes, exists_eq, exists_eq', rIxL, rIxT, rIxS, exists_and_right, gt_iff_lt, not_true_eq_false, not_false_eq_true, Bool.not_true, Bool.not_false, decide_eq_true_eq, Nat.reduceSub, Nat.reduceAdd, List.append_assoc, tChain, tDIn, tDNotIn, sDDel, tAug, ipI]
      refine ⟨kvs, .inl hp, fs.map (·.1), by rw [hF.1, List.map_map]; rfl, by rw [List.length_map]; omega, fun ys q perm srt nq => ?_⟩
      have kq : Kp [] H9 (upd H9 q (.lst (ys.map V.str))) := Kp.new nq
      have hq9 : (upd H9 q (.lst (ys.map V.str))) q = some (.lst (ys.map V.str)) := upd_same
      generalize (upd H9 q (.lst (ys.map V.str))) = G at kq hq9 ⊢
      have k9G := k9.trans kq
      refine forLC34 (BiIn o ko vf p ys G) (sq_l hq9) ⟨none, rfl, Kp.refl _ _, fun j y h => absurd h (by omega)⟩ (fun j σ H7 _ h => by obtain ⟨_, _, k, _⟩ := h; exact k.ls not0 (sq_l hq9)) (fun j x σ H2 hx h => ?_) fun σ H2 h => ?_
      · obtain ⟨c, rfl, k2, hg⟩ := h
        rw [List.getElem?_map] at hx
        obtain ⟨z, ez, rfl⟩ : ∃ z, ys[j]? = some z ∧ V.str z = x := by
          cases e : ys[j]? with
          | none => rw [e] at hx; cases hx
          | some z => rw [e] at hx; exact ⟨z, rfl, Option.some.inj hx⟩
        have zm : z ∈ fs.map (·.1) := perm.mem_iff.mp (List.mem_of_getElem? ez)
        have zl1 : z.length ≤ 1000 := by
          obtain ⟨x, hx2, rfl⟩ := List.mem_map.mp zm
          exact zl x hx2
        have bad : goodF z = false → ∀ H3, Kp [] H2 H3 → tMkO BF (spErr1 BF "name" fun _ => True) [] (tCons (tVar 4) tNil) [some (.ref o), some (.ref ko), some vf, some (.ref p), some (.str z)] H3 (fun cls d H' => E cls d H') := fun hb H3 k3 =>
          ⟨.str z, rfl, err1_made (P := fun _ => True) True.intro fun e H' ne he k => qB fl2 ys j z perm srt ez hb hg e H' (((k9G.trans k2).trans k3).free0 ne) he (((k9G.trans k2).trans k3).trans k)⟩
        try simp (maxSteps := 1000000) only [tSeq, tIfS, tTest, tOp, tUn, tCB, tCons, tNil, tVar, tC, rI0, rI, rU, rEq, rNe, tRet, tRetN, tAsg, gName, gSub, tBM, tBM0, tNext, tB, tNot, tAnd, tOr, tIf, tCall, tDrop, tBreak, tCont, L2.start, tDGet, sDPut, tTup, tLst, tDNewK, tRevL, rCat, rAppend, rPop, rSetL, tAndV, tOrV, tNotV, tSl, tPart, tNoPart, tM1, gTup, gCons, gNil, cxK, cxnK, List.map_cons, List.map_nil, List.length_cons, List.length_nil, List.replicate, List.cons_append, List.nil_append, List.append_nil, List.set_cons_zero, List.set_cons_succ, List.getElem?_cons_zero, List.getElem?_cons_succ, Option.some.injEq, V.ref.injEq, V.int.injEq, V.str.injEq, V.bl.injEq, V.ty.injEq, exists_eq_left', exists_eq_left, exists_and_left, List.cons.injEq, and_true, true_and, sc_ii, sc_ss, sc_bb, sc_ni, sc_in, sc_is, sc_si, sc_nn, decide_true, decide_false, reduceCtorEq, Bool.false_eq_true, if_true, if_false, ite_true, ite_false, exists_const, eq_self, false_and, and_false, or_false, false_or, exists_false, Evl.rLenS, rSum, wipe, tYes, exists_eq, exists_eq', rIxL, rIxT, rIxS, exists_and_right, gt_iff_lt, not_true_eq_false, not_false_eq_true, Bool.not_true, Bool.not_false, decide_eq_true_eq, Nat.reduceSub, Nat.reduceAdd, List.append_assoc, tChain, tDIn, tDNotIn, sDDel, tAug, ipI]
        refine ite2 (fun h1 => bad (by rw [h1]; rfl) H2 (Kp.refl _ _)) (fun h1 => ⟨z, rfl, zl1, fun H3 k3 => ⟨_, rfl, ?_⟩⟩)
        cases hz : fenS z with
        | false => exact bad (by unfold goodF; rw [hz, Bool.and_false]) H3 k3
        | true =>
          refine ⟨_, rfl, k2.trans k3, fun i y hi ey => ?_⟩
          by_cases ij : i = j
          · subst ij
            rw [ez] at ey; cases ey
            unfold goodF
            rw [hz, Bool.and_true, decide_eq_false h1]; rfl
          · exact hg i y (by omega) ey
      · obtain ⟨c, rfl, k2, hg⟩ := h
        have k92 := k9G.trans k2
        have ho2 := k92 _ _ not0 ho
        have hk2 := hk.kp k92
        have hF2 := (hF.kp kq).kp k2
        have hp2 := (kq.trans k2) _ _ not0 hp
        have po : p ≠ o := fun z => by rw [z, ho2] at hp2; cases hp2
        have good : ∀ x ∈ fs, goodF x.1 = true := fun x hx => by
          have hy := perm.mem_iff.mpr (List.mem_map_of_mem (f := (·.1)) hx)
          obtain ⟨j, ej⟩ := List.getElem?_of_mem hy
          exact hg j _ (by rw [List.length_map]; exact (List.getElem?_eq_some_iff.mp ej).1) ej
        have nfull : ("full" : Str) ∉ fs.map (·.1) := fun h => by
          obtain ⟨x, hx, e⟩ := List.mem_map.mp h
          have z := good x hx
          rw [e] at z
          have z0 : goodF ("full" : Str) = false := by decide +kernel
          rw [z0] at z; cases z
        try simp (maxSteps := 1000000) only [tSeq, tIfS, tTest, tOp, tUn, tCB, tCons, tNil, tVar, tC, rI0, rI, rU, rEq, rNe, tRet, tRetN, tAsg, gName, gSub, tBM, tBM0, tNext, tB, tNot, tAnd, tOr, tIf, tCall, tDrop, tBreak, tCont, L2.start, tDGet, sDPut, tTup, tLst, tDNewK, tRevL, rCat, rAppend, rPop, rSetL, tAndV, tOrV, tNotV, tSl, tPart, tNoPart, tM1, gTup, gCons, gNil, cxK, cxnK, List.map_cons, List.map_nil, List.length_cons, List.length_nil, List.replicate, List.cons_append, List.nil_append, List.append_nil, List.set_cons_zero, List.set_cons_succ, List.getElem?_cons_zero, List.getElem?_cons_succ, Option.some.injEq, V.ref.injEq, V.int.injEq, V.str.injEq, V.bl.injEq, V.ty.injEq, exists_eq_left', exists_eq_left, exists_and_left, List.cons.injEq, and_true, true_and, sc_ii, sc_ss, sc_bb, sc_ni, sc_in, sc_is, sc_si, sc_nn, decide_true, decide_false, reduceCtorEq, Bool.false_eq_true, if_true, if_false, ite_true, ite_false, exists_const, eq_self, false_and, and_false, or_false, false_or, exists_false, Evl.rLenS, rSum, wipe, tYes, exists_eq, exists_eq', rIxL, rIxT, rIxS, exists_and_right, gt_iff_lt, not_true_eq_false, not_false_eq_true, Bool.not_true, Bool.not_false, decide_eq_true_eq, Nat.reduceSub, Nat.reduceAdd, List.append_assoc, tChain, tDIn, tDNotIn, sDDel, tAug, ipI, sFld, tDSt, tMake]
        refine ⟨BK, dx, [], ho2, B.cl, B.n1, by decide, fun q1 nq1 => ⟨upd_same, kvs, ?_, ?_, by omega, fun p2 np2 x4 dx4 nx ndx hne => ?_⟩⟩
        · have pq : p ≠ q1 := fun z => by rw [← z, upd_ne po] at nq1; rw [hp2] at nq1; cases nq1
          rw [upd_ne pq, upd_ne po]; exact hp2
        · exact fun z => by rw [← z, upd_ne po] at nq1; rw [hp2] at nq1; cases nq1
        have kO : Kp [o] H2 (upd H2 o (.ins BK dx (putF "kept" (.ref ko) []))) := (Kp.refl [o] _).put (by simp)
        have hA : (upd H2 o (.ins BK dx (putF "kept" (.ref ko) []))) o = some (.ins BK dx [("kept", .ref ko)]) := upd_same
        generalize upd H2 o (.ins BK dx (putF "kept" (.ref ko) [])) = A0 at nq1 np2 nx ndx kO hA ⊢
        have kA : Kp [] A0 (upd (upd A0 q1 (.dK [])) q1 (.dK kvs)) := (Kp.new nq1).wr nq1
        have qp2 : q1 ≠ p2 := fun z => by rw [← z, upd_same] at np2; cases np2
        have np2A : A0 p2 = none := kA.free0 np2
        have kB : Kp [] A0 (upd (upd (upd A0 q1 (.dK [])) q1 (.dK kvs)) p2 (.dK [])) := kA.trans (Kp.new np2)
        have hHq : (upd (upd (upd A0 q1 (.dK [])) q1 (.dK kvs)) p2 (.dK [])) q1 = some (.dK kvs) := by rw [upd_ne qp2, upd_same]
        have hHp : (upd (upd (upd A0 q1 (.dK [])) q1 (.dK kvs)) p2 (.dK [])) p2 = some (.dK []) := upd_same
        generalize upd (upd (upd A0 q1 (.dK [])) q1 (.dK kvs)) p2 (.dK []) = HH at nx ndx kB hHq hHp ⊢
        obtain ⟨zs, hz⟩ := T.pk
        have w1 : Kp [] HH (upd HH dx4 (.own x4)) := Kp.new ndx
        have w2 : Kp [] HH (upd (upd HH dx4 (.own x4)) x4 (.ins PC dx4 [])) := w1.trans (Kp.new (by rw [upd_ne hne.symm]; exact nx))
        refine ⟨x4, dx4, T_PAIRS, zs, pairsL.map pD, rfl, upd_same, .inr (hz _).1, (hz _).2, fitsP (fun p h => h), by rw [List.length_map, pairs_len]; decide, fun _ l H' nl hL kx => ?_, fun i v dd _ ed hb _ e H' _ _ _ => ?_⟩
        · have kC : Kp [] HH H' := w2.one kx nx
          have hq' := kC _ _ not0 hHq
          have hp' := kC _ _ not0 hHp
          have kAH := kB.trans kC
          refine ⟨rfl, hp', hq', Sum.inr "full", rfl, BK, dx, [("kept", .ref ko)], ?_, B.cl, B.n2, (show (1 : Nat) < 1000 by decide), ?_⟩
          · exact ((kAH.wr np2A).wr nq1) _ _ not0 hA
          have hoHH : HH o = some (.ins BK dx [("kept", .ref ko)]) := kB _ _ not0 hA
          have hoH' := kC _ _ not0 hoHH
          have oq : q1 ≠ o := fun z => by rw [z] at hq'; rw [hoH'] at hq'; cases hq'
          have x4o : x4 ≠ o := ne_of_none2 hoHH nx
          have x4q : x4 ≠ q1 := ne_of_none2 hHq nx
          have x4p : x4 ≠ p2 := ne_of_none2 hHp nx
          have kS : Kp [p2, q1, o] H' (upd (upd (upd H' p2 (.dK [(Sum.inr "full", .ref x4)])) q1 (.dK (putK kvs (Sum.inr "full") (.ref x4)))) o (.ins BK dx (putF "_fences" (.ref q1) [("kept", .ref ko)]))) := (((Kp.refl _ _).put (by simp)).put (by simp)).put (by simp)
          have kT : Kp [o] H2 (upd (upd (upd H' p2 (.dK [(Sum.inr "full", .ref x4)])) q1 (.dK (putK kvs (Sum.inr "full") (.ref x4)))) o (.ins BK dx (putF "_fences" (.ref q1) [("kept", .ref ko)]))) := (kO.trans ((kAH.wr np2A).wr nq1).of0).put (by simp)
          have zo : (upd (upd (upd H' p2 (.dK [(Sum.inr "full", .ref x4)])) q1 (.dK (putK kvs (Sum.inr "full") (.ref x4)))) o (.ins BK dx (putF "_fences" (.ref q1) [("kept", .ref ko)]))) o = some (.ins BK dx [("kept", .ref ko), ("_fences", .ref q1)]) := upd_same
          have zq : (upd (upd (upd H' p2 (.dK [(Sum.inr "full", .ref x4)])) q1 (.dK (putK kvs (Sum.inr "full") (.ref x4)))) o (.ins BK dx (putF "_fences" (.ref q1) [("kept", .ref ko)]))) q1 = some (.dK (putK kvs (Sum.inr "full") (.ref x4))) := by rw [upd_ne oq, upd_same]
          generalize (upd (upd (upd H' p2 (.dK [(Sum.inr "full", .ref x4)])) q1 (.dK (putK kvs (Sum.inr "full") (.ref x4)))) o (.ins BK dx (putF "_fences" (.ref q1) [("kept", .ref ko)]))) = Z at kS kT zo zq ⊢
          have nS : NoSq H' [p2, q1, o] := fun y hy => by
            have : y = p2 ∨ y = q1 ∨ y = o := by simpa using hy
            rcases this with rfl | rfl | rfl
            · rw [hp']; exact ⟨fun _ z => (by cases z), fun _ z => (by cases z), fun _ _ z => (by cases z)⟩
            · rw [hq']; exact ⟨fun _ z => (by cases z), fun _ z => (by cases z), fun _ _ z => (by cases z)⟩
            · rw [hoH']; exact ⟨fun _ z => (by cases z), fun _ z => (by cases z), fun _ _ z => (by cases z)⟩
          have allP : PrAt K PC Z x4 (fun _ => true) := (PrAt.kpN hL.at kS nS (by simp [x4o, x4q, x4p])).same fun p hp => by
            unfold pick
            rw [any_eq]; exact decide_eq_true hp
          have nS2 : NoSq H2 [o] := noSq1 ho2
          have nq : ∀ {y g}, PrAt K PC H2 y g → y ∉ [o] := fun {y g} hy hm => by
            rw [List.mem_singleton.mp hm] at hy
            obtain ⟨_, _, _, e, _⟩ := hy
            rw [ho2] at e; cases e
          have nk : (Sum.inr "full" : Key) ∉ kvs.map (·.1) := by
            rw [hF.1]
            intro h
            obtain ⟨z', hz', e⟩ := List.mem_map.mp h
            exact nfull (by rw [← Sum.inr.inj e]; exact List.mem_map_of_mem hz')
          have ep : putK kvs (Sum.inr "full" : Key) (V.ref x4) = kvs ++ [((Sum.inr "full" : Key), V.ref x4)] := by
            unfold putK
            rw [if_neg]
            intro h
            obtain ⟨kv, hkv, e⟩ := List.any_eq_true.mp h
            exact nk (by rw [← of_decide_eq_true e]; exact List.mem_map_of_mem hkv)
          rw [ep] at zq
          refine qG fl2 good Z ⟨dx, ko, q1, _, zo, PrAt.kpN hk2 kT nS2 (nq hk2), zq, ⟨by rw [List.map_append, List.map_append, hF.1]; rfl, fun i n g ei => ?_⟩, by rw [List.length_append]; show fs.length + 1 ≤ 3; omega, ?_⟩ (k92.of0.trans kT)
          · by_cases il : i < fs.length
            · rw [List.getElem?_append_left il] at ei
              obtain ⟨y, e1, e2⟩ := hF2.2 i n g ei
              exact ⟨y, by rw [List.getElem?_append_left (by omega)]; exact e1, PrAt.kpN e2 kT nS2 (nq e2)⟩
            · rw [List.getElem?_append_right (by omega)] at ei
              have i0 : i - fs.length = 0 := by
                cases e : i - fs.length with
                | zero => rfl
                | succ m => rw [e] at ei; cases ei
              rw [i0] at ei
              cases ei
              exact ⟨x4, by rw [List.getElem?_append_right (by omega), klen, i0]; rfl, allP⟩
          · rw [List.map_append, List.nodup_append]
            refine ⟨nd, by simp, fun y hy w hw e => ?_⟩
            have hw : w = "full" := by simpa using hw
            rw [hw] at e
            exact nfull (e ▸ hy)
        · obtain ⟨p0, hp0, rfl⟩ := List.mem_map.mp (List.mem_of_getElem? ed)
          rw [isP_pair hp0] at hb; cases hb
    refine ⟨_, (pss_cons (ps_set (i := 3) sc_Book_init.nd rfl (Or.inl rfl) (pe_ifExp (pt_cmpR op_isN (pv 2) pe_non (nomark _)) pe_dnewK (pe_callTy call_dictD (by rfl) T.b_dict (by decide +kernel) (pa_cons (pv 2) pa_nil))))
      ht), ?_⟩
    try simp (maxSteps := 1000000) only [tSeq, tIfS, tTest, tOp, tUn, tCB, tCons, tNil, tVar, tC, rI0, rI, rU, rEq, rNe, tRet, tRetN, tAsg, gName, gSub, tBM, tBM0, tNext, tB, tNot, tAnd, tOr, tIf, tCall, tDrop, tBreak, tCont, L2.start, tDGet, sDPut, tTup, tLst, tDNewK, tRevL, rCat, rAppend, rPop, rSetL, tAndV, tOrV, tNotV, tSl, tPart, tNoPart, tM1, gTup, gCons, gNil, cxK, cxnK, List.map_cons, List.map_nil, List.length_cons, List.length_nil, List.replicate, List.cons_append, List.nil_append, List.append_nil, List.set_cons_zero, List.set_cons_succ, List.getElem?_cons_zero, List.getElem?_cons_succ, Option.some.injEq, V.ref.injEq, V.int.injEq, V.str.injEq, V.bl.injEq, V.ty.injEq, exists_eq_left', exists_eq_left, exists_and_left, List.cons.injEq, and_true, true_and, sc_ii, sc_ss, sc_bb, sc_ni, sc_in, sc_is, sc_si, sc_nn, decide_true, decide_false, reduceCtorEq, Bool.false_eq_true, if_true, if_false, ite_true, ite_false, exists_const, eq_self, false_and, and_false, or_false, false_or, exists_false, Evl.rLenS, rSum, wipe, tYes, exists_eq, exists_eq', rIxL, rIxT, rIxS, exists_and_right, gt_iff_lt, not_true_eq_false, not_false_eq_true, Bool.not_true, Bool.not_false, decide_eq_true_eq, Nat.reduceSub, Nat.reduceAdd, List.append_assoc, tChain, tDIn, tDNotIn, sDDel, tAug, ipI]
    rcases hf with ⟨rfl, rfl⟩ | ⟨d, kvs, rfl, hd, hF⟩
    · rw [if_pos rfl]
      exact fun p np => hq _ _ ⟨p, [], rfl, np, upd_same, ⟨rfl, fun i n g e => nomatch e⟩, Kp.new np⟩
    · rw [if_neg (fun z => nomatch z)]
      exact ⟨d, rfl, kvs, .inl hd, fun p np => hq _ _ ⟨p, kvs, rfl, np, upd_same, hF.kp (Kp.new np), Kp.new np⟩⟩
end
end My

set_option Elab.async false
set_option linter.all false
set_option maxRecDepth 100000
set_option maxHeartbeats 4000000
namespace My
open PySem L2 NdefX
abbrev s_law_great : Stmt := top 19
theorem sc_law_great : FnScope ["_law_cell", "_law_k", "_law_total", "_law_seed", "_law_turn"] ["_law_cell", "_law_k"] (defScope s_law_great) := ⟨rfl, rfl, rfl, by decide +kernel, rfl, by decide +kernel, by decide +kernel⟩
abbrev s_law_draw : Stmt := top 20
theorem sc_law_draw : FnScope ["_law_script", "_law_k", "_law_seed", "_law_cell"] ["_law_script", "_law_k"] (defScope s_law_draw) := ⟨rfl, rfl, rfl, by decide +kernel, rfl, by decide +kernel, by decide +kernel⟩
abbrev s_law_pairs : Stmt := top 21
theorem sc_law_pairs : FnScope ["_law_rows", "_law_one", "_law_two"] [] (defScope s_law_pairs) := ⟨rfl, rfl, rfl, by decide +kernel, rfl, by decide +kernel, by decide +kernel⟩
abbrev s_law_says : Stmt := top 25
theorem sc_law_says : FnScope ["_law_told", "_law_due"] ["_law_told", "_law_due"] (defScope s_law_says) := ⟨rfl, rfl, rfl, by decide +kernel, rfl, by decide +kernel, by decide +kernel⟩
structure Bt0 (mg : Str → Option Value) : Prop where
  b_len : mg "len" = none
  b_int : mg "int" = none
  b_range : mg "range" = none
  b_list : mg "list" = none
  b_tuple : mg "tuple" = none
section
variable {P : Program} {w : World} {K : PySem.W.Frag} {mg : Str → Option Value} {base : Heap}
def spGreat : Sp := fun vs H Q _ => ∃ (c k : Int), vs = [.int c, .int k] ∧ ∀ n : Int, 0 ≤ n → Q (.int n) H
def GrInv (c k : Int) (H : Hp) (_ : Nat) (σ : L2.St) (H' : Hp) : Prop := ∃ (t s : Int) (x : Option V), σ = [some (.int c), some (.int k), some (.int t), some (.int s), x] ∧ 0 ≤ t ∧ H' = H
theorem ok_law_great {f : Addr} {fd : FuncData} (D : Df K mg "_law_great" s_law_great ["_law_cell", "_law_k"] f fd) (T : Bt0 mg) : FnOk P w K mg base CX0 1 f fd ["_law_cell", "_law_k"] spGreat := by
  refine D.F.ok sc_law_great (fun vs H Q E h => ?_) (fun cdv A outer s H vs Q E hr h => ?_)
  · obtain ⟨c, k, rfl, _⟩ := h
    rfl
  · obtain ⟨c, k, rfl, q⟩ := h
    refine ⟨_, (pss_cons (ps_if (pt_cmpR op_ge (pv 0) (pe_op op_pow pe_int pe_int) (nomark _)) (pss_one (ps_ret (pe_op op_sub (pv 0) (pe_op op_pow pe_int pe_int)))) pss_nil)
      (pss_cons (ps_set (i := 2) sc_law_great.nd rfl (Or.inl rfl) pe_int)
      (pss_cons (ps_set (i := 3) sc_law_great.nd rfl (Or.inl rfl) (pe_op op_add (pe_callTy (T := "int") call_int1 (by rfl) T.b_int (by decide +kernel) (pa_cons (pv 0) pa_nil)) (pe_op op_mul pe_int (pv 1))))
      (pss_cons (ps_for PassesOwn.never rfl (pi_range1 rfl T.b_range (pa_cons pe_int pa_nil)) (pg_name (i := 4) sc_law_great.nd rfl (Or.inl rfl)) (pss_cons (ps_set (i := 3) sc_law_great.nd rfl (Or.inl rfl) (pe_op op_mod (pe_callTy (T := "int") call_int1 (by rfl) T.b_int (by decide +kernel) (pa_cons (pe_op op_add (pe_op op_add (pe_op op_mul (pv 3) pe_int) (pe_op op_mul pe_int (pv 4))) pe_int) pa_nil)) pe_int))
      (pss_cons (ps_set (i := 3) sc_law_great.nd rfl (Or.inl rfl) (pe_op op_mod (pe_callTy (T := "int") call_int1 (by rfl) T.b_int (by decide +kernel) (pa_cons (pe_op op_add (pe_op op_mul (pv 3) pe_int) (pv 1)) pa_nil)) pe_int))
      (pss_one (ps_set (i := 2) sc_law_great.nd rfl (Or.inl rfl) (pe_op op_add (pe_op op_mul (pv 2) pe_int) (pv 3)))))))
      (pss_one (ps_ret (pv 2))))))), ?_⟩
    try simp (maxSteps := 1000000) only [tSeq, tIfS, tTest, tOp, tUn, tCB, tCons, tNil, tVar, tC, rI0, rI, rU, rEq, rNe, tRet, tRetN, tAsg, gName, gSub, tBM, tBM0, tNext, tB, tNot, tAnd, tOr, tIf, tCall, tDrop, tBreak, tCont, L2.start, tDGet, sDPut, tTup, tLst, tDNewK, tRevL, rCat, rAppend, rPop, rSetL, tAndV, tOrV, tNotV, tSl, tPart, tNoPart, tM1, gTup, gCons, gNil, cxK, cxnK, List.map_cons, List.map_nil, List.length_cons, List.length_nil, List.replicate, List.cons_append, List.nil_append, List.append_nil, List.set_cons_zero, List.set_cons_succ, List.getElem?_cons_zero, List.getElem?_cons_succ, Option.some.injEq, V.ref.injEq, V.int.injEq, V.str.injEq, V.bl.injEq, V.ty.injEq, exists_eq_left', exists_eq_left, exists_and_left, List.cons.injEq, and_true, true_and, sc_ii, sc_ss, sc_bb, sc_ni, sc_in, sc_is, sc_si, sc_nn, decide_true, decide_false, reduceCtorEq, Bool.false_eq_true, if_true, if_false, ite_true, ite_false, exists_const, eq_self, false_and, and_false, or_false, false_or, exists_false, Evl.rLenS, rSum, wipe, tYes, exists_eq, exists_eq', rIxL, rIxT, rIxS, exists_and_right, gt_iff_lt, not_true_eq_false, not_false_eq_true, Bool.not_true, Bool.not_false, decide_eq_true_eq, Nat.reduceSub, Nat.reduceAdd, List.append_assoc, tChain, tDIn, tDNotIn, sDDel, tAug, ipI]
    have p18 : CPow 10 18 := ⟨by decide, by decide, by decide⟩
    refine ⟨p18, ?_⟩
    refine ite2 (fun h1 => ?_) (fun h1 => ?_)
    · exact ⟨p18, q _ (by omega)⟩
    · refine ⟨.inl ⟨by decide, by decide⟩, 3, rfl, by decide, by decide, for_range (lo := 0) (n := 3) (GrInv c k H) ⟨0, _, none, rfl, by decide, rfl⟩ ?_ ?_⟩
      · rintro i σ H1 hi ⟨t, s, x, rfl, t0, rfl⟩
        try simp (maxSteps := 1000000) only [tSeq, tIfS, tTest, tOp, tUn, tCB, tCons, tNil, tVar, tC, rI0, rI, rU, rEq, rNe, tRet, tRetN, tAsg, gName, gSub, tBM, tBM0, tNext, tB, tNot, tAnd, tOr, tIf, tCall, tDrop, tBreak, tCont, L2.start, tDGet, sDPut, tTup, tLst, tDNewK, tRevL, rCat, rAppend, rPop, rSetL, tAndV, tOrV, tNotV, tSl, tPart, tNoPart, tM1, gTup, gCons, gNil, cxK, cxnK, List.map_cons, List.map_nil, List.length_cons, List.length_nil, List.replicate, List.cons_append, List.nil_append, List.append_nil, List.set_cons_zero, List.set_cons_succ, List.getElem?_cons_zero, List.getElem?_cons_succ, Option.some.injEq, V.ref.injEq, V.int.injEq, V.str.injEq, V.bl.injEq, V.ty.injEq, exists_eq_left', exists_eq_left, exists_and_left, List.cons.injEq, and_true, true_and, sc_ii, sc_ss, sc_bb, sc_ni, sc_in, sc_is, sc_si, sc_nn, decide_true, decide_false, reduceCtorEq, Bool.false_eq_true, if_true, if_false, ite_true, ite_false, exists_const, eq_self, false_and, and_false, or_false, false_or, exists_false, Evl.rLenS, rSum, wipe, tYes, exists_eq, exists_eq', rIxL, rIxT, rIxS, exists_and_right, gt_iff_lt, not_true_eq_false, not_false_eq_true, Bool.not_true, Bool.not_false, decide_eq_true_eq, Nat.reduceSub, Nat.reduceAdd, List.append_assoc, tChain, tDIn, tDNotIn, sDDel, tAug, ipI]
        refine ⟨.inr ⟨by decide, by decide⟩, .inl ⟨by decide, by decide⟩, by decide, .inr ⟨by decide, by decide⟩, by decide, .inr ⟨by decide, by decide⟩, _, _, _, rfl, ?_, rfl⟩
        have h1 := Int.emod_nonneg ((s * 48271 + 7 * (0 + (i : Int)) + 11) % 2147483647 * 69621 + k) (show (2147483629 : Int) ≠ 0 by decide)
        omega
      · rintro σ H1 ⟨t, s, x, rfl, t0, rfl⟩
        try simp (maxSteps := 1000000) only [tSeq, tIfS, tTest, tOp, tUn, tCB, tCons, tNil, tVar, tC, rI0, rI, rU, rEq, rNe, tRet, tRetN, tAsg, gName, gSub, tBM, tBM0, tNext, tB, tNot, tAnd, tOr, tIf, tCall, tDrop, tBreak, tCont, L2.start, tDGet, sDPut, tTup, tLst, tDNewK, tRevL, rCat, rAppend, rPop, rSetL, tAndV, tOrV, tNotV, tSl, tPart, tNoPart, tM1, gTup, gCons, gNil, cxK, cxnK, List.map_cons, List.map_nil, List.length_cons, List.length_nil, List.replicate, List.cons_append, List.nil_append, List.append_nil, List.set_cons_zero, List.set_cons_succ, List.getElem?_cons_zero, List.getElem?_cons_succ, Option.some.injEq, V.ref.injEq, V.int.injEq, V.str.injEq, V.bl.injEq, V.ty.injEq, exists_eq_left', exists_eq_left, exists_and_left, List.cons.injEq, and_true, true_and, sc_ii, sc_ss, sc_bb, sc_ni, sc_in, sc_is, sc_si, sc_nn, decide_true, decide_false, reduceCtorEq, Bool.false_eq_true, if_true, if_false, ite_true, ite_false, exists_const, eq_self, false_and, and_false, or_false, false_or, exists_false, Evl.rLenS, rSum, wipe, tYes, exists_eq, exists_eq', rIxL, rIxT, rIxS, exists_and_right, gt_iff_lt, not_true_eq_false, not_false_eq_true, Bool.not_true, Bool.not_false, decide_eq_true_eq, Nat.reduceSub, Nat.reduceAdd, List.append_assoc, tChain, tDIn, tDNotIn, sDDel, tAug, ipI]
        exact q _ t0
/-- the script -/
def Scr (K : PySem.W.Frag) (H : Hp) (a : Addr) (ns : List Int) : Prop := SqL K H a (ns.map V.int) ∧ ns.length ≤ 63
def spDrawK (K : PySem.W.Frag) : Sp := fun vs H Q _ => ∃ (a : Addr) (k : Int) (ns : List Int), vs = [.ref a, .int k] ∧ Scr K H a ns ∧ 0 ≤ k ∧ ∀ (n : Int) (H' : Hp), 0 ≤ n → Kp [] H H' → Q (.int n) H'
def DrInv (a : Addr) (k : Int) (H : Hp) (_ : Nat) (σ : L2.St) (H' : Hp) : Prop := ∃ (s : Int) (x : Option V), σ = [some (.ref a), some (.int k), some (.int s), x] ∧ Kp [] H H'
theorem ok_law_draw {f : Addr} {fd : FuncData} (D : Df K mg "_law_draw" s_law_draw ["_law_script", "_law_k"] f fd) (T : Bt0 mg) {fg : Addr} {fdg : FuncData} (D_law_great : Df K mg "_law_great" s_law_great ["_law_cell", "_law_k"] fg fdg) (G_law_great : FnOk P w K mg base CX0 1 fg fdg ["_law_cell", "_law_k"] spGreat) : FnOk P w K mg base CX0 2 f fd ["_law_script", "_law_k"] (spDrawK K) := by
  refine D.F.ok sc_law_draw (fun vs H Q E h => ?_) (fun cdv A outer s H vs Q E hr h => ?_)
  · obtain ⟨a, k, ns, rfl, _⟩ := h
    rfl
  · obtain ⟨a, k, ns, rfl, ⟨hS, hl⟩, k0, q⟩ := h
    refine ⟨_, (pss_cons (ps_if (pt_cmpR op_eq (pe_callB (id := "len") (r := Evl.rLenS K) call_len_seq (by rfl) T.b_len PySem.boot_len (pa_cons (pv 0) pa_nil)) pe_int (nomark _)) (pss_one (ps_ret pe_int)) pss_nil)
      (pss_cons (ps_if (pt_cmpR op_lt (pv 1) (pe_callB (id := "len") (r := Evl.rLenS K) call_len_seq (by rfl) T.b_len PySem.boot_len (pa_cons (pv 0) pa_nil)) (nomark _)) (pss_one (ps_ret (pe_call G_law_great (hr.mono (by decide)) rfl D_law_great.g D_law_great.F.kp D_law_great.b .nil pass0 (pa_cons (pe_ix (r := rIxL K) ix_list (pv 0) (pv 1) (fun _ _ => rfl)) (pa_cons (pv 1) pa_nil))))) pss_nil)
      (pss_cons (ps_set (i := 2) sc_law_draw.nd rfl (Or.inl rfl) (pe_op op_add pe_int (pe_callB (id := "len") (r := Evl.rLenS K) call_len_seq (by rfl) T.b_len PySem.boot_len (pa_cons (pv 0) pa_nil))))
      (pss_cons (ps_for PassesOwn.never rfl (pi_list (pe_slice sl_list (pv 0) po_none (po_some pe_int))) (pg_name (i := 3) sc_law_draw.nd rfl (Or.inl rfl)) (pss_one (ps_set (i := 2) sc_law_draw.nd rfl (Or.inl rfl) (pe_op op_mod (pe_callTy (T := "int") call_int1 (by rfl) T.b_int (by decide +kernel) (pa_cons (pe_op op_add (pe_op op_mul (pv 2) pe_int) (pv 3)) pa_nil)) pe_int))))
      (pss_one (ps_ret (pe_call G_law_great (hr.mono (by decide)) rfl D_law_great.g D_law_great.F.kp D_law_great.b .nil pass0 (pa_cons (pv 2) (pa_cons (pv 1) pa_nil))))))))), ?_⟩
    try simp (maxSteps := 1000000) only [tSeq, tIfS, tTest, tOp, tUn, tCB, tCons, tNil, tVar, tC, rI0, rI, rU, rEq, rNe, tRet, tRetN, tAsg, gName, gSub, tBM, tBM0, tNext, tB, tNot, tAnd, tOr, tIf, tCall, tDrop, tBreak, tCont, L2.start, tDGet, sDPut, tTup, tLst, tDNewK, tRevL, rCat, rAppend, rPop, rSetL, tAndV, tOrV, tNotV, tSl, tPart, tNoPart, tM1, gTup, gCons, gNil, cxK, cxnK, List.map_cons, List.map_nil, List.length_cons, List.length_nil, List.replicate, List.cons_append, List.nil_append, List.append_nil, List.set_cons_zero, List.set_cons_succ, List.getElem?_cons_zero, List.getElem?_cons_succ, Option.some.injEq, V.ref.injEq, V.int.injEq, V.str.injEq, V.bl.injEq, V.ty.injEq, exists_eq_left', exists_eq_left, exists_and_left, List.cons.injEq, and_true, true_and, sc_ii, sc_ss, sc_bb, sc_ni, sc_in, sc_is, sc_si, sc_nn, decide_true, decide_false, reduceCtorEq, Bool.false_eq_true, if_true, if_false, ite_true, ite_false, exists_const, eq_self, false_and, and_false, or_false, false_or, exists_false, Evl.rLenS, rSum, wipe, tYes, exists_eq, exists_eq', rIxL, rIxT, rIxS, exists_and_right, gt_iff_lt, not_true_eq_false, not_false_eq_true, Bool.not_true, Bool.not_false, decide_eq_true_eq, Nat.reduceSub, Nat.reduceAdd, List.append_assoc, tChain, tDIn, tDNotIn, sDDel, tAug, ipI]
    refine ⟨_, .inl hS, ?_⟩
    rw [List.length_map]
    refine ite2 (fun h1 => ?_) (fun h1 => ?_)
    · exact q _ _ (by decide) (Kp.refl _ _)
    · refine ⟨_, .inl hS, ?_⟩
      rw [List.length_map]
      refine ite2 (fun h2 => ?_) (fun h2 => ?_)
      · obtain ⟨v, hv, ev⟩ := atI_ex (xs := ns.map V.int) k0 (by rw [List.length_map]; exact h2)
        obtain ⟨n, _, rfl⟩ := List.mem_map.mp hv
        exact ⟨_, hS, _, ev, n, k, rfl, fun m m0 => q m _ m0 (Kp.refl _ _)⟩
      · refine ⟨_, .inl hS, ?_⟩
        try simp (maxSteps := 1000000) only [tSeq, tIfS, tTest, tOp, tUn, tCB, tCons, tNil, tVar, tC, rI0, rI, rU, rEq, rNe, tRet, tRetN, tAsg, gName, gSub, tBM, tBM0, tNext, tB, tNot, tAnd, tOr, tIf, tCall, tDrop, tBreak, tCont, L2.start, tDGet, sDPut, tTup, tLst, tDNewK, tRevL, rCat, rAppend, rPop, rSetL, tAndV, tOrV, tNotV, tSl, tPart, tNoPart, tM1, gTup, gCons, gNil, cxK, cxnK, List.map_cons, List.map_nil, List.length_cons, List.length_nil, List.replicate, List.cons_append, List.nil_append, List.append_nil, List.set_cons_zero, List.set_cons_succ, List.getElem?_cons_zero, List.getElem?_cons_succ, Option.some.injEq, V.ref.injEq, V.int.injEq, V.str.injEq, V.bl.injEq, V.ty.injEq, exists_eq_left', exists_eq_left, exists_and_left, List.cons.injEq, and_true, true_and, sc_ii, sc_ss, sc_bb, sc_ni, sc_in, sc_is, sc_si, sc_nn, decide_true, decide_false, reduceCtorEq, Bool.false_eq_true, if_true, if_false, ite_true, ite_false, exists_const, eq_self, false_and, and_false, or_false, false_or, exists_false, Evl.rLenS, rSum, wipe, tYes, exists_eq, exists_eq', rIxL, rIxT, rIxS, exists_and_right, gt_iff_lt, not_true_eq_false, not_false_eq_true, Bool.not_true, Bool.not_false, decide_eq_true_eq, Nat.reduceSub, Nat.reduceAdd, List.append_assoc, tChain, tDIn, tDNotIn, sDDel, tAug, ipI]
        obtain ⟨ms, em⟩ : ∃ ms : List Int, cutV (ns.map V.int) none (some 9) = ms.map V.int := ⟨_, by unfold cutV; rw [← List.map_drop, ← List.map_take]⟩
        refine ⟨.ref a, rfl, 9, rfl, a, _, rfl, hS, fun p np => ?_⟩
        rw [em]
        have kn : Kp [] H (upd H p (.lst (ms.map V.int))) := Kp.new np
        refine ⟨p, rfl, ⟨_, sq_l upd_same⟩, for_list (K := K) (a := p) (xs := ms.map V.int) (fun i σ H' => DrInv a k H i σ H' ∧ H' p = some (.lst (ms.map V.int))) ⟨⟨_, none, rfl, kn⟩, upd_same⟩ (fun i σ H' _ h => sq_l h.2) ?_ ?_⟩
        · rintro i x σ H1 hx ⟨⟨s, y, rfl, kp⟩, hp⟩
          obtain ⟨m, _, rfl⟩ := List.mem_map.mp (List.mem_of_getElem? hx)
          try simp (maxSteps := 1000000) only [tSeq, tIfS, tTest, tOp, tUn, tCB, tCons, tNil, tVar, tC, rI0, rI, rU, rEq, rNe, tRet, tRetN, tAsg, gName, gSub, tBM, tBM0, tNext, tB, tNot, tAnd, tOr, tIf, tCall, tDrop, tBreak, tCont, L2.start, tDGet, sDPut, tTup, tLst, tDNewK, tRevL, rCat, rAppend, rPop, rSetL, tAndV, tOrV, tNotV, tSl, tPart, tNoPart, tM1, gTup, gCons, gNil, cxK, cxnK, List.map_cons, List.map_nil, List.length_cons, List.length_nil, List.replicate, List.cons_append, List.nil_append, List.append_nil, List.set_cons_zero, List.set_cons_succ, List.getElem?_cons_zero, List.getElem?_cons_succ, Option.some.injEq, V.ref.injEq, V.int.injEq, V.str.injEq, V.bl.injEq, V.ty.injEq, exists_eq_left', exists_eq_left, exists_and_left, List.cons.injEq, and_true, true_and, sc_ii, sc_ss, sc_bb, sc_ni, sc_in, sc_is, sc_si, sc_nn, decide_true, decide_false, reduceCtorEq, Bool.false_eq_true, if_true, if_false, ite_true, ite_false, exists_const, eq_self, false_and, and_false, or_false, false_or, exists_false, Evl.rLenS, rSum, wipe, tYes, exists_eq, exists_eq', rIxL, rIxT, rIxS, exists_and_right, gt_iff_lt, not_true_eq_false, not_false_eq_true, Bool.not_true, Bool.not_false, decide_eq_true_eq, Nat.reduceSub, Nat.reduceAdd, List.append_assoc, tChain, tDIn, tDNotIn, sDDel, tAug, ipI]
          exact ⟨.inr ⟨by decide, by decide⟩, by decide, ⟨_, _, rfl, kp⟩, hp⟩
        · rintro σ H1 ⟨⟨s, y, rfl, kp⟩, hp⟩
          try simp (maxSteps := 1000000) only [tSeq, tIfS, tTest, tOp, tUn, tCB, tCons, tNil, tVar, tC, rI0, rI, rU, rEq, rNe, tRet, tRetN, tAsg, gName, gSub, tBM, tBM0, tNext, tB, tNot, tAnd, tOr, tIf, tCall, tDrop, tBreak, tCont, L2.start, tDGet, sDPut, tTup, tLst, tDNewK, tRevL, rCat, rAppend, rPop, rSetL, tAndV, tOrV, tNotV, tSl, tPart, tNoPart, tM1, gTup, gCons, gNil, cxK, cxnK, List.map_cons, List.map_nil, List.length_cons, List.length_nil, List.replicate, List.cons_append, List.nil_append, List.append_nil, List.set_cons_zero, List.set_cons_succ, List.getElem?_cons_zero, List.getElem?_cons_succ, Option.some.injEq, V.ref.injEq, V.int.injEq, V.str.injEq, V.bl.injEq, V.ty.injEq, exists_eq_left', exists_eq_left, exists_and_left, List.cons.injEq, and_true, true_and, sc_ii, sc_ss, sc_bb, sc_ni, sc_in, sc_is, sc_si, sc_nn, decide_true, decide_false, reduceCtorEq, Bool.false_eq_true, if_true, if_false, ite_true, ite_false, exists_const, eq_self, false_and, and_false, or_false, false_or, exists_false, Evl.rLenS, rSum, wipe, tYes, exists_eq, exists_eq', rIxL, rIxT, rIxS, exists_and_right, gt_iff_lt, not_true_eq_false, not_false_eq_true, Bool.not_true, Bool.not_false, decide_eq_true_eq, Nat.reduceSub, Nat.reduceAdd, List.append_assoc, tChain, tDIn, tDNotIn, sDDel, tAug, ipI]
          exact ⟨s, k, rfl, fun m m0 => q m _ m0 kp⟩
/-- a new list of pairs -/
def spPairs (K : PySem.W.Frag) : Sp := fun vs H Q _ => vs = [] ∧ ∀ (r : Addr) (vs : List V) (H' : Hp), H r = none → H' r = some (.lst vs) → DpAll K H' vs (pairsL.map pD) → Kp [] H H' → Q (.ref r) H'
theorem dpNew {H : Hp} {t : Addr} {x y : Str} : Dp K (upd H t (.tup [.str x, .str y])) (.ref t) (pD (x, y)) := .tup (sq_t upd_same) (.cons (.str x) (.cons (.str y) .nil))
def RowsAt (K : PySem.W.Frag) (H : Hp) (r : Addr) (ps : List Pr) (H' : Hp) : Prop := ∃ ws, H' r = some (.lst ws) ∧ DpAll K H' ws (ps.map pD) ∧ Kp [] H H'
theorem rowsAt_put {H H2 : Hp} {r t : Addr} {x y : Str} {ps : List Pr} (h : RowsAt K H r ps H2) (nr : H r = none) (nt : H2 t = none) (hl : ps.length ≤ 1000) :
    ∃ acc, (upd H2 t (.tup [.str x, .str y])) r = some (.lst acc) ∧ acc.length < sizeLine ∧ RowsAt K H r (ps ++ [(x, y)]) (upd (upd H2 t (.tup [.str x, .str y])) r (.lst (acc ++ [.ref t]))) := by
  obtain ⟨ws, hv, hws, k⟩ := h
  have k1 : Kp [] H2 (upd H2 t (.tup [.str x, .str y])) := Kp.new nt
  have hr := k1 _ _ not0 hv
  have nw : Kp [r] (upd H2 t (.tup [.str x, .str y])) (upd (upd H2 t (.tup [.str x, .str y])) r (.lst (ws ++ [.ref t]))) := (Kp.refl [r] _).put (by simp)
  have nT : NoTp (upd H2 t (.tup [.str x, .str y])) [r] := noTp1 hr
  refine ⟨ws, hr, smallL (by rw [dpLen hws, List.length_map]; omega), _, upd_same, ?_, (k.trans k1).wr nr⟩
  rw [List.map_append]
  exact dpApp (dpAllT nw nT (dpAllN k1 noSq0 hws) (noLsP _)) (.cons (dpT nw nT dpNew rfl) .nil)
theorem kinds_at : ∀ i x, kindsL[i]? = some x → i < 5 := fun i x h => (List.getElem?_eq_some_iff.mp h).1
theorem rows_len : ∀ i, (((kindsL.take i).flatMap rowP)).length ≤ 27 := by
  intro i
  rcases Nat.lt_or_ge i 5 with h | h
  · rcases (show i = 0 ∨ i = 1 ∨ i = 2 ∨ i = 3 ∨ i = 4 by omega) with rfl | rfl | rfl | rfl | rfl <;> decide +kernel
  · rw [List.take_of_length_le h]; decide +kernel
theorem rows_next {i : Nat} {x : Str} (h : kindsL[i]? = some x) : ((kindsL.take (i + 1)).flatMap rowP) = ((kindsL.take i).flatMap rowP) ++ rowP x := by
  rw [List.take_add_one, h, List.flatMap_append]; simp
def OutInv (K : PySem.W.Frag) (H : Hp) (r a : Addr) (i : Nat) (σ : L2.St) (H' : Hp) : Prop := ∃ x y, σ = [some (.ref r), x, y] ∧ RowsAt K H r ((kindsL.take i).flatMap rowP) H' ∧ H' a = some (.lst (kindsL.map V.str))
def InnInv (K : PySem.W.Frag) (H : Hp) (r a b : Addr) (i : Nat) (x : Str) (j : Nat) (σ : L2.St) (H' : Hp) : Prop := ∃ y, σ = [some (.ref r), some (.str x), y] ∧ RowsAt K H r ((kindsL.take i).flatMap rowP ++ (kindsL.take j).map fun y => (x, y)) H' ∧ H' a = some (.lst (kindsL.map V.str)) ∧ H' b = some (.lst (kindsL.map V.str))
theorem ok_law_pairs {f : Addr} {fd : FuncData} (D : Df K mg "_law_pairs" s_law_pairs [] f fd) (T : Bt0 mg) : FnOk P w K mg base CX0 1 f fd [] (spPairs K) := by
  refine D.F.ok sc_law_pairs (fun vs H Q E h => ?_) (fun cdv A outer s H vs Q E hr h => ?_)
  · rw [h.1]; rfl
  · obtain ⟨rfl, q⟩ := h
    refine ⟨_, (pss_cons (ps_set (i := 0) sc_law_pairs.nd rfl (Or.inl rfl) (pe_lst pa_nil))
      (pss_cons (ps_for PassesOwn.never rfl (pi_list (pe_lst (pa_cons pe_str (pa_cons pe_str (pa_cons pe_str (pa_cons pe_str (pa_cons pe_str pa_nil))))))) (pg_name (i := 1) sc_law_pairs.nd rfl (Or.inl rfl)) (pss_cons (ps_for PassesOwn.never rfl (pi_list (pe_lst (pa_cons pe_str (pa_cons pe_str (pa_cons pe_str (pa_cons pe_str (pa_cons pe_str pa_nil))))))) (pg_name (i := 2) sc_law_pairs.nd rfl (Or.inl rfl)) (pss_one (ps_expr (pe_bm PySem.F.plainAttrs_list PySem.F.slot_list_append PySem.F.type_list_append mt_append (pv 0) (pa_cons (pe_tup (pa_cons (pv 1) (pa_cons (pv 2) pa_nil))) pa_nil)))))
      (pss_one (ps_if (PW.pt (pw_or (pt_cmpR op_eq (pv 1) pe_str (nomark _)) (pw_or1 (pt_cmpR op_eq (pv 1) pe_str (nomark _))))) (pss_one (ps_expr (pe_bm PySem.F.plainAttrs_list PySem.F.slot_list_append PySem.F.type_list_append mt_append (pv 0) (pa_cons (pe_tup (pa_cons (pv 1) (pa_cons pe_str pa_nil))) pa_nil)))) pss_nil))))
      (pss_one (ps_ret (pv 0))))), ?_⟩
    try simp (maxSteps := 1000000) only [tSeq, tIfS, tTest, tOp, tUn, tCB, tCons, tNil, tVar, tC, rI0, rI, rU, rEq, rNe, tRet, tRetN, tAsg, gName, gSub, tBM, tBM0, tNext, tB, tNot, tAnd, tOr, tIf, tCall, tDrop, tBreak, tCont, L2.start, tDGet, sDPut, tTup, tLst, tDNewK, tRevL, rCat, rAppend, rPop, rSetL, tAndV, tOrV, tNotV, tSl, tPart, tNoPart, tM1, gTup, gCons, gNil, cxK, cxnK, List.map_cons, List.map_nil, List.length_cons, List.length_nil, List.replicate, List.cons_append, List.nil_append, List.append_nil, List.set_cons_zero, List.set_cons_succ, List.getElem?_cons_zero, List.getElem?_cons_succ, Option.some.injEq, V.ref.injEq, V.int.injEq, V.str.injEq, V.bl.injEq, V.ty.injEq, exists_eq_left', exists_eq_left, exists_and_left, List.cons.injEq, and_true, true_and, sc_ii, sc_ss, sc_bb, sc_ni, sc_in, sc_is, sc_si, sc_nn, decide_true, decide_false, reduceCtorEq, Bool.false_eq_true, if_true, if_false, ite_true, ite_false, exists_const, eq_self, false_and, and_false, or_false, false_or, exists_false, Evl.rLenS, rSum, wipe, tYes, exists_eq, exists_eq', rIxL, rIxT, rIxS, exists_and_right, gt_iff_lt, not_true_eq_false, not_false_eq_true, Bool.not_true, Bool.not_false, decide_eq_true_eq, Nat.reduceSub, Nat.reduceAdd, List.append_assoc, tChain, tDIn, tDNotIn, sDDel, tAug, ipI]
    refine ⟨small (by decide), fun r nr => ?_⟩
    refine ⟨small (by decide), fun a na => ?_⟩
    have ra : r ≠ a := ne_of_none upd_same na
    have nr' : H r = none := nr
    have k0 : Kp [] H (upd (upd H r (.lst [])) a (.lst (kindsL.map V.str))) := (Kp.new nr).trans (Kp.new na)
    refine ⟨a, rfl, ⟨kindsL.map V.str, sq_l upd_same⟩, for_list (K := K) (a := a) (xs := kindsL.map V.str) (OutInv K H r a) ⟨_, _, rfl, ⟨[], by rw [upd_ne ra]; exact upd_same, .nil, k0⟩, upd_same⟩ (fun i σ H' _ h => by obtain ⟨_, _, _, _, h⟩ := h; exact sq_l h) ?_ ?_⟩
    · rintro i xv σ H1 hx ⟨x0, y0, rfl, hr, ha⟩
      obtain ⟨x, ex, rfl⟩ : ∃ x, kindsL[i]? = some x ∧ V.str x = xv := by
        rw [List.getElem?_map] at hx
        cases e : kindsL[i]? with
        | none => rw [e] at hx; cases hx
        | some x => rw [e] at hx; exact ⟨x, rfl, Option.some.inj hx⟩
      try simp (maxSteps := 1000000) only [tSeq, tIfS, tTest, tOp, tUn, tCB, tCons, tNil, tVar, tC, rI0, rI, rU, rEq, rNe, tRet, tRetN, tAsg, gName, gSub, tBM, tBM0, tNext, tB, tNot, tAnd, tOr, tIf, tCall, tDrop, tBreak, tCont, L2.start, tDGet, sDPut, tTup, tLst, tDNewK, tRevL, rCat, rAppend, rPop, rSetL, tAndV, tOrV, tNotV, tSl, tPart, tNoPart, tM1, gTup, gCons, gNil, cxK, cxnK, List.map_cons, List.map_nil, List.length_cons, List.length_nil, List.replicate, List.cons_append, List.nil_append, List.append_nil, List.set_cons_zero, List.set_cons_succ, List.getElem?_cons_zero, List.getElem?_cons_succ, Option.some.injEq, V.ref.injEq, V.int.injEq, V.str.injEq, V.bl.injEq, V.ty.injEq, exists_eq_left', exists_eq_left, exists_and_left, List.cons.injEq, and_true, true_and, sc_ii, sc_ss, sc_bb, sc_ni, sc_in, sc_is, sc_si, sc_nn, decide_true, decide_false, reduceCtorEq, Bool.false_eq_true, if_true, if_false, ite_true, ite_false, exists_const, eq_self, false_and, and_false, or_false, false_or, exists_false, Evl.rLenS, rSum, wipe, tYes, exists_eq, exists_eq', rIxL, rIxT, rIxS, exists_and_right, gt_iff_lt, not_true_eq_false, not_false_eq_true, Bool.not_true, Bool.not_false, decide_eq_true_eq, Nat.reduceSub, Nat.reduceAdd, List.append_assoc, tChain, tDIn, tDNotIn, sDDel, tAug, ipI]
      refine ⟨small (by decide), fun b nb => ?_⟩
      have k1 : Kp [] H1 (upd H1 b (.lst (kindsL.map V.str))) := Kp.new nb
      have rb : r ≠ b := by obtain ⟨ws, hv, _⟩ := hr; exact ne_of_none hv nb
      have hr1 : RowsAt K H r ((kindsL.take i).flatMap rowP) (upd H1 b (.lst (kindsL.map V.str))) := by
        obtain ⟨ws, hv, hws, kp⟩ := hr
        exact ⟨ws, k1 _ _ not0 hv, dpAllN k1 noSq0 hws, kp.trans k1⟩
      refine ⟨b, rfl, ⟨kindsL.map V.str, sq_l upd_same⟩, for_list (K := K) (a := b) (xs := kindsL.map V.str) (InnInv K H r a b i x) ⟨_, rfl, by rw [List.take_zero, List.map_nil, List.append_nil]; exact hr1, k1 _ _ not0 ha, upd_same⟩ (fun i σ H' _ h => by obtain ⟨_, _, _, _, h⟩ := h; exact sq_l h) ?_ ?_⟩
      · rintro j yv σ H2 hy ⟨y1, rfl, hr2, ha2, hb2⟩
        obtain ⟨y, ey, rfl⟩ : ∃ y, kindsL[j]? = some y ∧ V.str y = yv := by
          rw [List.getElem?_map] at hy
          cases e : kindsL[j]? with
          | none => rw [e] at hy; cases hy
          | some y => rw [e] at hy; exact ⟨y, rfl, Option.some.inj hy⟩
        try simp (maxSteps := 1000000) only [tSeq, tIfS, tTest, tOp, tUn, tCB, tCons, tNil, tVar, tC, rI0, rI, rU, rEq, rNe, tRet, tRetN, tAsg, gName, gSub, tBM, tBM0, tNext, tB, tNot, tAnd, tOr, tIf, tCall, tDrop, tBreak, tCont, L2.start, tDGet, sDPut, tTup, tLst, tDNewK, tRevL, rCat, rAppend, rPop, rSetL, tAndV, tOrV, tNotV, tSl, tPart, tNoPart, tM1, gTup, gCons, gNil, cxK, cxnK, List.map_cons, List.map_nil, List.length_cons, List.length_nil, List.replicate, List.cons_append, List.nil_append, List.append_nil, List.set_cons_zero, List.set_cons_succ, List.getElem?_cons_zero, List.getElem?_cons_succ, Option.some.injEq, V.ref.injEq, V.int.injEq, V.str.injEq, V.bl.injEq, V.ty.injEq, exists_eq_left', exists_eq_left, exists_and_left, List.cons.injEq, and_true, true_and, sc_ii, sc_ss, sc_bb, sc_ni, sc_in, sc_is, sc_si, sc_nn, decide_true, decide_false, reduceCtorEq, Bool.false_eq_true, if_true, if_false, ite_true, ite_false, exists_const, eq_self, false_and, and_false, or_false, false_or, exists_false, Evl.rLenS, rSum, wipe, tYes, exists_eq, exists_eq', rIxL, rIxT, rIxS, exists_and_right, gt_iff_lt, not_true_eq_false, not_false_eq_true, Bool.not_true, Bool.not_false, decide_eq_true_eq, Nat.reduceSub, Nat.reduceAdd, List.append_assoc, tChain, tDIn, tDNotIn, sDDel, tAug, ipI]
        have hrv : ∃ ws, H2 r = some (.lst ws) := by obtain ⟨ws, hv, _⟩ := hr2; exact ⟨ws, hv⟩
        obtain ⟨ws0, hr0⟩ := hrv
        refine ⟨.inl ⟨rfl, _, sq_l hr0⟩, small (by decide), fun t nt => ?_⟩
        have hl : ((kindsL.take i).flatMap rowP ++ (kindsL.take j).map fun y => (x, y)).length ≤ 1000 := by
          rw [List.length_append, List.length_map, List.length_take]
          have := rows_len i
          have : kindsL.length = 5 := rfl
          omega
        obtain ⟨acc, h1, h2, h3⟩ := rowsAt_put (x := x) (y := y) hr2 nr nt hl
        refine ⟨acc, h1, h2, _, rfl, ?_, ?_, ?_⟩
        · rw [List.take_add_one, ey, List.map_append, ← List.append_assoc]
          exact h3
        · rw [upd_ne ra.symm, upd_ne (ne_of_none ha2 nt)]; exact ha2
        · rw [upd_ne rb.symm, upd_ne (ne_of_none hb2 nt)]; exact hb2
      · rintro σ H2 ⟨y1, rfl, hr2, ha2, hb2⟩
        have e5 : (kindsL.take (kindsL.map V.str).length) = kindsL := by rw [List.length_map, List.take_length]
        rw [e5] at hr2
        have nx := rows_next ex
        have hrv : ∃ ws, H2 r = some (.lst ws) := by obtain ⟨ws, hv, _⟩ := hr2; exact ⟨ws, hv⟩
        obtain ⟨ws0, hr0⟩ := hrv
        have hl : ((kindsL.take i).flatMap rowP ++ kindsL.map fun y => (x, y)).length ≤ 1000 := by
          rw [List.length_append, List.length_map]
          have := rows_len i
          have : kindsL.length = 5 := rfl
          omega
        have more : (x = ("write" : Str) ∨ x = ("release" : Str)) → ∀ t, H2 t = none → ∃ acc, (upd H2 t (.tup [.str x, .str "return"])) r = some (.lst acc) ∧ acc.length < sizeLine ∧ OutInv K H r a (i + 1) [some (.ref r), some (.str x), y1] (upd (upd H2 t (.tup [.str x, .str "return"])) r (.lst (acc ++ [.ref t]))) := by
          intro hx t nt
          obtain ⟨acc, h1, h2, h3⟩ := rowsAt_put (x := x) (y := "return") hr2 nr nt hl
          refine ⟨acc, h1, h2, _, _, rfl, ?_, by rw [upd_ne ra.symm, upd_ne (ne_of_none ha2 nt)]; exact ha2⟩
          rw [nx]
          unfold rowP
          rw [if_pos hx, ← List.append_assoc]
          exact h3
        have less : ¬ (x = ("write" : Str) ∨ x = ("release" : Str)) → OutInv K H r a (i + 1) [some (.ref r), some (.str x), y1] H2 := by
          intro hx
          refine ⟨_, _, rfl, ?_, ha2⟩
          rw [nx]
          unfold rowP
          rw [if_neg hx, List.append_nil]
          exact hr2
        try simp (maxSteps := 1000000) only [tSeq, tIfS, tTest, tOp, tUn, tCB, tCons, tNil, tVar, tC, rI0, rI, rU, rEq, rNe, tRet, tRetN, tAsg, gName, gSub, tBM, tBM0, tNext, tB, tNot, tAnd, tOr, tIf, tCall, tDrop, tBreak, tCont, L2.start, tDGet, sDPut, tTup, tLst, tDNewK, tRevL, rCat, rAppend, rPop, rSetL, tAndV, tOrV, tNotV, tSl, tPart, tNoPart, tM1, gTup, gCons, gNil, cxK, cxnK, List.map_cons, List.map_nil, List.length_cons, List.length_nil, List.replicate, List.cons_append, List.nil_append, List.append_nil, List.set_cons_zero, List.set_cons_succ, List.getElem?_cons_zero, List.getElem?_cons_succ, Option.some.injEq, V.ref.injEq, V.int.injEq, V.str.injEq, V.bl.injEq, V.ty.injEq, exists_eq_left', exists_eq_left, exists_and_left, List.cons.injEq, and_true, true_and, sc_ii, sc_ss, sc_bb, sc_ni, sc_in, sc_is, sc_si, sc_nn, decide_true, decide_false, reduceCtorEq, Bool.false_eq_true, if_true, if_false, ite_true, ite_false, exists_const, eq_self, false_and, and_false, or_false, false_or, exists_false, Evl.rLenS, rSum, wipe, tYes, exists_eq, exists_eq', rIxL, rIxT, rIxS, exists_and_right, gt_iff_lt, not_true_eq_false, not_false_eq_true, Bool.not_true, Bool.not_false, decide_eq_true_eq, Nat.reduceSub, Nat.reduceAdd, List.append_assoc, tChain, tDIn, tDNotIn, sDDel, tAug, ipI]
        have lt : tyV K "list" (V.ref r) H2 := .inl ⟨rfl, _, sq_l hr0⟩
        exact ite2 (fun h => ⟨lt, small (by decide), more (.inl h)⟩) (fun h1 => ite2 (fun h => ⟨lt, small (by decide), more (.inr h)⟩) (fun h2 => less fun z => z.elim h1 h2))
    · rintro σ H1 ⟨x0, y0, rfl, ⟨ws, hv, hws, kp⟩, ha⟩
      try simp (maxSteps := 1000000) only [tSeq, tIfS, tTest, tOp, tUn, tCB, tCons, tNil, tVar, tC, rI0, rI, rU, rEq, rNe, tRet, tRetN, tAsg, gName, gSub, tBM, tBM0, tNext, tB, tNot, tAnd, tOr, tIf, tCall, tDrop, tBreak, tCont, L2.start, tDGet, sDPut, tTup, tLst, tDNewK, tRevL, rCat, rAppend, rPop, rSetL, tAndV, tOrV, tNotV, tSl, tPart, tNoPart, tM1, gTup, gCons, gNil, cxK, cxnK, List.map_cons, List.map_nil, List.length_cons, List.length_nil, List.replicate, List.cons_append, List.nil_append, List.append_nil, List.set_cons_zero, List.set_cons_succ, List.getElem?_cons_zero, List.getElem?_cons_succ, Option.some.injEq, V.ref.injEq, V.int.injEq, V.str.injEq, V.bl.injEq, V.ty.injEq, exists_eq_left', exists_eq_left, exists_and_left, List.cons.injEq, and_true, true_and, sc_ii, sc_ss, sc_bb, sc_ni, sc_in, sc_is, sc_si, sc_nn, decide_true, decide_false, reduceCtorEq, Bool.false_eq_true, if_true, if_false, ite_true, ite_false, exists_const, eq_self, false_and, and_false, or_false, false_or, exists_false, Evl.rLenS, rSum, wipe, tYes, exists_eq, exists_eq', rIxL, rIxT, rIxS, exists_and_right, gt_iff_lt, not_true_eq_false, not_false_eq_true, Bool.not_true, Bool.not_false, decide_eq_true_eq, Nat.reduceSub, Nat.reduceAdd, List.append_assoc, tChain, tDIn, tDNotIn, sDDel, tAug, ipI]
      rw [List.length_map, List.take_of_length_le (Nat.le_refl _)] at hws
      exact q r ws H1 nr hv hws kp
/-- a list of pairs, grown -/
def spSays : Sp := fun vs H Q _ => ∃ x y : Bool, vs = [.bl x, .bl y] ∧ Q (.bl (decide (x = y))) H
theorem ok_law_says {f : Addr} {fd : FuncData} (D : Df K mg "_law_says" s_law_says ["_law_told", "_law_due"] f fd) : FnOk P w K mg base CX0 1 f fd ["_law_told", "_law_due"] spSays := by
  refine D.F.ok sc_law_says (fun vs H Q E h => ?_) (fun cdv A outer s H vs Q E hr h => ?_)
  · obtain ⟨x, y, rfl, _⟩ := h
    rfl
  · obtain ⟨x, y, rfl, q⟩ := h
    refine ⟨_, (pss_cons (ps_if (pt_val (pv 1)) (pss_one (ps_ret (pe_cmpR op_isBl (pv 0) pe_bl (nomark _)))) pss_nil)
      (pss_one (ps_ret (pe_cmpR op_isBl (pv 0) pe_bl (nomark _))))), ?_⟩
    try simp (maxSteps := 1000000) only [tSeq, tIfS, tTest, tOp, tUn, tCB, tCons, tNil, tVar, tC, rI0, rI, rU, rEq, rNe, tRet, tRetN, tAsg, gName, gSub, tBM, tBM0, tNext, tB, tNot, tAnd, tOr, tIf, tCall, tDrop, tBreak, tCont, L2.start, tDGet, sDPut, tTup, tLst, tDNewK, tRevL, rCat, rAppend, rPop, rSetL, tAndV, tOrV, tNotV, tSl, tPart, tNoPart, tM1, gTup, gCons, gNil, cxK, cxnK, List.map_cons, List.map_nil, List.length_cons, List.length_nil, List.replicate, List.cons_append, List.nil_append, List.append_nil, List.set_cons_zero, List.set_cons_succ, List.getElem?_cons_zero, List.getElem?_cons_succ, Option.some.injEq, V.ref.injEq, V.int.injEq, V.str.injEq, V.bl.injEq, V.ty.injEq, exists_eq_left', exists_eq_left, exists_and_left, List.cons.injEq, and_true, true_and, sc_ii, sc_ss, sc_bb, sc_ni, sc_in, sc_is, sc_si, sc_nn, decide_true, decide_false, reduceCtorEq, Bool.false_eq_true, if_true, if_false, ite_true, ite_false, exists_const, eq_self, false_and, and_false, or_false, false_or, exists_false, Evl.rLenS, rSum, wipe, tYes, exists_eq, exists_eq', rIxL, rIxT, rIxS, exists_and_right, gt_iff_lt, not_true_eq_false, not_false_eq_true, Bool.not_true, Bool.not_false, decide_eq_true_eq, Nat.reduceSub, Nat.reduceAdd, List.append_assoc, tChain, tDIn, tDNotIn, sDDel, tAug, ipI]
    cases y with
    | true => exact ⟨x, true, rfl, rfl, q⟩
    | false => exact ⟨x, false, rfl, rfl, q⟩
end
end My

set_option Elab.async false
set_option linter.all false
set_option maxRecDepth 100000
set_option maxHeartbeats 4000000
namespace My
open PySem L2 NdefX
abbrev s_law_usual : Stmt := top 22
theorem sc_law_usual : FnScope ["_law_which", "_law_chosen", "_law_pair", "_law_late"] ["_law_which"] (defScope s_law_usual) := ⟨rfl, rfl, rfl, by decide +kernel, rfl, by decide +kernel, by decide +kernel⟩
theorem sub_filter {s L : List Pr} (h : s.Sublist L) (nd : L.Nodup) : (L.filter fun x => decide (x ∈ s)) = s := by
  induction h with
  | slnil => rfl
  | @cons s L a h ih =>
    have nd' := List.nodup_cons.mp nd
    have na : a ∉ s := fun z => nd'.1 (h.subset z)
    rw [List.filter_cons, if_neg (by simpa using na), ih nd'.2]
  | @cons_cons s L a h ih =>
    have nd' := List.nodup_cons.mp nd
    have e : (L.filter fun x => decide (x ∈ a :: s)) = L.filter fun x => decide (x ∈ s) := List.filter_congr fun x hx => by
      have : x ≠ a := fun z => nd'.1 (z ▸ hx)
      simp [this]
    rw [List.filter_cons, if_pos (by simp), e, ih nd'.2]
theorem pairs_nodup : pairsL.Nodup := by decide +kernel
/-- a new list of some of the pairs, in their order -/
def SelAt (K : PySem.W.Frag) (H : Hp) (l : Addr) (f : Pr → Bool) : Prop := ∃ ws, H l = some (.lst ws) ∧ DpAll K H ws ((pairsL.filter f).map pD)
/-- ahead of the i-th pair -/
def SelIn (K : PySem.W.Frag) (H : Hp) (r : Addr) (i : Nat) (H' : Hp) : Prop := ∃ (s : List Pr) (ws : List V), s.Sublist (pairsL.take i) ∧ H' r = some (.lst ws) ∧ DpAll K H' ws (s.map pD) ∧ Kp [] H H'
theorem SelIn.put {K : PySem.W.Frag} {H H' : Hp} {r : Addr} {i : Nat} {p : Pr} {v : V} (h : SelIn K H r i H') (nr : H r = none) (ep : pairsL[i]? = some p) (hv : Dp K H' v (pD p)) : ∃ ws, H' r = some (.lst ws) ∧ ws.length + 1 ≤ sizeLine ∧ SelIn K H r (i + 1) (upd H' r (.lst (ws ++ [v]))) := by
  obtain ⟨s, ws, hs, hr, hw, k⟩ := h
  have sl : s.length ≤ 27 := by
    have h1 := hs.length_le
    have h2 : (pairsL.take i).length ≤ pairsL.length := by rw [List.length_take]; omega
    rw [pairs_len] at h2
    omega
  have wl : ws.length = s.length := by rw [dpLen hw, List.length_map]
  have nw : Kp [r] H' (upd H' r (.lst (ws ++ [v]))) := (Kp.refl [r] H').put (by simp)
  have nt : NoTp H' [r] := noTp1 hr
  refine ⟨ws, hr, smallL (by omega), s ++ [p], ws ++ [v], ?_, upd_same, ?_, k.wr nr⟩
  · rw [List.take_add_one, ep]
    exact hs.append (List.Sublist.refl _)
  · rw [List.map_append]
    exact dpApp (dpAllT nw nt hw (noLsP _)) (.cons (dpT nw nt hv rfl) .nil)
theorem SelIn.kp {K : PySem.W.Frag} {H H' H2 : Hp} {r : Addr} {i : Nat} (h : SelIn K H r i H') (k2 : Kp [] H' H2) : SelIn K H r i H2 := by
  obtain ⟨s, ws, hs, hr, hw, k⟩ := h
  exact ⟨s, ws, hs, k2 _ _ not0 hr, dpAllN k2 noSq0 hw, k.trans k2⟩
theorem SelIn.skip {K : PySem.W.Frag} {H H' : Hp} {r : Addr} {i : Nat} (h : SelIn K H r i H') : SelIn K H r (i + 1) H' := by
  obtain ⟨s, ws, hs, hr, hw, k⟩ := h
  refine ⟨s, ws, hs.trans ?_, hr, hw, k⟩
  rw [List.take_add_one]
  exact List.sublist_append_left _ _
theorem SelIn.fin {K : PySem.W.Frag} {H H' : Hp} {r : Addr} {i : Nat} (h : SelIn K H r i H') (hi : pairsL.length ≤ i) : ∃ f, SelAt K H' r f ∧ Kp [] H H' := by
  obtain ⟨s, ws, hs, hr, hw, k⟩ := h
  rw [List.take_of_length_le hi] at hs
  exact ⟨fun x => decide (x ∈ s), ⟨ws, hr, by rw [sub_filter hs pairs_nodup]; exact hw⟩, k⟩
section
variable {P : Program} {w : World} {K : PySem.W.Frag} {mg : Str → Option Value} {base : Heap}
def spSel (K : PySem.W.Frag) : Sp := fun vs H Q _ => ∃ n : Int, vs = [.int n] ∧ 0 ≤ n ∧ ∀ (l : Addr) (f : Pr → Bool) (H' : Hp), H l = none → SelAt K H' l f → Kp [] H H' → Q (.ref l) H'
def UsIn (K : PySem.W.Frag) (n : Int) (r : Addr) (H : Hp) (i : Nat) (σ : L2.St) (H' : Hp) : Prop := ∃ c d : Option V, σ = [some (.int n), some (.ref r), c, d] ∧ SelIn K H r i H'
theorem ok_law_usual {f : Addr} {fd : FuncData} (D : Df K mg "_law_usual" s_law_usual ["_law_which"] f fd) (T : Bt0 mg) {fg : Addr} {fdg : FuncData} (D_law_pairs : Df K mg "_law_pairs" s_law_pairs [] fg fdg) (G_law_pairs : FnOk P w K mg base CX0 1 fg fdg [] (spPairs K)) : FnOk P w K mg base CX0 2 f fd ["_law_which"] (spSel K) := by
  refine D.F.ok sc_law_usual (fun vs H Q E h => ?_) (fun cdv A outer s H vs Q E hr h => ?_)
  · obtain ⟨_, rfl, _⟩ := h
    rfl
  · obtain ⟨n, rfl, n0, q⟩ := h
    refine ⟨_, (pss_cons (ps_set (i := 1) sc_law_usual.nd rfl (Or.inl rfl) (pe_lst pa_nil))
      (pss_cons (ps_for PassesOwn.never rfl (pi_list (pe_call0 G_law_pairs (hr.mono (by decide)) rfl D_law_pairs.g D_law_pairs.F.kp D_law_pairs.b .nil pass0)) (pg_name (i := 2) sc_law_usual.nd rfl (Or.inl rfl)) (pss_cons (ps_set (i := 3) sc_law_usual.nd rfl (Or.inl rfl) (pe_and (pe_cmpR op_in_seq (pe_ix (r := rIxT K) ix_tup (pv 2) pe_int (fun _ _ => rfl)) (pe_tup (pa_cons pe_str (pa_cons pe_str pa_nil))) (by rfl)) (pe_one (pe_cmpR op_in_seq (pe_ix (r := rIxT K) ix_tup (pv 2) pe_int (fun _ _ => rfl)) (pe_tup (pa_cons pe_str (pa_cons pe_str (pa_cons pe_str pa_nil)))) (by rfl)))))
      (pss_one (ps_if (PW.pt (pw_or (pt_cmpR op_eq (pv 0) pe_int (nomark _)) (pw_or (PW.pt (pw_and (pt_cmpR op_eq (pv 0) pe_int (nomark _)) (pw_and1 (pt_not (pt_val (pv 3)))))) (pw_or1 (PW.pt (pw_and (pt_cmpR op_eq (pv 0) pe_int (nomark _)) (pw_and1 (PW.pt (pw_or (pt_cmpR op_eq (pe_ix (r := rIxT K) ix_tup (pv 2) pe_int (fun _ _ => rfl)) pe_str (nomark _)) (pw_or1 (pt_cmpR op_eq (pe_ix (r := rIxT K) ix_tup (pv 2) pe_int (fun _ _ => rfl)) pe_str (nomark _)))))))))))) (pss_one (ps_expr (pe_bm PySem.F.plainAttrs_list PySem.F.slot_list_append PySem.F.type_list_append mt_append (pv 1) (pa_cons (pv 2) pa_nil)))) pss_nil))))
      (pss_one (ps_ret (pv 1))))), ?_⟩
    try simp (maxSteps := 1000000) only [tSeq, tIfS, tTest, tOp, tUn, tCB, tCons, tNil, tVar, tC, rI0, rI, rU, rEq, rNe, tRet, tRetN, tAsg, gName, gSub, tBM, tBM0, tNext, tB, tNot, tAnd, tOr, tIf, tCall, tDrop, tBreak, tCont, L2.start, tDGet, sDPut, tTup, tLst, tDNewK, tRevL, rCat, rAppend, rPop, rSetL, tAndV, tOrV, tNotV, tSl, tPart, tNoPart, tM1, gTup, gCons, gNil, cxK, cxnK, List.map_cons, List.map_nil, List.length_cons, List.length_nil, List.replicate, List.cons_append, List.nil_append, List.append_nil, List.set_cons_zero, List.set_cons_succ, List.getElem?_cons_zero, List.getElem?_cons_succ, Option.some.injEq, V.ref.injEq, V.int.injEq, V.str.injEq, V.bl.injEq, V.ty.injEq, exists_eq_left', exists_eq_left, exists_and_left, List.cons.injEq, and_true, true_and, sc_ii, sc_ss, sc_bb, sc_ni, sc_in, sc_is, sc_si, sc_nn, decide_true, decide_false, reduceCtorEq, Bool.false_eq_true, if_true, if_false, ite_true, ite_false, exists_const, eq_self, false_and, and_false, or_false, false_or, exists_false, Evl.rLenS, rSum, wipe, tYes, exists_eq, exists_eq', rIxL, rIxT, rIxS, exists_and_right, gt_iff_lt, not_true_eq_false, not_false_eq_true, Bool.not_true, Bool.not_false, decide_eq_true_eq, Nat.reduceSub, Nat.reduceAdd, List.append_assoc, tChain, tDIn, tDNotIn, sDDel, tAug, ipI]
    refine ⟨small (by decide), fun r nr => forL_src34 ?_⟩
    try simp (maxSteps := 1000000) only [tSeq, tIfS, tTest, tOp, tUn, tCB, tCons, tNil, tVar, tC, rI0, rI, rU, rEq, rNe, tRet, tRetN, tAsg, gName, gSub, tBM, tBM0, tNext, tB, tNot, tAnd, tOr, tIf, tCall, tDrop, tBreak, tCont, L2.start, tDGet, sDPut, tTup, tLst, tDNewK, tRevL, rCat, rAppend, rPop, rSetL, tAndV, tOrV, tNotV, tSl, tPart, tNoPart, tM1, gTup, gCons, gNil, cxK, cxnK, List.map_cons, List.map_nil, List.length_cons, List.length_nil, List.replicate, List.cons_append, List.nil_append, List.append_nil, List.set_cons_zero, List.set_cons_succ, List.getElem?_cons_zero, List.getElem?_cons_succ, Option.some.injEq, V.ref.injEq, V.int.injEq, V.str.injEq, V.bl.injEq, V.ty.injEq, exists_eq_left', exists_eq_left, exists_and_left, List.cons.injEq, and_true, true_and, sc_ii, sc_ss, sc_bb, sc_ni, sc_in, sc_is, sc_si, sc_nn, decide_true, decide_false, reduceCtorEq, Bool.false_eq_true, if_true, if_false, ite_true, ite_false, exists_const, eq_self, false_and, and_false, or_false, false_or, exists_false, Evl.rLenS, rSum, wipe, tYes, exists_eq, exists_eq', rIxL, rIxT, rIxS, exists_and_right, gt_iff_lt, not_true_eq_false, not_false_eq_true, Bool.not_true, Bool.not_false, decide_eq_true_eq, Nat.reduceSub, Nat.reduceAdd, List.append_assoc, tChain, tDIn, tDNotIn, sDDel, tAug, ipI]
    have kr : Kp [] H (upd H r (.lst [])) := Kp.new nr
    have hr0 : (upd H r (.lst [])) r = some (.lst []) := upd_same
    generalize upd H r (.lst []) = G at kr hr0 ⊢
    refine ⟨rfl, fun a ws H1 na ha hws k1 => ?_⟩
    have ar : r ≠ a := fun z => by rw [← z, hr0] at na; cases na
    refine forLC34 (fun i σ H' => UsIn K n r H i σ H' ∧ Kp [r] H1 H') (sq_l ha) ⟨⟨none, none, rfl, [], [], List.Sublist.slnil, k1 _ _ not0 hr0, .nil, kr.trans k1⟩, Kp.refl _ _⟩ (fun j σ H7 _ h => h.2.ls (by simpa using Ne.symm ar) (sq_l ha)) (fun j x σ H2 hx h => ?_) fun σ H2 h => ?_
    · obtain ⟨⟨c, d, rfl, hs⟩, kx⟩ := h
      have nS : NoTp H1 [r] := noTp1 (k1 _ _ not0 hr0)
      obtain ⟨dd, ed, hd⟩ := dpGet (dpAllT kx nS hws (noLsP _)) hx
      rw [List.getElem?_map] at ed
      obtain ⟨p, ep, rfl⟩ : ∃ p, pairsL[j]? = some p ∧ pD p = dd := by
        cases e : pairsL[j]? with
        | none => rw [e] at ed; cases ed
        | some p => rw [e] at ed; exact ⟨p, rfl, Option.some.inj ed⟩
      obtain ⟨t, rfl, ht⟩ := dpPair hd
      have go : ∀ (v : V) (H3 : Hp), Kp [] H2 H3 → (∃ acc, H3 r = some (.lst acc) ∧ acc.length + 1 ≤ sizeLine ∧ UsIn K n r H (j + 1) [some (.int n), some (.ref r), some (.ref t), some v] (upd H3 r (.lst (acc ++ [.ref t]))) ∧ Kp [r] H1 (upd H3 r (.lst (acc ++ [.ref t])))) ∧ (UsIn K n r H (j + 1) [some (.int n), some (.ref r), some (.ref t), some v] H3 ∧ Kp [r] H1 H3) := fun v H3 k3 => by
        obtain ⟨acc, e1, e2, e3⟩ := (hs.kp k3).put nr ep (dpN k3 noSq0 hd)
        exact ⟨⟨acc, e1, e2, ⟨_, _, rfl, e3⟩, (kx.trans k3.of0).put (by simp)⟩, ⟨_, _, rfl, (hs.kp k3).skip⟩, kx.trans k3.of0⟩
      have last : ∀ (b : Bool) (H3 : Hp), Kp [] H2 H3 → ∃ acc, H3 r = some (.lst acc) ∧ acc.length + 1 ≤ sizeLine ∧ UsIn K n r H (j + 1) [some (.int n), some (.ref r), some (.ref t), some (.bl b)] (upd H3 r (.lst (acc ++ [.ref t]))) ∧ Kp [r] H1 (upd H3 r (.lst (acc ++ [.ref t]))) := fun b H3 k3 => (go (.bl b) H3 k3).1
      try simp (maxSteps := 1000000) only [tSeq, tIfS, tTest, tOp, tUn, tCB, tCons, tNil, tVar, tC, rI0, rI, rU, rEq, rNe, tRet, tRetN, tAsg, gName, gSub, tBM, tBM0, tNext, tB, tNot, tAnd, tOr, tIf, tCall, tDrop, tBreak, tCont, L2.start, tDGet, sDPut, tTup, tLst, tDNewK, tRevL, rCat, rAppend, rPop, rSetL, tAndV, tOrV, tNotV, tSl, tPart, tNoPart, tM1, gTup, gCons, gNil, cxK, cxnK, List.map_cons, List.map_nil, List.length_cons, List.length_nil, List.replicate, List.cons_append, List.nil_append, List.append_nil, List.set_cons_zero, List.set_cons_succ, List.getElem?_cons_zero, List.getElem?_cons_succ, Option.some.injEq, V.ref.injEq, V.int.injEq, V.str.injEq, V.bl.injEq, V.ty.injEq, exists_eq_left', exists_eq_left, exists_and_left, List.cons.injEq, and_true, true_and, sc_ii, sc_ss, sc_bb, sc_ni, sc_in, sc_is, sc_si, sc_nn, decide_true, decide_false, reduceCtorEq, Bool.false_eq_true, if_true, if_false, ite_true, ite_false, exists_const, eq_self, false_and, and_false, or_false, false_or, exists_false, Evl.rLenS, rSum, wipe, tYes, exists_eq, exists_eq', rIxL, rIxT, rIxS, exists_and_right, gt_iff_lt, not_true_eq_false, not_false_eq_true, Bool.not_true, Bool.not_false, decide_eq_true_eq, Nat.reduceSub, Nat.reduceAdd, List.append_assoc, tChain, tDIn, tDNotIn, sDDel, tAug, ipI]
      refine ⟨_, ht, _, rfl, small (by decide), fun q1 nq1 => ⟨q1, _, rfl, .inr (sq_t upd_same), rfl, rfl, _, rfl, ?_⟩⟩
      have k3 : Kp [] H2 (upd H2 q1 (.tup [.str "write", .str "release"])) := Kp.new nq1
      generalize (upd H2 q1 (.tup [.str "write", .str "release"])) = H3 at k3 ⊢
      have ht3 := k3.tp not0 ht
      refine ite2 (fun hh => ?_) (fun hh => ?_)
      · refine ⟨_, ht3, _, rfl, small (by decide), fun q2 nq2 => ⟨q2, _, rfl, .inr (sq_t upd_same), rfl, rfl, ?_⟩⟩
        have k4 : Kp [] H2 (upd H3 q2 (.tup [.str "read", .str "acquire", .str "return"])) := k3.trans (Kp.new nq2)
        generalize (upd H3 q2 (.tup [.str "read", .str "acquire", .str "return"])) = H4 at k4 ⊢
        dsimp only
        generalize inV _ _ = b
        have ht9 := k4.tp not0 ht
        have app := (go (.bl b) H4 k4).1
        have skp := (go (.bl b) H4 k4).2
        obtain ⟨acc, a1, a2, a3⟩ := app
        refine ite2 (fun _ => ⟨.inl ⟨rfl, _, sq_l a1⟩, acc, a1, a2, a3⟩) (fun _ => ite2 (fun _ => ?_) (fun _ => ?_))
        · refine ⟨_, rfl, ?_⟩
          refine ite2 (fun _ => ⟨.inl ⟨rfl, _, sq_l a1⟩, acc, a1, a2, a3⟩) (fun _ => ?_)
          refine ite2 (fun _ => ?_) (fun _ => skp)
          refine ⟨_, ht9, _, rfl, rfl, ?_⟩
          refine ite2 (fun _ => ⟨.inl ⟨rfl, _, sq_l a1⟩, acc, a1, a2, a3⟩) (fun _ => ?_)
          refine ⟨_, ht9, _, rfl, rfl, ?_⟩
          exact ite2 (fun _ => ⟨.inl ⟨rfl, _, sq_l a1⟩, acc, a1, a2, a3⟩) (fun _ => skp)
        · refine ite2 (fun _ => ?_) (fun _ => skp)
          refine ⟨_, ht9, _, rfl, rfl, ?_⟩
          refine ite2 (fun _ => ⟨.inl ⟨rfl, _, sq_l a1⟩, acc, a1, a2, a3⟩) (fun _ => ?_)
          refine ⟨_, ht9, _, rfl, rfl, ?_⟩
          exact ite2 (fun _ => ⟨.inl ⟨rfl, _, sq_l a1⟩, acc, a1, a2, a3⟩) (fun _ => skp)
      · skip
        have ht9 := k3.tp not0 ht
        have app := (go (.bl false) H3 k3).1
        have skp := (go (.bl false) H3 k3).2
        obtain ⟨acc, a1, a2, a3⟩ := app
        refine ite2 (fun _ => ⟨.inl ⟨rfl, _, sq_l a1⟩, acc, a1, a2, a3⟩) (fun _ => ite2 (fun _ => ?_) (fun _ => ?_))
        · exact ⟨.inl ⟨rfl, _, sq_l a1⟩, acc, a1, a2, a3⟩
        · refine ite2 (fun _ => ?_) (fun _ => skp)
          refine ⟨_, ht9, _, rfl, rfl, ?_⟩
          refine ite2 (fun _ => ⟨.inl ⟨rfl, _, sq_l a1⟩, acc, a1, a2, a3⟩) (fun _ => ?_)
          refine ⟨_, ht9, _, rfl, rfl, ?_⟩
          exact ite2 (fun _ => ⟨.inl ⟨rfl, _, sq_l a1⟩, acc, a1, a2, a3⟩) (fun _ => skp)
    · obtain ⟨⟨c, d, rfl, hs⟩, kx⟩ := h
      try simp (maxSteps := 1000000) only [tSeq, tIfS, tTest, tOp, tUn, tCB, tCons, tNil, tVar, tC, rI0, rI, rU, rEq, rNe, tRet, tRetN, tAsg, gName, gSub, tBM, tBM0, tNext, tB, tNot, tAnd, tOr, tIf, tCall, tDrop, tBreak, tCont, L2.start, tDGet, sDPut, tTup, tLst, tDNewK, tRevL, rCat, rAppend, rPop, rSetL, tAndV, tOrV, tNotV, tSl, tPart, tNoPart, tM1, gTup, gCons, gNil, cxK, cxnK, List.map_cons, List.map_nil, List.length_cons, List.length_nil, List.replicate, List.cons_append, List.nil_append, List.append_nil, List.set_cons_zero, List.set_cons_succ, List.getElem?_cons_zero, List.getElem?_cons_succ, Option.some.injEq, V.ref.injEq, V.int.injEq, V.str.injEq, V.bl.injEq, V.ty.injEq, exists_eq_left', exists_eq_left, exists_and_left, List.cons.injEq, and_true, true_and, sc_ii, sc_ss, sc_bb, sc_ni, sc_in, sc_is, sc_si, sc_nn, decide_true, decide_false, reduceCtorEq, Bool.false_eq_true, if_true, if_false, ite_true, ite_false, exists_const, eq_self, false_and, and_false, or_false, false_or, exists_false, Evl.rLenS, rSum, wipe, tYes, exists_eq, exists_eq', rIxL, rIxT, rIxS, exists_and_right, gt_iff_lt, not_true_eq_false, not_false_eq_true, Bool.not_true, Bool.not_false, decide_eq_true_eq, Nat.reduceSub, Nat.reduceAdd, List.append_assoc, tChain, tDIn, tDNotIn, sDDel, tAug, ipI]
      obtain ⟨f, hf, k⟩ := hs.fin (by rw [dpLen hws, List.length_map]; exact Nat.le_refl _)
      exact q r f H2 nr hf k
end
end My

set_option Elab.async false
set_option linter.all false
set_option maxRecDepth 100000
set_option maxHeartbeats 4000000
namespace My
open PySem L2 NdefX
abbrev s_law_set : Stmt := top 23
theorem sc_law_set : FnScope ["_law_number", "_law_rows", "_law_way", "_law_spot", "_law_usual_here", "_law_pair", "_law_chosen", "_law_digit"] ["_law_number"] (defScope s_law_set) := ⟨rfl, rfl, rfl, by decide +kernel, rfl, by decide +kernel, by decide +kernel⟩
section
variable {P : Program} {w : World} {K : PySem.W.Frag} {mg : Str → Option Value} {base : Heap}
theorem lcSel {tt : TT} {σ : L2.St} {H : Hp} {Q : VK} {a : Addr} {ws : List V} (hσ : σ[1]? = some (some (.ref a))) (hj : 5 < σ.length) (ha : H a = some (.lst ws)) (hws : DpAll K H ws (pairsL.map pD))
    (ht : ∀ (p : Pr) (v : V) (H' : Hp) (R : Bool → Hp → Prop), p ∈ pairsL → Kp [] H H' → Dp K H' v (pD p) → (∀ b H2, Kp [] H' H2 → R b H2) → tt ((wipe σ [5]).set 5 (some v)) H' R)
    (q : ∀ (l : Addr) (f : Pr → Bool) (H' : Hp), H l = none → SelAt K H' l f → Kp [] H H' → Q (.ref l) H') : tLc (iList K (tVar 1)) (gName 5) tt (tVar 5) [5] σ H Q := by
  refine ⟨.ref a, hσ, a, rfl, ⟨_, sq_l ha⟩, fun D nD => lc_list (K := K) (a := a) (xs := ws) (fun i H' => SelIn K H D i H') ⟨[], [], List.Sublist.slnil, upd_same, .nil, Kp.new nD⟩ (fun i H' _ h => by obtain ⟨_, _, _, _, _, k⟩ := h; exact k.ls not0 (sq_l ha)) ?_ ?_⟩
  · rintro i x H2 hx hs
    have k2 : Kp [] H H2 := by obtain ⟨_, _, _, _, _, k⟩ := hs; exact k
    obtain ⟨dd, ed, hd⟩ := dpGet (dpAllN k2 noSq0 hws) hx
    rw [List.getElem?_map] at ed
    obtain ⟨p, ep, rfl⟩ : ∃ p, pairsL[i]? = some p ∧ pD p = dd := by
      cases e : pairsL[i]? with
      | none => rw [e] at ed; cases ed
      | some p => rw [e] at ed; exact ⟨p, rfl, Option.some.inj ed⟩
    refine ⟨by simp [wipe], ht p x H2 _ (List.mem_of_getElem? ep) k2 hd fun b H3 k3 => ?_⟩
    cases b with
    | false => exact (hs.kp k3).skip
    | true =>
      obtain ⟨acc, e1, e2, e3⟩ := (hs.kp k3).put nD ep (dpN k3 noSq0 hd)
      exact ⟨x, by simp [wipe, hj], acc, e1, e2, e3⟩
  · intro H2 hs
    obtain ⟨f, hf, k⟩ := hs.fin (by rw [dpLen hws, List.length_map]; exact Nat.le_refl _)
    exact q D f H2 nD hf k
theorem ok_law_set {f : Addr} {fd : FuncData} (D : Df K mg "_law_set" s_law_set ["_law_number"] f fd) (T : Bt0 mg) {fg : Addr} {fdg : FuncData} (D_law_pairs : Df K mg "_law_pairs" s_law_pairs [] fg fdg) (G_law_pairs : FnOk P w K mg base CX0 1 fg fdg [] (spPairs K)) {fu : Addr} {fdu : FuncData} (D_law_usual : Df K mg "_law_usual" s_law_usual ["_law_which"] fu fdu) (G_law_usual : FnOk P w K mg base CX0 2 fu fdu ["_law_which"] (spSel K)) : FnOk P w K mg base CX0 3 f fd ["_law_number"] (spSel K) := by
  refine D.F.ok sc_law_set (fun vs H Q E h => ?_) (fun cdv A outer s H vs Q E hr h => ?_)
  · obtain ⟨_, rfl, _⟩ := h
    rfl
  · obtain ⟨n, rfl, n0, q⟩ := h
    have hu := hu_of hr
    refine ⟨_, (pss_cons (ps_set (i := 1) sc_law_set.nd rfl (Or.inr rfl) (pe_call0 G_law_pairs (hr.mono (by decide)) rfl D_law_pairs.g D_law_pairs.F.kp D_law_pairs.b .nil pass0))
      (pss_cons (ps_set (i := 2) sc_law_set.nd rfl (Or.inl rfl) (pe_op op_mod (pe_callTy (T := "int") call_int1 (by rfl) T.b_int (by decide +kernel) (pa_cons (pv 0) pa_nil)) pe_int))
      (pss_cons (ps_set (i := 0) sc_law_set.nd rfl (Or.inr rfl) (pe_op op_fdiv (pv 0) pe_int))
      (pss_cons (ps_set (i := 3) sc_law_set.nd rfl (Or.inr rfl) (pe_ix (r := rIxL K) ix_list (pv 1) (pe_op op_mod (pe_callTy (T := "int") call_int1 (by rfl) T.b_int (by decide +kernel) (pa_cons (pe_op op_fdiv (pv 0) pe_int) pa_nil)) pe_int) (fun _ _ => rfl)))
      (pss_cons (ps_if (pt_cmpR op_eq (pv 2) pe_int (nomark _)) (pss_one (ps_ret (pe_call G_law_usual (hr.mono (by decide)) rfl D_law_usual.g D_law_usual.F.kp D_law_usual.b .nil pass0 (pa_cons (pe_op op_mod (pe_callTy (T := "int") call_int1 (by rfl) T.b_int (by decide +kernel) (pa_cons (pv 0) pa_nil)) pe_int) pa_nil)))) pss_nil)
      (pss_cons (ps_if (pt_cmpR op_eq (pv 2) pe_int (nomark _)) (pss_cons (ps_set (i := 4) sc_law_set.nd rfl (Or.inr rfl) (pe_call G_law_usual (hr.mono (by decide)) rfl D_law_usual.g D_law_usual.F.kp D_law_usual.b .nil pass0 (pa_cons (pe_op op_mod (pe_callTy (T := "int") call_int1 (by rfl) T.b_int (by decide +kernel) (pa_cons (pv 0) pa_nil)) pe_int) pa_nil)))
      (pss_one (ps_ret (pe_lc (own := [("_law_pair", 5)]) (g := (gName 5)) rfl sc_law_set.nd (pi_list (pv 1)) (blkOk_by (N := ["_law_number", "_law_rows", "_law_way", "_law_spot", "_law_usual_here", "_law_pair", "_law_chosen", "_law_digit"]) (sc := defScope s_law_set) (by decide +kernel)) (fun _ _ _ _ _ => (pg_name (i := 5) sc_law_set.nd rfl (Or.inl rfl))) (fun _ _ _ _ _ => (pts_one (pt_cmpR op_ne (pe_cmpR (r := rInD K) (op_inD (hu5 hr)) (pv 5) (pv 4) (by rfl)) (pe_cmpR (r := rEqD K) (op_eqD hr.units) (pv 5) (pv 3) (nomark _)) (nomark _)))) (fun _ _ _ _ _ => (pv 5)))))) pss_nil)
      (pss_cons (ps_if (pt_cmpR op_eq (pv 2) pe_int (nomark _)) (pss_one (ps_ret (pe_lc (own := [("_law_pair", 5)]) (g := (gName 5)) rfl sc_law_set.nd (pi_list (pv 1)) (blkOk_by (N := ["_law_number", "_law_rows", "_law_way", "_law_spot", "_law_usual_here", "_law_pair", "_law_chosen", "_law_digit"]) (sc := defScope s_law_set) (by decide +kernel)) (fun _ _ _ _ _ => (pg_name (i := 5) sc_law_set.nd rfl (Or.inl rfl))) (fun _ _ _ _ _ => (pts_one (PW.pt (pw_and (pt_cmpR (r := rEqD K) (op_eqD hr.units) (pv 5) (pv 3) (nomark _)) (pw_and1 (pt_cmpR op_gt (pe_op op_mod (pe_callTy (T := "int") call_int1 (by rfl) T.b_int (by decide +kernel) (pa_cons (pv 0) pa_nil)) pe_int) pe_int (nomark _))))))) (fun _ _ _ _ _ => (pv 5))))) pss_nil)
      (pss_cons (ps_if (pt_cmpR op_eq (pv 2) pe_int (nomark _)) (pss_one (ps_ret (pe_lc (own := [("_law_pair", 5)]) (g := (gName 5)) rfl sc_law_set.nd (pi_list (pv 1)) (blkOk_by (N := ["_law_number", "_law_rows", "_law_way", "_law_spot", "_law_usual_here", "_law_pair", "_law_chosen", "_law_digit"]) (sc := defScope s_law_set) (by decide +kernel)) (fun _ _ _ _ _ => (pg_name (i := 5) sc_law_set.nd rfl (Or.inl rfl))) (fun _ _ _ _ _ => (pts_one (PW.pt (pw_and (pt_cmpR (r := rNeD K) (op_neD hr.units) (pv 5) (pv 3) (nomark _)) (pw_and1 (pt_cmpR (r := rNeD K) (op_neD hr.units) (pv 5) (pe_ix (r := rIxL K) ix_list (pv 1) (pe_op op_mod (pe_callTy (T := "int") call_int1 (by rfl) T.b_int (by decide +kernel) (pa_cons (pe_op op_fdiv (pv 0) pe_int) pa_nil)) pe_int) (fun _ _ => rfl)) (nomark _))))))) (fun _ _ _ _ _ => (pv 5))))) pss_nil)
      (pss_cons (ps_set (i := 6) sc_law_set.nd rfl (Or.inl rfl) (pe_lst pa_nil))
      (pss_cons (ps_for PassesOwn.never rfl (pi_list (pv 1)) (pg_name (i := 5) sc_law_set.nd rfl (Or.inl rfl)) (pss_cons (ps_set (i := 7) sc_law_set.nd rfl (Or.inl rfl) (pe_op op_mod (pe_callTy (T := "int") call_int1 (by rfl) T.b_int (by decide +kernel) (pa_cons (pv 0) pa_nil)) pe_int))
      (pss_cons (ps_set (i := 0) sc_law_set.nd rfl (Or.inr rfl) (pe_op op_fdiv (pv 0) pe_int))
      (pss_one (ps_if (PW.pt (pw_or (PW.pt (pw_and (pt_cmpR op_eq (pv 2) pe_int (nomark _)) (pw_and1 (pt_cmpR op_eq (pv 7) pe_int (nomark _))))) (pw_or (PW.pt (pw_and (pt_cmpR op_eq (pv 2) pe_int (nomark _)) (pw_and1 (pt_cmpR op_gt (pv 7) pe_int (nomark _))))) (pw_or1 (PW.pt (pw_and (pt_cmpR op_in_seq (pv 2) (pe_tup (pa_cons pe_int (pa_cons pe_int pa_nil))) (by rfl)) (pw_and1 (pt_cmpR op_in_seq (pv 7) (pe_tup (pa_cons pe_int (pa_cons pe_int pa_nil))) (by rfl))))))))) (pss_one (ps_expr (pe_bm PySem.F.plainAttrs_list PySem.F.slot_list_append PySem.F.type_list_append mt_append (pv 6) (pa_cons (pv 5) pa_nil)))) pss_nil)))))
      (pss_one (ps_ret (pv 6))))))))))))), ?_⟩
    try simp (maxSteps := 1000000) only [tSeq, tIfS, tTest, tOp, tUn, tCB, tCons, tNil, tVar, tC, rI0, rI, rU, rEq, rNe, tRet, tRetN, tAsg, gName, gSub, tBM, tBM0, tNext, tB, tNot, tAnd, tOr, tIf, tCall, tDrop, tBreak, tCont, L2.start, tDGet, sDPut, tTup, tLst, tDNewK, tRevL, rCat, rAppend, rPop, rSetL, tAndV, tOrV, tNotV, tSl, tPart, tNoPart, tM1, gTup, gCons, gNil, cxK, cxnK, List.map_cons, List.map_nil, List.length_cons, List.length_nil, List.replicate, List.cons_append, List.nil_append, List.append_nil, List.set_cons_zero, List.set_cons_succ, List.getElem?_cons_zero, List.getElem?_cons_succ, Option.some.injEq, V.ref.injEq, V.int.injEq, V.str.injEq, V.bl.injEq, V.ty.injEq, exists_eq_left', exists_eq_left, exists_and_left, List.cons.injEq, and_true, true_and, sc_ii, sc_ss, sc_bb, sc_ni, sc_in, sc_is, sc_si, sc_nn, decide_true, decide_false, reduceCtorEq, Bool.false_eq_true, if_true, if_false, ite_true, ite_false, exists_const, eq_self, false_and, and_false, or_false, false_or, exists_false, Evl.rLenS, rSum, wipe, tYes, exists_eq, exists_eq', rIxL, rIxT, rIxS, exists_and_right, gt_iff_lt, not_true_eq_false, not_false_eq_true, Bool.not_true, Bool.not_false, decide_eq_true_eq, Nat.reduceSub, Nat.reduceAdd, List.append_assoc, tChain, tDIn, tDNotIn, sDDel, tAug, ipI]
    refine ⟨rfl, fun a ws H1 na ha hws k1 => ?_⟩
    try simp (maxSteps := 1000000) only [tSeq, tIfS, tTest, tOp, tUn, tCB, tCons, tNil, tVar, tC, rI0, rI, rU, rEq, rNe, tRet, tRetN, tAsg, gName, gSub, tBM, tBM0, tNext, tB, tNot, tAnd, tOr, tIf, tCall, tDrop, tBreak, tCont, L2.start, tDGet, sDPut, tTup, tLst, tDNewK, tRevL, rCat, rAppend, rPop, rSetL, tAndV, tOrV, tNotV, tSl, tPart, tNoPart, tM1, gTup, gCons, gNil, cxK, cxnK, List.map_cons, List.map_nil, List.length_cons, List.length_nil, List.replicate, List.cons_append, List.nil_append, List.append_nil, List.set_cons_zero, List.set_cons_succ, List.getElem?_cons_zero, List.getElem?_cons_succ, Option.some.injEq, V.ref.injEq, V.int.injEq, V.str.injEq, V.bl.injEq, V.ty.injEq, exists_eq_left', exists_eq_left, exists_and_left, List.cons.injEq, and_true, true_and, sc_ii, sc_ss, sc_bb, sc_ni, sc_in, sc_is, sc_si, sc_nn, decide_true, decide_false, reduceCtorEq, Bool.false_eq_true, if_true, if_false, ite_true, ite_false, exists_const, eq_self, false_and, and_false, or_false, false_or, exists_false, Evl.rLenS, rSum, wipe, tYes, exists_eq, exists_eq', rIxL, rIxT, rIxS, exists_and_right, gt_iff_lt, not_true_eq_false, not_false_eq_true, Bool.not_true, Bool.not_false, decide_eq_true_eq, Nat.reduceSub, Nat.reduceAdd, List.append_assoc, tChain, tDIn, tDNotIn, sDDel, tAug, ipI]
    have at27 : ∀ e : Int, 0 ≤ e → e < 27 → ∃ v p, atI ws e = some v ∧ p ∈ pairsL ∧ ∀ {H' : Hp}, Kp [] H1 H' → Dp K H' v (pD p) := fun e e0 e1 => by
      obtain ⟨m, rfl⟩ : ∃ m : Nat, e = m := ⟨e.toNat, by omega⟩
      have ml : m < ws.length := by rw [dpLen hws, List.length_map, pairs_len]; omega
      obtain ⟨dd, ed, hd⟩ := dpGet hws (List.getElem?_eq_getElem ml)
      obtain ⟨p, hp, rfl⟩ := List.mem_map.mp (List.mem_of_getElem? ed)
      exact ⟨_, p, atI_nat (List.getElem?_eq_getElem ml), hp, fun k => dpN k noSq0 hd⟩
    obtain ⟨v, p0, ev, hp0, hv⟩ := at27 ((n / 8 / 3) % 27) (Int.emod_nonneg _ (by decide)) (Int.emod_lt_of_pos _ (by decide))
    refine ⟨by decide, ⟨by decide, by decide⟩, ⟨by decide, by decide⟩, by decide, ws, sq_l ha, v, ev, ?_⟩
    have q1 : ∀ (l : Addr) (f : Pr → Bool) (H' : Hp), H1 l = none → SelAt K H' l f → Kp [] H1 H' → Q (.ref l) H' := fun l f H' nl hf k => q l f H' (k1.free0 nl) hf (k1.trans k)
    refine ite2 (fun h => ?_) (fun h => ite2 (fun h => ?_) (fun h => ite2 (fun h => ?_) (fun h => ite2 (fun h => ?_) (fun h => ?_))))
    · exact ⟨by decide, _, rfl, Int.emod_nonneg _ (by decide), q1⟩
    · refine ⟨by decide, _, rfl, Int.emod_nonneg _ (by decide), fun u fu H2 nu hu2 k2 => ?_⟩
      obtain ⟨us, hu3, hD3⟩ := hu2
      refine lcSel rfl (by simp) (k2 _ _ not0 ha) (dpAllN k2 noSq0 hws) (fun p x H3 R hp k3 hx fin => ?_) fun l f H' nl hf k => q1 l f H' (k2.free0 nl) hf (k2.trans k)
      try simp (maxSteps := 1000000) only [tSeq, tIfS, tTest, tOp, tUn, tCB, tCons, tNil, tVar, tC, rI0, rI, rU, rEq, rNe, tRet, tRetN, tAsg, gName, gSub, tBM, tBM0, tNext, tB, tNot, tAnd, tOr, tIf, tCall, tDrop, tBreak, tCont, L2.start, tDGet, sDPut, tTup, tLst, tDNewK, tRevL, rCat, rAppend, rPop, rSetL, tAndV, tOrV, tNotV, tSl, tPart, tNoPart, tM1, gTup, gCons, gNil, cxK, cxnK, List.map_cons, List.map_nil, List.length_cons, List.length_nil, List.replicate, List.cons_append, List.nil_append, List.append_nil, List.set_cons_zero, List.set_cons_succ, List.getElem?_cons_zero, List.getElem?_cons_succ, Option.some.injEq, V.ref.injEq, V.int.injEq, V.str.injEq, V.bl.injEq, V.ty.injEq, exists_eq_left', exists_eq_left, exists_and_left, List.cons.injEq, and_true, true_and, sc_ii, sc_ss, sc_bb, sc_ni, sc_in, sc_is, sc_si, sc_nn, decide_true, decide_false, reduceCtorEq, Bool.false_eq_true, if_true, if_false, ite_true, ite_false, exists_const, eq_self, false_and, and_false, or_false, false_or, exists_false, Evl.rLenS, rSum, wipe, tYes, exists_eq, exists_eq', rIxL, rIxT, rIxS, exists_and_right, gt_iff_lt, not_true_eq_false, not_false_eq_true, Bool.not_true, Bool.not_false, decide_eq_true_eq, Nat.reduceSub, Nat.reduceAdd, List.append_assoc, tChain, tDIn, tDNotIn, sDDel, tAug, ipI]
      refine ⟨pD p, _, hx, .lst (sq_l (k3 _ _ not0 hu3)) (dpAllN k3 noSq0 hD3), okP hp, (shapedL (fitsP (subP fu))).1, ?_⟩
      refine ⟨pD p, pD p0, hx, hv (k2.trans k3), okP hp, okP hp0, rfl, fin _ _ (Kp.refl _ _)⟩
    · refine lcSel rfl (by simp) ha hws (fun p x H3 R hp k3 hx fin => ?_) q1
      try simp (maxSteps := 1000000) only [tSeq, tIfS, tTest, tOp, tUn, tCB, tCons, tNil, tVar, tC, rI0, rI, rU, rEq, rNe, tRet, tRetN, tAsg, gName, gSub, tBM, tBM0, tNext, tB, tNot, tAnd, tOr, tIf, tCall, tDrop, tBreak, tCont, L2.start, tDGet, sDPut, tTup, tLst, tDNewK, tRevL, rCat, rAppend, rPop, rSetL, tAndV, tOrV, tNotV, tSl, tPart, tNoPart, tM1, gTup, gCons, gNil, cxK, cxnK, List.map_cons, List.map_nil, List.length_cons, List.length_nil, List.replicate, List.cons_append, List.nil_append, List.append_nil, List.set_cons_zero, List.set_cons_succ, List.getElem?_cons_zero, List.getElem?_cons_succ, Option.some.injEq, V.ref.injEq, V.int.injEq, V.str.injEq, V.bl.injEq, V.ty.injEq, exists_eq_left', exists_eq_left, exists_and_left, List.cons.injEq, and_true, true_and, sc_ii, sc_ss, sc_bb, sc_ni, sc_in, sc_is, sc_si, sc_nn, decide_true, decide_false, reduceCtorEq, Bool.false_eq_true, if_true, if_false, ite_true, ite_false, exists_const, eq_self, false_and, and_false, or_false, false_or, exists_false, Evl.rLenS, rSum, wipe, tYes, exists_eq, exists_eq', rIxL, rIxT, rIxS, exists_and_right, gt_iff_lt, not_true_eq_false, not_false_eq_true, Bool.not_true, Bool.not_false, decide_eq_true_eq, Nat.reduceSub, Nat.reduceAdd, List.append_assoc, tChain, tDIn, tDNotIn, sDDel, tAug, ipI]
      refine ⟨pD p, pD p0, hx, hv k3, okP hp, okP hp0, _, rfl, ?_⟩
      exact ite2 (fun _ => ⟨by decide, fin _ _ (Kp.refl _ _)⟩) (fun _ => fin _ _ (Kp.refl _ _))
    · refine lcSel rfl (by simp) ha hws (fun p x H3 R hp k3 hx fin => ?_) q1
      try simp (maxSteps := 1000000) only [tSeq, tIfS, tTest, tOp, tUn, tCB, tCons, tNil, tVar, tC, rI0, rI, rU, rEq, rNe, tRet, tRetN, tAsg, gName, gSub, tBM, tBM0, tNext, tB, tNot, tAnd, tOr, tIf, tCall, tDrop, tBreak, tCont, L2.start, tDGet, sDPut, tTup, tLst, tDNewK, tRevL, rCat, rAppend, rPop, rSetL, tAndV, tOrV, tNotV, tSl, tPart, tNoPart, tM1, gTup, gCons, gNil, cxK, cxnK, List.map_cons, List.map_nil, List.length_cons, List.length_nil, List.replicate, List.cons_append, List.nil_append, List.append_nil, List.set_cons_zero, List.set_cons_succ, List.getElem?_cons_zero, List.getElem?_cons_succ, Option.some.injEq, V.ref.injEq, V.int.injEq, V.str.injEq, V.bl.injEq, V.ty.injEq, exists_eq_left', exists_eq_left, exists_and_left, List.cons.injEq, and_true, true_and, sc_ii, sc_ss, sc_bb, sc_ni, sc_in, sc_is, sc_si, sc_nn, decide_true, decide_false, reduceCtorEq, Bool.false_eq_true, if_true, if_false, ite_true, ite_false, exists_const, eq_self, false_and, and_false, or_false, false_or, exists_false, Evl.rLenS, rSum, wipe, tYes, exists_eq, exists_eq', rIxL, rIxT, rIxS, exists_and_right, gt_iff_lt, not_true_eq_false, not_false_eq_true, Bool.not_true, Bool.not_false, decide_eq_true_eq, Nat.reduceSub, Nat.reduceAdd, List.append_assoc, tChain, tDIn, tDNotIn, sDDel, tAug, ipI]
      refine ⟨pD p, pD p0, hx, hv k3, okP hp, okP hp0, _, rfl, ?_⟩
      refine ite2 (fun _ => ?_) (fun _ => fin _ _ (Kp.refl _ _))
      obtain ⟨v2, p2, ev2, hp2, hv2⟩ := at27 ((n / 8 / 81) % 27) (Int.emod_nonneg _ (by decide)) (Int.emod_lt_of_pos _ (by decide))
      exact ⟨⟨by decide, by decide⟩, by decide, ws, sq_l (k3 _ _ not0 ha), v2, ev2, pD p, pD p2, hx, hv2 k3, okP hp, okP hp2, _, rfl, fin _ _ (Kp.refl _ _)⟩
    · refine ⟨small (by decide), fun r nr => forL_src34 ?_⟩
      have kr : Kp [] H1 (upd H1 r (.lst [])) := Kp.new nr
      have h0 : SelIn K H1 r 0 (upd H1 r (.lst [])) := ⟨[], [], List.Sublist.slnil, upd_same, .nil, kr⟩
      try simp (maxSteps := 1000000) only [tSeq, tIfS, tTest, tOp, tUn, tCB, tCons, tNil, tVar, tC, rI0, rI, rU, rEq, rNe, tRet, tRetN, tAsg, gName, gSub, tBM, tBM0, tNext, tB, tNot, tAnd, tOr, tIf, tCall, tDrop, tBreak, tCont, L2.start, tDGet, sDPut, tTup, tLst, tDNewK, tRevL, rCat, rAppend, rPop, rSetL, tAndV, tOrV, tNotV, tSl, tPart, tNoPart, tM1, gTup, gCons, gNil, cxK, cxnK, List.map_cons, List.map_nil, List.length_cons, List.length_nil, List.replicate, List.cons_append, List.nil_append, List.append_nil, List.set_cons_zero, List.set_cons_succ, List.getElem?_cons_zero, List.getElem?_cons_succ, Option.some.injEq, V.ref.injEq, V.int.injEq, V.str.injEq, V.bl.injEq, V.ty.injEq, exists_eq_left', exists_eq_left, exists_and_left, List.cons.injEq, and_true, true_and, sc_ii, sc_ss, sc_bb, sc_ni, sc_in, sc_is, sc_si, sc_nn, decide_true, decide_false, reduceCtorEq, Bool.false_eq_true, if_true, if_false, ite_true, ite_false, exists_const, eq_self, false_and, and_false, or_false, false_or, exists_false, Evl.rLenS, rSum, wipe, tYes, exists_eq, exists_eq', rIxL, rIxT, rIxS, exists_and_right, gt_iff_lt, not_true_eq_false, not_false_eq_true, Bool.not_true, Bool.not_false, decide_eq_true_eq, Nat.reduceSub, Nat.reduceAdd, List.append_assoc, tChain, tDIn, tDNotIn, sDDel, tAug, ipI]
      refine forLC34 (fun i σ H' => (∃ (m : Int) (c d : Option V), σ = [some (.int m), some (.ref a), some (.int (n % 8)), some v, none, c, some (.ref r), d]) ∧ SelIn K H1 r i H') (sq_l (kr _ _ not0 ha)) ⟨⟨_, _, _, rfl⟩, h0⟩ (fun j σ H7 _ h => by obtain ⟨_, _, _, _, _, _, k⟩ := h; exact k.ls not0 (sq_l ha)) (fun j x σ H2 hx h => ?_) fun σ H2 h => ?_
      · obtain ⟨⟨m, c, d, rfl⟩, hs⟩ := h
        have k2 : Kp [] H1 H2 := by obtain ⟨_, _, _, _, _, k⟩ := hs; exact k
        obtain ⟨dd, ed, hd⟩ := dpGet (dpAllN k2 noSq0 hws) hx
        rw [List.getElem?_map] at ed
        obtain ⟨p, ep, rfl⟩ : ∃ p, pairsL[j]? = some p ∧ pD p = dd := by
          cases e : pairsL[j]? with
          | none => rw [e] at ed; cases ed
          | some p => rw [e] at ed; exact ⟨p, rfl, Option.some.inj ed⟩
        have app : ∀ H', Kp [] H2 H' → tyV K "list" (V.ref r) H' ∧ ∃ y, H' r = some (.lst y) ∧ y.length < sizeLine ∧ SelIn K H1 r (j + 1) (upd H' r (.lst (y ++ [x]))) := fun H' k => by
          obtain ⟨acc, e1, e2, e3⟩ := (hs.kp k).put nr ep (dpN k noSq0 hd)
          exact ⟨.inl ⟨rfl, _, sq_l e1⟩, acc, e1, e2, e3⟩
        have skp : ∀ H', Kp [] H2 H' → SelIn K H1 r (j + 1) H' := fun H' k => (hs.kp k).skip
        clear hs
        try simp (maxSteps := 1000000) only [tSeq, tIfS, tTest, tOp, tUn, tCB, tCons, tNil, tVar, tC, rI0, rI, rU, rEq, rNe, tRet, tRetN, tAsg, gName, gSub, tBM, tBM0, tNext, tB, tNot, tAnd, tOr, tIf, tCall, tDrop, tBreak, tCont, L2.start, tDGet, sDPut, tTup, tLst, tDNewK, tRevL, rCat, rAppend, rPop, rSetL, tAndV, tOrV, tNotV, tSl, tPart, tNoPart, tM1, gTup, gCons, gNil, cxK, cxnK, List.map_cons, List.map_nil, List.length_cons, List.length_nil, List.replicate, List.cons_append, List.nil_append, List.append_nil, List.set_cons_zero, List.set_cons_succ, List.getElem?_cons_zero, List.getElem?_cons_succ, Option.some.injEq, V.ref.injEq, V.int.injEq, V.str.injEq, V.bl.injEq, V.ty.injEq, exists_eq_left', exists_eq_left, exists_and_left, List.cons.injEq, and_true, true_and, sc_ii, sc_ss, sc_bb, sc_ni, sc_in, sc_is, sc_si, sc_nn, decide_true, decide_false, reduceCtorEq, Bool.false_eq_true, if_true, if_false, ite_true, ite_false, exists_const, eq_self, false_and, and_false, or_false, false_or, exists_false, Evl.rLenS, rSum, wipe, tYes, exists_eq, exists_eq', rIxL, rIxT, rIxS, exists_and_right, gt_iff_lt, not_true_eq_false, not_false_eq_true, Bool.not_true, Bool.not_false, decide_eq_true_eq, Nat.reduceSub, Nat.reduceAdd, List.append_assoc, tChain, tDIn, tDNotIn, sDDel, tAug, ipI]
        refine ⟨by decide, ⟨by decide, by decide⟩, ?_⟩
        refine ite2 (fun _ => ite2 (fun _ => app _ (Kp.refl _ _)) (fun _ => ite2 (fun _ => ite2 (fun _ => app _ (Kp.refl _ _)) (fun _ => ?_)) (fun _ => ?_))) (fun _ => ite2 (fun _ => ite2 (fun _ => app _ (Kp.refl _ _)) (fun _ => ?_)) (fun _ => ?_))
        all_goals
          refine ⟨small (by decide), fun q1 nq1 => ?_⟩
          refine ⟨q1, _, rfl, .inr (sq_t upd_same), rfl, rfl, _, rfl, ?_⟩
          refine ite2 (fun _ => ?_) (fun _ => skp _ (Kp.new nq1))
          refine ⟨small (by decide), fun q2 nq2 => ?_⟩
          refine ⟨q2, _, rfl, .inr (sq_t upd_same), rfl, rfl, _, rfl, ?_⟩
          exact ite2 (fun _ => app _ ((Kp.new nq1).trans (Kp.new nq2))) (fun _ => skp _ ((Kp.new nq1).trans (Kp.new nq2)))
      · obtain ⟨⟨m, c, d, rfl⟩, hs⟩ := h
        try simp (maxSteps := 1000000) only [tSeq, tIfS, tTest, tOp, tUn, tCB, tCons, tNil, tVar, tC, rI0, rI, rU, rEq, rNe, tRet, tRetN, tAsg, gName, gSub, tBM, tBM0, tNext, tB, tNot, tAnd, tOr, tIf, tCall, tDrop, tBreak, tCont, L2.start, tDGet, sDPut, tTup, tLst, tDNewK, tRevL, rCat, rAppend, rPop, rSetL, tAndV, tOrV, tNotV, tSl, tPart, tNoPart, tM1, gTup, gCons, gNil, cxK, cxnK, List.map_cons, List.map_nil, List.length_cons, List.length_nil, List.replicate, List.cons_append, List.nil_append, List.append_nil, List.set_cons_zero, List.set_cons_succ, List.getElem?_cons_zero, List.getElem?_cons_succ, Option.some.injEq, V.ref.injEq, V.int.injEq, V.str.injEq, V.bl.injEq, V.ty.injEq, exists_eq_left', exists_eq_left, exists_and_left, List.cons.injEq, and_true, true_and, sc_ii, sc_ss, sc_bb, sc_ni, sc_in, sc_is, sc_si, sc_nn, decide_true, decide_false, reduceCtorEq, Bool.false_eq_true, if_true, if_false, ite_true, ite_false, exists_const, eq_self, false_and, and_false, or_false, false_or, exists_false, Evl.rLenS, rSum, wipe, tYes, exists_eq, exists_eq', rIxL, rIxT, rIxS, exists_and_right, gt_iff_lt, not_true_eq_false, not_false_eq_true, Bool.not_true, Bool.not_false, decide_eq_true_eq, Nat.reduceSub, Nat.reduceAdd, List.append_assoc, tChain, tDIn, tDNotIn, sDDel, tAug, ipI]
        obtain ⟨f, hf, k⟩ := hs.fin (by rw [dpLen hws, List.length_map]; exact Nat.le_refl _)
        exact q1 r f H2 nr hf k
end
end My

set_option Elab.async false
set_option linter.all false
set_option maxRecDepth 100000
set_option maxHeartbeats 4000000
namespace My
open PySem L2 NdefX
abbrev s_law_row : Stmt := top 26
theorem sc_law_row : FnScope ["_law_number", "_law_names", "_law_chosen", "_law_many", "_law_k"] ["_law_number", "_law_names"] (defScope s_law_row) := ⟨rfl, rfl, rfl, by decide +kernel, rfl, by decide +kernel, by decide +kernel⟩
theorem forRg34 {ta : TA} {g : TG} {tb : TS} {D : Ends} {σ : L2.St} {H : Hp} (m : Int) (Pv : Nat → L2.St → Hp → Prop) (ht : ∀ R : List V → Hp → Prop, R [.int m] H → ta σ H R) (h1 : -(2 ^ 62) ≤ m) (h2 : m < 2 ^ 62) (h0 : Pv 0 σ H)
    (step : ∀ j σ H, j < m.toNat → Pv j σ H → g (.int (0 + j)) σ H fun σ2 H2 => tb { D with nx := Pv (j + 1), ct := Pv (j + 1), bk := D.nx } σ2 H2) (fin : ∀ σ H, Pv m.toNat σ H → D.nx σ H) : tFor (iRng1 ta) g tb D σ H :=
  ht _ ⟨m, rfl, h1, h2, for_range Pv h0 step fin⟩
/-- .. by a count -/
theorem forN34 {ta : TA} {g : TG} {tb : TS} {D : Ends} {σ : L2.St} {H : Hp} (m : Nat) (hm : m ≤ 100000) (Pv : Nat → L2.St → Hp → Prop) (ht : ∀ R : List V → Hp → Prop, R [.int (m : Nat)] H → ta σ H R) (h0 : Pv 0 σ H)
    (step : ∀ j σ H, j < m → Pv j σ H → g (.int (j : Nat)) σ H fun σ2 H2 => tb { D with nx := Pv (j + 1), ct := Pv (j + 1), bk := D.nx } σ2 H2) (fin : ∀ σ H, Pv m σ H → D.nx σ H) : tFor (iRng1 ta) g tb D σ H :=
  forRg34 (m : Nat) Pv ht (by omega) (by omega) h0 (fun j σ H hj p => by rw [Int.zero_add]; exact step j σ H (by omega) p) fun σ H p => fin σ H (by rw [Int.toNat_natCast] at p; exact p)
section
variable {P : Program} {w : World} {K : PySem.W.Frag} {mg : Str → Option Value} {base : Heap}
def spRowN (K : PySem.W.Frag) : Sp := fun vs H Q _ => ∃ (n : Int) (a : Addr) (zs : List Str), vs = [.int n, .ref a] ∧ SqL K H a (zs.map V.str) ∧ 1 ≤ zs.length ∧ zs.length ≤ 1000 ∧ ∀ (t : Addr) (ys : List Str) (H' : Hp), H t = none → H' t = some (.tup (ys.map V.str)) → (∀ y ∈ ys, y ∈ zs) → ys.length ≤ 7 → Kp [] H H' → Q (.ref t) H'
def RoIn (a r : Addr) (zs : List Str) (mm : Int) (H : Hp) (i : Nat) (σ : L2.St) (H' : Hp) : Prop := ∃ (m : Int) (c : Option V) (ys : List Str), σ = [some (.int m), some (.ref a), some (.ref r), some (.int mm), c] ∧ H' r = some (.lst (ys.map V.str)) ∧ (∀ y ∈ ys, y ∈ zs) ∧ ys.length = i ∧ Kp [] H H'
theorem ok_law_row {f : Addr} {fd : FuncData} (D : Df K mg "_law_row" s_law_row ["_law_number", "_law_names"] f fd) (T : Bt0 mg) : FnOk P w K mg base CX0 1 f fd ["_law_number", "_law_names"] (spRowN K) := by
  refine D.F.ok sc_law_row (fun vs H Q E h => ?_) (fun cdv A outer s H vs Q E hr h => ?_)
  · obtain ⟨_, _, _, rfl, _⟩ := h
    rfl
  · obtain ⟨n, a, zs, rfl, hS, z1, z2, q⟩ := h
    refine ⟨_, (pss_cons (ps_set (i := 2) sc_law_row.nd rfl (Or.inl rfl) (pe_lst pa_nil))
      (pss_cons (ps_set (i := 3) sc_law_row.nd rfl (Or.inl rfl) (pe_op op_mod (pe_callTy (T := "int") call_int1 (by rfl) T.b_int (by decide +kernel) (pa_cons (pv 0) pa_nil)) pe_int))
      (pss_cons (ps_set (i := 0) sc_law_row.nd rfl (Or.inl rfl) (pe_op op_fdiv (pv 0) pe_int))
      (pss_cons (ps_for PassesOwn.never rfl (pi_range1 rfl T.b_range (pa_cons (pv 3) pa_nil)) (pg_name (i := 4) sc_law_row.nd rfl (Or.inl rfl)) (pss_cons (ps_expr (pe_bm PySem.F.plainAttrs_list PySem.F.slot_list_append PySem.F.type_list_append mt_append (pv 2) (pa_cons (pe_ix (r := rIxL K) ix_list (pv 1) (pe_op op_mod (pe_callTy (T := "int") call_int1 (by rfl) T.b_int (by decide +kernel) (pa_cons (pv 0) pa_nil)) (pe_callB (id := "len") (r := Evl.rLenS K) call_len_seq (by rfl) T.b_len PySem.boot_len (pa_cons (pv 1) pa_nil))) (fun _ _ => rfl)) pa_nil)))
      (pss_one (ps_set (i := 0) sc_law_row.nd rfl (Or.inl rfl) (pe_op op_fdiv (pv 0) (pe_callB (id := "len") (r := Evl.rLenS K) call_len_seq (by rfl) T.b_len PySem.boot_len (pa_cons (pv 1) pa_nil)))))))
      (pss_one (ps_ret (pe_callTy call_tuple_of (by rfl) T.b_tuple (by decide +kernel) (pa_cons (pv 2) pa_nil)))))))), ?_⟩
    obtain ⟨mm, em⟩ : ∃ m : Nat, n % 8 = m := ⟨(n % 8).toNat, by have := Int.emod_nonneg n (show (8 : Int) ≠ 0 by decide); omega⟩
    have mm7 : mm ≤ 7 := by have := Int.emod_lt_of_pos n (show (0 : Int) < 8 by decide); omega
    try simp (maxSteps := 1000000) only [tSeq, tIfS, tTest, tOp, tUn, tCB, tCons, tNil, tVar, tC, rI0, rI, rU, rEq, rNe, tRet, tRetN, tAsg, gName, gSub, tBM, tBM0, tNext, tB, tNot, tAnd, tOr, tIf, tCall, tDrop, tBreak, tCont, L2.start, tDGet, sDPut, tTup, tLst, tDNewK, tRevL, rCat, rAppend, rPop, rSetL, tAndV, tOrV, tNotV, tSl, tPart, tNoPart, tM1, gTup, gCons, gNil, cxK, cxnK, List.map_cons, List.map_nil, List.length_cons, List.length_nil, List.replicate, List.cons_append, List.nil_append, List.append_nil, List.set_cons_zero, List.set_cons_succ, List.getElem?_cons_zero, List.getElem?_cons_succ, Option.some.injEq, V.ref.injEq, V.int.injEq, V.str.injEq, V.bl.injEq, V.ty.injEq, exists_eq_left', exists_eq_left, exists_and_left, List.cons.injEq, and_true, true_and, sc_ii, sc_ss, sc_bb, sc_ni, sc_in, sc_is, sc_si, sc_nn, decide_true, decide_false, reduceCtorEq, Bool.false_eq_true, if_true, if_false, ite_true, ite_false, exists_const, eq_self, false_and, and_false, or_false, false_or, exists_false, Evl.rLenS, rSum, wipe, tYes, exists_eq, exists_eq', rIxL, rIxT, rIxS, exists_and_right, gt_iff_lt, not_true_eq_false, not_false_eq_true, Bool.not_true, Bool.not_false, decide_eq_true_eq, Nat.reduceSub, Nat.reduceAdd, List.append_assoc, tChain, tDIn, tDNotIn, sDDel, tAug, ipI]
    rw [em]
    refine ⟨small (by decide), fun r nr => ⟨by decide, ⟨by decide, by decide⟩, ?_⟩⟩
    refine forN34 mm (by omega) (RoIn a r zs (mm : Nat) H) (fun R h => ?_) ⟨_, _, [], rfl, upd_same, (fun y h => nomatch h), rfl, Kp.new nr⟩ (fun j σ H2 hj h => ?_) fun σ H2 h => ?_
    · try simp (maxSteps := 1000000) only [tSeq, tIfS, tTest, tOp, tUn, tCB, tCons, tNil, tVar, tC, rI0, rI, rU, rEq, rNe, tRet, tRetN, tAsg, gName, gSub, tBM, tBM0, tNext, tB, tNot, tAnd, tOr, tIf, tCall, tDrop, tBreak, tCont, L2.start, tDGet, sDPut, tTup, tLst, tDNewK, tRevL, rCat, rAppend, rPop, rSetL, tAndV, tOrV, tNotV, tSl, tPart, tNoPart, tM1, gTup, gCons, gNil, cxK, cxnK, List.map_cons, List.map_nil, List.length_cons, List.length_nil, List.replicate, List.cons_append, List.nil_append, List.append_nil, List.set_cons_zero, List.set_cons_succ, List.getElem?_cons_zero, List.getElem?_cons_succ, Option.some.injEq, V.ref.injEq, V.int.injEq, V.str.injEq, V.bl.injEq, V.ty.injEq, exists_eq_left', exists_eq_left, exists_and_left, List.cons.injEq, and_true, true_and, sc_ii, sc_ss, sc_bb, sc_ni, sc_in, sc_is, sc_si, sc_nn, decide_true, decide_false, reduceCtorEq, Bool.false_eq_true, if_true, if_false, ite_true, ite_false, exists_const, eq_self, false_and, and_false, or_false, false_or, exists_false, Evl.rLenS, rSum, wipe, tYes, exists_eq, exists_eq', rIxL, rIxT, rIxS, exists_and_right, gt_iff_lt, not_true_eq_false, not_false_eq_true, Bool.not_true, Bool.not_false, decide_eq_true_eq, Nat.reduceSub, Nat.reduceAdd, List.append_assoc, tChain, tDIn, tDNotIn, sDDel, tAug, ipI]
      exact h
    · obtain ⟨m, c, ys, rfl, hr2, hy, yl, k⟩ := h
      have hS2 := k.ls not0 hS
      have zp : (0 : Int) < (zs.length : Nat) := by omega
      obtain ⟨v, hv, ev⟩ := atI_ex (xs := zs.map V.str) (i := m % ((zs.length : Nat) : Int)) (Int.emod_nonneg _ (by omega)) (by rw [List.length_map]; exact Int.emod_lt_of_pos _ zp)
      obtain ⟨z, hz, rfl⟩ := List.mem_map.mp hv
      try simp (maxSteps := 1000000) only [tSeq, tIfS, tTest, tOp, tUn, tCB, tCons, tNil, tVar, tC, rI0, rI, rU, rEq, rNe, tRet, tRetN, tAsg, gName, gSub, tBM, tBM0, tNext, tB, tNot, tAnd, tOr, tIf, tCall, tDrop, tBreak, tCont, L2.start, tDGet, sDPut, tTup, tLst, tDNewK, tRevL, rCat, rAppend, rPop, rSetL, tAndV, tOrV, tNotV, tSl, tPart, tNoPart, tM1, gTup, gCons, gNil, cxK, cxnK, List.map_cons, List.map_nil, List.length_cons, List.length_nil, List.replicate, List.cons_append, List.nil_append, List.append_nil, List.set_cons_zero, List.set_cons_succ, List.getElem?_cons_zero, List.getElem?_cons_succ, Option.some.injEq, V.ref.injEq, V.int.injEq, V.str.injEq, V.bl.injEq, V.ty.injEq, exists_eq_left', exists_eq_left, exists_and_left, List.cons.injEq, and_true, true_and, sc_ii, sc_ss, sc_bb, sc_ni, sc_in, sc_is, sc_si, sc_nn, decide_true, decide_false, reduceCtorEq, Bool.false_eq_true, if_true, if_false, ite_true, ite_false, exists_const, eq_self, false_and, and_false, or_false, false_or, exists_false, Evl.rLenS, rSum, wipe, tYes, exists_eq, exists_eq', rIxL, rIxT, rIxS, exists_and_right, gt_iff_lt, not_true_eq_false, not_false_eq_true, Bool.not_true, Bool.not_false, decide_eq_true_eq, Nat.reduceSub, Nat.reduceAdd, List.append_assoc, tChain, tDIn, tDNotIn, sDDel, tAug, ipI]
      have kw : Kp [] H (upd H2 r (.lst (ys.map V.str ++ [.str z]))) := k.wr nr
      have hS3 := kw.ls not0 hS
      refine ⟨.inl ⟨rfl, _, sq_l hr2⟩, zs.map V.str, .inl hS2, by rw [List.length_map]; exact zp, zs.map V.str, hS2, .str z, by rw [List.length_map]; exact ev, ys.map V.str, hr2, by rw [List.length_map]; exact smallL (by omega), zs.map V.str, .inl hS3, by rw [List.length_map]; exact ⟨zp, by omega⟩, _, _, ys ++ [z], rfl, by rw [upd_same, List.map_append]; rfl, fun y hy2 => ?_, by rw [List.length_append, yl]; rfl, kw⟩
      rcases List.mem_append.mp hy2 with h | h
      · exact hy y h
      · rw [List.mem_singleton.mp h]; exact hz
    · obtain ⟨m, c, ys, rfl, hr2, hy, yl, k⟩ := h
      try simp (maxSteps := 1000000) only [tSeq, tIfS, tTest, tOp, tUn, tCB, tCons, tNil, tVar, tC, rI0, rI, rU, rEq, rNe, tRet, tRetN, tAsg, gName, gSub, tBM, tBM0, tNext, tB, tNot, tAnd, tOr, tIf, tCall, tDrop, tBreak, tCont, L2.start, tDGet, sDPut, tTup, tLst, tDNewK, tRevL, rCat, rAppend, rPop, rSetL, tAndV, tOrV, tNotV, tSl, tPart, tNoPart, tM1, gTup, gCons, gNil, cxK, cxnK, List.map_cons, List.map_nil, List.length_cons, List.length_nil, List.replicate, List.cons_append, List.nil_append, List.append_nil, List.set_cons_zero, List.set_cons_succ, List.getElem?_cons_zero, List.getElem?_cons_succ, Option.some.injEq, V.ref.injEq, V.int.injEq, V.str.injEq, V.bl.injEq, V.ty.injEq, exists_eq_left', exists_eq_left, exists_and_left, List.cons.injEq, and_true, true_and, sc_ii, sc_ss, sc_bb, sc_ni, sc_in, sc_is, sc_si, sc_nn, decide_true, decide_false, reduceCtorEq, Bool.false_eq_true, if_true, if_false, ite_true, ite_false, exists_const, eq_self, false_and, and_false, or_false, false_or, exists_false, Evl.rLenS, rSum, wipe, tYes, exists_eq, exists_eq', rIxL, rIxT, rIxS, exists_and_right, gt_iff_lt, not_true_eq_false, not_false_eq_true, Bool.not_true, Bool.not_false, decide_eq_true_eq, Nat.reduceSub, Nat.reduceAdd, List.append_assoc, tChain, tDIn, tDNotIn, sDDel, tAug, ipI]
      exact ⟨_, .inl ⟨sq_l hr2, fun t nt => q t ys _ (k.free0 nt) upd_same hy (by omega) (k.trans (Kp.new nt))⟩⟩
end
end My

set_option Elab.async false
set_option linter.all false
set_option maxRecDepth 100000
set_option maxHeartbeats 4000000
namespace My
open PySem L2 NdefX
abbrev s_law_unknown : Stmt := top 27
theorem sc_law_unknown : FnScope ["_law_number", "_law_names", "_law_menu", "_law_k", "_law_word"] ["_law_number", "_law_names"] (defScope s_law_unknown) := ⟨rfl, rfl, rfl, by decide +kernel, rfl, by decide +kernel, by decide +kernel⟩
section
variable {P : Program} {w : World} {K : PySem.W.Frag} {mg : Str → Option Value} {base : Heap}
def unkL : List Str := ["", "read", "return", "Full", "fulls", "gates", "zzz", "longnamed"]
def spUnk (K : PySem.W.Frag) : Sp := fun vs H Q _ => ∃ (n : Int) (a : Addr) (zs : List Str), vs = [.int n, .ref a] ∧ SqL K H a (zs.map V.str) ∧ ("" : Str) ∉ zs ∧ ∀ (z : Str) (H' : Hp), z ∈ unkL → z ∉ zs → Kp [] H H' → Q (.str z) H'
def UkIn (n : Int) (a l : Addr) (zs : List Str) (H : Hp) (i : Nat) (σ : L2.St) (H' : Hp) : Prop := ∃ (c d : Option V), σ = [some (.int n), some (.ref a), some (.ref l), c, d] ∧ H' l = some (.lst (unkL.map V.str)) ∧ (∀ j : Nat, j < i → ∀ z, unkL[((n + j) % 8).toNat]? = some z → z ∈ zs) ∧ Kp [] H H'
theorem ok_law_unknown {f : Addr} {fd : FuncData} (D : Df K mg "_law_unknown" s_law_unknown ["_law_number", "_law_names"] f fd) (T : Bt0 mg) : FnOk P w K mg base CX0 1 f fd ["_law_number", "_law_names"] (spUnk K) := by
  refine D.F.ok sc_law_unknown (fun vs H Q E h => ?_) (fun cdv A outer s H vs Q E hr h => ?_)
  · obtain ⟨_, _, _, rfl, _⟩ := h
    rfl
  · obtain ⟨n, a, zs, rfl, hS, z0, q⟩ := h
    refine ⟨_, (pss_cons (ps_set (i := 2) sc_law_unknown.nd rfl (Or.inl rfl) (pe_lst (pa_cons pe_str (pa_cons pe_str (pa_cons pe_str (pa_cons pe_str (pa_cons pe_str (pa_cons pe_str (pa_cons pe_str (pa_cons pe_str pa_nil))))))))))
      (pss_cons (ps_for PassesOwn.never rfl (pi_range1 rfl T.b_range (pa_cons pe_int pa_nil)) (pg_name (i := 3) sc_law_unknown.nd rfl (Or.inl rfl)) (pss_cons (ps_set (i := 4) sc_law_unknown.nd rfl (Or.inl rfl) (pe_ix (r := rIxL K) ix_list (pv 2) (pe_op op_mod (pe_callTy (T := "int") call_int1 (by rfl) T.b_int (by decide +kernel) (pa_cons (pe_op op_add (pv 0) (pv 3)) pa_nil)) pe_int) (fun _ _ => rfl)))
      (pss_one (ps_if (pt_cmpR op_notIn_seq (pv 4) (pv 1) (by rfl)) (pss_one (ps_ret (pv 4))) pss_nil))))
      (pss_one (ps_ret pe_str)))), ?_⟩
    try simp (maxSteps := 1000000) only [tSeq, tIfS, tTest, tOp, tUn, tCB, tCons, tNil, tVar, tC, rI0, rI, rU, rEq, rNe, tRet, tRetN, tAsg, gName, gSub, tBM, tBM0, tNext, tB, tNot, tAnd, tOr, tIf, tCall, tDrop, tBreak, tCont, L2.start, tDGet, sDPut, tTup, tLst, tDNewK, tRevL, rCat, rAppend, rPop, rSetL, tAndV, tOrV, tNotV, tSl, tPart, tNoPart, tM1, gTup, gCons, gNil, cxK, cxnK, List.map_cons, List.map_nil, List.length_cons, List.length_nil, List.replicate, List.cons_append, List.nil_append, List.append_nil, List.set_cons_zero, List.set_cons_succ, List.getElem?_cons_zero, List.getElem?_cons_succ, Option.some.injEq, V.ref.injEq, V.int.injEq, V.str.injEq, V.bl.injEq, V.ty.injEq, exists_eq_left', exists_eq_left, exists_and_left, List.cons.injEq, and_true, true_and, sc_ii, sc_ss, sc_bb, sc_ni, sc_in, sc_is, sc_si, sc_nn, decide_true, decide_false, reduceCtorEq, Bool.false_eq_true, if_true, if_false, ite_true, ite_false, exists_const, eq_self, false_and, and_false, or_false, false_or, exists_false, Evl.rLenS, rSum, wipe, tYes, exists_eq, exists_eq', rIxL, rIxT, rIxS, exists_and_right, gt_iff_lt, not_true_eq_false, not_false_eq_true, Bool.not_true, Bool.not_false, decide_eq_true_eq, Nat.reduceSub, Nat.reduceAdd, List.append_assoc, tChain, tDIn, tDNotIn, sDDel, tAug, ipI]
    refine ⟨small (by decide), fun l nl => ?_⟩
    have kl : Kp [] H (upd H l (.lst (unkL.map V.str))) := Kp.new nl
    refine forN34 8 (by decide) (UkIn n a l zs H) (fun R h => ?_) ⟨_, _, rfl, upd_same, (fun j h => absurd h (by omega)), kl⟩ (fun j σ H2 hj h => ?_) fun σ H2 h => ?_
    · try simp (maxSteps := 1000000) only [tSeq, tIfS, tTest, tOp, tUn, tCB, tCons, tNil, tVar, tC, rI0, rI, rU, rEq, rNe, tRet, tRetN, tAsg, gName, gSub, tBM, tBM0, tNext, tB, tNot, tAnd, tOr, tIf, tCall, tDrop, tBreak, tCont, L2.start, tDGet, sDPut, tTup, tLst, tDNewK, tRevL, rCat, rAppend, rPop, rSetL, tAndV, tOrV, tNotV, tSl, tPart, tNoPart, tM1, gTup, gCons, gNil, cxK, cxnK, List.map_cons, List.map_nil, List.length_cons, List.length_nil, List.replicate, List.cons_append, List.nil_append, List.append_nil, List.set_cons_zero, List.set_cons_succ, List.getElem?_cons_zero, List.getElem?_cons_succ, Option.some.injEq, V.ref.injEq, V.int.injEq, V.str.injEq, V.bl.injEq, V.ty.injEq, exists_eq_left', exists_eq_left, exists_and_left, List.cons.injEq, and_true, true_and, sc_ii, sc_ss, sc_bb, sc_ni, sc_in, sc_is, sc_si, sc_nn, decide_true, decide_false, reduceCtorEq, Bool.false_eq_true, if_true, if_false, ite_true, ite_false, exists_const, eq_self, false_and, and_false, or_false, false_or, exists_false, Evl.rLenS, rSum, wipe, tYes, exists_eq, exists_eq', rIxL, rIxT, rIxS, exists_and_right, gt_iff_lt, not_true_eq_false, not_false_eq_true, Bool.not_true, Bool.not_false, decide_eq_true_eq, Nat.reduceSub, Nat.reduceAdd, List.append_assoc, tChain, tDIn, tDNotIn, sDDel, tAug, ipI]
      exact h
    · obtain ⟨c, d, rfl, hl, hg, k⟩ := h
      have hS2 := k.ls not0 hS
      obtain ⟨m, em⟩ : ∃ m : Nat, (n + (j : Nat)) % 8 = m := ⟨((n + (j : Nat)) % 8).toNat, by have := Int.emod_nonneg (n + (j : Nat)) (show (8 : Int) ≠ 0 by decide); omega⟩
      have m8 : m < unkL.length := by have := Int.emod_lt_of_pos (n + (j : Nat)) (show (0 : Int) < 8 by decide); show m < 8; omega
      have el : unkL[m]? = some unkL[m] := List.getElem?_eq_getElem m8
      have ev : atI (unkL.map V.str) ((m : Nat) : Int) = some (.str unkL[m]) := atI_nat (by rw [List.getElem?_map, el]; rfl)
      try simp (maxSteps := 1000000) only [tSeq, tIfS, tTest, tOp, tUn, tCB, tCons, tNil, tVar, tC, rI0, rI, rU, rEq, rNe, tRet, tRetN, tAsg, gName, gSub, tBM, tBM0, tNext, tB, tNot, tAnd, tOr, tIf, tCall, tDrop, tBreak, tCont, L2.start, tDGet, sDPut, tTup, tLst, tDNewK, tRevL, rCat, rAppend, rPop, rSetL, tAndV, tOrV, tNotV, tSl, tPart, tNoPart, tM1, gTup, gCons, gNil, cxK, cxnK, List.map_cons, List.map_nil, List.length_cons, List.length_nil, List.replicate, List.cons_append, List.nil_append, List.append_nil, List.set_cons_zero, List.set_cons_succ, List.getElem?_cons_zero, List.getElem?_cons_succ, Option.some.injEq, V.ref.injEq, V.int.injEq, V.str.injEq, V.bl.injEq, V.ty.injEq, exists_eq_left', exists_eq_left, exists_and_left, List.cons.injEq, and_true, true_and, sc_ii, sc_ss, sc_bb, sc_ni, sc_in, sc_is, sc_si, sc_nn, decide_true, decide_false, reduceCtorEq, Bool.false_eq_true, if_true, if_false, ite_true, ite_false, exists_const, eq_self, false_and, and_false, or_false, false_or, exists_false, Evl.rLenS, rSum, wipe, tYes, exists_eq, exists_eq', rIxL, rIxT, rIxS, exists_and_right, gt_iff_lt, not_true_eq_false, not_false_eq_true, Bool.not_true, Bool.not_false, decide_eq_true_eq, Nat.reduceSub, Nat.reduceAdd, List.append_assoc, tChain, tDIn, tDNotIn, sDDel, tAug, ipI]
      rw [em]
      refine ⟨by decide, _, sq_l hl, _, ev, a, zs.map V.str, rfl, .inl hS2, rfl, flat_map _, _, rfl, ?_⟩
      rw [in_strs]
      unfold inW
      by_cases hz : unkL[m] ∈ zs
      · rw [decide_eq_true hz]
        try simp (maxSteps := 1000000) only [tSeq, tIfS, tTest, tOp, tUn, tCB, tCons, tNil, tVar, tC, rI0, rI, rU, rEq, rNe, tRet, tRetN, tAsg, gName, gSub, tBM, tBM0, tNext, tB, tNot, tAnd, tOr, tIf, tCall, tDrop, tBreak, tCont, L2.start, tDGet, sDPut, tTup, tLst, tDNewK, tRevL, rCat, rAppend, rPop, rSetL, tAndV, tOrV, tNotV, tSl, tPart, tNoPart, tM1, gTup, gCons, gNil, cxK, cxnK, List.map_cons, List.map_nil, List.length_cons, List.length_nil, List.replicate, List.cons_append, List.nil_append, List.append_nil, List.set_cons_zero, List.set_cons_succ, List.getElem?_cons_zero, List.getElem?_cons_succ, Option.some.injEq, V.ref.injEq, V.int.injEq, V.str.injEq, V.bl.injEq, V.ty.injEq, exists_eq_left', exists_eq_left, exists_and_left, List.cons.injEq, and_true, true_and, sc_ii, sc_ss, sc_bb, sc_ni, sc_in, sc_is, sc_si, sc_nn, decide_true, decide_false, reduceCtorEq, Bool.false_eq_true, if_true, if_false, ite_true, ite_false, exists_const, eq_self, false_and, and_false, or_false, false_or, exists_false, Evl.rLenS, rSum, wipe, tYes, exists_eq, exists_eq', rIxL, rIxT, rIxS, exists_and_right, gt_iff_lt, not_true_eq_false, not_false_eq_true, Bool.not_true, Bool.not_false, decide_eq_true_eq, Nat.reduceSub, Nat.reduceAdd, List.append_assoc, tChain, tDIn, tDNotIn, sDDel, tAug, ipI]
        refine ⟨_, _, rfl, hl, fun j2 h2 z ez => ?_, k⟩
        by_cases jj : j2 = j
        · subst jj
          rw [em] at ez
          have ez : unkL[m]? = some z := ez
          rw [el] at ez
          cases ez; exact hz
        · exact hg j2 (by omega) z ez
      · rw [decide_eq_false hz]
        try simp (maxSteps := 1000000) only [tSeq, tIfS, tTest, tOp, tUn, tCB, tCons, tNil, tVar, tC, rI0, rI, rU, rEq, rNe, tRet, tRetN, tAsg, gName, gSub, tBM, tBM0, tNext, tB, tNot, tAnd, tOr, tIf, tCall, tDrop, tBreak, tCont, L2.start, tDGet, sDPut, tTup, tLst, tDNewK, tRevL, rCat, rAppend, rPop, rSetL, tAndV, tOrV, tNotV, tSl, tPart, tNoPart, tM1, gTup, gCons, gNil, cxK, cxnK, List.map_cons, List.map_nil, List.length_cons, List.length_nil, List.replicate, List.cons_append, List.nil_append, List.append_nil, List.set_cons_zero, List.set_cons_succ, List.getElem?_cons_zero, List.getElem?_cons_succ, Option.some.injEq, V.ref.injEq, V.int.injEq, V.str.injEq, V.bl.injEq, V.ty.injEq, exists_eq_left', exists_eq_left, exists_and_left, List.cons.injEq, and_true, true_and, sc_ii, sc_ss, sc_bb, sc_ni, sc_in, sc_is, sc_si, sc_nn, decide_true, decide_false, reduceCtorEq, Bool.false_eq_true, if_true, if_false, ite_true, ite_false, exists_const, eq_self, false_and, and_false, or_false, false_or, exists_false, Evl.rLenS, rSum, wipe, tYes, exists_eq, exists_eq', rIxL, rIxT, rIxS, exists_and_right, gt_iff_lt, not_true_eq_false, not_false_eq_true, Bool.not_true, Bool.not_false, decide_eq_true_eq, Nat.reduceSub, Nat.reduceAdd, List.append_assoc, tChain, tDIn, tDNotIn, sDDel, tAug, ipI]
        exact q _ H2 (List.getElem_mem _) hz k
    · obtain ⟨c, d, rfl, hl, hg, k⟩ := h
      refine absurd (hg ((-n) % 8).toNat (by have := Int.emod_nonneg (-n) (show (8 : Int) ≠ 0 by decide); have := Int.emod_lt_of_pos (-n) (show (0 : Int) < 8 by decide); omega) "" ?_) z0
      have e : (n + (((-n) % 8).toNat : Nat)) % 8 = 0 := by have := Int.emod_nonneg (-n) (show (8 : Int) ≠ 0 by decide); omega
      rw [e]; rfl
end
end My

set_option Elab.async false
set_option linter.all false
set_option maxRecDepth 100000
set_option maxHeartbeats 4000000
namespace My
open PySem L2 NdefX
abbrev s_law_fence_refusal : Stmt := top 29
theorem sc_law_fence_refusal : FnScope ["_law_made", "_law_name_here", "e"] ["_law_made", "_law_name_here"] (defScope s_law_fence_refusal) := ⟨rfl, rfl, rfl, by decide +kernel, rfl, by decide +kernel, by decide +kernel⟩
structure BtF (K : PySem.W.Frag) (mg : Str → Option Value) (NF : Addr) : Prop where
  k_NoFence : mg "NoFence" = some (.ref NF)
  XF_NoFence : XfC K NF
  NO_name : PySem.W.findIn K (.ref NF) "name" = some none
  EX : PySem.W.exmOne K (.ref NF) (.ref NF) = some true
section
variable {P : Program} {w : World} {K : PySem.W.Frag} {mg : Str → Option Value} {base : Heap} {BK PC NF : Addr}
def spFRef (K : PySem.W.Frag) (BK PC : Addr) : Sp := fun vs H Q _ => ∃ (o : Addr) (f : Pr → Bool) (fs : List (Str × (Pr → Bool))) (z : Str), vs = [.ref o, .str z] ∧ BookAt K BK PC H o f fs ∧ z.length ≤ 1000 ∧ z ∉ fs.map (·.1) ∧ ∀ (l : Addr) (H' : Hp), H l = none → H' l = some (.lst [.str z]) → Kp [] H H' → Q (.ref l) H'
theorem ok_law_fence_refusal {f : Addr} {fd : FuncData} (D : Df K mg "_law_fence_refusal" s_law_fence_refusal ["_law_made", "_law_name_here"] f fd) (T : BtF K mg NF) (B : BkC K mg BK) {fX : Addr} {fdX : FuncData}
    (ME_Book_fence : Meth K BK "fence" fX) (bM_Book_fence : Binds K fdX ["self", "name"] []) (G_Book_fence : FnOk P w K mg base (L2.CX P w) 3 fX fdX ["self", "name"] (spFence K BK PC NF)) : FnOk P w K mg base CX0 4 f fd ["_law_made", "_law_name_here"] (spFRef K BK PC) := by
  refine D.F.ok sc_law_fence_refusal (fun vs H Q E h => ?_) (fun cdv A outer s H vs Q E hr h => ?_)
  · obtain ⟨_, _, _, _, rfl, _⟩ := h
    rfl
  · obtain ⟨o, ff, fs, z, rfl, hB, zl, bad, q⟩ := h
    have XF_NoFence := T.XF_NoFence
    have NO_name := T.NO_name
    refine ⟨_, (pss_cons (ps_try_as (i := 2) rfl rfl sc_law_fence_refusal.nd rfl rfl ⟨rfl, by decide, .inl T.k_NoFence⟩ takes0 (fun W pn xe tk _ => (pss_one (ps_expr (pe_methT B.cl ME_Book_fence G_Book_fence (hr.mono (by decide)) bM_Book_fence (fun σ => passAt tk σ) (pv 0) (pa_cons (pv 1) pa_nil))))) (fun a oe cls d pn hz hf => (pss_one (ps_ret (pe_lst (pa_cons (pe_xf XF_NoFence NO_name hz hf (pv 2)) pa_nil))))))
      (pss_one (ps_ret (pe_lst pa_nil)))), ?_⟩
    obtain ⟨dx, ko, d, kvs, ho, hk, hd, hf, fl, nd⟩ := id hB
    try simp (maxSteps := 1000000) only [tSeq, tIfS, tTest, tOp, tUn, tCB, tCons, tNil, tVar, tC, rI0, rI, rU, rEq, rNe, tRet, tRetN, tAsg, gName, gSub, tBM, tBM0, tNext, tB, tNot, tAnd, tOr, tIf, tCall, tDrop, tBreak, tCont, L2.start, tDGet, sDPut, tTup, tLst, tDNewK, tRevL, rCat, rAppend, rPop, rSetL, tAndV, tOrV, tNotV, tSl, tPart, tNoPart, tM1, gTup, gCons, gNil, cxK, cxnK, List.map_cons, List.map_nil, List.length_cons, List.length_nil, List.replicate, List.cons_append, List.nil_append, List.append_nil, List.set_cons_zero, List.set_cons_succ, List.getElem?_cons_zero, List.getElem?_cons_succ, Option.some.injEq, V.ref.injEq, V.int.injEq, V.str.injEq, V.bl.injEq, V.ty.injEq, exists_eq_left', exists_eq_left, exists_and_left, List.cons.injEq, and_true, true_and, sc_ii, sc_ss, sc_bb, sc_ni, sc_in, sc_is, sc_si, sc_nn, decide_true, decide_false, reduceCtorEq, Bool.false_eq_true, if_true, if_false, ite_true, ite_false, exists_const, eq_self, false_and, and_false, or_false, false_or, exists_false, Evl.rLenS, rSum, wipe, tYes, exists_eq, exists_eq', rIxL, rIxT, rIxS, exists_and_right, gt_iff_lt, not_true_eq_false, not_false_eq_true, Bool.not_true, Bool.not_false, decide_eq_true_eq, Nat.reduceSub, Nat.reduceAdd, List.append_assoc, tChain, tDIn, tDNotIn, sDDel, tAug, ipI, tMethT]
    refine ⟨dx, _, ho, rfl, o, ff, fs, z, rfl, hB, zl, fun i g eg nz => ?_, fun _ e H' ne he k => ?_⟩
    · exact absurd (List.mem_map_of_mem (f := (·.1)) (List.mem_of_getElem? eg)) bad
    · refine ⟨true, T.EX, fun _ x nx => ?_, fun z => by cases z⟩
      try simp (maxSteps := 1000000) only [tSeq, tIfS, tTest, tOp, tUn, tCB, tCons, tNil, tVar, tC, rI0, rI, rU, rEq, rNe, tRet, tRetN, tAsg, gName, gSub, tBM, tBM0, tNext, tB, tNot, tAnd, tOr, tIf, tCall, tDrop, tBreak, tCont, L2.start, tDGet, sDPut, tTup, tLst, tDNewK, tRevL, rCat, rAppend, rPop, rSetL, tAndV, tOrV, tNotV, tSl, tPart, tNoPart, tM1, gTup, gCons, gNil, cxK, cxnK, List.map_cons, List.map_nil, List.length_cons, List.length_nil, List.replicate, List.cons_append, List.nil_append, List.append_nil, List.set_cons_zero, List.set_cons_succ, List.getElem?_cons_zero, List.getElem?_cons_succ, Option.some.injEq, V.ref.injEq, V.int.injEq, V.str.injEq, V.bl.injEq, V.ty.injEq, exists_eq_left', exists_eq_left, exists_and_left, List.cons.injEq, and_true, true_and, sc_ii, sc_ss, sc_bb, sc_ni, sc_in, sc_is, sc_si, sc_nn, decide_true, decide_false, reduceCtorEq, Bool.false_eq_true, if_true, if_false, ite_true, ite_false, exists_const, eq_self, false_and, and_false, or_false, false_or, exists_false, Evl.rLenS, rSum, wipe, tYes, exists_eq, exists_eq', rIxL, rIxT, rIxS, exists_and_right, gt_iff_lt, not_true_eq_false, not_false_eq_true, Bool.not_true, Bool.not_false, decide_eq_true_eq, Nat.reduceSub, Nat.reduceAdd, List.append_assoc, tChain, tDIn, tDNotIn, sDDel, tAug, ipI, tXf]
      exact ⟨_, he, _, rfl, small (by decide), fun p np => q p _ (k.free0 np) upd_same (k.trans (Kp.new np))⟩
end
end My

set_option Elab.async false
set_option linter.all false
set_option maxRecDepth 100000
set_option maxHeartbeats 4000000
namespace My
open PySem L2 NdefX
abbrev s_law_bad_names : Stmt := top 32
theorem sc_law_bad_names : FnScope ["_law_number", "_law_names", "_law_menu", "_law_chosen"] ["_law_number", "_law_names"] (defScope s_law_bad_names) := ⟨rfl, rfl, rfl, by decide +kernel, rfl, by decide +kernel, by decide +kernel⟩
section
variable {P : Program} {w : World} {K : PySem.W.Frag} {mg : Str → Option Value} {base : Heap}
def badL : List Str := ["full", "read", "acquire", "write", "release", "both", "return", "", "Gate", "gate1", "longnamed", "a b"]
theorem badL_bad : ∀ z ∈ badL, goodF z = false := by decide +kernel
def spBadN (K : PySem.W.Frag) : Sp := fun vs H Q _ => ∃ (n : Int) (a : Addr) (zs : List Str), vs = [.int n, .ref a] ∧ SqL K H a (zs.map V.str) ∧ zs.length ≤ 1000 ∧ ∀ (l : Addr) (pre bs : List Str) (H' : Hp), H l = none → H' l = some (.lst ((pre ++ bs).map V.str)) → (∀ y ∈ pre, y ∈ zs) → pre.length ≤ 1 → bs ≠ [] → pre.length + bs.length ≤ 2 → (∀ b ∈ bs, b ∈ badL) → Kp [] H H' → Q (.ref l) H'
theorem ok_law_bad_names {f : Addr} {fd : FuncData} (D : Df K mg "_law_bad_names" s_law_bad_names ["_law_number", "_law_names"] f fd) (T : Bt0 mg) : FnOk P w K mg base CX0 1 f fd ["_law_number", "_law_names"] (spBadN K) := by
  refine D.F.ok sc_law_bad_names (fun vs H Q E h => ?_) (fun cdv A outer s H vs Q E hr h => ?_)
  · obtain ⟨_, _, _, rfl, _⟩ := h
    rfl
  · obtain ⟨n, a, zs, rfl, hS, zl, q⟩ := h
    refine ⟨_, (pss_cons (ps_set (i := 2) sc_law_bad_names.nd rfl (Or.inl rfl) (pe_lst (pa_cons pe_str (pa_cons pe_str (pa_cons pe_str (pa_cons pe_str (pa_cons pe_str (pa_cons pe_str (pa_cons pe_str (pa_cons pe_str (pa_cons pe_str (pa_cons pe_str (pa_cons pe_str (pa_cons pe_str pa_nil))))))))))))))
      (pss_cons (ps_set (i := 3) sc_law_bad_names.nd rfl (Or.inl rfl) (pe_lst (pa_cons (pe_ix (r := rIxL K) ix_list (pv 2) (pe_op op_mod (pe_callTy (T := "int") call_int1 (by rfl) T.b_int (by decide +kernel) (pa_cons (pv 0) pa_nil)) pe_int) (fun _ _ => rfl)) pa_nil)))
      (pss_cons (ps_set (i := 0) sc_law_bad_names.nd rfl (Or.inl rfl) (pe_op op_fdiv (pv 0) pe_int))
      (pss_cons (ps_if (pt_cmpR op_eq (pe_op op_mod (pe_callTy (T := "int") call_int1 (by rfl) T.b_int (by decide +kernel) (pa_cons (pv 0) pa_nil)) pe_int) pe_int (nomark _)) (pss_one (ps_expr (pe_bm PySem.F.plainAttrs_list PySem.F.slot_list_append PySem.F.type_list_append mt_append (pv 3) (pa_cons (pe_ix (r := rIxL K) ix_list (pv 2) (pe_op op_mod (pe_callTy (T := "int") call_int1 (by rfl) T.b_int (by decide +kernel) (pa_cons (pe_op op_fdiv (pv 0) pe_int) pa_nil)) pe_int) (fun _ _ => rfl)) pa_nil)))) (pss_one (ps_if (pt_cmpR op_gt (pe_callB (id := "len") (r := Evl.rLenS K) call_len_seq (by rfl) T.b_len PySem.boot_len (pa_cons (pv 1) pa_nil)) pe_int (nomark _)) (pss_one (ps_set (i := 3) sc_law_bad_names.nd rfl (Or.inl rfl) (pe_op op_cat (pe_lst (pa_cons (pe_ix (r := rIxL K) ix_list (pv 1) pe_int (fun _ _ => rfl)) pa_nil)) (pv 3)))) pss_nil)))
      (pss_one (ps_ret (pv 3))))))), ?_⟩
    have at12 : ∀ e : Int, 0 ≤ e → e < 12 → ∃ z, atI (badL.map V.str) e = some (.str z) ∧ z ∈ badL := fun e e0 e1 => by
      obtain ⟨v, hv, ev⟩ := atI_ex (xs := badL.map V.str) e0 (by rw [List.length_map]; exact e1)
      obtain ⟨z, hz, rfl⟩ := List.mem_map.mp hv
      exact ⟨z, ev, hz⟩
    try simp (maxSteps := 1000000) only [tSeq, tIfS, tTest, tOp, tUn, tCB, tCons, tNil, tVar, tC, rI0, rI, rU, rEq, rNe, tRet, tRetN, tAsg, gName, gSub, tBM, tBM0, tNext, tB, tNot, tAnd, tOr, tIf, tCall, tDrop, tBreak, tCont, L2.start, tDGet, sDPut, tTup, tLst, tDNewK, tRevL, rCat, rAppend, rPop, rSetL, tAndV, tOrV, tNotV, tSl, tPart, tNoPart, tM1, gTup, gCons, gNil, cxK, cxnK, List.map_cons, List.map_nil, List.length_cons, List.length_nil, List.replicate, List.cons_append, List.nil_append, List.append_nil, List.set_cons_zero, List.set_cons_succ, List.getElem?_cons_zero, List.getElem?_cons_succ, Option.some.injEq, V.ref.injEq, V.int.injEq, V.str.injEq, V.bl.injEq, V.ty.injEq, exists_eq_left', exists_eq_left, exists_and_left, List.cons.injEq, and_true, true_and, sc_ii, sc_ss, sc_bb, sc_ni, sc_in, sc_is, sc_si, sc_nn, decide_true, decide_false, reduceCtorEq, Bool.false_eq_true, if_true, if_false, ite_true, ite_false, exists_const, eq_self, false_and, and_false, or_false, false_or, exists_false, Evl.rLenS, rSum, wipe, tYes, exists_eq, exists_eq', rIxL, rIxT, rIxS, exists_and_right, gt_iff_lt, not_true_eq_false, not_false_eq_true, Bool.not_true, Bool.not_false, decide_eq_true_eq, Nat.reduceSub, Nat.reduceAdd, List.append_assoc, tChain, tDIn, tDNotIn, sDDel, tAug, ipI]
    refine ⟨small (by decide), fun ml nm => ?_⟩
    have km : Kp [] H (upd H ml (.lst (badL.map V.str))) := Kp.new nm
    have hm : (upd H ml (.lst (badL.map V.str))) ml = some (.lst (badL.map V.str)) := upd_same
    obtain ⟨z1, e1, b1⟩ := at12 (n % 12) (Int.emod_nonneg _ (by decide)) (Int.emod_lt_of_pos _ (by decide))
    obtain ⟨z2, e2, b2⟩ := at12 ((n / 12 / 2) % 12) (Int.emod_nonneg _ (by decide)) (Int.emod_lt_of_pos _ (by decide))
    refine ⟨by decide, badL.map V.str, sq_l hm, .str z1, e1, small (by decide), fun p np => ⟨⟨by decide, by decide⟩, by decide, ?_⟩⟩
    have mp : ml ≠ p := ne_of_none hm np
    have np0 : H p = none := km.free0 np
    have kp := km.trans (Kp.new (S := []) (o := .lst [.str z1]) np)
    refine ite2 (fun _ => ?_) (fun _ => ?_)
    · refine ⟨.inl ⟨rfl, _, sq_l upd_same⟩, ⟨by decide, by decide⟩, by decide, badL.map V.str, sq_l (by rw [upd_ne mp]; exact hm), .str z2, e2, [.str z1], upd_same, smallL (show 1 ≤ 100000 by decide), ?_⟩
      exact q p [] [z1, z2] _ np0 upd_same (fun y h => nomatch h) (by decide) (by simp) (by simp) (fun b hb => by
        have : b = z1 ∨ b = z2 := by simpa using hb
        rcases this with rfl | rfl
        · exact b1
        · exact b2) (kp.wr np0)
    · refine ⟨zs.map V.str, .inl (kp.ls not0 hS), ?_⟩
      refine ite2 (fun h => ?_) (fun _ => ?_)
      · rw [List.length_map] at h
        obtain ⟨z0, r0, rfl⟩ : ∃ z r, zs = z :: r := by
          cases zs with
          | nil => exact absurd h (by decide)
          | cons z r => exact ⟨z, r, rfl⟩
        refine ⟨_, kp.ls not0 hS, .str z0, atI_nat (show ((z0 :: r0).map V.str)[0]? = some (V.str z0) from rfl), small (by decide), fun p1 np1 => ?_⟩
        have k1 := kp.trans (Kp.new (S := []) (o := .lst [.str z0]) np1)
        have pp1 : p ≠ p1 := ne_of_none upd_same np1
        refine ⟨[.str z0], upd_same, [.str z1], by rw [upd_ne pp1]; exact upd_same, small (show 2 ≤ 100000 by decide), fun p2 np2 => ?_⟩
        exact q p2 [z0] [z1] _ (k1.free0 np2) upd_same (fun y hy => by rw [List.mem_singleton.mp hy]; simp) (by simp) (by simp) (by simp) (fun b hb => by rw [List.mem_singleton.mp hb]; exact b1) (k1.trans (Kp.new np2))
      · exact q p [] [z1] _ np0 upd_same (fun y h => nomatch h) (by decide) (by simp) (by simp) (fun b hb => by rw [List.mem_singleton.mp hb]; exact b1) kp
end
end My

set_option Elab.async false
set_option linter.all false
set_option maxRecDepth 100000
set_option maxHeartbeats 4000000
namespace My
open PySem L2 NdefX
abbrev s_law_name : Stmt := top 24
theorem sc_law_name : FnScope ["_law_number", "_law_taken", "_law_barred", "_law_menu", "_law_word", "_law_many", "_law_k", "_law_sign"] ["_law_number", "_law_taken"] (defScope s_law_name) := ⟨rfl, rfl, rfl, by decide +kernel, rfl, by decide +kernel, by decide +kernel⟩
def tx (cs : List Nat) : Str := ⟨cs.toArray⟩
theorem tx_inj {a b : List Nat} (h : tx a = tx b) : a = b := by
  have e : a.toArray = b.toArray := congrArg Str.cps h
  simpa using e
theorem tx_len (cs : List Nat) : (tx cs).length = cs.length := by
  show cs.toArray.size = _
  simp
theorem tx_list (cs : List Nat) : (tx cs).cps.toList = cs := by
  show cs.toArray.toList = cs
  simp
theorem tx_of (z : Str) : tx z.cps.toList = z := by
  show (⟨z.cps.toList.toArray⟩ : Str) = z
  simp
theorem tx_app (a b : List Nat) : tx a ++ tx b = tx (a ++ b) := by
  show (⟨a.toArray ++ b.toArray⟩ : Str) = ⟨(a ++ b).toArray⟩
  simp
theorem cutTo (cs : List Nat) (k : Nat) : cutS (tx cs) none (some (k : Int)) = tx (cs.take k) := by
  unfold cutS
  rw [HT.sIx_none, HT.sIx_nat, tx_list, tx_len, List.drop_zero, Nat.sub_zero]
  show tx _ = tx _
  congr 1
  rcases Nat.le_total k cs.length with h | h
  · rw [Nat.min_eq_left h]
  · rw [Nat.min_eq_right h, List.take_length, List.take_of_length_le h]
theorem nameS_tx (cs : List Nat) : nameS (tx cs) = (decide (1 ≤ cs.length) && (decide (cs.length ≤ 8) && cs.all lowC)) := by
  unfold nameS
  rw [tx_len, tx_list]
def barF : List Str := ["read", "acquire", "write", "release", "both", "return", "full"]
theorem goodF_of {z : Str} (h : nameS z = true) (hb : z ∉ barF) : goodF z = true := by
  have e : barF = kindsL ++ [("return" : Str), ("full" : Str)] := by decide +kernel
  rw [e, List.mem_append, not_or] at hb
  have h2 : z ≠ "return" ∧ z ≠ "full" := by simpa using hb.2
  unfold goodF fenS
  rw [h, decide_eq_false h2.2, decide_eq_false hb.1, decide_eq_false h2.1]; rfl
theorem bar_last : ∀ z ∈ barF, z.cps.toList.getLast? ≠ some 97 ∧ z.cps.toList.getLast? ≠ some 98 := by decide +kernel
theorem lets_at : ∀ i : Nat, i < 26 → lets.cps.toList[i]? = some (97 + i) := by decide +kernel
/-- a word of the law's: letters, 1 to 8 -/
def Wd (cs : List Nat) : Prop := (∀ c ∈ cs, lowC c = true) ∧ 1 ≤ cs.length ∧ cs.length ≤ 8
theorem Wd.name {cs : List Nat} (h : Wd cs) : nameS (tx cs) = true := by
  rw [nameS_tx, decide_eq_true h.2.1, decide_eq_true h.2.2, Bool.true_and, Bool.true_and, List.all_eq_true]
  exact h.1
def menuL : List Str := ["a", "reads", "fulk", "fulm", "returns", "zz", "bothh", "light", "gate", "acquires", "rea", "zzzzzzzz", "kk", "writ"]
theorem menu_split : Txt.split "a reads fulk fulm returns zz bothh light gate acquires rea zzzzzzzz kk writ" " " = menuL := by decide +kernel
theorem menu_wd : ∀ z ∈ menuL, z = tx z.cps.toList ∧ (z.cps.toList.all lowC && (decide (1 ≤ z.cps.toList.length) && decide (z.cps.toList.length ≤ 8))) = true := by decide +kernel
theorem Wd.next {cs : List Nat} (h : Wd cs) {c : Nat} (hc : lowC c = true) : Wd (cs.take 7 ++ [c]) := by
  refine ⟨fun d hd => ?_, by simp, by rw [List.length_append, List.length_take]; show min 7 cs.length + 1 ≤ 8; omega⟩
  rcases List.mem_append.mp hd with hd | hd
  · exact h.1 d (List.mem_of_mem_take hd)
  · rw [List.mem_singleton.mp hd]; exact hc
def signL : List Str := ["a", "b", "c", "d", "e", "f", "g", "h", "i"]
theorem sign_at : ∀ i : Nat, i < 9 → signL[i]? = some (tx [97 + i]) := by decide +kernel
/-- what stands before the i-th sign -/
def Nd (zs : List Str) (i : Nat) (cs : List Nat) : Prop := Wd cs ∧ (i = 1 → tx cs ∉ barF ++ zs ∨ cs.getLast? = some 97) ∧ (2 ≤ i → tx cs ∉ barF ++ zs)
theorem Nd.keep {zs : List Str} {i : Nat} {cs : List Nat} (h : Nd zs i cs) (n : tx cs ∉ barF ++ zs) : Nd zs (i + 1) cs := ⟨h.1, fun _ => .inl n, fun _ => n⟩
theorem Nd.chg {zs : List Str} {i : Nat} {cs : List Nat} (h : Nd zs i cs) (zl : zs.length ≤ 1) (hi : i < 9) (m : tx cs ∈ barF ++ zs) : Nd zs (i + 1) (cs.take 7 ++ [97 + i]) := by
  have lc : lowC (97 + i) = true := by unfold lowC; rw [decide_eq_true (by omega), decide_eq_true (by omega)]; rfl
  rcases (show i = 0 ∨ i = 1 ∨ 2 ≤ i by omega) with rfl | rfl | h2
  · exact ⟨h.1.next lc, fun _ => .inr (by simp), fun z => absurd z (by decide)⟩
  · refine ⟨h.1.next lc, fun z => absurd z (by decide), fun _ hm => ?_⟩
    have last : cs.getLast? = some 97 := (h.2.1 rfl).resolve_left fun z => z m
    have mz : tx cs ∈ zs := (List.mem_append.mp m).resolve_left fun z => (bar_last _ z).1 (by rw [tx_list]; exact last)
    have mz2 : tx (cs.take 7 ++ [98]) ∈ zs := (List.mem_append.mp hm).resolve_left fun z => (bar_last _ z).2 (by rw [tx_list]; simp)
    obtain ⟨y, hy⟩ : ∃ y, zs = [y] := by
      cases zs with
      | nil => exact nomatch mz
      | cons y r =>
        cases r with
        | nil => exact ⟨y, rfl⟩
        | cons _ _ => exact absurd zl (by show ¬ (_ + 1 + 1 ≤ 1); omega)
    rw [hy, List.mem_singleton] at mz mz2
    have e := tx_inj (mz.trans mz2.symm)
    rw [e] at last
    simp at last
  · exact absurd m (h.2.2 h2)
section
variable {P : Program} {w : World} {K : PySem.W.Frag} {mg : Str → Option Value} {base : Heap}
def spName (K : PySem.W.Frag) : Sp := fun vs H Q _ => ∃ (n : Int) (a : Addr) (zs : List Str), vs = [.int n, .ref a] ∧ H a = some (.lst (zs.map V.str)) ∧ zs.length ≤ 1 ∧ ∀ (z : Str) (H' : Hp), goodF z = true → z ∉ zs → z.length ≤ 8 → Kp [] H H' → Q (.str z) H'
/-- ahead of the signs -/
def NmPre (a b : Addr) (zs : List Str) (H : Hp) (σ : L2.St) (H' : Hp) : Prop := ∃ (m : Int) (l : Addr) (cs : List Nat) (c d : Option V), σ = [some (.int m), some (.ref a), some (.ref b), some (.ref l), some (.str (tx cs)), c, d, none] ∧ Wd cs ∧ Kp [] H H'
def NmIn (a b : Addr) (zs : List Str) (G : Hp) (i : Nat) (σ : L2.St) (H' : Hp) : Prop := ∃ (m : Int) (l : Addr) (cs : List Nat) (c d e : Option V), σ = [some (.int m), some (.ref a), some (.ref b), some (.ref l), some (.str (tx cs)), c, d, e] ∧ Nd zs i cs ∧ H' = G
def LeIn (a b l : Addr) (mm : Nat) (H : Hp) (i : Nat) (σ : L2.St) (H' : Hp) : Prop := ∃ (m : Int) (cs : List Nat) (d : Option V), σ = [some (.int m), some (.ref a), some (.ref b), some (.ref l), some (.str (tx cs)), some (.int (mm : Nat)), d, none] ∧ (∀ c ∈ cs, lowC c = true) ∧ cs.length = i ∧ Kp [] H H'
theorem ok_law_name {f : Addr} {fd : FuncData} (D : Df K mg "_law_name" s_law_name ["_law_number", "_law_taken"] f fd) (T : Bt0 mg) : FnOk P w K mg base CX0 1 f fd ["_law_number", "_law_taken"] (spName K) := by
  refine D.F.ok sc_law_name (fun vs H Q E h => ?_) (fun cdv A outer s H vs Q E hr h => ?_)
  · obtain ⟨_, _, _, rfl, _⟩ := h
    rfl
  · obtain ⟨n, a, zs, rfl, hS, z1, q⟩ := h
    have hq : ∃ t, PSs (cxOf CX0 P w K mg base ["_law_number", "_law_taken", "_law_barred", "_law_menu", "_law_word", "_law_many", "_law_k", "_law_sign"] "_law_name" (defScope s_law_name) f cdv A outer s H E).nox ((defBody s_law_name).drop 4) t ∧ ∀ (b : Addr) H1, SqL K H1 b ((barF ++ zs).map V.str) → Kp [] H H1 → ∀ σ H9, NmPre a b zs H1 σ H9 → t { nx := fun _ H' => Q .non H', rt := Q } σ H9 := by
      refine ⟨_, (pss_cons (ps_for PassesOwn.never rfl (pi_list (pe_lst (pa_cons pe_str (pa_cons pe_str (pa_cons pe_str (pa_cons pe_str (pa_cons pe_str (pa_cons pe_str (pa_cons pe_str (pa_cons pe_str (pa_cons pe_str pa_nil))))))))))) (pg_name (i := 7) sc_law_name.nd rfl (Or.inl rfl)) (pss_one (ps_if (pt_cmpR op_in_seq (pv 4) (pv 2) (by rfl)) (pss_one (ps_set (i := 4) sc_law_name.nd rfl (Or.inl rfl) (pe_op op_add_str (pe_slice sl_str (pv 4) po_none (po_some pe_int)) (pv 7)))) pss_nil)))
      (pss_one (ps_ret (pv 4)))), ?_⟩
      rintro b H1 hb k1 σ H9 ⟨m, l, cs, c, d, rfl, wd, k9⟩
      have k9' := k1.trans k9
      refine forL_src34 ?_
      try simp (maxSteps := 1000000) only [tSeq, tIfS, tTest, tOp, tUn, tCB, tCons, tNil, tVar, tC, rI0, rI, rU, rEq, rNe, tRet, tRetN, tAsg, gName, gSub, tBM, tBM0, tNext, tB, tNot, tAnd, tOr, tIf, tCall, tDrop, tBreak, tCont, L2.start, tDGet, sDPut, tTup, tLst, tDNewK, tRevL, rCat, rAppend, rPop, rSetL, tAndV, tOrV, tNotV, tSl, tPart, tNoPart, tM1, gTup, gCons, gNil, cxK, cxnK, List.map_cons, List.map_nil, List.length_cons, List.length_nil, List.replicate, List.cons_append, List.nil_append, List.append_nil, List.set_cons_zero, List.set_cons_succ, List.getElem?_cons_zero, List.getElem?_cons_succ, Option.some.injEq, V.ref.injEq, V.int.injEq, V.str.injEq, V.bl.injEq, V.ty.injEq, exists_eq_left', exists_eq_left, exists_and_left, List.cons.injEq, and_true, true_and, sc_ii, sc_ss, sc_bb, sc_ni, sc_in, sc_is, sc_si, sc_nn, decide_true, decide_false, reduceCtorEq, Bool.false_eq_true, if_true, if_false, ite_true, ite_false, exists_const, eq_self, false_and, and_false, or_false, false_or, exists_false, Evl.rLenS, rSum, wipe, tYes, exists_eq, exists_eq', rIxL, rIxT, rIxS, exists_and_right, gt_iff_lt, not_true_eq_false, not_false_eq_true, Bool.not_true, Bool.not_false, decide_eq_true_eq, Nat.reduceSub, Nat.reduceAdd, List.append_assoc, tChain, tDIn, tDNotIn, sDDel, tAug, ipI]
      refine ⟨small (by decide), fun q1 nq1 => ?_⟩
      have hq1 : (upd H9 q1 (.lst (signL.map V.str))) q1 = some (.lst (signL.map V.str)) := upd_same
      have kq : Kp [] H9 (upd H9 q1 (.lst (signL.map V.str))) := Kp.new nq1
      have e9 : signL.map V.str = [V.str "a", V.str "b", V.str "c", V.str "d", V.str "e", V.str "f", V.str "g", V.str "h", V.str "i"] := rfl
      rw [← e9]
      generalize (upd H9 q1 (.lst (signL.map V.str))) = G at hq1 kq ⊢
      have kG := k9'.trans kq
      have hb2 := (k9.trans kq).ls not0 hb
      refine forLC34 (NmIn a b zs G) (sq_l hq1) ⟨m, l, cs, c, d, none, rfl, ⟨wd, fun z => absurd z (by decide), fun z => absurd z (by decide)⟩, rfl⟩ (fun j σ H7 _ h => by obtain ⟨_, _, _, _, _, _, _, _, rfl⟩ := h; exact sq_l hq1) (fun j x σ H2 hx h => ?_) fun σ H2 h => ?_
      · obtain ⟨m, l, cs, c, d, e, rfl, hn, rfl⟩ := h
        have j9 : j < 9 := by have := (List.getElem?_eq_some_iff.mp hx).1; simpa [signL] using this
        rw [List.getElem?_map, sign_at j j9] at hx
        cases hx
        have cl := hn.1.2.2
        try simp (maxSteps := 1000000) only [tSeq, tIfS, tTest, tOp, tUn, tCB, tCons, tNil, tVar, tC, rI0, rI, rU, rEq, rNe, tRet, tRetN, tAsg, gName, gSub, tBM, tBM0, tNext, tB, tNot, tAnd, tOr, tIf, tCall, tDrop, tBreak, tCont, L2.start, tDGet, sDPut, tTup, tLst, tDNewK, tRevL, rCat, rAppend, rPop, rSetL, tAndV, tOrV, tNotV, tSl, tPart, tNoPart, tM1, gTup, gCons, gNil, cxK, cxnK, List.map_cons, List.map_nil, List.length_cons, List.length_nil, List.replicate, List.cons_append, List.nil_append, List.append_nil, List.set_cons_zero, List.set_cons_succ, List.getElem?_cons_zero, List.getElem?_cons_succ, Option.some.injEq, V.ref.injEq, V.int.injEq, V.str.injEq, V.bl.injEq, V.ty.injEq, exists_eq_left', exists_eq_left, exists_and_left, List.cons.injEq, and_true, true_and, sc_ii, sc_ss, sc_bb, sc_ni, sc_in, sc_is, sc_si, sc_nn, decide_true, decide_false, reduceCtorEq, Bool.false_eq_true, if_true, if_false, ite_true, ite_false, exists_const, eq_self, false_and, and_false, or_false, false_or, exists_false, Evl.rLenS, rSum, wipe, tYes, exists_eq, exists_eq', rIxL, rIxT, rIxS, exists_and_right, gt_iff_lt, not_true_eq_false, not_false_eq_true, Bool.not_true, Bool.not_false, decide_eq_true_eq, Nat.reduceSub, Nat.reduceAdd, List.append_assoc, tChain, tDIn, tDNotIn, sDDel, tAug, ipI]
        refine ⟨b, _, rfl, .inl hb2, rfl, flat_map _, _, rfl, ?_⟩
        rw [in_strs]
        unfold inW
        refine ite2 (fun h => ?_) (fun h => ?_)
        · have hm : tx cs ∈ barF ++ zs := by simpa using h
          have e7 : cutS (tx cs) none (some 7) = tx (cs.take 7) := cutTo cs 7
          refine ⟨_, rfl, by rw [tx_len]; exact small (by omega), _, rfl, ?_, ?_⟩
          · rw [e7, tx_len, tx_len, List.length_take]
            exact small (show min 7 cs.length + 1 ≤ 100000 by omega)
          · rw [e7, tx_app]
            exact ⟨m, l, _, c, d, _, rfl, hn.chg z1 j9 hm, rfl⟩
        · have hm : tx cs ∉ barF ++ zs := by simpa using h
          exact ⟨m, l, cs, c, d, _, rfl, hn.keep hm, rfl⟩
      · obtain ⟨m, l, cs, c, d, e, rfl, hn, rfl⟩ := h
        try simp (maxSteps := 1000000) only [tSeq, tIfS, tTest, tOp, tUn, tCB, tCons, tNil, tVar, tC, rI0, rI, rU, rEq, rNe, tRet, tRetN, tAsg, gName, gSub, tBM, tBM0, tNext, tB, tNot, tAnd, tOr, tIf, tCall, tDrop, tBreak, tCont, L2.start, tDGet, sDPut, tTup, tLst, tDNewK, tRevL, rCat, rAppend, rPop, rSetL, tAndV, tOrV, tNotV, tSl, tPart, tNoPart, tM1, gTup, gCons, gNil, cxK, cxnK, List.map_cons, List.map_nil, List.length_cons, List.length_nil, List.replicate, List.cons_append, List.nil_append, List.append_nil, List.set_cons_zero, List.set_cons_succ, List.getElem?_cons_zero, List.getElem?_cons_succ, Option.some.injEq, V.ref.injEq, V.int.injEq, V.str.injEq, V.bl.injEq, V.ty.injEq, exists_eq_left', exists_eq_left, exists_and_left, List.cons.injEq, and_true, true_and, sc_ii, sc_ss, sc_bb, sc_ni, sc_in, sc_is, sc_si, sc_nn, decide_true, decide_false, reduceCtorEq, Bool.false_eq_true, if_true, if_false, ite_true, ite_false, exists_const, eq_self, false_and, and_false, or_false, false_or, exists_false, Evl.rLenS, rSum, wipe, tYes, exists_eq, exists_eq', rIxL, rIxT, rIxS, exists_and_right, gt_iff_lt, not_true_eq_false, not_false_eq_true, Bool.not_true, Bool.not_false, decide_eq_true_eq, Nat.reduceSub, Nat.reduceAdd, List.append_assoc, tChain, tDIn, tDNotIn, sDDel, tAug, ipI]
        have nb := hn.2.2 (by decide)
        rw [List.mem_append, not_or] at nb
        exact q _ H2 (goodF_of hn.1.name nb.1) nb.2 (by rw [tx_len]; exact hn.1.2.2) kG
    obtain ⟨t, ht, hq⟩ := hq
    refine ⟨_, (pss_cons (ps_set (i := 2) sc_law_name.nd rfl (Or.inl rfl) (pe_op op_cat (pe_lst (pa_cons pe_str (pa_cons pe_str (pa_cons pe_str (pa_cons pe_str (pa_cons pe_str (pa_cons pe_str (pa_cons pe_str pa_nil)))))))) (pv 1)))
      (pss_cons (ps_set (i := 3) sc_law_name.nd rfl (Or.inl rfl) (pe_split pe_str pe_str))
      (pss_cons (ps_set (i := 4) sc_law_name.nd rfl (Or.inl rfl) (pe_ix (r := rIxL K) ix_list (pv 3) (pe_op op_mod (pe_callTy (T := "int") call_int1 (by rfl) T.b_int (by decide +kernel) (pa_cons (pe_op op_fdiv (pv 0) pe_int) pa_nil)) pe_int) (fun _ _ => rfl)))
      (pss_cons (ps_if (pt_cmpR op_eq (pe_op op_mod (pe_callTy (T := "int") call_int1 (by rfl) T.b_int (by decide +kernel) (pa_cons (pv 0) pa_nil)) pe_int) pe_int (nomark _)) (pss_cons (ps_set (i := 5) sc_law_name.nd rfl (Or.inl rfl) (pe_op op_add pe_int (pe_op op_mod (pe_callTy (T := "int") call_int1 (by rfl) T.b_int (by decide +kernel) (pa_cons (pe_op op_fdiv (pv 0) pe_int) pa_nil)) pe_int)))
      (pss_cons (ps_set (i := 0) sc_law_name.nd rfl (Or.inl rfl) (pe_op op_fdiv (pv 0) pe_int))
      (pss_cons (ps_set (i := 4) sc_law_name.nd rfl (Or.inl rfl) pe_str)
      (pss_one (ps_for PassesOwn.never rfl (pi_range1 rfl T.b_range (pa_cons (pv 5) pa_nil)) (pg_name (i := 6) sc_law_name.nd rfl (Or.inl rfl)) (pss_cons (ps_set (i := 4) sc_law_name.nd rfl (Or.inl rfl) (pe_op op_add_str (pv 4) (pe_ix ix_str pe_str (pe_op op_mod (pe_callTy (T := "int") call_int1 (by rfl) T.b_int (by decide +kernel) (pa_cons (pv 0) pa_nil)) pe_int) (fun _ _ => rfl))))
      (pss_one (ps_set (i := 0) sc_law_name.nd rfl (Or.inl rfl) (pe_op op_fdiv (pv 0) pe_int))))))))) pss_nil)
      ht)))), ?_⟩
    try simp (maxSteps := 1000000) only [tSeq, tIfS, tTest, tOp, tUn, tCB, tCons, tNil, tVar, tC, rI0, rI, rU, rEq, rNe, tRet, tRetN, tAsg, gName, gSub, tBM, tBM0, tNext, tB, tNot, tAnd, tOr, tIf, tCall, tDrop, tBreak, tCont, L2.start, tDGet, sDPut, tTup, tLst, tDNewK, tRevL, rCat, rAppend, rPop, rSetL, tAndV, tOrV, tNotV, tSl, tPart, tNoPart, tM1, gTup, gCons, gNil, cxK, cxnK, List.map_cons, List.map_nil, List.length_cons, List.length_nil, List.replicate, List.cons_append, List.nil_append, List.append_nil, List.set_cons_zero, List.set_cons_succ, List.getElem?_cons_zero, List.getElem?_cons_succ, Option.some.injEq, V.ref.injEq, V.int.injEq, V.str.injEq, V.bl.injEq, V.ty.injEq, exists_eq_left', exists_eq_left, exists_and_left, List.cons.injEq, and_true, true_and, sc_ii, sc_ss, sc_bb, sc_ni, sc_in, sc_is, sc_si, sc_nn, decide_true, decide_false, reduceCtorEq, Bool.false_eq_true, if_true, if_false, ite_true, ite_false, exists_const, eq_self, false_and, and_false, or_false, false_or, exists_false, Evl.rLenS, rSum, wipe, tYes, exists_eq, exists_eq', rIxL, rIxT, rIxS, exists_and_right, gt_iff_lt, not_true_eq_false, not_false_eq_true, Bool.not_true, Bool.not_false, decide_eq_true_eq, Nat.reduceSub, Nat.reduceAdd, List.append_assoc, tChain, tDIn, tDNotIn, sDDel, tAug, ipI]
    refine ⟨small (by decide), fun b1 nb1 => ?_⟩
    have ab : a ≠ b1 := ne_of_none hS nb1
    refine ⟨_, upd_same, _, by rw [upd_ne ab]; exact hS, by rw [List.length_map]; exact small (show 7 + zs.length ≤ 100000 by omega), fun p np => ?_⟩
    refine ⟨by decide +kernel, by decide +kernel, fun l nl => ?_⟩
    have kb : Kp [] H (upd H b1 (.lst (barF.map V.str))) := Kp.new nb1
    have kp := kb.trans (Kp.new (S := []) (o := .lst ((barF ++ zs).map V.str)) np)
    have hp : (upd (upd H b1 (.lst (barF.map V.str))) p (.lst ((barF ++ zs).map V.str))) p = some (.lst ((barF ++ zs).map V.str)) := upd_same
    have eap : barF.map V.str ++ zs.map V.str = (barF ++ zs).map V.str := (List.map_append ..).symm
    have e1 : ([V.str "read", V.str "acquire", V.str "write", V.str "release", V.str "both", V.str "return", V.str "full"] : List V) = barF.map V.str := rfl
    rw [e1, eap] at nl ⊢
    rw [e1] at np
    generalize (upd (upd H b1 (.lst (barF.map V.str))) p (.lst ((barF ++ zs).map V.str))) = H1 at kp hp nl ⊢
    rw [menu_split] at *
    have kl : Kp [] H1 (upd H1 l (.lst (menuL.map V.str))) := Kp.new nl
    obtain ⟨v, hv, ev⟩ := atI_ex (xs := menuL.map V.str) (i := n / 2 % 14) (Int.emod_nonneg _ (by decide)) (Int.emod_lt_of_pos _ (by decide))
    obtain ⟨z, hz, rfl⟩ := List.mem_map.mp hv
    obtain ⟨ez, wz⟩ := menu_wd z hz
    rw [Bool.and_eq_true, Bool.and_eq_true, List.all_eq_true] at wz
    have wd : Wd z.cps.toList := ⟨wz.1, of_decide_eq_true wz.2.1, of_decide_eq_true wz.2.2⟩
    try simp (maxSteps := 1000000) only [tSeq, tIfS, tTest, tOp, tUn, tCB, tCons, tNil, tVar, tC, rI0, rI, rU, rEq, rNe, tRet, tRetN, tAsg, gName, gSub, tBM, tBM0, tNext, tB, tNot, tAnd, tOr, tIf, tCall, tDrop, tBreak, tCont, L2.start, tDGet, sDPut, tTup, tLst, tDNewK, tRevL, rCat, rAppend, rPop, rSetL, tAndV, tOrV, tNotV, tSl, tPart, tNoPart, tM1, gTup, gCons, gNil, cxK, cxnK, List.map_cons, List.map_nil, List.length_cons, List.length_nil, List.replicate, List.cons_append, List.nil_append, List.append_nil, List.set_cons_zero, List.set_cons_succ, List.getElem?_cons_zero, List.getElem?_cons_succ, Option.some.injEq, V.ref.injEq, V.int.injEq, V.str.injEq, V.bl.injEq, V.ty.injEq, exists_eq_left', exists_eq_left, exists_and_left, List.cons.injEq, and_true, true_and, sc_ii, sc_ss, sc_bb, sc_ni, sc_in, sc_is, sc_si, sc_nn, decide_true, decide_false, reduceCtorEq, Bool.false_eq_true, if_true, if_false, ite_true, ite_false, exists_const, eq_self, false_and, and_false, or_false, false_or, exists_false, Evl.rLenS, rSum, wipe, tYes, exists_eq, exists_eq', rIxL, rIxT, rIxS, exists_and_right, gt_iff_lt, not_true_eq_false, not_false_eq_true, Bool.not_true, Bool.not_false, decide_eq_true_eq, Nat.reduceSub, Nat.reduceAdd, List.append_assoc, tChain, tDIn, tDNotIn, sDDel, tAug, ipI]
    refine ⟨⟨by decide, by decide⟩, by decide, _, sq_l upd_same, _, ev, by decide, ?_⟩
    refine ite2 (fun _ => ?_) (fun _ => ?_)
    · obtain ⟨mm, em⟩ : ∃ m : Nat, 1 + n / 2 % 8 = m := ⟨(1 + n / 2 % 8).toNat, by have := Int.emod_nonneg (n / 2) (show (8 : Int) ≠ 0 by decide); omega⟩
      have mm8 : 1 ≤ mm ∧ mm ≤ 8 := by have := Int.emod_lt_of_pos (n / 2) (show (0 : Int) < 8 by decide); have := Int.emod_nonneg (n / 2) (show (8 : Int) ≠ 0 by decide); omega
      rw [em]
      refine ⟨⟨by decide, by decide⟩, by decide, ⟨by decide, by decide⟩, ?_⟩
      refine forN34 mm (by omega) (LeIn a p l mm H1) (fun R h => ?_) ⟨_, [], none, rfl, (fun c h => nomatch h), rfl, kl⟩ (fun j σ H2 hj h => ?_) fun σ H2 h => ?_
      · try simp (maxSteps := 1000000) only [tSeq, tIfS, tTest, tOp, tUn, tCB, tCons, tNil, tVar, tC, rI0, rI, rU, rEq, rNe, tRet, tRetN, tAsg, gName, gSub, tBM, tBM0, tNext, tB, tNot, tAnd, tOr, tIf, tCall, tDrop, tBreak, tCont, L2.start, tDGet, sDPut, tTup, tLst, tDNewK, tRevL, rCat, rAppend, rPop, rSetL, tAndV, tOrV, tNotV, tSl, tPart, tNoPart, tM1, gTup, gCons, gNil, cxK, cxnK, List.map_cons, List.map_nil, List.length_cons, List.length_nil, List.replicate, List.cons_append, List.nil_append, List.append_nil, List.set_cons_zero, List.set_cons_succ, List.getElem?_cons_zero, List.getElem?_cons_succ, Option.some.injEq, V.ref.injEq, V.int.injEq, V.str.injEq, V.bl.injEq, V.ty.injEq, exists_eq_left', exists_eq_left, exists_and_left, List.cons.injEq, and_true, true_and, sc_ii, sc_ss, sc_bb, sc_ni, sc_in, sc_is, sc_si, sc_nn, decide_true, decide_false, reduceCtorEq, Bool.false_eq_true, if_true, if_false, ite_true, ite_false, exists_const, eq_self, false_and, and_false, or_false, false_or, exists_false, Evl.rLenS, rSum, wipe, tYes, exists_eq, exists_eq', rIxL, rIxT, rIxS, exists_and_right, gt_iff_lt, not_true_eq_false, not_false_eq_true, Bool.not_true, Bool.not_false, decide_eq_true_eq, Nat.reduceSub, Nat.reduceAdd, List.append_assoc, tChain, tDIn, tDNotIn, sDDel, tAug, ipI]
        exact h
      · obtain ⟨m, cs, d, rfl, hc, cl, k⟩ := h
        obtain ⟨x, ex⟩ : ∃ x : Nat, m % 26 = x := ⟨(m % 26).toNat, by have := Int.emod_nonneg m (show (26 : Int) ≠ 0 by decide); omega⟩
        have x26 : x < 26 := by have := Int.emod_lt_of_pos m (show (0 : Int) < 26 by decide); omega
        try simp (maxSteps := 1000000) only [tSeq, tIfS, tTest, tOp, tUn, tCB, tCons, tNil, tVar, tC, rI0, rI, rU, rEq, rNe, tRet, tRetN, tAsg, gName, gSub, tBM, tBM0, tNext, tB, tNot, tAnd, tOr, tIf, tCall, tDrop, tBreak, tCont, L2.start, tDGet, sDPut, tTup, tLst, tDNewK, tRevL, rCat, rAppend, rPop, rSetL, tAndV, tOrV, tNotV, tSl, tPart, tNoPart, tM1, gTup, gCons, gNil, cxK, cxnK, List.map_cons, List.map_nil, List.length_cons, List.length_nil, List.replicate, List.cons_append, List.nil_append, List.append_nil, List.set_cons_zero, List.set_cons_succ, List.getElem?_cons_zero, List.getElem?_cons_succ, Option.some.injEq, V.ref.injEq, V.int.injEq, V.str.injEq, V.bl.injEq, V.ty.injEq, exists_eq_left', exists_eq_left, exists_and_left, List.cons.injEq, and_true, true_and, sc_ii, sc_ss, sc_bb, sc_ni, sc_in, sc_is, sc_si, sc_nn, decide_true, decide_false, reduceCtorEq, Bool.false_eq_true, if_true, if_false, ite_true, ite_false, exists_const, eq_self, false_and, and_false, or_false, false_or, exists_false, Evl.rLenS, rSum, wipe, tYes, exists_eq, exists_eq', rIxL, rIxT, rIxS, exists_and_right, gt_iff_lt, not_true_eq_false, not_false_eq_true, Bool.not_true, Bool.not_false, decide_eq_true_eq, Nat.reduceSub, Nat.reduceAdd, List.append_assoc, tChain, tDIn, tDNotIn, sDDel, tAug, ipI]
        have e97 : ({ cps := #[97 + x] } : Str) = tx [97 + x] := rfl
        refine ⟨by decide, by decide +kernel, 97 + x, ?_, ?_, ⟨by decide, by decide⟩, _, cs ++ [97 + x], _, by rw [e97, tx_app], fun c hc2 => ?_, by rw [List.length_append, cl]; rfl, k⟩
        · rw [ex]
          exact atI_nat (lets_at x x26)
        · rw [e97, tx_len, tx_len]
          exact small (show cs.length + 1 ≤ 100000 by omega)
        · rcases List.mem_append.mp hc2 with h | h
          · exact hc c h
          · rw [List.mem_singleton.mp h]
            unfold lowC
            rw [decide_eq_true (by omega), decide_eq_true (by omega)]; rfl
      · obtain ⟨m, cs, d, rfl, hc, cl, k⟩ := h
        exact hq p H1 (sq_l hp) kp _ H2 ⟨_, _, cs, _, _, rfl, ⟨hc, by omega, by omega⟩, k⟩
    · rw [ez]
      exact hq p H1 (sq_l hp) kp _ _ ⟨_, _, _, _, _, rfl, wd, kl⟩
end
end My

set_option Elab.async false
set_option linter.all false
set_option maxRecDepth 100000
set_option maxHeartbeats 4000000
namespace My
open PySem L2 NdefX
abbrev s_law_keeps_refusal : Stmt := top 28
theorem sc_law_keeps_refusal : FnScope ["_law_made", "_law_first", "_law_second", "_law_row_here", "e"] ["_law_made", "_law_first", "_law_second", "_law_row_here"] (defScope s_law_keeps_refusal) := ⟨rfl, rfl, rfl, by decide +kernel, rfl, by decide +kernel, by decide +kernel⟩
structure BtKR (K : PySem.W.Frag) (mg : Str → Option Value) (CE BP NF BF : Addr) : Prop where
  k_CoreError : mg "CoreError" = some (.ref CE)
  k_BadPair : mg "BadPair" = some (.ref BP)
  k_NoFence : mg "NoFence" = some (.ref NF)
  k_BadFence : mg "BadFence" = some (.ref BF)
  XF_BadPair : XfC K BP
  NO_pair : PySem.W.findIn K (.ref BP) "pair" = some none
  XF_NoFence : XfC K NF
  NO_name : PySem.W.findIn K (.ref NF) "name" = some none
  EXp : PySem.W.exmOne K (.ref BP) (.ref CE) = some true
  EXn : PySem.W.exmOne K (.ref NF) (.ref CE) = some true
  KP : KitC K BP
  KN : KitC K NF
  p1 : PySem.W.kitOne K (.ref BP) (.ref BP) = some true
  p2 : PySem.W.kitOne K (.ref BP) (.type "ValueError") = some true
  p3 : PySem.W.kitOne K (.ref BP) (.ref NF) = some false
  n1 : PySem.W.kitOne K (.ref NF) (.ref BP) = some false
  n2 : PySem.W.kitOne K (.ref NF) (.ref NF) = some true
  n3 : PySem.W.kitOne K (.ref NF) (.type "ValueError") = some true
  n4 : PySem.W.kitOne K (.ref NF) (.ref BF) = some false
  b_isinstance : mg "isinstance" = none
  b_ValueError : mg "ValueError" = none
section
variable {P : Program} {w : World} {K : PySem.W.Frag} {mg : Str → Option Value} {base : Heap} {BK PC NF BP CE BF : Addr}
/-- what is told of keeps(a, b, between=zs) by a book with the fences ns -/
def KRef (ns : List Str) (a b : Str) (zs : List Str) (d : PyData) : Prop :=
  ((a, b) ∈ pairsL ∧ (∀ z ∈ zs, nameS z = true ∧ z ∈ ns) ∧ d = .list []) ∨ ((a, b) ∉ pairsL ∧ d = .list [.str "pair", pD (a, b)]) ∨
  ((a, b) ∈ pairsL ∧ ∃ (j : Nat) (z : Str), zs[j]? = some z ∧ (nameS z = false ∨ z ∉ ns) ∧ (∀ (i : Nat) y, i < j → zs[i]? = some y → nameS y = true ∧ y ∈ ns) ∧ d = .list [.str "fence", .str z])
def spKRef (K : PySem.W.Frag) (BK PC : Addr) : Sp := fun vs H Q _ => ∃ (o t : Addr) (f : Pr → Bool) (fs : List (Str × (Pr → Bool))) (a b : Str) (zs : List Str) (d : PyData), vs = [.ref o, .str a, .str b, .ref t] ∧ BookAt K BK PC H o f fs ∧ SqT K H t (zs.map V.str) ∧ zs.length ≤ 1000 ∧ (∀ z ∈ zs, z.length ≤ 1000) ∧ SeqAt.shaped (pD (a, b)) = true ∧ KRef (fs.map (·.1)) a b zs d ∧
  ∀ (l : Addr) (H' : Hp), Dp K H' (.ref l) d → Kp [] H H' → Q (.ref l) H'
theorem ok_law_keeps_refusal {f : Addr} {fd : FuncData} (D : Df K mg "_law_keeps_refusal" s_law_keeps_refusal ["_law_made", "_law_first", "_law_second", "_law_row_here"] f fd) (T : BtKR K mg CE BP NF BF) (B : BkC K mg BK) {fK : Addr} {fdK : FuncData} {g : List Value → List Value → List Value}
    (ME_Book_keeps : Meth K BK "keeps" fK) (kb_Book_keeps_between : KBn K fdK ["self", "first", "second", "between"] 3 ["between"] g (fun vs zs => vs ++ zs)) (G_Book_keeps : FnOk P w K mg base (L2.CX P w) 4 fK fdK ["self", "first", "second", "between"] (spKeeps K BK PC BP NF)) : FnOk P w K mg base CX0 5 f fd ["_law_made", "_law_first", "_law_second", "_law_row_here"] (spKRef K BK PC) := by
  refine D.F.ok sc_law_keeps_refusal (fun vs H Q E h => ?_) (fun cdv A outer s H vs Q E hr h => ?_)
  · obtain ⟨_, _, _, _, _, _, _, _, rfl, _⟩ := h
    rfl
  · obtain ⟨o, t, ff, fs, a, b, zs, dd, rfl, hB, hT, zl, zn, sh, hR, q⟩ := h
    have XF_NoFence := T.XF_NoFence
    have XF_BadPair := T.XF_BadPair
    have NO_name := T.NO_name
    have NO_pair := T.NO_pair
    refine ⟨_, (pss_cons (ps_try_as (i := 4) rfl rfl sc_law_keeps_refusal.nd rfl rfl ⟨rfl, by decide, .inl T.k_CoreError⟩ takes0 (fun W pn xe tk _ => (pss_one (ps_expr (pe_methNT (n := 2) B.cl ME_Book_keeps G_Book_keeps (hr.mono (by decide)) kb_Book_keeps_between (fun σ => passAt tk σ) (pv 0) (pa_cons (pv 1) (pa_cons (pv 2) pa_nil)) (pk_cons (pv 3) pk_nil))))) (fun a oe cls d pn hz hf => (pss_cons (ps_if (PW.pt (pw_and (pt_val (pe_callB (id := "isinstance") (r := rIsX K a cls d) (call_isX hz hf) (by rfl) T.b_isinstance (by decide +kernel) (pa_cons (pv 4) (pa_cons (pe_glob (v := .ref BP) rfl T.k_BadPair rfl) pa_nil)))) (pw_and (pt_val (pe_callB (id := "isinstance") (r := rIsX K a cls d) (call_isX hz hf) (by rfl) T.b_isinstance (by decide +kernel) (pa_cons (pv 4) (pa_cons (pe_bltn (v := .ty "ValueError") (by rfl) T.b_ValueError (by decide +kernel) rfl) pa_nil)))) (pw_and1 (pt_not (pt_val (pe_callB (id := "isinstance") (r := rIsX K a cls d) (call_isX hz hf) (by rfl) T.b_isinstance (by decide +kernel) (pa_cons (pv 4) (pa_cons (pe_glob (v := .ref NF) rfl T.k_NoFence rfl) pa_nil))))))))) (pss_one (ps_ret (pe_lst (pa_cons pe_str (pa_cons (pe_xf XF_BadPair NO_pair hz hf (pv 4)) pa_nil))))) pss_nil)
      (pss_one (ps_if (PW.pt (pw_and (pt_val (pe_callB (id := "isinstance") (r := rIsX K a cls d) (call_isX hz hf) (by rfl) T.b_isinstance (by decide +kernel) (pa_cons (pv 4) (pa_cons (pe_glob (v := .ref NF) rfl T.k_NoFence rfl) pa_nil)))) (pw_and (pt_val (pe_callB (id := "isinstance") (r := rIsX K a cls d) (call_isX hz hf) (by rfl) T.b_isinstance (by decide +kernel) (pa_cons (pv 4) (pa_cons (pe_bltn (v := .ty "ValueError") (by rfl) T.b_ValueError (by decide +kernel) rfl) pa_nil)))) (pw_and1 (pt_not (pt_val (pe_callB (id := "isinstance") (r := rIsX K a cls d) (call_isX hz hf) (by rfl) T.b_isinstance (by decide +kernel) (pa_cons (pv 4) (pa_cons (pe_glob (v := .ref BF) rfl T.k_BadFence rfl) pa_nil))))))))) (pss_one (ps_ret (pe_lst (pa_cons pe_str (pa_cons (pe_xf XF_NoFence NO_name hz hf (pv 4)) pa_nil))))) pss_nil)))))
      (pss_one (ps_ret (pe_lst pa_nil)))), ?_⟩
    obtain ⟨dx, ko, d, kvs, ho, hk, hd, hf, fl, nd⟩ := id hB
    try simp (maxSteps := 1000000) only [tSeq, tIfS, tTest, tOp, tUn, tCB, tCons, tNil, tVar, tC, rI0, rI, rU, rEq, rNe, tRet, tRetN, tAsg, gName, gSub, tBM, tBM0, tNext, tB, tNot, tAnd, tOr, tIf, tCall, tDrop, tBreak, tCont, L2.start, tDGet, sDPut, tTup, tLst, tDNewK, tRevL, rCat, rAppend, rPop, rSetL, tAndV, tOrV, tNotV, tSl, tPart, tNoPart, tM1, gTup, gCons, gNil, cxK, cxnK, List.map_cons, List.map_nil, List.length_cons, List.length_nil, List.replicate, List.cons_append, List.nil_append, List.append_nil, List.set_cons_zero, List.set_cons_succ, List.getElem?_cons_zero, List.getElem?_cons_succ, Option.some.injEq, V.ref.injEq, V.int.injEq, V.str.injEq, V.bl.injEq, V.ty.injEq, exists_eq_left', exists_eq_left, exists_and_left, List.cons.injEq, and_true, true_and, sc_ii, sc_ss, sc_bb, sc_ni, sc_in, sc_is, sc_si, sc_nn, decide_true, decide_false, reduceCtorEq, Bool.false_eq_true, if_true, if_false, ite_true, ite_false, exists_const, eq_self, false_and, and_false, or_false, false_or, exists_false, Evl.rLenS, rSum, wipe, tYes, exists_eq, exists_eq', rIxL, rIxT, rIxS, exists_and_right, gt_iff_lt, not_true_eq_false, not_false_eq_true, Bool.not_true, Bool.not_false, decide_eq_true_eq, Nat.reduceSub, Nat.reduceAdd, List.append_assoc, tChain, tDIn, tDNotIn, sDDel, tAug, ipI, tMethNT]
    refine ⟨dx, _, ho, rfl, o, t, ff, fs, a, b, zs, rfl, hB, hT, zl, zn, sh, fun gs hm gl hg H' k => ⟨small (by decide), fun p np => ?_⟩, fun hm v e H' ne he hv k => ?_, fun j z hm ez bad prev e H' ne he k => ?_⟩
    · rcases hR with ⟨_, _, rfl⟩ | ⟨h1, _⟩ | ⟨_, j, z, ez, bad, _, _⟩
      · exact q p _ (.lst (sq_l upd_same) .nil) (k.trans (Kp.new np))
      · exact absurd hm h1
      · obtain ⟨n1, i, g, eg, _⟩ := hg j z ez
        rcases bad with h | h
        · rw [n1] at h; cases h
        · exact absurd (List.mem_map_of_mem (f := (·.1)) (List.mem_of_getElem? eg)) h
    · rcases hR with ⟨h1, _, _⟩ | ⟨_, rfl⟩ | ⟨h1, _⟩
      · exact absurd h1 hm
      · refine ⟨true, T.EXp, fun _ x nx => ?_, fun z => by cases z⟩
        try simp (maxSteps := 1000000) only [tSeq, tIfS, tTest, tOp, tUn, tCB, tCons, tNil, tVar, tC, rI0, rI, rU, rEq, rNe, tRet, tRetN, tAsg, gName, gSub, tBM, tBM0, tNext, tB, tNot, tAnd, tOr, tIf, tCall, tDrop, tBreak, tCont, L2.start, tDGet, sDPut, tTup, tLst, tDNewK, tRevL, rCat, rAppend, rPop, rSetL, tAndV, tOrV, tNotV, tSl, tPart, tNoPart, tM1, gTup, gCons, gNil, cxK, cxnK, List.map_cons, List.map_nil, List.length_cons, List.length_nil, List.replicate, List.cons_append, List.nil_append, List.append_nil, List.set_cons_zero, List.set_cons_succ, List.getElem?_cons_zero, List.getElem?_cons_succ, Option.some.injEq, V.ref.injEq, V.int.injEq, V.str.injEq, V.bl.injEq, V.ty.injEq, exists_eq_left', exists_eq_left, exists_and_left, List.cons.injEq, and_true, true_and, sc_ii, sc_ss, sc_bb, sc_ni, sc_in, sc_is, sc_si, sc_nn, decide_true, decide_false, reduceCtorEq, Bool.false_eq_true, if_true, if_false, ite_true, ite_false, exists_const, eq_self, false_and, and_false, or_false, false_or, exists_false, Evl.rLenS, rSum, wipe, tYes, exists_eq, exists_eq', rIxL, rIxT, rIxS, exists_and_right, gt_iff_lt, not_true_eq_false, not_false_eq_true, Bool.not_true, Bool.not_false, decide_eq_true_eq, Nat.reduceSub, Nat.reduceAdd, List.append_assoc, tChain, tDIn, tDNotIn, sDDel, tAug, ipI, tXf]
        refine ⟨.ref BP, .ref BP, true, BP, e, _, rfl, fun u h => h, rfl, rfl, he, T.KP, T.p1, true, rfl, ?_⟩
        try simp (maxSteps := 1000000) only [tSeq, tIfS, tTest, tOp, tUn, tCB, tCons, tNil, tVar, tC, rI0, rI, rU, rEq, rNe, tRet, tRetN, tAsg, gName, gSub, tBM, tBM0, tNext, tB, tNot, tAnd, tOr, tIf, tCall, tDrop, tBreak, tCont, L2.start, tDGet, sDPut, tTup, tLst, tDNewK, tRevL, rCat, rAppend, rPop, rSetL, tAndV, tOrV, tNotV, tSl, tPart, tNoPart, tM1, gTup, gCons, gNil, cxK, cxnK, List.map_cons, List.map_nil, List.length_cons, List.length_nil, List.replicate, List.cons_append, List.nil_append, List.append_nil, List.set_cons_zero, List.set_cons_succ, List.getElem?_cons_zero, List.getElem?_cons_succ, Option.some.injEq, V.ref.injEq, V.int.injEq, V.str.injEq, V.bl.injEq, V.ty.injEq, exists_eq_left', exists_eq_left, exists_and_left, List.cons.injEq, and_true, true_and, sc_ii, sc_ss, sc_bb, sc_ni, sc_in, sc_is, sc_si, sc_nn, decide_true, decide_false, reduceCtorEq, Bool.false_eq_true, if_true, if_false, ite_true, ite_false, exists_const, eq_self, false_and, and_false, or_false, false_or, exists_false, Evl.rLenS, rSum, wipe, tYes, exists_eq, exists_eq', rIxL, rIxT, rIxS, exists_and_right, gt_iff_lt, not_true_eq_false, not_false_eq_true, Bool.not_true, Bool.not_false, decide_eq_true_eq, Nat.reduceSub, Nat.reduceAdd, List.append_assoc, tChain, tDIn, tDNotIn, sDDel, tAug, ipI]
        refine ⟨.ty "ValueError", .type "ValueError", true, BP, e, _, rfl, fun u h => h, rfl, rfl, he, T.KP, T.p2, true, rfl, ?_⟩
        try simp (maxSteps := 1000000) only [tSeq, tIfS, tTest, tOp, tUn, tCB, tCons, tNil, tVar, tC, rI0, rI, rU, rEq, rNe, tRet, tRetN, tAsg, gName, gSub, tBM, tBM0, tNext, tB, tNot, tAnd, tOr, tIf, tCall, tDrop, tBreak, tCont, L2.start, tDGet, sDPut, tTup, tLst, tDNewK, tRevL, rCat, rAppend, rPop, rSetL, tAndV, tOrV, tNotV, tSl, tPart, tNoPart, tM1, gTup, gCons, gNil, cxK, cxnK, List.map_cons, List.map_nil, List.length_cons, List.length_nil, List.replicate, List.cons_append, List.nil_append, List.append_nil, List.set_cons_zero, List.set_cons_succ, List.getElem?_cons_zero, List.getElem?_cons_succ, Option.some.injEq, V.ref.injEq, V.int.injEq, V.str.injEq, V.bl.injEq, V.ty.injEq, exists_eq_left', exists_eq_left, exists_and_left, List.cons.injEq, and_true, true_and, sc_ii, sc_ss, sc_bb, sc_ni, sc_in, sc_is, sc_si, sc_nn, decide_true, decide_false, reduceCtorEq, Bool.false_eq_true, if_true, if_false, ite_true, ite_false, exists_const, eq_self, false_and, and_false, or_false, false_or, exists_false, Evl.rLenS, rSum, wipe, tYes, exists_eq, exists_eq', rIxL, rIxT, rIxS, exists_and_right, gt_iff_lt, not_true_eq_false, not_false_eq_true, Bool.not_true, Bool.not_false, decide_eq_true_eq, Nat.reduceSub, Nat.reduceAdd, List.append_assoc, tChain, tDIn, tDNotIn, sDDel, tAug, ipI]
        refine ⟨.ref NF, .ref NF, false, BP, e, _, rfl, fun u h => h, rfl, rfl, he, T.KP, T.p3, false, rfl, ?_⟩
        try simp (maxSteps := 1000000) only [tSeq, tIfS, tTest, tOp, tUn, tCB, tCons, tNil, tVar, tC, rI0, rI, rU, rEq, rNe, tRet, tRetN, tAsg, gName, gSub, tBM, tBM0, tNext, tB, tNot, tAnd, tOr, tIf, tCall, tDrop, tBreak, tCont, L2.start, tDGet, sDPut, tTup, tLst, tDNewK, tRevL, rCat, rAppend, rPop, rSetL, tAndV, tOrV, tNotV, tSl, tPart, tNoPart, tM1, gTup, gCons, gNil, cxK, cxnK, List.map_cons, List.map_nil, List.length_cons, List.length_nil, List.replicate, List.cons_append, List.nil_append, List.append_nil, List.set_cons_zero, List.set_cons_succ, List.getElem?_cons_zero, List.getElem?_cons_succ, Option.some.injEq, V.ref.injEq, V.int.injEq, V.str.injEq, V.bl.injEq, V.ty.injEq, exists_eq_left', exists_eq_left, exists_and_left, List.cons.injEq, and_true, true_and, sc_ii, sc_ss, sc_bb, sc_ni, sc_in, sc_is, sc_si, sc_nn, decide_true, decide_false, reduceCtorEq, Bool.false_eq_true, if_true, if_false, ite_true, ite_false, exists_const, eq_self, false_and, and_false, or_false, false_or, exists_false, Evl.rLenS, rSum, wipe, tYes, exists_eq, exists_eq', rIxL, rIxT, rIxS, exists_and_right, gt_iff_lt, not_true_eq_false, not_false_eq_true, Bool.not_true, Bool.not_false, decide_eq_true_eq, Nat.reduceSub, Nat.reduceAdd, List.append_assoc, tChain, tDIn, tDNotIn, sDDel, tAug, ipI]
        refine ⟨_, he, _, rfl, small (by decide), fun p np => q p _ ?_ (k.trans (Kp.new np))⟩
        exact .lst (sq_l upd_same) (.cons (.str _) (.cons (dpN (Kp.new np) noSq0 hv) .nil))
      · exact absurd h1 hm
    · rcases hR with ⟨_, h1, _⟩ | ⟨h1, _⟩ | ⟨_, j2, z2, ez2, bad2, prev2, rfl⟩
      · have := h1 z (List.mem_of_getElem? ez)
        rcases bad with h | h
        · rw [this.1] at h; cases h
        · exact absurd this.2 h
      · exact absurd hm h1
      · have jj : j = j2 := by
          rcases Nat.lt_trichotomy j j2 with h | h | h
          · have := prev2 j z h ez
            rcases bad with b | b
            · rw [this.1] at b; cases b
            · exact absurd this.2 b
          · exact h
          · have := prev j2 z2 h ez2
            rcases bad2 with b | b
            · rw [this.1] at b; cases b
            · exact absurd this.2 b
        subst jj
        rw [ez] at ez2
        cases ez2
        refine ⟨true, T.EXn, fun _ x nx => ?_, fun z => by cases z⟩
        try simp (maxSteps := 1000000) only [tSeq, tIfS, tTest, tOp, tUn, tCB, tCons, tNil, tVar, tC, rI0, rI, rU, rEq, rNe, tRet, tRetN, tAsg, gName, gSub, tBM, tBM0, tNext, tB, tNot, tAnd, tOr, tIf, tCall, tDrop, tBreak, tCont, L2.start, tDGet, sDPut, tTup, tLst, tDNewK, tRevL, rCat, rAppend, rPop, rSetL, tAndV, tOrV, tNotV, tSl, tPart, tNoPart, tM1, gTup, gCons, gNil, cxK, cxnK, List.map_cons, List.map_nil, List.length_cons, List.length_nil, List.replicate, List.cons_append, List.nil_append, List.append_nil, List.set_cons_zero, List.set_cons_succ, List.getElem?_cons_zero, List.getElem?_cons_succ, Option.some.injEq, V.ref.injEq, V.int.injEq, V.str.injEq, V.bl.injEq, V.ty.injEq, exists_eq_left', exists_eq_left, exists_and_left, List.cons.injEq, and_true, true_and, sc_ii, sc_ss, sc_bb, sc_ni, sc_in, sc_is, sc_si, sc_nn, decide_true, decide_false, reduceCtorEq, Bool.false_eq_true, if_true, if_false, ite_true, ite_false, exists_const, eq_self, false_and, and_false, or_false, false_or, exists_false, Evl.rLenS, rSum, wipe, tYes, exists_eq, exists_eq', rIxL, rIxT, rIxS, exists_and_right, gt_iff_lt, not_true_eq_false, not_false_eq_true, Bool.not_true, Bool.not_false, decide_eq_true_eq, Nat.reduceSub, Nat.reduceAdd, List.append_assoc, tChain, tDIn, tDNotIn, sDDel, tAug, ipI, tXf]
        refine ⟨.ref BP, .ref BP, false, NF, e, _, rfl, fun u h => h, rfl, rfl, he, T.KN, T.n1, false, rfl, ?_⟩
        try simp (maxSteps := 1000000) only [tSeq, tIfS, tTest, tOp, tUn, tCB, tCons, tNil, tVar, tC, rI0, rI, rU, rEq, rNe, tRet, tRetN, tAsg, gName, gSub, tBM, tBM0, tNext, tB, tNot, tAnd, tOr, tIf, tCall, tDrop, tBreak, tCont, L2.start, tDGet, sDPut, tTup, tLst, tDNewK, tRevL, rCat, rAppend, rPop, rSetL, tAndV, tOrV, tNotV, tSl, tPart, tNoPart, tM1, gTup, gCons, gNil, cxK, cxnK, List.map_cons, List.map_nil, List.length_cons, List.length_nil, List.replicate, List.cons_append, List.nil_append, List.append_nil, List.set_cons_zero, List.set_cons_succ, List.getElem?_cons_zero, List.getElem?_cons_succ, Option.some.injEq, V.ref.injEq, V.int.injEq, V.str.injEq, V.bl.injEq, V.ty.injEq, exists_eq_left', exists_eq_left, exists_and_left, List.cons.injEq, and_true, true_and, sc_ii, sc_ss, sc_bb, sc_ni, sc_in, sc_is, sc_si, sc_nn, decide_true, decide_false, reduceCtorEq, Bool.false_eq_true, if_true, if_false, ite_true, ite_false, exists_const, eq_self, false_and, and_false, or_false, false_or, exists_false, Evl.rLenS, rSum, wipe, tYes, exists_eq, exists_eq', rIxL, rIxT, rIxS, exists_and_right, gt_iff_lt, not_true_eq_false, not_false_eq_true, Bool.not_true, Bool.not_false, decide_eq_true_eq, Nat.reduceSub, Nat.reduceAdd, List.append_assoc, tChain, tDIn, tDNotIn, sDDel, tAug, ipI]
        refine ⟨.ref NF, .ref NF, true, NF, e, _, rfl, fun u h => h, rfl, rfl, he, T.KN, T.n2, true, rfl, ?_⟩
        try simp (maxSteps := 1000000) only [tSeq, tIfS, tTest, tOp, tUn, tCB, tCons, tNil, tVar, tC, rI0, rI, rU, rEq, rNe, tRet, tRetN, tAsg, gName, gSub, tBM, tBM0, tNext, tB, tNot, tAnd, tOr, tIf, tCall, tDrop, tBreak, tCont, L2.start, tDGet, sDPut, tTup, tLst, tDNewK, tRevL, rCat, rAppend, rPop, rSetL, tAndV, tOrV, tNotV, tSl, tPart, tNoPart, tM1, gTup, gCons, gNil, cxK, cxnK, List.map_cons, List.map_nil, List.length_cons, List.length_nil, List.replicate, List.cons_append, List.nil_append, List.append_nil, List.set_cons_zero, List.set_cons_succ, List.getElem?_cons_zero, List.getElem?_cons_succ, Option.some.injEq, V.ref.injEq, V.int.injEq, V.str.injEq, V.bl.injEq, V.ty.injEq, exists_eq_left', exists_eq_left, exists_and_left, List.cons.injEq, and_true, true_and, sc_ii, sc_ss, sc_bb, sc_ni, sc_in, sc_is, sc_si, sc_nn, decide_true, decide_false, reduceCtorEq, Bool.false_eq_true, if_true, if_false, ite_true, ite_false, exists_const, eq_self, false_and, and_false, or_false, false_or, exists_false, Evl.rLenS, rSum, wipe, tYes, exists_eq, exists_eq', rIxL, rIxT, rIxS, exists_and_right, gt_iff_lt, not_true_eq_false, not_false_eq_true, Bool.not_true, Bool.not_false, decide_eq_true_eq, Nat.reduceSub, Nat.reduceAdd, List.append_assoc, tChain, tDIn, tDNotIn, sDDel, tAug, ipI]
        refine ⟨.ty "ValueError", .type "ValueError", true, NF, e, _, rfl, fun u h => h, rfl, rfl, he, T.KN, T.n3, true, rfl, ?_⟩
        try simp (maxSteps := 1000000) only [tSeq, tIfS, tTest, tOp, tUn, tCB, tCons, tNil, tVar, tC, rI0, rI, rU, rEq, rNe, tRet, tRetN, tAsg, gName, gSub, tBM, tBM0, tNext, tB, tNot, tAnd, tOr, tIf, tCall, tDrop, tBreak, tCont, L2.start, tDGet, sDPut, tTup, tLst, tDNewK, tRevL, rCat, rAppend, rPop, rSetL, tAndV, tOrV, tNotV, tSl, tPart, tNoPart, tM1, gTup, gCons, gNil, cxK, cxnK, List.map_cons, List.map_nil, List.length_cons, List.length_nil, List.replicate, List.cons_append, List.nil_append, List.append_nil, List.set_cons_zero, List.set_cons_succ, List.getElem?_cons_zero, List.getElem?_cons_succ, Option.some.injEq, V.ref.injEq, V.int.injEq, V.str.injEq, V.bl.injEq, V.ty.injEq, exists_eq_left', exists_eq_left, exists_and_left, List.cons.injEq, and_true, true_and, sc_ii, sc_ss, sc_bb, sc_ni, sc_in, sc_is, sc_si, sc_nn, decide_true, decide_false, reduceCtorEq, Bool.false_eq_true, if_true, if_false, ite_true, ite_false, exists_const, eq_self, false_and, and_false, or_false, false_or, exists_false, Evl.rLenS, rSum, wipe, tYes, exists_eq, exists_eq', rIxL, rIxT, rIxS, exists_and_right, gt_iff_lt, not_true_eq_false, not_false_eq_true, Bool.not_true, Bool.not_false, decide_eq_true_eq, Nat.reduceSub, Nat.reduceAdd, List.append_assoc, tChain, tDIn, tDNotIn, sDDel, tAug, ipI]
        refine ⟨.ref BF, .ref BF, false, NF, e, _, rfl, fun u h => h, rfl, rfl, he, T.KN, T.n4, false, rfl, ?_⟩
        try simp (maxSteps := 1000000) only [tSeq, tIfS, tTest, tOp, tUn, tCB, tCons, tNil, tVar, tC, rI0, rI, rU, rEq, rNe, tRet, tRetN, tAsg, gName, gSub, tBM, tBM0, tNext, tB, tNot, tAnd, tOr, tIf, tCall, tDrop, tBreak, tCont, L2.start, tDGet, sDPut, tTup, tLst, tDNewK, tRevL, rCat, rAppend, rPop, rSetL, tAndV, tOrV, tNotV, tSl, tPart, tNoPart, tM1, gTup, gCons, gNil, cxK, cxnK, List.map_cons, List.map_nil, List.length_cons, List.length_nil, List.replicate, List.cons_append, List.nil_append, List.append_nil, List.set_cons_zero, List.set_cons_succ, List.getElem?_cons_zero, List.getElem?_cons_succ, Option.some.injEq, V.ref.injEq, V.int.injEq, V.str.injEq, V.bl.injEq, V.ty.injEq, exists_eq_left', exists_eq_left, exists_and_left, List.cons.injEq, and_true, true_and, sc_ii, sc_ss, sc_bb, sc_ni, sc_in, sc_is, sc_si, sc_nn, decide_true, decide_false, reduceCtorEq, Bool.false_eq_true, if_true, if_false, ite_true, ite_false, exists_const, eq_self, false_and, and_false, or_false, false_or, exists_false, Evl.rLenS, rSum, wipe, tYes, exists_eq, exists_eq', rIxL, rIxT, rIxS, exists_and_right, gt_iff_lt, not_true_eq_false, not_false_eq_true, Bool.not_true, Bool.not_false, decide_eq_true_eq, Nat.reduceSub, Nat.reduceAdd, List.append_assoc, tChain, tDIn, tDNotIn, sDDel, tAug, ipI]
        refine ⟨_, he, _, rfl, small (by decide), fun p np => q p _ (.lst (sq_l upd_same) (.cons (.str _) (.cons (.str _) .nil))) (k.trans (Kp.new np))⟩
end
end My

set_option Elab.async false
set_option linter.all false
set_option maxRecDepth 100000
set_option maxHeartbeats 4000000
namespace My
open PySem L2 NdefX
abbrev s_law_book_refusal : Stmt := top 30
theorem sc_law_book_refusal : FnScope ["_law_kept", "_law_table", "_law_handed", "_law_name_here", "e"] ["_law_kept", "_law_table"] (defScope s_law_book_refusal) := ⟨rfl, rfl, rfl, by decide +kernel, rfl, by decide +kernel, by decide +kernel⟩
def rLstOf (K : PySem.W.Frag) : List V → Hp → VK → Prop := fun xs H Q => ∃ p ys, xs = [V.ref p] ∧ (SqL K H p ys ∨ SqT K H p ys) ∧ ∀ (l : Addr), H l = none → Q (V.ref l) (upd H l (HO.lst ys))
abbrev Fnc := List (Str × (Pr → Bool))
/-- at d a dict of the law's: names, and for each a list of some pairs -/
def TabL (K : PySem.W.Frag) (H : Hp) (d : Addr) (fs : Fnc) : Prop := ∃ kvs : List (Key × V), H d = some (.dK kvs) ∧ kvs.map (·.1) = fs.map (fun x => (Sum.inr x.1 : Key)) ∧ ∀ (i : Nat) (n : Str) (g : Pr → Bool), fs[i]? = some (n, g) → ∃ l, kvs[i]? = some (Sum.inr n, V.ref l) ∧ SelAt K H l g
theorem SelAt.kp {K : PySem.W.Frag} {H H' : Hp} {l : Addr} {f : Pr → Bool} (h : SelAt K H l f) (k : Kp [] H H') : SelAt K H' l f := by
  obtain ⟨ws, a, b⟩ := h
  exact ⟨ws, k _ _ not0 a, dpAllN k noSq0 b⟩
theorem TabL.kp {K : PySem.W.Frag} {H H' : Hp} {d : Addr} {fs : Fnc} (h : TabL K H d fs) (k : Kp [] H H') : TabL K H' d fs := by
  obtain ⟨kvs, a, b, c⟩ := h
  exact ⟨kvs, k _ _ not0 a, b, fun i n g e => by
    obtain ⟨l, e1, e2⟩ := c i n g e
    exact ⟨l, e1, e2.kp k⟩⟩
theorem nodupK {kvs : List (Key × V)} {fs : Fnc} (e : kvs.map (·.1) = fs.map (fun x => (Sum.inr x.1 : Key))) (nd : (fs.map (·.1)).Nodup) : (kvs.map (·.1)).Nodup := by
  have e : kvs.map (·.1) = (fs.map (·.1)).map Sum.inr := by rw [e, List.map_map]; rfl
  rw [e]
  exact (List.Pairwise.map _ (fun a b h z => h (Sum.inr.inj z)) nd)
theorem keysLen {kvs : List (Key × V)} {fs : Fnc} (e : kvs.map (·.1) = fs.map (fun x => (Sum.inr x.1 : Key))) : kvs.length = fs.length := by
  have := congrArg List.length e
  simpa using this
theorem putNew {kvs : List (Key × V)} {fs : Fnc} {n : Str} {v : V} (e : kvs.map (·.1) = fs.map (fun x => (Sum.inr x.1 : Key))) (h : n ∉ fs.map (·.1)) : putK kvs (Sum.inr n) v = kvs ++ [(Sum.inr n, v)] := by
  unfold putK
  rw [if_neg]
  intro h2
  obtain ⟨kv, hkv, e2⟩ := List.any_eq_true.mp h2
  have hm : (Sum.inr n : Key) ∈ kvs.map (·.1) := by rw [← of_decide_eq_true e2]; exact List.mem_map_of_mem hkv
  rw [e] at hm
  obtain ⟨x, hx, e3⟩ := List.mem_map.mp hm
  exact h (by rw [← Sum.inr.inj e3]; exact List.mem_map_of_mem hx)
theorem Fen.put {K : PySem.W.Frag} {PC : Addr} {H : Hp} {kvs : List (Key × V)} {fs : Fnc} {n : Str} {g : Pr → Bool} {q : Addr} (h : Fen K PC H kvs fs) (hn : n ∉ fs.map (·.1)) (hq : PrAt K PC H q g) : putK kvs (Sum.inr n) (V.ref q) = kvs ++ [(Sum.inr n, V.ref q)] ∧ Fen K PC H (kvs ++ [(Sum.inr n, V.ref q)]) (fs ++ [(n, g)]) := by
  have kl := keysLen h.1
  refine ⟨putNew h.1 hn, by rw [List.map_append, List.map_append, h.1]; rfl, fun i m g2 ei => ?_⟩
  by_cases il : i < fs.length
  · rw [List.getElem?_append_left il] at ei
    obtain ⟨y, e1, e2⟩ := h.2 i m g2 ei
    exact ⟨y, by rw [List.getElem?_append_left (by omega)]; exact e1, e2⟩
  · rw [List.getElem?_append_right (by omega)] at ei
    have i0 : i - fs.length = 0 := by
      cases e : i - fs.length with
      | zero => rfl
      | succ m => rw [e] at ei; cases ei
    rw [i0] at ei
    cases ei
    exact ⟨q, by rw [List.getElem?_append_right (by omega), kl, i0]; rfl, hq⟩
theorem SelAt.kpN {K : PySem.W.Frag} {H H' : Hp} {S : List Addr} {l : Addr} {f : Pr → Bool} (h : SelAt K H l f) (k : Kp S H H') (n : NoSq H S) : SelAt K H' l f := by
  obtain ⟨ws, a, b⟩ := h
  exact ⟨ws, k _ _ (fun hm => (n l hm).1 ws a) a, dpAllN k n b⟩
theorem PrAt.unf {K : PySem.W.Frag} {PC : Addr} {H : Hp} {d q : Addr} {o : Obj} {kvs : List (Key × V)} {u : HO} {g : Pr → Bool} (h : PrAt K PC H q g) (hd : H d = some (.frz o (.dK kvs))) : PrAt K PC (upd H d u) q g := by
  obtain ⟨dx, l, vs, a, b, c⟩ := h
  exact ⟨dx, l, vs, by rw [upd_ne (fun e => by rw [e, hd] at a; cases a)]; exact a, by rw [upd_ne (fun e => by rw [e, hd] at b; cases b)]; exact b, dpAllM (unfL hd) (unfT hd) c⟩
theorem Fen.unf {K : PySem.W.Frag} {PC : Addr} {H : Hp} {d : Addr} {o : Obj} {kvs ks : List (Key × V)} {u : HO} {fs : Fnc} (h : Fen K PC H ks fs) (hd : H d = some (.frz o (.dK kvs))) : Fen K PC (upd H d u) ks fs := ⟨h.1, fun i n g e => by
  obtain ⟨q, a, b⟩ := h.2 i n g e
  exact ⟨q, a, b.unf hd⟩⟩
theorem pick_same {g : Pr → Bool} : ∀ p ∈ pairsL, pick ((pairsL.filter g).map pD) p = g p := fun p hp => pick_eq hp
/-- Pairs(a list of some pairs) -/
theorem mkSel {K : PySem.W.Frag} {PC BP : Addr} {ta : TA} {σ : L2.St} {H : Hp} {Q : VK} {g : Pr → Bool} (ht : ∀ R : List V → Hp → Prop, (∀ D ws H1, SqAny K H1 D ws → DpAll K H1 ws ((pairsL.filter g).map pD) → Kp [] H H1 → R [.ref D] H1) → ta σ H R)
    (q : ∀ o H', H o = none → PrAt K PC H' o g → Kp [] H H' → Q (.ref o) H') : tMake PC (spPI K PC BP) [] E0 ta σ H Q :=
  ht _ fun D ws H1 hD hd k => pr_make hD hd (fitsP (subP _)) (by rw [List.length_map]; exact Nat.le_trans (lenP _) (by decide)) (all_isP (subP _)) fun o H' no hp hk => q o H' (k.free0 no) (hp.same pick_same) (k.trans hk)
theorem mkSelS {K : PySem.W.Frag} {PC BP : Addr} {ta : TA} {σ : L2.St} {H : Hp} {Q : VK} {E : L2.St → XK} {g : Pr → Bool} (ht : ∀ R : List V → Hp → Prop, (∀ D ws H1, SqAny K H1 D ws → DpAll K H1 ws ((pairsL.filter g).map pD) → Kp [] H H1 → R [.ref D] H1) → ta σ H R)
    (q : ∀ o H', H o = none → PrAt K PC H' o g → Kp [] H H' → Q (.ref o) H') : tMakeS PC (spPI K PC BP) [] E ta σ H Q :=
  ht _ fun D ws H1 hD hd kx => by
    intro x dx nx nd hne
    have k1 : Kp [] H1 (upd H1 dx (.own x)) := Kp.new nd
    have k2 : Kp [] (upd H1 dx (.own x)) (upd (upd H1 dx (.own x)) x (.ins PC dx [])) := Kp.new (by rw [upd_ne hne.symm]; exact nx)
    have k := k1.trans k2
    refine ⟨x, dx, D, ws, _, rfl, upd_same, k.anyN noSq0 hD, dpAllN k noSq0 hd, fitsP (subP _), by rw [List.length_map]; exact Nat.le_trans (lenP _) (by decide), fun _ l H' nl hp hk => ⟨rfl, q x H' (kx.free0 nx) (hp.at.same pick_same) (kx.trans (k.one hk nx))⟩, ?_⟩
    intro i v d _ e hb
    rw [all_isP (subP _) d (List.mem_of_getElem? e)] at hb
    cases hb
theorem PrAt.putD {K : PySem.W.Frag} {PC : Addr} {H : Hp} {p q : Addr} {ks : List (Key × V)} {u : HO} {g : Pr → Bool} (h : PrAt K PC H q g) (hp : H p = some (.dK ks)) : PrAt K PC (upd H p u) q g :=
  h.kpN Kp.lock (noSqD hp) (by
    obtain ⟨dx, l, vs, a, _⟩ := h
    rw [List.mem_singleton]
    rintro rfl
    rw [hp] at a; cases a)
theorem Fen.putD {K : PySem.W.Frag} {PC : Addr} {H : Hp} {p : Addr} {ks kvs : List (Key × V)} {u : HO} {fs : Fnc} (h : Fen K PC H kvs fs) (hp : H p = some (.dK ks)) : Fen K PC (upd H p u) kvs fs := ⟨h.1, fun i n g e => by
  obtain ⟨q, a, b⟩ := h.2 i n g e
  exact ⟨q, a, b.putD hp⟩⟩
theorem Kp.both {H H' : Hp} {d : Addr} {u : HO} (k : Kp [] H H') : Kp [] (upd H d u) (upd H' d u) := fun a x n e => by
  by_cases z : a = d
  · subst z; rw [upd_same] at e ⊢; exact e
  · rw [upd_ne z] at e ⊢; exact k a x n e
/-- what is told of a book with the fences fs -/
def BRef (fs : Fnc) (d : PyData) : Prop := (2 < fs.length ∧ d = .list [.str "large", .int 2]) ∨ (fs.length ≤ 2 ∧ (∀ x ∈ fs, goodF x.1 = true) ∧ d = .list []) ∨
  (fs.length ≤ 2 ∧ ∃ z : Str, d = .list [.str "fence", .str z] ∧ goodF z = false ∧ z ∈ fs.map (·.1) ∧ ∀ y ∈ fs.map (·.1), goodF y = false → z.cps.toList ≤ y.cps.toList)
structure BtBR (K : PySem.W.Frag) (mg : Str → Option Value) (CE TL NF BF PC BK fI fJ : Addr) : Prop where
  k_CoreError : mg "CoreError" = some (.ref CE)
  k_TooLarge : mg "TooLarge" = some (.ref TL)
  k_NoFence : mg "NoFence" = some (.ref NF)
  k_BadFence : mg "BadFence" = some (.ref BF)
  XF_TooLarge : XfC K TL
  NO_bound : PySem.W.findIn K (.ref TL) "bound" = some none
  XF_BadFence : XfC K BF
  NO_name : PySem.W.findIn K (.ref BF) "name" = some none
  EXt : PySem.W.exmOne K (.ref TL) (.ref CE) = some true
  EXf : PySem.W.exmOne K (.ref BF) (.ref CE) = some true
  KT : KitC K TL
  KF : KitC K BF
  t1 : PySem.W.kitOne K (.ref TL) (.ref TL) = some true
  t2 : PySem.W.kitOne K (.ref TL) (.type "ValueError") = some true
  t3 : PySem.W.kitOne K (.ref TL) (.ref BF) = some false
  f1 : PySem.W.kitOne K (.ref BF) (.ref TL) = some false
  f2 : PySem.W.kitOne K (.ref BF) (.ref BF) = some true
  f3 : PySem.W.kitOne K (.ref BF) (.type "ValueError") = some true
  f4 : PySem.W.kitOne K (.ref BF) (.ref NF) = some false
  b_isinstance : mg "isinstance" = none
  b_ValueError : mg "ValueError" = none
  b_list : mg "list" = none
  M_Pairs : Mk K PC fI
  M_Book : Mk K BK fJ
section
variable {P : Program} {w : World} {K : PySem.W.Frag} {mg : Str → Option Value} {base : Heap} {BK PC NF BP CE BF TL fI fJ : Addr}
def spBRef (K : PySem.W.Frag) : Sp := fun vs H Q _ => ∃ (lk dt : Addr) (f : Pr → Bool) (fs : Fnc) (d : PyData), vs = [.ref lk, .ref dt] ∧ SelAt K H lk f ∧ TabL K H dt fs ∧ (fs.map (·.1)).Nodup ∧ fs.length ≤ 50 ∧ (∀ x ∈ fs, x.1.length ≤ 1000) ∧ BRef fs d ∧
  ∀ (l : Addr) (H' : Hp), Dp K H' (.ref l) d → Kp [] H H' → Q (.ref l) H'
def BrIn (K : PySem.W.Frag) (PC lk dt p : Addr) (fs : Fnc) (H : Hp) (i : Nat) (σ : L2.St) (H' : Hp) : Prop := ∃ (c : Option V) (kvs : List (Key × V)), σ = [some (.ref lk), some (.ref dt), some (.ref p), c, none] ∧ H' p = some (.dK kvs) ∧ Fen K PC H' kvs (fs.take i) ∧ Kp [] H H'
theorem ok_law_book_refusal {f : Addr} {fd : FuncData} (D : Df K mg "_law_book_refusal" s_law_book_refusal ["_law_kept", "_law_table"] f fd) (T : BtBR K mg CE TL NF BF PC BK fI fJ) (C : PrC K mg PC) (B : BkC K mg BK) {fdI fdJ : FuncData} {g : List Value → List Value → List Value}
    (bI_Pairs : Binds K fdI ["self", "pairs"] []) (G_Pairs_init : FnOk P w K mg base (L2.CX P w) 3 fI fdI ["self", "pairs"] (spPI K PC BP))
    (kb_Book : KBn K fdJ ["self", "kept", "fences"] 2 ["fences"] g (fun vs zs => vs ++ zs)) (G_Book_init : FnOk P w K mg base (L2.CX P w) 5 fJ fdJ ["self", "kept", "fences"] (spBI K BK PC TL BF)) : FnOk P w K mg base CX0 7 f fd ["_law_kept", "_law_table"] (spBRef K) := by
  refine D.F.ok sc_law_book_refusal (fun vs H Q E h => ?_) (fun cdv A outer s H vs Q E hr h => ?_)
  · obtain ⟨_, _, _, _, _, rfl, _⟩ := h
    rfl
  · obtain ⟨lk, dt, ff, fs, dd, rfl, hk, ht, nd, fl, zl, hR, q⟩ := h
    have hu := hu_of hr
    have XF_TooLarge := T.XF_TooLarge
    have XF_BadFence := T.XF_BadFence
    have NO_name := T.NO_name
    have NO_bound := T.NO_bound
    have M_Pairs := T.M_Pairs
    have M_Book := T.M_Book
    refine ⟨_, (pss_cons (ps_set (i := 2) sc_law_book_refusal.nd rfl (Or.inl rfl) pe_dnewK)
      (pss_cons (ps_lock (ps_for PassesOwn.never rfl (pi_keys (pv 1)) (pg_name (i := 3) sc_law_book_refusal.nd rfl (Or.inl rfl)) (pss_one (ps_dput hu (pv 2) (pv 3) (pe_make M_Pairs G_Pairs_init (hr.mono (by decide)) rfl C.k bI_Pairs .nil passL (pa_cons (pe_callTy call_list_of (by rfl) T.b_list (by decide +kernel) (pa_cons (pe_dget hu (pv 1) (pv 3) (fun _ _ => rfl)) pa_nil)) pa_nil)) rfl))))
      (pss_cons (ps_try_as (i := 4) rfl rfl sc_law_book_refusal.nd rfl rfl ⟨rfl, by decide, .inl T.k_CoreError⟩ takes0 (fun W pn xe tk _ => (pss_one (ps_expr (pe_makeNT (n := 1) M_Book G_Book_init (hr.mono (by decide)) rfl B.k kb_Book (fun σ => passAt tk σ) (pa_cons (pe_makeS M_Pairs G_Pairs_init (hr.mono (by decide)) rfl C.k bI_Pairs .nil (fun σ => passAt tk σ) (pa_cons (pe_callTy (T := "list") (r := rLstOf K) call_list_of (by rfl) T.b_list (by decide +kernel) (pa_cons (pv 0) pa_nil)) pa_nil)) pa_nil) (pk_cons (pv 2) pk_nil))))) (fun a oe cls d pn hz hf => (pss_cons (ps_if (PW.pt (pw_and (pt_val (pe_callB (id := "isinstance") (r := rIsX K a cls d) (call_isX hz hf) (by rfl) T.b_isinstance (by decide +kernel) (pa_cons (pv 4) (pa_cons (pe_glob (v := .ref TL) rfl T.k_TooLarge rfl) pa_nil)))) (pw_and (pt_val (pe_callB (id := "isinstance") (r := rIsX K a cls d) (call_isX hz hf) (by rfl) T.b_isinstance (by decide +kernel) (pa_cons (pv 4) (pa_cons (pe_bltn (v := .ty "ValueError") (by rfl) T.b_ValueError (by decide +kernel) rfl) pa_nil)))) (pw_and1 (pt_not (pt_val (pe_callB (id := "isinstance") (r := rIsX K a cls d) (call_isX hz hf) (by rfl) T.b_isinstance (by decide +kernel) (pa_cons (pv 4) (pa_cons (pe_glob (v := .ref BF) rfl T.k_BadFence rfl) pa_nil))))))))) (pss_one (ps_ret (pe_lst (pa_cons pe_str (pa_cons (pe_xf XF_TooLarge NO_bound hz hf (pv 4)) pa_nil))))) pss_nil)
      (pss_one (ps_if (PW.pt (pw_and (pt_val (pe_callB (id := "isinstance") (r := rIsX K a cls d) (call_isX hz hf) (by rfl) T.b_isinstance (by decide +kernel) (pa_cons (pv 4) (pa_cons (pe_glob (v := .ref BF) rfl T.k_BadFence rfl) pa_nil)))) (pw_and (pt_val (pe_callB (id := "isinstance") (r := rIsX K a cls d) (call_isX hz hf) (by rfl) T.b_isinstance (by decide +kernel) (pa_cons (pv 4) (pa_cons (pe_bltn (v := .ty "ValueError") (by rfl) T.b_ValueError (by decide +kernel) rfl) pa_nil)))) (pw_and1 (pt_not (pt_val (pe_callB (id := "isinstance") (r := rIsX K a cls d) (call_isX hz hf) (by rfl) T.b_isinstance (by decide +kernel) (pa_cons (pv 4) (pa_cons (pe_glob (v := .ref NF) rfl T.k_NoFence rfl) pa_nil))))))))) (pss_one (ps_ret (pe_lst (pa_cons pe_str (pa_cons (pe_xf XF_BadFence NO_name hz hf (pv 4)) pa_nil))))) pss_nil)))))
      (pss_one (ps_ret (pe_lst pa_nil)))))), ?_⟩
    try simp (maxSteps := 1000000) only [tSeq, tIfS, tTest, tOp, tUn, tCB, tCons, tNil, tVar, tC, rI0, rI, rU, rEq, rNe, tRet, tRetN, tAsg, gName, gSub, tBM, tBM0, tNext, tB, tNot, tAnd, tOr, tIf, tCall, tDrop, tBreak, tCont, L2.start, tDGet, sDPut, tTup, tLst, tDNewK, tRevL, rCat, rAppend, rPop, rSetL, tAndV, tOrV, tNotV, tSl, tPart, tNoPart, tM1, gTup, gCons, gNil, cxK, cxnK, List.map_cons, List.map_nil, List.length_cons, List.length_nil, List.replicate, List.cons_append, List.nil_append, List.append_nil, List.set_cons_zero, List.set_cons_succ, List.getElem?_cons_zero, List.getElem?_cons_succ, Option.some.injEq, V.ref.injEq, V.int.injEq, V.str.injEq, V.bl.injEq, V.ty.injEq, exists_eq_left', exists_eq_left, exists_and_left, List.cons.injEq, and_true, true_and, sc_ii, sc_ss, sc_bb, sc_ni, sc_in, sc_is, sc_si, sc_nn, decide_true, decide_false, reduceCtorEq, Bool.false_eq_true, if_true, if_false, ite_true, ite_false, exists_const, eq_self, false_and, and_false, or_false, false_or, exists_false, Evl.rLenS, rSum, wipe, tYes, exists_eq, exists_eq', rIxL, rIxT, rIxS, exists_and_right, gt_iff_lt, not_true_eq_false, not_false_eq_true, Bool.not_true, Bool.not_false, decide_eq_true_eq, Nat.reduceSub, Nat.reduceAdd, List.append_assoc, tChain, tDIn, tDNotIn, sDDel, tAug, ipI]
    intro p np
    obtain ⟨kvt, htd, htk, hte⟩ := id ht
    have kp : Kp [] H (upd H p (.dK [])) := Kp.new np
    have hp0 : (upd H p (.dK [])) p = some (.dK []) := upd_same
    have hd1 : (upd H p (.dK [])) dt = some (.dK kvt) := kp _ _ not0 htd
    have pd : p ≠ dt := fun z => by rw [z, htd] at np; cases np
    generalize (upd H p (.dK [])) = H1 at kp hp0 hd1 ⊢
    refine forKeys rfl hd1 (fun od i σ H' => BrIn K PC lk dt p fs (upd H dt (.frz od (.dK kvt))) i σ H') (fun od => ⟨none, [], rfl, by rw [upd_ne pd]; exact hp0, ⟨rfl, fun i n g e => by rw [List.take_zero] at e; cases e⟩, kp.both⟩) (fun od j σ H' h => ?_) (fun od j k v σ H2 ekv h => ?_) (fun od σ H2 h => ?_)
    · obtain ⟨_, _, _, _, _, k⟩ := h
      exact k _ _ not0 upd_same
    · obtain ⟨c, kvs, rfl, hp2, hF, k2⟩ := h
      obtain ⟨⟨n, g⟩, eg⟩ : ∃ x, fs[j]? = some x := ⟨fs[j]'(by rw [← keysLen htk]; exact (List.getElem?_eq_some_iff.mp ekv).1), List.getElem?_eq_getElem _⟩
      obtain ⟨l, e1, hl⟩ := hte j n g eg
      rw [ekv] at e1
      cases e1
      have hl2 : SelAt K H2 l g := (hl.kpN Kp.lock (noSqD htd)).kp k2
      have htf : H2 dt = some (.frz od (.dK kvt)) := k2 _ _ not0 upd_same
      have nm : n ∉ (fs.take j).map (·.1) := fun hm => by
        obtain ⟨y, hy, ey⟩ := List.mem_map.mp hm
        obtain ⟨m, hm2⟩ := List.getElem?_of_mem hy
        have mj : m < j := by have := (List.getElem?_eq_some_iff.mp hm2).1; rw [List.length_take] at this; omega
        rw [List.getElem?_take, if_pos mj] at hm2
        have := (List.pairwise_iff_getElem.mp nd) m j (by rw [List.length_map]; exact (List.getElem?_eq_some_iff.mp hm2).1) (by rw [List.length_map]; exact (List.getElem?_eq_some_iff.mp eg).1) mj
        apply this
        simp only [List.getElem_map]
        rw [(List.getElem?_eq_some_iff.mp hm2).2, (List.getElem?_eq_some_iff.mp eg).2]
        exact ey
      try simp (maxSteps := 1000000) only [tSeq, tIfS, tTest, tOp, tUn, tCB, tCons, tNil, tVar, tC, rI0, rI, rU, rEq, rNe, tRet, tRetN, tAsg, gName, gSub, tBM, tBM0, tNext, tB, tNot, tAnd, tOr, tIf, tCall, tDrop, tBreak, tCont, L2.start, tDGet, sDPut, tTup, tLst, tDNewK, tRevL, rCat, rAppend, rPop, rSetL, tAndV, tOrV, tNotV, tSl, tPart, tNoPart, tM1, gTup, gCons, gNil, cxK, cxnK, List.map_cons, List.map_nil, List.length_cons, List.length_nil, List.replicate, List.cons_append, List.nil_append, List.append_nil, List.set_cons_zero, List.set_cons_succ, List.getElem?_cons_zero, List.getElem?_cons_succ, Option.some.injEq, V.ref.injEq, V.int.injEq, V.str.injEq, V.bl.injEq, V.ty.injEq, exists_eq_left', exists_eq_left, exists_and_left, List.cons.injEq, and_true, true_and, sc_ii, sc_ss, sc_bb, sc_ni, sc_in, sc_is, sc_si, sc_nn, decide_true, decide_false, reduceCtorEq, Bool.false_eq_true, if_true, if_false, ite_true, ite_false, exists_const, eq_self, false_and, and_false, or_false, false_or, exists_false, Evl.rLenS, rSum, wipe, tYes, exists_eq, exists_eq', rIxL, rIxT, rIxS, exists_and_right, gt_iff_lt, not_true_eq_false, not_false_eq_true, Bool.not_true, Bool.not_false, decide_eq_true_eq, Nat.reduceSub, Nat.reduceAdd, List.append_assoc, tChain, tDIn, tDNotIn, sDDel, tAug, ipI]
      refine mkSel (g := g) (fun R h => ?_) fun o H3 no ho k3 => ?_
      · obtain ⟨ws, hw, hd⟩ := hl2
        try simp (maxSteps := 1000000) only [tSeq, tIfS, tTest, tOp, tUn, tCB, tCons, tNil, tVar, tC, rI0, rI, rU, rEq, rNe, tRet, tRetN, tAsg, gName, gSub, tBM, tBM0, tNext, tB, tNot, tAnd, tOr, tIf, tCall, tDrop, tBreak, tCont, L2.start, tDGet, sDPut, tTup, tLst, tDNewK, tRevL, rCat, rAppend, rPop, rSetL, tAndV, tOrV, tNotV, tSl, tPart, tNoPart, tM1, gTup, gCons, gNil, cxK, cxnK, List.map_cons, List.map_nil, List.length_cons, List.length_nil, List.replicate, List.cons_append, List.nil_append, List.append_nil, List.set_cons_zero, List.set_cons_succ, List.getElem?_cons_zero, List.getElem?_cons_succ, Option.some.injEq, V.ref.injEq, V.int.injEq, V.str.injEq, V.bl.injEq, V.ty.injEq, exists_eq_left', exists_eq_left, exists_and_left, List.cons.injEq, and_true, true_and, sc_ii, sc_ss, sc_bb, sc_ni, sc_in, sc_is, sc_si, sc_nn, decide_true, decide_false, reduceCtorEq, Bool.false_eq_true, if_true, if_false, ite_true, ite_false, exists_const, eq_self, false_and, and_false, or_false, false_or, exists_false, Evl.rLenS, rSum, wipe, tYes, exists_eq, exists_eq', rIxL, rIxT, rIxS, exists_and_right, gt_iff_lt, not_true_eq_false, not_false_eq_true, Bool.not_true, Bool.not_false, decide_eq_true_eq, Nat.reduceSub, Nat.reduceAdd, List.append_assoc, tChain, tDIn, tDNotIn, sDDel, tAug, ipI]
        refine ⟨V.ref l, .inl ⟨kvt, _, .inr ⟨od, htf⟩, rfl, (valV_mem (nodupK htk nd) (List.mem_of_getElem? ekv)).symm⟩, l, rfl, ws, .inl (sq_l hw), fun D nD => h D ws _ (.inl (sq_l upd_same)) (dpAllN (Kp.new nD) noSq0 hd) (Kp.new nD)⟩
      · obtain ⟨e1, e2⟩ := (hF.kp k3).put nm ho
        have hp3 := k3 _ _ not0 hp2
        have npF : (upd H dt (.frz od (.dK kvt))) p = none := by rw [upd_ne pd]; exact np
        refine ⟨_, .inl ⟨kvs, _, hp3, rfl, ?_, rfl⟩, _, _, rfl, upd_same, ?_, (k2.trans k3).wr npF⟩
        · rw [keysLen hF.1, List.length_take]
          exact smallL (by omega)
        · rw [e1, List.take_add_one, eg]
          exact e2.putD hp3
    · obtain ⟨c, kvs, rfl, hp2, hF, k2⟩ := h
      rw [keysLen htk, List.take_length] at hF
      have htf : H2 dt = some (.frz od (.dK kvt)) := k2 _ _ not0 upd_same
      have kZ : Kp [] H (upd H2 dt (.dK kvt)) := Kp.unlock htd k2
      have hpZ : (upd H2 dt (.dK kvt)) p = some (.dK kvs) := by rw [upd_ne pd]; exact hp2
      have hFZ : Fen K PC (upd H2 dt (.dK kvt)) kvs fs := hF.unf htf
      generalize upd H2 dt (.dK kvt) = Z at kZ hpZ hFZ ⊢
      have hkZ := hk.kp kZ
      try simp (maxSteps := 1000000) only [tSeq, tIfS, tTest, tOp, tUn, tCB, tCons, tNil, tVar, tC, rI0, rI, rU, rEq, rNe, tRet, tRetN, tAsg, gName, gSub, tBM, tBM0, tNext, tB, tNot, tAnd, tOr, tIf, tCall, tDrop, tBreak, tCont, L2.start, tDGet, sDPut, tTup, tLst, tDNewK, tRevL, rCat, rAppend, rPop, rSetL, tAndV, tOrV, tNotV, tSl, tPart, tNoPart, tM1, gTup, gCons, gNil, cxK, cxnK, List.map_cons, List.map_nil, List.length_cons, List.length_nil, List.replicate, List.cons_append, List.nil_append, List.append_nil, List.set_cons_zero, List.set_cons_succ, List.getElem?_cons_zero, List.getElem?_cons_succ, Option.some.injEq, V.ref.injEq, V.int.injEq, V.str.injEq, V.bl.injEq, V.ty.injEq, exists_eq_left', exists_eq_left, exists_and_left, List.cons.injEq, and_true, true_and, sc_ii, sc_ss, sc_bb, sc_ni, sc_in, sc_is, sc_si, sc_nn, decide_true, decide_false, reduceCtorEq, Bool.false_eq_true, if_true, if_false, ite_true, ite_false, exists_const, eq_self, false_and, and_false, or_false, false_or, exists_false, Evl.rLenS, rSum, wipe, tYes, exists_eq, exists_eq', rIxL, rIxT, rIxS, exists_and_right, gt_iff_lt, not_true_eq_false, not_false_eq_true, Bool.not_true, Bool.not_false, decide_eq_true_eq, Nat.reduceSub, Nat.reduceAdd, List.append_assoc, tChain, tDIn, tDNotIn, sDDel, tAug, ipI, tMakeNT]
      refine mkSelS (g := ff) (fun R h => ?_) fun o H3 no ho k3 => ?_
      · obtain ⟨ws, hw, hd⟩ := hkZ
        try simp (maxSteps := 1000000) only [tSeq, tIfS, tTest, tOp, tUn, tCB, tCons, tNil, tVar, tC, rI0, rI, rU, rEq, rNe, tRet, tRetN, tAsg, gName, gSub, tBM, tBM0, tNext, tB, tNot, tAnd, tOr, tIf, tCall, tDrop, tBreak, tCont, L2.start, tDGet, sDPut, tTup, tLst, tDNewK, tRevL, rCat, rAppend, rPop, rSetL, tAndV, tOrV, tNotV, tSl, tPart, tNoPart, tM1, gTup, gCons, gNil, cxK, cxnK, List.map_cons, List.map_nil, List.length_cons, List.length_nil, List.replicate, List.cons_append, List.nil_append, List.append_nil, List.set_cons_zero, List.set_cons_succ, List.getElem?_cons_zero, List.getElem?_cons_succ, Option.some.injEq, V.ref.injEq, V.int.injEq, V.str.injEq, V.bl.injEq, V.ty.injEq, exists_eq_left', exists_eq_left, exists_and_left, List.cons.injEq, and_true, true_and, sc_ii, sc_ss, sc_bb, sc_ni, sc_in, sc_is, sc_si, sc_nn, decide_true, decide_false, reduceCtorEq, Bool.false_eq_true, if_true, if_false, ite_true, ite_false, exists_const, eq_self, false_and, and_false, or_false, false_or, exists_false, Evl.rLenS, rSum, wipe, tYes, exists_eq, exists_eq', rIxL, rIxT, rIxS, exists_and_right, gt_iff_lt, not_true_eq_false, not_false_eq_true, Bool.not_true, Bool.not_false, decide_eq_true_eq, Nat.reduceSub, Nat.reduceAdd, List.append_assoc, tChain, tDIn, tDNotIn, sDDel, tAug, ipI, rLstOf]
        exact ⟨ws, .inl (sq_l hw), fun D nD => h D ws _ (.inl (sq_l upd_same)) (dpAllN (Kp.new nD) noSq0 hd) (Kp.new nD)⟩
      · intro x dx nx ndx hne
        have w1 : Kp [] H3 (upd H3 dx (.own x)) := Kp.new ndx
        have w2 : Kp [] H3 (upd (upd H3 dx (.own x)) x (.ins BK dx [])) := w1.trans (Kp.new (by rw [upd_ne hne.symm]; exact nx))
        have hx : (upd (upd H3 dx (.own x)) x (.ins BK dx [])) x = some (.ins BK dx []) := upd_same
        generalize (upd (upd H3 dx (.own x)) x (.ins BK dx [])) = M at w2 hx ⊢
        have kM := (kZ.trans k3).trans w2
        have xo : x ≠ o := by
          obtain ⟨_, _, _, a, _⟩ := ho
          exact ne_of_none2 a nx
        refine ⟨x, dx, o, .ref p, ff, fs, rfl, hx, ho.kp w2, xo, .inr ⟨p, kvs, rfl, (k3.trans w2) _ _ not0 hpZ, (hFZ.kp k3).kp w2⟩, nd, fl, zl, fun l2 good H' hB k => ⟨rfl, small (by decide), fun p2 np2 => ?_⟩, fun l3 e H' ne he k => ?_, fun l2 ys i z perm srt ez bad prev e H' ne he k => ?_⟩
        · have kk := (kZ.trans k3).trans (w2.one k nx)
          rcases hR with ⟨h, _⟩ | ⟨_, _, rfl⟩ | ⟨_, z, _, bz, mz, _⟩
          · exact absurd h (by omega)
          · exact q p2 _ (.lst (sq_l upd_same) .nil) (kk.trans (Kp.new np2))
          · obtain ⟨y, hy, ey⟩ := List.mem_map.mp mz
            rw [← ey, good y hy] at bz; cases bz
        · have kk := kM.trans k
          rcases hR with ⟨_, rfl⟩ | ⟨h, _⟩ | ⟨h, _⟩
          · refine ⟨true, T.EXt, fun _ x nx => ?_, fun z => by cases z⟩
            try simp (maxSteps := 1000000) only [tSeq, tIfS, tTest, tOp, tUn, tCB, tCons, tNil, tVar, tC, rI0, rI, rU, rEq, rNe, tRet, tRetN, tAsg, gName, gSub, tBM, tBM0, tNext, tB, tNot, tAnd, tOr, tIf, tCall, tDrop, tBreak, tCont, L2.start, tDGet, sDPut, tTup, tLst, tDNewK, tRevL, rCat, rAppend, rPop, rSetL, tAndV, tOrV, tNotV, tSl, tPart, tNoPart, tM1, gTup, gCons, gNil, cxK, cxnK, List.map_cons, List.map_nil, List.length_cons, List.length_nil, List.replicate, List.cons_append, List.nil_append, List.append_nil, List.set_cons_zero, List.set_cons_succ, List.getElem?_cons_zero, List.getElem?_cons_succ, Option.some.injEq, V.ref.injEq, V.int.injEq, V.str.injEq, V.bl.injEq, V.ty.injEq, exists_eq_left', exists_eq_left, exists_and_left, List.cons.injEq, and_true, true_and, sc_ii, sc_ss, sc_bb, sc_ni, sc_in, sc_is, sc_si, sc_nn, decide_true, decide_false, reduceCtorEq, Bool.false_eq_true, if_true, if_false, ite_true, ite_false, exists_const, eq_self, false_and, and_false, or_false, false_or, exists_false, Evl.rLenS, rSum, wipe, tYes, exists_eq, exists_eq', rIxL, rIxT, rIxS, exists_and_right, gt_iff_lt, not_true_eq_false, not_false_eq_true, Bool.not_true, Bool.not_false, decide_eq_true_eq, Nat.reduceSub, Nat.reduceAdd, List.append_assoc, tChain, tDIn, tDNotIn, sDDel, tAug, ipI, tXf]
            refine ⟨.ref TL, .ref TL, true, TL, e, _, rfl, fun u h => h, rfl, rfl, he, T.KT, T.t1, true, rfl, ?_⟩
            try simp (maxSteps := 1000000) only [tSeq, tIfS, tTest, tOp, tUn, tCB, tCons, tNil, tVar, tC, rI0, rI, rU, rEq, rNe, tRet, tRetN, tAsg, gName, gSub, tBM, tBM0, tNext, tB, tNot, tAnd, tOr, tIf, tCall, tDrop, tBreak, tCont, L2.start, tDGet, sDPut, tTup, tLst, tDNewK, tRevL, rCat, rAppend, rPop, rSetL, tAndV, tOrV, tNotV, tSl, tPart, tNoPart, tM1, gTup, gCons, gNil, cxK, cxnK, List.map_cons, List.map_nil, List.length_cons, List.length_nil, List.replicate, List.cons_append, List.nil_append, List.append_nil, List.set_cons_zero, List.set_cons_succ, List.getElem?_cons_zero, List.getElem?_cons_succ, Option.some.injEq, V.ref.injEq, V.int.injEq, V.str.injEq, V.bl.injEq, V.ty.injEq, exists_eq_left', exists_eq_left, exists_and_left, List.cons.injEq, and_true, true_and, sc_ii, sc_ss, sc_bb, sc_ni, sc_in, sc_is, sc_si, sc_nn, decide_true, decide_false, reduceCtorEq, Bool.false_eq_true, if_true, if_false, ite_true, ite_false, exists_const, eq_self, false_and, and_false, or_false, false_or, exists_false, Evl.rLenS, rSum, wipe, tYes, exists_eq, exists_eq', rIxL, rIxT, rIxS, exists_and_right, gt_iff_lt, not_true_eq_false, not_false_eq_true, Bool.not_true, Bool.not_false, decide_eq_true_eq, Nat.reduceSub, Nat.reduceAdd, List.append_assoc, tChain, tDIn, tDNotIn, sDDel, tAug, ipI]
            refine ⟨.ty "ValueError", .type "ValueError", true, TL, e, _, rfl, fun u h => h, rfl, rfl, he, T.KT, T.t2, true, rfl, ?_⟩
            try simp (maxSteps := 1000000) only [tSeq, tIfS, tTest, tOp, tUn, tCB, tCons, tNil, tVar, tC, rI0, rI, rU, rEq, rNe, tRet, tRetN, tAsg, gName, gSub, tBM, tBM0, tNext, tB, tNot, tAnd, tOr, tIf, tCall, tDrop, tBreak, tCont, L2.start, tDGet, sDPut, tTup, tLst, tDNewK, tRevL, rCat, rAppend, rPop, rSetL, tAndV, tOrV, tNotV, tSl, tPart, tNoPart, tM1, gTup, gCons, gNil, cxK, cxnK, List.map_cons, List.map_nil, List.length_cons, List.length_nil, List.replicate, List.cons_append, List.nil_append, List.append_nil, List.set_cons_zero, List.set_cons_succ, List.getElem?_cons_zero, List.getElem?_cons_succ, Option.some.injEq, V.ref.injEq, V.int.injEq, V.str.injEq, V.bl.injEq, V.ty.injEq, exists_eq_left', exists_eq_left, exists_and_left, List.cons.injEq, and_true, true_and, sc_ii, sc_ss, sc_bb, sc_ni, sc_in, sc_is, sc_si, sc_nn, decide_true, decide_false, reduceCtorEq, Bool.false_eq_true, if_true, if_false, ite_true, ite_false, exists_const, eq_self, false_and, and_false, or_false, false_or, exists_false, Evl.rLenS, rSum, wipe, tYes, exists_eq, exists_eq', rIxL, rIxT, rIxS, exists_and_right, gt_iff_lt, not_true_eq_false, not_false_eq_true, Bool.not_true, Bool.not_false, decide_eq_true_eq, Nat.reduceSub, Nat.reduceAdd, List.append_assoc, tChain, tDIn, tDNotIn, sDDel, tAug, ipI]
            refine ⟨.ref BF, .ref BF, false, TL, e, _, rfl, fun u h => h, rfl, rfl, he, T.KT, T.t3, false, rfl, ?_⟩
            try simp (maxSteps := 1000000) only [tSeq, tIfS, tTest, tOp, tUn, tCB, tCons, tNil, tVar, tC, rI0, rI, rU, rEq, rNe, tRet, tRetN, tAsg, gName, gSub, tBM, tBM0, tNext, tB, tNot, tAnd, tOr, tIf, tCall, tDrop, tBreak, tCont, L2.start, tDGet, sDPut, tTup, tLst, tDNewK, tRevL, rCat, rAppend, rPop, rSetL, tAndV, tOrV, tNotV, tSl, tPart, tNoPart, tM1, gTup, gCons, gNil, cxK, cxnK, List.map_cons, List.map_nil, List.length_cons, List.length_nil, List.replicate, List.cons_append, List.nil_append, List.append_nil, List.set_cons_zero, List.set_cons_succ, List.getElem?_cons_zero, List.getElem?_cons_succ, Option.some.injEq, V.ref.injEq, V.int.injEq, V.str.injEq, V.bl.injEq, V.ty.injEq, exists_eq_left', exists_eq_left, exists_and_left, List.cons.injEq, and_true, true_and, sc_ii, sc_ss, sc_bb, sc_ni, sc_in, sc_is, sc_si, sc_nn, decide_true, decide_false, reduceCtorEq, Bool.false_eq_true, if_true, if_false, ite_true, ite_false, exists_const, eq_self, false_and, and_false, or_false, false_or, exists_false, Evl.rLenS, rSum, wipe, tYes, exists_eq, exists_eq', rIxL, rIxT, rIxS, exists_and_right, gt_iff_lt, not_true_eq_false, not_false_eq_true, Bool.not_true, Bool.not_false, decide_eq_true_eq, Nat.reduceSub, Nat.reduceAdd, List.append_assoc, tChain, tDIn, tDNotIn, sDDel, tAug, ipI]
            refine ⟨_, he, _, rfl, small (by decide), fun p np => q p _ (.lst (sq_l upd_same) (.cons (.str _) (.cons (.int _) .nil))) (kk.trans (Kp.new np))⟩
          · exact absurd h (by omega)
          · exact absurd h (by omega)
        · have kk := kM.trans k
          rcases hR with ⟨h, _⟩ | ⟨_, good, _⟩ | ⟨_, z2, rfl, b2, m2, le2⟩
          · exact absurd h (by omega)
          · obtain ⟨y, hy, ey⟩ := List.mem_map.mp (perm.mem_iff.mp (List.mem_of_getElem? ez))
            rw [← ey, good y hy] at bad; cases bad
          · have zz : z = z2 := by
              have h1 := le2 z (perm.mem_iff.mp (List.mem_of_getElem? ez)) bad
              obtain ⟨k2, ek⟩ := List.getElem?_of_mem (perm.mem_iff.mpr m2)
              have ik : i ≤ k2 := by
                rcases Nat.lt_or_ge k2 i with h | h
                · rw [prev k2 z2 h ek] at b2; cases b2
                · exact h
              rcases Nat.lt_or_ge i k2 with h | h
              · have pw := (List.pairwise_iff_getElem.mp (sortedS_pw srt)) i k2 (List.getElem?_eq_some_iff.mp ez).1 (List.getElem?_eq_some_iff.mp ek).1 h
                rw [(List.getElem?_eq_some_iff.mp ez).2, (List.getElem?_eq_some_iff.mp ek).2] at pw
                exact str_ext (List.le_antisymm pw h1)
              · have : i = k2 := by omega
                subst this
                rw [ez] at ek
                exact Option.some.inj ek
            subst zz
            refine ⟨true, T.EXf, fun _ x nx => ?_, fun z => by cases z⟩
            try simp (maxSteps := 1000000) only [tSeq, tIfS, tTest, tOp, tUn, tCB, tCons, tNil, tVar, tC, rI0, rI, rU, rEq, rNe, tRet, tRetN, tAsg, gName, gSub, tBM, tBM0, tNext, tB, tNot, tAnd, tOr, tIf, tCall, tDrop, tBreak, tCont, L2.start, tDGet, sDPut, tTup, tLst, tDNewK, tRevL, rCat, rAppend, rPop, rSetL, tAndV, tOrV, tNotV, tSl, tPart, tNoPart, tM1, gTup, gCons, gNil, cxK, cxnK, List.map_cons, List.map_nil, List.length_cons, List.length_nil, List.replicate, List.cons_append, List.nil_append, List.append_nil, List.set_cons_zero, List.set_cons_succ, List.getElem?_cons_zero, List.getElem?_cons_succ, Option.some.injEq, V.ref.injEq, V.int.injEq, V.str.injEq, V.bl.injEq, V.ty.injEq, exists_eq_left', exists_eq_left, exists_and_left, List.cons.injEq, and_true, true_and, sc_ii, sc_ss, sc_bb, sc_ni, sc_in, sc_is, sc_si, sc_nn, decide_true, decide_false, reduceCtorEq, Bool.false_eq_true, if_true, if_false, ite_true, ite_false, exists_const, eq_self, false_and, and_false, or_false, false_or, exists_false, Evl.rLenS, rSum, wipe, tYes, exists_eq, exists_eq', rIxL, rIxT, rIxS, exists_and_right, gt_iff_lt, not_true_eq_false, not_false_eq_true, Bool.not_true, Bool.not_false, decide_eq_true_eq, Nat.reduceSub, Nat.reduceAdd, List.append_assoc, tChain, tDIn, tDNotIn, sDDel, tAug, ipI, tXf]
            refine ⟨.ref TL, .ref TL, false, BF, e, _, rfl, fun u h => h, rfl, rfl, he, T.KF, T.f1, false, rfl, ?_⟩
            try simp (maxSteps := 1000000) only [tSeq, tIfS, tTest, tOp, tUn, tCB, tCons, tNil, tVar, tC, rI0, rI, rU, rEq, rNe, tRet, tRetN, tAsg, gName, gSub, tBM, tBM0, tNext, tB, tNot, tAnd, tOr, tIf, tCall, tDrop, tBreak, tCont, L2.start, tDGet, sDPut, tTup, tLst, tDNewK, tRevL, rCat, rAppend, rPop, rSetL, tAndV, tOrV, tNotV, tSl, tPart, tNoPart, tM1, gTup, gCons, gNil, cxK, cxnK, List.map_cons, List.map_nil, List.length_cons, List.length_nil, List.replicate, List.cons_append, List.nil_append, List.append_nil, List.set_cons_zero, List.set_cons_succ, List.getElem?_cons_zero, List.getElem?_cons_succ, Option.some.injEq, V.ref.injEq, V.int.injEq, V.str.injEq, V.bl.injEq, V.ty.injEq, exists_eq_left', exists_eq_left, exists_and_left, List.cons.injEq, and_true, true_and, sc_ii, sc_ss, sc_bb, sc_ni, sc_in, sc_is, sc_si, sc_nn, decide_true, decide_false, reduceCtorEq, Bool.false_eq_true, if_true, if_false, ite_true, ite_false, exists_const, eq_self, false_and, and_false, or_false, false_or, exists_false, Evl.rLenS, rSum, wipe, tYes, exists_eq, exists_eq', rIxL, rIxT, rIxS, exists_and_right, gt_iff_lt, not_true_eq_false, not_false_eq_true, Bool.not_true, Bool.not_false, decide_eq_true_eq, Nat.reduceSub, Nat.reduceAdd, List.append_assoc, tChain, tDIn, tDNotIn, sDDel, tAug, ipI]
            refine ⟨.ref BF, .ref BF, true, BF, e, _, rfl, fun u h => h, rfl, rfl, he, T.KF, T.f2, true, rfl, ?_⟩
            try simp (maxSteps := 1000000) only [tSeq, tIfS, tTest, tOp, tUn, tCB, tCons, tNil, tVar, tC, rI0, rI, rU, rEq, rNe, tRet, tRetN, tAsg, gName, gSub, tBM, tBM0, tNext, tB, tNot, tAnd, tOr, tIf, tCall, tDrop, tBreak, tCont, L2.start, tDGet, sDPut, tTup, tLst, tDNewK, tRevL, rCat, rAppend, rPop, rSetL, tAndV, tOrV, tNotV, tSl, tPart, tNoPart, tM1, gTup, gCons, gNil, cxK, cxnK, List.map_cons, List.map_nil, List.length_cons, List.length_nil, List.replicate, List.cons_append, List.nil_append, List.append_nil, List.set_cons_zero, List.set_cons_succ, List.getElem?_cons_zero, List.getElem?_cons_succ, Option.some.injEq, V.ref.injEq, V.int.injEq, V.str.injEq, V.bl.injEq, V.ty.injEq, exists_eq_left', exists_eq_left, exists_and_left, List.cons.injEq, and_true, true_and, sc_ii, sc_ss, sc_bb, sc_ni, sc_in, sc_is, sc_si, sc_nn, decide_true, decide_false, reduceCtorEq, Bool.false_eq_true, if_true, if_false, ite_true, ite_false, exists_const, eq_self, false_and, and_false, or_false, false_or, exists_false, Evl.rLenS, rSum, wipe, tYes, exists_eq, exists_eq', rIxL, rIxT, rIxS, exists_and_right, gt_iff_lt, not_true_eq_false, not_false_eq_true, Bool.not_true, Bool.not_false, decide_eq_true_eq, Nat.reduceSub, Nat.reduceAdd, List.append_assoc, tChain, tDIn, tDNotIn, sDDel, tAug, ipI]
            refine ⟨.ty "ValueError", .type "ValueError", true, BF, e, _, rfl, fun u h => h, rfl, rfl, he, T.KF, T.f3, true, rfl, ?_⟩
            try simp (maxSteps := 1000000) only [tSeq, tIfS, tTest, tOp, tUn, tCB, tCons, tNil, tVar, tC, rI0, rI, rU, rEq, rNe, tRet, tRetN, tAsg, gName, gSub, tBM, tBM0, tNext, tB, tNot, tAnd, tOr, tIf, tCall, tDrop, tBreak, tCont, L2.start, tDGet, sDPut, tTup, tLst, tDNewK, tRevL, rCat, rAppend, rPop, rSetL, tAndV, tOrV, tNotV, tSl, tPart, tNoPart, tM1, gTup, gCons, gNil, cxK, cxnK, List.map_cons, List.map_nil, List.length_cons, List.length_nil, List.replicate, List.cons_append, List.nil_append, List.append_nil, List.set_cons_zero, List.set_cons_succ, List.getElem?_cons_zero, List.getElem?_cons_succ, Option.some.injEq, V.ref.injEq, V.int.injEq, V.str.injEq, V.bl.injEq, V.ty.injEq, exists_eq_left', exists_eq_left, exists_and_left, List.cons.injEq, and_true, true_and, sc_ii, sc_ss, sc_bb, sc_ni, sc_in, sc_is, sc_si, sc_nn, decide_true, decide_false, reduceCtorEq, Bool.false_eq_true, if_true, if_false, ite_true, ite_false, exists_const, eq_self, false_and, and_false, or_false, false_or, exists_false, Evl.rLenS, rSum, wipe, tYes, exists_eq, exists_eq', rIxL, rIxT, rIxS, exists_and_right, gt_iff_lt, not_true_eq_false, not_false_eq_true, Bool.not_true, Bool.not_false, decide_eq_true_eq, Nat.reduceSub, Nat.reduceAdd, List.append_assoc, tChain, tDIn, tDNotIn, sDDel, tAug, ipI]
            refine ⟨.ref NF, .ref NF, false, BF, e, _, rfl, fun u h => h, rfl, rfl, he, T.KF, T.f4, false, rfl, ?_⟩
            try simp (maxSteps := 1000000) only [tSeq, tIfS, tTest, tOp, tUn, tCB, tCons, tNil, tVar, tC, rI0, rI, rU, rEq, rNe, tRet, tRetN, tAsg, gName, gSub, tBM, tBM0, tNext, tB, tNot, tAnd, tOr, tIf, tCall, tDrop, tBreak, tCont, L2.start, tDGet, sDPut, tTup, tLst, tDNewK, tRevL, rCat, rAppend, rPop, rSetL, tAndV, tOrV, tNotV, tSl, tPart, tNoPart, tM1, gTup, gCons, gNil, cxK, cxnK, List.map_cons, List.map_nil, List.length_cons, List.length_nil, List.replicate, List.cons_append, List.nil_append, List.append_nil, List.set_cons_zero, List.set_cons_succ, List.getElem?_cons_zero, List.getElem?_cons_succ, Option.some.injEq, V.ref.injEq, V.int.injEq, V.str.injEq, V.bl.injEq, V.ty.injEq, exists_eq_left', exists_eq_left, exists_and_left, List.cons.injEq, and_true, true_and, sc_ii, sc_ss, sc_bb, sc_ni, sc_in, sc_is, sc_si, sc_nn, decide_true, decide_false, reduceCtorEq, Bool.false_eq_true, if_true, if_false, ite_true, ite_false, exists_const, eq_self, false_and, and_false, or_false, false_or, exists_false, Evl.rLenS, rSum, wipe, tYes, exists_eq, exists_eq', rIxL, rIxT, rIxS, exists_and_right, gt_iff_lt, not_true_eq_false, not_false_eq_true, Bool.not_true, Bool.not_false, decide_eq_true_eq, Nat.reduceSub, Nat.reduceAdd, List.append_assoc, tChain, tDIn, tDNotIn, sDDel, tAug, ipI]
            refine ⟨_, he, _, rfl, small (by decide), fun p np => q p _ (.lst (sq_l upd_same) (.cons (.str _) (.cons (.str _) .nil))) (kk.trans (Kp.new np))⟩
end
end My

set_option Elab.async false
set_option linter.all false
set_option maxRecDepth 100000
set_option maxHeartbeats 4000000
namespace My
open PySem L2 NdefX
abbrev s_law_is_book : Stmt := top 31
theorem sc_law_is_book : FnScope ["_law_made", "_law_kept", "_law_table", "_law_row_here", "_law_rows", "_law_names", "_law_told", "_law_name_here", "_law_due", "_law_first", "_law_second"] ["_law_made", "_law_kept", "_law_table", "_law_row_here"] (defScope s_law_is_book) := ⟨rfl, rfl, rfl, by decide +kernel, rfl, by decide +kernel, by decide +kernel⟩
structure BtIB (K : PySem.W.Frag) (mg : Str → Option Value) (PC fC fL fT : Addr) : Prop extends Bt0 mg where
  k_Pairs : mg "Pairs" = some (.ref PC)
  cl : Cls K PC
  is1 : PySem.W.kitOne K (.ref PC) (.ref PC) = some true
  ha : PySem.W.findIn K (.ref PC) "__class__" = some (some (.builtin "object.__class__"))
  hn : PySem.W.specialIn K (.builtin "object.__class__") "__get__" = some (some (.builtin "getset_descriptor.__get__"))
  ht : PySem.W.takesIn K (.builtin "object.__class__") = some true
  hm : PySem.W.mroIn K PC (.type "object") = some true
  b_isinstance : mg "isinstance" = none
  b_sorted : mg "sorted" = none
  LN_Pairs : LenC K PC fL
  IT_Pairs : IterC K PC fT fL
section
variable {P : Program} {w : World} {K : PySem.W.Frag} {mg : Str → Option Value} {base : Heap} {BK PC NF BP : Addr}
theorem eqvL {ps : List Pr} (h : ∀ p ∈ ps, p ∈ pairsL) : PyData.eqv (.list (ps.map pD)) (.list (ps.map pD)) = true := SeqAt.eqv_refl _ (SeqAt.canLay_of_shaped (shapedL (fitsP h)).1)
theorem list_pr {PC o : Addr} {H : Hp} {g : Pr → Bool} {Q : VK} (hp : PrAt K PC H o g) (q : ∀ p ws H', H p = none → H' p = some (.lst ws) → DpAll K H' ws ((pairsL.filter g).map pD) → Kp [] H H' → Q (.ref p) H') : rListO K PC (spIter PC) (spLen K PC) E0 [.ref o] H Q := by
  obtain ⟨dx, l, us, ho, hl, hD⟩ := id hp
  refine ⟨o, dx, _, rfl, ho, fun p np => ?_⟩
  have k1 : Kp [] H (upd H p (.lst [])) := Kp.new np
  have hp1 : (upd H p (.lst [])) p = some (.lst []) := upd_same
  generalize upd H p (.lst []) = H1 at k1 hp1 ⊢
  refine ⟨o, dx, l, us, rfl, k1 _ _ not0 ho, k1 _ _ not0 hl, fun it nit => ?_⟩
  have k2 : Kp [] H1 (upd H1 it (ItO l it 0)) := Kp.new nit
  have hit : (upd H1 it (ItO l it 0)) it = some (ItO l it 0) := upd_same
  generalize upd H1 it (ItO l it 0) = H2 at k2 hit ⊢
  have k12 := k1.trans k2
  have hl2 := k12 _ _ not0 hl
  have hp2 := k2 _ _ not0 hp1
  have lp : l ≠ p := ne_of_none hl np
  have li : l ≠ it := ne_of_none (k1 _ _ not0 hl) nit
  have pi : p ≠ it := ne_of_none hp1 nit
  have kf : Kp [] H (upd (upd H2 it (junk it)) p (.lst us)) := (k12.wr (k1.free0 nit)).wr np
  refine ⟨l, it, us, rfl, k12 _ _ not0 ho, hit, sq_l hl2, lp, li, hp2, o, g, rfl, hp.kp k12, (pairsL.filter g).length, rfl, small (Nat.le_trans (lenP g) (by decide)), hit, sq_l hl2, hp2, ?_⟩
  exact q p us _ np upd_same (dpAllN kf noSq0 hD) kf
theorem name_len {z : Str} (h : nameS z = true) : z.length ≤ 8 := by
  unfold nameS at h
  rw [Bool.and_eq_true, Bool.and_eq_true] at h
  exact of_decide_eq_true h.2.1
theorem name_ok {z : Str} (h : nameS z = true) : Fit (.str z) := by
  unfold nameS at h
  rw [Bool.and_eq_true, Bool.and_eq_true, List.all_eq_true] at h
  refine ⟨?_, by show 0 ≤ 60; decide⟩
  have e : SeqAt.shaped (.str z) = (z.cps.all (fun c => decide (c < 0x110000)) && true) := rfl
  rw [e, Bool.and_true, Array.all_eq_true']
  intro c hc
  have := h.2.2 c (Array.mem_toList_iff.mpr hc)
  unfold lowC at this
  rw [Bool.and_eq_true] at this
  have := of_decide_eq_true this.2
  exact decide_eq_true (by omega)
theorem good_name {z : Str} (h : goodF z = true) : nameS z = true := by
  unfold goodF fenS at h
  rw [Bool.and_eq_true, Bool.and_eq_true] at h
  exact h.2.1
theorem full_name : nameS "full" = true := by decide +kernel
/-- the law's view of a book -/
def Fs (fs : Fnc) : Prop := (∀ x ∈ fs, goodF x.1 = true) ∧ (fs.map (·.1)).Nodup ∧ fs.length ≤ 2
def full (fs : Fnc) : Fnc := fs ++ [(("full" : Str), fun _ => true)]
theorem Fs.names {fs : Fnc} (h : Fs fs) : ∀ z ∈ (full fs).map (·.1), nameS z = true := fun z hz => by
  unfold full at hz
  rw [List.map_append, List.mem_append] at hz
  rcases hz with hz | hz
  · obtain ⟨x, hx, rfl⟩ := List.mem_map.mp hz
    exact good_name (h.1 x hx)
  · rw [List.mem_singleton.mp hz]; exact full_name
/-- what the fences called z keep -/
def hasF (fs : Fnc) (z : Str) (p : Pr) : Bool := (full fs).any fun x => decide (x.1 = z) && x.2 p
theorem hasF_of {fs : Fnc} (nd : ((full fs).map (·.1)).Nodup) {z : Str} {g : Pr → Bool} {p : Pr} (h : (z, g) ∈ full fs) : hasF fs z p = g p := by
  unfold hasF
  generalize full fs = L at nd h
  induction L with
  | nil => exact nomatch h
  | cons x r ih =>
    rw [List.map_cons, List.nodup_cons] at nd
    rw [List.any_cons]
    rcases List.mem_cons.mp h with h | h
    · subst h
      have e : (r.any fun x => decide (x.1 = z) && x.2 p) = false := by
        rw [List.any_eq_false]
        intro y hy
        have : y.1 ≠ z := fun e => nd.1 (e ▸ List.mem_map_of_mem (f := (·.1)) hy)
        simp [this]
      rw [e, Bool.or_false]
      simp
    · have ne : x.1 ≠ z := fun e => nd.1 (e ▸ List.mem_map_of_mem (f := (·.1)) h)
      rw [ih nd.2 h]
      simp [ne]
theorem any_gs {fs : Fnc} (nd : ((full fs).map (·.1)).Nodup) {p : Pr} : ∀ {zs : List Str} {gs : List (Pr → Bool)}, gs.length = zs.length → (∀ (j : Nat) z, zs[j]? = some z → ∃ (i : Nat) (g : Pr → Bool), (full fs)[i]? = some (z, g) ∧ gs[j]? = some g) → (gs.any fun g => g p) = zs.any fun z => hasF fs z p
  | [], [], _, _ => rfl
  | z :: zs, g :: gs, l, h => by
    obtain ⟨i, g2, e1, e2⟩ := h 0 z rfl
    have e2 : g = g2 := Option.some.inj e2
    subst e2
    rw [List.any_cons, List.any_cons, hasF_of nd (List.mem_of_getElem? e1), any_gs nd (by simpa using l) fun j z e => h (j + 1) z e]
theorem in_filter {f : Pr → Bool} {p : Pr} (h : p ∈ pairsL) : (((pairsL.filter f).map pD).any fun z => PyData.eqv z (pD p)) = f p := pick_eq h
def spIsBk (K : PySem.W.Frag) (BK PC : Addr) : Sp := fun vs H Q _ => ∃ (o lk dt tr : Addr) (f : Pr → Bool) (fs : Fnc) (zs : List Str), vs = [.ref o, .ref lk, .ref dt, .ref tr] ∧ BookAt K BK PC H o f (full fs) ∧ SelAt K H lk f ∧ TabL K H dt fs ∧ Fs fs ∧ SqT K H tr (zs.map V.str) ∧ (∀ z ∈ zs, z ∈ (full fs).map (·.1)) ∧ zs.length ≤ 7 ∧ ∀ H', Kp [] H H' → Q (.bl true) H'
theorem ok_law_is_book {f : Addr} {fd : FuncData} (D : Df K mg "_law_is_book" s_law_is_book ["_law_made", "_law_kept", "_law_table", "_law_row_here"] f fd) {fC fL fT : Addr} {fdL fdT : FuncData} (T : BtIB K mg PC fC fL fT) (C : PrC K mg PC) (B : BkC K mg BK)
    (b_Pairs_len : Binds K fdL ["self"] []) (G_Pairs_len : FnOk P w K mg base CX0 1 fL fdL ["self"] (spLen K PC))
    (b_Pairs_iter : Binds K fdT ["self"] []) (G_Pairs_iter : FnOk P w K mg base CX0 1 fT fdT ["self"] (spIter PC))
    {fF fE fK : Addr} {fdF fdE fdK : FuncData} (ME_Book_fences : Meth K BK "fences" fF) (bM_Book_fences : Binds K fdF ["self"] []) (G_Book_fences : FnOk P w K mg base CX0 1 fF fdF ["self"] (spFences K BK PC))
    (ME_Book_fence : Meth K BK "fence" fE) (bM_Book_fence : Binds K fdE ["self", "name"] []) (G_Book_fence : FnOk P w K mg base (L2.CX P w) 3 fE fdE ["self", "name"] (spFence K BK PC NF))
    {g : List Value → List Value → List Value} {de : Addr} {dsK : List Value} (hde : ∀ H, SqT K H de []) (hd_keeps : Vals [.ref de] dsK) (bD_keeps : Binds K fdK ["self", "first", "second", "between"] dsK) (ME_Book_keeps : Meth K BK "keeps" fK) (kb_Book_keeps_between : KBn K fdK ["self", "first", "second", "between"] 3 ["between"] g (fun vs zs => vs ++ zs)) (G_Book_keeps : FnOk P w K mg base (L2.CX P w) 4 fK fdK ["self", "first", "second", "between"] (spKeeps K BK PC BP NF))
    {fg : Addr} {fdg : FuncData} (D_law_pairs : Df K mg "_law_pairs" s_law_pairs [] fg fdg) (G_law_pairs : FnOk P w K mg base CX0 1 fg fdg [] (spPairs K))
    {fs : Addr} {fds : FuncData} (D_law_says : Df K mg "_law_says" s_law_says ["_law_told", "_law_due"] fs fds) (G_law_says : FnOk P w K mg base CX0 1 fs fds ["_law_told", "_law_due"] spSays) : FnOk P w K mg base CX0 6 f fd ["_law_made", "_law_kept", "_law_table", "_law_row_here"] (spIsBk K BK PC) := by
  refine D.F.ok sc_law_is_book (fun vs H Q E h => ?_) (fun cdv A outer s H vs Q E hr h => ?_)
  · obtain ⟨_, _, _, _, _, _, _, rfl, _⟩ := h
    rfl
  · obtain ⟨o, lk, dt, tr, ff, fs, zs, rfl, hB, hk, ht, hf, hT, hz, zl, q⟩ := h
    have hu := hu_of hr
    have LN_Pairs := T.LN_Pairs
    have IT_Pairs := T.IT_Pairs
    have hcalm : True := True.intro
    refine ⟨_, (pss_cons (ps_set (i := 4) sc_law_is_book.nd rfl (Or.inl rfl) (pe_call0 G_law_pairs (hr.mono (by decide)) rfl D_law_pairs.g D_law_pairs.F.kp D_law_pairs.b .nil pass0))
      (pss_cons (ps_set (i := 5) sc_law_is_book.nd rfl (Or.inl rfl) (pe_callB (id := "sorted") (r := rSortedS K) cr_sortedS (by rfl) T.b_sorted (by decide +kernel) (pa_cons (pe_op op_cat (pe_lst (pa_cons pe_str pa_nil)) (pe_callTy (call_listD rfl) (by rfl) T.b_list (by decide +kernel) (pa_cons (pv 2) pa_nil))) pa_nil)))
      (pss_cons (ps_if (PW.pt (pw_or (pt_not (pt_val (pe_callB (id := "isinstance") (r := rIsi K) call_isi (by rfl) T.b_isinstance (by decide +kernel) (pa_cons (pe_fld (pv 0) rfl) (pa_cons (pe_glob (v := .ref PC) rfl T.k_Pairs rfl) pa_nil))))) (pw_or1 (pt_cmpR (op_neD hr.units) (pe_callTy (T := "list") (call_listO (E := E0) IT_Pairs G_Pairs_iter b_Pairs_iter G_Pairs_len b_Pairs_len (hr.mono (by decide))) (by rfl) T.b_list (by decide +kernel) (pa_cons (pe_fld (pv 0) rfl) pa_nil)) (pv 1) (nomark _))))) (pss_one (ps_ret pe_bl)) pss_nil)
      (pss_cons (ps_set (i := 6) sc_law_is_book.nd rfl (Or.inl rfl) (pe_meth0 (pv 0) B.cl ME_Book_fences G_Book_fences (hr.mono (by decide)) bM_Book_fences .nil pass0))
      (pss_cons (ps_if (pt_cmpR (op_neD hr.units) (pv 6) (pv 5) (nomark _)) (pss_one (ps_ret pe_bl)) pss_nil)
      (pss_cons (ps_expr (pe_bm PySem.F.plainAttrs_list PySem.F.slot_list_append PySem.F.type_list_append mt_append (pv 6) (pa_cons pe_str pa_nil)))
      (pss_cons (ps_if (pt_cmpR (op_neD hr.units) (pe_meth0 (pv 0) B.cl ME_Book_fences G_Book_fences (hr.mono (by decide)) bM_Book_fences .nil pass0) (pv 5) (nomark _)) (pss_one (ps_ret pe_bl)) pss_nil)
      (pss_cons (ps_for PassesOwn.never rfl (pi_list (pv 5)) (pg_name (i := 7) sc_law_is_book.nd rfl (Or.inl rfl)) (pss_cons (ps_set (i := 8) sc_law_is_book.nd rfl (Or.inl rfl) (pv 4))
      (pss_cons (ps_if (pt_cmpR op_ne (pv 7) pe_str (nomark _)) (pss_one (ps_set (i := 8) sc_law_is_book.nd rfl (Or.inl rfl) (pe_dget hu (pv 2) (pv 7) (fun _ _ => rfl)))) pss_nil)
      (pss_one (ps_if (PW.pt (pw_or (pt_not (pt_val (pe_callB (id := "isinstance") (r := rIsi K) call_isi (by rfl) T.b_isinstance (by decide +kernel) (pa_cons (pe_meth (pv 0) B.cl ME_Book_fence G_Book_fence (hr.mono (by decide)) bM_Book_fence .nil passL (pa_cons (pv 7) pa_nil)) (pa_cons (pe_glob (v := .ref PC) rfl T.k_Pairs rfl) pa_nil))))) (pw_or1 (pt_cmpR (op_neD hr.units) (pe_callTy (T := "list") (call_listO (E := E0) IT_Pairs G_Pairs_iter b_Pairs_iter G_Pairs_len b_Pairs_len (hr.mono (by decide))) (by rfl) T.b_list (by decide +kernel) (pa_cons (pe_meth (pv 0) B.cl ME_Book_fence G_Book_fence (hr.mono (by decide)) bM_Book_fence .nil passL (pa_cons (pv 7) pa_nil)) pa_nil)) (pv 8) (nomark _))))) (pss_one (ps_ret pe_bl)) pss_nil)))))
      (pss_cons (ps_for PassesOwn.never rfl (pi_list (pv 4)) (pg_tup (n := 2) (by rfl) (pgs_cons (pg_name (i := 9) sc_law_is_book.nd rfl (Or.inl rfl)) (pgs_cons (pg_name (i := 10) sc_law_is_book.nd rfl (Or.inl rfl)) pgs_nil))) (pss_cons (ps_set (i := 8) sc_law_is_book.nd rfl (Or.inl rfl) (pe_cmpR (op_inD (hu5 hr)) (pe_tup (pa_cons (pv 9) (pa_cons (pv 10) pa_nil))) (pv 1) (by rfl)))
      (pss_cons (ps_if (pt_not (pt_val (pe_call G_law_says (hr.mono (by decide)) rfl D_law_says.g D_law_says.F.kp D_law_says.b .nil pass0 (pa_cons (pe_meth (pv 0) B.cl ME_Book_keeps G_Book_keeps (hr.mono (by decide)) bD_keeps hd_keeps passL (pa_cons (pv 9) (pa_cons (pv 10) pa_nil))) (pa_cons (pv 8) pa_nil))))) (pss_one (ps_ret pe_bl)) pss_nil)
      (pss_cons (ps_for PassesOwn.never rfl (pi_tup (pv 3)) (pg_name (i := 7) sc_law_is_book.nd rfl (Or.inl rfl)) (pss_one (ps_if (PW.pt (pw_or (pt_cmpR op_eq (pv 7) pe_str (nomark _)) (pw_or1 (pt_cmpR (op_inD (hu5 hr)) (pe_tup (pa_cons (pv 9) (pa_cons (pv 10) pa_nil))) (pe_dget hu (pv 2) (pv 7) (fun _ _ => rfl)) (by rfl))))) (pss_one (ps_set (i := 8) sc_law_is_book.nd rfl (Or.inl rfl) pe_bl)) pss_nil)))
      (pss_one (ps_if (pt_not (pt_val (pe_call G_law_says (hr.mono (by decide)) rfl D_law_says.g D_law_says.F.kp D_law_says.b .nil pass0 (pa_cons (pe_methN (n := 2) B.cl ME_Book_keeps G_Book_keeps (hr.mono (by decide)) kb_Book_keeps_between passL (pv 0) (pa_cons (pv 9) (pa_cons (pv 10) pa_nil)) (pk_cons (pv 3) pk_nil)) (pa_cons (pv 8) pa_nil))))) (pss_one (ps_ret pe_bl)) pss_nil))))))
      (pss_one (ps_ret pe_bl))))))))))), ?_⟩
    try simp (maxSteps := 1000000) only [tSeq, tIfS, tTest, tOp, tUn, tCB, tCons, tNil, tVar, tC, rI0, rI, rU, rEq, rNe, tRet, tRetN, tAsg, gName, gSub, tBM, tBM0, tNext, tB, tNot, tAnd, tOr, tIf, tCall, tDrop, tBreak, tCont, L2.start, tDGet, sDPut, tTup, tLst, tDNewK, tRevL, rCat, rAppend, rPop, rSetL, tAndV, tOrV, tNotV, tSl, tPart, tNoPart, tM1, gTup, gCons, gNil, cxK, cxnK, List.map_cons, List.map_nil, List.length_cons, List.length_nil, List.replicate, List.cons_append, List.nil_append, List.append_nil, List.set_cons_zero, List.set_cons_succ, List.getElem?_cons_zero, List.getElem?_cons_succ, Option.some.injEq, V.ref.injEq, V.int.injEq, V.str.injEq, V.bl.injEq, V.ty.injEq, exists_eq_left', exists_eq_left, exists_and_left, List.cons.injEq, and_true, true_and, sc_ii, sc_ss, sc_bb, sc_ni, sc_in, sc_is, sc_si, sc_nn, decide_true, decide_false, reduceCtorEq, Bool.false_eq_true, if_true, if_false, ite_true, ite_false, exists_const, eq_self, false_and, and_false, or_false, false_or, exists_false, Evl.rLenS, rSum, wipe, tYes, exists_eq, exists_eq', rIxL, rIxT, rIxS, exists_and_right, gt_iff_lt, not_true_eq_false, not_false_eq_true, Bool.not_true, Bool.not_false, decide_eq_true_eq, Nat.reduceSub, Nat.reduceAdd, List.append_assoc, tChain, tDIn, tDNotIn, sDDel, tAug, ipI]
    refine ⟨rfl, fun ra rws H1 nra hra hrw k1 => ⟨small (by decide), fun p1 np1 => ?_⟩⟩
    obtain ⟨kvt, htd, htk, hte⟩ := id ht
    have kn : kvt.map (fun kv => kV kv.1) = (fs.map (·.1)).map V.str := by
      have : kvt.map (fun kv => kV kv.1) = (kvt.map (·.1)).map kV := by rw [List.map_map]; rfl
      rw [this, htk, List.map_map, List.map_map]; rfl
    have kp1 := k1.trans (Kp.new (S := []) (o := .lst [.str "full"]) np1)
    refine ⟨kvt, .inl (kp1 _ _ not0 htd), fun p2 np2 => ?_⟩
    rw [kn]
    have p12 : p1 ≠ p2 := ne_of_none upd_same np2
    refine ⟨_, by rw [upd_ne p12]; exact upd_same, _, upd_same, small (by rw [List.length_map, List.length_map]; have := hf.2.2; show 1 + fs.length ≤ 100000; omega), fun p3 np3 => ?_⟩
    have kp2 := kp1.trans (Kp.new (S := []) (o := .lst ((fs.map (·.1)).map V.str)) np2)
    have kp3 := kp2.trans (Kp.new (S := []) (o := .lst ([V.str "full"] ++ (fs.map (·.1)).map V.str)) np3)
    refine ⟨p3, ("full" : Str) :: fs.map (·.1), rfl, sq_l upd_same, by rw [List.length_cons, List.length_map]; have := hf.2.2; omega, fun ys yl perm srt nyl => ?_⟩
    have kG := kp3.trans (Kp.new (S := []) (o := .lst (ys.map V.str)) nyl)
    have hyl : (upd (upd (upd (upd H1 p1 (.lst [.str "full"])) p2 (.lst ((fs.map (·.1)).map V.str))) p3 (.lst ([V.str "full"] ++ (fs.map (·.1)).map V.str))) yl (.lst (ys.map V.str))) yl = some (.lst (ys.map V.str)) := upd_same
    have hraG : (upd (upd (upd (upd H1 p1 (.lst [.str "full"])) p2 (.lst ((fs.map (·.1)).map V.str))) p3 (.lst ([V.str "full"] ++ (fs.map (·.1)).map V.str))) yl (.lst (ys.map V.str))) ra = some (.lst rws) := by
      have := ((((Kp.new (S := []) (o := .lst [.str "full"]) np1).trans (Kp.new (S := []) (o := .lst ((fs.map (·.1)).map V.str)) np2)).trans (Kp.new (S := []) (o := .lst ([V.str "full"] ++ (fs.map (·.1)).map V.str)) np3)).trans (Kp.new (S := []) (o := .lst (ys.map V.str)) nyl))
      exact this _ _ not0 hra
    have hrwG := dpAllN ((((Kp.new (S := []) (o := .lst [.str "full"]) np1).trans (Kp.new (S := []) (o := .lst ((fs.map (·.1)).map V.str)) np2)).trans (Kp.new (S := []) (o := .lst ([V.str "full"] ++ (fs.map (·.1)).map V.str)) np3)).trans (Kp.new (S := []) (o := .lst (ys.map V.str)) nyl)) noSq0 hrw
    show tFld _ _ _ _ (upd (upd (upd (upd H1 p1 (.lst [.str "full"])) p2 (.lst ((fs.map (·.1)).map V.str))) p3 (.lst ([V.str "full"] ++ (fs.map (·.1)).map V.str))) yl (.lst (ys.map V.str))) _
    generalize (upd (upd (upd (upd H1 p1 (.lst [.str "full"])) p2 (.lst ((fs.map (·.1)).map V.str))) p3 (.lst ([V.str "full"] ++ (fs.map (·.1)).map V.str))) yl (.lst (ys.map V.str))) = G at kG hyl hraG hrwG ⊢
    have permN : ys.Perm ((full fs).map (·.1)) := by
      refine perm.trans ?_
      unfold full
      rw [List.map_append]
      exact (List.perm_append_comm (l₁ := [("full" : Str)]))
    have ysn : ∀ y ∈ ys, nameS y = true := fun y hy => hf.names y (permN.mem_iff.mp hy)
    have shY := (shapedL (ds := ys.map PyData.str) fun d hd => by
      obtain ⟨y, hy, rfl⟩ := List.mem_map.mp hd
      exact name_ok (ysn y hy)).1
    have eqY : PyData.eqv (.list (ys.map PyData.str)) (.list (ys.map PyData.str)) = true := SeqAt.eqv_refl _ (SeqAt.canLay_of_shaped shY)
    have hBG := hB.kp kG
    obtain ⟨dx, ko, d, kvs, ho, hko, hd, hF, fl, nd⟩ := id hBG
    obtain ⟨dx3, l3, us3, ho3, hl3, hD3⟩ := id hko
    obtain ⟨lws, hlw, hlD⟩ := hk.kp kG
    have sh := (shapedL (fitsP (subP ff))).1
    have self := eqvL (subP ff)
    try simp (maxSteps := 1000000) only [tSeq, tIfS, tTest, tOp, tUn, tCB, tCons, tNil, tVar, tC, rI0, rI, rU, rEq, rNe, tRet, tRetN, tAsg, gName, gSub, tBM, tBM0, tNext, tB, tNot, tAnd, tOr, tIf, tCall, tDrop, tBreak, tCont, L2.start, tDGet, sDPut, tTup, tLst, tDNewK, tRevL, rCat, rAppend, rPop, rSetL, tAndV, tOrV, tNotV, tSl, tPart, tNoPart, tM1, gTup, gCons, gNil, cxK, cxnK, List.map_cons, List.map_nil, List.length_cons, List.length_nil, List.replicate, List.cons_append, List.nil_append, List.append_nil, List.set_cons_zero, List.set_cons_succ, List.getElem?_cons_zero, List.getElem?_cons_succ, Option.some.injEq, V.ref.injEq, V.int.injEq, V.str.injEq, V.bl.injEq, V.ty.injEq, exists_eq_left', exists_eq_left, exists_and_left, List.cons.injEq, and_true, true_and, sc_ii, sc_ss, sc_bb, sc_ni, sc_in, sc_is, sc_si, sc_nn, decide_true, decide_false, reduceCtorEq, Bool.false_eq_true, if_true, if_false, ite_true, ite_false, exists_const, eq_self, false_and, and_false, or_false, false_or, exists_false, Evl.rLenS, rSum, wipe, tYes, exists_eq, exists_eq', rIxL, rIxT, rIxS, exists_and_right, gt_iff_lt, not_true_eq_false, not_false_eq_true, Bool.not_true, Bool.not_false, decide_eq_true_eq, Nat.reduceSub, Nat.reduceAdd, List.append_assoc, tChain, tDIn, tDNotIn, sDDel, tAug, ipI, tFld]
    refine ⟨BK, dx, _, ho, B.cl, B.n1, .ref ko, rfl, ?_⟩
    refine ⟨.ref ko, .ref PC, .ref PC, .ref PC, true, rfl, .own PC, .base (.ins ho3 T.cl T.ha T.hn T.ht T.hm), T.is1, true, rfl, ?_⟩
    try simp (maxSteps := 1000000) only [tSeq, tIfS, tTest, tOp, tUn, tCB, tCons, tNil, tVar, tC, rI0, rI, rU, rEq, rNe, tRet, tRetN, tAsg, gName, gSub, tBM, tBM0, tNext, tB, tNot, tAnd, tOr, tIf, tCall, tDrop, tBreak, tCont, L2.start, tDGet, sDPut, tTup, tLst, tDNewK, tRevL, rCat, rAppend, rPop, rSetL, tAndV, tOrV, tNotV, tSl, tPart, tNoPart, tM1, gTup, gCons, gNil, cxK, cxnK, List.map_cons, List.map_nil, List.length_cons, List.length_nil, List.replicate, List.cons_append, List.nil_append, List.append_nil, List.set_cons_zero, List.set_cons_succ, List.getElem?_cons_zero, List.getElem?_cons_succ, Option.some.injEq, V.ref.injEq, V.int.injEq, V.str.injEq, V.bl.injEq, V.ty.injEq, exists_eq_left', exists_eq_left, exists_and_left, List.cons.injEq, and_true, true_and, sc_ii, sc_ss, sc_bb, sc_ni, sc_in, sc_is, sc_si, sc_nn, decide_true, decide_false, reduceCtorEq, Bool.false_eq_true, if_true, if_false, ite_true, ite_false, exists_const, eq_self, false_and, and_false, or_false, false_or, exists_false, Evl.rLenS, rSum, wipe, tYes, exists_eq, exists_eq', rIxL, rIxT, rIxS, exists_and_right, gt_iff_lt, not_true_eq_false, not_false_eq_true, Bool.not_true, Bool.not_false, decide_eq_true_eq, Nat.reduceSub, Nat.reduceAdd, List.append_assoc, tChain, tDIn, tDNotIn, sDDel, tAug, ipI, tFld]
    refine ⟨BK, dx, _, ho, B.cl, B.n1, .ref ko, rfl, ?_⟩
    refine list_pr hko fun q1 w1 H2 nq1 hq1 hw1 k2 => ?_
    refine ⟨_, _, .lst (sq_l hq1) hw1, .lst (sq_l (k2 _ _ not0 hlw)) (dpAllN k2 noSq0 hlD), sh, sh, ?_⟩
    rw [self]
    try simp (maxSteps := 1000000) only [tSeq, tIfS, tTest, tOp, tUn, tCB, tCons, tNil, tVar, tC, rI0, rI, rU, rEq, rNe, tRet, tRetN, tAsg, gName, gSub, tBM, tBM0, tNext, tB, tNot, tAnd, tOr, tIf, tCall, tDrop, tBreak, tCont, L2.start, tDGet, sDPut, tTup, tLst, tDNewK, tRevL, rCat, rAppend, rPop, rSetL, tAndV, tOrV, tNotV, tSl, tPart, tNoPart, tM1, gTup, gCons, gNil, cxK, cxnK, List.map_cons, List.map_nil, List.length_cons, List.length_nil, List.replicate, List.cons_append, List.nil_append, List.append_nil, List.set_cons_zero, List.set_cons_succ, List.getElem?_cons_zero, List.getElem?_cons_succ, Option.some.injEq, V.ref.injEq, V.int.injEq, V.str.injEq, V.bl.injEq, V.ty.injEq, exists_eq_left', exists_eq_left, exists_and_left, List.cons.injEq, and_true, true_and, sc_ii, sc_ss, sc_bb, sc_ni, sc_in, sc_is, sc_si, sc_nn, decide_true, decide_false, reduceCtorEq, Bool.false_eq_true, if_true, if_false, ite_true, ite_false, exists_const, eq_self, false_and, and_false, or_false, false_or, exists_false, Evl.rLenS, rSum, wipe, tYes, exists_eq, exists_eq', rIxL, rIxT, rIxS, exists_and_right, gt_iff_lt, not_true_eq_false, not_false_eq_true, Bool.not_true, Bool.not_false, decide_eq_true_eq, Nat.reduceSub, Nat.reduceAdd, List.append_assoc, tChain, tDIn, tDNotIn, sDDel, tAug, ipI, tMeth]
    have k12 := kG.trans k2
    have fencesAt : ∀ (H3 : Hp) (Q3 : VK), BookAt K BK PC H3 o ff (full fs) → (∀ p, H3 p = none → Q3 (.ref p) (upd H3 p (.lst (ys.map V.str)))) → ∃ x x_1, H3 o = some (.ins BK x x_1) ∧ List.lookup (Str.ofString "fences") x_1 = none ∧ spFences K BK PC [V.ref o] H3 Q3 E0 := fun H3 Q3 hB3 q3 => by
      obtain ⟨dx, ko, d, kvs, ho, _⟩ := id hB3
      refine ⟨dx, _, ho, rfl, o, ff, full fs, rfl, hB3, fun ys2 p perm2 srt2 np => ?_⟩
      rw [sorted_uniq srt2 srt (perm2.trans permN.symm)]
      exact q3 p np
    refine fencesAt H2 _ (hBG.kp k2) fun t1 nt1 => ?_
    have kt1 : Kp [] H2 (upd H2 t1 (.lst (ys.map V.str))) := Kp.new nt1
    have ht1 : (upd H2 t1 (.lst (ys.map V.str))) t1 = some (.lst (ys.map V.str)) := upd_same
    have hyl2 := (k2.trans kt1) _ _ not0 hyl
    refine ⟨_, _, .lst (sq_l ht1) (dpStrs _), .lst (sq_l hyl2) (dpStrs _), shY, shY, ?_⟩
    rw [eqY]
    have yl3 : ys.length ≤ 3 := by
      have e1 := permN.length_eq
      have e2 : ((full fs).map (·.1)).length = fs.length + 1 := by unfold full; rw [List.length_map, List.length_append]; rfl
      rw [e1, e2]
      have := hf.2.2
      omega
    try simp (maxSteps := 1000000) only [tSeq, tIfS, tTest, tOp, tUn, tCB, tCons, tNil, tVar, tC, rI0, rI, rU, rEq, rNe, tRet, tRetN, tAsg, gName, gSub, tBM, tBM0, tNext, tB, tNot, tAnd, tOr, tIf, tCall, tDrop, tBreak, tCont, L2.start, tDGet, sDPut, tTup, tLst, tDNewK, tRevL, rCat, rAppend, rPop, rSetL, tAndV, tOrV, tNotV, tSl, tPart, tNoPart, tM1, gTup, gCons, gNil, cxK, cxnK, List.map_cons, List.map_nil, List.length_cons, List.length_nil, List.replicate, List.cons_append, List.nil_append, List.append_nil, List.set_cons_zero, List.set_cons_succ, List.getElem?_cons_zero, List.getElem?_cons_succ, Option.some.injEq, V.ref.injEq, V.int.injEq, V.str.injEq, V.bl.injEq, V.ty.injEq, exists_eq_left', exists_eq_left, exists_and_left, List.cons.injEq, and_true, true_and, sc_ii, sc_ss, sc_bb, sc_ni, sc_in, sc_is, sc_si, sc_nn, decide_true, decide_false, reduceCtorEq, Bool.false_eq_true, if_true, if_false, ite_true, ite_false, exists_const, eq_self, false_and, and_false, or_false, false_or, exists_false, Evl.rLenS, rSum, wipe, tYes, exists_eq, exists_eq', rIxL, rIxT, rIxS, exists_and_right, gt_iff_lt, not_true_eq_false, not_false_eq_true, Bool.not_true, Bool.not_false, decide_eq_true_eq, Nat.reduceSub, Nat.reduceAdd, List.append_assoc, tChain, tDIn, tDNotIn, sDDel, tAug, ipI, tMeth]
    refine ⟨.inl ⟨rfl, _, sq_l ht1⟩, _, ht1, by rw [List.length_map]; exact smallL (by omega), ?_⟩
    have kt2 : Kp [] H2 (upd (upd H2 t1 (.lst (ys.map V.str))) t1 (.lst (ys.map V.str ++ [.str "zz"]))) := kt1.wr nt1
    generalize (upd (upd H2 t1 (.lst (ys.map V.str))) t1 (.lst (ys.map V.str ++ [.str "zz"]))) = H4 at kt2 ⊢
    have k14 := k12.trans kt2
    refine fencesAt H4 _ ((hBG.kp k2).kp kt2) fun t2 nt2 => ?_
    have kt3 : Kp [] H4 (upd H4 t2 (.lst (ys.map V.str))) := Kp.new nt2
    have ht2 : (upd H4 t2 (.lst (ys.map V.str))) t2 = some (.lst (ys.map V.str)) := upd_same
    generalize (upd H4 t2 (.lst (ys.map V.str))) = H5 at kt3 ht2 ⊢
    have kG5 := (k2.trans kt2).trans kt3
    have hyl5 := kG5 _ _ not0 hyl
    refine ⟨_, _, .lst (sq_l ht2) (dpStrs _), .lst (sq_l hyl5) (dpStrs _), shY, shY, ?_⟩
    rw [eqY]
    try simp (maxSteps := 1000000) only [tSeq, tIfS, tTest, tOp, tUn, tCB, tCons, tNil, tVar, tC, rI0, rI, rU, rEq, rNe, tRet, tRetN, tAsg, gName, gSub, tBM, tBM0, tNext, tB, tNot, tAnd, tOr, tIf, tCall, tDrop, tBreak, tCont, L2.start, tDGet, sDPut, tTup, tLst, tDNewK, tRevL, rCat, rAppend, rPop, rSetL, tAndV, tOrV, tNotV, tSl, tPart, tNoPart, tM1, gTup, gCons, gNil, cxK, cxnK, List.map_cons, List.map_nil, List.length_cons, List.length_nil, List.replicate, List.cons_append, List.nil_append, List.append_nil, List.set_cons_zero, List.set_cons_succ, List.getElem?_cons_zero, List.getElem?_cons_succ, Option.some.injEq, V.ref.injEq, V.int.injEq, V.str.injEq, V.bl.injEq, V.ty.injEq, exists_eq_left', exists_eq_left, exists_and_left, List.cons.injEq, and_true, true_and, sc_ii, sc_ss, sc_bb, sc_ni, sc_in, sc_is, sc_si, sc_nn, decide_true, decide_false, reduceCtorEq, Bool.false_eq_true, if_true, if_false, ite_true, ite_false, exists_const, eq_self, false_and, and_false, or_false, false_or, exists_false, Evl.rLenS, rSum, wipe, tYes, exists_eq, exists_eq', rIxL, rIxT, rIxS, exists_and_right, gt_iff_lt, not_true_eq_false, not_false_eq_true, Bool.not_true, Bool.not_false, decide_eq_true_eq, Nat.reduceSub, Nat.reduceAdd, List.append_assoc, tChain, tDIn, tDNotIn, sDDel, tAug, ipI]
    have k5 := kG.trans kG5
    have hB5 := hBG.kp kG5
    have hra5 := kG5 _ _ not0 hraG
    have hrw5 := dpAllN kG5 noSq0 hrwG
    have ht5 := ht.kp k5
    have hk5 := hk.kp k5
    have hT5 := k5.tp not0 hT
    refine ⟨.ref yl, rfl, yl, rfl, ⟨_, sq_l hyl5⟩, for_list (K := K) (a := yl) (xs := ys.map V.str) (fun i σ H' => ∃ c d, σ = [some (.ref o), some (.ref lk), some (.ref dt), some (.ref tr), some (.ref ra), some (.ref yl), some (.ref t1), c, d, none, none] ∧ Kp [] H5 H') ⟨_, _, rfl, Kp.refl _ _⟩ (fun i σ H' _ h => by obtain ⟨_, _, _, k⟩ := h; exact k.ls not0 (sq_l hyl5)) ?_ ?_⟩
    · rintro i x σ H6 hx ⟨c, d, rfl, k6⟩
      rw [List.getElem?_map] at hx
      obtain ⟨n, en, rfl⟩ : ∃ z, ys[i]? = some z ∧ V.str z = x := by
        cases e : ys[i]? with
        | none => rw [e] at hx; cases hx
        | some z => rw [e] at hx; exact ⟨z, rfl, Option.some.inj hx⟩
      have nm : n ∈ (full fs).map (·.1) := permN.mem_iff.mp (List.mem_of_getElem? en)
      have nn := hf.names n nm
      have nl := name_len nn
      have fenceAt : ∀ (H3 : Hp) (Q3 : VK) (g : Pr → Bool), Kp [] H5 H3 → (n, g) ∈ full fs → (∀ p H', PrAt K PC H' p g → Kp [] H3 H' → Q3 (.ref p) H') → ∃ x x_1, H3 o = some (.ins BK x x_1) ∧ List.lookup (Str.ofString "fence") x_1 = none ∧ spFence K BK PC NF [V.ref o, .str n] H3 Q3 E0 := fun H3 Q3 g k3 hm q3 => by
        have hB3 := hB5.kp k3
        obtain ⟨dx, ko, d, kvs, ho, _, _, _, _, nd⟩ := id hB3
        refine ⟨dx, _, ho, rfl, o, ff, full fs, n, rfl, hB3, by omega, fun i2 g2 e2 _ p H' hp kp => ?_, fun bad => ?_⟩
        · obtain ⟨j2, ej⟩ := List.getElem?_of_mem hm
          have ij : i2 = j2 := by
            rcases Nat.lt_trichotomy i2 j2 with h | h | h
            · have := (List.pairwise_iff_getElem.mp nd) i2 j2 (by rw [List.length_map]; exact (List.getElem?_eq_some_iff.mp e2).1) (by rw [List.length_map]; exact (List.getElem?_eq_some_iff.mp ej).1) h
              simp only [List.getElem_map, (List.getElem?_eq_some_iff.mp e2).2, (List.getElem?_eq_some_iff.mp ej).2] at this
              exact absurd rfl this
            · exact h
            · have := (List.pairwise_iff_getElem.mp nd) j2 i2 (by rw [List.length_map]; exact (List.getElem?_eq_some_iff.mp ej).1) (by rw [List.length_map]; exact (List.getElem?_eq_some_iff.mp e2).1) h
              simp only [List.getElem_map, (List.getElem?_eq_some_iff.mp e2).2, (List.getElem?_eq_some_iff.mp ej).2] at this
              exact absurd rfl this
          subst ij
          rw [e2] at ej
          cases ej
          exact q3 p H' hp kp
        · rcases bad with h | h
          · rw [nn] at h; cases h
          · exact absurd nm h
      try simp (maxSteps := 1000000) only [tSeq, tIfS, tTest, tOp, tUn, tCB, tCons, tNil, tVar, tC, rI0, rI, rU, rEq, rNe, tRet, tRetN, tAsg, gName, gSub, tBM, tBM0, tNext, tB, tNot, tAnd, tOr, tIf, tCall, tDrop, tBreak, tCont, L2.start, tDGet, sDPut, tTup, tLst, tDNewK, tRevL, rCat, rAppend, rPop, rSetL, tAndV, tOrV, tNotV, tSl, tPart, tNoPart, tM1, gTup, gCons, gNil, cxK, cxnK, List.map_cons, List.map_nil, List.length_cons, List.length_nil, List.replicate, List.cons_append, List.nil_append, List.append_nil, List.set_cons_zero, List.set_cons_succ, List.getElem?_cons_zero, List.getElem?_cons_succ, Option.some.injEq, V.ref.injEq, V.int.injEq, V.str.injEq, V.bl.injEq, V.ty.injEq, exists_eq_left', exists_eq_left, exists_and_left, List.cons.injEq, and_true, true_and, sc_ii, sc_ss, sc_bb, sc_ni, sc_in, sc_is, sc_si, sc_nn, decide_true, decide_false, reduceCtorEq, Bool.false_eq_true, if_true, if_false, ite_true, ite_false, exists_const, eq_self, false_and, and_false, or_false, false_or, exists_false, Evl.rLenS, rSum, wipe, tYes, exists_eq, exists_eq', rIxL, rIxT, rIxS, exists_and_right, gt_iff_lt, not_true_eq_false, not_false_eq_true, Bool.not_true, Bool.not_false, decide_eq_true_eq, Nat.reduceSub, Nat.reduceAdd, List.append_assoc, tChain, tDIn, tDNotIn, sDDel, tAug, ipI]
      refine ite2 (fun h => ?_) (fun h => ?_)
      · have h : n ≠ "full" := by simpa using h
        obtain ⟨⟨n1, g⟩, hm, e1⟩ := List.mem_map.mp nm
        have e1 : n1 = n := e1
        subst e1
        have hm2 : (n1, g) ∈ fs := by
          unfold full at hm
          rcases List.mem_append.mp hm with z | z
          · exact z
          · exact absurd (congrArg Prod.fst (List.mem_singleton.mp z)) h
        obtain ⟨j, ej⟩ := List.getElem?_of_mem hm2
        obtain ⟨kvt5, htd5, htk5, hte5⟩ := ht5.kp k6
        obtain ⟨dl, e2, hl⟩ := hte5 j n1 g ej
        obtain ⟨lw, hlw6, hlD6⟩ := hl
        have hdl := And.intro (sq_l (K := K) hlw6) hlD6
        refine ⟨V.ref dl, .inl ⟨kvt5, _, .inl htd5, rfl, (valV_mem (nodupK htk5 hf.2.1) (List.mem_of_getElem? e2)).symm⟩, ?_⟩
        try simp (maxSteps := 1000000) only [tSeq, tIfS, tTest, tOp, tUn, tCB, tCons, tNil, tVar, tC, rI0, rI, rU, rEq, rNe, tRet, tRetN, tAsg, gName, gSub, tBM, tBM0, tNext, tB, tNot, tAnd, tOr, tIf, tCall, tDrop, tBreak, tCont, L2.start, tDGet, sDPut, tTup, tLst, tDNewK, tRevL, rCat, rAppend, rPop, rSetL, tAndV, tOrV, tNotV, tSl, tPart, tNoPart, tM1, gTup, gCons, gNil, cxK, cxnK, List.map_cons, List.map_nil, List.length_cons, List.length_nil, List.replicate, List.cons_append, List.nil_append, List.append_nil, List.set_cons_zero, List.set_cons_succ, List.getElem?_cons_zero, List.getElem?_cons_succ, Option.some.injEq, V.ref.injEq, V.int.injEq, V.str.injEq, V.bl.injEq, V.ty.injEq, exists_eq_left', exists_eq_left, exists_and_left, List.cons.injEq, and_true, true_and, sc_ii, sc_ss, sc_bb, sc_ni, sc_in, sc_is, sc_si, sc_nn, decide_true, decide_false, reduceCtorEq, Bool.false_eq_true, if_true, if_false, ite_true, ite_false, exists_const, eq_self, false_and, and_false, or_false, false_or, exists_false, Evl.rLenS, rSum, wipe, tYes, exists_eq, exists_eq', rIxL, rIxT, rIxS, exists_and_right, gt_iff_lt, not_true_eq_false, not_false_eq_true, Bool.not_true, Bool.not_false, decide_eq_true_eq, Nat.reduceSub, Nat.reduceAdd, List.append_assoc, tChain, tDIn, tDNotIn, sDDel, tAug, ipI, tMeth]
        refine fenceAt H6 _ g k6 hm fun q2 H7 hq2 k7 => ?_
        obtain ⟨dx8, l8, us8, ho8, hl8, hD8⟩ := id hq2
        refine ⟨.ref q2, .ref PC, .ref PC, .ref PC, true, rfl, .own PC, .base (.ins ho8 T.cl T.ha T.hn T.ht T.hm), T.is1, true, rfl, ?_⟩
        try simp (maxSteps := 1000000) only [tSeq, tIfS, tTest, tOp, tUn, tCB, tCons, tNil, tVar, tC, rI0, rI, rU, rEq, rNe, tRet, tRetN, tAsg, gName, gSub, tBM, tBM0, tNext, tB, tNot, tAnd, tOr, tIf, tCall, tDrop, tBreak, tCont, L2.start, tDGet, sDPut, tTup, tLst, tDNewK, tRevL, rCat, rAppend, rPop, rSetL, tAndV, tOrV, tNotV, tSl, tPart, tNoPart, tM1, gTup, gCons, gNil, cxK, cxnK, List.map_cons, List.map_nil, List.length_cons, List.length_nil, List.replicate, List.cons_append, List.nil_append, List.append_nil, List.set_cons_zero, List.set_cons_succ, List.getElem?_cons_zero, List.getElem?_cons_succ, Option.some.injEq, V.ref.injEq, V.int.injEq, V.str.injEq, V.bl.injEq, V.ty.injEq, exists_eq_left', exists_eq_left, exists_and_left, List.cons.injEq, and_true, true_and, sc_ii, sc_ss, sc_bb, sc_ni, sc_in, sc_is, sc_si, sc_nn, decide_true, decide_false, reduceCtorEq, Bool.false_eq_true, if_true, if_false, ite_true, ite_false, exists_const, eq_self, false_and, and_false, or_false, false_or, exists_false, Evl.rLenS, rSum, wipe, tYes, exists_eq, exists_eq', rIxL, rIxT, rIxS, exists_and_right, gt_iff_lt, not_true_eq_false, not_false_eq_true, Bool.not_true, Bool.not_false, decide_eq_true_eq, Nat.reduceSub, Nat.reduceAdd, List.append_assoc, tChain, tDIn, tDNotIn, sDDel, tAug, ipI, tMeth]
        refine fenceAt H7 _ g (k6.trans k7) hm fun q3 H8 hq3 k8 => ?_
        refine list_pr hq3 fun r1 w9 H9 nr1 hr1 hw9 k9 => ?_
        have kk := (k7.trans k8).trans k9
        refine ⟨_, _, .lst (sq_l hr1) hw9, .lst (kk.ls not0 hdl.1) (dpAllN kk noSq0 hdl.2), (shapedL (fitsP (subP g))).1, (shapedL (fitsP (subP g))).1, ?_⟩
        rw [eqvL (subP g)]
        exact ⟨_, rfl, k6.trans kk⟩
      · have h : n = "full" := by simpa using h
        subst h
        have hm : (("full" : Str), fun _ : Pr => true) ∈ full fs := by unfold full; simp
        have e27 : pairsL.filter (fun _ => true) = pairsL := List.filter_eq_self.mpr fun _ _ => rfl
        have hdl : SqL K H6 ra rws ∧ DpAll K H6 rws ((pairsL.filter fun _ => true).map pD) := ⟨k6.ls not0 (sq_l hra5), by rw [e27]; exact dpAllN k6 noSq0 hrw5⟩
        obtain ⟨g, eg⟩ : ∃ g : Pr → Bool, g = fun _ => true := ⟨_, rfl⟩
        rw [← eg] at hm hdl
        try simp (maxSteps := 1000000) only [tSeq, tIfS, tTest, tOp, tUn, tCB, tCons, tNil, tVar, tC, rI0, rI, rU, rEq, rNe, tRet, tRetN, tAsg, gName, gSub, tBM, tBM0, tNext, tB, tNot, tAnd, tOr, tIf, tCall, tDrop, tBreak, tCont, L2.start, tDGet, sDPut, tTup, tLst, tDNewK, tRevL, rCat, rAppend, rPop, rSetL, tAndV, tOrV, tNotV, tSl, tPart, tNoPart, tM1, gTup, gCons, gNil, cxK, cxnK, List.map_cons, List.map_nil, List.length_cons, List.length_nil, List.replicate, List.cons_append, List.nil_append, List.append_nil, List.set_cons_zero, List.set_cons_succ, List.getElem?_cons_zero, List.getElem?_cons_succ, Option.some.injEq, V.ref.injEq, V.int.injEq, V.str.injEq, V.bl.injEq, V.ty.injEq, exists_eq_left', exists_eq_left, exists_and_left, List.cons.injEq, and_true, true_and, sc_ii, sc_ss, sc_bb, sc_ni, sc_in, sc_is, sc_si, sc_nn, decide_true, decide_false, reduceCtorEq, Bool.false_eq_true, if_true, if_false, ite_true, ite_false, exists_const, eq_self, false_and, and_false, or_false, false_or, exists_false, Evl.rLenS, rSum, wipe, tYes, exists_eq, exists_eq', rIxL, rIxT, rIxS, exists_and_right, gt_iff_lt, not_true_eq_false, not_false_eq_true, Bool.not_true, Bool.not_false, decide_eq_true_eq, Nat.reduceSub, Nat.reduceAdd, List.append_assoc, tChain, tDIn, tDNotIn, sDDel, tAug, ipI, tMeth]
        refine fenceAt H6 _ g k6 hm fun q2 H7 hq2 k7 => ?_
        obtain ⟨dx8, l8, us8, ho8, hl8, hD8⟩ := id hq2
        refine ⟨.ref q2, .ref PC, .ref PC, .ref PC, true, rfl, .own PC, .base (.ins ho8 T.cl T.ha T.hn T.ht T.hm), T.is1, true, rfl, ?_⟩
        try simp (maxSteps := 1000000) only [tSeq, tIfS, tTest, tOp, tUn, tCB, tCons, tNil, tVar, tC, rI0, rI, rU, rEq, rNe, tRet, tRetN, tAsg, gName, gSub, tBM, tBM0, tNext, tB, tNot, tAnd, tOr, tIf, tCall, tDrop, tBreak, tCont, L2.start, tDGet, sDPut, tTup, tLst, tDNewK, tRevL, rCat, rAppend, rPop, rSetL, tAndV, tOrV, tNotV, tSl, tPart, tNoPart, tM1, gTup, gCons, gNil, cxK, cxnK, List.map_cons, List.map_nil, List.length_cons, List.length_nil, List.replicate, List.cons_append, List.nil_append, List.append_nil, List.set_cons_zero, List.set_cons_succ, List.getElem?_cons_zero, List.getElem?_cons_succ, Option.some.injEq, V.ref.injEq, V.int.injEq, V.str.injEq, V.bl.injEq, V.ty.injEq, exists_eq_left', exists_eq_left, exists_and_left, List.cons.injEq, and_true, true_and, sc_ii, sc_ss, sc_bb, sc_ni, sc_in, sc_is, sc_si, sc_nn, decide_true, decide_false, reduceCtorEq, Bool.false_eq_true, if_true, if_false, ite_true, ite_false, exists_const, eq_self, false_and, and_false, or_false, false_or, exists_false, Evl.rLenS, rSum, wipe, tYes, exists_eq, exists_eq', rIxL, rIxT, rIxS, exists_and_right, gt_iff_lt, not_true_eq_false, not_false_eq_true, Bool.not_true, Bool.not_false, decide_eq_true_eq, Nat.reduceSub, Nat.reduceAdd, List.append_assoc, tChain, tDIn, tDNotIn, sDDel, tAug, ipI, tMeth]
        refine fenceAt H7 _ g (k6.trans k7) hm fun q3 H8 hq3 k8 => ?_
        refine list_pr hq3 fun r1 w9 H9 nr1 hr1 hw9 k9 => ?_
        have kk := (k7.trans k8).trans k9
        refine ⟨_, _, .lst (sq_l hr1) hw9, .lst (kk.ls not0 hdl.1) (dpAllN kk noSq0 hdl.2), (shapedL (fitsP (subP g))).1, (shapedL (fitsP (subP g))).1, ?_⟩
        rw [eqvL (subP g)]
        exact ⟨_, rfl, k6.trans kk⟩
    · rintro σ H6 ⟨c, d, rfl, k6⟩
      try simp (maxSteps := 1000000) only [tSeq, tIfS, tTest, tOp, tUn, tCB, tCons, tNil, tVar, tC, rI0, rI, rU, rEq, rNe, tRet, tRetN, tAsg, gName, gSub, tBM, tBM0, tNext, tB, tNot, tAnd, tOr, tIf, tCall, tDrop, tBreak, tCont, L2.start, tDGet, sDPut, tTup, tLst, tDNewK, tRevL, rCat, rAppend, rPop, rSetL, tAndV, tOrV, tNotV, tSl, tPart, tNoPart, tM1, gTup, gCons, gNil, cxK, cxnK, List.map_cons, List.map_nil, List.length_cons, List.length_nil, List.replicate, List.cons_append, List.nil_append, List.append_nil, List.set_cons_zero, List.set_cons_succ, List.getElem?_cons_zero, List.getElem?_cons_succ, Option.some.injEq, V.ref.injEq, V.int.injEq, V.str.injEq, V.bl.injEq, V.ty.injEq, exists_eq_left', exists_eq_left, exists_and_left, List.cons.injEq, and_true, true_and, sc_ii, sc_ss, sc_bb, sc_ni, sc_in, sc_is, sc_si, sc_nn, decide_true, decide_false, reduceCtorEq, Bool.false_eq_true, if_true, if_false, ite_true, ite_false, exists_const, eq_self, false_and, and_false, or_false, false_or, exists_false, Evl.rLenS, rSum, wipe, tYes, exists_eq, exists_eq', rIxL, rIxT, rIxS, exists_and_right, gt_iff_lt, not_true_eq_false, not_false_eq_true, Bool.not_true, Bool.not_false, decide_eq_true_eq, Nat.reduceSub, Nat.reduceAdd, List.append_assoc, tChain, tDIn, tDNotIn, sDDel, tAug, ipI]
      have kG6 := kG5.trans k6
      have hra6 := k6 _ _ not0 hra5
      refine forL (fun i σ H' => ∃ c d e f, σ = [some (.ref o), some (.ref lk), some (.ref dt), some (.ref tr), some (.ref ra), some (.ref yl), some (.ref t1), c, d, e, f] ∧ Kp [] H6 H') rfl (sq_l hra6) ⟨_, _, _, _, rfl, Kp.refl _ _⟩ (fun i σ H' _ h => by obtain ⟨_, _, _, _, _, k⟩ := h; exact k.ls not0 (sq_l hra6)) (fun i x σ H7 hx h => ?_) fun σ H7 h => ?_
      · obtain ⟨c, d, e, f', rfl, k7⟩ := h
        have kk7 := k6.trans k7
        obtain ⟨dd, ed, hd7⟩ := dpGet (dpAllN kk7 noSq0 hrw5) hx
        rw [List.getElem?_map] at ed
        obtain ⟨⟨a, b⟩, ep, rfl⟩ : ∃ p, pairsL[i]? = some p ∧ pD p = dd := by
          cases e : pairsL[i]? with
          | none => rw [e] at ed; cases ed
          | some p => rw [e] at ed; exact ⟨p, rfl, Option.some.inj ed⟩
        have mab : (a, b) ∈ pairsL := List.mem_of_getElem? ep
        obtain ⟨t, rfl, hTt⟩ := dpPair hd7
        try simp (maxSteps := 1000000) only [tSeq, tIfS, tTest, tOp, tUn, tCB, tCons, tNil, tVar, tC, rI0, rI, rU, rEq, rNe, tRet, tRetN, tAsg, gName, gSub, tBM, tBM0, tNext, tB, tNot, tAnd, tOr, tIf, tCall, tDrop, tBreak, tCont, L2.start, tDGet, sDPut, tTup, tLst, tDNewK, tRevL, rCat, rAppend, rPop, rSetL, tAndV, tOrV, tNotV, tSl, tPart, tNoPart, tM1, gTup, gCons, gNil, cxK, cxnK, List.map_cons, List.map_nil, List.length_cons, List.length_nil, List.replicate, List.cons_append, List.nil_append, List.append_nil, List.set_cons_zero, List.set_cons_succ, List.getElem?_cons_zero, List.getElem?_cons_succ, Option.some.injEq, V.ref.injEq, V.int.injEq, V.str.injEq, V.bl.injEq, V.ty.injEq, exists_eq_left', exists_eq_left, exists_and_left, List.cons.injEq, and_true, true_and, sc_ii, sc_ss, sc_bb, sc_ni, sc_in, sc_is, sc_si, sc_nn, decide_true, decide_false, reduceCtorEq, Bool.false_eq_true, if_true, if_false, ite_true, ite_false, exists_const, eq_self, false_and, and_false, or_false, false_or, exists_false, Evl.rLenS, rSum, wipe, tYes, exists_eq, exists_eq', rIxL, rIxT, rIxS, exists_and_right, gt_iff_lt, not_true_eq_false, not_false_eq_true, Bool.not_true, Bool.not_false, decide_eq_true_eq, Nat.reduceSub, Nat.reduceAdd, List.append_assoc, tChain, tDIn, tDNotIn, sDDel, tAug, ipI]
        refine ⟨_, hTt, rfl, _, _, rfl, _, _, rfl, rfl, small (by decide), fun p1 np1 => ?_⟩
        have kq1 : Kp [] H7 (upd H7 p1 (.tup [.str a, .str b])) := Kp.new np1
        have hp1 : Dp K (upd H7 p1 (.tup [.str a, .str b])) (.ref p1) (pD (a, b)) := .tup (sq_t upd_same) (.cons (.str _) (.cons (.str _) .nil))
        generalize (upd H7 p1 (.tup [.str a, .str b])) = H8 at kq1 hp1 ⊢
        have k8 := (k5.trans kk7).trans kq1
        obtain ⟨lw8, hlw8, hlD8⟩ := hk.kp k8
        have hB8 := (hB5.kp kk7).kp kq1
        refine ⟨pD (a, b), _, hp1, .lst (sq_l hlw8) hlD8, okP mab, sh, ?_⟩
        rw [in_filter mab]
        obtain ⟨dx8, ko8, d8, kvs8, ho8, _, _, _, _, nd8⟩ := id hB8
        try simp (maxSteps := 1000000) only [tSeq, tIfS, tTest, tOp, tUn, tCB, tCons, tNil, tVar, tC, rI0, rI, rU, rEq, rNe, tRet, tRetN, tAsg, gName, gSub, tBM, tBM0, tNext, tB, tNot, tAnd, tOr, tIf, tCall, tDrop, tBreak, tCont, L2.start, tDGet, sDPut, tTup, tLst, tDNewK, tRevL, rCat, rAppend, rPop, rSetL, tAndV, tOrV, tNotV, tSl, tPart, tNoPart, tM1, gTup, gCons, gNil, cxK, cxnK, List.map_cons, List.map_nil, List.length_cons, List.length_nil, List.replicate, List.cons_append, List.nil_append, List.append_nil, List.set_cons_zero, List.set_cons_succ, List.getElem?_cons_zero, List.getElem?_cons_succ, Option.some.injEq, V.ref.injEq, V.int.injEq, V.str.injEq, V.bl.injEq, V.ty.injEq, exists_eq_left', exists_eq_left, exists_and_left, List.cons.injEq, and_true, true_and, sc_ii, sc_ss, sc_bb, sc_ni, sc_in, sc_is, sc_si, sc_nn, decide_true, decide_false, reduceCtorEq, Bool.false_eq_true, if_true, if_false, ite_true, ite_false, exists_const, eq_self, false_and, and_false, or_false, false_or, exists_false, Evl.rLenS, rSum, wipe, tYes, exists_eq, exists_eq', rIxL, rIxT, rIxS, exists_and_right, gt_iff_lt, not_true_eq_false, not_false_eq_true, Bool.not_true, Bool.not_false, decide_eq_true_eq, Nat.reduceSub, Nat.reduceAdd, List.append_assoc, tChain, tDIn, tDNotIn, sDDel, tAug, ipI, tMeth]
        refine ⟨dx8, _, ho8, rfl, o, de, ff, full fs, a, b, [], rfl, hB8, hde _, by decide, (fun z h => nomatch h), okP mab, fun gs _ gl _ H9 k9 => ?_, fun h => absurd mab h, fun j z _ ez => nomatch ez⟩
        have g0 : gs = [] := List.eq_nil_of_length_eq_zero gl
        subst g0
        have e0 : (ff (a, b) || ([] : List (Pr → Bool)).any fun g => g (a, b)) = ff (a, b) := Bool.or_false _
        rw [e0]
        refine ⟨_, _, rfl, ?_⟩
        rw [decide_eq_true rfl]
        try simp (maxSteps := 1000000) only [tSeq, tIfS, tTest, tOp, tUn, tCB, tCons, tNil, tVar, tC, rI0, rI, rU, rEq, rNe, tRet, tRetN, tAsg, gName, gSub, tBM, tBM0, tNext, tB, tNot, tAnd, tOr, tIf, tCall, tDrop, tBreak, tCont, L2.start, tDGet, sDPut, tTup, tLst, tDNewK, tRevL, rCat, rAppend, rPop, rSetL, tAndV, tOrV, tNotV, tSl, tPart, tNoPart, tM1, gTup, gCons, gNil, cxK, cxnK, List.map_cons, List.map_nil, List.length_cons, List.length_nil, List.replicate, List.cons_append, List.nil_append, List.append_nil, List.set_cons_zero, List.set_cons_succ, List.getElem?_cons_zero, List.getElem?_cons_succ, Option.some.injEq, V.ref.injEq, V.int.injEq, V.str.injEq, V.bl.injEq, V.ty.injEq, exists_eq_left', exists_eq_left, exists_and_left, List.cons.injEq, and_true, true_and, sc_ii, sc_ss, sc_bb, sc_ni, sc_in, sc_is, sc_si, sc_nn, decide_true, decide_false, reduceCtorEq, Bool.false_eq_true, if_true, if_false, ite_true, ite_false, exists_const, eq_self, false_and, and_false, or_false, false_or, exists_false, Evl.rLenS, rSum, wipe, tYes, exists_eq, exists_eq', rIxL, rIxT, rIxS, exists_and_right, gt_iff_lt, not_true_eq_false, not_false_eq_true, Bool.not_true, Bool.not_false, decide_eq_true_eq, Nat.reduceSub, Nat.reduceAdd, List.append_assoc, tChain, tDIn, tDNotIn, sDDel, tAug, ipI]
        have hT9 := (k8.trans k9).tp not0 hT
        refine forT (fun j σ H' => ∃ c, σ = [some (.ref o), some (.ref lk), some (.ref dt), some (.ref tr), some (.ref ra), some (.ref yl), some (.ref t1), c, some (.bl (ff (a, b) || (zs.take j).any fun z => hasF fs z (a, b))), some (.str a), some (.str b)] ∧ Kp [] H9 H') rfl hT9 ⟨c, by rw [List.take_zero]; show _ = [_, _, _, _, _, _, _, _, some (V.bl (ff (a, b) || false)), _, _]; rw [Bool.or_false], Kp.refl _ _⟩ (fun j σ H' _ h => by obtain ⟨_, _, k⟩ := h; exact k.tp not0 hT9) (fun j x σ H10 hx h => ?_) fun σ H10 h => ?_
        · obtain ⟨c2, rfl, k10⟩ := h
          rw [List.getElem?_map] at hx
          obtain ⟨z, ez, rfl⟩ : ∃ z, zs[j]? = some z ∧ V.str z = x := by
            cases e : zs[j]? with
            | none => rw [e] at hx; cases hx
            | some z => rw [e] at hx; exact ⟨z, rfl, Option.some.inj hx⟩
          have mz := hz z (List.mem_of_getElem? ez)
          have next : ∀ g : Pr → Bool, (z, g) ∈ full fs → (ff (a, b) || (zs.take (j + 1)).any fun z => hasF fs z (a, b)) = ((ff (a, b) || (zs.take j).any fun z => hasF fs z (a, b)) || g (a, b)) := fun g hg => by
            rw [List.take_add_one, ez, List.any_append, Bool.or_assoc]
            show (_ || (_ || (hasF fs z (a, b) || false))) = _
            rw [hasF_of nd8 hg, Bool.or_false]
          try simp (maxSteps := 1000000) only [tSeq, tIfS, tTest, tOp, tUn, tCB, tCons, tNil, tVar, tC, rI0, rI, rU, rEq, rNe, tRet, tRetN, tAsg, gName, gSub, tBM, tBM0, tNext, tB, tNot, tAnd, tOr, tIf, tCall, tDrop, tBreak, tCont, L2.start, tDGet, sDPut, tTup, tLst, tDNewK, tRevL, rCat, rAppend, rPop, rSetL, tAndV, tOrV, tNotV, tSl, tPart, tNoPart, tM1, gTup, gCons, gNil, cxK, cxnK, List.map_cons, List.map_nil, List.length_cons, List.length_nil, List.replicate, List.cons_append, List.nil_append, List.append_nil, List.set_cons_zero, List.set_cons_succ, List.getElem?_cons_zero, List.getElem?_cons_succ, Option.some.injEq, V.ref.injEq, V.int.injEq, V.str.injEq, V.bl.injEq, V.ty.injEq, exists_eq_left', exists_eq_left, exists_and_left, List.cons.injEq, and_true, true_and, sc_ii, sc_ss, sc_bb, sc_ni, sc_in, sc_is, sc_si, sc_nn, decide_true, decide_false, reduceCtorEq, Bool.false_eq_true, if_true, if_false, ite_true, ite_false, exists_const, eq_self, false_and, and_false, or_false, false_or, exists_false, Evl.rLenS, rSum, wipe, tYes, exists_eq, exists_eq', rIxL, rIxT, rIxS, exists_and_right, gt_iff_lt, not_true_eq_false, not_false_eq_true, Bool.not_true, Bool.not_false, decide_eq_true_eq, Nat.reduceSub, Nat.reduceAdd, List.append_assoc, tChain, tDIn, tDNotIn, sDDel, tAug, ipI]
          refine ite2 (fun h => ?_) (fun h => ?_)
          · subst h
            refine ⟨?_, k10⟩
            rw [next (fun _ => true) (by unfold full; simp), Bool.or_true]
          · obtain ⟨⟨n1, g⟩, hm, e1⟩ := List.mem_map.mp mz
            have e1 : n1 = z := e1
            subst e1
            have hm2 : (n1, g) ∈ fs := by
              unfold full at hm
              rcases List.mem_append.mp hm with z | z
              · exact z
              · exact absurd (congrArg Prod.fst (List.mem_singleton.mp z)) h
            obtain ⟨j2, ej⟩ := List.getElem?_of_mem hm2
            refine ⟨small (by decide), fun p2 np2 => ?_⟩
            have kq2 : Kp [] H10 (upd H10 p2 (.tup [.str a, .str b])) := Kp.new np2
            have hp2 : Dp K (upd H10 p2 (.tup [.str a, .str b])) (.ref p2) (pD (a, b)) := .tup (sq_t upd_same) (.cons (.str _) (.cons (.str _) .nil))
            generalize (upd H10 p2 (.tup [.str a, .str b])) = H11 at kq2 hp2 ⊢
            obtain ⟨kvt5, htd5, htk5, hte5⟩ := ht.kp (((k8.trans k9).trans k10).trans kq2)
            obtain ⟨dl, e2, hl⟩ := hte5 j2 n1 g ej
            obtain ⟨lw, hlw6, hlD6⟩ := hl
            refine ⟨V.ref dl, .inl ⟨kvt5, _, .inl htd5, rfl, (valV_mem (nodupK htk5 hf.2.1) (List.mem_of_getElem? e2)).symm⟩, ?_⟩
            refine ⟨pD (a, b), _, hp2, .lst (sq_l hlw6) hlD6, okP mab, (shapedL (fitsP (subP g))).1, ?_⟩
            rw [in_filter mab]
            refine ⟨_, rfl, ?_⟩
            have nx := next g hm
            cases hg : g (a, b) with
            | true =>
              rw [hg, Bool.or_true] at nx
              exact ⟨nx.symm, k10.trans kq2⟩
            | false =>
              rw [hg, Bool.or_false] at nx
              exact ⟨nx.symm, k10.trans kq2⟩
        · obtain ⟨c2, rfl, k10⟩ := h
          rw [List.length_map, List.take_length]
          have hB10 := (hB8.kp k9).kp k10
          obtain ⟨dx9, ko9, d9, kvs9, ho9, _⟩ := id hB10
          try simp (maxSteps := 1000000) only [tSeq, tIfS, tTest, tOp, tUn, tCB, tCons, tNil, tVar, tC, rI0, rI, rU, rEq, rNe, tRet, tRetN, tAsg, gName, gSub, tBM, tBM0, tNext, tB, tNot, tAnd, tOr, tIf, tCall, tDrop, tBreak, tCont, L2.start, tDGet, sDPut, tTup, tLst, tDNewK, tRevL, rCat, rAppend, rPop, rSetL, tAndV, tOrV, tNotV, tSl, tPart, tNoPart, tM1, gTup, gCons, gNil, cxK, cxnK, List.map_cons, List.map_nil, List.length_cons, List.length_nil, List.replicate, List.cons_append, List.nil_append, List.append_nil, List.set_cons_zero, List.set_cons_succ, List.getElem?_cons_zero, List.getElem?_cons_succ, Option.some.injEq, V.ref.injEq, V.int.injEq, V.str.injEq, V.bl.injEq, V.ty.injEq, exists_eq_left', exists_eq_left, exists_and_left, List.cons.injEq, and_true, true_and, sc_ii, sc_ss, sc_bb, sc_ni, sc_in, sc_is, sc_si, sc_nn, decide_true, decide_false, reduceCtorEq, Bool.false_eq_true, if_true, if_false, ite_true, ite_false, exists_const, eq_self, false_and, and_false, or_false, false_or, exists_false, Evl.rLenS, rSum, wipe, tYes, exists_eq, exists_eq', rIxL, rIxT, rIxS, exists_and_right, gt_iff_lt, not_true_eq_false, not_false_eq_true, Bool.not_true, Bool.not_false, decide_eq_true_eq, Nat.reduceSub, Nat.reduceAdd, List.append_assoc, tChain, tDIn, tDNotIn, sDDel, tAug, ipI, tMethN]
          refine ⟨dx9, _, ho9, rfl, o, tr, ff, full fs, a, b, zs, rfl, hB10, k10.tp not0 hT9, by omega, fun z h => Nat.le_trans (name_len (hf.names z (hz z h))) (by decide), okP mab, fun gs _ gl hgs H11 k11 => ?_, fun h => absurd mab h, fun j z _ ez bad _ => ?_⟩
          · rw [any_gs nd8 gl fun j z e => (hgs j z e).2]
            refine ⟨_, _, rfl, ?_⟩
            rw [decide_eq_true rfl]
            try simp (maxSteps := 1000000) only [tSeq, tIfS, tTest, tOp, tUn, tCB, tCons, tNil, tVar, tC, rI0, rI, rU, rEq, rNe, tRet, tRetN, tAsg, gName, gSub, tBM, tBM0, tNext, tB, tNot, tAnd, tOr, tIf, tCall, tDrop, tBreak, tCont, L2.start, tDGet, sDPut, tTup, tLst, tDNewK, tRevL, rCat, rAppend, rPop, rSetL, tAndV, tOrV, tNotV, tSl, tPart, tNoPart, tM1, gTup, gCons, gNil, cxK, cxnK, List.map_cons, List.map_nil, List.length_cons, List.length_nil, List.replicate, List.cons_append, List.nil_append, List.append_nil, List.set_cons_zero, List.set_cons_succ, List.getElem?_cons_zero, List.getElem?_cons_succ, Option.some.injEq, V.ref.injEq, V.int.injEq, V.str.injEq, V.bl.injEq, V.ty.injEq, exists_eq_left', exists_eq_left, exists_and_left, List.cons.injEq, and_true, true_and, sc_ii, sc_ss, sc_bb, sc_ni, sc_in, sc_is, sc_si, sc_nn, decide_true, decide_false, reduceCtorEq, Bool.false_eq_true, if_true, if_false, ite_true, ite_false, exists_const, eq_self, false_and, and_false, or_false, false_or, exists_false, Evl.rLenS, rSum, wipe, tYes, exists_eq, exists_eq', rIxL, rIxT, rIxS, exists_and_right, gt_iff_lt, not_true_eq_false, not_false_eq_true, Bool.not_true, Bool.not_false, decide_eq_true_eq, Nat.reduceSub, Nat.reduceAdd, List.append_assoc, tChain, tDIn, tDNotIn, sDDel, tAug, ipI]
            exact (((k7.trans kq1).trans k9).trans k10).trans k11
          · have m := hz z (List.mem_of_getElem? ez)
            rcases bad with h | h
            · rw [hf.names z m] at h; cases h
            · exact absurd m h
      · obtain ⟨c, d, e, f', rfl, k7⟩ := h
        try simp (maxSteps := 1000000) only [tSeq, tIfS, tTest, tOp, tUn, tCB, tCons, tNil, tVar, tC, rI0, rI, rU, rEq, rNe, tRet, tRetN, tAsg, gName, gSub, tBM, tBM0, tNext, tB, tNot, tAnd, tOr, tIf, tCall, tDrop, tBreak, tCont, L2.start, tDGet, sDPut, tTup, tLst, tDNewK, tRevL, rCat, rAppend, rPop, rSetL, tAndV, tOrV, tNotV, tSl, tPart, tNoPart, tM1, gTup, gCons, gNil, cxK, cxnK, List.map_cons, List.map_nil, List.length_cons, List.length_nil, List.replicate, List.cons_append, List.nil_append, List.append_nil, List.set_cons_zero, List.set_cons_succ, List.getElem?_cons_zero, List.getElem?_cons_succ, Option.some.injEq, V.ref.injEq, V.int.injEq, V.str.injEq, V.bl.injEq, V.ty.injEq, exists_eq_left', exists_eq_left, exists_and_left, List.cons.injEq, and_true, true_and, sc_ii, sc_ss, sc_bb, sc_ni, sc_in, sc_is, sc_si, sc_nn, decide_true, decide_false, reduceCtorEq, Bool.false_eq_true, if_true, if_false, ite_true, ite_false, exists_const, eq_self, false_and, and_false, or_false, false_or, exists_false, Evl.rLenS, rSum, wipe, tYes, exists_eq, exists_eq', rIxL, rIxT, rIxS, exists_and_right, gt_iff_lt, not_true_eq_false, not_false_eq_true, Bool.not_true, Bool.not_false, decide_eq_true_eq, Nat.reduceSub, Nat.reduceAdd, List.append_assoc, tChain, tDIn, tDNotIn, sDDel, tAug, ipI]
        exact q H7 ((k5.trans k6).trans k7)
end
end My

set_option Elab.async false
set_option linter.all false
set_option maxRecDepth 100000
set_option maxHeartbeats 4000000
namespace My
open PySem L2 NdefX
abbrev s_law_refuses : Stmt := top 33
theorem sc_law_refuses : FnScope ["_law_made", "_law_kept", "_law_row_here", "_law_number", "_law_names", "_law_first", "_law_second", "_law_place", "_law_word", "_law_spoilt", "_law_one", "_law_two", "_law_odd", "_law_bad"] ["_law_made", "_law_kept", "_law_row_here", "_law_number"] (defScope s_law_refuses) := ⟨rfl, rfl, rfl, by decide +kernel, rfl, by decide +kernel, by decide +kernel⟩
section
variable {P : Program} {w : World} {K : PySem.W.Frag} {mg : Str → Option Value} {base : Heap} {BK PC NF BP : Addr}
/-- data laid one after the other -/
def Laid (K : PySem.W.Frag) (H : Hp) (vs : List V) (ds : List PyData) (H' : Hp) : Prop := DpAll K H' vs ds ∧ Kp [] H H'
theorem Laid.flat {H H' : Hp} {vs : List V} {ds : List PyData} {v : V} {d : PyData} (h : Laid K H vs ds H') (k : Dp K H' v d) : Laid K H (vs ++ [v]) (ds ++ [d]) H' := ⟨dpApp h.1 (.cons k .nil), h.2⟩
theorem Laid.tup {H H' : Hp} {vs xs : List V} {ds es : List PyData} {t : Addr} (h : Laid K H vs ds H') (nt : H' t = none) (k : DpAll K (upd H' t (.tup xs)) xs es) : Laid K H (vs ++ [.ref t]) (ds ++ [.tuple es]) (upd H' t (.tup xs)) :=
  ⟨dpApp (dpAllN (Kp.new nt) noSq0 h.1) (.cons (.tup (sq_t upd_same) k) .nil), h.2.trans (Kp.new nt)⟩
theorem Laid.lst {H H' : Hp} {vs xs : List V} {ds es : List PyData} {t : Addr} (h : Laid K H vs ds H') (nt : H' t = none) (k : DpAll K (upd H' t (.lst xs)) xs es) : Laid K H (vs ++ [.ref t]) (ds ++ [.list es]) (upd H' t (.lst xs)) :=
  ⟨dpApp (dpAllN (Kp.new nt) noSq0 h.1) (.cons (.lst (sq_l upd_same) k) .nil), h.2.trans (Kp.new nt)⟩
theorem Laid.up {H H' : Hp} {vs : List V} {ds : List PyData} {t : Addr} {o : HO} (h : Laid K H vs ds H') (nt : H' t = none) : Laid K H vs ds (upd H' t o) := ⟨dpAllN (Kp.new nt) noSq0 h.1, h.2.trans (Kp.new nt)⟩
theorem laid0 {H : Hp} : Laid K H [] [] H := ⟨.nil, Kp.refl [] _⟩
theorem s2 {H : Hp} {x y : Str} : DpAll K H [.str x, .str y] [.str x, .str y] := .cons (.str x) (.cons (.str y) .nil)
def oddL : List Pr := [("read", "return"), ("both", "return"), ("return", "read"), ("full", "read"), ("read", "full"), ("", ""), ("Read", "read")]
theorem odd_ok : ∀ p ∈ oddL, p ∉ pairsL ∧ SeqAt.shaped (pD p) = true := by decide +kernel
theorem unk_ok : ∀ z ∈ unkL, SeqAt.shaped (.str z) = true ∧ z.length ≤ 1000 := by decide +kernel
theorem empty_no : nameS "" = false := by decide +kernel
def spRefu (K : PySem.W.Frag) (BK PC : Addr) : Sp := fun vs H Q _ => ∃ (o lk tr : Addr) (n : Int) (f : Pr → Bool) (fs : Fnc) (zs : List Str), vs = [.ref o, .ref lk, .ref tr, .int n] ∧ BookAt K BK PC H o f (full fs) ∧ SelAt K H lk f ∧ Fs fs ∧ H tr = some (.tup (zs.map V.str)) ∧ (∀ z ∈ zs, z ∈ (full fs).map (·.1)) ∧ zs.length ≤ 7 ∧ ∀ H', Kp [] H H' → Q (.bl true) H'
theorem ok_law_refuses {f : Addr} {fd : FuncData} (D : Df K mg "_law_refuses" s_law_refuses ["_law_made", "_law_kept", "_law_row_here", "_law_number"] f fd) (T : Bt0 mg) (B : BkC K mg BK)
    {fF : Addr} {fdF : FuncData} (ME_Book_fences : Meth K BK "fences" fF) (bM_Book_fences : Binds K fdF ["self"] []) (G_Book_fences : FnOk P w K mg base CX0 1 fF fdF ["self"] (spFences K BK PC))
    {fg : Addr} {fdg : FuncData} (D_law_pairs : Df K mg "_law_pairs" s_law_pairs [] fg fdg) (G_law_pairs : FnOk P w K mg base CX0 1 fg fdg [] (spPairs K))
    {fu : Addr} {fdu : FuncData} (D_law_unknown : Df K mg "_law_unknown" s_law_unknown ["_law_number", "_law_names"] fu fdu) (G_law_unknown : FnOk P w K mg base CX0 1 fu fdu ["_law_number", "_law_names"] (spUnk K))
    {fk : Addr} {fdk : FuncData} (D_law_keeps_refusal : Df K mg "_law_keeps_refusal" s_law_keeps_refusal ["_law_made", "_law_first", "_law_second", "_law_row_here"] fk fdk) (G_law_keeps_refusal : FnOk P w K mg base CX0 5 fk fdk ["_law_made", "_law_first", "_law_second", "_law_row_here"] (spKRef K BK PC))
    {fr : Addr} {fdr : FuncData} (D_law_fence_refusal : Df K mg "_law_fence_refusal" s_law_fence_refusal ["_law_made", "_law_name_here"] fr fdr) (G_law_fence_refusal : FnOk P w K mg base CX0 4 fr fdr ["_law_made", "_law_name_here"] (spFRef K BK PC)) : FnOk P w K mg base CX0 6 f fd ["_law_made", "_law_kept", "_law_row_here", "_law_number"] (spRefu K BK PC) := by
  refine D.F.ok sc_law_refuses (fun vs H Q E h => ?_) (fun cdv A outer s H vs Q E hr h => ?_)
  · obtain ⟨_, _, _, _, _, _, _, rfl, _⟩ := h
    rfl
  · obtain ⟨o, lk, tr, n, ff, fs, zs, rfl, hB, hk, hf, hT, hz, zl, q⟩ := h
    have hu := hu_of hr
    refine ⟨_, (pss_cons (ps_set (i := 4) sc_law_refuses.nd rfl (Or.inl rfl) (pe_meth0 (pv 0) B.cl ME_Book_fences G_Book_fences (hr.mono (by decide)) bM_Book_fences .nil pass0))
      (pss_cons (ps_asg (pe_ix (r := rIxL K) ix_list (pe_call0 G_law_pairs (hr.mono (by decide)) rfl D_law_pairs.g D_law_pairs.F.kp D_law_pairs.b .nil pass0) (pe_op op_mod (pe_callTy (T := "int") call_int1 (by rfl) T.b_int (by decide +kernel) (pa_cons (pv 3) pa_nil)) pe_int) (fun _ _ => rfl)) (pg_tup (n := 2) (by rfl) (pgs_cons (pg_name (i := 5) sc_law_refuses.nd rfl (Or.inl rfl)) (pgs_cons (pg_name (i := 6) sc_law_refuses.nd rfl (Or.inl rfl)) pgs_nil))))
      (pss_cons (ps_set (i := 3) sc_law_refuses.nd rfl (Or.inl rfl) (pe_op op_fdiv (pv 3) pe_int))
      (pss_cons (ps_set (i := 7) sc_law_refuses.nd rfl (Or.inl rfl) (pe_op op_mod (pe_callTy (T := "int") call_int1 (by rfl) T.b_int (by decide +kernel) (pa_cons (pv 3) pa_nil)) (pe_op op_add (pe_callB (id := "len") (r := Evl.rLenS K) call_len_seq (by rfl) T.b_len PySem.boot_len (pa_cons (pv 2) pa_nil)) pe_int)))
      (pss_cons (ps_set (i := 3) sc_law_refuses.nd rfl (Or.inl rfl) (pe_op op_fdiv (pv 3) pe_int))
      (pss_cons (ps_set (i := 8) sc_law_refuses.nd rfl (Or.inl rfl) (pe_call G_law_unknown (hr.mono (by decide)) rfl D_law_unknown.g D_law_unknown.F.kp D_law_unknown.b .nil pass0 (pa_cons (pv 3) (pa_cons (pv 4) pa_nil))))
      (pss_cons (ps_set (i := 3) sc_law_refuses.nd rfl (Or.inl rfl) (pe_op op_fdiv (pv 3) pe_int))
      (pss_cons (ps_set (i := 9) sc_law_refuses.nd rfl (Or.inl rfl) (pe_op op_catA (pe_op op_catA (pe_op op_catA (pe_slice sl_tupA (pv 2) po_none (po_some (pv 7))) (pe_tup (pa_cons (pv 8) pa_nil))) (pe_slice sl_tupA (pv 2) (po_some (pv 7)) po_none)) (pe_tup (pa_cons (pe_call G_law_unknown (hr.mono (by decide)) rfl D_law_unknown.g D_law_unknown.F.kp D_law_unknown.b .nil pass0 (pa_cons (pv 3) (pa_cons (pv 4) pa_nil))) pa_nil))))
      (pss_cons (ps_if (pt_cmpR (op_neD hr.units) (pe_call G_law_keeps_refusal (hr.mono (by decide)) rfl D_law_keeps_refusal.g D_law_keeps_refusal.F.kp D_law_keeps_refusal.b .nil pass0 (pa_cons (pv 0) (pa_cons (pv 5) (pa_cons (pv 6) (pa_cons (pv 9) pa_nil))))) (pe_lst (pa_cons pe_str (pa_cons (pv 8) pa_nil))) (nomark _)) (pss_one (ps_ret pe_bl)) pss_nil)
      (pss_cons (ps_for PassesOwn.never rfl (pi_list (pe_slice sl_list (pv 1) po_none (po_some pe_int))) (pg_tup (n := 2) (by rfl) (pgs_cons (pg_name (i := 10) sc_law_refuses.nd rfl (Or.inl rfl)) (pgs_cons (pg_name (i := 11) sc_law_refuses.nd rfl (Or.inl rfl)) pgs_nil))) (pss_one (ps_if (pt_cmpR (op_neD hr.units) (pe_call G_law_keeps_refusal (hr.mono (by decide)) rfl D_law_keeps_refusal.g D_law_keeps_refusal.F.kp D_law_keeps_refusal.b .nil pass0 (pa_cons (pv 0) (pa_cons (pv 10) (pa_cons (pv 11) (pa_cons (pv 9) pa_nil))))) (pe_lst (pa_cons pe_str (pa_cons (pv 8) pa_nil))) (nomark _)) (pss_one (ps_ret pe_bl)) pss_nil)))
      (pss_cons (ps_set (i := 12) sc_law_refuses.nd rfl (Or.inl rfl) (pe_lst (pa_cons (pe_tup (pa_cons pe_str (pa_cons pe_str pa_nil))) (pa_cons (pe_tup (pa_cons pe_str (pa_cons pe_str pa_nil))) (pa_cons (pe_tup (pa_cons pe_str (pa_cons pe_str pa_nil))) (pa_cons (pe_tup (pa_cons pe_str (pa_cons pe_str pa_nil))) (pa_cons (pe_tup (pa_cons pe_str (pa_cons pe_str pa_nil))) pa_nil)))))))
      (pss_cons (ps_set (i := 12) sc_law_refuses.nd rfl (Or.inl rfl) (pe_op op_cat (pv 12) (pe_lst (pa_cons (pe_tup (pa_cons pe_str (pa_cons pe_str pa_nil))) (pa_cons (pe_tup (pa_cons pe_str (pa_cons pe_str pa_nil))) pa_nil)))))
      (pss_cons (ps_set (i := 13) sc_law_refuses.nd rfl (Or.inl rfl) (pe_ix (r := rIxL K) ix_list (pv 12) (pe_op op_mod (pe_callTy (T := "int") call_int1 (by rfl) T.b_int (by decide +kernel) (pa_cons (pe_op op_fdiv (pv 3) pe_int) pa_nil)) pe_int) (fun _ _ => rfl)))
      (pss_cons (ps_if (pt_cmpR (op_neD hr.units) (pe_call G_law_keeps_refusal (hr.mono (by decide)) rfl D_law_keeps_refusal.g D_law_keeps_refusal.F.kp D_law_keeps_refusal.b .nil pass0 (pa_cons (pv 0) (pa_cons (pe_ix (r := rIxT K) ix_tup (pv 13) pe_int (fun _ _ => rfl)) (pa_cons (pe_ix (r := rIxT K) ix_tup (pv 13) pe_int (fun _ _ => rfl)) (pa_cons (pv 9) pa_nil))))) (pe_lst (pa_cons pe_str (pa_cons (pv 13) pa_nil))) (nomark _)) (pss_one (ps_ret pe_bl)) pss_nil)
      (pss_cons (ps_if (PW.pt (pw_or (pt_cmpR (op_neD hr.units) (pe_call G_law_keeps_refusal (hr.mono (by decide)) rfl D_law_keeps_refusal.g D_law_keeps_refusal.F.kp D_law_keeps_refusal.b .nil pass0 (pa_cons (pv 0) (pa_cons (pe_ix (r := rIxT K) ix_tup (pv 13) pe_int (fun _ _ => rfl)) (pa_cons (pe_ix (r := rIxT K) ix_tup (pv 13) pe_int (fun _ _ => rfl)) (pa_cons (pv 2) pa_nil))))) (pe_lst (pa_cons pe_str (pa_cons (pv 13) pa_nil))) (nomark _)) (pw_or1 (pt_cmpR (op_neD hr.units) (pe_call G_law_fence_refusal (hr.mono (by decide)) rfl D_law_fence_refusal.g D_law_fence_refusal.F.kp D_law_fence_refusal.b .nil pass0 (pa_cons (pv 0) (pa_cons (pv 8) pa_nil))) (pe_lst (pa_cons (pv 8) pa_nil)) (nomark _))))) (pss_one (ps_ret pe_bl)) pss_nil)
      (pss_one (ps_ret (pe_cmpR (op_eqD hr.units) (pe_call G_law_keeps_refusal (hr.mono (by decide)) rfl D_law_keeps_refusal.g D_law_keeps_refusal.F.kp D_law_keeps_refusal.b .nil pass0 (pa_cons (pv 0) (pa_cons (pv 5) (pa_cons (pv 6) (pa_cons (pv 2) pa_nil))))) (pe_lst pa_nil) (nomark _))))))))))))))))))), ?_⟩
    try simp (maxSteps := 1000000) only [tSeq, tIfS, tTest, tOp, tUn, tCB, tCons, tNil, tVar, tC, rI0, rI, rU, rEq, rNe, tRet, tRetN, tAsg, gName, gSub, tBM, tBM0, tNext, tB, tNot, tAnd, tOr, tIf, tCall, tDrop, tBreak, tCont, L2.start, tDGet, sDPut, tTup, tLst, tDNewK, tRevL, rCat, rAppend, rPop, rSetL, tAndV, tOrV, tNotV, tSl, tPart, tNoPart, tM1, gTup, gCons, gNil, cxK, cxnK, List.map_cons, List.map_nil, List.length_cons, List.length_nil, List.replicate, List.cons_append, List.nil_append, List.append_nil, List.set_cons_zero, List.set_cons_succ, List.getElem?_cons_zero, List.getElem?_cons_succ, Option.some.injEq, V.ref.injEq, V.int.injEq, V.str.injEq, V.bl.injEq, V.ty.injEq, exists_eq_left', exists_eq_left, exists_and_left, List.cons.injEq, and_true, true_and, sc_ii, sc_ss, sc_bb, sc_ni, sc_in, sc_is, sc_si, sc_nn, decide_true, decide_false, reduceCtorEq, Bool.false_eq_true, if_true, if_false, ite_true, ite_false, exists_const, eq_self, false_and, and_false, or_false, false_or, exists_false, Evl.rLenS, rSum, wipe, tYes, exists_eq, exists_eq', rIxL, rIxT, rIxS, exists_and_right, gt_iff_lt, not_true_eq_false, not_false_eq_true, Bool.not_true, Bool.not_false, decide_eq_true_eq, Nat.reduceSub, Nat.reduceAdd, List.append_assoc, tChain, tDIn, tDNotIn, sDDel, tAug, ipI, tMeth]
    obtain ⟨dx, ko, d, kvs, ho, hko, hd, hF, fl, nd⟩ := id hB
    refine ⟨dx, _, ho, rfl, o, ff, full fs, rfl, hB, fun ys yl perm srt nyl => ?_⟩
    have k1 : Kp [] H (upd H yl (.lst (ys.map V.str))) := Kp.new nyl
    have hyl : (upd H yl (.lst (ys.map V.str))) yl = some (.lst (ys.map V.str)) := upd_same
    generalize (upd H yl (.lst (ys.map V.str))) = H1 at k1 hyl ⊢
    refine ⟨rfl, fun ra rws H2 nra hra hrw k2 => ?_⟩
    obtain ⟨m, em⟩ : ∃ m : Nat, n % 27 = m := ⟨(n % 27).toNat, by have := Int.emod_nonneg n (show (27 : Int) ≠ 0 by decide); omega⟩
    have m27 : m < 27 := by have := Int.emod_lt_of_pos n (show (0 : Int) < 27 by decide); omega
    have ml : m < rws.length := by rw [dpLen hrw, List.length_map, pairs_len]; exact m27
    obtain ⟨dd, ed, hd0⟩ := dpGet hrw (List.getElem?_eq_getElem ml)
    rw [List.getElem?_map] at ed
    obtain ⟨⟨a, b⟩, ep, rfl⟩ : ∃ p, pairsL[m]? = some p ∧ pD p = dd := by
      cases e : pairsL[m]? with
      | none => rw [e] at ed; cases ed
      | some p => rw [e] at ed; exact ⟨p, rfl, Option.some.inj ed⟩
    have mab : (a, b) ∈ pairsL := List.mem_of_getElem? ep
    obtain ⟨t, et, hTt⟩ := dpPair hd0
    have ev : atI rws ((m : Nat) : Int) = some (.ref t) := atI_nat (by rw [List.getElem?_eq_getElem ml, et])
    have k12 := k1.trans k2
    have hT2 := k12 _ _ not0 hT
    have pN : (0 : Int) < (zs.length : Nat) + 1 := by omega
    obtain ⟨pl, epl⟩ : ∃ p : Nat, n / 27 % ((zs.length : Nat) + 1) = p := ⟨(n / 27 % ((zs.length : Nat) + 1)).toNat, by have := Int.emod_nonneg (n / 27) (show ((zs.length : Nat) : Int) + 1 ≠ 0 by omega); omega⟩
    have pll : pl ≤ zs.length := by have := Int.emod_lt_of_pos (n / 27) pN; omega
    have ysn : ("" : Str) ∉ ys := fun h => by
      have := hf.names _ (perm.mem_iff.mp h)
      rw [empty_no] at this; cases this
    rw [em]
    try simp (maxSteps := 1000000) only [tSeq, tIfS, tTest, tOp, tUn, tCB, tCons, tNil, tVar, tC, rI0, rI, rU, rEq, rNe, tRet, tRetN, tAsg, gName, gSub, tBM, tBM0, tNext, tB, tNot, tAnd, tOr, tIf, tCall, tDrop, tBreak, tCont, L2.start, tDGet, sDPut, tTup, tLst, tDNewK, tRevL, rCat, rAppend, rPop, rSetL, tAndV, tOrV, tNotV, tSl, tPart, tNoPart, tM1, gTup, gCons, gNil, cxK, cxnK, List.map_cons, List.map_nil, List.length_cons, List.length_nil, List.replicate, List.cons_append, List.nil_append, List.append_nil, List.set_cons_zero, List.set_cons_succ, List.getElem?_cons_zero, List.getElem?_cons_succ, Option.some.injEq, V.ref.injEq, V.int.injEq, V.str.injEq, V.bl.injEq, V.ty.injEq, exists_eq_left', exists_eq_left, exists_and_left, List.cons.injEq, and_true, true_and, sc_ii, sc_ss, sc_bb, sc_ni, sc_in, sc_is, sc_si, sc_nn, decide_true, decide_false, reduceCtorEq, Bool.false_eq_true, if_true, if_false, ite_true, ite_false, exists_const, eq_self, false_and, and_false, or_false, false_or, exists_false, Evl.rLenS, rSum, wipe, tYes, exists_eq, exists_eq', rIxL, rIxT, rIxS, exists_and_right, gt_iff_lt, not_true_eq_false, not_false_eq_true, Bool.not_true, Bool.not_false, decide_eq_true_eq, Nat.reduceSub, Nat.reduceAdd, List.append_assoc, tChain, tDIn, tDNotIn, sDDel, tAug, ipI]
    refine ⟨by decide, _, sq_l hra, _, ev, t, rfl, _, hTt, rfl, _, _, rfl, _, _, rfl, rfl, ⟨by decide, by decide⟩, zs.map V.str, .inr (sq_t hT2), ?_⟩
    rw [List.length_map, epl]
    refine ⟨pN, ⟨by decide, by decide⟩, n / 27 / 8, yl, ys, rfl, sq_l (k2 _ _ not0 hyl), ysn, fun z H3 hzu hzn k3 => ⟨⟨by decide, by decide⟩, ?_⟩⟩
    refine slA_to rfl (k3 _ _ not0 hT2) fun r1 H4 hr1 k4 => ?_
    try simp (maxSteps := 1000000) only [tSeq, tIfS, tTest, tOp, tUn, tCB, tCons, tNil, tVar, tC, rI0, rI, rU, rEq, rNe, tRet, tRetN, tAsg, gName, gSub, tBM, tBM0, tNext, tB, tNot, tAnd, tOr, tIf, tCall, tDrop, tBreak, tCont, L2.start, tDGet, sDPut, tTup, tLst, tDNewK, tRevL, rCat, rAppend, rPop, rSetL, tAndV, tOrV, tNotV, tSl, tPart, tNoPart, tM1, gTup, gCons, gNil, cxK, cxnK, List.map_cons, List.map_nil, List.length_cons, List.length_nil, List.replicate, List.cons_append, List.nil_append, List.append_nil, List.set_cons_zero, List.set_cons_succ, List.getElem?_cons_zero, List.getElem?_cons_succ, Option.some.injEq, V.ref.injEq, V.int.injEq, V.str.injEq, V.bl.injEq, V.ty.injEq, exists_eq_left', exists_eq_left, exists_and_left, List.cons.injEq, and_true, true_and, sc_ii, sc_ss, sc_bb, sc_ni, sc_in, sc_is, sc_si, sc_nn, decide_true, decide_false, reduceCtorEq, Bool.false_eq_true, if_true, if_false, ite_true, ite_false, exists_const, eq_self, false_and, and_false, or_false, false_or, exists_false, Evl.rLenS, rSum, wipe, tYes, exists_eq, exists_eq', rIxL, rIxT, rIxS, exists_and_right, gt_iff_lt, not_true_eq_false, not_false_eq_true, Bool.not_true, Bool.not_false, decide_eq_true_eq, Nat.reduceSub, Nat.reduceAdd, List.append_assoc, tChain, tDIn, tDNotIn, sDDel, tAug, ipI]
    have k14 := (k12.trans k3).trans k4
    refine ⟨small (by decide), fun p1 np1 => ?_⟩
    have kp1 : Kp [] H4 (upd H4 p1 (.tup [.str z])) := Kp.new np1
    refine catA_use (kp1 _ _ not0 hr1) upd_same (by rw [List.length_take, List.length_map]; show min pl zs.length + 1 ≤ 1000; omega) fun r2 H5 hr2 k5 => ?_
    have k15 := k14.trans (kp1.trans k5)
    refine slA_from rfl (k15 _ _ not0 hT) fun r3 H6 hr3 k6 => ?_
    refine catA_use (k6 _ _ not0 hr2) hr3 (by rw [List.length_append, List.length_take, List.length_drop, List.length_map]; show min pl zs.length + 1 + (zs.length - pl) ≤ 1000; omega) fun r4 H7 hr4 k7 => ?_
    have k17 := (k15.trans k6).trans k7
    have hyl7 : H7 yl = some (.lst (ys.map V.str)) := (((((k2.trans k3).trans k4).trans (kp1.trans k5)).trans k6).trans k7) _ _ not0 hyl
    refine ⟨n / 27 / 8 / 8, yl, ys, rfl, sq_l hyl7, ysn, fun z2 H8 hzu2 hzn2 k8 => ⟨small (by decide), fun p2 np2 => ?_⟩⟩
    have kp2 : Kp [] H8 (upd H8 p2 (.tup [.str z2])) := Kp.new np2
    refine catA_use ((k8.trans kp2) _ _ not0 hr4) upd_same (by simp only [List.length_append, List.length_take, List.length_drop, List.length_map, List.length_cons, List.length_nil]; omega) fun r5 H9 hr5 k9 => ?_
    have k19 := k17.trans ((k8.trans kp2).trans k9)
    obtain ⟨sp, esp⟩ : ∃ sp : List Str, sp = zs.take pl ++ (z :: (zs.drop pl ++ [z2])) := ⟨_, rfl⟩
    have hr5' : H9 r5 = some (.tup (sp.map V.str)) := by
      rw [hr5, esp]
      simp [List.map_take, List.map_drop]
    have nz : z ∉ (full fs).map (·.1) := fun h => hzn (perm.mem_iff.mpr h)
    have tl : (zs.take pl).length = pl := by rw [List.length_take]; omega
    have kref : ∀ a b, (a, b) ∈ pairsL → KRef ((full fs).map (·.1)) a b sp (.list [.str "fence", .str z]) := fun a b h => .inr (.inr ⟨h, pl, z, by rw [esp, List.getElem?_append_right (by omega), tl, Nat.sub_self]; rfl, .inr nz, fun i y hi ey => by
      rw [esp, List.getElem?_append_left (by omega)] at ey
      have my := hz y (List.mem_of_mem_take (List.mem_of_getElem? ey))
      exact ⟨hf.names y my, my⟩, rfl⟩)
    have spl : sp.length ≤ 1000 := by rw [esp]; simp only [List.length_append, List.length_cons, List.length_drop, List.length_nil, tl]; omega
    have spn : ∀ y ∈ sp, y.length ≤ 1000 := fun y hy => by
      rw [esp] at hy
      have : y ∈ zs ∨ y = z ∨ y = z2 := by
        rcases List.mem_append.mp hy with h | h
        · exact .inl (List.mem_of_mem_take h)
        · rcases List.mem_cons.mp h with h | h
          · exact .inr (.inl h)
          · rcases List.mem_append.mp h with h | h
            · exact .inl (List.mem_of_mem_drop h)
            · exact .inr (.inr (List.mem_singleton.mp h))
      rcases this with h | h | h
      · exact Nat.le_trans (name_len (hf.names y (hz y h))) (by decide)
      · rw [h]; exact (unk_ok z hzu).2
      · rw [h]; exact (unk_ok z2 hzu2).2
    have shz : SeqAt.shaped (.list [.str "fence", .str z]) = true := (shapedL (ds := [.str "fence", .str z]) fun d hd => by
      have : d = .str "fence" ∨ d = .str z := by simpa using hd
      rcases this with rfl | rfl
      · exact ⟨by decide +kernel, by show 0 ≤ 60; decide⟩
      · exact ⟨(unk_ok z hzu).1, by show 0 ≤ 60; decide⟩).1
    have eqz : PyData.eqv (.list [.str "fence", .str z]) (.list [.str "fence", .str z]) = true := SeqAt.eqv_refl _ (SeqAt.canLay_of_shaped shz)
    refine ⟨o, r5, ff, full fs, a, b, sp, _, rfl, hB.kp k19, sq_t hr5', spl, spn, okP mab, kref a b mab, fun l1 H10 hl1 k10 => ⟨small (by decide), fun q1 nq1 => ?_⟩⟩
    have kq1 : Kp [] H10 (upd H10 q1 (.lst [.str "fence", .str z])) := Kp.new nq1
    refine ⟨_, _, dpN kq1 noSq0 hl1, .lst (sq_l upd_same) (.cons (.str _) (.cons (.str _) .nil)), shz, shz, ?_⟩
    rw [eqz]
    try simp (maxSteps := 1000000) only [tSeq, tIfS, tTest, tOp, tUn, tCB, tCons, tNil, tVar, tC, rI0, rI, rU, rEq, rNe, tRet, tRetN, tAsg, gName, gSub, tBM, tBM0, tNext, tB, tNot, tAnd, tOr, tIf, tCall, tDrop, tBreak, tCont, L2.start, tDGet, sDPut, tTup, tLst, tDNewK, tRevL, rCat, rAppend, rPop, rSetL, tAndV, tOrV, tNotV, tSl, tPart, tNoPart, tM1, gTup, gCons, gNil, cxK, cxnK, List.map_cons, List.map_nil, List.length_cons, List.length_nil, List.replicate, List.cons_append, List.nil_append, List.append_nil, List.set_cons_zero, List.set_cons_succ, List.getElem?_cons_zero, List.getElem?_cons_succ, Option.some.injEq, V.ref.injEq, V.int.injEq, V.str.injEq, V.bl.injEq, V.ty.injEq, exists_eq_left', exists_eq_left, exists_and_left, List.cons.injEq, and_true, true_and, sc_ii, sc_ss, sc_bb, sc_ni, sc_in, sc_is, sc_si, sc_nn, decide_true, decide_false, reduceCtorEq, Bool.false_eq_true, if_true, if_false, ite_true, ite_false, exists_const, eq_self, false_and, and_false, or_false, false_or, exists_false, Evl.rLenS, rSum, wipe, tYes, exists_eq, exists_eq', rIxL, rIxT, rIxS, exists_and_right, gt_iff_lt, not_true_eq_false, not_false_eq_true, Bool.not_true, Bool.not_false, decide_eq_true_eq, Nat.reduceSub, Nat.reduceAdd, List.append_assoc, tChain, tDIn, tDNotIn, sDDel, tAug, ipI]
    generalize (upd H10 q1 (.lst [.str "fence", .str z])) = H11 at kq1 ⊢
    have k9b := k10.trans kq1
    have k1b := k19.trans k9b
    refine forL_src34 ?_
    try simp (maxSteps := 1000000) only [tSeq, tIfS, tTest, tOp, tUn, tCB, tCons, tNil, tVar, tC, rI0, rI, rU, rEq, rNe, tRet, tRetN, tAsg, gName, gSub, tBM, tBM0, tNext, tB, tNot, tAnd, tOr, tIf, tCall, tDrop, tBreak, tCont, L2.start, tDGet, sDPut, tTup, tLst, tDNewK, tRevL, rCat, rAppend, rPop, rSetL, tAndV, tOrV, tNotV, tSl, tPart, tNoPart, tM1, gTup, gCons, gNil, cxK, cxnK, List.map_cons, List.map_nil, List.length_cons, List.length_nil, List.replicate, List.cons_append, List.nil_append, List.append_nil, List.set_cons_zero, List.set_cons_succ, List.getElem?_cons_zero, List.getElem?_cons_succ, Option.some.injEq, V.ref.injEq, V.int.injEq, V.str.injEq, V.bl.injEq, V.ty.injEq, exists_eq_left', exists_eq_left, exists_and_left, List.cons.injEq, and_true, true_and, sc_ii, sc_ss, sc_bb, sc_ni, sc_in, sc_is, sc_si, sc_nn, decide_true, decide_false, reduceCtorEq, Bool.false_eq_true, if_true, if_false, ite_true, ite_false, exists_const, eq_self, false_and, and_false, or_false, false_or, exists_false, Evl.rLenS, rSum, wipe, tYes, exists_eq, exists_eq', rIxL, rIxT, rIxS, exists_and_right, gt_iff_lt, not_true_eq_false, not_false_eq_true, Bool.not_true, Bool.not_false, decide_eq_true_eq, Nat.reduceSub, Nat.reduceAdd, List.append_assoc, tChain, tDIn, tDNotIn, sDDel, tAug, ipI]
    obtain ⟨lws, hlw, hlD⟩ := hk.kp k1b
    have hT11 := k1b _ _ not0 hT
    have hB11 := hB.kp k1b
    refine ⟨lk, lws, rfl, sq_l hlw, fun c1 nc1 => ?_⟩
    have ec : cutV lws none (some 3) = lws.take 3 := cut_to lws 3
    rw [ec]
    have kc1 : Kp [] H11 (upd H11 c1 (.lst (lws.take 3))) := Kp.new nc1
    have hc1 : (upd H11 c1 (.lst (lws.take 3))) c1 = some (.lst (lws.take 3)) := upd_same
    have hcD : DpAll K (upd H11 c1 (.lst (lws.take 3))) (lws.take 3) (((pairsL.filter ff).take 3).map pD) := by rw [List.map_take] ; exact dpTake (dpAllN kc1 noSq0 hlD) 3
    generalize (upd H11 c1 (.lst (lws.take 3))) = H12 at kc1 hc1 hcD ⊢
    have hr11 : H11 r5 = some (.tup (sp.map V.str)) := k9b _ _ not0 hr5'
    refine forLC34 (fun j σ H' => ∃ c d, σ = [some (.ref o), some (.ref lk), some (.ref tr), some (.int (n / 27 / 8 / 8)), some (.ref yl), some (.str a), some (.str b), some (.int (pl : Nat)), some (.str z), some (.ref r5), c, d, none, none] ∧ Kp [] H12 H') (sq_l hc1) ⟨_, _, rfl, Kp.refl _ _⟩ (fun j σ H' _ h => by obtain ⟨_, _, _, k⟩ := h; exact k.ls not0 (sq_l hc1)) (fun j x σ H13 hx h => ?_) fun σ H13 h => ?_
    · obtain ⟨c, d, rfl, k13⟩ := h
      obtain ⟨dd, ed, hd13⟩ := dpGet (dpAllN k13 noSq0 hcD) hx
      rw [List.getElem?_map] at ed
      obtain ⟨⟨a2, b2⟩, ep2, rfl⟩ : ∃ p, ((pairsL.filter ff).take 3)[j]? = some p ∧ pD p = dd := by
        cases e : ((pairsL.filter ff).take 3)[j]? with
        | none => rw [e] at ed; cases ed
        | some p => rw [e] at ed; exact ⟨p, rfl, Option.some.inj ed⟩
      have mab2 : (a2, b2) ∈ pairsL := subP ff _ (List.mem_of_mem_take (List.mem_of_getElem? ep2))
      obtain ⟨t2, rfl, hT2t⟩ := dpPair hd13
      try simp (maxSteps := 1000000) only [tSeq, tIfS, tTest, tOp, tUn, tCB, tCons, tNil, tVar, tC, rI0, rI, rU, rEq, rNe, tRet, tRetN, tAsg, gName, gSub, tBM, tBM0, tNext, tB, tNot, tAnd, tOr, tIf, tCall, tDrop, tBreak, tCont, L2.start, tDGet, sDPut, tTup, tLst, tDNewK, tRevL, rCat, rAppend, rPop, rSetL, tAndV, tOrV, tNotV, tSl, tPart, tNoPart, tM1, gTup, gCons, gNil, cxK, cxnK, List.map_cons, List.map_nil, List.length_cons, List.length_nil, List.replicate, List.cons_append, List.nil_append, List.append_nil, List.set_cons_zero, List.set_cons_succ, List.getElem?_cons_zero, List.getElem?_cons_succ, Option.some.injEq, V.ref.injEq, V.int.injEq, V.str.injEq, V.bl.injEq, V.ty.injEq, exists_eq_left', exists_eq_left, exists_and_left, List.cons.injEq, and_true, true_and, sc_ii, sc_ss, sc_bb, sc_ni, sc_in, sc_is, sc_si, sc_nn, decide_true, decide_false, reduceCtorEq, Bool.false_eq_true, if_true, if_false, ite_true, ite_false, exists_const, eq_self, false_and, and_false, or_false, false_or, exists_false, Evl.rLenS, rSum, wipe, tYes, exists_eq, exists_eq', rIxL, rIxT, rIxS, exists_and_right, gt_iff_lt, not_true_eq_false, not_false_eq_true, Bool.not_true, Bool.not_false, decide_eq_true_eq, Nat.reduceSub, Nat.reduceAdd, List.append_assoc, tChain, tDIn, tDNotIn, sDDel, tAug, ipI]
      refine ⟨_, hT2t, rfl, _, _, rfl, _, _, rfl, rfl, ?_⟩
      refine ⟨o, r5, ff, full fs, a2, b2, sp, _, rfl, hB11.kp (kc1.trans k13), sq_t ((kc1.trans k13) _ _ not0 hr11), spl, spn, okP mab2, kref a2 b2 mab2, fun l2 H14 hl2 k14 => ⟨small (by decide), fun q2 nq2 => ?_⟩⟩
      have kq2 : Kp [] H14 (upd H14 q2 (.lst [.str "fence", .str z])) := Kp.new nq2
      refine ⟨_, _, dpN kq2 noSq0 hl2, .lst (sq_l upd_same) (.cons (.str _) (.cons (.str _) .nil)), shz, shz, ?_⟩
      rw [eqz]
      exact ⟨_, rfl, (k13.trans k14).trans kq2⟩
    · obtain ⟨c, d, rfl, k13⟩ := h
      have k1d := (k1b.trans kc1).trans k13
      have hT13 := k1d _ _ not0 hT
      have hB13 := hB.kp k1d
      have hr13 : H13 r5 = some (.tup (sp.map V.str)) := (kc1.trans k13) _ _ not0 hr11
      try simp (maxSteps := 1000000) only [tSeq, tIfS, tTest, tOp, tUn, tCB, tCons, tNil, tVar, tC, rI0, rI, rU, rEq, rNe, tRet, tRetN, tAsg, gName, gSub, tBM, tBM0, tNext, tB, tNot, tAnd, tOr, tIf, tCall, tDrop, tBreak, tCont, L2.start, tDGet, sDPut, tTup, tLst, tDNewK, tRevL, rCat, rAppend, rPop, rSetL, tAndV, tOrV, tNotV, tSl, tPart, tNoPart, tM1, gTup, gCons, gNil, cxK, cxnK, List.map_cons, List.map_nil, List.length_cons, List.length_nil, List.replicate, List.cons_append, List.nil_append, List.append_nil, List.set_cons_zero, List.set_cons_succ, List.getElem?_cons_zero, List.getElem?_cons_succ, Option.some.injEq, V.ref.injEq, V.int.injEq, V.str.injEq, V.bl.injEq, V.ty.injEq, exists_eq_left', exists_eq_left, exists_and_left, List.cons.injEq, and_true, true_and, sc_ii, sc_ss, sc_bb, sc_ni, sc_in, sc_is, sc_si, sc_nn, decide_true, decide_false, reduceCtorEq, Bool.false_eq_true, if_true, if_false, ite_true, ite_false, exists_const, eq_self, false_and, and_false, or_false, false_or, exists_false, Evl.rLenS, rSum, wipe, tYes, exists_eq, exists_eq', rIxL, rIxT, rIxS, exists_and_right, gt_iff_lt, not_true_eq_false, not_false_eq_true, Bool.not_true, Bool.not_false, decide_eq_true_eq, Nat.reduceSub, Nat.reduceAdd, List.append_assoc, tChain, tDIn, tDNotIn, sDDel, tAug, ipI]
      refine ⟨small (by decide), fun t1 n1 => ⟨small (by decide), fun t2 n2 => ⟨small (by decide), fun t3 n3 => ⟨small (by decide), fun t4 n4 => ⟨small (by decide), fun t5 n5 => ⟨small (by decide), fun l5 nl5 => ?_⟩⟩⟩⟩⟩⟩
      have a0 : Laid K H13 [] [] H13 := ⟨.nil, Kp.refl _ _⟩
      have a1 := (((((a0.tup n1 s2).tup n2 s2).tup n3 s2).tup n4 s2).tup n5 (s2 (x := "read") (y := "full"))).up (o := .lst [.ref t1, .ref t2, .ref t3, .ref t4, .ref t5]) nl5
      have hl5 : (upd (upd (upd (upd (upd (upd H13 t1 (.tup [.str "read", .str "return"])) t2 (.tup [.str "both", .str "return"])) t3 (.tup [.str "return", .str "read"])) t4 (.tup [.str "full", .str "read"])) t5 (.tup [.str "read", .str "full"])) l5 (.lst [.ref t1, .ref t2, .ref t3, .ref t4, .ref t5])) l5 = some (.lst [.ref t1, .ref t2, .ref t3, .ref t4, .ref t5]) := upd_same
      clear a0
      generalize (upd (upd (upd (upd (upd (upd H13 t1 (.tup [.str "read", .str "return"])) t2 (.tup [.str "both", .str "return"])) t3 (.tup [.str "return", .str "read"])) t4 (.tup [.str "full", .str "read"])) t5 (.tup [.str "read", .str "full"])) l5 (.lst [.ref t1, .ref t2, .ref t3, .ref t4, .ref t5])) = Hc at a1 hl5 ⊢
      refine ⟨small (by decide), fun u1 m1 => ⟨small (by decide), fun u2 m2 => ⟨small (by decide), fun l6 nl6 => ?_⟩⟩⟩
      have b2 := (((laid0 (K := K) (H := Hc)).tup m1 s2).tup m2 (s2 (x := "Read") (y := "read"))).up (o := .lst [.ref u1, .ref u2]) nl6
      refine ⟨_, b2.2 _ _ not0 hl5, _, upd_same, small (by simp), fun l7 nl7 => ?_⟩
      have c0 : Laid K H13 _ _ _ := ⟨dpApp (dpAllN b2.2 noSq0 a1.1) b2.1, a1.2.trans b2.2⟩
      have c1 := c0.up (o := .lst ([.ref t1, .ref t2, .ref t3, .ref t4, .ref t5] ++ [.ref u1, .ref u2])) nl7
      obtain ⟨v, hv, ev2⟩ := atI_ex (xs := ([.ref t1, .ref t2, .ref t3, .ref t4, .ref t5] ++ [.ref u1, .ref u2] : List V)) (i := n / 27 / 8 / 8 / 8 % 7) (Int.emod_nonneg _ (by decide)) (by show n / 27 / 8 / 8 / 8 % 7 < 7; exact Int.emod_lt_of_pos _ (by decide))
      obtain ⟨i, ei⟩ := List.getElem?_of_mem hv
      obtain ⟨dd, edd, hdd⟩ := dpGet c1.1 ei
      obtain ⟨⟨ba, bb⟩, eb, mo⟩ : ∃ p : Pr, dd = pD p ∧ p ∈ oddL := by
        have hm : dd ∈ oddL.map pD := List.mem_of_getElem? edd
        obtain ⟨p, hp, e⟩ := List.mem_map.mp hm
        exact ⟨p, e.symm, hp⟩
      subst eb
      obtain ⟨nb, shb⟩ := odd_ok _ mo
      have hl7 : (upd (upd (upd (upd Hc u1 (.tup [.str "", .str ""])) u2 (.tup [.str "Read", .str "read"])) l6 (.lst [.ref u1, .ref u2])) l7 (.lst ([.ref t1, .ref t2, .ref t3, .ref t4, .ref t5] ++ [.ref u1, .ref u2]))) l7 = some (.lst ([.ref t1, .ref t2, .ref t3, .ref t4, .ref t5] ++ [.ref u1, .ref u2])) := upd_same
      generalize (upd (upd (upd (upd Hc u1 (.tup [.str "", .str ""])) u2 (.tup [.str "Read", .str "read"])) l6 (.lst [.ref u1, .ref u2])) l7 (.lst ([.ref t1, .ref t2, .ref t3, .ref t4, .ref t5] ++ [.ref u1, .ref u2]))) = Hd at c1 hl7 hdd ⊢
      obtain ⟨tb, rfl, hTb⟩ := dpPair hdd
      refine ⟨⟨by decide, by decide⟩, by decide, _, sq_l hl7, _, ev2, ?_⟩
      have kd := c1.2
      have shP : SeqAt.shaped (.list [.str "pair", pD (ba, bb)]) = true := (shapedL (ds := [.str "pair", pD (ba, bb)]) fun d hd => by
        have : d = .str "pair" ∨ d = pD (ba, bb) := by simpa using hd
        rcases this with rfl | rfl
        · exact ⟨by decide +kernel, by show 0 ≤ 60; decide⟩
        · exact ⟨shb, by show max 0 (max 0 0) + 1 ≤ 60; decide⟩).1
      have eqP : PyData.eqv (.list [.str "pair", pD (ba, bb)]) (.list [.str "pair", pD (ba, bb)]) = true := SeqAt.eqv_refl _ (SeqAt.canLay_of_shaped shP)
      try simp (maxSteps := 1000000) only [tSeq, tIfS, tTest, tOp, tUn, tCB, tCons, tNil, tVar, tC, rI0, rI, rU, rEq, rNe, tRet, tRetN, tAsg, gName, gSub, tBM, tBM0, tNext, tB, tNot, tAnd, tOr, tIf, tCall, tDrop, tBreak, tCont, L2.start, tDGet, sDPut, tTup, tLst, tDNewK, tRevL, rCat, rAppend, rPop, rSetL, tAndV, tOrV, tNotV, tSl, tPart, tNoPart, tM1, gTup, gCons, gNil, cxK, cxnK, List.map_cons, List.map_nil, List.length_cons, List.length_nil, List.replicate, List.cons_append, List.nil_append, List.append_nil, List.set_cons_zero, List.set_cons_succ, List.getElem?_cons_zero, List.getElem?_cons_succ, Option.some.injEq, V.ref.injEq, V.int.injEq, V.str.injEq, V.bl.injEq, V.ty.injEq, exists_eq_left', exists_eq_left, exists_and_left, List.cons.injEq, and_true, true_and, sc_ii, sc_ss, sc_bb, sc_ni, sc_in, sc_is, sc_si, sc_nn, decide_true, decide_false, reduceCtorEq, Bool.false_eq_true, if_true, if_false, ite_true, ite_false, exists_const, eq_self, false_and, and_false, or_false, false_or, exists_false, Evl.rLenS, rSum, wipe, tYes, exists_eq, exists_eq', rIxL, rIxT, rIxS, exists_and_right, gt_iff_lt, not_true_eq_false, not_false_eq_true, Bool.not_true, Bool.not_false, decide_eq_true_eq, Nat.reduceSub, Nat.reduceAdd, List.append_assoc, tChain, tDIn, tDNotIn, sDDel, tAug, ipI]
      refine ⟨_, hTb, _, rfl, ?_⟩
      have at0 : ∀ x y : Str, atI [V.str x, V.str y] 0 = some (.str x) := fun _ _ => rfl
      have at1 : ∀ x y : Str, atI [V.str x, V.str y] 1 = some (.str y) := fun _ _ => rfl
      have k1e := k1d.trans kd
      have krb : ∀ zs2, KRef ((full fs).map (·.1)) ba bb zs2 (.list [.str "pair", pD (ba, bb)]) := fun _ => .inr (.inl ⟨nb, rfl⟩)
      have zsl : ∀ y ∈ zs, y.length ≤ 1000 := fun y hy => Nat.le_trans (name_len (hf.names y (hz y hy))) (by decide)
      refine ⟨_, hTb, _, at1 _ _, o, r5, ff, full fs, ba, bb, sp, _, rfl, hB.kp k1e, sq_t (kd _ _ not0 hr13), spl, spn, shb, krb sp, fun e1 G1 he1 g1 => ⟨small (by decide), fun e2 ne2 => ?_⟩⟩
      have ke2 : Kp [] G1 (upd G1 e2 (.lst [.str "pair", .ref tb])) := Kp.new ne2
      have dpb : ∀ {H' : Hp}, Kp [] Hd H' → Dp K H' (.ref tb) (pD (ba, bb)) := fun k => dpN k noSq0 hdd
      refine ⟨_, _, dpN ke2 noSq0 he1, .lst (sq_l upd_same) (.cons (.str _) (.cons (dpb (g1.trans ke2)) .nil)), shP, shP, ?_⟩
      rw [eqP]
      try simp (maxSteps := 1000000) only [tSeq, tIfS, tTest, tOp, tUn, tCB, tCons, tNil, tVar, tC, rI0, rI, rU, rEq, rNe, tRet, tRetN, tAsg, gName, gSub, tBM, tBM0, tNext, tB, tNot, tAnd, tOr, tIf, tCall, tDrop, tBreak, tCont, L2.start, tDGet, sDPut, tTup, tLst, tDNewK, tRevL, rCat, rAppend, rPop, rSetL, tAndV, tOrV, tNotV, tSl, tPart, tNoPart, tM1, gTup, gCons, gNil, cxK, cxnK, List.map_cons, List.map_nil, List.length_cons, List.length_nil, List.replicate, List.cons_append, List.nil_append, List.append_nil, List.set_cons_zero, List.set_cons_succ, List.getElem?_cons_zero, List.getElem?_cons_succ, Option.some.injEq, V.ref.injEq, V.int.injEq, V.str.injEq, V.bl.injEq, V.ty.injEq, exists_eq_left', exists_eq_left, exists_and_left, List.cons.injEq, and_true, true_and, sc_ii, sc_ss, sc_bb, sc_ni, sc_in, sc_is, sc_si, sc_nn, decide_true, decide_false, reduceCtorEq, Bool.false_eq_true, if_true, if_false, ite_true, ite_false, exists_const, eq_self, false_and, and_false, or_false, false_or, exists_false, Evl.rLenS, rSum, wipe, tYes, exists_eq, exists_eq', rIxL, rIxT, rIxS, exists_and_right, gt_iff_lt, not_true_eq_false, not_false_eq_true, Bool.not_true, Bool.not_false, decide_eq_true_eq, Nat.reduceSub, Nat.reduceAdd, List.append_assoc, tChain, tDIn, tDNotIn, sDDel, tAug, ipI]
      have gg1 := g1.trans ke2
      generalize (upd G1 e2 (.lst [.str "pair", .ref tb])) = G2 at gg1 ⊢
      clear ke2
      refine ⟨_, gg1.tp not0 hTb, _, at0 _ _, _, gg1.tp not0 hTb, _, at1 _ _, o, tr, ff, full fs, ba, bb, zs, _, rfl, hB.kp (k1e.trans gg1), sq_t ((k1e.trans gg1) _ _ not0 hT), by omega, zsl, shb, krb zs, fun e3 G3 he3 g3 => ⟨small (by decide), fun e4 ne4 => ?_⟩⟩
      have ke4 : Kp [] G3 (upd G3 e4 (.lst [.str "pair", .ref tb])) := Kp.new ne4
      refine ⟨_, _, dpN ke4 noSq0 he3, .lst (sq_l upd_same) (.cons (.str _) (.cons (dpb ((gg1.trans g3).trans ke4)) .nil)), shP, shP, ?_⟩
      rw [eqP]
      try simp (maxSteps := 1000000) only [tSeq, tIfS, tTest, tOp, tUn, tCB, tCons, tNil, tVar, tC, rI0, rI, rU, rEq, rNe, tRet, tRetN, tAsg, gName, gSub, tBM, tBM0, tNext, tB, tNot, tAnd, tOr, tIf, tCall, tDrop, tBreak, tCont, L2.start, tDGet, sDPut, tTup, tLst, tDNewK, tRevL, rCat, rAppend, rPop, rSetL, tAndV, tOrV, tNotV, tSl, tPart, tNoPart, tM1, gTup, gCons, gNil, cxK, cxnK, List.map_cons, List.map_nil, List.length_cons, List.length_nil, List.replicate, List.cons_append, List.nil_append, List.append_nil, List.set_cons_zero, List.set_cons_succ, List.getElem?_cons_zero, List.getElem?_cons_succ, Option.some.injEq, V.ref.injEq, V.int.injEq, V.str.injEq, V.bl.injEq, V.ty.injEq, exists_eq_left', exists_eq_left, exists_and_left, List.cons.injEq, and_true, true_and, sc_ii, sc_ss, sc_bb, sc_ni, sc_in, sc_is, sc_si, sc_nn, decide_true, decide_false, reduceCtorEq, Bool.false_eq_true, if_true, if_false, ite_true, ite_false, exists_const, eq_self, false_and, and_false, or_false, false_or, exists_false, Evl.rLenS, rSum, wipe, tYes, exists_eq, exists_eq', rIxL, rIxT, rIxS, exists_and_right, gt_iff_lt, not_true_eq_false, not_false_eq_true, Bool.not_true, Bool.not_false, decide_eq_true_eq, Nat.reduceSub, Nat.reduceAdd, List.append_assoc, tChain, tDIn, tDNotIn, sDDel, tAug, ipI]
      have gg3 := (gg1.trans g3).trans ke4
      generalize (upd G3 e4 (.lst [.str "pair", .ref tb])) = G4 at gg3 ⊢
      refine ⟨o, ff, full fs, z, rfl, hB.kp (k1e.trans gg3), (unk_ok z hzu).2, nz, fun e5 G5 ne5 he5 g5 => ⟨small (by decide), fun e6 ne6 => ?_⟩⟩
      have ke6 : Kp [] G5 (upd G5 e6 (.lst [.str z])) := Kp.new ne6
      have sh1 : SeqAt.shaped (.list [.str z]) = true := (shapedL (ds := [.str z]) fun d hd => by
        rw [List.mem_singleton.mp hd]
        exact ⟨(unk_ok z hzu).1, by show 0 ≤ 60; decide⟩).1
      have eq1 : PyData.eqv (.list [.str z]) (.list [.str z]) = true := SeqAt.eqv_refl _ (SeqAt.canLay_of_shaped sh1)
      refine ⟨_, _, .lst (sq_l (ke6 _ _ not0 he5)) (.cons (.str _) .nil), .lst (sq_l upd_same) (.cons (.str _) .nil), sh1, sh1, ?_⟩
      rw [eq1]
      try simp (maxSteps := 1000000) only [tSeq, tIfS, tTest, tOp, tUn, tCB, tCons, tNil, tVar, tC, rI0, rI, rU, rEq, rNe, tRet, tRetN, tAsg, gName, gSub, tBM, tBM0, tNext, tB, tNot, tAnd, tOr, tIf, tCall, tDrop, tBreak, tCont, L2.start, tDGet, sDPut, tTup, tLst, tDNewK, tRevL, rCat, rAppend, rPop, rSetL, tAndV, tOrV, tNotV, tSl, tPart, tNoPart, tM1, gTup, gCons, gNil, cxK, cxnK, List.map_cons, List.map_nil, List.length_cons, List.length_nil, List.replicate, List.cons_append, List.nil_append, List.append_nil, List.set_cons_zero, List.set_cons_succ, List.getElem?_cons_zero, List.getElem?_cons_succ, Option.some.injEq, V.ref.injEq, V.int.injEq, V.str.injEq, V.bl.injEq, V.ty.injEq, exists_eq_left', exists_eq_left, exists_and_left, List.cons.injEq, and_true, true_and, sc_ii, sc_ss, sc_bb, sc_ni, sc_in, sc_is, sc_si, sc_nn, decide_true, decide_false, reduceCtorEq, Bool.false_eq_true, if_true, if_false, ite_true, ite_false, exists_const, eq_self, false_and, and_false, or_false, false_or, exists_false, Evl.rLenS, rSum, wipe, tYes, exists_eq, exists_eq', rIxL, rIxT, rIxS, exists_and_right, gt_iff_lt, not_true_eq_false, not_false_eq_true, Bool.not_true, Bool.not_false, decide_eq_true_eq, Nat.reduceSub, Nat.reduceAdd, List.append_assoc, tChain, tDIn, tDNotIn, sDDel, tAug, ipI]
      have gg5 := (gg3.trans g5).trans ke6
      generalize (upd G5 e6 (.lst [.str z])) = G6 at gg5 ⊢
      refine ⟨o, tr, ff, full fs, a, b, zs, _, rfl, hB.kp (k1e.trans gg5), sq_t ((k1e.trans gg5) _ _ not0 hT), by omega, zsl, okP mab, .inl ⟨mab, fun y hy => ⟨hf.names y (hz y hy), hz y hy⟩, rfl⟩, fun e7 G7 he7 g7 => ⟨small (by decide), fun e8 ne8 => ?_⟩⟩
      have ke8 : Kp [] G7 (upd G7 e8 (.lst [])) := Kp.new ne8
      refine ⟨_, _, dpN ke8 noSq0 he7, .lst (sq_l upd_same) .nil, by decide +kernel, by decide +kernel, ?_⟩
      have e0 : PyData.eqv (.list []) (.list []) = true := by decide +kernel
      rw [e0]
      exact q _ (((k1e.trans gg5).trans g7).trans ke8)
end
end My

set_option Elab.async false
set_option linter.all false
set_option maxRecDepth 100000
set_option maxHeartbeats 4000000
namespace My
open PySem L2 NdefX
abbrev s_law_grown : Stmt := top 34
theorem sc_law_grown : FnScope ["_law_made", "_law_kept", "_law_table", "_law_row_here", "_law_more", "_law_handed", "_law_name_here", "_law_larger", "_law_taller", "_law_first", "_law_second"] ["_law_made", "_law_kept", "_law_table", "_law_row_here", "_law_more"] (defScope s_law_grown) := ⟨rfl, rfl, rfl, by decide +kernel, rfl, by decide +kernel, by decide +kernel⟩
section
variable {P : Program} {w : World} {K : PySem.W.Frag} {mg : Str → Option Value} {base : Heap} {BK PC NF BP TL BF fI fJ : Addr}
def orF (fs : Fnc) (m : Pr → Bool) : Fnc := fs.map fun x => (x.1, fun p => x.2 p || m p)
theorem orF_names (fs : Fnc) (m : Pr → Bool) : (orF fs m).map (·.1) = fs.map (·.1) := by
  unfold orF; rw [List.map_map]; rfl
theorem Fs.or {fs : Fnc} (h : Fs fs) (m : Pr → Bool) : Fs (orF fs m) := ⟨fun x hx => by
    obtain ⟨y, hy, rfl⟩ := List.mem_map.mp hx
    exact h.1 y hy, by rw [orF_names]; exact h.2.1, by unfold orF; rw [List.length_map]; exact h.2.2⟩
theorem hasF_or {fs : Fnc} {m : Pr → Bool} {z : Str} {p : Pr} (h : hasF fs z p = true) : hasF (orF fs m) z p = true := by
  unfold hasF full at h ⊢
  rw [List.any_append] at h ⊢
  rw [Bool.or_eq_true] at h ⊢
  rcases h with h | h
  · refine .inl ?_
    obtain ⟨x, hx, e⟩ := List.any_eq_true.mp h
    refine List.any_eq_true.mpr ⟨(x.1, fun p => x.2 p || m p), List.mem_map_of_mem (f := fun x : Str × (Pr → Bool) => (x.1, fun p => x.2 p || m p)) hx, ?_⟩
    rw [Bool.and_eq_true] at e ⊢
    exact ⟨e.1, by show (x.2 p || m p) = true; rw [e.2]; rfl⟩
  · exact .inr h
theorem full_nodup {fs : Fnc} (h : Fs fs) : ((full fs).map (·.1)).Nodup := by
  unfold full
  rw [List.map_append, List.nodup_append]
  refine ⟨h.2.1, by simp, fun y hy w hw e => ?_⟩
  have hw : w = "full" := by simpa using hw
  obtain ⟨x, hx, e1⟩ := List.mem_map.mp hy
  have g := h.1 x hx
  rw [e1, e, hw] at g
  have z0 : goodF ("full" : Str) = false := by decide +kernel
  rw [z0] at g; cases g
def spGrown (K : PySem.W.Frag) (BK PC : Addr) : Sp := fun vs H Q _ => ∃ (o lk dt tr lm : Addr) (f m : Pr → Bool) (fs : Fnc) (zs : List Str), vs = [.ref o, .ref lk, .ref dt, .ref tr, .ref lm] ∧ BookAt K BK PC H o f (full fs) ∧ SelAt K H lk f ∧ TabL K H dt fs ∧ Fs fs ∧ H tr = some (.tup (zs.map V.str)) ∧ (∀ z ∈ zs, z ∈ (full fs).map (·.1)) ∧ zs.length ≤ 7 ∧ SelAt K H lm m ∧ ∀ H', Kp [] H H' → Q (.bl true) H'
/-- a test, both ways to one end -/
theorem ifs_both {c : TT} {t u : TS} {D : Ends} {σ : L2.St} {H : Hp} (Pv : L2.St → Hp → Prop) (h : ∀ Dn : Ends, (∀ σ' H', Pv σ' H' → Dn.nx σ' H') → tIfS c t u Dn σ H) (h2 : ∀ σ' H', Pv σ' H' → D.nx σ' H') : tIfS c t u D σ H := h D h2
/-- a set of pairs | Pairs(a list of some pairs) -/
theorem orSel {te : TE} {ta : TA} {σ : L2.St} {H : Hp} {Q : VK} {f m : Pr → Bool} (he : ∀ R : VK, (∀ ko H1, PrAt K PC H1 ko f → Kp [] H H1 → R (.ref ko) H1) → te σ H R)
    (ht : ∀ H1, Kp [] H H1 → ∀ R : List V → Hp → Prop, (∀ D ws H2, SqAny K H2 D ws → DpAll K H2 ws ((pairsL.filter m).map pD) → Kp [] H1 H2 → R [.ref D] H2) → ta σ H1 R)
    (q : ∀ o H', H o = none → PrAt K PC H' o (fun p => f p || m p) → Kp [] H H' → Q (.ref o) H') : tOp (rBinO PC (spBin K PC (· || ·)) E0) te (tMake PC (spPI K PC BP) [] E0 ta) σ H Q :=
  he _ fun ko H1 h1 k1 => mkSel (g := m) (fun R h => ht H1 k1 R h) fun o2 H2 no2 h2 k2 => by
    have h1' := h1.kp k2
    obtain ⟨dx, l, vs, a, b, c⟩ := id h1'
    obtain ⟨dx2, l2, vs2, a2, b2, c2⟩ := id h2
    exact ⟨ko, dx, _, o2, dx2, _, rfl, rfl, a, a2, ko, o2, f, m, rfl, h1', h2, fun o H' no ho k => q o H' ((k1.trans k2).free0 no) ho ((k1.trans k2).trans k)⟩
theorem orSel2 {te : TE} {ta : TA} {σ : L2.St} {H : Hp} {Q : VK} {f m : Pr → Bool} (he : ∀ R : VK, (∀ ko H1, PrAt K PC H1 ko f → Kp [] H H1 → R (.ref ko) H1) → te σ H R)
    (ht : ∀ H1, Kp [] H H1 → ∀ R : List V → Hp → Prop, (∀ D ws H2, SqAny K H2 D ws → DpAll K H2 ws ((pairsL.filter m).map pD) → Kp [] H1 H2 → R [.ref D] H2) → ta σ H1 R)
    (q : ∀ o H', H o = none → PrAt K PC H' o (fun p => f p || m p) → Kp [] H H' → Q (.ref o) H') : te σ H fun x H1 => tMake PC (spPI K PC BP) [] E0 ta σ H1 fun y H2 => rBinO PC (spBin K PC (· || ·)) E0 x y H2 Q := orSel he ht q
theorem BookAt.lock {H : Hp} {o dt : Addr} {f : Pr → Bool} {fs : Fnc} {u : HO} {kvt : List (Key × V)} (h : BookAt K BK PC H o f (full fs)) (hd : H dt = some (.dK kvt)) (hl : kvt.length = fs.length) : BookAt K BK PC (upd H dt u) o f (full fs) := by
  obtain ⟨dx, ko, d, kvs, a, b, c, e, r⟩ := h
  have kl := keysLen e.1
  have ne : d ≠ dt := fun z => by
    rw [z, hd] at c
    have c : kvt = kvs := HO.dK.inj (Option.some.inj c)
    rw [c, kl] at hl
    unfold full at hl
    rw [List.length_append] at hl
    have : fs.length + 1 = fs.length := hl
    omega
  have no : o ≠ dt := fun z => by rw [z, hd] at a; cases a
  refine ⟨dx, ko, d, kvs, by rw [upd_ne no]; exact a, b.putD hd, by rw [upd_ne ne]; exact c, e.putD hd, r⟩
/-- a new book -/
theorem bookNew {H1 : Hp} {ko : Addr} {vf : V} {f : Pr → Bool} {fs : Fnc} {Q : VK} (hko : PrAt K PC H1 ko f) (hv : (vf = .non ∧ fs = []) ∨ ∃ (d : Addr) (kvs : List (Key × V)), vf = .ref d ∧ H1 d = some (.dK kvs) ∧ Fen K PC H1 kvs fs) (hf : Fs fs)
    (q : ∀ o H', H1 o = none → BookAt K BK PC H' o f (full fs) → Kp [] H1 H' → Q (.ref o) H') : ∀ x dx, H1 x = none → H1 dx = none → dx ≠ x → spBI K BK PC TL BF [.ref x, .ref ko, vf] (upd (upd H1 dx (.own x)) x (.ins BK dx [])) (fun v H3 => v = .non ∧ Q (.ref x) H3) E0 := by
  intro x dx nx nd hne
  have k1 : Kp [] H1 (upd H1 dx (.own x)) := Kp.new nd
  have k := k1.trans (Kp.new (S := []) (o := .ins BK dx []) (by rw [upd_ne hne.symm]; exact nx))
  have xo : x ≠ ko := by
    obtain ⟨_, _, _, a, _⟩ := hko
    exact ne_of_none2 a nx
  refine ⟨x, dx, ko, vf, f, fs, rfl, upd_same, hko.kp k, xo, ?_, hf.2.1, by have := hf.2.2; omega, fun y hy => Nat.le_trans (name_len (good_name (hf.1 y hy))) (by decide), fun _ _ H' hB hk => ⟨rfl, q x H' nx hB (k.one hk nx)⟩, fun h => absurd h (by have := hf.2.2; omega), fun _ ys i z perm _ ez bad => ?_⟩
  · rcases hv with h | ⟨d, kvs, a, b, c⟩
    · exact .inl h
    · exact .inr ⟨d, kvs, a, k _ _ not0 b, c.kp k⟩
  · obtain ⟨y, hy, ey⟩ := List.mem_map.mp (perm.mem_iff.mp (List.mem_of_getElem? ez))
    rw [← ey, hf.1 y hy] at bad; cases bad
theorem mkBookK {t tk : TA} {σ : L2.St} {H : Hp} {Q : VK} {p : Addr} {kvs : List (Key × V)} {f : Pr → Bool} {fs : Fnc} (ht : ∀ R : List V → Hp → Prop, (∀ ko H1, PrAt K PC H1 ko f → Kp [] H H1 → R [.ref ko] H1) → t σ H R) (hk : ∀ (H1 : Hp) (R : List V → Hp → Prop), R [.ref p] H1 → tk σ H1 R)
    (hp : H p = some (.dK kvs)) (hF : Fen K PC H kvs fs) (hf : Fs fs) (q : ∀ o H', H o = none → BookAt K BK PC H' o f (full fs) → Kp [] H H' → Q (.ref o) H') : tMakeK BK 1 1 (spBI K BK PC TL BF) (fun vs zs => vs ++ zs) E0 t tk σ H Q :=
  ht _ fun ko H1 hko k1 => hk _ _ ⟨rfl, rfl, bookNew hko (.inr ⟨p, kvs, rfl, k1 _ _ not0 hp, hF.kp k1⟩) hf fun o H' no hB k => q o H' (k1.free0 no) hB (k1.trans k)⟩
theorem mkBook1 {t : TA} {σ : L2.St} {H : Hp} {Q : VK} {f : Pr → Bool} (ht : ∀ R : List V → Hp → Prop, (∀ ko H1, PrAt K PC H1 ko f → Kp [] H H1 → R [.ref ko] H1) → t σ H R)
    (q : ∀ o H', H o = none → BookAt K BK PC H' o f (full []) → Kp [] H H' → Q (.ref o) H') : tMake BK (spBI K BK PC TL BF) [.non] E0 t σ H Q :=
  ht _ fun ko H1 hko k1 => bookNew hko (.inl ⟨rfl, rfl⟩) ⟨(fun _ h => nomatch h), List.nodup_nil, by decide⟩ fun o H' no hB k => q o H' (k1.free0 no) hB (k1.trans k)
theorem keeps_sp {H : Hp} {o t : Addr} {a b : Str} {f : Pr → Bool} {fs : Fnc} {zs : List Str} {Q : VK} (hB : BookAt K BK PC H o f (full fs)) (hf : Fs fs) (hT : SqT K H t (zs.map V.str)) (hz : ∀ z ∈ zs, z ∈ (full fs).map (·.1)) (zl : zs.length ≤ 1000) (mab : (a, b) ∈ pairsL)
    (q : ∀ H', Kp [] H H' → Q (.bl (f (a, b) || zs.any fun z => hasF fs z (a, b))) H') : spKeeps K BK PC BP NF [.ref o, .str a, .str b, .ref t] H Q E0 := by
  refine ⟨o, t, f, full fs, a, b, zs, rfl, hB, hT, zl, fun z h => Nat.le_trans (name_len (hf.names z (hz z h))) (by decide), okP mab, fun gs _ gl hgs H' k => ?_, fun h => absurd mab h, fun j z _ ez bad _ => ?_⟩
  · rw [any_gs (full_nodup hf) gl fun j z e => (hgs j z e).2]
    exact q H' k
  · have m := hz z (List.mem_of_getElem? ez)
    rcases bad with h | h
    · rw [hf.names z m] at h; cases h
    · exact absurd m h
theorem keeps_use {H : Hp} {o t : Addr} {a b : Str} {f : Pr → Bool} {fs : Fnc} {zs : List Str} {Q : VK} (hB : BookAt K BK PC H o f (full fs)) (hf : Fs fs) (hT : SqT K H t (zs.map V.str)) (hz : ∀ z ∈ zs, z ∈ (full fs).map (·.1)) (zl : zs.length ≤ 1000) (mab : (a, b) ∈ pairsL)
    (q : ∀ H', Kp [] H H' → Q (.bl (f (a, b) || zs.any fun z => hasF fs z (a, b))) H') : ∃ dx fl, H o = some (.ins BK dx fl) ∧ fl.lookup ("keeps" : Str) = none ∧ spKeeps K BK PC BP NF [.ref o, .str a, .str b, .ref t] H Q E0 := by
  obtain ⟨dx, ko, d, kvs, ho, _⟩ := id hB
  exact ⟨dx, _, ho, rfl, keeps_sp hB hf hT hz zl mab q⟩
theorem fence_use {H : Hp} {o : Addr} {n : Str} {f g : Pr → Bool} {fs : Fnc} {Q : VK} (hB : BookAt K BK PC H o f (full fs)) (hf : Fs fs) (hm : (n, g) ∈ full fs) (q : ∀ p H', PrAt K PC H' p g → Kp [] H H' → Q (.ref p) H') : ∃ dx fl, H o = some (.ins BK dx fl) ∧ fl.lookup ("fence" : Str) = none ∧ spFence K BK PC NF [.ref o, .str n] H Q E0 := by
  obtain ⟨dx, ko, d, kvs, ho, _, _, _, _, nd⟩ := id hB
  have nm : n ∈ (full fs).map (·.1) := List.mem_map_of_mem (f := (·.1)) hm
  have nl := name_len (hf.names n nm)
  refine ⟨dx, _, ho, rfl, o, f, full fs, n, rfl, hB, by omega, fun i2 g2 e2 _ p H' hp kp => ?_, fun bad => ?_⟩
  · have h1 : hasF fs n = g := funext fun p => hasF_of nd hm
    have h2 : hasF fs n = g2 := funext fun p => hasF_of nd (List.mem_of_getElem? e2)
    rw [← h1, h2] at q
    exact q p H' hp kp
  · rcases bad with h | h
    · rw [hf.names n nm] at h; cases h
    · exact absurd nm h
def GrIn2 (K : PySem.W.Frag) (PC o lk dt tr lm p : Addr) (fs : Fnc) (m : Pr → Bool) (H : Hp) (i : Nat) (σ : L2.St) (H' : Hp) : Prop := ∃ (c : Option V) (kvs : List (Key × V)), σ = [some (.ref o), some (.ref lk), some (.ref dt), some (.ref tr), some (.ref lm), some (.ref p), c, none, none, none, none] ∧ H' p = some (.dK kvs) ∧ Fen K PC H' kvs (orF (fs.take i) m) ∧ Kp [] H H'
theorem nm_take {fs : Fnc} (nd : (fs.map (·.1)).Nodup) {j : Nat} {n : Str} {g : Pr → Bool} (eg : fs[j]? = some (n, g)) : n ∉ (fs.take j).map (·.1) := fun hm => by
  obtain ⟨y, hy, ey⟩ := List.mem_map.mp hm
  obtain ⟨m, hm2⟩ := List.getElem?_of_mem hy
  have mj : m < j := by have := (List.getElem?_eq_some_iff.mp hm2).1; rw [List.length_take] at this; omega
  rw [List.getElem?_take, if_pos mj] at hm2
  have := (List.pairwise_iff_getElem.mp nd) m j (by rw [List.length_map]; exact (List.getElem?_eq_some_iff.mp hm2).1) (by rw [List.length_map]; exact (List.getElem?_eq_some_iff.mp eg).1) mj
  apply this
  simp only [List.getElem_map]
  rw [(List.getElem?_eq_some_iff.mp hm2).2, (List.getElem?_eq_some_iff.mp eg).2]
  exact ey
theorem BookAt.kpN {H H' : Hp} {S : List Addr} {o : Addr} {f : Pr → Bool} {fs : Fnc} (h : BookAt K BK PC H o f fs) (k : Kp S H H') (n : NoSq H S) (hS : ∀ a ∈ S, ∀ C dx fl, H a ≠ some (.ins C dx fl)) (hd : ∀ dx ko d, H o = some (.ins BK dx [("kept", .ref ko), ("_fences", .ref d)]) → d ∉ S) : BookAt K BK PC H' o f fs := by
  obtain ⟨dx, ko, d, kvs, a, b, c, e, r⟩ := h
  have nS : ∀ {y g}, PrAt K PC H y g → y ∉ S := fun {y g} hy hm => by
    obtain ⟨_, _, _, z, _⟩ := hy
    exact hS y hm _ _ _ z
  refine ⟨dx, ko, d, kvs, k _ _ (fun hm => hS o hm _ _ _ a) a, b.kpN k n (nS b), k _ _ (hd dx ko d a) c, ⟨e.1, fun i m g ei => ?_⟩, r⟩
  obtain ⟨q, e1, e2⟩ := e.2 i m g ei
  exact ⟨q, e1, e2.kpN k n (nS e2)⟩
structure BtGr (K : PySem.W.Frag) (mg : Str → Option Value) (PC BK fI fJ : Addr) : Prop extends Bt0 mg where
  M_Pairs : Mk K PC fI
  M_Book : Mk K BK fJ
theorem ok_law_grown {f : Addr} {fd : FuncData} (D : Df K mg "_law_grown" s_law_grown ["_law_made", "_law_kept", "_law_table", "_law_row_here", "_law_more"] f fd) (T : BtGr K mg PC BK fI fJ) (C : PrC K mg PC) (B : BkC K mg BK) {fdI fdJ : FuncData} {g gJ : List Value → List Value → List Value}
    (bI_Pairs : Binds K fdI ["self", "pairs"] []) (G_Pairs_init : FnOk P w K mg base (L2.CX P w) 3 fI fdI ["self", "pairs"] (spPI K PC BP))
    {fO : Addr} {fdO : FuncData} (BC_Pairs_or : BinC K PC fO .BitOr) (b_Pairs_or : Binds K fdO ["self", "other"] []) (G_Pairs_or : FnOk P w K mg base CX0 5 fO fdO ["self", "other"] (spBin K PC (· || ·)))
    {dsB : List Value} (hd_Book : Vals [.non] dsB) (bD_Book : Binds K fdJ ["self", "kept", "fences"] dsB) (kb_Book : KBn K fdJ ["self", "kept", "fences"] 2 ["fences"] gJ (fun vs zs => vs ++ zs)) (G_Book_init : FnOk P w K mg base (L2.CX P w) 5 fJ fdJ ["self", "kept", "fences"] (spBI K BK PC TL BF))
    {fE fK : Addr} {fdE fdK : FuncData} (ME_Book_fence : Meth K BK "fence" fE) (bM_Book_fence : Binds K fdE ["self", "name"] []) (G_Book_fence : FnOk P w K mg base (L2.CX P w) 3 fE fdE ["self", "name"] (spFence K BK PC NF))
    {de : Addr} {dsK : List Value} (hde : ∀ H, SqT K H de []) (hd_keeps : Vals [.ref de] dsK) (bD_keeps : Binds K fdK ["self", "first", "second", "between"] dsK) (ME_Book_keeps : Meth K BK "keeps" fK) (kb_Book_keeps_between : KBn K fdK ["self", "first", "second", "between"] 3 ["between"] g (fun vs zs => vs ++ zs)) (G_Book_keeps : FnOk P w K mg base (L2.CX P w) 4 fK fdK ["self", "first", "second", "between"] (spKeeps K BK PC BP NF))
    {fg : Addr} {fdg : FuncData} (D_law_pairs : Df K mg "_law_pairs" s_law_pairs [] fg fdg) (G_law_pairs : FnOk P w K mg base CX0 1 fg fdg [] (spPairs K))
    {fs : Addr} {fds : FuncData} (D_law_says : Df K mg "_law_says" s_law_says ["_law_told", "_law_due"] fs fds) (G_law_says : FnOk P w K mg base CX0 1 fs fds ["_law_told", "_law_due"] spSays) : FnOk P w K mg base CX0 7 f fd ["_law_made", "_law_kept", "_law_table", "_law_row_here", "_law_more"] (spGrown K BK PC) := by
  refine D.F.ok sc_law_grown (fun vs H Q E h => ?_) (fun cdv A outer s H vs Q E hr h => ?_)
  · obtain ⟨_, _, _, _, _, _, _, _, _, rfl, _⟩ := h
    rfl
  · obtain ⟨o, lk, dt, tr, lm, ff, mm, fs, zs, rfl, hB, hk, ht, hf, hT, hz, zl, hm, q⟩ := h
    have hu := hu_of hr
    have M_Pairs := T.M_Pairs
    have M_Book := T.M_Book
    refine ⟨_, (pss_cons (ps_set (i := 5) sc_law_grown.nd rfl (Or.inl rfl) pe_dnewK)
      (pss_cons (ps_lock (ps_for PassesOwn.never rfl (pi_keys (pv 2)) (pg_name (i := 6) sc_law_grown.nd rfl (Or.inl rfl)) (pss_one (ps_dput hu (pv 5) (pv 6) (pe_op (op_binO BC_Pairs_or G_Pairs_or b_Pairs_or (hr.mono (by decide)) pass0) (pe_meth (pv 0) B.cl ME_Book_fence G_Book_fence (hr.mono (by decide)) bM_Book_fence .nil passL (pa_cons (pv 6) pa_nil)) (pe_make M_Pairs G_Pairs_init (hr.mono (by decide)) rfl C.k bI_Pairs .nil passL (pa_cons (pe_callTy call_list_of (by rfl) T.b_list (by decide +kernel) (pa_cons (pv 4) pa_nil)) pa_nil))) rfl))))
      (pss_cons (ps_set (i := 7) sc_law_grown.nd rfl (Or.inl rfl) (pe_makeK (n := 1) M_Book G_Book_init (hr.mono (by decide)) rfl B.k kb_Book passL (pa_cons (pe_op (op_binO BC_Pairs_or G_Pairs_or b_Pairs_or (hr.mono (by decide)) pass0) (pe_fld (pv 0) rfl) (pe_make M_Pairs G_Pairs_init (hr.mono (by decide)) rfl C.k bI_Pairs .nil passL (pa_cons (pe_callTy call_list_of (by rfl) T.b_list (by decide +kernel) (pa_cons (pv 4) pa_nil)) pa_nil))) pa_nil) (pk_cons (pv 5) pk_nil)))
      (pss_cons (ps_set (i := 8) sc_law_grown.nd rfl (Or.inl rfl) (pe_make M_Book G_Book_init (hr.mono (by decide)) rfl B.k bD_Book hd_Book passL (pa_cons (pe_op (op_binO BC_Pairs_or G_Pairs_or b_Pairs_or (hr.mono (by decide)) pass0) (pe_fld (pv 0) rfl) (pe_make M_Pairs G_Pairs_init (hr.mono (by decide)) rfl C.k bI_Pairs .nil passL (pa_cons (pe_callTy call_list_of (by rfl) T.b_list (by decide +kernel) (pa_cons (pv 4) pa_nil)) pa_nil))) pa_nil)))
      (pss_cons (ps_for PassesOwn.never rfl (pi_list (pe_call0 G_law_pairs (hr.mono (by decide)) rfl D_law_pairs.g D_law_pairs.F.kp D_law_pairs.b .nil pass0)) (pg_tup (n := 2) (by rfl) (pgs_cons (pg_name (i := 9) sc_law_grown.nd rfl (Or.inl rfl)) (pgs_cons (pg_name (i := 10) sc_law_grown.nd rfl (Or.inl rfl)) pgs_nil))) (pss_cons (ps_if (PW.pt (pw_and (pt_val (pe_methN (n := 2) B.cl ME_Book_keeps G_Book_keeps (hr.mono (by decide)) kb_Book_keeps_between passL (pv 0) (pa_cons (pv 9) (pa_cons (pv 10) pa_nil)) (pk_cons (pv 3) pk_nil))) (pw_and1 (pt_not (pt_val (pe_methN (n := 2) B.cl ME_Book_keeps G_Book_keeps (hr.mono (by decide)) kb_Book_keeps_between passL (pv 7) (pa_cons (pv 9) (pa_cons (pv 10) pa_nil)) (pk_cons (pv 3) pk_nil))))))) (pss_one (ps_ret pe_bl)) pss_nil)
      (pss_cons (ps_if (PW.pt (pw_and (pt_val (pe_meth (pv 0) B.cl ME_Book_keeps G_Book_keeps (hr.mono (by decide)) bD_keeps hd_keeps passL (pa_cons (pv 9) (pa_cons (pv 10) pa_nil)))) (pw_and1 (pt_not (pt_val (pe_meth (pv 8) B.cl ME_Book_keeps G_Book_keeps (hr.mono (by decide)) bD_keeps hd_keeps passL (pa_cons (pv 9) (pa_cons (pv 10) pa_nil)))))))) (pss_one (ps_ret pe_bl)) pss_nil)
      (pss_cons (ps_if (pt_not (pt_val (pe_methN (n := 2) B.cl ME_Book_keeps G_Book_keeps (hr.mono (by decide)) kb_Book_keeps_between passL (pv 0) (pa_cons (pv 9) (pa_cons (pv 10) pa_nil)) (pk_cons (pe_op op_catA (pv 3) (pe_tup (pa_cons pe_str pa_nil))) pk_nil)))) (pss_one (ps_ret pe_bl)) pss_nil)
      (pss_one (ps_if (pt_not (pt_val (pe_call G_law_says (hr.mono (by decide)) rfl D_law_says.g D_law_says.F.kp D_law_says.b .nil pass0 (pa_cons (pe_meth (pv 8) B.cl ME_Book_keeps G_Book_keeps (hr.mono (by decide)) bD_keeps hd_keeps passL (pa_cons (pv 9) (pa_cons (pv 10) pa_nil))) (pa_cons (pe_or (pe_cmpR (op_inD (hu5 hr)) (pe_tup (pa_cons (pv 9) (pa_cons (pv 10) pa_nil))) (pv 1) (by rfl)) (pe_one (pe_cmpR (op_inD (hu5 hr)) (pe_tup (pa_cons (pv 9) (pa_cons (pv 10) pa_nil))) (pv 4) (by rfl)))) pa_nil))))) (pss_one (ps_ret pe_bl)) pss_nil))))))
      (pss_one (ps_ret pe_bl))))))), ?_⟩
    try simp (maxSteps := 1000000) only [tSeq, tIfS, tTest, tOp, tUn, tCB, tCons, tNil, tVar, tC, rI0, rI, rU, rEq, rNe, tRet, tRetN, tAsg, gName, gSub, tBM, tBM0, tNext, tB, tNot, tAnd, tOr, tIf, tCall, tDrop, tBreak, tCont, L2.start, tDGet, sDPut, tTup, tLst, tDNewK, tRevL, rCat, rAppend, rPop, rSetL, tAndV, tOrV, tNotV, tSl, tPart, tNoPart, tM1, gTup, gCons, gNil, cxK, cxnK, List.map_cons, List.map_nil, List.length_cons, List.length_nil, List.replicate, List.cons_append, List.nil_append, List.append_nil, List.set_cons_zero, List.set_cons_succ, List.getElem?_cons_zero, List.getElem?_cons_succ, Option.some.injEq, V.ref.injEq, V.int.injEq, V.str.injEq, V.bl.injEq, V.ty.injEq, exists_eq_left', exists_eq_left, exists_and_left, List.cons.injEq, and_true, true_and, sc_ii, sc_ss, sc_bb, sc_ni, sc_in, sc_is, sc_si, sc_nn, decide_true, decide_false, reduceCtorEq, Bool.false_eq_true, if_true, if_false, ite_true, ite_false, exists_const, eq_self, false_and, and_false, or_false, false_or, exists_false, Evl.rLenS, rSum, wipe, tYes, exists_eq, exists_eq', rIxL, rIxT, rIxS, exists_and_right, gt_iff_lt, not_true_eq_false, not_false_eq_true, Bool.not_true, Bool.not_false, decide_eq_true_eq, Nat.reduceSub, Nat.reduceAdd, List.append_assoc, tChain, tDIn, tDNotIn, sDDel, tAug, ipI]
    intro p np
    obtain ⟨kvt, htd, htk, hte⟩ := id ht
    have kp : Kp [] H (upd H p (.dK [])) := Kp.new np
    have hp0 : (upd H p (.dK [])) p = some (.dK []) := upd_same
    have hd1 : (upd H p (.dK [])) dt = some (.dK kvt) := kp _ _ not0 htd
    have pd : p ≠ dt := fun z => by rw [z, htd] at np; cases np
    generalize (upd H p (.dK [])) = H1 at kp hp0 hd1 ⊢
    refine forKeys rfl hd1 (fun od i σ H' => GrIn2 K PC o lk dt tr lm p fs mm (upd H dt (.frz od (.dK kvt))) i σ H') (fun od => ⟨none, [], rfl, by rw [upd_ne pd]; exact hp0, ⟨rfl, fun i n g e => by rw [List.take_zero] at e; cases e⟩, kp.both⟩) (fun od j σ H' h => ?_) (fun od j k v σ H2 ekv h => ?_) (fun od σ H2 h => ?_)
    · obtain ⟨_, _, _, _, _, k⟩ := h
      exact k _ _ not0 upd_same
    · obtain ⟨c, kvs, rfl, hp2, hF, k2⟩ := h
      obtain ⟨⟨n, g⟩, eg⟩ : ∃ x, fs[j]? = some x := ⟨fs[j]'(by rw [← keysLen htk]; exact (List.getElem?_eq_some_iff.mp ekv).1), List.getElem?_eq_getElem _⟩
      obtain ⟨l, e1, _⟩ := hte j n g eg
      rw [ekv] at e1
      cases e1
      have hm2 : SelAt K H2 lm mm := (hm.kpN Kp.lock (noSqD htd)).kp k2
      have nm := nm_take hf.2.1 eg
      have hB2 : BookAt K BK PC H2 o ff (full fs) := (hB.lock htd (keysLen htk)).kp k2
      have mF : (n, g) ∈ full fs := List.mem_append_left _ (List.mem_of_getElem? eg)
      try simp (maxSteps := 1000000) only [tSeq, tIfS, tTest, tOp, tUn, tCB, tCons, tNil, tVar, tC, rI0, rI, rU, rEq, rNe, tRet, tRetN, tAsg, gName, gSub, tBM, tBM0, tNext, tB, tNot, tAnd, tOr, tIf, tCall, tDrop, tBreak, tCont, L2.start, tDGet, sDPut, tTup, tLst, tDNewK, tRevL, rCat, rAppend, rPop, rSetL, tAndV, tOrV, tNotV, tSl, tPart, tNoPart, tM1, gTup, gCons, gNil, cxK, cxnK, List.map_cons, List.map_nil, List.length_cons, List.length_nil, List.replicate, List.cons_append, List.nil_append, List.append_nil, List.set_cons_zero, List.set_cons_succ, List.getElem?_cons_zero, List.getElem?_cons_succ, Option.some.injEq, V.ref.injEq, V.int.injEq, V.str.injEq, V.bl.injEq, V.ty.injEq, exists_eq_left', exists_eq_left, exists_and_left, List.cons.injEq, and_true, true_and, sc_ii, sc_ss, sc_bb, sc_ni, sc_in, sc_is, sc_si, sc_nn, decide_true, decide_false, reduceCtorEq, Bool.false_eq_true, if_true, if_false, ite_true, ite_false, exists_const, eq_self, false_and, and_false, or_false, false_or, exists_false, Evl.rLenS, rSum, wipe, tYes, exists_eq, exists_eq', rIxL, rIxT, rIxS, exists_and_right, gt_iff_lt, not_true_eq_false, not_false_eq_true, Bool.not_true, Bool.not_false, decide_eq_true_eq, Nat.reduceSub, Nat.reduceAdd, List.append_assoc, tChain, tDIn, tDNotIn, sDDel, tAug, ipI]
      refine orSel2 (f := g) (m := mm) (fun R h => ?_) (fun H3 k3 R h => ?_) fun o2 H3 no2 ho2 k3 => ?_
      · try simp (maxSteps := 1000000) only [tSeq, tIfS, tTest, tOp, tUn, tCB, tCons, tNil, tVar, tC, rI0, rI, rU, rEq, rNe, tRet, tRetN, tAsg, gName, gSub, tBM, tBM0, tNext, tB, tNot, tAnd, tOr, tIf, tCall, tDrop, tBreak, tCont, L2.start, tDGet, sDPut, tTup, tLst, tDNewK, tRevL, rCat, rAppend, rPop, rSetL, tAndV, tOrV, tNotV, tSl, tPart, tNoPart, tM1, gTup, gCons, gNil, cxK, cxnK, List.map_cons, List.map_nil, List.length_cons, List.length_nil, List.replicate, List.cons_append, List.nil_append, List.append_nil, List.set_cons_zero, List.set_cons_succ, List.getElem?_cons_zero, List.getElem?_cons_succ, Option.some.injEq, V.ref.injEq, V.int.injEq, V.str.injEq, V.bl.injEq, V.ty.injEq, exists_eq_left', exists_eq_left, exists_and_left, List.cons.injEq, and_true, true_and, sc_ii, sc_ss, sc_bb, sc_ni, sc_in, sc_is, sc_si, sc_nn, decide_true, decide_false, reduceCtorEq, Bool.false_eq_true, if_true, if_false, ite_true, ite_false, exists_const, eq_self, false_and, and_false, or_false, false_or, exists_false, Evl.rLenS, rSum, wipe, tYes, exists_eq, exists_eq', rIxL, rIxT, rIxS, exists_and_right, gt_iff_lt, not_true_eq_false, not_false_eq_true, Bool.not_true, Bool.not_false, decide_eq_true_eq, Nat.reduceSub, Nat.reduceAdd, List.append_assoc, tChain, tDIn, tDNotIn, sDDel, tAug, ipI, tMeth]
        exact fence_use hB2 hf mF fun q3 H4 hq3 k4 => h q3 H4 hq3 k4
      · obtain ⟨ws, hw, hd⟩ := hm2.kp k3
        try simp (maxSteps := 1000000) only [tSeq, tIfS, tTest, tOp, tUn, tCB, tCons, tNil, tVar, tC, rI0, rI, rU, rEq, rNe, tRet, tRetN, tAsg, gName, gSub, tBM, tBM0, tNext, tB, tNot, tAnd, tOr, tIf, tCall, tDrop, tBreak, tCont, L2.start, tDGet, sDPut, tTup, tLst, tDNewK, tRevL, rCat, rAppend, rPop, rSetL, tAndV, tOrV, tNotV, tSl, tPart, tNoPart, tM1, gTup, gCons, gNil, cxK, cxnK, List.map_cons, List.map_nil, List.length_cons, List.length_nil, List.replicate, List.cons_append, List.nil_append, List.append_nil, List.set_cons_zero, List.set_cons_succ, List.getElem?_cons_zero, List.getElem?_cons_succ, Option.some.injEq, V.ref.injEq, V.int.injEq, V.str.injEq, V.bl.injEq, V.ty.injEq, exists_eq_left', exists_eq_left, exists_and_left, List.cons.injEq, and_true, true_and, sc_ii, sc_ss, sc_bb, sc_ni, sc_in, sc_is, sc_si, sc_nn, decide_true, decide_false, reduceCtorEq, Bool.false_eq_true, if_true, if_false, ite_true, ite_false, exists_const, eq_self, false_and, and_false, or_false, false_or, exists_false, Evl.rLenS, rSum, wipe, tYes, exists_eq, exists_eq', rIxL, rIxT, rIxS, exists_and_right, gt_iff_lt, not_true_eq_false, not_false_eq_true, Bool.not_true, Bool.not_false, decide_eq_true_eq, Nat.reduceSub, Nat.reduceAdd, List.append_assoc, tChain, tDIn, tDNotIn, sDDel, tAug, ipI]
        refine ⟨ws, .inl (sq_l hw), fun D nD => h D ws _ (.inl (sq_l upd_same)) (dpAllN (Kp.new nD) noSq0 hd) (Kp.new nD)⟩
      · have nm2 : n ∉ (orF (fs.take j) mm).map (·.1) := by rw [orF_names]; exact nm
        obtain ⟨e1, e2⟩ := (hF.kp k3).put nm2 ho2
        have hp3 := k3 _ _ not0 hp2
        have npF : (upd H dt (.frz od (.dK kvt))) p = none := by rw [upd_ne pd]; exact np
        refine ⟨_, .inl ⟨kvs, _, hp3, rfl, ?_, rfl⟩, _, _, rfl, upd_same, ?_, (k2.trans k3).wr npF⟩
        · rw [keysLen hF.1]
          unfold orF
          rw [List.length_map, List.length_take]
          exact smallL (by have := hf.2.2; omega)
        · rw [e1, List.take_add_one, eg]
          have e3 : orF (fs.take j ++ (some (n, g)).toList) mm = orF (fs.take j) mm ++ [(n, fun p => g p || mm p)] := by unfold orF; rw [List.map_append]; rfl
          rw [e3]
          exact e2.putD hp3
    · obtain ⟨c, kvs, rfl, hp2, hF, k2⟩ := h
      rw [keysLen htk, List.take_length] at hF
      have htf : H2 dt = some (.frz od (.dK kvt)) := k2 _ _ not0 upd_same
      have kZ : Kp [] H (upd H2 dt (.dK kvt)) := Kp.unlock htd k2
      have hpZ : (upd H2 dt (.dK kvt)) p = some (.dK kvs) := by rw [upd_ne pd]; exact hp2
      have hFZ : Fen K PC (upd H2 dt (.dK kvt)) kvs (orF fs mm) := hF.unf htf
      generalize upd H2 dt (.dK kvt) = Z at kZ hpZ hFZ ⊢
      have hBZ := hB.kp kZ
      have hmZ := hm.kp kZ
      have kept : ∀ (Hx : Hp) (b1 b2 c : Option V), Kp [] Z Hx → ∀ R : List V → Hp → Prop, (∀ ko H1, PrAt K PC H1 ko (fun p => ff p || mm p) → Kp [] Hx H1 → R [.ref ko] H1) → tCons (tOp (rBinO PC (spBin K PC fun x1 x2 => x1 || x2) E0) (tFld K (tVar 0) (Str.ofString "kept")) (tMake PC (spPI K PC BP) [] E0 (tCons (tCB (fun xs H Q => ∃ p, xs = [V.ref p] ∧ ∃ ys, (SqL K H p ys ∨ SqT K H p ys) ∧ ∀ (l : Addr), H l = none → Q (V.ref l) (upd H l (HO.lst ys))) (tCons (tVar 4) tNil)) tNil))) tNil
          [some (V.ref o), some (V.ref lk), some (V.ref dt), some (V.ref tr), some (V.ref lm), some (V.ref p), c, b1, b2, none, none] Hx R := fun Hx b1 b2 c kx R h => by
        unfold tCons
        refine orSel (f := ff) (m := mm) (fun R h => ?_) (fun H3 k3 R h => ?_) fun o2 H3 no2 ho2 k3 => ?_
        · obtain ⟨dx, ko, d, kvs, ho, hko, _⟩ := hBZ.kp kx
          try simp (maxSteps := 1000000) only [tSeq, tIfS, tTest, tOp, tUn, tCB, tCons, tNil, tVar, tC, rI0, rI, rU, rEq, rNe, tRet, tRetN, tAsg, gName, gSub, tBM, tBM0, tNext, tB, tNot, tAnd, tOr, tIf, tCall, tDrop, tBreak, tCont, L2.start, tDGet, sDPut, tTup, tLst, tDNewK, tRevL, rCat, rAppend, rPop, rSetL, tAndV, tOrV, tNotV, tSl, tPart, tNoPart, tM1, gTup, gCons, gNil, cxK, cxnK, List.map_cons, List.map_nil, List.length_cons, List.length_nil, List.replicate, List.cons_append, List.nil_append, List.append_nil, List.set_cons_zero, List.set_cons_succ, List.getElem?_cons_zero, List.getElem?_cons_succ, Option.some.injEq, V.ref.injEq, V.int.injEq, V.str.injEq, V.bl.injEq, V.ty.injEq, exists_eq_left', exists_eq_left, exists_and_left, List.cons.injEq, and_true, true_and, sc_ii, sc_ss, sc_bb, sc_ni, sc_in, sc_is, sc_si, sc_nn, decide_true, decide_false, reduceCtorEq, Bool.false_eq_true, if_true, if_false, ite_true, ite_false, exists_const, eq_self, false_and, and_false, or_false, false_or, exists_false, Evl.rLenS, rSum, wipe, tYes, exists_eq, exists_eq', rIxL, rIxT, rIxS, exists_and_right, gt_iff_lt, not_true_eq_false, not_false_eq_true, Bool.not_true, Bool.not_false, decide_eq_true_eq, Nat.reduceSub, Nat.reduceAdd, List.append_assoc, tChain, tDIn, tDNotIn, sDDel, tAug, ipI, tFld]
          exact ⟨BK, dx, _, ho, B.cl, B.n1, .ref ko, rfl, h ko Hx hko (Kp.refl _ _)⟩
        · obtain ⟨ws, hw, hd⟩ := hmZ.kp (kx.trans k3)
          try simp (maxSteps := 1000000) only [tSeq, tIfS, tTest, tOp, tUn, tCB, tCons, tNil, tVar, tC, rI0, rI, rU, rEq, rNe, tRet, tRetN, tAsg, gName, gSub, tBM, tBM0, tNext, tB, tNot, tAnd, tOr, tIf, tCall, tDrop, tBreak, tCont, L2.start, tDGet, sDPut, tTup, tLst, tDNewK, tRevL, rCat, rAppend, rPop, rSetL, tAndV, tOrV, tNotV, tSl, tPart, tNoPart, tM1, gTup, gCons, gNil, cxK, cxnK, List.map_cons, List.map_nil, List.length_cons, List.length_nil, List.replicate, List.cons_append, List.nil_append, List.append_nil, List.set_cons_zero, List.set_cons_succ, List.getElem?_cons_zero, List.getElem?_cons_succ, Option.some.injEq, V.ref.injEq, V.int.injEq, V.str.injEq, V.bl.injEq, V.ty.injEq, exists_eq_left', exists_eq_left, exists_and_left, List.cons.injEq, and_true, true_and, sc_ii, sc_ss, sc_bb, sc_ni, sc_in, sc_is, sc_si, sc_nn, decide_true, decide_false, reduceCtorEq, Bool.false_eq_true, if_true, if_false, ite_true, ite_false, exists_const, eq_self, false_and, and_false, or_false, false_or, exists_false, Evl.rLenS, rSum, wipe, tYes, exists_eq, exists_eq', rIxL, rIxT, rIxS, exists_and_right, gt_iff_lt, not_true_eq_false, not_false_eq_true, Bool.not_true, Bool.not_false, decide_eq_true_eq, Nat.reduceSub, Nat.reduceAdd, List.append_assoc, tChain, tDIn, tDNotIn, sDDel, tAug, ipI]
          refine ⟨ws, .inl (sq_l hw), fun D nD => h D ws _ (.inl (sq_l upd_same)) (dpAllN (Kp.new nD) noSq0 hd) (Kp.new nD)⟩
        · try simp (maxSteps := 1000000) only [tSeq, tIfS, tTest, tOp, tUn, tCB, tCons, tNil, tVar, tC, rI0, rI, rU, rEq, rNe, tRet, tRetN, tAsg, gName, gSub, tBM, tBM0, tNext, tB, tNot, tAnd, tOr, tIf, tCall, tDrop, tBreak, tCont, L2.start, tDGet, sDPut, tTup, tLst, tDNewK, tRevL, rCat, rAppend, rPop, rSetL, tAndV, tOrV, tNotV, tSl, tPart, tNoPart, tM1, gTup, gCons, gNil, cxK, cxnK, List.map_cons, List.map_nil, List.length_cons, List.length_nil, List.replicate, List.cons_append, List.nil_append, List.append_nil, List.set_cons_zero, List.set_cons_succ, List.getElem?_cons_zero, List.getElem?_cons_succ, Option.some.injEq, V.ref.injEq, V.int.injEq, V.str.injEq, V.bl.injEq, V.ty.injEq, exists_eq_left', exists_eq_left, exists_and_left, List.cons.injEq, and_true, true_and, sc_ii, sc_ss, sc_bb, sc_ni, sc_in, sc_is, sc_si, sc_nn, decide_true, decide_false, reduceCtorEq, Bool.false_eq_true, if_true, if_false, ite_true, ite_false, exists_const, eq_self, false_and, and_false, or_false, false_or, exists_false, Evl.rLenS, rSum, wipe, tYes, exists_eq, exists_eq', rIxL, rIxT, rIxS, exists_and_right, gt_iff_lt, not_true_eq_false, not_false_eq_true, Bool.not_true, Bool.not_false, decide_eq_true_eq, Nat.reduceSub, Nat.reduceAdd, List.append_assoc, tChain, tDIn, tDNotIn, sDDel, tAug, ipI]
          exact h o2 H3 ho2 k3
      try simp (maxSteps := 1000000) only [tSeq, tIfS, tTest, tOp, tUn, tCB, tNil, tVar, tC, rI0, rI, rU, rEq, rNe, tRet, tRetN, tAsg, gName, gSub, tBM, tBM0, tNext, tB, tNot, tAnd, tOr, tIf, tCall, tDrop, tBreak, tCont, L2.start, tDGet, sDPut, tTup, tLst, tDNewK, tRevL, rCat, rAppend, rPop, rSetL, tAndV, tOrV, tNotV, tSl, tPart, tNoPart, tM1, gTup, gCons, gNil, cxK, cxnK, List.map_cons, List.map_nil, List.length_cons, List.length_nil, List.replicate, List.cons_append, List.nil_append, List.append_nil, List.set_cons_zero, List.set_cons_succ, List.getElem?_cons_zero, List.getElem?_cons_succ, Option.some.injEq, V.ref.injEq, V.int.injEq, V.str.injEq, V.bl.injEq, V.ty.injEq, exists_eq_left', exists_eq_left, exists_and_left, List.cons.injEq, and_true, true_and, sc_ii, sc_ss, sc_bb, sc_ni, sc_in, sc_is, sc_si, sc_nn, decide_true, decide_false, reduceCtorEq, Bool.false_eq_true, if_true, if_false, ite_true, ite_false, exists_const, eq_self, false_and, and_false, or_false, false_or, exists_false, Evl.rLenS, rSum, wipe, tYes, exists_eq, exists_eq', rIxL, rIxT, rIxS, exists_and_right, gt_iff_lt, not_true_eq_false, not_false_eq_true, Bool.not_true, Bool.not_false, decide_eq_true_eq, Nat.reduceSub, Nat.reduceAdd, List.append_assoc, tChain, tDIn, tDNotIn, sDDel, tAug, ipI, tCall]
      refine mkBookK (kept Z none none c (Kp.refl _ _)) (fun H1 R h => by try simp (maxSteps := 1000000) only [tSeq, tIfS, tTest, tOp, tUn, tCB, tCons, tNil, tVar, tC, rI0, rI, rU, rEq, rNe, tRet, tRetN, tAsg, gName, gSub, tBM, tBM0, tNext, tB, tNot, tAnd, tOr, tIf, tCall, tDrop, tBreak, tCont, L2.start, tDGet, sDPut, tTup, tLst, tDNewK, tRevL, rCat, rAppend, rPop, rSetL, tAndV, tOrV, tNotV, tSl, tPart, tNoPart, tM1, gTup, gCons, gNil, cxK, cxnK, List.map_cons, List.map_nil, List.length_cons, List.length_nil, List.replicate, List.cons_append, List.nil_append, List.append_nil, List.set_cons_zero, List.set_cons_succ, List.getElem?_cons_zero, List.getElem?_cons_succ, Option.some.injEq, V.ref.injEq, V.int.injEq, V.str.injEq, V.bl.injEq, V.ty.injEq, exists_eq_left', exists_eq_left, exists_and_left, List.cons.injEq, and_true, true_and, sc_ii, sc_ss, sc_bb, sc_ni, sc_in, sc_is, sc_si, sc_nn, decide_true, decide_false, reduceCtorEq, Bool.false_eq_true, if_true, if_false, ite_true, ite_false, exists_const, eq_self, false_and, and_false, or_false, false_or, exists_false, Evl.rLenS, rSum, wipe, tYes, exists_eq, exists_eq', rIxL, rIxT, rIxS, exists_and_right, gt_iff_lt, not_true_eq_false, not_false_eq_true, Bool.not_true, Bool.not_false, decide_eq_true_eq, Nat.reduceSub, Nat.reduceAdd, List.append_assoc, tChain, tDIn, tDNotIn, sDDel, tAug, ipI]; exact h) hpZ hFZ (hf.or mm) fun o2 H3 no2 hB2 k3 => ?_
      try simp (maxSteps := 1000000) only [tSeq, tIfS, tTest, tOp, tUn, tCB, tNil, tVar, tC, rI0, rI, rU, rEq, rNe, tRet, tRetN, tAsg, gName, gSub, tBM, tBM0, tNext, tB, tNot, tAnd, tOr, tIf, tCall, tDrop, tBreak, tCont, L2.start, tDGet, sDPut, tTup, tLst, tDNewK, tRevL, rCat, rAppend, rPop, rSetL, tAndV, tOrV, tNotV, tSl, tPart, tNoPart, tM1, gTup, gCons, gNil, cxK, cxnK, List.map_cons, List.map_nil, List.length_cons, List.length_nil, List.replicate, List.cons_append, List.nil_append, List.append_nil, List.set_cons_zero, List.set_cons_succ, List.getElem?_cons_zero, List.getElem?_cons_succ, Option.some.injEq, V.ref.injEq, V.int.injEq, V.str.injEq, V.bl.injEq, V.ty.injEq, exists_eq_left', exists_eq_left, exists_and_left, List.cons.injEq, and_true, true_and, sc_ii, sc_ss, sc_bb, sc_ni, sc_in, sc_is, sc_si, sc_nn, decide_true, decide_false, reduceCtorEq, Bool.false_eq_true, if_true, if_false, ite_true, ite_false, exists_const, eq_self, false_and, and_false, or_false, false_or, exists_false, Evl.rLenS, rSum, wipe, tYes, exists_eq, exists_eq', rIxL, rIxT, rIxS, exists_and_right, gt_iff_lt, not_true_eq_false, not_false_eq_true, Bool.not_true, Bool.not_false, decide_eq_true_eq, Nat.reduceSub, Nat.reduceAdd, List.append_assoc, tChain, tDIn, tDNotIn, sDDel, tAug, ipI, tCall]
      refine mkBook1 (kept H3 (some (.ref o2)) none c k3) fun o3 H4 no3 hB3 k4 => ?_
      try simp (maxSteps := 1000000) only [tSeq, tIfS, tTest, tOp, tUn, tCB, tCons, tNil, tVar, tC, rI0, rI, rU, rEq, rNe, tRet, tRetN, tAsg, gName, gSub, tBM, tBM0, tNext, tB, tNot, tAnd, tOr, tIf, tCall, tDrop, tBreak, tCont, L2.start, tDGet, sDPut, tTup, tLst, tDNewK, tRevL, rCat, rAppend, rPop, rSetL, tAndV, tOrV, tNotV, tSl, tPart, tNoPart, tM1, gTup, gCons, gNil, cxK, cxnK, List.map_cons, List.map_nil, List.length_cons, List.length_nil, List.replicate, List.cons_append, List.nil_append, List.append_nil, List.set_cons_zero, List.set_cons_succ, List.getElem?_cons_zero, List.getElem?_cons_succ, Option.some.injEq, V.ref.injEq, V.int.injEq, V.str.injEq, V.bl.injEq, V.ty.injEq, exists_eq_left', exists_eq_left, exists_and_left, List.cons.injEq, and_true, true_and, sc_ii, sc_ss, sc_bb, sc_ni, sc_in, sc_is, sc_si, sc_nn, decide_true, decide_false, reduceCtorEq, Bool.false_eq_true, if_true, if_false, ite_true, ite_false, exists_const, eq_self, false_and, and_false, or_false, false_or, exists_false, Evl.rLenS, rSum, wipe, tYes, exists_eq, exists_eq', rIxL, rIxT, rIxS, exists_and_right, gt_iff_lt, not_true_eq_false, not_false_eq_true, Bool.not_true, Bool.not_false, decide_eq_true_eq, Nat.reduceSub, Nat.reduceAdd, List.append_assoc, tChain, tDIn, tDNotIn, sDDel, tAug, ipI]
      refine forL_src34 ?_
      try simp (maxSteps := 1000000) only [tSeq, tIfS, tTest, tOp, tUn, tCB, tCons, tNil, tVar, tC, rI0, rI, rU, rEq, rNe, tRet, tRetN, tAsg, gName, gSub, tBM, tBM0, tNext, tB, tNot, tAnd, tOr, tIf, tCall, tDrop, tBreak, tCont, L2.start, tDGet, sDPut, tTup, tLst, tDNewK, tRevL, rCat, rAppend, rPop, rSetL, tAndV, tOrV, tNotV, tSl, tPart, tNoPart, tM1, gTup, gCons, gNil, cxK, cxnK, List.map_cons, List.map_nil, List.length_cons, List.length_nil, List.replicate, List.cons_append, List.nil_append, List.append_nil, List.set_cons_zero, List.set_cons_succ, List.getElem?_cons_zero, List.getElem?_cons_succ, Option.some.injEq, V.ref.injEq, V.int.injEq, V.str.injEq, V.bl.injEq, V.ty.injEq, exists_eq_left', exists_eq_left, exists_and_left, List.cons.injEq, and_true, true_and, sc_ii, sc_ss, sc_bb, sc_ni, sc_in, sc_is, sc_si, sc_nn, decide_true, decide_false, reduceCtorEq, Bool.false_eq_true, if_true, if_false, ite_true, ite_false, exists_const, eq_self, false_and, and_false, or_false, false_or, exists_false, Evl.rLenS, rSum, wipe, tYes, exists_eq, exists_eq', rIxL, rIxT, rIxS, exists_and_right, gt_iff_lt, not_true_eq_false, not_false_eq_true, Bool.not_true, Bool.not_false, decide_eq_true_eq, Nat.reduceSub, Nat.reduceAdd, List.append_assoc, tChain, tDIn, tDNotIn, sDDel, tAug, ipI]
      refine ⟨rfl, fun ra rws H5 nra hra hrw k5 => ?_⟩
      have k45 := k4.trans k5
      have k35 := k3.trans k45
      have kZ5 := kZ.trans k35
      refine forLC34 (fun j σ H' => ∃ d e, σ = [some (.ref o), some (.ref lk), some (.ref dt), some (.ref tr), some (.ref lm), some (.ref p), c, some (.ref o2), some (.ref o3), d, e] ∧ Kp [] H5 H') (sq_l hra) ⟨_, _, rfl, Kp.refl _ _⟩ (fun j σ H' _ h => by obtain ⟨_, _, _, k⟩ := h; exact k.ls not0 (sq_l hra)) (fun j x σ H6 hx h => ?_) fun σ H6 h => ?_
      · obtain ⟨d, e, rfl, k6⟩ := h
        obtain ⟨dd, ed, hd6⟩ := dpGet (dpAllN k6 noSq0 hrw) hx
        rw [List.getElem?_map] at ed
        obtain ⟨⟨a, b⟩, ep, rfl⟩ : ∃ p, pairsL[j]? = some p ∧ pD p = dd := by
          cases e : pairsL[j]? with
          | none => rw [e] at ed; cases ed
          | some p => rw [e] at ed; exact ⟨p, rfl, Option.some.inj ed⟩
        have mab : (a, b) ∈ pairsL := List.mem_of_getElem? ep
        obtain ⟨t, rfl, hTt⟩ := dpPair hd6
        have zl1 : zs.length ≤ 1000 := by omega
        have hz2 : ∀ z ∈ zs, z ∈ (full (orF fs mm)).map (·.1) := fun z h => by
          have h1 := hz z h
          unfold full at h1 ⊢
          rw [List.map_append] at h1 ⊢
          rw [orF_names]; exact h1
        have kZ6 := kZ5.trans k6
        have nil0 : ∀ (fs : Fnc), ∀ z ∈ ([] : List Str), z ∈ (full fs).map (·.1) := fun _ z h => nomatch h
        try simp (maxSteps := 1000000) only [tTest, tOp, tUn, tCB, tCons, tNil, tVar, tC, rI0, rI, rU, rEq, rNe, tRet, tRetN, tAsg, gName, gSub, tBM, tBM0, tNext, tB, tNot, tAnd, tOr, tIf, tCall, tDrop, tBreak, tCont, L2.start, tDGet, sDPut, tTup, tLst, tDNewK, tRevL, rCat, rAppend, rPop, rSetL, tAndV, tOrV, tNotV, tSl, tPart, tNoPart, tM1, gTup, gCons, gNil, cxK, cxnK, List.map_cons, List.map_nil, List.length_cons, List.length_nil, List.replicate, List.cons_append, List.nil_append, List.append_nil, List.set_cons_zero, List.set_cons_succ, List.getElem?_cons_zero, List.getElem?_cons_succ, Option.some.injEq, V.ref.injEq, V.int.injEq, V.str.injEq, V.bl.injEq, V.ty.injEq, exists_eq_left', exists_eq_left, exists_and_left, List.cons.injEq, and_true, true_and, sc_ii, sc_ss, sc_bb, sc_ni, sc_in, sc_is, sc_si, sc_nn, decide_true, decide_false, reduceCtorEq, Bool.false_eq_true, if_true, if_false, ite_true, ite_false, exists_const, eq_self, false_and, and_false, or_false, false_or, exists_false, Evl.rLenS, rSum, wipe, tYes, exists_eq, exists_eq', rIxL, rIxT, rIxS, exists_and_right, gt_iff_lt, not_true_eq_false, not_false_eq_true, Bool.not_true, Bool.not_false, decide_eq_true_eq, Nat.reduceSub, Nat.reduceAdd, List.append_assoc, tChain, tDIn, tDNotIn, sDDel, tAug, ipI]
        refine ⟨_, hTt, rfl, _, _, rfl, _, _, rfl, rfl, ?_⟩
        refine ifs_both (fun σ' H' => σ' = [some (.ref o), some (.ref lk), some (.ref dt), some (.ref tr), some (.ref lm), some (.ref p), c, some (.ref o2), some (.ref o3), some (.str a), some (.str b)] ∧ Kp [] H6 H') (fun Dn hn => ?_) fun σ' H7 h => ?_
        · try simp (maxSteps := 1000000) only [tSeq, tIfS, tTest, tOp, tUn, tCB, tCons, tNil, tVar, tC, rI0, rI, rU, rEq, rNe, tRet, tRetN, tAsg, gName, gSub, tBM, tBM0, tNext, tB, tNot, tAnd, tOr, tIf, tCall, tDrop, tBreak, tCont, L2.start, tDGet, sDPut, tTup, tLst, tDNewK, tRevL, rCat, rAppend, rPop, rSetL, tAndV, tOrV, tNotV, tSl, tPart, tNoPart, tM1, gTup, gCons, gNil, cxK, cxnK, List.map_cons, List.map_nil, List.length_cons, List.length_nil, List.replicate, List.cons_append, List.nil_append, List.append_nil, List.set_cons_zero, List.set_cons_succ, List.getElem?_cons_zero, List.getElem?_cons_succ, Option.some.injEq, V.ref.injEq, V.int.injEq, V.str.injEq, V.bl.injEq, V.ty.injEq, exists_eq_left', exists_eq_left, exists_and_left, List.cons.injEq, and_true, true_and, sc_ii, sc_ss, sc_bb, sc_ni, sc_in, sc_is, sc_si, sc_nn, decide_true, decide_false, reduceCtorEq, Bool.false_eq_true, if_true, if_false, ite_true, ite_false, exists_const, eq_self, false_and, and_false, or_false, false_or, exists_false, Evl.rLenS, rSum, wipe, tYes, exists_eq, exists_eq', rIxL, rIxT, rIxS, exists_and_right, gt_iff_lt, not_true_eq_false, not_false_eq_true, Bool.not_true, Bool.not_false, decide_eq_true_eq, Nat.reduceSub, Nat.reduceAdd, List.append_assoc, tChain, tDIn, tDNotIn, sDDel, tAug, ipI, tMethN]
          refine keeps_use (hB.kp kZ6) hf (sq_t (kZ6 _ _ not0 hT)) hz zl1 mab fun H7 k7 => ⟨_, rfl, ?_⟩
          refine ite2 (fun h => ?_) (fun _ => hn _ _ ⟨rfl, k7⟩)
          refine keeps_use (hB2.kp ((k45.trans k6).trans k7)) (hf.or mm) (sq_t ((kZ6.trans k7) _ _ not0 hT)) hz2 zl1 mab fun H8 k8 => ⟨_, rfl, ?_⟩
          have e : ((ff (a, b) || mm (a, b)) || zs.any fun z => hasF (orF fs mm) z (a, b)) = true := by
            rcases (Bool.or_eq_true_iff.mp h) with h | h
            · rw [h]; rfl
            · obtain ⟨z, m, hzz⟩ := List.any_eq_true.mp h
              rw [Bool.or_eq_true]
              exact .inr (List.any_eq_true.mpr ⟨z, m, hasF_or hzz⟩)
          rw [e]
          exact hn _ _ ⟨rfl, k7.trans k8⟩
        · obtain ⟨rfl, k7⟩ := h
          have kZ7 := kZ6.trans k7
          dsimp only
          refine ifs_both (fun σ' H' => σ' = [some (.ref o), some (.ref lk), some (.ref dt), some (.ref tr), some (.ref lm), some (.ref p), c, some (.ref o2), some (.ref o3), some (.str a), some (.str b)] ∧ Kp [] H7 H') (fun Dn hn => ?_) fun σ' H8 h => ?_
          · try simp (maxSteps := 1000000) only [tSeq, tIfS, tTest, tOp, tUn, tCB, tCons, tNil, tVar, tC, rI0, rI, rU, rEq, rNe, tRet, tRetN, tAsg, gName, gSub, tBM, tBM0, tNext, tB, tNot, tAnd, tOr, tIf, tCall, tDrop, tBreak, tCont, L2.start, tDGet, sDPut, tTup, tLst, tDNewK, tRevL, rCat, rAppend, rPop, rSetL, tAndV, tOrV, tNotV, tSl, tPart, tNoPart, tM1, gTup, gCons, gNil, cxK, cxnK, List.map_cons, List.map_nil, List.length_cons, List.length_nil, List.replicate, List.cons_append, List.nil_append, List.append_nil, List.set_cons_zero, List.set_cons_succ, List.getElem?_cons_zero, List.getElem?_cons_succ, Option.some.injEq, V.ref.injEq, V.int.injEq, V.str.injEq, V.bl.injEq, V.ty.injEq, exists_eq_left', exists_eq_left, exists_and_left, List.cons.injEq, and_true, true_and, sc_ii, sc_ss, sc_bb, sc_ni, sc_in, sc_is, sc_si, sc_nn, decide_true, decide_false, reduceCtorEq, Bool.false_eq_true, if_true, if_false, ite_true, ite_false, exists_const, eq_self, false_and, and_false, or_false, false_or, exists_false, Evl.rLenS, rSum, wipe, tYes, exists_eq, exists_eq', rIxL, rIxT, rIxS, exists_and_right, gt_iff_lt, not_true_eq_false, not_false_eq_true, Bool.not_true, Bool.not_false, decide_eq_true_eq, Nat.reduceSub, Nat.reduceAdd, List.append_assoc, tChain, tDIn, tDNotIn, sDDel, tAug, ipI, tMeth]
            refine keeps_use (zs := []) (hB.kp kZ7) hf (hde _) (nil0 _) (by decide) mab fun H8 k8 => ⟨_, rfl, ?_⟩
            refine ite2 (fun h => ?_) (fun _ => hn _ _ ⟨rfl, k8⟩)
            refine keeps_use (zs := []) (hB3.kp (((k5.trans k6).trans k7).trans k8)) ⟨(fun _ h => nomatch h), List.nodup_nil, by decide⟩ (hde _) (nil0 _) (by decide) mab fun H9 k9 => ⟨_, rfl, ?_⟩
            have e : ((ff (a, b) || mm (a, b)) || ([] : List Str).any fun z => hasF [] z (a, b)) = true := by
              rcases (Bool.or_eq_true_iff.mp h) with h | h
              · rw [h]; rfl
              · cases h
            rw [e]
            exact hn _ _ ⟨rfl, k8.trans k9⟩
          · obtain ⟨rfl, k8⟩ := h
            have kZ8 := kZ7.trans k8
            dsimp only
            try simp (maxSteps := 1000000) only [tSeq, tIfS, tTest, tOp, tUn, tCB, tCons, tNil, tVar, tC, rI0, rI, rU, rEq, rNe, tRet, tRetN, tAsg, gName, gSub, tBM, tBM0, tNext, tB, tNot, tAnd, tOr, tIf, tCall, tDrop, tBreak, tCont, L2.start, tDGet, sDPut, tTup, tLst, tDNewK, tRevL, rCat, rAppend, rPop, rSetL, tAndV, tOrV, tNotV, tSl, tPart, tNoPart, tM1, gTup, gCons, gNil, cxK, cxnK, List.map_cons, List.map_nil, List.length_cons, List.length_nil, List.replicate, List.cons_append, List.nil_append, List.append_nil, List.set_cons_zero, List.set_cons_succ, List.getElem?_cons_zero, List.getElem?_cons_succ, Option.some.injEq, V.ref.injEq, V.int.injEq, V.str.injEq, V.bl.injEq, V.ty.injEq, exists_eq_left', exists_eq_left, exists_and_left, List.cons.injEq, and_true, true_and, sc_ii, sc_ss, sc_bb, sc_ni, sc_in, sc_is, sc_si, sc_nn, decide_true, decide_false, reduceCtorEq, Bool.false_eq_true, if_true, if_false, ite_true, ite_false, exists_const, eq_self, false_and, and_false, or_false, false_or, exists_false, Evl.rLenS, rSum, wipe, tYes, exists_eq, exists_eq', rIxL, rIxT, rIxS, exists_and_right, gt_iff_lt, not_true_eq_false, not_false_eq_true, Bool.not_true, Bool.not_false, decide_eq_true_eq, Nat.reduceSub, Nat.reduceAdd, List.append_assoc, tChain, tDIn, tDNotIn, sDDel, tAug, ipI, tMethN, tMeth]
            have hB8 := hB.kp kZ8
            obtain ⟨dx8, _, _, _, ho8, _⟩ := id hB8
            refine ⟨dx8, _, ho8, rfl, small (by decide), fun p1 np1 => ?_⟩
            have kp1 : Kp [] H8 (upd H8 p1 (.tup [.str "full"])) := Kp.new np1
            refine catA_use ((kZ8.trans kp1) _ _ not0 hT) upd_same (by rw [List.length_map]; show zs.length + 1 ≤ 1000; omega) fun r1 H9 hr1 k9 => ?_
            have k89 := kp1.trans k9
            have hr1' : H9 r1 = some (.tup ((zs ++ [("full" : Str)]).map V.str)) := by rw [hr1, List.map_append]; rfl
            have fullm : ("full" : Str) ∈ (full fs).map (·.1) := by unfold full; simp
            refine keeps_sp (hB8.kp k89) hf (sq_t hr1') (fun z h => by
              rcases List.mem_append.mp h with h | h
              · exact hz z h
              · rw [List.mem_singleton.mp h]; exact fullm) (by rw [List.length_append]; show zs.length + 1 ≤ 1000; omega) mab fun H10 k10 => ⟨_, rfl, ?_⟩
            have e : (ff (a, b) || (zs ++ [("full" : Str)]).any fun z => hasF fs z (a, b)) = true := by
              rw [List.any_append, Bool.or_eq_true, Bool.or_eq_true]
              refine .inr (.inr ?_)
              have : hasF fs "full" (a, b) = true := hasF_of (g := fun _ => true) (full_nodup hf) (by unfold full; simp)
              show (hasF fs "full" (a, b) || false) = true
              rw [this]; rfl
            rw [e]
            try simp (maxSteps := 1000000) only [tSeq, tIfS, tTest, tOp, tUn, tCB, tCons, tNil, tVar, tC, rI0, rI, rU, rEq, rNe, tRet, tRetN, tAsg, gName, gSub, tBM, tBM0, tNext, tB, tNot, tAnd, tOr, tIf, tCall, tDrop, tBreak, tCont, L2.start, tDGet, sDPut, tTup, tLst, tDNewK, tRevL, rCat, rAppend, rPop, rSetL, tAndV, tOrV, tNotV, tSl, tPart, tNoPart, tM1, gTup, gCons, gNil, cxK, cxnK, List.map_cons, List.map_nil, List.length_cons, List.length_nil, List.replicate, List.cons_append, List.nil_append, List.append_nil, List.set_cons_zero, List.set_cons_succ, List.getElem?_cons_zero, List.getElem?_cons_succ, Option.some.injEq, V.ref.injEq, V.int.injEq, V.str.injEq, V.bl.injEq, V.ty.injEq, exists_eq_left', exists_eq_left, exists_and_left, List.cons.injEq, and_true, true_and, sc_ii, sc_ss, sc_bb, sc_ni, sc_in, sc_is, sc_si, sc_nn, decide_true, decide_false, reduceCtorEq, Bool.false_eq_true, if_true, if_false, ite_true, ite_false, exists_const, eq_self, false_and, and_false, or_false, false_or, exists_false, Evl.rLenS, rSum, wipe, tYes, exists_eq, exists_eq', rIxL, rIxT, rIxS, exists_and_right, gt_iff_lt, not_true_eq_false, not_false_eq_true, Bool.not_true, Bool.not_false, decide_eq_true_eq, Nat.reduceSub, Nat.reduceAdd, List.append_assoc, tChain, tDIn, tDNotIn, sDDel, tAug, ipI, tMeth]
            have k8A := k89.trans k10
            refine keeps_use (zs := []) (hB3.kp ((((k5.trans k6).trans k7).trans k8).trans k8A)) ⟨(fun _ h => nomatch h), List.nodup_nil, by decide⟩ (hde _) (nil0 _) (by decide) mab fun HB kB => ⟨small (by decide), fun p2 np2 => ?_⟩
            have e0 : ((ff (a, b) || mm (a, b)) || ([] : List Str).any fun z => hasF [] z (a, b)) = (ff (a, b) || mm (a, b)) := Bool.or_false _
            rw [e0]
            have kp2 : Kp [] HB (upd HB p2 (.tup [.str a, .str b])) := Kp.new np2
            have kZB := (kZ8.trans k8A).trans (kB.trans kp2)
            obtain ⟨lw, hlw, hlD⟩ := hk.kp kZB
            refine ⟨pD (a, b), _, .tup (sq_t upd_same) (.cons (.str _) (.cons (.str _) .nil)), .lst (sq_l hlw) hlD, okP mab, (shapedL (fitsP (subP ff))).1, ?_⟩
            rw [in_filter mab]
            refine ⟨_, rfl, ?_⟩
            have k6B := ((k6.trans k7).trans k8).trans (k8A.trans (kB.trans kp2))
            refine ite2 (fun h => ?_) (fun h => ?_)
            · rw [h]
              refine ⟨_, _, rfl, ?_⟩
              try simp (maxSteps := 1000000) only [tSeq, tIfS, tTest, tOp, tUn, tCB, tCons, tNil, tVar, tC, rI0, rI, rU, rEq, rNe, tRet, tRetN, tAsg, gName, gSub, tBM, tBM0, tNext, tB, tNot, tAnd, tOr, tIf, tCall, tDrop, tBreak, tCont, L2.start, tDGet, sDPut, tTup, tLst, tDNewK, tRevL, rCat, rAppend, rPop, rSetL, tAndV, tOrV, tNotV, tSl, tPart, tNoPart, tM1, gTup, gCons, gNil, cxK, cxnK, List.map_cons, List.map_nil, List.length_cons, List.length_nil, List.replicate, List.cons_append, List.nil_append, List.append_nil, List.set_cons_zero, List.set_cons_succ, List.getElem?_cons_zero, List.getElem?_cons_succ, Option.some.injEq, V.ref.injEq, V.int.injEq, V.str.injEq, V.bl.injEq, V.ty.injEq, exists_eq_left', exists_eq_left, exists_and_left, List.cons.injEq, and_true, true_and, sc_ii, sc_ss, sc_bb, sc_ni, sc_in, sc_is, sc_si, sc_nn, decide_true, decide_false, reduceCtorEq, Bool.false_eq_true, if_true, if_false, ite_true, ite_false, exists_const, eq_self, false_and, and_false, or_false, false_or, exists_false, Evl.rLenS, rSum, wipe, tYes, exists_eq, exists_eq', rIxL, rIxT, rIxS, exists_and_right, gt_iff_lt, not_true_eq_false, not_false_eq_true, Bool.not_true, Bool.not_false, decide_eq_true_eq, Nat.reduceSub, Nat.reduceAdd, List.append_assoc, tChain, tDIn, tDNotIn, sDDel, tAug, ipI]
              exact k6B
            · have h : ff (a, b) = false := by simpa using h
              generalize (upd HB p2 (.tup [.str a, .str b])) = HC at kZB k6B ⊢
              refine ⟨small (by decide), fun p3 np3 => ?_⟩
              have kp3 : Kp [] HC (upd HC p3 (.tup [.str a, .str b])) := Kp.new np3
              obtain ⟨lw2, hlw2, hlD2⟩ := hm.kp (kZB.trans kp3)
              refine ⟨pD (a, b), _, .tup (sq_t upd_same) (.cons (.str _) (.cons (.str _) .nil)), .lst (sq_l hlw2) hlD2, okP mab, (shapedL (fitsP (subP mm))).1, ?_⟩
              rw [in_filter mab, h]
              refine ⟨_, _, rfl, ?_⟩
              rw [Bool.false_or, decide_eq_true rfl]
              try simp (maxSteps := 1000000) only [tSeq, tIfS, tTest, tOp, tUn, tCB, tCons, tNil, tVar, tC, rI0, rI, rU, rEq, rNe, tRet, tRetN, tAsg, gName, gSub, tBM, tBM0, tNext, tB, tNot, tAnd, tOr, tIf, tCall, tDrop, tBreak, tCont, L2.start, tDGet, sDPut, tTup, tLst, tDNewK, tRevL, rCat, rAppend, rPop, rSetL, tAndV, tOrV, tNotV, tSl, tPart, tNoPart, tM1, gTup, gCons, gNil, cxK, cxnK, List.map_cons, List.map_nil, List.length_cons, List.length_nil, List.replicate, List.cons_append, List.nil_append, List.append_nil, List.set_cons_zero, List.set_cons_succ, List.getElem?_cons_zero, List.getElem?_cons_succ, Option.some.injEq, V.ref.injEq, V.int.injEq, V.str.injEq, V.bl.injEq, V.ty.injEq, exists_eq_left', exists_eq_left, exists_and_left, List.cons.injEq, and_true, true_and, sc_ii, sc_ss, sc_bb, sc_ni, sc_in, sc_is, sc_si, sc_nn, decide_true, decide_false, reduceCtorEq, Bool.false_eq_true, if_true, if_false, ite_true, ite_false, exists_const, eq_self, false_and, and_false, or_false, false_or, exists_false, Evl.rLenS, rSum, wipe, tYes, exists_eq, exists_eq', rIxL, rIxT, rIxS, exists_and_right, gt_iff_lt, not_true_eq_false, not_false_eq_true, Bool.not_true, Bool.not_false, decide_eq_true_eq, Nat.reduceSub, Nat.reduceAdd, List.append_assoc, tChain, tDIn, tDNotIn, sDDel, tAug, ipI]
              exact k6B.trans kp3
      · obtain ⟨d, e, rfl, k6⟩ := h
        try simp (maxSteps := 1000000) only [tSeq, tIfS, tTest, tOp, tUn, tCB, tCons, tNil, tVar, tC, rI0, rI, rU, rEq, rNe, tRet, tRetN, tAsg, gName, gSub, tBM, tBM0, tNext, tB, tNot, tAnd, tOr, tIf, tCall, tDrop, tBreak, tCont, L2.start, tDGet, sDPut, tTup, tLst, tDNewK, tRevL, rCat, rAppend, rPop, rSetL, tAndV, tOrV, tNotV, tSl, tPart, tNoPart, tM1, gTup, gCons, gNil, cxK, cxnK, List.map_cons, List.map_nil, List.length_cons, List.length_nil, List.replicate, List.cons_append, List.nil_append, List.append_nil, List.set_cons_zero, List.set_cons_succ, List.getElem?_cons_zero, List.getElem?_cons_succ, Option.some.injEq, V.ref.injEq, V.int.injEq, V.str.injEq, V.bl.injEq, V.ty.injEq, exists_eq_left', exists_eq_left, exists_and_left, List.cons.injEq, and_true, true_and, sc_ii, sc_ss, sc_bb, sc_ni, sc_in, sc_is, sc_si, sc_nn, decide_true, decide_false, reduceCtorEq, Bool.false_eq_true, if_true, if_false, ite_true, ite_false, exists_const, eq_self, false_and, and_false, or_false, false_or, exists_false, Evl.rLenS, rSum, wipe, tYes, exists_eq, exists_eq', rIxL, rIxT, rIxS, exists_and_right, gt_iff_lt, not_true_eq_false, not_false_eq_true, Bool.not_true, Bool.not_false, decide_eq_true_eq, Nat.reduceSub, Nat.reduceAdd, List.append_assoc, tChain, tDIn, tDNotIn, sDDel, tAug, ipI]
        exact q H6 (kZ5.trans k6)
end
end My

set_option Elab.async false
set_option linter.all false
set_option maxRecDepth 100000
set_option maxHeartbeats 4000000
namespace My
open PySem L2 NdefX
abbrev s_law : Stmt := top 35
theorem sc_law : FnScope ["_law_script", "_law_row_here", "_law_k", "_law_kept", "_law_table", "_law_handed", "_law_name_here", "_law_held", "_law_made", "_law_passed", "_law_bad", "_law_spoilt"] ["_law_script"] (defScope s_law) := ⟨rfl, rfl, rfl, by decide +kernel, rfl, by decide +kernel, by decide +kernel⟩
/-- a dict whose values are all the list at lk -/
def DkL (lk : Addr) (ks : List Str) : List (Key × V) := ks.map fun z => ((Sum.inr z : Key), V.ref lk)
theorem dkL_put {lk : Addr} {ks : List Str} {z : Str} (nd : ks.Nodup) : putK (DkL lk ks) (Sum.inr z) (V.ref lk) = DkL lk (if z ∈ ks then ks else ks ++ [z]) := by
  unfold putK
  by_cases h : z ∈ ks
  · have hm : ((Sum.inr z : Key), V.ref lk) ∈ DkL lk ks := List.mem_map_of_mem (f := fun z => ((Sum.inr z : Key), V.ref lk)) h
    rw [if_pos h, if_pos (List.any_eq_true.mpr ⟨_, hm, decide_eq_true rfl⟩)]
    unfold DkL
    rw [List.map_map]
    refine List.map_congr_left fun y _ => ?_
    show (if _ then _ else _) = _
    split <;> rename_i h2
    · have : (Sum.inr y : Key) = Sum.inr z := by simpa using h2
      cases this; rfl
    · rfl
  · rw [if_neg h, if_neg]
    · unfold DkL; rw [List.map_append]; rfl
    · intro h2
      obtain ⟨kv, hkv, e⟩ := List.any_eq_true.mp h2
      obtain ⟨y, hy, rfl⟩ := List.mem_map.mp hkv
      have : (Sum.inr y : Key) = Sum.inr z := of_decide_eq_true e
      cases this
      exact h hy
theorem dkL_tab {K : PySem.W.Frag} {H : Hp} {d lk : Addr} {ks : List Str} {f : Pr → Bool} (hd : H d = some (.dK (DkL lk ks))) (hk : SelAt K H lk f) : TabL K H d (ks.map fun z => (z, f)) := by
  refine ⟨_, hd, by unfold DkL; rw [List.map_map, List.map_map]; rfl, fun i n g e => ?_⟩
  rw [List.getElem?_map] at e
  obtain ⟨z, ez, e2⟩ := Option.map_eq_some_iff.mp e
  cases e2
  exact ⟨lk, by unfold DkL; rw [List.getElem?_map, ez]; rfl, hk⟩
theorem min_ex : ∀ {bs : List Str}, bs ≠ [] → ∃ z ∈ bs, ∀ y ∈ bs, z.cps.toList ≤ y.cps.toList
  | [], h => absurd rfl h
  | [b], _ => ⟨b, by simp, fun y hy => by rw [List.mem_singleton.mp hy]; exact List.le_refl _⟩
  | b :: c :: r, _ => by
    obtain ⟨z, hz, hm⟩ := min_ex (bs := c :: r) (by simp)
    rcases List.le_total b.cps.toList z.cps.toList with h | h
    · refine ⟨b, by simp, fun y hy => ?_⟩
      rcases List.mem_cons.mp hy with rfl | hy
      · exact List.le_refl _
      · exact List.le_trans h (hm y hy)
    · refine ⟨z, List.mem_cons_of_mem _ hz, fun y hy => ?_⟩
      rcases List.mem_cons.mp hy with rfl | hy
      · exact h
      · exact hm y hy
section
variable {P : Program} {w : World} {K : PySem.W.Frag} {mg : Str → Option Value} {base : Heap} {BK PC NF BP TL BF fI fJ : Addr}
def S16 (K : PySem.W.Frag) (σ : L2.St) (H : Hp) : Prop := ∃ (a rl lk dt : Addr) (c d e x y z : Option V) (ns : List Int) (f : Pr → Bool) (fs : Fnc), σ = [some (.ref a), some (.ref rl), c, some (.ref lk), some (.ref dt), d, e, x, y, z, none, none] ∧ SqL K H rl (ns.map V.int) ∧ ns.length = 10 ∧ SelAt K H lk f ∧ TabL K H dt fs ∧ Fs fs
structure BtLw (mg : Str → Option Value) : Prop extends Bt0 mg where
  b_sorted : mg "sorted" = none
theorem law_t16 {f : Addr} {cdv : Value} {A : Around} {outer : List Env} {s : Shared} {H : Hp} {Q : VK} {E : XK} (hr : Room 7 (A.deeper (PyProof.Rows.envOfC "law" (defScope s_law) s.heap.objs.size f cdv))) (T : BtLw mg) (q : ∀ H', Q (.bl true) H')
    {fb : Addr} {fdb : FuncData} (D_law_bad_names : Df K mg "_law_bad_names" s_law_bad_names ["_law_number", "_law_names"] fb fdb) (G_law_bad_names : FnOk P w K mg base CX0 1 fb fdb ["_law_number", "_law_names"] (spBadN K))
    {fr : Addr} {fdr : FuncData} (D_law_book_refusal : Df K mg "_law_book_refusal" s_law_book_refusal ["_law_kept", "_law_table"] fr fdr) (G_law_book_refusal : FnOk P w K mg base CX0 7 fr fdr ["_law_kept", "_law_table"] (spBRef K)) :
    ∃ t, PSs (cxOf CX0 P w K mg base ["_law_script", "_law_row_here", "_law_k", "_law_kept", "_law_table", "_law_handed", "_law_name_here", "_law_held", "_law_made", "_law_passed", "_law_bad", "_law_spoilt"] "law" (defScope s_law) f cdv A outer s H E).nox ((defBody s_law).drop 16) t ∧ ∀ σ H9, S16 K σ H9 → t { nx := fun _ H' => Q .non H', rt := Q } σ H9 := by
  have hu := hu_of hr
  have hcalm : True := True.intro
  refine ⟨_, (pss_cons (ps_set (i := 10) sc_law.nd rfl (Or.inl rfl) (pe_call G_law_bad_names (hr.mono (by decide)) rfl D_law_bad_names.g D_law_bad_names.F.kp D_law_bad_names.b .nil pass0 (pa_cons (pe_ix (r := rIxL K) ix_list (pv 1) pe_int (fun _ _ => rfl)) (pa_cons (pe_callTy (call_listD rfl) (by rfl) T.b_list (by decide +kernel) (pa_cons (pv 4) pa_nil)) pa_nil))))
      (pss_cons (ps_set (i := 11) sc_law.nd rfl (Or.inl rfl) pe_dnewK)
      (pss_cons (ps_for PassesOwn.never rfl (pi_list (pv 10)) (pg_name (i := 6) sc_law.nd rfl (Or.inl rfl)) (pss_one (ps_dput hu (pv 11) (pv 6) (pv 3) rfl)))
      (pss_cons (ps_if (pt_cmpR (op_neD hr.units) (pe_call G_law_book_refusal (hr.mono (by decide)) rfl D_law_book_refusal.g D_law_book_refusal.F.kp D_law_book_refusal.b .nil pass0 (pa_cons (pv 3) (pa_cons (pv 11) pa_nil))) (pe_lst (pa_cons pe_str (pa_cons (pe_ix (r := rIxL K) ix_list (pe_callB (id := "sorted") (r := rSortedS K) cr_sortedS (by rfl) T.b_sorted (by decide +kernel) (pa_cons (pe_lc (own := [("_law_name_here", 6)]) (g := (gName 6)) rfl sc_law.nd (pi_list (pv 10)) (blkOk_by (N := ["_law_script", "_law_row_here", "_law_k", "_law_kept", "_law_table", "_law_handed", "_law_name_here", "_law_held", "_law_made", "_law_passed", "_law_bad", "_law_spoilt"]) (sc := defScope s_law) (by decide +kernel)) (fun _ _ _ _ _ => (pg_name (i := 6) sc_law.nd rfl (Or.inl rfl))) (fun _ _ _ _ _ => (pts_one (pt_cmp (pc_dnotin hu (pv 6) (pv 4))))) (fun _ _ _ _ _ => (pv 6))) pa_nil)) pe_int (fun _ _ => rfl)) pa_nil))) (nomark _)) (pss_one (ps_ret pe_bl)) pss_nil)
      (pss_cons (ps_dput hu (pv 11) pe_str (pv 3) rfl)
      (pss_cons (ps_dput hu (pv 11) pe_str (pv 3) rfl)
      (pss_cons (ps_if (pt_cmpR (op_neD hr.units) (pe_call G_law_book_refusal (hr.mono (by decide)) rfl D_law_book_refusal.g D_law_book_refusal.F.kp D_law_book_refusal.b .nil pass0 (pa_cons (pv 3) (pa_cons (pv 11) pa_nil))) (pe_lst (pa_cons pe_str (pa_cons pe_int pa_nil))) (nomark _)) (pss_one (ps_ret pe_bl)) pss_nil)
      (pss_one (ps_ret (pe_cmpR (op_eqD hr.units) (pe_call G_law_book_refusal (hr.mono (by decide)) rfl D_law_book_refusal.g D_law_book_refusal.F.kp D_law_book_refusal.b .nil pass0 (pa_cons (pv 3) (pa_cons (pe_disp (pps_cons pe_str (pv 3) (pps_cons pe_str (pv 3) pps_nil)) rfl rfl (by simp) (by decide)) pa_nil))) (pe_lst pa_nil) (nomark _))))))))))), ?_⟩
  rintro σ H9 ⟨a, rl, lk, dt, c, d, e, x, y, z, ns, ff, fs, rfl, hrl, nl, hk, ht, hf⟩
  try simp (maxSteps := 1000000) only [tSeq, tIfS, tTest, tOp, tUn, tCB, tCons, tNil, tVar, tC, rI0, rI, rU, rEq, rNe, tRet, tRetN, tAsg, gName, gSub, tBM, tBM0, tNext, tB, tNot, tAnd, tOr, tIf, tCall, tDrop, tBreak, tCont, L2.start, tDGet, sDPut, tTup, tLst, tDNewK, tRevL, rCat, rAppend, rPop, rSetL, tAndV, tOrV, tNotV, tSl, tPart, tNoPart, tM1, gTup, gCons, gNil, cxK, cxnK, List.map_cons, List.map_nil, List.length_cons, List.length_nil, List.replicate, List.cons_append, List.nil_append, List.append_nil, List.set_cons_zero, List.set_cons_succ, List.getElem?_cons_zero, List.getElem?_cons_succ, Option.some.injEq, V.ref.injEq, V.int.injEq, V.str.injEq, V.bl.injEq, V.ty.injEq, exists_eq_left', exists_eq_left, exists_and_left, List.cons.injEq, and_true, true_and, sc_ii, sc_ss, sc_bb, sc_ni, sc_in, sc_is, sc_si, sc_nn, decide_true, decide_false, reduceCtorEq, Bool.false_eq_true, if_true, if_false, ite_true, ite_false, exists_const, eq_self, false_and, and_false, or_false, false_or, exists_false, Evl.rLenS, rSum, wipe, tYes, exists_eq, exists_eq', rIxL, rIxT, rIxS, exists_and_right, gt_iff_lt, not_true_eq_false, not_false_eq_true, Bool.not_true, Bool.not_false, decide_eq_true_eq, Nat.reduceSub, Nat.reduceAdd, List.append_assoc, tChain, tDIn, tDNotIn, sDDel, tAug, ipI]
  obtain ⟨kvt, htd, htk, hte⟩ := id ht
  have kn : kvt.map (fun kv => kV kv.1) = (fs.map (·.1)).map V.str := by
    have : kvt.map (fun kv => kV kv.1) = (kvt.map (·.1)).map kV := by rw [List.map_map]; rfl
    rw [this, htk, List.map_map, List.map_map]; rfl
  obtain ⟨n9, e9⟩ : ∃ n, ns[9]? = some n := ⟨ns[9], List.getElem?_eq_getElem (by omega)⟩
  refine ⟨_, hrl, .int n9, atI_nat (by rw [List.getElem?_map, e9]; rfl), kvt, .inl htd, fun p1 np1 => ?_⟩
  rw [kn]
  have k1 : Kp [] H9 (upd H9 p1 (.lst ((fs.map (·.1)).map V.str))) := Kp.new np1
  refine ⟨n9, p1, fs.map (·.1), rfl, sq_l upd_same, by rw [List.length_map]; have := hf.2.2; omega, fun bl pre bs H2 nbl hbl hpre _ hbs hl2 hbad k2 => fun sp nsp => ?_⟩
  have k12 := k1.trans k2
  generalize (upd H9 p1 (.lst ((fs.map (·.1)).map V.str))) = H1 at k1 k2 nbl
  have blsp : bl ≠ sp := ne_of_none hbl nsp
  have nb : ∀ b ∈ bs, goodF b = false := fun b h => badL_bad b (hbad b h)
  have nbT : ∀ b ∈ bs, b ∉ fs.map (·.1) := fun b h hm => by
    obtain ⟨x, hx, rfl⟩ := List.mem_map.mp hm
    have h1 := hf.1 x hx
    rw [nb _ h] at h1
    cases h1
  refine forL (fun i σ H' => ∃ (c6 : Option V) (ks : List Str), σ = [some (.ref a), some (.ref rl), c, some (.ref lk), some (.ref dt), d, c6, x, y, z, some (.ref bl), some (.ref sp)] ∧ ks.Nodup ∧ (∀ u, u ∈ ks ↔ u ∈ (pre ++ bs).take i) ∧ H' sp = some (.dK (DkL lk ks)) ∧ Kp [] H2 H') rfl (sq_l (by rw [upd_ne blsp]; exact hbl)) ⟨_, [], rfl, List.nodup_nil, fun u => by simp, upd_same, Kp.new nsp⟩ (fun j σ H' _ h => by obtain ⟨_, _, _, _, _, _, k⟩ := h; exact k.ls not0 (sq_l hbl)) (fun j v σ H3 hv h => ?_) fun σ H3 h => ?_
  · obtain ⟨c6, ks, rfl, nd, hm, hsp, k3⟩ := h
    rw [List.getElem?_map] at hv
    obtain ⟨u, eu, rfl⟩ : ∃ u, (pre ++ bs)[j]? = some u ∧ V.str u = v := by
      cases e : (pre ++ bs)[j]? with
      | none => rw [e] at hv; cases hv
      | some u => rw [e] at hv; exact ⟨u, rfl, Option.some.inj hv⟩
    have jl : j < (pre ++ bs).length := (List.getElem?_eq_some_iff.mp eu).1
    have ksl : ks.length ≤ 2 := by
      have := List.Nodup.length_le_of_subset nd (l₂ := (pre ++ bs).take j) fun x hx => (hm x).mp hx
      rw [List.length_take, List.length_append] at this
      omega
    try simp (maxSteps := 1000000) only [tSeq, tIfS, tTest, tOp, tUn, tCB, tCons, tNil, tVar, tC, rI0, rI, rU, rEq, rNe, tRet, tRetN, tAsg, gName, gSub, tBM, tBM0, tNext, tB, tNot, tAnd, tOr, tIf, tCall, tDrop, tBreak, tCont, L2.start, tDGet, sDPut, tTup, tLst, tDNewK, tRevL, rCat, rAppend, rPop, rSetL, tAndV, tOrV, tNotV, tSl, tPart, tNoPart, tM1, gTup, gCons, gNil, cxK, cxnK, List.map_cons, List.map_nil, List.length_cons, List.length_nil, List.replicate, List.cons_append, List.nil_append, List.append_nil, List.set_cons_zero, List.set_cons_succ, List.getElem?_cons_zero, List.getElem?_cons_succ, Option.some.injEq, V.ref.injEq, V.int.injEq, V.str.injEq, V.bl.injEq, V.ty.injEq, exists_eq_left', exists_eq_left, exists_and_left, List.cons.injEq, and_true, true_and, sc_ii, sc_ss, sc_bb, sc_ni, sc_in, sc_is, sc_si, sc_nn, decide_true, decide_false, reduceCtorEq, Bool.false_eq_true, if_true, if_false, ite_true, ite_false, exists_const, eq_self, false_and, and_false, or_false, false_or, exists_false, Evl.rLenS, rSum, wipe, tYes, exists_eq, exists_eq', rIxL, rIxT, rIxS, exists_and_right, gt_iff_lt, not_true_eq_false, not_false_eq_true, Bool.not_true, Bool.not_false, decide_eq_true_eq, Nat.reduceSub, Nat.reduceAdd, List.append_assoc, tChain, tDIn, tDNotIn, sDDel, tAug, ipI]
    refine ⟨_, .inl ⟨_, .inr u, hsp, rfl, by unfold DkL; rw [List.length_map]; exact smallL (by omega), rfl⟩, (if u ∈ ks then ks else ks ++ [u]), ?_, fun t => ?_, by rw [upd_same, dkL_put nd], k3.wr nsp⟩
    · split
      · exact nd
      · rename_i h
        rw [List.nodup_append]
        exact ⟨nd, by simp, fun y hy w hw e => h (by rw [← List.mem_singleton.mp hw, ← e]; exact hy)⟩
    · rw [List.take_add_one, eu, List.mem_append, ← hm t]
      split
      · rename_i h
        refine ⟨.inl, fun h2 => ?_⟩
        rcases h2 with h2 | h2
        · exact h2
        · have : t = u := by simpa using h2
          rw [this]; exact h
      · rw [List.mem_append]; simp
  · obtain ⟨c6, ks, rfl, nd, hm, hsp, k3⟩ := h
    rw [List.length_map, List.take_length] at hm
    have k13 := k12.trans k3
    have ksl : ks.length ≤ 2 := by
      have := List.Nodup.length_le_of_subset nd (l₂ := pre ++ bs) fun x hx => (hm x).mp hx
      rw [List.length_append] at this
      omega
    have len8 : ∀ u ∈ pre ++ bs, u.length ≤ 1000 := fun u hu => by
      rcases List.mem_append.mp hu with h | h
      · obtain ⟨x, hx, rfl⟩ := List.mem_map.mp (hpre u h)
        exact Nat.le_trans (name_len (good_name (hf.1 x hx))) (by decide)
      · have : ∀ z ∈ badL, z.length ≤ 1000 := by decide +kernel
        exact this u (hbad u h)
    obtain ⟨zm, hzm, hmin⟩ := min_ex hbs
    have e1 : ∀ ks : List Str, (ks.map fun z => (z, ff)).map (·.1) = ks := fun ks => by rw [List.map_map]; exact List.map_id _
    try simp (maxSteps := 1000000) only [tSeq, tIfS, tTest, tOp, tUn, tCB, tCons, tNil, tVar, tC, rI0, rI, rU, rEq, rNe, tRet, tRetN, tAsg, gName, gSub, tBM, tBM0, tNext, tB, tNot, tAnd, tOr, tIf, tCall, tDrop, tBreak, tCont, L2.start, tDGet, sDPut, tTup, tLst, tDNewK, tRevL, rCat, rAppend, rPop, rSetL, tAndV, tOrV, tNotV, tSl, tPart, tNoPart, tM1, gTup, gCons, gNil, cxK, cxnK, List.map_cons, List.map_nil, List.length_cons, List.length_nil, List.replicate, List.cons_append, List.nil_append, List.append_nil, List.set_cons_zero, List.set_cons_succ, List.getElem?_cons_zero, List.getElem?_cons_succ, Option.some.injEq, V.ref.injEq, V.int.injEq, V.str.injEq, V.bl.injEq, V.ty.injEq, exists_eq_left', exists_eq_left, exists_and_left, List.cons.injEq, and_true, true_and, sc_ii, sc_ss, sc_bb, sc_ni, sc_in, sc_is, sc_si, sc_nn, decide_true, decide_false, reduceCtorEq, Bool.false_eq_true, if_true, if_false, ite_true, ite_false, exists_const, eq_self, false_and, and_false, or_false, false_or, exists_false, Evl.rLenS, rSum, wipe, tYes, exists_eq, exists_eq', rIxL, rIxT, rIxS, exists_and_right, gt_iff_lt, not_true_eq_false, not_false_eq_true, Bool.not_true, Bool.not_false, decide_eq_true_eq, Nat.reduceSub, Nat.reduceAdd, List.append_assoc, tChain, tDIn, tDNotIn, sDDel, tAug, ipI]
    refine ⟨lk, sp, ff, ks.map fun z => (z, ff), .list [.str "fence", .str zm], rfl, hk.kp k13, dkL_tab hsp (hk.kp k13), by rw [e1]; exact nd, by rw [List.length_map]; omega, fun x hx => by
      obtain ⟨u, hu, rfl⟩ := List.mem_map.mp hx
      exact len8 u ((hm u).mp hu), .inr (.inr ⟨by rw [List.length_map]; exact ksl, zm, rfl, nb zm hzm, by rw [e1]; exact (hm zm).mpr (List.mem_append_right _ hzm), fun y hy by_ => by
        rw [e1] at hy
        rcases List.mem_append.mp ((hm y).mp hy) with h | h
        · obtain ⟨x, hx, rfl⟩ := List.mem_map.mp (hpre y h)
          rw [hf.1 x hx] at by_; cases by_
        · exact hmin y h⟩), fun l1 H4 hl1 k4 => ?_⟩
    have k14 := k13.trans k4
    have hbl4 : H4 bl = some (.lst ((pre ++ bs).map V.str)) := (k3.trans k4) _ _ not0 hbl
    have hsp4 : H4 sp = some (.dK (DkL lk ks)) := k4 _ _ not0 hsp
    obtain ⟨kv4, htd4, htk4, hte4⟩ := ht.kp k14
    try simp (maxSteps := 1000000) only [tSeq, tIfS, tTest, tOp, tUn, tCB, tCons, tNil, tVar, tC, rI0, rI, rU, rEq, rNe, tRet, tRetN, tAsg, gName, gSub, tBM, tBM0, tNext, tB, tNot, tAnd, tOr, tIf, tCall, tDrop, tBreak, tCont, L2.start, tDGet, sDPut, tTup, tLst, tDNewK, tRevL, rCat, rAppend, rPop, rSetL, tAndV, tOrV, tNotV, tSl, tPart, tNoPart, tM1, gTup, gCons, gNil, cxK, cxnK, List.map_cons, List.map_nil, List.length_cons, List.length_nil, List.replicate, List.cons_append, List.nil_append, List.append_nil, List.set_cons_zero, List.set_cons_succ, List.getElem?_cons_zero, List.getElem?_cons_succ, Option.some.injEq, V.ref.injEq, V.int.injEq, V.str.injEq, V.bl.injEq, V.ty.injEq, exists_eq_left', exists_eq_left, exists_and_left, List.cons.injEq, and_true, true_and, sc_ii, sc_ss, sc_bb, sc_ni, sc_in, sc_is, sc_si, sc_nn, decide_true, decide_false, reduceCtorEq, Bool.false_eq_true, if_true, if_false, ite_true, ite_false, exists_const, eq_self, false_and, and_false, or_false, false_or, exists_false, Evl.rLenS, rSum, wipe, tYes, exists_eq, exists_eq', rIxL, rIxT, rIxS, exists_and_right, gt_iff_lt, not_true_eq_false, not_false_eq_true, Bool.not_true, Bool.not_false, decide_eq_true_eq, Nat.reduceSub, Nat.reduceAdd, List.append_assoc, tChain, tDIn, tDNotIn, sDDel, tAug, ipI]
    refine ⟨.ref bl, rfl, bl, rfl, ⟨_, sq_l hbl4⟩, fun D nD => lc_list (K := K) (a := bl) (xs := (pre ++ bs).map V.str) (fun i H' => H' D = some (.lst ((((pre ++ bs).take i).filter fun u => decide (u ∉ fs.map (·.1))).map V.str)) ∧ Kp [] H4 H') ⟨upd_same, Kp.new nD⟩ (fun i H' _ h => h.2.ls not0 (sq_l hbl4)) (fun j v H5 hv h => ?_) fun H5 h => ?_⟩
    · obtain ⟨hD, k5⟩ := h
      rw [List.getElem?_map] at hv
      obtain ⟨u, eu, rfl⟩ : ∃ u, (pre ++ bs)[j]? = some u ∧ V.str u = v := by
        cases e : (pre ++ bs)[j]? with
        | none => rw [e] at hv; cases hv
        | some u => rw [e] at hv; exact ⟨u, rfl, Option.some.inj hv⟩
      have jl : j < (pre ++ bs).length := (List.getElem?_eq_some_iff.mp eu).1
      rw [List.length_append] at jl
      have dec : (valV kv4 (Sum.inr u)).isSome = decide (u ∈ fs.map (·.1)) := by
        by_cases h : u ∈ fs.map (·.1)
        · obtain ⟨⟨n1, g⟩, hx, e⟩ := List.mem_map.mp h
          have e : n1 = u := e
          subst e
          obtain ⟨i2, ei⟩ := List.getElem?_of_mem hx
          obtain ⟨l, e2, _⟩ := hte4 i2 n1 g ei
          rw [valV_mem (nodupK htk4 hf.2.1) (List.mem_of_getElem? e2), decide_eq_true h]; rfl
        · rw [decide_eq_false h, valV_fresh]
          · rfl
          · rw [htk4]
            intro hm2
            obtain ⟨x, hx, e⟩ := List.mem_map.mp hm2
            exact h (by rw [← Sum.inr.inj e]; exact List.mem_map_of_mem hx)
      try simp (maxSteps := 1000000) only [tSeq, tIfS, tTest, tOp, tUn, tCB, tCons, tNil, tVar, tC, rI0, rI, rU, rEq, rNe, tRet, tRetN, tAsg, gName, gSub, tBM, tBM0, tNext, tB, tNot, tAnd, tOr, tIf, tCall, tDrop, tBreak, tCont, L2.start, tDGet, sDPut, tTup, tLst, tDNewK, tRevL, rCat, rAppend, rPop, rSetL, tAndV, tOrV, tNotV, tSl, tPart, tNoPart, tM1, gTup, gCons, gNil, cxK, cxnK, List.map_cons, List.map_nil, List.length_cons, List.length_nil, List.replicate, List.cons_append, List.nil_append, List.append_nil, List.set_cons_zero, List.set_cons_succ, List.getElem?_cons_zero, List.getElem?_cons_succ, Option.some.injEq, V.ref.injEq, V.int.injEq, V.str.injEq, V.bl.injEq, V.ty.injEq, exists_eq_left', exists_eq_left, exists_and_left, List.cons.injEq, and_true, true_and, sc_ii, sc_ss, sc_bb, sc_ni, sc_in, sc_is, sc_si, sc_nn, decide_true, decide_false, reduceCtorEq, Bool.false_eq_true, if_true, if_false, ite_true, ite_false, exists_const, eq_self, false_and, and_false, or_false, false_or, exists_false, Evl.rLenS, rSum, wipe, tYes, exists_eq, exists_eq', rIxL, rIxT, rIxS, exists_and_right, gt_iff_lt, not_true_eq_false, not_false_eq_true, Bool.not_true, Bool.not_false, decide_eq_true_eq, Nat.reduceSub, Nat.reduceAdd, List.append_assoc, tChain, tDIn, tDNotIn, sDDel, tAug, ipI]
      refine ⟨_, .inl ⟨kv4, .inr u, .inl (k5 _ _ not0 htd4), rfl, rfl⟩, ?_⟩
      rw [dec]
      have ft : ((pre ++ bs).take (j + 1)).filter (fun u => decide (u ∉ fs.map (·.1))) = ((pre ++ bs).take j).filter (fun u => decide (u ∉ fs.map (·.1))) ++ (if u ∉ fs.map (·.1) then [u] else []) := by
        rw [List.take_add_one, eu, List.filter_append]
        congr 1
        show List.filter _ [u] = _
        by_cases h : u ∉ fs.map (·.1)
        · rw [if_pos h, List.filter_cons_of_pos (by simpa using h)]; rfl
        · rw [if_neg h, List.filter_cons_of_neg (by simpa using h)]; rfl
      by_cases h : u ∈ fs.map (·.1)
      · rw [decide_eq_true h]
        try simp (maxSteps := 1000000) only [tSeq, tIfS, tTest, tOp, tUn, tCB, tCons, tNil, tVar, tC, rI0, rI, rU, rEq, rNe, tRet, tRetN, tAsg, gName, gSub, tBM, tBM0, tNext, tB, tNot, tAnd, tOr, tIf, tCall, tDrop, tBreak, tCont, L2.start, tDGet, sDPut, tTup, tLst, tDNewK, tRevL, rCat, rAppend, rPop, rSetL, tAndV, tOrV, tNotV, tSl, tPart, tNoPart, tM1, gTup, gCons, gNil, cxK, cxnK, List.map_cons, List.map_nil, List.length_cons, List.length_nil, List.replicate, List.cons_append, List.nil_append, List.append_nil, List.set_cons_zero, List.set_cons_succ, List.getElem?_cons_zero, List.getElem?_cons_succ, Option.some.injEq, V.ref.injEq, V.int.injEq, V.str.injEq, V.bl.injEq, V.ty.injEq, exists_eq_left', exists_eq_left, exists_and_left, List.cons.injEq, and_true, true_and, sc_ii, sc_ss, sc_bb, sc_ni, sc_in, sc_is, sc_si, sc_nn, decide_true, decide_false, reduceCtorEq, Bool.false_eq_true, if_true, if_false, ite_true, ite_false, exists_const, eq_self, false_and, and_false, or_false, false_or, exists_false, Evl.rLenS, rSum, wipe, tYes, exists_eq, exists_eq', rIxL, rIxT, rIxS, exists_and_right, gt_iff_lt, not_true_eq_false, not_false_eq_true, Bool.not_true, Bool.not_false, decide_eq_true_eq, Nat.reduceSub, Nat.reduceAdd, List.append_assoc, tChain, tDIn, tDNotIn, sDDel, tAug, ipI]
        refine ⟨?_, k5⟩
        rw [ft, if_neg (fun z => z h), List.append_nil]
        exact hD
      · rw [decide_eq_false h]
        try simp (maxSteps := 1000000) only [tSeq, tIfS, tTest, tOp, tUn, tCB, tCons, tNil, tVar, tC, rI0, rI, rU, rEq, rNe, tRet, tRetN, tAsg, gName, gSub, tBM, tBM0, tNext, tB, tNot, tAnd, tOr, tIf, tCall, tDrop, tBreak, tCont, L2.start, tDGet, sDPut, tTup, tLst, tDNewK, tRevL, rCat, rAppend, rPop, rSetL, tAndV, tOrV, tNotV, tSl, tPart, tNoPart, tM1, gTup, gCons, gNil, cxK, cxnK, List.map_cons, List.map_nil, List.length_cons, List.length_nil, List.replicate, List.cons_append, List.nil_append, List.append_nil, List.set_cons_zero, List.set_cons_succ, List.getElem?_cons_zero, List.getElem?_cons_succ, Option.some.injEq, V.ref.injEq, V.int.injEq, V.str.injEq, V.bl.injEq, V.ty.injEq, exists_eq_left', exists_eq_left, exists_and_left, List.cons.injEq, and_true, true_and, sc_ii, sc_ss, sc_bb, sc_ni, sc_in, sc_is, sc_si, sc_nn, decide_true, decide_false, reduceCtorEq, Bool.false_eq_true, if_true, if_false, ite_true, ite_false, exists_const, eq_self, false_and, and_false, or_false, false_or, exists_false, Evl.rLenS, rSum, wipe, tYes, exists_eq, exists_eq', rIxL, rIxT, rIxS, exists_and_right, gt_iff_lt, not_true_eq_false, not_false_eq_true, Bool.not_true, Bool.not_false, decide_eq_true_eq, Nat.reduceSub, Nat.reduceAdd, List.append_assoc, tChain, tDIn, tDNotIn, sDDel, tAug, ipI]
        refine ⟨_, hD, ?_, ?_, k5.wr nD⟩
        · rw [List.length_map]
          have := List.length_filter_le (fun u => decide (u ∉ fs.map (·.1))) ((pre ++ bs).take j)
          rw [List.length_take, List.length_append] at this
          exact smallL (by omega)
        · rw [upd_same, ft, if_pos h, List.map_append]; rfl
    · obtain ⟨hD, k5⟩ := h
      rw [List.length_map, List.take_length] at hD
      have ef : (pre ++ bs).filter (fun u => decide (u ∉ fs.map (·.1))) = bs := by
        rw [List.filter_append, List.filter_eq_nil_iff.mpr (fun u hu => by simpa using hpre u hu), List.nil_append, List.filter_eq_self]
        intro u hu
        exact decide_eq_true (nbT u hu)
      rw [ef] at hD
      have k15 := k14.trans k5
      refine ⟨D, bs, rfl, sq_l hD, by omega, fun ys yl perm srt nyl => ?_⟩
      have k6 : Kp [] H5 (upd H5 yl (.lst (ys.map V.str))) := Kp.new nyl
      obtain ⟨y0, yr, rfl⟩ : ∃ a r, ys = a :: r := by
        cases ys with
        | nil => exact absurd (List.Perm.nil_eq perm) (fun z => hbs z.symm)
        | cons a r => exact ⟨a, r, rfl⟩
      have e0 : y0 = zm := by
        have m0 := perm.mem_iff.mp (List.mem_cons_self (a := y0) (l := yr))
        have h1 := hmin y0 m0
        rcases List.mem_cons.mp (perm.mem_iff.mpr hzm) with h | h
        · exact h.symm
        · exact str_ext (List.le_antisymm (List.rel_of_pairwise_cons (sortedS_pw srt) h) h1)
      subst e0
      try simp (maxSteps := 1000000) only [tSeq, tIfS, tTest, tOp, tUn, tCB, tCons, tNil, tVar, tC, rI0, rI, rU, rEq, rNe, tRet, tRetN, tAsg, gName, gSub, tBM, tBM0, tNext, tB, tNot, tAnd, tOr, tIf, tCall, tDrop, tBreak, tCont, L2.start, tDGet, sDPut, tTup, tLst, tDNewK, tRevL, rCat, rAppend, rPop, rSetL, tAndV, tOrV, tNotV, tSl, tPart, tNoPart, tM1, gTup, gCons, gNil, cxK, cxnK, List.map_cons, List.map_nil, List.length_cons, List.length_nil, List.replicate, List.cons_append, List.nil_append, List.append_nil, List.set_cons_zero, List.set_cons_succ, List.getElem?_cons_zero, List.getElem?_cons_succ, Option.some.injEq, V.ref.injEq, V.int.injEq, V.str.injEq, V.bl.injEq, V.ty.injEq, exists_eq_left', exists_eq_left, exists_and_left, List.cons.injEq, and_true, true_and, sc_ii, sc_ss, sc_bb, sc_ni, sc_in, sc_is, sc_si, sc_nn, decide_true, decide_false, reduceCtorEq, Bool.false_eq_true, if_true, if_false, ite_true, ite_false, exists_const, eq_self, false_and, and_false, or_false, false_or, exists_false, Evl.rLenS, rSum, wipe, tYes, exists_eq, exists_eq', rIxL, rIxT, rIxS, exists_and_right, gt_iff_lt, not_true_eq_false, not_false_eq_true, Bool.not_true, Bool.not_false, decide_eq_true_eq, Nat.reduceSub, Nat.reduceAdd, List.append_assoc, tChain, tDIn, tDNotIn, sDDel, tAug, ipI]
      refine ⟨_, sq_l upd_same, _, atI_nat (show ((y0 :: yr).map V.str)[0]? = some (V.str y0) from rfl), small (by decide), fun p6 np6 => ?_⟩
      have k7 : Kp [] (upd H5 yl (.lst (V.str y0 :: yr.map V.str))) (upd (upd H5 yl (.lst (V.str y0 :: yr.map V.str))) p6 (.lst [.str "fence", .str y0])) := Kp.new np6
      have hp6 : (upd (upd H5 yl (.lst (V.str y0 :: yr.map V.str))) p6 (.lst [.str "fence", .str y0])) p6 = some (.lst [.str "fence", .str y0]) := upd_same
      generalize (upd (upd H5 yl (.lst (V.str y0 :: yr.map V.str))) p6 (.lst [.str "fence", .str y0])) = H6 at k7 hp6 ⊢
      have k46 := (k5.trans k6).trans k7
      have k16 := k14.trans k46
      have fitZ : Fit (.str y0) := by
        have : ∀ z ∈ badL, SeqAt.shaped (.str z) = true := by decide +kernel
        exact ⟨this y0 (hbad y0 hzm), by show 0 ≤ 60; decide⟩
      have shz : SeqAt.shaped (.list [.str "fence", .str y0]) = true := (shapedL (ds := [.str "fence", .str y0]) fun d hd => by
        have : d = .str "fence" ∨ d = .str y0 := by simpa using hd
        rcases this with rfl | rfl
        · exact ⟨by decide +kernel, by show 0 ≤ 60; decide⟩
        · exact fitZ).1
      refine ⟨_, _, dpN k46 noSq0 hl1, .lst (sq_l hp6) (.cons (.str _) (.cons (.str _) .nil)), shz, shz, ?_⟩
      rw [SeqAt.eqv_refl _ (SeqAt.canLay_of_shaped shz)]
      have hsp6 : H6 sp = some (.dK (DkL lk ks)) := k46 _ _ not0 hsp4
      try simp (maxSteps := 1000000) only [tSeq, tIfS, tTest, tOp, tUn, tCB, tCons, tNil, tVar, tC, rI0, rI, rU, rEq, rNe, tRet, tRetN, tAsg, gName, gSub, tBM, tBM0, tNext, tB, tNot, tAnd, tOr, tIf, tCall, tDrop, tBreak, tCont, L2.start, tDGet, sDPut, tTup, tLst, tDNewK, tRevL, rCat, rAppend, rPop, rSetL, tAndV, tOrV, tNotV, tSl, tPart, tNoPart, tM1, gTup, gCons, gNil, cxK, cxnK, List.map_cons, List.map_nil, List.length_cons, List.length_nil, List.replicate, List.cons_append, List.nil_append, List.append_nil, List.set_cons_zero, List.set_cons_succ, List.getElem?_cons_zero, List.getElem?_cons_succ, Option.some.injEq, V.ref.injEq, V.int.injEq, V.str.injEq, V.bl.injEq, V.ty.injEq, exists_eq_left', exists_eq_left, exists_and_left, List.cons.injEq, and_true, true_and, sc_ii, sc_ss, sc_bb, sc_ni, sc_in, sc_is, sc_si, sc_nn, decide_true, decide_false, reduceCtorEq, Bool.false_eq_true, if_true, if_false, ite_true, ite_false, exists_const, eq_self, false_and, and_false, or_false, false_or, exists_false, Evl.rLenS, rSum, wipe, tYes, exists_eq, exists_eq', rIxL, rIxT, rIxS, exists_and_right, gt_iff_lt, not_true_eq_false, not_false_eq_true, Bool.not_true, Bool.not_false, decide_eq_true_eq, Nat.reduceSub, Nat.reduceAdd, List.append_assoc, tChain, tDIn, tDNotIn, sDDel, tAug, ipI]
      have dl : ∀ ks : List Str, ks.length ≤ 5 → (DkL lk ks).length < sizeLine := fun ks h => by unfold DkL; rw [List.length_map]; exact smallL (by omega)
      obtain ⟨ks2, e2⟩ : ∃ k2, k2 = if ("fulx" : Str) ∈ ks then ks else ks ++ [("fulx" : Str)] := ⟨_, rfl⟩
      obtain ⟨ks3, e3⟩ : ∃ k2, k2 = if ("fuly" : Str) ∈ ks2 then ks2 else ks2 ++ [("fuly" : Str)] := ⟨_, rfl⟩
      have nd2 : ∀ {l : List Str} {u : Str}, l.Nodup → (if u ∈ l then l else l ++ [u]).Nodup := fun {l u} nd => by
        split
        · exact nd
        · rename_i h
          rw [List.nodup_append]
          exact ⟨nd, by simp, fun y hy w hw e => h (by rw [← List.mem_singleton.mp hw, ← e]; exact hy)⟩
      have mem2 : ∀ {l : List Str} {u t : Str}, (t ∈ (if u ∈ l then l else l ++ [u])) ↔ t ∈ l ∨ t = u := fun {l u t} => by
        split
        · rename_i h
          exact ⟨.inl, fun h2 => h2.elim id fun e => by rw [e]; exact h⟩
        · simp
      have len2 : ∀ {l : List Str} {u : Str}, (if u ∈ l then l else l ++ [u]).length ≤ l.length + 1 := fun {l u} => by
        split
        · omega
        · rw [List.length_append]; exact Nat.le_refl _
      have n2 : ks2.Nodup := by rw [e2]; exact nd2 nd
      have n3 : ks3.Nodup := by rw [e3]; exact nd2 n2
      have l2 : ks2.length ≤ 3 := by rw [e2]; exact Nat.le_trans len2 (by omega)
      have l3 : ks3.length ≤ 4 := by rw [e3]; exact Nat.le_trans len2 (by omega)
      have m3 : ∀ t, t ∈ ks3 ↔ (t ∈ ks ∨ t = "fulx") ∨ t = "fuly" := fun t => by rw [e3, mem2, e2, mem2]
      have big : 2 < ks3.length := by
        have nb1 : y0 ≠ "fulx" ∧ y0 ≠ "fuly" := by
          have : ∀ z ∈ badL, z ≠ "fulx" ∧ z ≠ "fuly" := by decide +kernel
          exact this y0 (hbad y0 hzm)
        have := List.Nodup.length_le_of_subset (l₁ := [y0, "fulx", "fuly"]) (l₂ := ks3) (by
          have h0 : ("fulx" : Str) ≠ "fuly" := by decide +kernel
          simp [nb1.1, nb1.2, h0]) (fun t ht => by
          rw [m3]
          rcases List.mem_cons.mp ht with rfl | ht
          · exact .inl (.inl ((hm _).mpr (List.mem_append_right _ hzm)))
          · rcases List.mem_cons.mp ht with rfl | ht
            · exact .inl (.inr rfl)
            · exact .inr (List.mem_singleton.mp ht))
        exact this
      refine ⟨_, .inl ⟨_, .inr "fulx", hsp6, rfl, dl ks (by omega), rfl⟩, _, .inl ⟨DkL lk ks2, .inr "fuly", by rw [upd_same, dkL_put nd, e2], rfl, dl ks2 (by omega), rfl⟩, ?_⟩
      rw [dkL_put n2, ← e3]
      have nsp6 : H9 sp = none := k12.free0 nsp
      have k17 : Kp [] H9 (upd (upd H6 sp (.dK (putK (DkL lk ks) (.inr "fulx") (.ref lk)))) sp (.dK (DkL lk ks3))) := (k16.wr nsp6).wr nsp6
      have hsp7 : (upd (upd H6 sp (.dK (putK (DkL lk ks) (.inr "fulx") (.ref lk)))) sp (.dK (DkL lk ks3))) sp = some (.dK (DkL lk ks3)) := upd_same
      generalize (upd (upd H6 sp (.dK (putK (DkL lk ks) (.inr "fulx") (.ref lk)))) sp (.dK (DkL lk ks3))) = H7 at k17 hsp7 ⊢
      refine ⟨lk, sp, ff, ks3.map fun z => (z, ff), .list [.str "large", .int 2], rfl, hk.kp k17, dkL_tab hsp7 (hk.kp k17), by rw [e1]; exact n3, by rw [List.length_map]; omega, fun x hx => by
        obtain ⟨u, hu, rfl⟩ := List.mem_map.mp hx
        rcases (m3 u).mp hu with (h | h) | h
        · exact len8 u ((hm u).mp h)
        · rw [h]; show ("fulx" : Str).length ≤ 1000; decide +kernel
        · rw [h]; show ("fuly" : Str).length ≤ 1000; decide +kernel, .inl ⟨by rw [List.length_map]; exact big, rfl⟩, fun l8 H8 hl8 k8 => ⟨small (by decide), fun p8 np8 => ?_⟩⟩
      have kp8 : Kp [] H8 (upd H8 p8 (.lst [.str "large", .int 2])) := Kp.new np8
      refine ⟨_, _, dpN kp8 noSq0 hl8, .lst (sq_l upd_same) (.cons (.str _) (.cons (.int _) .nil)), by decide +kernel, by decide +kernel, ?_⟩
      have eL : PyData.eqv (.list [.str "large", .int 2]) (.list [.str "large", .int 2]) = true := by decide +kernel
      rw [eL]
      try simp (maxSteps := 1000000) only [tSeq, tIfS, tTest, tOp, tUn, tCB, tCons, tNil, tVar, tC, rI0, rI, rU, rEq, rNe, tRet, tRetN, tAsg, gName, gSub, tBM, tBM0, tNext, tB, tNot, tAnd, tOr, tIf, tCall, tDrop, tBreak, tCont, L2.start, tDGet, sDPut, tTup, tLst, tDNewK, tRevL, rCat, rAppend, rPop, rSetL, tAndV, tOrV, tNotV, tSl, tPart, tNoPart, tM1, gTup, gCons, gNil, cxK, cxnK, List.map_cons, List.map_nil, List.length_cons, List.length_nil, List.replicate, List.cons_append, List.nil_append, List.append_nil, List.set_cons_zero, List.set_cons_succ, List.getElem?_cons_zero, List.getElem?_cons_succ, Option.some.injEq, V.ref.injEq, V.int.injEq, V.str.injEq, V.bl.injEq, V.ty.injEq, exists_eq_left', exists_eq_left, exists_and_left, List.cons.injEq, and_true, true_and, sc_ii, sc_ss, sc_bb, sc_ni, sc_in, sc_is, sc_si, sc_nn, decide_true, decide_false, reduceCtorEq, Bool.false_eq_true, if_true, if_false, ite_true, ite_false, exists_const, eq_self, false_and, and_false, or_false, false_or, exists_false, Evl.rLenS, rSum, wipe, tYes, exists_eq, exists_eq', rIxL, rIxT, rIxS, exists_and_right, gt_iff_lt, not_true_eq_false, not_false_eq_true, Bool.not_true, Bool.not_false, decide_eq_true_eq, Nat.reduceSub, Nat.reduceAdd, List.append_assoc, tChain, tDIn, tDNotIn, sDDel, tAug, ipI]
      have k18 := (k17.trans k8).trans kp8
      generalize (upd H8 p8 (.lst [.str "large", .int 2])) = HA at k18 ⊢
      try simp (maxSteps := 1000000) only [tSeq, tIfS, tTest, tOp, tUn, tCB, tCons, tNil, tVar, tC, rI0, rI, rU, rEq, rNe, tRet, tRetN, tAsg, gName, gSub, tBM, tBM0, tNext, tB, tNot, tAnd, tOr, tIf, tCall, tDrop, tBreak, tCont, L2.start, tDGet, sDPut, tTup, tLst, tDNewK, tRevL, rCat, rAppend, rPop, rSetL, tAndV, tOrV, tNotV, tSl, tPart, tNoPart, tM1, gTup, gCons, gNil, cxK, cxnK, List.map_cons, List.map_nil, List.length_cons, List.length_nil, List.replicate, List.cons_append, List.nil_append, List.append_nil, List.set_cons_zero, List.set_cons_succ, List.getElem?_cons_zero, List.getElem?_cons_succ, Option.some.injEq, V.ref.injEq, V.int.injEq, V.str.injEq, V.bl.injEq, V.ty.injEq, exists_eq_left', exists_eq_left, exists_and_left, List.cons.injEq, and_true, true_and, sc_ii, sc_ss, sc_bb, sc_ni, sc_in, sc_is, sc_si, sc_nn, decide_true, decide_false, reduceCtorEq, Bool.false_eq_true, if_true, if_false, ite_true, ite_false, exists_const, eq_self, false_and, and_false, or_false, false_or, exists_false, Evl.rLenS, rSum, wipe, tYes, exists_eq, exists_eq', rIxL, rIxT, rIxS, exists_and_right, gt_iff_lt, not_true_eq_false, not_false_eq_true, Bool.not_true, Bool.not_false, decide_eq_true_eq, Nat.reduceSub, Nat.reduceAdd, List.append_assoc, tChain, tDIn, tDNotIn, sDDel, tAug, ipI, tDisp, tPairs, mergeK]
      refine fun p9 np9 => ⟨upd_same, DkL lk ["fulx", "reads"], rfl, by show (2 : Nat) ≤ 15; decide, ?_⟩
      have n9d : (["fulx", "reads"] : List Str).Nodup := by decide +kernel
      have e9 : List.foldl (fun acc kv => putK acc kv.1 kv.2) [] (DkL lk ["fulx", "reads"]) = DkL lk ["fulx", "reads"] := by
        have a1 : putK (DkL lk []) (Sum.inr ("fulx" : Str) : Key) (V.ref lk) = DkL lk ["fulx"] := by rw [dkL_put List.nodup_nil]; rfl
        have a2 : putK (DkL lk ["fulx"]) (Sum.inr ("reads" : Str) : Key) (V.ref lk) = DkL lk ["fulx", "reads"] := by rw [dkL_put (by decide +kernel), if_neg (by decide +kernel)]; rfl
        exact (congrArg (fun z : List (Key × V) => putK z (Sum.inr ("reads" : Str) : Key) (V.ref lk)) a1).trans a2
      rw [e9]
      have kp9 : Kp [] HA (upd (upd HA p9 (.dK [])) p9 (.dK (DkL lk ["fulx", "reads"]))) := (Kp.new np9).wr np9
      have hp9 : (upd (upd HA p9 (.dK [])) p9 (.dK (DkL lk ["fulx", "reads"]))) p9 = some (.dK (DkL lk ["fulx", "reads"])) := upd_same
      generalize (upd (upd HA p9 (.dK [])) p9 (.dK (DkL lk ["fulx", "reads"]))) = HB at kp9 hp9 ⊢
      have k19 := k18.trans kp9
      have good2 : ∀ u ∈ (["fulx", "reads"] : List Str), goodF u = true ∧ u.length ≤ 1000 := by decide +kernel
      refine ⟨lk, p9, ff, (["fulx", "reads"] : List Str).map fun z => (z, ff), .list [], rfl, hk.kp k19, dkL_tab hp9 (hk.kp k19), by rw [e1]; exact n9d, by show (2 : Nat) ≤ 50; decide, fun x hx => by
        obtain ⟨u, hu, rfl⟩ := List.mem_map.mp hx
        exact (good2 u hu).2, .inr (.inl ⟨by show (2 : Nat) ≤ 2; decide, fun x hx => by
        obtain ⟨u, hu, rfl⟩ := List.mem_map.mp hx
        exact (good2 u hu).1, rfl⟩), fun lC HC hlC kC => ⟨small (by decide), fun pC npC => ?_⟩⟩
      refine ⟨_, _, dpN (Kp.new npC) noSq0 hlC, .lst (sq_l upd_same) .nil, by decide +kernel, by decide +kernel, ?_⟩
      have e0 : PyData.eqv (.list []) (.list []) = true := by decide +kernel
      rw [e0]
      exact q _
end
end My

set_option Elab.async false
set_option linter.all false
set_option maxRecDepth 100000
set_option maxHeartbeats 4000000
namespace My
open PySem L2 NdefX
section
variable {P : Program} {w : World} {K : PySem.W.Frag} {mg : Str → Option Value} {base : Heap} {BK PC NF BP TL BF fI fJ : Addr}
def S9 (K : PySem.W.Frag) (BK PC : Addr) (σ : L2.St) (H : Hp) : Prop := ∃ (a rl lk dt hd he o : Addr) (c e : Option V) (ns : List Int) (f : Pr → Bool) (fs : Fnc) (kvh : List (Key × V)), σ = [some (.ref a), some (.ref rl), c, some (.ref lk), some (.ref dt), some (.ref hd), e, some (.ref he), some (.ref o), none, none, none] ∧ SqL K H rl (ns.map V.int) ∧ (ns.length = 10 ∧ ∀ n ∈ ns, (0 : Int) ≤ n) ∧ SelAt K H lk f ∧ TabL K H dt fs ∧ Fs fs ∧ H hd = some (.dK kvh) ∧ Fen K PC H kvh fs ∧ PrAt K PC H he f ∧ BookAt K BK PC H o f (full fs) ∧ dt ≠ hd
structure BtL9 (K : PySem.W.Frag) (mg : Str → Option Value) (PC fI fT fL : Addr) : Prop extends BtLw mg where
  k_Pairs : mg "Pairs" = some (.ref PC)
  M_Pairs : Mk K PC fI
  LN_Pairs : LenC K PC fL
  IT_Pairs : IterC K PC fT fL
theorem BookAt.over {H H' : Hp} {o dt : Addr} {f : Pr → Bool} {fs : Fnc} {kvt : List (Key × V)} (h : BookAt K BK PC H o f (full fs)) (hd : H dt = some (.dK kvt)) (hl : kvt.length = fs.length) (k : Kp [dt] H H') : BookAt K BK PC H' o f (full fs) := by
  refine h.kpN k (noSqD hd) (fun a ha C dx fl e => ?_) fun dx ko d e hm => ?_
  · rw [List.mem_singleton.mp ha, hd] at e; cases e
  · obtain ⟨dx', ko', d', kvs, a, b, c, e', r⟩ := h
    rw [a] at e
    cases e
    rw [List.mem_singleton.mp hm, hd] at c
    have c : kvt = kvs := HO.dK.inj (Option.some.inj c)
    have kl := keysLen e'.1
    rw [c, kl] at hl
    unfold full at hl
    rw [List.length_append] at hl
    have : fs.length + 1 = fs.length := hl
    omega
theorem TabL.over {H H' : Hp} {d dt : Addr} {fs : Fnc} {kvt : List (Key × V)} (h : TabL K H d fs) (hd : H dt = some (.dK kvt)) (k : Kp [dt] H H') (ne : d ≠ dt) : TabL K H' d fs := by
  obtain ⟨kvs, a, b, c⟩ := h
  exact ⟨kvs, k _ _ (by simpa using ne) a, b, fun i n g e => by
    obtain ⟨l, e1, e2⟩ := c i n g e
    exact ⟨l, e1, e2.kpN k (noSqD hd)⟩⟩
theorem make_pr0 {de : Addr} {H : Hp} {σ : L2.St} {Q : VK} (hde : ∀ H, SqT K H de []) (q : ∀ o H', H o = none → PrAt K PC H' o (fun _ => false) → Kp [] H H' → Q (.ref o) H') : tMake PC (spPI K PC BP) [.ref de] E0 tNil σ H Q :=
  pr_makeL (PC := PC) (BP := BP) (D := de) (ws := []) (ds := []) (.inr (hde _)) .nil (fun _ h => nomatch h) (by decide) (fun _ h => nomatch h) fun o l H' no nl hp hk => q o H' no (hp.at.same fun _ _ => rfl) hk
theorem law_t9 {f : Addr} {cdv : Value} {A : Around} {outer : List Env} {s : Shared} {H : Hp} {Q : VK} {E : XK} (hr : Room 7 (A.deeper (PyProof.Rows.envOfC "law" (defScope s_law) s.heap.objs.size f cdv))) {fT fL : Addr} {fdT fdL fdI : FuncData} {de : Addr} {dsD : List Value} (hde : ∀ H, SqT K H de []) (T : BtL9 K mg PC fI fT fL) (C : PrC K mg PC)
    (bI_Pairs : Binds K fdI ["self", "pairs"] []) (hd_Pairs : Vals [.ref de] dsD) (bD_Pairs : Binds K fdI ["self", "pairs"] dsD) (G_Pairs_init : FnOk P w K mg base (L2.CX P w) 3 fI fdI ["self", "pairs"] (spPI K PC BP))
    (b_Pairs_len : Binds K fdL ["self"] []) (G_Pairs_len : FnOk P w K mg base CX0 1 fL fdL ["self"] (spLen K PC))
    (b_Pairs_iter : Binds K fdT ["self"] []) (G_Pairs_iter : FnOk P w K mg base CX0 1 fT fdT ["self"] (spIter PC))
    {fw : Addr} {fdw : FuncData} (D_law_row : Df K mg "_law_row" s_law_row ["_law_number", "_law_names"] fw fdw) (G_law_row : FnOk P w K mg base CX0 1 fw fdw ["_law_number", "_law_names"] (spRowN K))
    {fi : Addr} {fdi : FuncData} (D_law_is_book : Df K mg "_law_is_book" s_law_is_book ["_law_made", "_law_kept", "_law_table", "_law_row_here"] fi fdi) (G_law_is_book : FnOk P w K mg base CX0 6 fi fdi ["_law_made", "_law_kept", "_law_table", "_law_row_here"] (spIsBk K BK PC))
    {fu : Addr} {fdu : FuncData} (D_law_refuses : Df K mg "_law_refuses" s_law_refuses ["_law_made", "_law_kept", "_law_row_here", "_law_number"] fu fdu) (G_law_refuses : FnOk P w K mg base CX0 6 fu fdu ["_law_made", "_law_kept", "_law_row_here", "_law_number"] (spRefu K BK PC))
    {fg : Addr} {fdg : FuncData} (D_law_grown : Df K mg "_law_grown" s_law_grown ["_law_made", "_law_kept", "_law_table", "_law_row_here", "_law_more"] fg fdg) (G_law_grown : FnOk P w K mg base CX0 7 fg fdg ["_law_made", "_law_kept", "_law_table", "_law_row_here", "_law_more"] (spGrown K BK PC))
    {fs : Addr} {fds : FuncData} (D_law_set : Df K mg "_law_set" s_law_set ["_law_number"] fs fds) (G_law_set : FnOk P w K mg base CX0 3 fs fds ["_law_number"] (spSel K))
    {fp : Addr} {fdp : FuncData} (D_law_pairs : Df K mg "_law_pairs" s_law_pairs [] fp fdp) (G_law_pairs : FnOk P w K mg base CX0 1 fp fdp [] (spPairs K)) {t : TS}
    (ht : PSs (cxOf CX0 P w K mg base ["_law_script", "_law_row_here", "_law_k", "_law_kept", "_law_table", "_law_handed", "_law_name_here", "_law_held", "_law_made", "_law_passed", "_law_bad", "_law_spoilt"] "law" (defScope s_law) f cdv A outer s H E).nox ((defBody s_law).drop 16) t) (hq : ∀ σ H9, S16 K σ H9 → t { nx := fun _ H' => Q .non H', rt := Q } σ H9) :
    ∃ t, PSs (cxOf CX0 P w K mg base ["_law_script", "_law_row_here", "_law_k", "_law_kept", "_law_table", "_law_handed", "_law_name_here", "_law_held", "_law_made", "_law_passed", "_law_bad", "_law_spoilt"] "law" (defScope s_law) f cdv A outer s H E).nox ((defBody s_law).drop 9) t ∧ ∀ σ H9, S9 K BK PC σ H9 → t { nx := fun _ H' => Q .non H', rt := Q } σ H9 := by
  have hu := hu_of hr
  have hcalm : True := True.intro
  have LN_Pairs := T.LN_Pairs
  have IT_Pairs := T.IT_Pairs
  have M_Pairs := T.M_Pairs
  refine ⟨_, (pss_cons (ps_set (i := 9) sc_law.nd rfl (Or.inl rfl) (pe_call G_law_row (hr.mono (by decide)) rfl D_law_row.g D_law_row.F.kp D_law_row.b .nil pass0 (pa_cons (pe_ix (r := rIxL K) ix_list (pv 1) pe_int (fun _ _ => rfl)) (pa_cons (pe_callB (id := "sorted") (r := rSortedS K) cr_sortedS (by rfl) T.b_sorted (by decide +kernel) (pa_cons (pe_op op_cat (pe_lst (pa_cons pe_str pa_nil)) (pe_callTy (call_listD rfl) (by rfl) T.b_list (by decide +kernel) (pa_cons (pv 4) pa_nil))) pa_nil)) pa_nil))))
      (pss_cons (ps_if (pt_not (pt_val (pe_call G_law_is_book (hr.mono (by decide)) rfl D_law_is_book.g D_law_is_book.F.kp D_law_is_book.b .nil pass0 (pa_cons (pv 8) (pa_cons (pv 3) (pa_cons (pv 4) (pa_cons (pv 9) pa_nil))))))) (pss_one (ps_ret pe_bl)) pss_nil)
      (pss_cons (ps_if (PW.pt (pw_or (pt_cmpR (op_neD hr.units) (pe_callTy (call_listD rfl) (by rfl) T.b_list (by decide +kernel) (pa_cons (pv 5) pa_nil)) (pe_callTy (call_listD rfl) (by rfl) T.b_list (by decide +kernel) (pa_cons (pv 4) pa_nil)) (nomark _)) (pw_or1 (pt_cmpR (op_neD hr.units) (pe_callTy (T := "list") (call_listO (E := E0) IT_Pairs G_Pairs_iter b_Pairs_iter G_Pairs_len b_Pairs_len (hr.mono (by decide))) (by rfl) T.b_list (by decide +kernel) (pa_cons (pv 7) pa_nil)) (pv 3) (nomark _))))) (pss_one (ps_ret pe_bl)) pss_nil)
      (pss_cons (ps_for PassesOwn.never rfl (pi_list (pe_callTy (call_listD rfl) (by rfl) T.b_list (by decide +kernel) (pa_cons (pv 4) pa_nil))) (pg_name (i := 6) sc_law.nd rfl (Or.inl rfl)) (pss_one (ps_dput hu (pv 5) (pv 6) (pe_make0 M_Pairs G_Pairs_init (hr.mono (by decide)) rfl C.k bD_Pairs hd_Pairs passL) rfl)))
      (pss_cons (ps_dput hu (pv 5) pe_str (pe_make M_Pairs G_Pairs_init (hr.mono (by decide)) rfl C.k bI_Pairs .nil passL (pa_cons (pe_call0 G_law_pairs (hr.mono (by decide)) rfl D_law_pairs.g D_law_pairs.F.kp D_law_pairs.b .nil pass0) pa_nil)) rfl)
      (pss_cons (ps_if (PW.pt (pw_or (pt_not (pt_val (pe_call G_law_refuses (hr.mono (by decide)) rfl D_law_refuses.g D_law_refuses.F.kp D_law_refuses.b .nil pass0 (pa_cons (pv 8) (pa_cons (pv 3) (pa_cons (pv 9) (pa_cons (pe_ix (r := rIxL K) ix_list (pv 1) pe_int (fun _ _ => rfl)) pa_nil))))))) (pw_or1 (pt_not (pt_val (pe_call G_law_grown (hr.mono (by decide)) rfl D_law_grown.g D_law_grown.F.kp D_law_grown.b .nil pass0 (pa_cons (pv 8) (pa_cons (pv 3) (pa_cons (pv 4) (pa_cons (pv 9) (pa_cons (pe_call G_law_set (hr.mono (by decide)) rfl D_law_set.g D_law_set.F.kp D_law_set.b .nil pass0 (pa_cons (pe_ix (r := rIxL K) ix_list (pv 1) pe_int (fun _ _ => rfl)) pa_nil)) pa_nil))))))))))) (pss_one (ps_ret pe_bl)) pss_nil)
      (pss_cons (ps_if (pt_not (pt_val (pe_call G_law_is_book (hr.mono (by decide)) rfl D_law_is_book.g D_law_is_book.F.kp D_law_is_book.b .nil pass0 (pa_cons (pv 8) (pa_cons (pv 3) (pa_cons (pv 4) (pa_cons (pv 9) pa_nil))))))) (pss_one (ps_ret pe_bl)) pss_nil)
      ht))))))), ?_⟩
  rintro σ H9 ⟨a, rl, lk, dt, hd, he, o, c, e, ns, ff, fs, kvh, rfl, hrl, nl, hk, htb, hf, hhd, hF, hhe, hB, dth⟩
  try simp (maxSteps := 1000000) only [tSeq, tIfS, tTest, tOp, tUn, tCB, tCons, tNil, tVar, tC, rI0, rI, rU, rEq, rNe, tRet, tRetN, tAsg, gName, gSub, tBM, tBM0, tNext, tB, tNot, tAnd, tOr, tIf, tCall, tDrop, tBreak, tCont, L2.start, tDGet, sDPut, tTup, tLst, tDNewK, tRevL, rCat, rAppend, rPop, rSetL, tAndV, tOrV, tNotV, tSl, tPart, tNoPart, tM1, gTup, gCons, gNil, cxK, cxnK, List.map_cons, List.map_nil, List.length_cons, List.length_nil, List.replicate, List.cons_append, List.nil_append, List.append_nil, List.set_cons_zero, List.set_cons_succ, List.getElem?_cons_zero, List.getElem?_cons_succ, Option.some.injEq, V.ref.injEq, V.int.injEq, V.str.injEq, V.bl.injEq, V.ty.injEq, exists_eq_left', exists_eq_left, exists_and_left, List.cons.injEq, and_true, true_and, sc_ii, sc_ss, sc_bb, sc_ni, sc_in, sc_is, sc_si, sc_nn, decide_true, decide_false, reduceCtorEq, Bool.false_eq_true, if_true, if_false, ite_true, ite_false, exists_const, eq_self, false_and, and_false, or_false, false_or, exists_false, Evl.rLenS, rSum, wipe, tYes, exists_eq, exists_eq', rIxL, rIxT, rIxS, exists_and_right, gt_iff_lt, not_true_eq_false, not_false_eq_true, Bool.not_true, Bool.not_false, decide_eq_true_eq, Nat.reduceSub, Nat.reduceAdd, List.append_assoc, tChain, tDIn, tDNotIn, sDDel, tAug, ipI]
  obtain ⟨kvt, htd, htk, hte⟩ := id htb
  have keysN : ∀ {kvs : List (Key × V)}, kvs.map (·.1) = fs.map (fun x => (Sum.inr x.1 : Key)) → kvs.map (fun kv => kV kv.1) = (fs.map (·.1)).map V.str := fun {kvs} e => by
    have : kvs.map (fun kv => kV kv.1) = (kvs.map (·.1)).map kV := by rw [List.map_map]; rfl
    rw [this, e, List.map_map, List.map_map]; rfl
  have kn := keysN htk
  have nat : ∀ i : Nat, i < 10 → ∃ n : Int, 0 ≤ n ∧ atI (ns.map V.int) ((i : Nat) : Int) = some (.int n) := fun i hi => by
    have e : ns[i]? = some ns[i] := List.getElem?_eq_getElem (by omega)
    exact ⟨ns[i], nl.2 _ (List.getElem_mem _), atI_nat (by rw [List.getElem?_map, e]; rfl)⟩
  obtain ⟨n6, z6, e6⟩ := nat 6 (by decide)
  refine ⟨_, hrl, _, e6, small (by decide), fun p1 np1 => ?_⟩
  have kp1 : Kp [] H9 (upd H9 p1 (.lst [.str "full"])) := Kp.new np1
  refine ⟨kvt, .inl (kp1 _ _ not0 htd), fun p2 np2 => ?_⟩
  rw [kn]
  have p12 : p1 ≠ p2 := ne_of_none upd_same np2
  refine ⟨_, by rw [upd_ne p12]; exact upd_same, _, upd_same, small (by rw [List.length_map, List.length_map]; have := hf.2.2; show 1 + fs.length ≤ 100000; omega), fun p3 np3 => ?_⟩
  have kp2 := kp1.trans (Kp.new (S := []) (o := .lst ((fs.map (·.1)).map V.str)) np2)
  have kp3 := kp2.trans (Kp.new (S := []) (o := .lst ([V.str "full"] ++ (fs.map (·.1)).map V.str)) np3)
  refine ⟨p3, ("full" : Str) :: fs.map (·.1), rfl, sq_l upd_same, by rw [List.length_cons, List.length_map]; have := hf.2.2; omega, fun ys yl perm srt nyl => ?_⟩
  have kG := kp3.trans (Kp.new (S := []) (o := .lst (ys.map V.str)) nyl)
  have hyl : (upd (upd (upd (upd H9 p1 (.lst [.str "full"])) p2 (.lst ((fs.map (·.1)).map V.str))) p3 (.lst ([V.str "full"] ++ (fs.map (·.1)).map V.str))) yl (.lst (ys.map V.str))) yl = some (.lst (ys.map V.str)) := upd_same
  show spRowN K _ (upd (upd (upd (upd H9 p1 (.lst [.str "full"])) p2 (.lst ((fs.map (·.1)).map V.str))) p3 (.lst ([V.str "full"] ++ (fs.map (·.1)).map V.str))) yl (.lst (ys.map V.str))) _ _
  generalize (upd (upd (upd (upd H9 p1 (.lst [.str "full"])) p2 (.lst ((fs.map (·.1)).map V.str))) p3 (.lst ([V.str "full"] ++ (fs.map (·.1)).map V.str))) yl (.lst (ys.map V.str))) = G at kG hyl ⊢
  have permN : ys.Perm ((full fs).map (·.1)) := by
    refine perm.trans ?_
    unfold full
    rw [List.map_append]
    exact (List.perm_append_comm (l₁ := [("full" : Str)]))
  have yl1 : ys.length = fs.length + 1 := by rw [perm.length_eq, List.length_cons, List.length_map]
  refine ⟨n6, yl, ys, rfl, sq_l hyl, by omega, by have := hf.2.2; omega, fun tr zs H1 ntr htr hzs zl k1 => ?_⟩
  have hz : ∀ z ∈ zs, z ∈ (full fs).map (·.1) := fun z h => permN.mem_iff.mp (hzs z h)
  have k01 := kG.trans k1
  try simp (maxSteps := 1000000) only [tSeq, tIfS, tTest, tOp, tUn, tCB, tCons, tNil, tVar, tC, rI0, rI, rU, rEq, rNe, tRet, tRetN, tAsg, gName, gSub, tBM, tBM0, tNext, tB, tNot, tAnd, tOr, tIf, tCall, tDrop, tBreak, tCont, L2.start, tDGet, sDPut, tTup, tLst, tDNewK, tRevL, rCat, rAppend, rPop, rSetL, tAndV, tOrV, tNotV, tSl, tPart, tNoPart, tM1, gTup, gCons, gNil, cxK, cxnK, List.map_cons, List.map_nil, List.length_cons, List.length_nil, List.replicate, List.cons_append, List.nil_append, List.append_nil, List.set_cons_zero, List.set_cons_succ, List.getElem?_cons_zero, List.getElem?_cons_succ, Option.some.injEq, V.ref.injEq, V.int.injEq, V.str.injEq, V.bl.injEq, V.ty.injEq, exists_eq_left', exists_eq_left, exists_and_left, List.cons.injEq, and_true, true_and, sc_ii, sc_ss, sc_bb, sc_ni, sc_in, sc_is, sc_si, sc_nn, decide_true, decide_false, reduceCtorEq, Bool.false_eq_true, if_true, if_false, ite_true, ite_false, exists_const, eq_self, false_and, and_false, or_false, false_or, exists_false, Evl.rLenS, rSum, wipe, tYes, exists_eq, exists_eq', rIxL, rIxT, rIxS, exists_and_right, gt_iff_lt, not_true_eq_false, not_false_eq_true, Bool.not_true, Bool.not_false, decide_eq_true_eq, Nat.reduceSub, Nat.reduceAdd, List.append_assoc, tChain, tDIn, tDNotIn, sDDel, tAug, ipI]
  refine ⟨o, lk, dt, tr, ff, fs, zs, rfl, hB.kp k01, hk.kp k01, htb.kp k01, hf, sq_t htr, hz, zl, fun H2 k2 => ?_⟩
  try simp (maxSteps := 1000000) only [tSeq, tIfS, tTest, tOp, tUn, tCB, tCons, tNil, tVar, tC, rI0, rI, rU, rEq, rNe, tRet, tRetN, tAsg, gName, gSub, tBM, tBM0, tNext, tB, tNot, tAnd, tOr, tIf, tCall, tDrop, tBreak, tCont, L2.start, tDGet, sDPut, tTup, tLst, tDNewK, tRevL, rCat, rAppend, rPop, rSetL, tAndV, tOrV, tNotV, tSl, tPart, tNoPart, tM1, gTup, gCons, gNil, cxK, cxnK, List.map_cons, List.map_nil, List.length_cons, List.length_nil, List.replicate, List.cons_append, List.nil_append, List.append_nil, List.set_cons_zero, List.set_cons_succ, List.getElem?_cons_zero, List.getElem?_cons_succ, Option.some.injEq, V.ref.injEq, V.int.injEq, V.str.injEq, V.bl.injEq, V.ty.injEq, exists_eq_left', exists_eq_left, exists_and_left, List.cons.injEq, and_true, true_and, sc_ii, sc_ss, sc_bb, sc_ni, sc_in, sc_is, sc_si, sc_nn, decide_true, decide_false, reduceCtorEq, Bool.false_eq_true, if_true, if_false, ite_true, ite_false, exists_const, eq_self, false_and, and_false, or_false, false_or, exists_false, Evl.rLenS, rSum, wipe, tYes, exists_eq, exists_eq', rIxL, rIxT, rIxS, exists_and_right, gt_iff_lt, not_true_eq_false, not_false_eq_true, Bool.not_true, Bool.not_false, decide_eq_true_eq, Nat.reduceSub, Nat.reduceAdd, List.append_assoc, tChain, tDIn, tDNotIn, sDDel, tAug, ipI]
  have k02 := k01.trans k2
  have hh2 := k02 _ _ not0 hhd
  have ht2 := k02 _ _ not0 htd
  refine ⟨kvh, .inl hh2, fun q1 nq1 => ⟨kvt, .inl ((Kp.new (S := []) nq1) _ _ not0 ht2), fun q2 nq2 => ?_⟩⟩
  rw [kn, keysN hF.1]
  rw [keysN hF.1] at nq2
  have q12 : q1 ≠ q2 := ne_of_none upd_same nq2
  have kq1 : Kp [] H2 (upd H2 q1 (.lst ((fs.map (·.1)).map V.str))) := Kp.new nq1
  have kq2 := kq1.trans (Kp.new (S := []) (o := .lst ((fs.map (·.1)).map V.str)) nq2)
  have shN := (shapedL (ds := (fs.map (·.1)).map PyData.str) fun d hd => by
    obtain ⟨y, hy, rfl⟩ := List.mem_map.mp hd
    obtain ⟨x, hx, rfl⟩ := List.mem_map.mp hy
    exact name_ok (good_name (hf.1 x hx))).1
  refine ⟨_, _, .lst (sq_l (by rw [upd_ne q12]; exact upd_same)) (dpStrs _), .lst (sq_l upd_same) (dpStrs _), shN, shN, ?_⟩
  rw [SeqAt.eqv_refl _ (SeqAt.canLay_of_shaped shN)]
  try simp (maxSteps := 1000000) only [tSeq, tIfS, tTest, tOp, tUn, tCB, tCons, tNil, tVar, tC, rI0, rI, rU, rEq, rNe, tRet, tRetN, tAsg, gName, gSub, tBM, tBM0, tNext, tB, tNot, tAnd, tOr, tIf, tCall, tDrop, tBreak, tCont, L2.start, tDGet, sDPut, tTup, tLst, tDNewK, tRevL, rCat, rAppend, rPop, rSetL, tAndV, tOrV, tNotV, tSl, tPart, tNoPart, tM1, gTup, gCons, gNil, cxK, cxnK, List.map_cons, List.map_nil, List.length_cons, List.length_nil, List.replicate, List.cons_append, List.nil_append, List.append_nil, List.set_cons_zero, List.set_cons_succ, List.getElem?_cons_zero, List.getElem?_cons_succ, Option.some.injEq, V.ref.injEq, V.int.injEq, V.str.injEq, V.bl.injEq, V.ty.injEq, exists_eq_left', exists_eq_left, exists_and_left, List.cons.injEq, and_true, true_and, sc_ii, sc_ss, sc_bb, sc_ni, sc_in, sc_is, sc_si, sc_nn, decide_true, decide_false, reduceCtorEq, Bool.false_eq_true, if_true, if_false, ite_true, ite_false, exists_const, eq_self, false_and, and_false, or_false, false_or, exists_false, Evl.rLenS, rSum, wipe, tYes, exists_eq, exists_eq', rIxL, rIxT, rIxS, exists_and_right, gt_iff_lt, not_true_eq_false, not_false_eq_true, Bool.not_true, Bool.not_false, decide_eq_true_eq, Nat.reduceSub, Nat.reduceAdd, List.append_assoc, tChain, tDIn, tDNotIn, sDDel, tAug, ipI]
  have k03 := k02.trans kq2
  generalize (upd (upd H2 q1 (.lst ((fs.map (·.1)).map V.str))) q2 (.lst ((fs.map (·.1)).map V.str))) = H3 at kq2 k03 ⊢
  have sh := (shapedL (fitsP (subP ff))).1
  refine list_pr (hhe.kp k03) fun r1 w1 H4 nr1 hr1 hw1 k4 => ?_
  have k04 := k03.trans k4
  obtain ⟨lws, hlw, hlD⟩ := hk.kp k04
  refine ⟨_, _, .lst (sq_l hr1) hw1, .lst (sq_l hlw) hlD, sh, sh, ?_⟩
  rw [eqvL (subP ff)]
  try simp (maxSteps := 1000000) only [tSeq, tIfS, tTest, tOp, tUn, tCB, tCons, tNil, tVar, tC, rI0, rI, rU, rEq, rNe, tRet, tRetN, tAsg, gName, gSub, tBM, tBM0, tNext, tB, tNot, tAnd, tOr, tIf, tCall, tDrop, tBreak, tCont, L2.start, tDGet, sDPut, tTup, tLst, tDNewK, tRevL, rCat, rAppend, rPop, rSetL, tAndV, tOrV, tNotV, tSl, tPart, tNoPart, tM1, gTup, gCons, gNil, cxK, cxnK, List.map_cons, List.map_nil, List.length_cons, List.length_nil, List.replicate, List.cons_append, List.nil_append, List.append_nil, List.set_cons_zero, List.set_cons_succ, List.getElem?_cons_zero, List.getElem?_cons_succ, Option.some.injEq, V.ref.injEq, V.int.injEq, V.str.injEq, V.bl.injEq, V.ty.injEq, exists_eq_left', exists_eq_left, exists_and_left, List.cons.injEq, and_true, true_and, sc_ii, sc_ss, sc_bb, sc_ni, sc_in, sc_is, sc_si, sc_nn, decide_true, decide_false, reduceCtorEq, Bool.false_eq_true, if_true, if_false, ite_true, ite_false, exists_const, eq_self, false_and, and_false, or_false, false_or, exists_false, Evl.rLenS, rSum, wipe, tYes, exists_eq, exists_eq', rIxL, rIxT, rIxS, exists_and_right, gt_iff_lt, not_true_eq_false, not_false_eq_true, Bool.not_true, Bool.not_false, decide_eq_true_eq, Nat.reduceSub, Nat.reduceAdd, List.append_assoc, tChain, tDIn, tDNotIn, sDDel, tAug, ipI]
  refine forL_src34 ?_
  try simp (maxSteps := 1000000) only [tSeq, tIfS, tTest, tOp, tUn, tCB, tCons, tNil, tVar, tC, rI0, rI, rU, rEq, rNe, tRet, tRetN, tAsg, gName, gSub, tBM, tBM0, tNext, tB, tNot, tAnd, tOr, tIf, tCall, tDrop, tBreak, tCont, L2.start, tDGet, sDPut, tTup, tLst, tDNewK, tRevL, rCat, rAppend, rPop, rSetL, tAndV, tOrV, tNotV, tSl, tPart, tNoPart, tM1, gTup, gCons, gNil, cxK, cxnK, List.map_cons, List.map_nil, List.length_cons, List.length_nil, List.replicate, List.cons_append, List.nil_append, List.append_nil, List.set_cons_zero, List.set_cons_succ, List.getElem?_cons_zero, List.getElem?_cons_succ, Option.some.injEq, V.ref.injEq, V.int.injEq, V.str.injEq, V.bl.injEq, V.ty.injEq, exists_eq_left', exists_eq_left, exists_and_left, List.cons.injEq, and_true, true_and, sc_ii, sc_ss, sc_bb, sc_ni, sc_in, sc_is, sc_si, sc_nn, decide_true, decide_false, reduceCtorEq, Bool.false_eq_true, if_true, if_false, ite_true, ite_false, exists_const, eq_self, false_and, and_false, or_false, false_or, exists_false, Evl.rLenS, rSum, wipe, tYes, exists_eq, exists_eq', rIxL, rIxT, rIxS, exists_and_right, gt_iff_lt, not_true_eq_false, not_false_eq_true, Bool.not_true, Bool.not_false, decide_eq_true_eq, Nat.reduceSub, Nat.reduceAdd, List.append_assoc, tChain, tDIn, tDNotIn, sDDel, tAug, ipI]
  refine ⟨kvt, .inl (k04 _ _ not0 htd), fun q3 nq3 => ?_⟩
  rw [kn]
  have k5 : Kp [] H4 (upd H4 q3 (.lst ((fs.map (·.1)).map V.str))) := Kp.new nq3
  have hq3 : (upd H4 q3 (.lst ((fs.map (·.1)).map V.str))) q3 = some (.lst ((fs.map (·.1)).map V.str)) := upd_same
  generalize (upd H4 q3 (.lst ((fs.map (·.1)).map V.str))) = H5 at k5 hq3 ⊢
  have k05 := k04.trans k5
  have hh5 := k05 _ _ not0 hhd
  have hB5 := hB.kp k05
  have hk5 := hk.kp k05
  have ht5 := htb.kp k05
  have htr5 := ((((k2.trans kq2).trans k4).trans k5)) _ _ not0 htr
  have hrl5 := k05.ls not0 hrl
  have kl := keysLen hF.1
  have hd3 : q3 ≠ hd := fun z => by rw [z, hh5] at hq3; cases hq3
  have nS : NoSq H5 [hd] := noSqD hh5
  refine forLC34 (fun i σ H' => ∃ c6, σ = [some (.ref a), some (.ref rl), c, some (.ref lk), some (.ref dt), some (.ref hd), c6, some (.ref he), some (.ref o), some (.ref tr), none, none] ∧ Kp [hd] H5 H' ∧ ∃ kvs, H' hd = some (.dK kvs) ∧ kvs.length ≤ fs.length + i) (sq_l hq3) ⟨_, rfl, Kp.refl _ _, kvh, hh5, by omega⟩ (fun j σ H' _ h => by obtain ⟨_, _, k, _⟩ := h; exact k.lsN nS (sq_l hq3)) (fun j v σ H6 hv h => ?_) fun σ H6 h => ?_
  · obtain ⟨c6, rfl, k6, kvs, hh6, kl6⟩ := h
    rw [List.getElem?_map] at hv
    have jl : j < fs.length := by
      have := (List.getElem?_eq_some_iff.mp (show (((fs.map (·.1)).map V.str))[j]? = some v by rw [List.getElem?_map]; exact hv)).1
      simpa using this
    obtain ⟨u, eu, rfl⟩ : ∃ u, (fs.map (·.1))[j]? = some u ∧ V.str u = v := by
      cases e : (fs.map (·.1))[j]? with
      | none => rw [e] at hv; cases hv
      | some u => rw [e] at hv; exact ⟨u, rfl, Option.some.inj hv⟩
    try simp (maxSteps := 1000000) only [tSeq, tIfS, tTest, tOp, tUn, tCB, tCons, tNil, tVar, tC, rI0, rI, rU, rEq, rNe, tRet, tRetN, tAsg, gName, gSub, tBM, tBM0, tNext, tB, tNot, tAnd, tOr, tIf, tCall, tDrop, tBreak, tCont, L2.start, tDGet, sDPut, tTup, tLst, tDNewK, tRevL, rCat, rAppend, rPop, rSetL, tAndV, tOrV, tNotV, tSl, tPart, tNoPart, tM1, gTup, gCons, gNil, cxK, cxnK, List.map_cons, List.map_nil, List.length_cons, List.length_nil, List.replicate, List.cons_append, List.nil_append, List.append_nil, List.set_cons_zero, List.set_cons_succ, List.getElem?_cons_zero, List.getElem?_cons_succ, Option.some.injEq, V.ref.injEq, V.int.injEq, V.str.injEq, V.bl.injEq, V.ty.injEq, exists_eq_left', exists_eq_left, exists_and_left, List.cons.injEq, and_true, true_and, sc_ii, sc_ss, sc_bb, sc_ni, sc_in, sc_is, sc_si, sc_nn, decide_true, decide_false, reduceCtorEq, Bool.false_eq_true, if_true, if_false, ite_true, ite_false, exists_const, eq_self, false_and, and_false, or_false, false_or, exists_false, Evl.rLenS, rSum, wipe, tYes, exists_eq, exists_eq', rIxL, rIxT, rIxS, exists_and_right, gt_iff_lt, not_true_eq_false, not_false_eq_true, Bool.not_true, Bool.not_false, decide_eq_true_eq, Nat.reduceSub, Nat.reduceAdd, List.append_assoc, tChain, tDIn, tDNotIn, sDDel, tAug, ipI]
    refine make_pr0 hde fun o2 H7 no2 ho2 k7 => ?_
    have hh7 := k7 _ _ not0 hh6
    have lp : ∀ {z : Key} {v : V}, (putK kvs z v).length ≤ kvs.length + 1 := fun {z v} => by
      unfold putK
      split
      · rw [List.length_map]; omega
      · rw [List.length_append]; exact Nat.le_refl _
    refine ⟨_, .inl ⟨kvs, .inr u, hh7, rfl, smallL (by have := hf.2.2; omega), rfl⟩, (k6.trans k7.of0).put (by simp), _, upd_same, ?_⟩
    have := lp (z := .inr u) (v := .ref o2)
    omega
  · obtain ⟨c6, rfl, k6, kvs, hh6, kl6⟩ := h
    rw [List.length_map, List.length_map] at kl6
    try simp (maxSteps := 1000000) only [tSeq, tIfS, tTest, tOp, tUn, tCB, tCons, tNil, tVar, tC, rI0, rI, rU, rEq, rNe, tRet, tRetN, tAsg, gName, gSub, tBM, tBM0, tNext, tB, tNot, tAnd, tOr, tIf, tCall, tDrop, tBreak, tCont, L2.start, tDGet, sDPut, tTup, tLst, tDNewK, tRevL, rCat, rAppend, rPop, rSetL, tAndV, tOrV, tNotV, tSl, tPart, tNoPart, tM1, gTup, gCons, gNil, cxK, cxnK, List.map_cons, List.map_nil, List.length_cons, List.length_nil, List.replicate, List.cons_append, List.nil_append, List.append_nil, List.set_cons_zero, List.set_cons_succ, List.getElem?_cons_zero, List.getElem?_cons_succ, Option.some.injEq, V.ref.injEq, V.int.injEq, V.str.injEq, V.bl.injEq, V.ty.injEq, exists_eq_left', exists_eq_left, exists_and_left, List.cons.injEq, and_true, true_and, sc_ii, sc_ss, sc_bb, sc_ni, sc_in, sc_is, sc_si, sc_nn, decide_true, decide_false, reduceCtorEq, Bool.false_eq_true, if_true, if_false, ite_true, ite_false, exists_const, eq_self, false_and, and_false, or_false, false_or, exists_false, Evl.rLenS, rSum, wipe, tYes, exists_eq, exists_eq', rIxL, rIxT, rIxS, exists_and_right, gt_iff_lt, not_true_eq_false, not_false_eq_true, Bool.not_true, Bool.not_false, decide_eq_true_eq, Nat.reduceSub, Nat.reduceAdd, List.append_assoc, tChain, tDIn, tDNotIn, sDDel, tAug, ipI]
    refine mkSel (g := fun _ => true) (fun R h => ?_) fun o2 H7 no2 ho2 k7 => ?_
    · try simp (maxSteps := 1000000) only [tSeq, tIfS, tTest, tOp, tUn, tCB, tCons, tNil, tVar, tC, rI0, rI, rU, rEq, rNe, tRet, tRetN, tAsg, gName, gSub, tBM, tBM0, tNext, tB, tNot, tAnd, tOr, tIf, tCall, tDrop, tBreak, tCont, L2.start, tDGet, sDPut, tTup, tLst, tDNewK, tRevL, rCat, rAppend, rPop, rSetL, tAndV, tOrV, tNotV, tSl, tPart, tNoPart, tM1, gTup, gCons, gNil, cxK, cxnK, List.map_cons, List.map_nil, List.length_cons, List.length_nil, List.replicate, List.cons_append, List.nil_append, List.append_nil, List.set_cons_zero, List.set_cons_succ, List.getElem?_cons_zero, List.getElem?_cons_succ, Option.some.injEq, V.ref.injEq, V.int.injEq, V.str.injEq, V.bl.injEq, V.ty.injEq, exists_eq_left', exists_eq_left, exists_and_left, List.cons.injEq, and_true, true_and, sc_ii, sc_ss, sc_bb, sc_ni, sc_in, sc_is, sc_si, sc_nn, decide_true, decide_false, reduceCtorEq, Bool.false_eq_true, if_true, if_false, ite_true, ite_false, exists_const, eq_self, false_and, and_false, or_false, false_or, exists_false, Evl.rLenS, rSum, wipe, tYes, exists_eq, exists_eq', rIxL, rIxT, rIxS, exists_and_right, gt_iff_lt, not_true_eq_false, not_false_eq_true, Bool.not_true, Bool.not_false, decide_eq_true_eq, Nat.reduceSub, Nat.reduceAdd, List.append_assoc, tChain, tDIn, tDNotIn, sDDel, tAug, ipI]
      refine ⟨rfl, fun ra rws H8 nra hra hrw k8 => h ra rws H8 (.inl (sq_l hra)) ?_ k8⟩
      have e27 : pairsL.filter (fun _ => true) = pairsL := List.filter_eq_self.mpr fun _ _ => rfl
      rw [e27]; exact hrw
    · have hh7 := k7 _ _ not0 hh6
      have kx : Kp [hd] H5 (upd H7 hd (.dK (putK kvs (Sum.inr "zz") (V.ref o2)))) := (k6.trans k7.of0).put (by simp)
      refine ⟨_, .inl ⟨kvs, .inr "zz", hh7, rfl, smallL (by have := hf.2.2; omega), rfl⟩, ?_⟩
      generalize (upd H7 hd (.dK (putK kvs (Sum.inr "zz") (V.ref o2)))) = H8 at kx ⊢
      have hB8 : BookAt K BK PC H8 o ff (full fs) := hB5.over hh5 kl kx
      have hk8 := hk5.kpN kx nS
      have ht8 := ht5.over hh5 kx dth
      have trn : tr ≠ hd := fun z => by rw [z, hh5] at htr5; cases htr5
      have htr8 := kx _ _ (by simpa using trn) htr5
      have hrl8 := kx.lsN nS hrl5
      obtain ⟨n7, z7, e7⟩ := nat 7 (by decide)
      obtain ⟨n8, z8, e8⟩ := nat 8 (by decide)
      refine ⟨_, hrl8, _, e7, o, lk, tr, n7, ff, fs, zs, rfl, hB8, hk8, hf, htr8, hz, by omega, fun H9' k9 => ?_⟩
      try simp (maxSteps := 1000000) only [tSeq, tIfS, tTest, tOp, tUn, tCB, tCons, tNil, tVar, tC, rI0, rI, rU, rEq, rNe, tRet, tRetN, tAsg, gName, gSub, tBM, tBM0, tNext, tB, tNot, tAnd, tOr, tIf, tCall, tDrop, tBreak, tCont, L2.start, tDGet, sDPut, tTup, tLst, tDNewK, tRevL, rCat, rAppend, rPop, rSetL, tAndV, tOrV, tNotV, tSl, tPart, tNoPart, tM1, gTup, gCons, gNil, cxK, cxnK, List.map_cons, List.map_nil, List.length_cons, List.length_nil, List.replicate, List.cons_append, List.nil_append, List.append_nil, List.set_cons_zero, List.set_cons_succ, List.getElem?_cons_zero, List.getElem?_cons_succ, Option.some.injEq, V.ref.injEq, V.int.injEq, V.str.injEq, V.bl.injEq, V.ty.injEq, exists_eq_left', exists_eq_left, exists_and_left, List.cons.injEq, and_true, true_and, sc_ii, sc_ss, sc_bb, sc_ni, sc_in, sc_is, sc_si, sc_nn, decide_true, decide_false, reduceCtorEq, Bool.false_eq_true, if_true, if_false, ite_true, ite_false, exists_const, eq_self, false_and, and_false, or_false, false_or, exists_false, Evl.rLenS, rSum, wipe, tYes, exists_eq, exists_eq', rIxL, rIxT, rIxS, exists_and_right, gt_iff_lt, not_true_eq_false, not_false_eq_true, Bool.not_true, Bool.not_false, decide_eq_true_eq, Nat.reduceSub, Nat.reduceAdd, List.append_assoc, tChain, tDIn, tDNotIn, sDDel, tAug, ipI]
      refine ⟨_, k9.ls not0 hrl8, _, e8, n8, rfl, z8, fun lm mm HA nlm hlm kA => ?_⟩
      have k9A := k9.trans kA
      refine ⟨o, lk, dt, tr, lm, ff, mm, fs, zs, rfl, hB8.kp k9A, hk8.kp k9A, ht8.kp k9A, hf, k9A _ _ not0 htr8, hz, by omega, hlm, fun HB kB => ?_⟩
      try simp (maxSteps := 1000000) only [tSeq, tIfS, tTest, tOp, tUn, tCB, tCons, tNil, tVar, tC, rI0, rI, rU, rEq, rNe, tRet, tRetN, tAsg, gName, gSub, tBM, tBM0, tNext, tB, tNot, tAnd, tOr, tIf, tCall, tDrop, tBreak, tCont, L2.start, tDGet, sDPut, tTup, tLst, tDNewK, tRevL, rCat, rAppend, rPop, rSetL, tAndV, tOrV, tNotV, tSl, tPart, tNoPart, tM1, gTup, gCons, gNil, cxK, cxnK, List.map_cons, List.map_nil, List.length_cons, List.length_nil, List.replicate, List.cons_append, List.nil_append, List.append_nil, List.set_cons_zero, List.set_cons_succ, List.getElem?_cons_zero, List.getElem?_cons_succ, Option.some.injEq, V.ref.injEq, V.int.injEq, V.str.injEq, V.bl.injEq, V.ty.injEq, exists_eq_left', exists_eq_left, exists_and_left, List.cons.injEq, and_true, true_and, sc_ii, sc_ss, sc_bb, sc_ni, sc_in, sc_is, sc_si, sc_nn, decide_true, decide_false, reduceCtorEq, Bool.false_eq_true, if_true, if_false, ite_true, ite_false, exists_const, eq_self, false_and, and_false, or_false, false_or, exists_false, Evl.rLenS, rSum, wipe, tYes, exists_eq, exists_eq', rIxL, rIxT, rIxS, exists_and_right, gt_iff_lt, not_true_eq_false, not_false_eq_true, Bool.not_true, Bool.not_false, decide_eq_true_eq, Nat.reduceSub, Nat.reduceAdd, List.append_assoc, tChain, tDIn, tDNotIn, sDDel, tAug, ipI]
      have k9B := k9A.trans kB
      refine ⟨o, lk, dt, tr, ff, fs, zs, rfl, hB8.kp k9B, hk8.kp k9B, ht8.kp k9B, hf, sq_t (k9B _ _ not0 htr8), hz, by omega, fun HC kC => ?_⟩
      try simp (maxSteps := 1000000) only [tSeq, tIfS, tTest, tOp, tUn, tCB, tCons, tNil, tVar, tC, rI0, rI, rU, rEq, rNe, tRet, tRetN, tAsg, gName, gSub, tBM, tBM0, tNext, tB, tNot, tAnd, tOr, tIf, tCall, tDrop, tBreak, tCont, L2.start, tDGet, sDPut, tTup, tLst, tDNewK, tRevL, rCat, rAppend, rPop, rSetL, tAndV, tOrV, tNotV, tSl, tPart, tNoPart, tM1, gTup, gCons, gNil, cxK, cxnK, List.map_cons, List.map_nil, List.length_cons, List.length_nil, List.replicate, List.cons_append, List.nil_append, List.append_nil, List.set_cons_zero, List.set_cons_succ, List.getElem?_cons_zero, List.getElem?_cons_succ, Option.some.injEq, V.ref.injEq, V.int.injEq, V.str.injEq, V.bl.injEq, V.ty.injEq, exists_eq_left', exists_eq_left, exists_and_left, List.cons.injEq, and_true, true_and, sc_ii, sc_ss, sc_bb, sc_ni, sc_in, sc_is, sc_si, sc_nn, decide_true, decide_false, reduceCtorEq, Bool.false_eq_true, if_true, if_false, ite_true, ite_false, exists_const, eq_self, false_and, and_false, or_false, false_or, exists_false, Evl.rLenS, rSum, wipe, tYes, exists_eq, exists_eq', rIxL, rIxT, rIxS, exists_and_right, gt_iff_lt, not_true_eq_false, not_false_eq_true, Bool.not_true, Bool.not_false, decide_eq_true_eq, Nat.reduceSub, Nat.reduceAdd, List.append_assoc, tChain, tDIn, tDNotIn, sDDel, tAug, ipI]
      have k9C := k9B.trans kC
      exact hq _ HC ⟨a, rl, lk, dt, _, _, _, _, _, _, ns, ff, fs, rfl, k9C.ls not0 hrl8, nl.1, hk8.kp k9C, ht8.kp k9C, hf⟩
end
end My

set_option Elab.async false
set_option linter.all false
set_option maxRecDepth 100000
set_option maxHeartbeats 4000000
namespace My
open PySem L2 NdefX
section
variable {P : Program} {w : World} {K : PySem.W.Frag} {mg : Str → Option Value} {base : Heap} {BK PC NF BP TL BF fI fJ : Addr}
theorem lcRgN {ta : TA} {g : TG} {tt : TT} {te : TE} {vs : List Nat} {σ : L2.St} {H : Hp} {Q : VK} (m : Nat) (hm : m ≤ 100000) (Pv : Addr → Nat → Hp → Prop) (ht : ∀ R : List V → Hp → Prop, R [.int (m : Nat)] H → ta σ H R) (h0 : ∀ o, H o = none → Pv o 0 (upd H o (.lst [])))
    (step : ∀ o i H', H o = none → i < m → Pv o i H' → g (.int (i : Nat)) (wipe σ vs) H' fun σ2 H2 => wipe σ2 vs = wipe σ vs ∧ tt σ2 H2 fun b H3 => if b = true then te σ2 H3 fun y H4 => ∃ acc, H4 o = some (.lst acc) ∧ acc.length < sizeLine ∧ Pv o (i + 1) (upd H4 o (.lst (acc ++ [y]))) else Pv o (i + 1) H3)
    (fin : ∀ o H', H o = none → Pv o m H' → Q (.ref o) H') : tLc (iRng1 ta) g tt te vs σ H Q :=
  ht _ ⟨(m : Nat), rfl, by omega, by omega, fun o no => lc_range (Pv o) (h0 o no) (fun i H' hi p => by rw [Int.zero_add]; exact step o i H' no (by omega) p) fun H' p => fin o H' no (by rw [Int.toNat_natCast] at p; exact p)⟩
theorem TabL.put {H : Hp} {d : Addr} {fs : Fnc} {kvs : List (Key × V)} {n : Str} {g : Pr → Bool} {l : Addr} (h : TabL K H d fs) (hd : H d = some (.dK kvs)) (hn : n ∉ fs.map (·.1)) (hl : SelAt K H l g) : TabL K (upd H d (.dK (putK kvs (Sum.inr n) (.ref l)))) d (fs ++ [(n, g)]) := by
  obtain ⟨kvs', a, b, c⟩ := h
  rw [hd] at a
  have a : kvs = kvs' := HO.dK.inj (Option.some.inj a)
  subst a
  have kl := keysLen b
  rw [putNew b hn]
  refine ⟨_, upd_same, by rw [List.map_append, List.map_append, b]; rfl, fun i m g2 ei => ?_⟩
  by_cases il : i < fs.length
  · rw [List.getElem?_append_left il] at ei
    obtain ⟨y, e1, e2⟩ := c i m g2 ei
    exact ⟨y, by rw [List.getElem?_append_left (by omega)]; exact e1, e2.kpN Kp.lock (noSqD hd)⟩
  · rw [List.getElem?_append_right (by omega)] at ei
    have i0 : i - fs.length = 0 := by
      cases e : i - fs.length with
      | zero => rfl
      | succ m => rw [e] at ei; cases ei
    rw [i0] at ei
    cases ei
    exact ⟨l, by rw [List.getElem?_append_right (by omega), kl, i0]; rfl, hl.kpN Kp.lock (noSqD hd)⟩
def spLaw (K : PySem.W.Frag) : Sp := fun vs H Q _ => ∃ (a : Addr) (ns : List Int), vs = [.ref a] ∧ Scr K H a ns ∧ ∀ H', Q (.bl true) H'
structure BtL (K : PySem.W.Frag) (mg : Str → Option Value) (PC BK fI fJ fT fL : Addr) : Prop extends BtL9 K mg PC fI fT fL where
  M_Book : Mk K BK fJ
theorem ok_law {f : Addr} {fd : FuncData} (D : Df K mg "law" s_law ["_law_script"] f fd) {fT fL : Addr} {fdT fdL fdI fdJ : FuncData} {de : Addr} {dsD dsB : List Value} {gJ : List Value → List Value → List Value} (hde : ∀ H, SqT K H de []) (T : BtL K mg PC BK fI fJ fT fL) (C : PrC K mg PC) (B : BkC K mg BK)
    (bI_Pairs : Binds K fdI ["self", "pairs"] []) (hd_Pairs : Vals [.ref de] dsD) (bD_Pairs : Binds K fdI ["self", "pairs"] dsD) (G_Pairs_init : FnOk P w K mg base (L2.CX P w) 3 fI fdI ["self", "pairs"] (spPI K PC BP))
    (b_Pairs_len : Binds K fdL ["self"] []) (G_Pairs_len : FnOk P w K mg base CX0 1 fL fdL ["self"] (spLen K PC))
    (b_Pairs_iter : Binds K fdT ["self"] []) (G_Pairs_iter : FnOk P w K mg base CX0 1 fT fdT ["self"] (spIter PC))
    (hd_Book : Vals [.non] dsB) (bD_Book : Binds K fdJ ["self", "kept", "fences"] dsB) (kb_Book : KBn K fdJ ["self", "kept", "fences"] 2 ["fences"] gJ (fun vs zs => vs ++ zs)) (G_Book_init : FnOk P w K mg base (L2.CX P w) 5 fJ fdJ ["self", "kept", "fences"] (spBI K BK PC TL BF))
    {f0 : Addr} {fd0 : FuncData} (D_law_draw : Df K mg "_law_draw" s_law_draw ["_law_script", "_law_k"] f0 fd0) (G_law_draw : FnOk P w K mg base CX0 2 f0 fd0 ["_law_script", "_law_k"] (spDrawK K))
    {f1 : Addr} {fd1 : FuncData} (D_law_name : Df K mg "_law_name" s_law_name ["_law_number", "_law_taken"] f1 fd1) (G_law_name : FnOk P w K mg base CX0 1 f1 fd1 ["_law_number", "_law_taken"] (spName K))
    {fb : Addr} {fdb : FuncData} (D_law_bad_names : Df K mg "_law_bad_names" s_law_bad_names ["_law_number", "_law_names"] fb fdb) (G_law_bad_names : FnOk P w K mg base CX0 1 fb fdb ["_law_number", "_law_names"] (spBadN K))
    {fr : Addr} {fdr : FuncData} (D_law_book_refusal : Df K mg "_law_book_refusal" s_law_book_refusal ["_law_kept", "_law_table"] fr fdr) (G_law_book_refusal : FnOk P w K mg base CX0 7 fr fdr ["_law_kept", "_law_table"] (spBRef K))
    {fw : Addr} {fdw : FuncData} (D_law_row : Df K mg "_law_row" s_law_row ["_law_number", "_law_names"] fw fdw) (G_law_row : FnOk P w K mg base CX0 1 fw fdw ["_law_number", "_law_names"] (spRowN K))
    {fi : Addr} {fdi : FuncData} (D_law_is_book : Df K mg "_law_is_book" s_law_is_book ["_law_made", "_law_kept", "_law_table", "_law_row_here"] fi fdi) (G_law_is_book : FnOk P w K mg base CX0 6 fi fdi ["_law_made", "_law_kept", "_law_table", "_law_row_here"] (spIsBk K BK PC))
    {fu : Addr} {fdu : FuncData} (D_law_refuses : Df K mg "_law_refuses" s_law_refuses ["_law_made", "_law_kept", "_law_row_here", "_law_number"] fu fdu) (G_law_refuses : FnOk P w K mg base CX0 6 fu fdu ["_law_made", "_law_kept", "_law_row_here", "_law_number"] (spRefu K BK PC))
    {fg : Addr} {fdg : FuncData} (D_law_grown : Df K mg "_law_grown" s_law_grown ["_law_made", "_law_kept", "_law_table", "_law_row_here", "_law_more"] fg fdg) (G_law_grown : FnOk P w K mg base CX0 7 fg fdg ["_law_made", "_law_kept", "_law_table", "_law_row_here", "_law_more"] (spGrown K BK PC))
    {fs : Addr} {fds : FuncData} (D_law_set : Df K mg "_law_set" s_law_set ["_law_number"] fs fds) (G_law_set : FnOk P w K mg base CX0 3 fs fds ["_law_number"] (spSel K))
    {fp : Addr} {fdp : FuncData} (D_law_pairs : Df K mg "_law_pairs" s_law_pairs [] fp fdp) (G_law_pairs : FnOk P w K mg base CX0 1 fp fdp [] (spPairs K)) : FnOk P w K mg base CX0 8 f fd ["_law_script"] (spLaw K) := by
  refine D.F.ok sc_law (fun vs H Q E h => ?_) (fun cdv A outer s H vs Q E hr h => ?_)
  · obtain ⟨_, _, rfl, _⟩ := h
    rfl
  · obtain ⟨a, ns, rfl, hS, q⟩ := h
    have hu := hu_of hr
    have hcalm : True := True.intro
    have M_Pairs := T.M_Pairs
    have M_Book := T.M_Book
    obtain ⟨t16, ht16, hq16⟩ := law_t16 (P := P) (w := w) (K := K) (mg := mg) (base := base) (f := f) (cdv := cdv) (outer := outer) (H := H) (E := E) hr T.toBtLw q D_law_bad_names G_law_bad_names D_law_book_refusal G_law_book_refusal
    obtain ⟨t, ht, hq⟩ := law_t9 (P := P) (w := w) (K := K) (mg := mg) (base := base) (f := f) (cdv := cdv) (outer := outer) (H := H) (E := E) hr hde T.toBtL9 C bI_Pairs hd_Pairs bD_Pairs G_Pairs_init b_Pairs_len G_Pairs_len b_Pairs_iter G_Pairs_iter D_law_row G_law_row D_law_is_book G_law_is_book D_law_refuses G_law_refuses D_law_grown G_law_grown D_law_set G_law_set D_law_pairs G_law_pairs ht16 hq16
    refine ⟨_, (pss_cons (ps_setLc (i := 1) (own := [("_law_k", 2)]) (g := (gName 2)) (tt := tYes) rfl sc_law.nd rfl rfl (sw_true rfl rfl rfl (by decide +kernel)) (pi_range1 rfl T.b_range (pa_cons pe_int pa_nil)) (blkOk_by (N := ["_law_script", "_law_row_here", "_law_k", "_law_kept", "_law_table", "_law_handed", "_law_name_here", "_law_held", "_law_made", "_law_passed", "_law_bad", "_law_spoilt"]) (sc := defScope s_law) (by decide +kernel)) (fun _ _ _ _ _ => (pg_name (i := 2) sc_law.nd rfl (Or.inl rfl))) (fun _ _ _ _ _ => pts_nil) (fun _ _ _ _ _ => (pe_call G_law_draw (hr.mono (by decide)) rfl D_law_draw.g D_law_draw.F.kp D_law_draw.b .nil pass0 (pa_cons (pv 0) (pa_cons (pv 2) pa_nil)))))
      (pss_cons (ps_set (i := 3) sc_law.nd rfl (Or.inl rfl) (pe_call G_law_set (hr.mono (by decide)) rfl D_law_set.g D_law_set.F.kp D_law_set.b .nil pass0 (pa_cons (pe_ix (r := rIxL K) ix_list (pv 1) pe_int (fun _ _ => rfl)) pa_nil)))
      (pss_cons (ps_set (i := 4) sc_law.nd rfl (Or.inr rfl) pe_dnewK)
      (pss_cons (ps_for PassesOwn.never rfl (pi_range1 rfl T.b_range (pa_cons (pe_op op_mod (pe_callTy (T := "int") call_int1 (by rfl) T.b_int (by decide +kernel) (pa_cons (pe_ix (r := rIxL K) ix_list (pv 1) pe_int (fun _ _ => rfl)) pa_nil)) pe_int) pa_nil)) (pg_name (i := 2) sc_law.nd rfl (Or.inl rfl)) (pss_one (ps_dput hu (pv 4) (pe_call G_law_name (hr.mono (by decide)) rfl D_law_name.g D_law_name.F.kp D_law_name.b .nil pass0 (pa_cons (pe_ix (r := rIxL K) ix_list (pv 1) (pe_op op_add pe_int (pv 2)) (fun _ _ => rfl)) (pa_cons (pe_callTy (call_listD rfl) (by rfl) T.b_list (by decide +kernel) (pa_cons (pv 4) pa_nil)) pa_nil))) (pe_call G_law_set (hr.mono (by decide)) rfl D_law_set.g D_law_set.F.kp D_law_set.b .nil pass0 (pa_cons (pe_ix (r := rIxL K) ix_list (pv 1) (pe_op op_add pe_int (pv 2)) (fun _ _ => rfl)) pa_nil)) rfl)))
      (pss_cons (ps_set (i := 5) sc_law.nd rfl (Or.inl rfl) pe_dnewK)
      (pss_cons (ps_lock (ps_for PassesOwn.never rfl (pi_keys (pv 4)) (pg_name (i := 6) sc_law.nd rfl (Or.inl rfl)) (pss_one (ps_dput hu (pv 5) (pv 6) (pe_make M_Pairs G_Pairs_init (hr.mono (by decide)) rfl C.k bI_Pairs .nil passL (pa_cons (pe_callTy call_list_of (by rfl) T.b_list (by decide +kernel) (pa_cons (pe_dget hu (pv 4) (pv 6) (fun _ _ => rfl)) pa_nil)) pa_nil)) rfl))))
      (pss_cons (ps_set (i := 7) sc_law.nd rfl (Or.inl rfl) (pe_make M_Pairs G_Pairs_init (hr.mono (by decide)) rfl C.k bI_Pairs .nil passL (pa_cons (pe_callTy call_list_of (by rfl) T.b_list (by decide +kernel) (pa_cons (pv 3) pa_nil)) pa_nil)))
      (pss_cons (ps_set (i := 8) sc_law.nd rfl (Or.inl rfl) (pe_makeK (n := 1) M_Book G_Book_init (hr.mono (by decide)) rfl B.k kb_Book passL (pa_cons (pv 7) pa_nil) (pk_cons (pv 5) pk_nil)))
      (pss_cons (ps_if (PW.pt (pw_and (pt_cmpR op_eq (pe_callB call_lenD (by rfl) T.b_len PySem.boot_len (pa_cons (pv 4) pa_nil)) pe_int (nomark _)) (pw_and1 (pt_cmpR op_eq (pe_op op_mod (pe_callTy (T := "int") call_int1 (by rfl) T.b_int (by decide +kernel) (pa_cons (pe_op op_fdiv (pe_ix (r := rIxL K) ix_list (pv 1) pe_int (fun _ _ => rfl)) pe_int) pa_nil)) pe_int) pe_int (nomark _))))) (pss_one (ps_set (i := 8) sc_law.nd rfl (Or.inl rfl) (pe_make M_Book G_Book_init (hr.mono (by decide)) rfl B.k bD_Book hd_Book passL (pa_cons (pv 7) pa_nil)))) pss_nil)
      ht))))))))), ?_⟩
    try simp (maxSteps := 1000000) only [tSeq, tIfS, tTest, tOp, tUn, tCB, tCons, tNil, tVar, tC, rI0, rI, rU, rEq, rNe, tRet, tRetN, tAsg, gName, gSub, tBM, tBM0, tNext, tB, tNot, tAnd, tOr, tIf, tCall, tDrop, tBreak, tCont, L2.start, tDGet, sDPut, tTup, tLst, tDNewK, tRevL, rCat, rAppend, rPop, rSetL, tAndV, tOrV, tNotV, tSl, tPart, tNoPart, tM1, gTup, gCons, gNil, cxK, cxnK, List.map_cons, List.map_nil, List.length_cons, List.length_nil, List.replicate, List.cons_append, List.nil_append, List.append_nil, List.set_cons_zero, List.set_cons_succ, List.getElem?_cons_zero, List.getElem?_cons_succ, Option.some.injEq, V.ref.injEq, V.int.injEq, V.str.injEq, V.bl.injEq, V.ty.injEq, exists_eq_left', exists_eq_left, exists_and_left, List.cons.injEq, and_true, true_and, sc_ii, sc_ss, sc_bb, sc_ni, sc_in, sc_is, sc_si, sc_nn, decide_true, decide_false, reduceCtorEq, Bool.false_eq_true, if_true, if_false, ite_true, ite_false, exists_const, eq_self, false_and, and_false, or_false, false_or, exists_false, Evl.rLenS, rSum, wipe, tYes, exists_eq, exists_eq', rIxL, rIxT, rIxS, exists_and_right, gt_iff_lt, not_true_eq_false, not_false_eq_true, Bool.not_true, Bool.not_false, decide_eq_true_eq, Nat.reduceSub, Nat.reduceAdd, List.append_assoc, tChain, tDIn, tDNotIn, sDDel, tAug, ipI]
    obtain ⟨hS1, hS2⟩ := hS
    refine lcRgN 10 (by decide) (fun o i H' => ∃ ms : List Int, H' o = some (.lst (ms.map V.int)) ∧ ms.length = i ∧ (∀ m ∈ ms, 0 ≤ m) ∧ Kp [] H H') (fun R h => by try simp (maxSteps := 1000000) only [tSeq, tIfS, tTest, tOp, tUn, tCB, tCons, tNil, tVar, tC, rI0, rI, rU, rEq, rNe, tRet, tRetN, tAsg, gName, gSub, tBM, tBM0, tNext, tB, tNot, tAnd, tOr, tIf, tCall, tDrop, tBreak, tCont, L2.start, tDGet, sDPut, tTup, tLst, tDNewK, tRevL, rCat, rAppend, rPop, rSetL, tAndV, tOrV, tNotV, tSl, tPart, tNoPart, tM1, gTup, gCons, gNil, cxK, cxnK, List.map_cons, List.map_nil, List.length_cons, List.length_nil, List.replicate, List.cons_append, List.nil_append, List.append_nil, List.set_cons_zero, List.set_cons_succ, List.getElem?_cons_zero, List.getElem?_cons_succ, Option.some.injEq, V.ref.injEq, V.int.injEq, V.str.injEq, V.bl.injEq, V.ty.injEq, exists_eq_left', exists_eq_left, exists_and_left, List.cons.injEq, and_true, true_and, sc_ii, sc_ss, sc_bb, sc_ni, sc_in, sc_is, sc_si, sc_nn, decide_true, decide_false, reduceCtorEq, Bool.false_eq_true, if_true, if_false, ite_true, ite_false, exists_const, eq_self, false_and, and_false, or_false, false_or, exists_false, Evl.rLenS, rSum, wipe, tYes, exists_eq, exists_eq', rIxL, rIxT, rIxS, exists_and_right, gt_iff_lt, not_true_eq_false, not_false_eq_true, Bool.not_true, Bool.not_false, decide_eq_true_eq, Nat.reduceSub, Nat.reduceAdd, List.append_assoc, tChain, tDIn, tDNotIn, sDDel, tAug, ipI]; exact h) (fun o no => ⟨[], upd_same, rfl, (fun _ h => nomatch h), Kp.new no⟩) (fun o i H' no hi h => ?_) fun o H1 no h => ?_
    · obtain ⟨ms, ho, ml, mp, k⟩ := h
      try simp (maxSteps := 1000000) only [tSeq, tIfS, tTest, tOp, tUn, tCB, tCons, tNil, tVar, tC, rI0, rI, rU, rEq, rNe, tRet, tRetN, tAsg, gName, gSub, tBM, tBM0, tNext, tB, tNot, tAnd, tOr, tIf, tCall, tDrop, tBreak, tCont, L2.start, tDGet, sDPut, tTup, tLst, tDNewK, tRevL, rCat, rAppend, rPop, rSetL, tAndV, tOrV, tNotV, tSl, tPart, tNoPart, tM1, gTup, gCons, gNil, cxK, cxnK, List.map_cons, List.map_nil, List.length_cons, List.length_nil, List.replicate, List.cons_append, List.nil_append, List.append_nil, List.set_cons_zero, List.set_cons_succ, List.getElem?_cons_zero, List.getElem?_cons_succ, Option.some.injEq, V.ref.injEq, V.int.injEq, V.str.injEq, V.bl.injEq, V.ty.injEq, exists_eq_left', exists_eq_left, exists_and_left, List.cons.injEq, and_true, true_and, sc_ii, sc_ss, sc_bb, sc_ni, sc_in, sc_is, sc_si, sc_nn, decide_true, decide_false, reduceCtorEq, Bool.false_eq_true, if_true, if_false, ite_true, ite_false, exists_const, eq_self, false_and, and_false, or_false, false_or, exists_false, Evl.rLenS, rSum, wipe, tYes, exists_eq, exists_eq', rIxL, rIxT, rIxS, exists_and_right, gt_iff_lt, not_true_eq_false, not_false_eq_true, Bool.not_true, Bool.not_false, decide_eq_true_eq, Nat.reduceSub, Nat.reduceAdd, List.append_assoc, tChain, tDIn, tDNotIn, sDDel, tAug, ipI]
      refine ⟨a, (i : Nat), ns, rfl, ⟨k.ls not0 hS1, hS2⟩, by omega, fun n H2 n0 k2 => ⟨ms.map V.int, k2 _ _ not0 ho, by rw [List.length_map]; exact smallL (by omega), ms ++ [n], by rw [upd_same, List.map_append]; rfl, by rw [List.length_append, ml]; rfl, fun m hm => ?_, (k.trans k2).wr no⟩⟩
      rcases List.mem_append.mp hm with h | h
      · exact mp m h
      · rw [List.mem_singleton.mp h]; exact n0
    · obtain ⟨ms, ho, ml, mp, k1⟩ := h
      have nat : ∀ i : Nat, i < 10 → ∃ n : Int, 0 ≤ n ∧ atI (ms.map V.int) ((i : Nat) : Int) = some (.int n) := fun i hi => by
        have e : ms[i]? = some ms[i] := List.getElem?_eq_getElem (by omega)
        exact ⟨ms[i], mp _ (List.getElem_mem _), atI_nat (by rw [List.getElem?_map, e]; rfl)⟩
      obtain ⟨n0, z0, e0⟩ := nat 0 (by decide)
      obtain ⟨n1, z1, e1⟩ := nat 1 (by decide)
      refine ⟨o, rfl, _, sq_l ho, _, e0, n0, rfl, z0, fun lk ff H2 nlk hlk k2 => fun dt ndt => ?_⟩
      have ho2 := k2 _ _ not0 ho
      obtain ⟨mm, em⟩ : ∃ m : Nat, n1 % 3 = m := ⟨(n1 % 3).toNat, by have := Int.emod_nonneg n1 (show (3 : Int) ≠ 0 by decide); omega⟩
      have mm3 : mm ≤ 2 := by have := Int.emod_lt_of_pos n1 (show (0 : Int) < 3 by decide); omega
      have k3 : Kp [] H2 (upd H2 dt (.dK [])) := Kp.new ndt
      have od : o ≠ dt := ne_of_none ho2 ndt
      refine forN34 mm (by omega) (fun i σ H' => ∃ (c : Option V) (fs : Fnc), σ = [some (.ref a), some (.ref o), c, some (.ref lk), some (.ref dt), none, none, none, none, none, none, none] ∧ TabL K H' dt fs ∧ Fs fs ∧ fs.length = i ∧ Kp [] H2 H') (fun R h => ?_) ⟨_, [], rfl, ⟨[], upd_same, rfl, fun i n g e => nomatch e⟩, ⟨(fun _ h => nomatch h), List.nodup_nil, by decide⟩, rfl, k3⟩ (fun j σ H3 hj h => ?_) fun σ H3 h => ?_
      · try simp (maxSteps := 1000000) only [tSeq, tIfS, tTest, tOp, tUn, tCB, tCons, tNil, tVar, tC, rI0, rI, rU, rEq, rNe, tRet, tRetN, tAsg, gName, gSub, tBM, tBM0, tNext, tB, tNot, tAnd, tOr, tIf, tCall, tDrop, tBreak, tCont, L2.start, tDGet, sDPut, tTup, tLst, tDNewK, tRevL, rCat, rAppend, rPop, rSetL, tAndV, tOrV, tNotV, tSl, tPart, tNoPart, tM1, gTup, gCons, gNil, cxK, cxnK, List.map_cons, List.map_nil, List.length_cons, List.length_nil, List.replicate, List.cons_append, List.nil_append, List.append_nil, List.set_cons_zero, List.set_cons_succ, List.getElem?_cons_zero, List.getElem?_cons_succ, Option.some.injEq, V.ref.injEq, V.int.injEq, V.str.injEq, V.bl.injEq, V.ty.injEq, exists_eq_left', exists_eq_left, exists_and_left, List.cons.injEq, and_true, true_and, sc_ii, sc_ss, sc_bb, sc_ni, sc_in, sc_is, sc_si, sc_nn, decide_true, decide_false, reduceCtorEq, Bool.false_eq_true, if_true, if_false, ite_true, ite_false, exists_const, eq_self, false_and, and_false, or_false, false_or, exists_false, Evl.rLenS, rSum, wipe, tYes, exists_eq, exists_eq', rIxL, rIxT, rIxS, exists_and_right, gt_iff_lt, not_true_eq_false, not_false_eq_true, Bool.not_true, Bool.not_false, decide_eq_true_eq, Nat.reduceSub, Nat.reduceAdd, List.append_assoc, tChain, tDIn, tDNotIn, sDDel, tAug, ipI]
        refine ⟨_, sq_l (k3 _ _ not0 ho2), _, e1, .inl ⟨n1, rfl, by decide, ?_⟩⟩
        rw [em]
        exact h
      · obtain ⟨c, fs, rfl, hT, hf, fl, k4⟩ := h
        obtain ⟨n2, z2, e2⟩ := nat (2 + j) (by omega)
        obtain ⟨n4, z4, e4⟩ := nat (4 + j) (by omega)
        have ec2 : ((2 + j : Nat) : Int) = 2 + (j : Nat) := by omega
        have ec4 : ((4 + j : Nat) : Int) = 4 + (j : Nat) := by omega
        rw [ec2] at e2
        rw [ec4] at e4
        try simp (maxSteps := 1000000) only [tSeq, tIfS, tTest, tOp, tUn, tCB, tCons, tNil, tVar, tC, rI0, rI, rU, rEq, rNe, tRet, tRetN, tAsg, gName, gSub, tBM, tBM0, tNext, tB, tNot, tAnd, tOr, tIf, tCall, tDrop, tBreak, tCont, L2.start, tDGet, sDPut, tTup, tLst, tDNewK, tRevL, rCat, rAppend, rPop, rSetL, tAndV, tOrV, tNotV, tSl, tPart, tNoPart, tM1, gTup, gCons, gNil, cxK, cxnK, List.map_cons, List.map_nil, List.length_cons, List.length_nil, List.replicate, List.cons_append, List.nil_append, List.append_nil, List.set_cons_zero, List.set_cons_succ, List.getElem?_cons_zero, List.getElem?_cons_succ, Option.some.injEq, V.ref.injEq, V.int.injEq, V.str.injEq, V.bl.injEq, V.ty.injEq, exists_eq_left', exists_eq_left, exists_and_left, List.cons.injEq, and_true, true_and, sc_ii, sc_ss, sc_bb, sc_ni, sc_in, sc_is, sc_si, sc_nn, decide_true, decide_false, reduceCtorEq, Bool.false_eq_true, if_true, if_false, ite_true, ite_false, exists_const, eq_self, false_and, and_false, or_false, false_or, exists_false, Evl.rLenS, rSum, wipe, tYes, exists_eq, exists_eq', rIxL, rIxT, rIxS, exists_and_right, gt_iff_lt, not_true_eq_false, not_false_eq_true, Bool.not_true, Bool.not_false, decide_eq_true_eq, Nat.reduceSub, Nat.reduceAdd, List.append_assoc, tChain, tDIn, tDNotIn, sDDel, tAug, ipI]
        have ho3 := k4 _ _ not0 ho2
        refine ⟨_, sq_l ho3, _, e4, n4, rfl, z4, fun l g H4 nl hl k5 => ⟨_, sq_l (k5 _ _ not0 ho3), _, e2, ?_⟩⟩
        obtain ⟨kvs, hd4, hk4, he4⟩ := hT.kp k5
        have kn : kvs.map (fun kv => kV kv.1) = (fs.map (·.1)).map V.str := by
          have : kvs.map (fun kv => kV kv.1) = (kvs.map (·.1)).map kV := by rw [List.map_map]; rfl
          rw [this, hk4, List.map_map, List.map_map]; rfl
        refine ⟨kvs, .inl hd4, fun p np => ?_⟩
        rw [kn]
        have k6 : Kp [] H4 (upd H4 p (.lst ((fs.map (·.1)).map V.str))) := Kp.new np
        refine ⟨n2, p, fs.map (·.1), rfl, upd_same, by rw [List.length_map]; omega, fun z H5 gz nz z8 k7 => ?_⟩
        have k57 := (k5.trans k6).trans k7
        have hT5 := hT.kp k57
        have hd5 := (k6.trans k7) _ _ not0 hd4
        have hl' : SelAt K H5 l g := hl.kp (k6.trans k7)
        refine ⟨_, .inl ⟨kvs, .inr z, hd5, rfl, smallL (by rw [keysLen hk4]; omega), rfl⟩, fs ++ [(z, g)], ?_⟩
        refine ⟨hT5.put hd5 nz hl', ⟨fun x hx => ?_, ?_, by rw [List.length_append]; show fs.length + 1 ≤ 2; omega⟩, by rw [List.length_append, fl]; rfl, ?_⟩
        · rcases List.mem_append.mp hx with h | h
          · exact hf.1 x h
          · rw [List.mem_singleton.mp h]; exact gz
        · rw [List.map_append, List.nodup_append]
          exact ⟨hf.2.1, by simp, fun y hy w hw e => nz (by have hw : w = z := by simpa using hw
                                                            rw [← hw, ← e]; exact hy)⟩
        · exact (k4.trans k57).wr ndt
      · obtain ⟨c, fs, rfl, hT, hf, fl, k4⟩ := h
        obtain ⟨kvt, htd, htk, hte⟩ := id hT
        have k24 := k2.trans k4
        have ho3 := k4 _ _ not0 ho2
        have hlk3 := hlk.kp k4
        try simp (maxSteps := 1000000) only [tSeq, tIfS, tTest, tOp, tUn, tCB, tCons, tNil, tVar, tC, rI0, rI, rU, rEq, rNe, tRet, tRetN, tAsg, gName, gSub, tBM, tBM0, tNext, tB, tNot, tAnd, tOr, tIf, tCall, tDrop, tBreak, tCont, L2.start, tDGet, sDPut, tTup, tLst, tDNewK, tRevL, rCat, rAppend, rPop, rSetL, tAndV, tOrV, tNotV, tSl, tPart, tNoPart, tM1, gTup, gCons, gNil, cxK, cxnK, List.map_cons, List.map_nil, List.length_cons, List.length_nil, List.replicate, List.cons_append, List.nil_append, List.append_nil, List.set_cons_zero, List.set_cons_succ, List.getElem?_cons_zero, List.getElem?_cons_succ, Option.some.injEq, V.ref.injEq, V.int.injEq, V.str.injEq, V.bl.injEq, V.ty.injEq, exists_eq_left', exists_eq_left, exists_and_left, List.cons.injEq, and_true, true_and, sc_ii, sc_ss, sc_bb, sc_ni, sc_in, sc_is, sc_si, sc_nn, decide_true, decide_false, reduceCtorEq, Bool.false_eq_true, if_true, if_false, ite_true, ite_false, exists_const, eq_self, false_and, and_false, or_false, false_or, exists_false, Evl.rLenS, rSum, wipe, tYes, exists_eq, exists_eq', rIxL, rIxT, rIxS, exists_and_right, gt_iff_lt, not_true_eq_false, not_false_eq_true, Bool.not_true, Bool.not_false, decide_eq_true_eq, Nat.reduceSub, Nat.reduceAdd, List.append_assoc, tChain, tDIn, tDNotIn, sDDel, tAug, ipI]
        intro p np
        have kp : Kp [] H3 (upd H3 p (.dK [])) := Kp.new np
        have hp0 : (upd H3 p (.dK [])) p = some (.dK []) := upd_same
        have hd1 : (upd H3 p (.dK [])) dt = some (.dK kvt) := kp _ _ not0 htd
        have pd : p ≠ dt := fun z => by rw [z, htd] at np; cases np
        generalize (upd H3 p (.dK [])) = H4 at kp hp0 hd1 ⊢
        refine forKeys rfl hd1 (fun od i σ H' => ∃ (c6 : Option V) (kvs : List (Key × V)), σ = [some (.ref a), some (.ref o), c, some (.ref lk), some (.ref dt), some (.ref p), c6, none, none, none, none, none] ∧ H' p = some (.dK kvs) ∧ Fen K PC H' kvs (fs.take i) ∧ Kp [] (upd H3 dt (.frz od (.dK kvt))) H') (fun od => ⟨none, [], rfl, by rw [upd_ne pd]; exact hp0, ⟨rfl, fun i n g e => by rw [List.take_zero] at e; cases e⟩, kp.both⟩) (fun od j σ H' h => ?_) (fun od j k v σ H5 ekv h => ?_) (fun od σ H5 h => ?_)
        · obtain ⟨_, _, _, _, _, k⟩ := h
          exact k _ _ not0 upd_same
        · obtain ⟨c6, kvs, rfl, hp2, hF, k5⟩ := h
          obtain ⟨⟨n, g⟩, eg⟩ : ∃ x, fs[j]? = some x := ⟨fs[j]'(by rw [← keysLen htk]; exact (List.getElem?_eq_some_iff.mp ekv).1), List.getElem?_eq_getElem _⟩
          obtain ⟨l, e1, hl⟩ := hte j n g eg
          rw [ekv] at e1
          cases e1
          have hl2 : SelAt K H5 l g := (hl.kpN Kp.lock (noSqD htd)).kp k5
          have htf : H5 dt = some (.frz od (.dK kvt)) := k5 _ _ not0 upd_same
          have nm := nm_take hf.2.1 eg
          try simp (maxSteps := 1000000) only [tSeq, tIfS, tTest, tOp, tUn, tCB, tCons, tNil, tVar, tC, rI0, rI, rU, rEq, rNe, tRet, tRetN, tAsg, gName, gSub, tBM, tBM0, tNext, tB, tNot, tAnd, tOr, tIf, tCall, tDrop, tBreak, tCont, L2.start, tDGet, sDPut, tTup, tLst, tDNewK, tRevL, rCat, rAppend, rPop, rSetL, tAndV, tOrV, tNotV, tSl, tPart, tNoPart, tM1, gTup, gCons, gNil, cxK, cxnK, List.map_cons, List.map_nil, List.length_cons, List.length_nil, List.replicate, List.cons_append, List.nil_append, List.append_nil, List.set_cons_zero, List.set_cons_succ, List.getElem?_cons_zero, List.getElem?_cons_succ, Option.some.injEq, V.ref.injEq, V.int.injEq, V.str.injEq, V.bl.injEq, V.ty.injEq, exists_eq_left', exists_eq_left, exists_and_left, List.cons.injEq, and_true, true_and, sc_ii, sc_ss, sc_bb, sc_ni, sc_in, sc_is, sc_si, sc_nn, decide_true, decide_false, reduceCtorEq, Bool.false_eq_true, if_true, if_false, ite_true, ite_false, exists_const, eq_self, false_and, and_false, or_false, false_or, exists_false, Evl.rLenS, rSum, wipe, tYes, exists_eq, exists_eq', rIxL, rIxT, rIxS, exists_and_right, gt_iff_lt, not_true_eq_false, not_false_eq_true, Bool.not_true, Bool.not_false, decide_eq_true_eq, Nat.reduceSub, Nat.reduceAdd, List.append_assoc, tChain, tDIn, tDNotIn, sDDel, tAug, ipI]
          refine mkSel (g := g) (fun R h => ?_) fun o2 H6 no2 ho2 k6 => ?_
          · obtain ⟨ws, hw, hd⟩ := hl2
            try simp (maxSteps := 1000000) only [tSeq, tIfS, tTest, tOp, tUn, tCB, tCons, tNil, tVar, tC, rI0, rI, rU, rEq, rNe, tRet, tRetN, tAsg, gName, gSub, tBM, tBM0, tNext, tB, tNot, tAnd, tOr, tIf, tCall, tDrop, tBreak, tCont, L2.start, tDGet, sDPut, tTup, tLst, tDNewK, tRevL, rCat, rAppend, rPop, rSetL, tAndV, tOrV, tNotV, tSl, tPart, tNoPart, tM1, gTup, gCons, gNil, cxK, cxnK, List.map_cons, List.map_nil, List.length_cons, List.length_nil, List.replicate, List.cons_append, List.nil_append, List.append_nil, List.set_cons_zero, List.set_cons_succ, List.getElem?_cons_zero, List.getElem?_cons_succ, Option.some.injEq, V.ref.injEq, V.int.injEq, V.str.injEq, V.bl.injEq, V.ty.injEq, exists_eq_left', exists_eq_left, exists_and_left, List.cons.injEq, and_true, true_and, sc_ii, sc_ss, sc_bb, sc_ni, sc_in, sc_is, sc_si, sc_nn, decide_true, decide_false, reduceCtorEq, Bool.false_eq_true, if_true, if_false, ite_true, ite_false, exists_const, eq_self, false_and, and_false, or_false, false_or, exists_false, Evl.rLenS, rSum, wipe, tYes, exists_eq, exists_eq', rIxL, rIxT, rIxS, exists_and_right, gt_iff_lt, not_true_eq_false, not_false_eq_true, Bool.not_true, Bool.not_false, decide_eq_true_eq, Nat.reduceSub, Nat.reduceAdd, List.append_assoc, tChain, tDIn, tDNotIn, sDDel, tAug, ipI]
            refine ⟨V.ref l, .inl ⟨kvt, _, .inr ⟨od, htf⟩, rfl, (valV_mem (nodupK htk hf.2.1) (List.mem_of_getElem? ekv)).symm⟩, l, rfl, ws, .inl (sq_l hw), fun D nD => h D ws _ (.inl (sq_l upd_same)) (dpAllN (Kp.new nD) noSq0 hd) (Kp.new nD)⟩
          · obtain ⟨e1, e2⟩ := (hF.kp k6).put nm ho2
            have hp3 := k6 _ _ not0 hp2
            have npF : (upd H3 dt (.frz od (.dK kvt))) p = none := by rw [upd_ne pd]; exact np
            refine ⟨_, .inl ⟨kvs, _, hp3, rfl, ?_, rfl⟩, kvs ++ [(Sum.inr n, V.ref o2)], ?_, ?_, (k5.trans k6).wr npF⟩
            · rw [keysLen hF.1, List.length_take]
              exact smallL (by omega)
            · rw [upd_same, e1]
            · rw [e1, List.take_add_one, eg]
              exact e2.putD hp3
        · obtain ⟨c6, kvs, rfl, hp2, hF, k5⟩ := h
          rw [keysLen htk, List.take_length] at hF
          have htf : H5 dt = some (.frz od (.dK kvt)) := k5 _ _ not0 upd_same
          have kZ : Kp [] H3 (upd H5 dt (.dK kvt)) := Kp.unlock htd k5
          have hpZ : (upd H5 dt (.dK kvt)) p = some (.dK kvs) := by rw [upd_ne pd]; exact hp2
          have hFZ : Fen K PC (upd H5 dt (.dK kvt)) kvs fs := hF.unf htf
          generalize upd H5 dt (.dK kvt) = Z at kZ hpZ hFZ ⊢
          have hlkZ := hlk3.kp kZ
          try simp (maxSteps := 1000000) only [tSeq, tIfS, tTest, tOp, tUn, tCB, tCons, tNil, tVar, tC, rI0, rI, rU, rEq, rNe, tRet, tRetN, tAsg, gName, gSub, tBM, tBM0, tNext, tB, tNot, tAnd, tOr, tIf, tCall, tDrop, tBreak, tCont, L2.start, tDGet, sDPut, tTup, tLst, tDNewK, tRevL, rCat, rAppend, rPop, rSetL, tAndV, tOrV, tNotV, tSl, tPart, tNoPart, tM1, gTup, gCons, gNil, cxK, cxnK, List.map_cons, List.map_nil, List.length_cons, List.length_nil, List.replicate, List.cons_append, List.nil_append, List.append_nil, List.set_cons_zero, List.set_cons_succ, List.getElem?_cons_zero, List.getElem?_cons_succ, Option.some.injEq, V.ref.injEq, V.int.injEq, V.str.injEq, V.bl.injEq, V.ty.injEq, exists_eq_left', exists_eq_left, exists_and_left, List.cons.injEq, and_true, true_and, sc_ii, sc_ss, sc_bb, sc_ni, sc_in, sc_is, sc_si, sc_nn, decide_true, decide_false, reduceCtorEq, Bool.false_eq_true, if_true, if_false, ite_true, ite_false, exists_const, eq_self, false_and, and_false, or_false, false_or, exists_false, Evl.rLenS, rSum, wipe, tYes, exists_eq, exists_eq', rIxL, rIxT, rIxS, exists_and_right, gt_iff_lt, not_true_eq_false, not_false_eq_true, Bool.not_true, Bool.not_false, decide_eq_true_eq, Nat.reduceSub, Nat.reduceAdd, List.append_assoc, tChain, tDIn, tDNotIn, sDDel, tAug, ipI]
          refine mkSel (g := ff) (fun R h => ?_) fun he H6 nhe hhe k6 => ?_
          · obtain ⟨ws, hw, hd⟩ := hlkZ
            try simp (maxSteps := 1000000) only [tSeq, tIfS, tTest, tOp, tUn, tCB, tCons, tNil, tVar, tC, rI0, rI, rU, rEq, rNe, tRet, tRetN, tAsg, gName, gSub, tBM, tBM0, tNext, tB, tNot, tAnd, tOr, tIf, tCall, tDrop, tBreak, tCont, L2.start, tDGet, sDPut, tTup, tLst, tDNewK, tRevL, rCat, rAppend, rPop, rSetL, tAndV, tOrV, tNotV, tSl, tPart, tNoPart, tM1, gTup, gCons, gNil, cxK, cxnK, List.map_cons, List.map_nil, List.length_cons, List.length_nil, List.replicate, List.cons_append, List.nil_append, List.append_nil, List.set_cons_zero, List.set_cons_succ, List.getElem?_cons_zero, List.getElem?_cons_succ, Option.some.injEq, V.ref.injEq, V.int.injEq, V.str.injEq, V.bl.injEq, V.ty.injEq, exists_eq_left', exists_eq_left, exists_and_left, List.cons.injEq, and_true, true_and, sc_ii, sc_ss, sc_bb, sc_ni, sc_in, sc_is, sc_si, sc_nn, decide_true, decide_false, reduceCtorEq, Bool.false_eq_true, if_true, if_false, ite_true, ite_false, exists_const, eq_self, false_and, and_false, or_false, false_or, exists_false, Evl.rLenS, rSum, wipe, tYes, exists_eq, exists_eq', rIxL, rIxT, rIxS, exists_and_right, gt_iff_lt, not_true_eq_false, not_false_eq_true, Bool.not_true, Bool.not_false, decide_eq_true_eq, Nat.reduceSub, Nat.reduceAdd, List.append_assoc, tChain, tDIn, tDNotIn, sDDel, tAug, ipI]
            exact ⟨ws, .inl (sq_l hw), fun D nD => h D ws _ (.inl (sq_l upd_same)) (dpAllN (Kp.new nD) noSq0 hd) (Kp.new nD)⟩
          · refine mkBookK (f := ff) (fun R h => by try simp (maxSteps := 1000000) only [tSeq, tIfS, tTest, tOp, tUn, tCB, tCons, tNil, tVar, tC, rI0, rI, rU, rEq, rNe, tRet, tRetN, tAsg, gName, gSub, tBM, tBM0, tNext, tB, tNot, tAnd, tOr, tIf, tCall, tDrop, tBreak, tCont, L2.start, tDGet, sDPut, tTup, tLst, tDNewK, tRevL, rCat, rAppend, rPop, rSetL, tAndV, tOrV, tNotV, tSl, tPart, tNoPart, tM1, gTup, gCons, gNil, cxK, cxnK, List.map_cons, List.map_nil, List.length_cons, List.length_nil, List.replicate, List.cons_append, List.nil_append, List.append_nil, List.set_cons_zero, List.set_cons_succ, List.getElem?_cons_zero, List.getElem?_cons_succ, Option.some.injEq, V.ref.injEq, V.int.injEq, V.str.injEq, V.bl.injEq, V.ty.injEq, exists_eq_left', exists_eq_left, exists_and_left, List.cons.injEq, and_true, true_and, sc_ii, sc_ss, sc_bb, sc_ni, sc_in, sc_is, sc_si, sc_nn, decide_true, decide_false, reduceCtorEq, Bool.false_eq_true, if_true, if_false, ite_true, ite_false, exists_const, eq_self, false_and, and_false, or_false, false_or, exists_false, Evl.rLenS, rSum, wipe, tYes, exists_eq, exists_eq', rIxL, rIxT, rIxS, exists_and_right, gt_iff_lt, not_true_eq_false, not_false_eq_true, Bool.not_true, Bool.not_false, decide_eq_true_eq, Nat.reduceSub, Nat.reduceAdd, List.append_assoc, tChain, tDIn, tDNotIn, sDDel, tAug, ipI]; exact h he H6 hhe (Kp.refl _ _)) (fun H1 R h => by try simp (maxSteps := 1000000) only [tSeq, tIfS, tTest, tOp, tUn, tCB, tCons, tNil, tVar, tC, rI0, rI, rU, rEq, rNe, tRet, tRetN, tAsg, gName, gSub, tBM, tBM0, tNext, tB, tNot, tAnd, tOr, tIf, tCall, tDrop, tBreak, tCont, L2.start, tDGet, sDPut, tTup, tLst, tDNewK, tRevL, rCat, rAppend, rPop, rSetL, tAndV, tOrV, tNotV, tSl, tPart, tNoPart, tM1, gTup, gCons, gNil, cxK, cxnK, List.map_cons, List.map_nil, List.length_cons, List.length_nil, List.replicate, List.cons_append, List.nil_append, List.append_nil, List.set_cons_zero, List.set_cons_succ, List.getElem?_cons_zero, List.getElem?_cons_succ, Option.some.injEq, V.ref.injEq, V.int.injEq, V.str.injEq, V.bl.injEq, V.ty.injEq, exists_eq_left', exists_eq_left, exists_and_left, List.cons.injEq, and_true, true_and, sc_ii, sc_ss, sc_bb, sc_ni, sc_in, sc_is, sc_si, sc_nn, decide_true, decide_false, reduceCtorEq, Bool.false_eq_true, if_true, if_false, ite_true, ite_false, exists_const, eq_self, false_and, and_false, or_false, false_or, exists_false, Evl.rLenS, rSum, wipe, tYes, exists_eq, exists_eq', rIxL, rIxT, rIxS, exists_and_right, gt_iff_lt, not_true_eq_false, not_false_eq_true, Bool.not_true, Bool.not_false, decide_eq_true_eq, Nat.reduceSub, Nat.reduceAdd, List.append_assoc, tChain, tDIn, tDNotIn, sDDel, tAug, ipI]; exact h) (k6 _ _ not0 hpZ) (hFZ.kp k6) hf fun ob H7 nob hB k7 => ?_
            have kZ7 := (kZ.trans k6).trans k7
            have ho7 := kZ7 _ _ not0 ho3
            have fin : ∀ (ob : Addr) (H8 : Hp) (c6 : Option V), Kp [] H7 H8 → BookAt K BK PC H8 ob ff (full fs) → t { nx := fun x H' => Q V.non H', rt := Q } [some (.ref a), some (.ref o), c, some (.ref lk), some (.ref dt), some (.ref p), c6, some (.ref he), some (.ref ob), none, none, none] H8 := fun ob H8 c6 k8 hB8 => by
              have kZ8 := kZ7.trans k8
              exact hq _ _ ⟨a, o, lk, dt, p, he, ob, _, _, ms, ff, fs, kvs, rfl, sq_l (kZ8 _ _ not0 ho3), ⟨ml, mp⟩, hlk3.kp kZ8, hT.kp kZ8, hf, ((k6.trans k7).trans k8) _ _ not0 hpZ, ((hFZ.kp k6).kp k7).kp k8, (hhe.kp k7).kp k8, hB8, pd.symm⟩
            try simp (maxSteps := 1000000) only [tSeq, tIfS, tTest, tOp, tUn, tCB, tCons, tNil, tVar, tC, rI0, rI, rU, rEq, rNe, tRet, tRetN, tAsg, gName, gSub, tBM, tBM0, tNext, tB, tNot, tAnd, tOr, tIf, tCall, tDrop, tBreak, tCont, L2.start, tDGet, sDPut, tTup, tLst, tDNewK, tRevL, rCat, rAppend, rPop, rSetL, tAndV, tOrV, tNotV, tSl, tPart, tNoPart, tM1, gTup, gCons, gNil, cxK, cxnK, List.map_cons, List.map_nil, List.length_cons, List.length_nil, List.replicate, List.cons_append, List.nil_append, List.append_nil, List.set_cons_zero, List.set_cons_succ, List.getElem?_cons_zero, List.getElem?_cons_succ, Option.some.injEq, V.ref.injEq, V.int.injEq, V.str.injEq, V.bl.injEq, V.ty.injEq, exists_eq_left', exists_eq_left, exists_and_left, List.cons.injEq, and_true, true_and, sc_ii, sc_ss, sc_bb, sc_ni, sc_in, sc_is, sc_si, sc_nn, decide_true, decide_false, reduceCtorEq, Bool.false_eq_true, if_true, if_false, ite_true, ite_false, exists_const, eq_self, false_and, and_false, or_false, false_or, exists_false, Evl.rLenS, rSum, wipe, tYes, exists_eq, exists_eq', rIxL, rIxT, rIxS, exists_and_right, gt_iff_lt, not_true_eq_false, not_false_eq_true, Bool.not_true, Bool.not_false, decide_eq_true_eq, Nat.reduceSub, Nat.reduceAdd, List.append_assoc, tChain, tDIn, tDNotIn, sDDel, tAug, ipI]
            refine ⟨kvt, kZ7 _ _ not0 htd, ?_⟩
            refine ite2 (fun h => ?_) (fun _ => fin ob H7 _ (Kp.refl _ _) hB)
            refine ⟨_, sq_l ho7, _, e1, n1, rfl, ⟨by decide, by decide⟩, by decide, ?_⟩
            refine ite2 (fun _ => ?_) (fun _ => fin ob H7 _ (Kp.refl _ _) hB)
            have f0 : fs = [] := List.eq_nil_of_length_eq_zero (by rw [← keysLen htk]; omega)
            refine mkBook1 (f := ff) (fun R h => by try simp (maxSteps := 1000000) only [tSeq, tIfS, tTest, tOp, tUn, tCB, tCons, tNil, tVar, tC, rI0, rI, rU, rEq, rNe, tRet, tRetN, tAsg, gName, gSub, tBM, tBM0, tNext, tB, tNot, tAnd, tOr, tIf, tCall, tDrop, tBreak, tCont, L2.start, tDGet, sDPut, tTup, tLst, tDNewK, tRevL, rCat, rAppend, rPop, rSetL, tAndV, tOrV, tNotV, tSl, tPart, tNoPart, tM1, gTup, gCons, gNil, cxK, cxnK, List.map_cons, List.map_nil, List.length_cons, List.length_nil, List.replicate, List.cons_append, List.nil_append, List.append_nil, List.set_cons_zero, List.set_cons_succ, List.getElem?_cons_zero, List.getElem?_cons_succ, Option.some.injEq, V.ref.injEq, V.int.injEq, V.str.injEq, V.bl.injEq, V.ty.injEq, exists_eq_left', exists_eq_left, exists_and_left, List.cons.injEq, and_true, true_and, sc_ii, sc_ss, sc_bb, sc_ni, sc_in, sc_is, sc_si, sc_nn, decide_true, decide_false, reduceCtorEq, Bool.false_eq_true, if_true, if_false, ite_true, ite_false, exists_const, eq_self, false_and, and_false, or_false, false_or, exists_false, Evl.rLenS, rSum, wipe, tYes, exists_eq, exists_eq', rIxL, rIxT, rIxS, exists_and_right, gt_iff_lt, not_true_eq_false, not_false_eq_true, Bool.not_true, Bool.not_false, decide_eq_true_eq, Nat.reduceSub, Nat.reduceAdd, List.append_assoc, tChain, tDIn, tDNotIn, sDDel, tAug, ipI]; exact h he H7 (hhe.kp k7) (Kp.refl _ _)) fun ob2 H8 no2 hB2 k8 => ?_
            exact fin ob2 H8 _ k8 (by rw [f0]; exact hB2)
end
end My

set_option Elab.async false
set_option linter.all false
set_option maxRecDepth 100000
set_option maxHeartbeats 8000000
namespace My
open PySem L2 NdefX
theorem exm_sub {K : PySem.W.Frag} {S D : Addr} {b : Bool} (h1 : PySem.W.subIn K (.ref D) (.type "BaseException") = some true) (h2 : PySem.W.isClsIn K D = true) (h3 : PySem.W.typeIn K (.ref D) = some (.type "type"))
    (h4 : PySem.W.subIn K (.ref S) (.ref D) = some b) : PySem.W.exmOne K (.ref S) (.ref D) = some b := by
  have i2 : (PySem.W.clsIn K D).isSome = true := h2
  unfold PySem.W.exmOne
  simp [PySem.W.kitCls, h1, i2, h3, h4]
theorem kit_self {K : PySem.W.Frag} {S : Addr} : PySem.W.kitOne K (.ref S) (.ref S) = some true := by
  unfold PySem.W.kitOne
  rw [if_pos (beq_self_eq_true _)]
theorem kit_sub {K : PySem.W.Frag} {S D : Addr} {b : Bool} (h1 : ((Value.ref S) == (Value.ref D)) = false) (h2 : PySem.W.isClsIn K D = true) (h3 : PySem.W.typeIn K (.ref D) = some (.type "type")) (h4 : PySem.W.subIn K (.ref S) (.ref D) = some b) : PySem.W.kitOne K (.ref S) (.ref D) = some b := by
  have i2 : (PySem.W.clsIn K D).isSome = true := h2
  unfold PySem.W.kitOne
  rw [h1]
  simp [PySem.W.kitCls, i2, h3, h4]
theorem kit_ty {K : PySem.W.Frag} {S : Addr} {T : String} {b : Bool} (h1 : PySem.W.kitMeta T = true) (h4 : PySem.W.subIn K (.ref S) (.type T) = some b) : PySem.W.kitOne K (.ref S) (.type T) = some b := by
  unfold PySem.W.kitOne
  rw [if_neg (by rw [show ((Value.ref S) == (Value.type T)) = false from beq_eq_false_iff_ne.mpr (fun z => nomatch z)]; exact Bool.false_ne_true)]
  simp [PySem.W.kitCls, h1, h4]
theorem smallI_log {v : V} (h : SmallI v) : ∃ i : Int, v = .int i ∧ i.natAbs.log2 < 1920 := by
  obtain ⟨i, e, h0, h1⟩ := h
  refine ⟨i, e, ?_⟩
  by_cases e0 : i.natAbs = 0
  · rw [e0]; decide
  · rw [Nat.log2_lt e0]
    have h0 : (1000 : Nat) < 2 ^ 1920 := by decide +kernel
    omega
theorem pairsK_mk {K : PySem.W.Frag} {T : Addr} (rs : List Addr) (hT : ∀ H : Hp, SqT K H T (rs.map V.ref)) (h : Paired (fun r p => ∀ H : Hp, SqT K H r [V.str p.1, V.str p.2]) rs pairsL) : PairsK K T := by
  refine ⟨_, fun H => ⟨hT H, ?_⟩⟩
  have : ∀ {rs : List Addr} {ps : List Pr}, Paired (fun r p => ∀ H : Hp, SqT K H r [V.str p.1, V.str p.2]) rs ps → DpAll K H (rs.map V.ref) (ps.map pD) := by
    intro rs ps k
    induction k with
    | nil => exact .nil
    | cons a _ ih => exact .cons (.tup (a H) (.cons (.str _) (.cons (.str _) .nil))) ih
  exact this h
theorem all_mk {l : PySem.W.OpenLaw} {w : World} {K : PySem.W.Frag} {h : Heap} {mg : Str → Option Value} {fa : Addr} (X : K.In h) (G : h.Ns mainGlobals mg) (hfa : mg "law" = some (.ref fa))
    {f0 : Addr}
    {od0 an0 : Option Addr}
    {sl0 : Array (Option Value)}
    {oc0 kV0 dc0 pm0 cd0 ct0 : Value}
    {f1 : Addr}
    {od1 an1 : Option Addr}
    {sl1 : Array (Option Value)}
    {oc1 kV1 dc1 pm1 cd1 ct1 : Value}
    {f2 : Addr}
    {od2 an2 : Option Addr}
    {sl2 : Array (Option Value)}
    {oc2 kV2 dc2 pm2 cd2 ct2 : Value}
    {f3 : Addr}
    {od3 an3 : Option Addr}
    {sl3 : Array (Option Value)}
    {oc3 kV3 dc3 pm3 cd3 ct3 : Value}
    {f4 : Addr}
    {od4 an4 : Option Addr}
    {sl4 : Array (Option Value)}
    {oc4 kV4 dc4 pm4 cd4 ct4 : Value}
    {f5 : Addr}
    {od5 an5 : Option Addr}
    {sl5 : Array (Option Value)}
    {oc5 kV5 dc5 pm5 cd5 ct5 : Value}
    {f6 : Addr}
    {od6 an6 : Option Addr}
    {sl6 : Array (Option Value)}
    {oc6 kV6 dc6 pm6 cd6 ct6 : Value}
    {f7 : Addr}
    {od7 an7 : Option Addr}
    {sl7 : Array (Option Value)}
    {oc7 kV7 dc7 pm7 cd7 ct7 : Value}
    {f8 : Addr}
    {od8 an8 : Option Addr}
    {sl8 : Array (Option Value)}
    {oc8 kV8 dc8 pm8 cd8 ct8 : Value}
    {f9 : Addr}
    {od9 an9 : Option Addr}
    {sl9 : Array (Option Value)}
    {oc9 kV9 dc9 pm9 cd9 ct9 : Value}
    {f10 : Addr}
    {od10 an10 : Option Addr}
    {sl10 : Array (Option Value)}
    {oc10 kV10 dc10 pm10 cd10 ct10 : Value}
    {f11 : Addr}
    {od11 an11 : Option Addr}
    {sl11 : Array (Option Value)}
    {oc11 kV11 dc11 pm11 cd11 ct11 : Value}
    {f12 : Addr}
    {od12 an12 : Option Addr}
    {sl12 : Array (Option Value)}
    {oc12 kV12 dc12 pm12 cd12 ct12 : Value}
    {f13 : Addr}
    {od13 an13 : Option Addr}
    {sl13 : Array (Option Value)}
    {oc13 kV13 dc13 pm13 cd13 ct13 : Value}
    {f14 : Addr}
    {od14 an14 : Option Addr}
    {sl14 : Array (Option Value)}
    {oc14 kV14 dc14 pm14 cd14 ct14 : Value}
    {f15 : Addr}
    {od15 an15 : Option Addr}
    {sl15 : Array (Option Value)}
    {oc15 kV15 dc15 pm15 cd15 ct15 : Value}
    {f16 : Addr}
    {od16 an16 : Option Addr}
    {sl16 : Array (Option Value)}
    {oc16 kV16 dc16 pm16 cd16 ct16 : Value}
    {f17 : Addr}
    {od17 an17 : Option Addr}
    {sl17 : Array (Option Value)}
    {oc17 kV17 dc17 pm17 cd17 ct17 : Value}
    {f18 : Addr}
    {od18 an18 : Option Addr}
    {sl18 : Array (Option Value)}
    {oc18 kV18 dc18 pm18 cd18 ct18 : Value}
    {sL : Str}
    {tL : Tok}
    {sU : Str}
    {tU : Tok}
    {tX2 : Tok}
    {XG feG ccG cdaG NG : Addr}
    {nmG qnG fileG : Str}
    {bsG bmG sbG : List Value}
    {snG : List Str}
    {abG : Bool}
    {coG : Option Bool}
    {ddG odG anG cdG ceG : Option Addr}
    {m0G m1G m2G m3G m5G : Option Value}
    {vsG : Array Value}
    {tfG : Tok}
    {slG csG czG : Array (Option Value)}
    {ocG kVG dcG pmG ctG clG cxG : Value}
    {XP feP ccP cdaP NP : Addr}
    {nmP qnP fileP : Str}
    {bsP bmP sbP : List Value}
    {snP : List Str}
    {abP : Bool}
    {coP : Option Bool}
    {ddP odP anP cdP ceP : Option Addr}
    {m0P m1P m2P m3P m5P : Option Value}
    {vsP : Array Value}
    {tfP : Tok}
    {slP csP czP : Array (Option Value)}
    {ocP kVP dcP pmP ctP clP cxP : Value}
    {XF feF ccF cdaF NF : Addr}
    {nmF qnF fileF : Str}
    {bsF bmF sbF : List Value}
    {snF : List Str}
    {abF : Bool}
    {coF : Option Bool}
    {ddF odF anF cdF ceF : Option Addr}
    {m0F m1F m2F m3F m5F : Option Value}
    {vsF : Array Value}
    {tfF : Tok}
    {slF csF czF : Array (Option Value)}
    {ocF kVF dcF pmF ctF clF cxF : Value}
    {XQ feQ ccQ cdaQ NQ : Addr}
    {nmQ qnQ fileQ : Str}
    {bsQ bmQ sbQ : List Value}
    {snQ : List Str}
    {abQ : Bool}
    {coQ : Option Bool}
    {ddQ odQ anQ cdQ ceQ : Option Addr}
    {m0Q m1Q m2Q m3Q m5Q : Option Value}
    {vsQ : Array Value}
    {tfQ : Tok}
    {slQ csQ czQ : Array (Option Value)}
    {ocQ kVQ dcQ pmQ ctQ clQ cxQ : Value}
    {XC : Addr}
    {PR : Addr}
    {BO : Addr}
    {TD de DB DE dk TZ TP : Addr}
    {dtD dtE dtk dtZ dtPP : Option Addr}
    {itsD itsE itsk itsZ itsPP : Array Value}
    {ntD ntE ntk ntZ ntPP : Nat}
    {sqD sqE sqk sqZ sqPP : Array (Option Value)}
    {tcD : Value}
    {fRI : Addr}
    {odRI anRI : Option Addr}
    {slRI : Array (Option Value)}
    {ocRI kVRI dcRI pmRI cdRI ctRI : Value}
    {fRC : Addr}
    {odRC anRC : Option Addr}
    {slRC : Array (Option Value)}
    {ocRC kVRC dcRC pmRC cdRC ctRC : Value}
    {fRL : Addr}
    {odRL anRL : Option Addr}
    {slRL : Array (Option Value)}
    {ocRL kVRL dcRL pmRL cdRL ctRL : Value}
    {fRT : Addr}
    {odRT anRT : Option Addr}
    {slRT : Array (Option Value)}
    {ocRT kVRT dcRT pmRT cdRT ctRT : Value}
    {fRO : Addr}
    {odRO anRO : Option Addr}
    {slRO : Array (Option Value)}
    {ocRO kVRO dcRO pmRO cdRO ctRO : Value}
    {fKI : Addr}
    {odKI anKI : Option Addr}
    {slKI : Array (Option Value)}
    {ocKI dcKI pmKI cdKI ctKI : Value}
    {fKF : Addr}
    {odKF anKF : Option Addr}
    {slKF : Array (Option Value)}
    {ocKF kVKF dcKF pmKF cdKF ctKF : Value}
    {fKE : Addr}
    {odKE anKE : Option Addr}
    {slKE : Array (Option Value)}
    {ocKE kVKE dcKE pmKE cdKE ctKE : Value}
    {fKK : Addr}
    {odKK anKK : Option Addr}
    {slKK : Array (Option Value)}
    {ocKK dcKK pmKK cdKK ctKK : Value}
    {R0 R1 R2 R3 R4 R5 R6 R7 R8 R9 R10 R11 R12 R13 R14 R15 R16 R17 R18 R19 R20 R21 R22 R23 R24 R25 R26 : Addr}
    {dtr0 dtr1 dtr2 dtr3 dtr4 dtr5 dtr6 dtr7 dtr8 dtr9 dtr10 dtr11 dtr12 dtr13 dtr14 dtr15 dtr16 dtr17 dtr18 dtr19 dtr20 dtr21 dtr22 dtr23 dtr24 dtr25 dtr26 : Option Addr}
    {itr0 itr1 itr2 itr3 itr4 itr5 itr6 itr7 itr8 itr9 itr10 itr11 itr12 itr13 itr14 itr15 itr16 itr17 itr18 itr19 itr20 itr21 itr22 itr23 itr24 itr25 itr26 : Array Value}
    {ntr0 ntr1 ntr2 ntr3 ntr4 ntr5 ntr6 ntr7 ntr8 ntr9 ntr10 ntr11 ntr12 ntr13 ntr14 ntr15 ntr16 ntr17 ntr18 ntr19 ntr20 ntr21 ntr22 ntr23 ntr24 ntr25 ntr26 : Nat}
    {sqr0 sqr1 sqr2 sqr3 sqr4 sqr5 sqr6 sqr7 sqr8 sqr9 sqr10 sqr11 sqr12 sqr13 sqr14 sqr15 sqr16 sqr17 sqr18 sqr19 sqr20 sqr21 sqr22 sqr23 sqr24 sqr25 sqr26 : Array (Option Value)}
    (a0 : PySem.W.nsIn K mainGlobals "is_name" = some (some (.ref f0)))
    (l0 : K.lookup f0 = some ⟨oc0, od0, .func (PySem.W.fnOf "is_name" "is_name" (defArgs s_is_name) (defBody s_is_name) (defScope s_is_name) .none kV0 dc0 pm0 an0 cd0 ct0), sl0⟩)
    (c0 : PySem.W.codeIn K cd0 "is_name" = true)
    (k0 : PySem.W.keepIn K (.ref f0) = true)
    (a1 : PySem.W.nsIn K mainGlobals "is_fence_name" = some (some (.ref f1)))
    (l1 : K.lookup f1 = some ⟨oc1, od1, .func (PySem.W.fnOf "is_fence_name" "is_fence_name" (defArgs s_is_fence_name) (defBody s_is_fence_name) (defScope s_is_fence_name) .none kV1 dc1 pm1 an1 cd1 ct1), sl1⟩)
    (c1 : PySem.W.codeIn K cd1 "is_fence_name" = true)
    (k1 : PySem.W.keepIn K (.ref f1) = true)
    (a2 : PySem.W.nsIn K mainGlobals "_law_great" = some (some (.ref f2)))
    (l2 : K.lookup f2 = some ⟨oc2, od2, .func (PySem.W.fnOf "_law_great" "_law_great" (defArgs s_law_great) (defBody s_law_great) (defScope s_law_great) .none kV2 dc2 pm2 an2 cd2 ct2), sl2⟩)
    (c2 : PySem.W.codeIn K cd2 "_law_great" = true)
    (k2 : PySem.W.keepIn K (.ref f2) = true)
    (a3 : PySem.W.nsIn K mainGlobals "_law_draw" = some (some (.ref f3)))
    (l3 : K.lookup f3 = some ⟨oc3, od3, .func (PySem.W.fnOf "_law_draw" "_law_draw" (defArgs s_law_draw) (defBody s_law_draw) (defScope s_law_draw) .none kV3 dc3 pm3 an3 cd3 ct3), sl3⟩)
    (c3 : PySem.W.codeIn K cd3 "_law_draw" = true)
    (k3 : PySem.W.keepIn K (.ref f3) = true)
    (a4 : PySem.W.nsIn K mainGlobals "_law_pairs" = some (some (.ref f4)))
    (l4 : K.lookup f4 = some ⟨oc4, od4, .func (PySem.W.fnOf "_law_pairs" "_law_pairs" (defArgs s_law_pairs) (defBody s_law_pairs) (defScope s_law_pairs) .none kV4 dc4 pm4 an4 cd4 ct4), sl4⟩)
    (c4 : PySem.W.codeIn K cd4 "_law_pairs" = true)
    (k4 : PySem.W.keepIn K (.ref f4) = true)
    (a5 : PySem.W.nsIn K mainGlobals "_law_usual" = some (some (.ref f5)))
    (l5 : K.lookup f5 = some ⟨oc5, od5, .func (PySem.W.fnOf "_law_usual" "_law_usual" (defArgs s_law_usual) (defBody s_law_usual) (defScope s_law_usual) .none kV5 dc5 pm5 an5 cd5 ct5), sl5⟩)
    (c5 : PySem.W.codeIn K cd5 "_law_usual" = true)
    (k5 : PySem.W.keepIn K (.ref f5) = true)
    (a6 : PySem.W.nsIn K mainGlobals "_law_set" = some (some (.ref f6)))
    (l6 : K.lookup f6 = some ⟨oc6, od6, .func (PySem.W.fnOf "_law_set" "_law_set" (defArgs s_law_set) (defBody s_law_set) (defScope s_law_set) .none kV6 dc6 pm6 an6 cd6 ct6), sl6⟩)
    (c6 : PySem.W.codeIn K cd6 "_law_set" = true)
    (k6 : PySem.W.keepIn K (.ref f6) = true)
    (a7 : PySem.W.nsIn K mainGlobals "_law_name" = some (some (.ref f7)))
    (l7 : K.lookup f7 = some ⟨oc7, od7, .func (PySem.W.fnOf "_law_name" "_law_name" (defArgs s_law_name) (defBody s_law_name) (defScope s_law_name) .none kV7 dc7 pm7 an7 cd7 ct7), sl7⟩)
    (c7 : PySem.W.codeIn K cd7 "_law_name" = true)
    (k7 : PySem.W.keepIn K (.ref f7) = true)
    (a8 : PySem.W.nsIn K mainGlobals "_law_says" = some (some (.ref f8)))
    (l8 : K.lookup f8 = some ⟨oc8, od8, .func (PySem.W.fnOf "_law_says" "_law_says" (defArgs s_law_says) (defBody s_law_says) (defScope s_law_says) .none kV8 dc8 pm8 an8 cd8 ct8), sl8⟩)
    (c8 : PySem.W.codeIn K cd8 "_law_says" = true)
    (k8 : PySem.W.keepIn K (.ref f8) = true)
    (a9 : PySem.W.nsIn K mainGlobals "_law_row" = some (some (.ref f9)))
    (l9 : K.lookup f9 = some ⟨oc9, od9, .func (PySem.W.fnOf "_law_row" "_law_row" (defArgs s_law_row) (defBody s_law_row) (defScope s_law_row) .none kV9 dc9 pm9 an9 cd9 ct9), sl9⟩)
    (c9 : PySem.W.codeIn K cd9 "_law_row" = true)
    (k9 : PySem.W.keepIn K (.ref f9) = true)
    (a10 : PySem.W.nsIn K mainGlobals "_law_unknown" = some (some (.ref f10)))
    (l10 : K.lookup f10 = some ⟨oc10, od10, .func (PySem.W.fnOf "_law_unknown" "_law_unknown" (defArgs s_law_unknown) (defBody s_law_unknown) (defScope s_law_unknown) .none kV10 dc10 pm10 an10 cd10 ct10), sl10⟩)
    (c10 : PySem.W.codeIn K cd10 "_law_unknown" = true)
    (k10 : PySem.W.keepIn K (.ref f10) = true)
    (a11 : PySem.W.nsIn K mainGlobals "_law_keeps_refusal" = some (some (.ref f11)))
    (l11 : K.lookup f11 = some ⟨oc11, od11, .func (PySem.W.fnOf "_law_keeps_refusal" "_law_keeps_refusal" (defArgs s_law_keeps_refusal) (defBody s_law_keeps_refusal) (defScope s_law_keeps_refusal) .none kV11 dc11 pm11 an11 cd11 ct11), sl11⟩)
    (c11 : PySem.W.codeIn K cd11 "_law_keeps_refusal" = true)
    (k11 : PySem.W.keepIn K (.ref f11) = true)
    (a12 : PySem.W.nsIn K mainGlobals "_law_fence_refusal" = some (some (.ref f12)))
    (l12 : K.lookup f12 = some ⟨oc12, od12, .func (PySem.W.fnOf "_law_fence_refusal" "_law_fence_refusal" (defArgs s_law_fence_refusal) (defBody s_law_fence_refusal) (defScope s_law_fence_refusal) .none kV12 dc12 pm12 an12 cd12 ct12), sl12⟩)
    (c12 : PySem.W.codeIn K cd12 "_law_fence_refusal" = true)
    (k12 : PySem.W.keepIn K (.ref f12) = true)
    (a13 : PySem.W.nsIn K mainGlobals "_law_book_refusal" = some (some (.ref f13)))
    (l13 : K.lookup f13 = some ⟨oc13, od13, .func (PySem.W.fnOf "_law_book_refusal" "_law_book_refusal" (defArgs s_law_book_refusal) (defBody s_law_book_refusal) (defScope s_law_book_refusal) .none kV13 dc13 pm13 an13 cd13 ct13), sl13⟩)
    (c13 : PySem.W.codeIn K cd13 "_law_book_refusal" = true)
    (k13 : PySem.W.keepIn K (.ref f13) = true)
    (a14 : PySem.W.nsIn K mainGlobals "_law_is_book" = some (some (.ref f14)))
    (l14 : K.lookup f14 = some ⟨oc14, od14, .func (PySem.W.fnOf "_law_is_book" "_law_is_book" (defArgs s_law_is_book) (defBody s_law_is_book) (defScope s_law_is_book) .none kV14 dc14 pm14 an14 cd14 ct14), sl14⟩)
    (c14 : PySem.W.codeIn K cd14 "_law_is_book" = true)
    (k14 : PySem.W.keepIn K (.ref f14) = true)
    (a15 : PySem.W.nsIn K mainGlobals "_law_bad_names" = some (some (.ref f15)))
    (l15 : K.lookup f15 = some ⟨oc15, od15, .func (PySem.W.fnOf "_law_bad_names" "_law_bad_names" (defArgs s_law_bad_names) (defBody s_law_bad_names) (defScope s_law_bad_names) .none kV15 dc15 pm15 an15 cd15 ct15), sl15⟩)
    (c15 : PySem.W.codeIn K cd15 "_law_bad_names" = true)
    (k15 : PySem.W.keepIn K (.ref f15) = true)
    (a16 : PySem.W.nsIn K mainGlobals "_law_refuses" = some (some (.ref f16)))
    (l16 : K.lookup f16 = some ⟨oc16, od16, .func (PySem.W.fnOf "_law_refuses" "_law_refuses" (defArgs s_law_refuses) (defBody s_law_refuses) (defScope s_law_refuses) .none kV16 dc16 pm16 an16 cd16 ct16), sl16⟩)
    (c16 : PySem.W.codeIn K cd16 "_law_refuses" = true)
    (k16 : PySem.W.keepIn K (.ref f16) = true)
    (a17 : PySem.W.nsIn K mainGlobals "_law_grown" = some (some (.ref f17)))
    (l17 : K.lookup f17 = some ⟨oc17, od17, .func (PySem.W.fnOf "_law_grown" "_law_grown" (defArgs s_law_grown) (defBody s_law_grown) (defScope s_law_grown) .none kV17 dc17 pm17 an17 cd17 ct17), sl17⟩)
    (c17 : PySem.W.codeIn K cd17 "_law_grown" = true)
    (k17 : PySem.W.keepIn K (.ref f17) = true)
    (a18 : PySem.W.nsIn K mainGlobals "law" = some (some (.ref f18)))
    (l18 : K.lookup f18 = some ⟨oc18, od18, .func (PySem.W.fnOf "law" "law" (defArgs s_law) (defBody s_law) (defScope s_law) .none kV18 dc18 pm18 an18 cd18 ct18), sl18⟩)
    (c18 : PySem.W.codeIn K cd18 "law" = true)
    (k18 : PySem.W.keepIn K (.ref f18) = true)
    (z_isinstance : PySem.W.nsIn K mainGlobals "isinstance" = some none)
    (z_str : PySem.W.nsIn K mainGlobals "str" = some none)
    (z_len : PySem.W.nsIn K mainGlobals "len" = some none)
    (z_all : PySem.W.nsIn K mainGlobals "all" = some none)
    (z_any : PySem.W.nsIn K mainGlobals "any" = some none)
    (z_dict : PySem.W.nsIn K mainGlobals "dict" = some none)
    (z_sorted : PySem.W.nsIn K mainGlobals "sorted" = some none)
    (z_iter : PySem.W.nsIn K mainGlobals "iter" = some none)
    (z_int : PySem.W.nsIn K mainGlobals "int" = some none)
    (z_range : PySem.W.nsIn K mainGlobals "range" = some none)
    (z_list : PySem.W.nsIn K mainGlobals "list" = some none)
    (z_tuple : PySem.W.nsIn K mainGlobals "tuple" = some none)
    (z_ValueError : PySem.W.nsIn K mainGlobals "ValueError" = some none)
    (z_super : PySem.W.nsIn K mainGlobals "super" = some none)
    (gL : PySem.W.nsIn K mainGlobals "LETTERS" = some (some (.str sL tL)))
    (eL : sL = lets)
    (gU : PySem.W.nsIn K mainGlobals "FULL" = some (some (.str sU tU)))
    (eU : sU = ("full" : Str))
    (gX2 : PySem.W.nsIn K mainGlobals "MOST_FENCES" = some (some (.int 2 tX2)))
    (aG : PySem.W.nsIn K mainGlobals "TooLarge" = some (some (.ref XG)))
    (xG : K.lookup XG = some (excClassObj nmG qnG XG NG bsG bmG true snG sbG abG coG ddG m0G m1G m2G m3G m5G "ValueError.__new__"))
    (rG : PySem.HandSPX.refsVE bmG = true)
    (b1G : PySem.W.findIn K (.ref XG) "__setattr__" = some (some (.builtin "object.__setattr__")))
    (q1G : PySem.W.subIn K (.ref XG) (.type "BaseException") = some true)
    (q2G : PySem.W.isClsIn K XG = true)
    (q3G : PySem.W.typeIn K (.ref XG) = some (.type "type"))
    (b4G : PySem.W.keepIn K (.ref XG) = true)
    (b5G : PySem.W.findIn K (.ref XG) "__init__" = some (some (.ref feG)))
    (b6G : PySem.W.typeIn K (.ref feG) = some (.type "function"))
    (lG : K.lookup feG = some ⟨ocG, odG, .func (PySem.W.fnX "__init__" "TooLarge.__init__" (defArgs s_TooLarge_init) (defBody s_TooLarge_init) (defScope s_TooLarge_init) [("__class__", ccG)] .none kVG dcG pmG anG (.ref cdaG) ctG), slG⟩)
    (cG : PySem.W.codeIn K (.ref cdaG) "TooLarge.__init__" = true)
    (kG : PySem.W.keepIn K (.ref feG) = true)
    (eG : K.lookup ccG = some ⟨clG, cdG, .cell (some (.ref XG)), csG⟩)
    (b7G : PySem.W.ks_superIn K XG XG "__init__" = some (some (.builtin "ValueError.__init__")))
    (b8G : PySem.W.subIn K (.ref XG) (.type "ValueError") = some true)
    (b9 : PySem.W.nsIn K cStatics "thirdparty.any" = some none)
    (b14 : (l.prog.main.scope.names.lookup ("super" : Str)).isSome = false)
    (b31 : PySem.W.kitMeta "ValueError" = true)
    (p12 : PySem.W.specialIn K (.builtin "object.__class__") "__get__" = some (some (.builtin "getset_descriptor.__get__")))
    (p13 : PySem.W.takesIn K (.builtin "object.__class__") = some true)
    (b10G : PySem.W.mroIn K XG (.ref XG) = some true)
    (b11G : K.lookup cdaG = some ⟨cxG, ceG, .fields vsG, czG⟩)
    (b12G : vsG[2]? = some (.str fileG tfG))
    (b13G : ((l.prog.main.file : Str) == fileG) = true)
    (b15G : PySem.W.findIn K (.ref XG) "bound" = some none)
    (b17G : PySem.W.findIn K (.ref XG) "__getattribute__" = some (some (.builtin "BaseException.__getattribute__")))
    (b18G : PySem.W.findIn K (.ref XG) "__getattr__" = some none)
    (b19G : PySem.W.hasDictIn K XG = true)
    (b25G : PySem.W.findIn K (.ref XG) "__class__" = some (some (.builtin "object.__class__")))
    (b26G : PySem.W.mroIn K XG (.type "object") = some true)
    (aP : PySem.W.nsIn K mainGlobals "BadPair" = some (some (.ref XP)))
    (xP : K.lookup XP = some (excClassObj nmP qnP XP NP bsP bmP true snP sbP abP coP ddP m0P m1P m2P m3P m5P "ValueError.__new__"))
    (rP : PySem.HandSPX.refsVE bmP = true)
    (b1P : PySem.W.findIn K (.ref XP) "__setattr__" = some (some (.builtin "object.__setattr__")))
    (q1P : PySem.W.subIn K (.ref XP) (.type "BaseException") = some true)
    (q2P : PySem.W.isClsIn K XP = true)
    (q3P : PySem.W.typeIn K (.ref XP) = some (.type "type"))
    (b4P : PySem.W.keepIn K (.ref XP) = true)
    (b5P : PySem.W.findIn K (.ref XP) "__init__" = some (some (.ref feP)))
    (b6P : PySem.W.typeIn K (.ref feP) = some (.type "function"))
    (lP : K.lookup feP = some ⟨ocP, odP, .func (PySem.W.fnX "__init__" "BadPair.__init__" (defArgs s_BadPair_init) (defBody s_BadPair_init) (defScope s_BadPair_init) [("__class__", ccP)] .none kVP dcP pmP anP (.ref cdaP) ctP), slP⟩)
    (cP : PySem.W.codeIn K (.ref cdaP) "BadPair.__init__" = true)
    (kP : PySem.W.keepIn K (.ref feP) = true)
    (eP : K.lookup ccP = some ⟨clP, cdP, .cell (some (.ref XP)), csP⟩)
    (b7P : PySem.W.ks_superIn K XP XP "__init__" = some (some (.builtin "ValueError.__init__")))
    (b8P : PySem.W.subIn K (.ref XP) (.type "ValueError") = some true)
    (b10P : PySem.W.mroIn K XP (.ref XP) = some true)
    (b11P : K.lookup cdaP = some ⟨cxP, ceP, .fields vsP, czP⟩)
    (b12P : vsP[2]? = some (.str fileP tfP))
    (b13P : ((l.prog.main.file : Str) == fileP) = true)
    (b15P : PySem.W.findIn K (.ref XP) "pair" = some none)
    (b17P : PySem.W.findIn K (.ref XP) "__getattribute__" = some (some (.builtin "BaseException.__getattribute__")))
    (b18P : PySem.W.findIn K (.ref XP) "__getattr__" = some none)
    (b19P : PySem.W.hasDictIn K XP = true)
    (b25P : PySem.W.findIn K (.ref XP) "__class__" = some (some (.builtin "object.__class__")))
    (b26P : PySem.W.mroIn K XP (.type "object") = some true)
    (aF : PySem.W.nsIn K mainGlobals "BadFence" = some (some (.ref XF)))
    (xF : K.lookup XF = some (excClassObj nmF qnF XF NF bsF bmF true snF sbF abF coF ddF m0F m1F m2F m3F m5F "ValueError.__new__"))
    (rF : PySem.HandSPX.refsVE bmF = true)
    (b1F : PySem.W.findIn K (.ref XF) "__setattr__" = some (some (.builtin "object.__setattr__")))
    (q1F : PySem.W.subIn K (.ref XF) (.type "BaseException") = some true)
    (q2F : PySem.W.isClsIn K XF = true)
    (q3F : PySem.W.typeIn K (.ref XF) = some (.type "type"))
    (b4F : PySem.W.keepIn K (.ref XF) = true)
    (b5F : PySem.W.findIn K (.ref XF) "__init__" = some (some (.ref feF)))
    (b6F : PySem.W.typeIn K (.ref feF) = some (.type "function"))
    (lF : K.lookup feF = some ⟨ocF, odF, .func (PySem.W.fnX "__init__" "BadFence.__init__" (defArgs s_BadFence_init) (defBody s_BadFence_init) (defScope s_BadFence_init) [("__class__", ccF)] .none kVF dcF pmF anF (.ref cdaF) ctF), slF⟩)
    (cF : PySem.W.codeIn K (.ref cdaF) "BadFence.__init__" = true)
    (kF : PySem.W.keepIn K (.ref feF) = true)
    (eF : K.lookup ccF = some ⟨clF, cdF, .cell (some (.ref XF)), csF⟩)
    (b7F : PySem.W.ks_superIn K XF XF "__init__" = some (some (.builtin "ValueError.__init__")))
    (b8F : PySem.W.subIn K (.ref XF) (.type "ValueError") = some true)
    (b10F : PySem.W.mroIn K XF (.ref XF) = some true)
    (b11F : K.lookup cdaF = some ⟨cxF, ceF, .fields vsF, czF⟩)
    (b12F : vsF[2]? = some (.str fileF tfF))
    (b13F : ((l.prog.main.file : Str) == fileF) = true)
    (b15F : PySem.W.findIn K (.ref XF) "name" = some none)
    (b17F : PySem.W.findIn K (.ref XF) "__getattribute__" = some (some (.builtin "BaseException.__getattribute__")))
    (b18F : PySem.W.findIn K (.ref XF) "__getattr__" = some none)
    (b19F : PySem.W.hasDictIn K XF = true)
    (b25F : PySem.W.findIn K (.ref XF) "__class__" = some (some (.builtin "object.__class__")))
    (b26F : PySem.W.mroIn K XF (.type "object") = some true)
    (aQ : PySem.W.nsIn K mainGlobals "NoFence" = some (some (.ref XQ)))
    (xQ : K.lookup XQ = some (excClassObj nmQ qnQ XQ NQ bsQ bmQ true snQ sbQ abQ coQ ddQ m0Q m1Q m2Q m3Q m5Q "ValueError.__new__"))
    (rQ : PySem.HandSPX.refsVE bmQ = true)
    (b1Q : PySem.W.findIn K (.ref XQ) "__setattr__" = some (some (.builtin "object.__setattr__")))
    (q1Q : PySem.W.subIn K (.ref XQ) (.type "BaseException") = some true)
    (q2Q : PySem.W.isClsIn K XQ = true)
    (q3Q : PySem.W.typeIn K (.ref XQ) = some (.type "type"))
    (b4Q : PySem.W.keepIn K (.ref XQ) = true)
    (b5Q : PySem.W.findIn K (.ref XQ) "__init__" = some (some (.ref feQ)))
    (b6Q : PySem.W.typeIn K (.ref feQ) = some (.type "function"))
    (lQ : K.lookup feQ = some ⟨ocQ, odQ, .func (PySem.W.fnX "__init__" "NoFence.__init__" (defArgs s_NoFence_init) (defBody s_NoFence_init) (defScope s_NoFence_init) [("__class__", ccQ)] .none kVQ dcQ pmQ anQ (.ref cdaQ) ctQ), slQ⟩)
    (cQ : PySem.W.codeIn K (.ref cdaQ) "NoFence.__init__" = true)
    (kQ : PySem.W.keepIn K (.ref feQ) = true)
    (eQ : K.lookup ccQ = some ⟨clQ, cdQ, .cell (some (.ref XQ)), csQ⟩)
    (b7Q : PySem.W.ks_superIn K XQ XQ "__init__" = some (some (.builtin "ValueError.__init__")))
    (b8Q : PySem.W.subIn K (.ref XQ) (.type "ValueError") = some true)
    (b10Q : PySem.W.mroIn K XQ (.ref XQ) = some true)
    (b11Q : K.lookup cdaQ = some ⟨cxQ, ceQ, .fields vsQ, czQ⟩)
    (b12Q : vsQ[2]? = some (.str fileQ tfQ))
    (b13Q : ((l.prog.main.file : Str) == fileQ) = true)
    (b15Q : PySem.W.findIn K (.ref XQ) "name" = some none)
    (b17Q : PySem.W.findIn K (.ref XQ) "__getattribute__" = some (some (.builtin "BaseException.__getattribute__")))
    (b18Q : PySem.W.findIn K (.ref XQ) "__getattr__" = some none)
    (b19Q : PySem.W.hasDictIn K XQ = true)
    (b25Q : PySem.W.findIn K (.ref XQ) "__class__" = some (some (.builtin "object.__class__")))
    (b26Q : PySem.W.mroIn K XQ (.type "object") = some true)
    (aC : PySem.W.nsIn K mainGlobals "CoreError" = some (some (.ref XC)))
    (q1C : PySem.W.subIn K (.ref XC) (.type "BaseException") = some true)
    (q2C : PySem.W.isClsIn K XC = true)
    (q3C : PySem.W.typeIn K (.ref XC) = some (.type "type"))
    (aR : PySem.W.nsIn K mainGlobals "Pairs" = some (some (.ref PR)))
    (p1R : PySem.W.plainGet K PR Str.empty = true)
    (p2R : PySem.W.hasDictIn K PR = true)
    (p3R : PySem.W.plainOver K PR = true)
    (p4R : PySem.W.findIn K (.ref PR) "__setattr__" = some (some (.builtin "object.__setattr__")))
    (n0R : PySem.W.findIn K (.ref PR) "_pairs" = some none)
    (p9R : PySem.W.keepIn K (.ref PR) = true)
    (aK : PySem.W.nsIn K mainGlobals "Book" = some (some (.ref BO)))
    (p1K : PySem.W.plainGet K BO Str.empty = true)
    (p2K : PySem.W.hasDictIn K BO = true)
    (p3K : PySem.W.plainOver K BO = true)
    (p4K : PySem.W.findIn K (.ref BO) "__setattr__" = some (some (.builtin "object.__setattr__")))
    (n0K : PySem.W.findIn K (.ref BO) "kept" = some none)
    (n1K : PySem.W.findIn K (.ref BO) "_fences" = some none)
    (p9K : PySem.W.keepIn K (.ref BO) = true)
    (p5R : PySem.W.makesIn K PR = true)
    (p5K : PySem.W.makesIn K BO = true)
    (p10R : PySem.W.selfFirst K PR = true)
    (p11R : PySem.W.findIn K (.ref PR) "__class__" = some (some (.builtin "object.__class__")))
    (p14R : PySem.W.mroIn K PR (.type "object") = some true)
    (mRI : PySem.W.findIn K (.ref PR) "__init__" = some (some (.ref fRI)))
    (hRI : PySem.W.isFn K (.ref fRI) = true)
    (lRI : K.lookup fRI = some ⟨ocRI, odRI, .func (PySem.W.fnOf "__init__" "Pairs.__init__" (defArgs s_Pairs_init) (defBody s_Pairs_init) (defScope s_Pairs_init) (.ref TD) kVRI dcRI pmRI anRI cdRI ctRI), slRI⟩)
    (cRI : PySem.W.codeIn K cdRI "Pairs.__init__" = true)
    (kRI : PySem.W.keepIn K (.ref fRI) = true)
    (mRC : PySem.W.findIn K (.ref PR) "__contains__" = some (some (.ref fRC)))
    (hRC : PySem.W.isFn K (.ref fRC) = true)
    (lRC : K.lookup fRC = some ⟨ocRC, odRC, .func (PySem.W.fnOf "__contains__" "Pairs.__contains__" (defArgs s_Pairs_contains) (defBody s_Pairs_contains) (defScope s_Pairs_contains) .none kVRC dcRC pmRC anRC cdRC ctRC), slRC⟩)
    (cRC : PySem.W.codeIn K cdRC "Pairs.__contains__" = true)
    (kRC : PySem.W.keepIn K (.ref fRC) = true)
    (mRL : PySem.W.findIn K (.ref PR) "__len__" = some (some (.ref fRL)))
    (hRL : PySem.W.isFn K (.ref fRL) = true)
    (lRL : K.lookup fRL = some ⟨ocRL, odRL, .func (PySem.W.fnOf "__len__" "Pairs.__len__" (defArgs s_Pairs_len) (defBody s_Pairs_len) (defScope s_Pairs_len) .none kVRL dcRL pmRL anRL cdRL ctRL), slRL⟩)
    (cRL : PySem.W.codeIn K cdRL "Pairs.__len__" = true)
    (kRL : PySem.W.keepIn K (.ref fRL) = true)
    (mRT : PySem.W.findIn K (.ref PR) "__iter__" = some (some (.ref fRT)))
    (hRT : PySem.W.isFn K (.ref fRT) = true)
    (lRT : K.lookup fRT = some ⟨ocRT, odRT, .func (PySem.W.fnOf "__iter__" "Pairs.__iter__" (defArgs s_Pairs_iter) (defBody s_Pairs_iter) (defScope s_Pairs_iter) .none kVRT dcRT pmRT anRT cdRT ctRT), slRT⟩)
    (cRT : PySem.W.codeIn K cdRT "Pairs.__iter__" = true)
    (kRT : PySem.W.keepIn K (.ref fRT) = true)
    (mRO : PySem.W.findIn K (.ref PR) "__or__" = some (some (.ref fRO)))
    (hRO : PySem.W.isFn K (.ref fRO) = true)
    (lRO : K.lookup fRO = some ⟨ocRO, odRO, .func (PySem.W.fnOf "__or__" "Pairs.__or__" (defArgs s_Pairs_or) (defBody s_Pairs_or) (defScope s_Pairs_or) .none kVRO dcRO pmRO anRO cdRO ctRO), slRO⟩)
    (cRO : PySem.W.codeIn K cdRO "Pairs.__or__" = true)
    (kRO : PySem.W.keepIn K (.ref fRO) = true)
    (mKI : PySem.W.findIn K (.ref BO) "__init__" = some (some (.ref fKI)))
    (hKI : PySem.W.isFn K (.ref fKI) = true)
    (lKI : K.lookup fKI = some ⟨ocKI, odKI, .func (PySem.W.fnOf "__init__" "Book.__init__" (defArgs s_Book_init) (defBody s_Book_init) (defScope s_Book_init) .none (.ref DB) dcKI pmKI anKI cdKI ctKI), slKI⟩)
    (cKI : PySem.W.codeIn K cdKI "Book.__init__" = true)
    (kKI : PySem.W.keepIn K (.ref fKI) = true)
    (mKF : PySem.W.findIn K (.ref BO) "fences" = some (some (.ref fKF)))
    (hKF : PySem.W.isFn K (.ref fKF) = true)
    (lKF : K.lookup fKF = some ⟨ocKF, odKF, .func (PySem.W.fnOf "fences" "Book.fences" (defArgs s_Book_fences) (defBody s_Book_fences) (defScope s_Book_fences) .none kVKF dcKF pmKF anKF cdKF ctKF), slKF⟩)
    (cKF : PySem.W.codeIn K cdKF "Book.fences" = true)
    (kKF : PySem.W.keepIn K (.ref fKF) = true)
    (mKE : PySem.W.findIn K (.ref BO) "fence" = some (some (.ref fKE)))
    (hKE : PySem.W.isFn K (.ref fKE) = true)
    (lKE : K.lookup fKE = some ⟨ocKE, odKE, .func (PySem.W.fnOf "fence" "Book.fence" (defArgs s_Book_fence) (defBody s_Book_fence) (defScope s_Book_fence) .none kVKE dcKE pmKE anKE cdKE ctKE), slKE⟩)
    (cKE : PySem.W.codeIn K cdKE "Book.fence" = true)
    (kKE : PySem.W.keepIn K (.ref fKE) = true)
    (mKK : PySem.W.findIn K (.ref BO) "keeps" = some (some (.ref fKK)))
    (hKK : PySem.W.isFn K (.ref fKK) = true)
    (lKK : K.lookup fKK = some ⟨ocKK, odKK, .func (PySem.W.fnOf "keeps" "Book.keeps" (defArgs s_Book_keeps) (defBody s_Book_keeps) (defScope s_Book_keeps) .none (.ref DE) dcKK pmKK anKK cdKK ctKK), slKK⟩)
    (cKK : PySem.W.codeIn K cdKK "Book.keeps" = true)
    (kKK : PySem.W.keepIn K (.ref fKK) = true)
    (vD : K.lookup TD = some ⟨tcD, dtD, .seq itsD ntD, sqD⟩)
    (uD : itsD = #[.ref de])
    (vE : K.lookup de = some ⟨.type "tuple", dtE, .seq itsE ntE, sqE⟩)
    (uE : itsE = #[])
    (d1 : PySem.W.nsIn K DB "fences" = some (some .none))
    (d2 : PySem.W.nsIn K DE "between" = some (some (.ref dk)))
    (vk : K.lookup dk = some ⟨.type "tuple", dtk, .seq itsk ntk, sqk⟩)
    (uk : itsk = #[])
    (gZ : PySem.W.nsIn K mainGlobals "KINDS" = some (some (.ref TZ)))
    (vZ : K.lookup TZ = some ⟨.type "tuple", dtZ, .seq itsZ ntZ, sqZ⟩)
    (uZ : itsZ.size ≤ sizeLine ∧ Vals ((["read", "acquire", "write", "release", "both"] : List Str).map V.str) itsZ.toList)
    (gPP : PySem.W.nsIn K mainGlobals "PAIRS" = some (some (.ref TP)))
    (vPP : K.lookup TP = some ⟨.type "tuple", dtPP, .seq itsPP ntPP, sqPP⟩)
    (uPP : itsPP = #[.ref R0, .ref R1, .ref R2, .ref R3, .ref R4, .ref R5, .ref R6, .ref R7, .ref R8, .ref R9, .ref R10, .ref R11, .ref R12, .ref R13, .ref R14, .ref R15, .ref R16, .ref R17, .ref R18, .ref R19, .ref R20, .ref R21, .ref R22, .ref R23, .ref R24, .ref R25, .ref R26])
    (vr0 : K.lookup R0 = some ⟨.type "tuple", dtr0, .seq itr0 ntr0, sqr0⟩)
    (ur0 : itr0.size ≤ sizeLine ∧ Vals ([.str "read", .str "read"]) itr0.toList)
    (vr1 : K.lookup R1 = some ⟨.type "tuple", dtr1, .seq itr1 ntr1, sqr1⟩)
    (ur1 : itr1.size ≤ sizeLine ∧ Vals ([.str "read", .str "acquire"]) itr1.toList)
    (vr2 : K.lookup R2 = some ⟨.type "tuple", dtr2, .seq itr2 ntr2, sqr2⟩)
    (ur2 : itr2.size ≤ sizeLine ∧ Vals ([.str "read", .str "write"]) itr2.toList)
    (vr3 : K.lookup R3 = some ⟨.type "tuple", dtr3, .seq itr3 ntr3, sqr3⟩)
    (ur3 : itr3.size ≤ sizeLine ∧ Vals ([.str "read", .str "release"]) itr3.toList)
    (vr4 : K.lookup R4 = some ⟨.type "tuple", dtr4, .seq itr4 ntr4, sqr4⟩)
    (ur4 : itr4.size ≤ sizeLine ∧ Vals ([.str "read", .str "both"]) itr4.toList)
    (vr5 : K.lookup R5 = some ⟨.type "tuple", dtr5, .seq itr5 ntr5, sqr5⟩)
    (ur5 : itr5.size ≤ sizeLine ∧ Vals ([.str "acquire", .str "read"]) itr5.toList)
    (vr6 : K.lookup R6 = some ⟨.type "tuple", dtr6, .seq itr6 ntr6, sqr6⟩)
    (ur6 : itr6.size ≤ sizeLine ∧ Vals ([.str "acquire", .str "acquire"]) itr6.toList)
    (vr7 : K.lookup R7 = some ⟨.type "tuple", dtr7, .seq itr7 ntr7, sqr7⟩)
    (ur7 : itr7.size ≤ sizeLine ∧ Vals ([.str "acquire", .str "write"]) itr7.toList)
    (vr8 : K.lookup R8 = some ⟨.type "tuple", dtr8, .seq itr8 ntr8, sqr8⟩)
    (ur8 : itr8.size ≤ sizeLine ∧ Vals ([.str "acquire", .str "release"]) itr8.toList)
    (vr9 : K.lookup R9 = some ⟨.type "tuple", dtr9, .seq itr9 ntr9, sqr9⟩)
    (ur9 : itr9.size ≤ sizeLine ∧ Vals ([.str "acquire", .str "both"]) itr9.toList)
    (vr10 : K.lookup R10 = some ⟨.type "tuple", dtr10, .seq itr10 ntr10, sqr10⟩)
    (ur10 : itr10.size ≤ sizeLine ∧ Vals ([.str "write", .str "read"]) itr10.toList)
    (vr11 : K.lookup R11 = some ⟨.type "tuple", dtr11, .seq itr11 ntr11, sqr11⟩)
    (ur11 : itr11.size ≤ sizeLine ∧ Vals ([.str "write", .str "acquire"]) itr11.toList)
    (vr12 : K.lookup R12 = some ⟨.type "tuple", dtr12, .seq itr12 ntr12, sqr12⟩)
    (ur12 : itr12.size ≤ sizeLine ∧ Vals ([.str "write", .str "write"]) itr12.toList)
    (vr13 : K.lookup R13 = some ⟨.type "tuple", dtr13, .seq itr13 ntr13, sqr13⟩)
    (ur13 : itr13.size ≤ sizeLine ∧ Vals ([.str "write", .str "release"]) itr13.toList)
    (vr14 : K.lookup R14 = some ⟨.type "tuple", dtr14, .seq itr14 ntr14, sqr14⟩)
    (ur14 : itr14.size ≤ sizeLine ∧ Vals ([.str "write", .str "both"]) itr14.toList)
    (vr15 : K.lookup R15 = some ⟨.type "tuple", dtr15, .seq itr15 ntr15, sqr15⟩)
    (ur15 : itr15.size ≤ sizeLine ∧ Vals ([.str "write", .str "return"]) itr15.toList)
    (vr16 : K.lookup R16 = some ⟨.type "tuple", dtr16, .seq itr16 ntr16, sqr16⟩)
    (ur16 : itr16.size ≤ sizeLine ∧ Vals ([.str "release", .str "read"]) itr16.toList)
    (vr17 : K.lookup R17 = some ⟨.type "tuple", dtr17, .seq itr17 ntr17, sqr17⟩)
    (ur17 : itr17.size ≤ sizeLine ∧ Vals ([.str "release", .str "acquire"]) itr17.toList)
    (vr18 : K.lookup R18 = some ⟨.type "tuple", dtr18, .seq itr18 ntr18, sqr18⟩)
    (ur18 : itr18.size ≤ sizeLine ∧ Vals ([.str "release", .str "write"]) itr18.toList)
    (vr19 : K.lookup R19 = some ⟨.type "tuple", dtr19, .seq itr19 ntr19, sqr19⟩)
    (ur19 : itr19.size ≤ sizeLine ∧ Vals ([.str "release", .str "release"]) itr19.toList)
    (vr20 : K.lookup R20 = some ⟨.type "tuple", dtr20, .seq itr20 ntr20, sqr20⟩)
    (ur20 : itr20.size ≤ sizeLine ∧ Vals ([.str "release", .str "both"]) itr20.toList)
    (vr21 : K.lookup R21 = some ⟨.type "tuple", dtr21, .seq itr21 ntr21, sqr21⟩)
    (ur21 : itr21.size ≤ sizeLine ∧ Vals ([.str "release", .str "return"]) itr21.toList)
    (vr22 : K.lookup R22 = some ⟨.type "tuple", dtr22, .seq itr22 ntr22, sqr22⟩)
    (ur22 : itr22.size ≤ sizeLine ∧ Vals ([.str "both", .str "read"]) itr22.toList)
    (vr23 : K.lookup R23 = some ⟨.type "tuple", dtr23, .seq itr23 ntr23, sqr23⟩)
    (ur23 : itr23.size ≤ sizeLine ∧ Vals ([.str "both", .str "acquire"]) itr23.toList)
    (vr24 : K.lookup R24 = some ⟨.type "tuple", dtr24, .seq itr24 ntr24, sqr24⟩)
    (ur24 : itr24.size ≤ sizeLine ∧ Vals ([.str "both", .str "write"]) itr24.toList)
    (vr25 : K.lookup R25 = some ⟨.type "tuple", dtr25, .seq itr25 ntr25, sqr25⟩)
    (ur25 : itr25.size ≤ sizeLine ∧ Vals ([.str "both", .str "release"]) itr25.toList)
    (vr26 : K.lookup R26 = some ⟨.type "tuple", dtr26, .seq itr26 ntr26, sqr26⟩)
    (ur26 : itr26.size ≤ sizeLine ∧ Vals ([.str "both", .str "both"]) itr26.toList)
    (sGC : PySem.W.subIn K (.ref XG) (.ref XC) = some true)
    (sPC : PySem.W.subIn K (.ref XP) (.ref XC) = some true)
    (sFC : PySem.W.subIn K (.ref XF) (.ref XC) = some true)
    (sQC : PySem.W.subIn K (.ref XQ) (.ref XC) = some true)
    (sQQ : PySem.W.subIn K (.ref XQ) (.ref XQ) = some true)
    (sPQ : PySem.W.subIn K (.ref XP) (.ref XQ) = some false)
    (ePQ : ((Value.ref XP) == (Value.ref XQ)) = false)
    (sQP : PySem.W.subIn K (.ref XQ) (.ref XP) = some false)
    (eQP : ((Value.ref XQ) == (Value.ref XP)) = false)
    (sQF : PySem.W.subIn K (.ref XQ) (.ref XF) = some false)
    (eQF : ((Value.ref XQ) == (Value.ref XF)) = false)
    (sGF : PySem.W.subIn K (.ref XG) (.ref XF) = some false)
    (eGF : ((Value.ref XG) == (Value.ref XF)) = false)
    (sFG : PySem.W.subIn K (.ref XF) (.ref XG) = some false)
    (eFG : ((Value.ref XF) == (Value.ref XG)) = false)
    (sFQ : PySem.W.subIn K (.ref XF) (.ref XQ) = some false)
    (eFQ : ((Value.ref XF) == (Value.ref XQ)) = false) :
    ∃ fd : FuncData, (∀ (s : Shared) (v : Value), BindsTo s fd ⟨[v], []⟩ [("_law_script", v)]) ∧ ∀ base : Heap, K.In base → base.Ns mainGlobals mg → FnOk l.prog w K mg base CX0 8 fa fd ["_law_script"] (spLaw K) := by
  cases hfa.symm.trans (PySem.W.mg_of X G a18)
  subst eL eU uD uE uk uPP
  refine ⟨PySem.W.fnOf "law" "law" (defArgs s_law) (defBody s_law) (defScope s_law) .none kV18 dc18 pm18 an18 cd18 ct18, fun s v => .of_eq rfl, fun base _ _ => ?_⟩
  have hde : ∀ H : Hp, SqT K H de [] := fun H => .inr ⟨_, _, ntE, vE, rfl, rfl, by decide, .nil⟩
  have hdk : ∀ H : Hp, SqT K H dk [] := fun H => .inr ⟨_, _, ntk, vk, rfl, rfl, by decide, .nil⟩
  have tZ : ∀ H, SqT K H TZ (kindsL.map V.str) := fun H => .inr ⟨_, itsZ, ntZ, vZ, rfl, rfl, uZ.1, uZ.2⟩
  have pk : PairsK K TP := by
    refine pairsK_mk [R0, R1, R2, R3, R4, R5, R6, R7, R8, R9, R10, R11, R12, R13, R14, R15, R16, R17, R18, R19, R20, R21, R22, R23, R24, R25, R26] (fun H => .inr ⟨_, _, ntPP, vPP, rfl, rfl, show 27 ≤ sizeLine by decide, by exact .cons rfl (.cons rfl (.cons rfl (.cons rfl (.cons rfl (.cons rfl (.cons rfl (.cons rfl (.cons rfl (.cons rfl (.cons rfl (.cons rfl (.cons rfl (.cons rfl (.cons rfl (.cons rfl (.cons rfl (.cons rfl (.cons rfl (.cons rfl (.cons rfl (.cons rfl (.cons rfl (.cons rfl (.cons rfl (.cons rfl (.cons rfl (.nil)))))))))))))))))))))))))))⟩) ?_
    rw [show pairsL = ([("read", "read"), ("read", "acquire"), ("read", "write"), ("read", "release"), ("read", "both"), ("acquire", "read"), ("acquire", "acquire"), ("acquire", "write"), ("acquire", "release"), ("acquire", "both"), ("write", "read"), ("write", "acquire"), ("write", "write"), ("write", "release"), ("write", "both"), ("write", "return"), ("release", "read"), ("release", "acquire"), ("release", "write"), ("release", "release"), ("release", "both"), ("release", "return"), ("both", "read"), ("both", "acquire"), ("both", "write"), ("both", "release"), ("both", "both")] : List Pr) from by decide +kernel]
    exact .cons (fun H => .inr ⟨_, itr0, ntr0, vr0, rfl, rfl, ur0.1, ur0.2⟩) (.cons (fun H => .inr ⟨_, itr1, ntr1, vr1, rfl, rfl, ur1.1, ur1.2⟩) (.cons (fun H => .inr ⟨_, itr2, ntr2, vr2, rfl, rfl, ur2.1, ur2.2⟩) (.cons (fun H => .inr ⟨_, itr3, ntr3, vr3, rfl, rfl, ur3.1, ur3.2⟩) (.cons (fun H => .inr ⟨_, itr4, ntr4, vr4, rfl, rfl, ur4.1, ur4.2⟩) (.cons (fun H => .inr ⟨_, itr5, ntr5, vr5, rfl, rfl, ur5.1, ur5.2⟩) (.cons (fun H => .inr ⟨_, itr6, ntr6, vr6, rfl, rfl, ur6.1, ur6.2⟩) (.cons (fun H => .inr ⟨_, itr7, ntr7, vr7, rfl, rfl, ur7.1, ur7.2⟩) (.cons (fun H => .inr ⟨_, itr8, ntr8, vr8, rfl, rfl, ur8.1, ur8.2⟩) (.cons (fun H => .inr ⟨_, itr9, ntr9, vr9, rfl, rfl, ur9.1, ur9.2⟩) (.cons (fun H => .inr ⟨_, itr10, ntr10, vr10, rfl, rfl, ur10.1, ur10.2⟩) (.cons (fun H => .inr ⟨_, itr11, ntr11, vr11, rfl, rfl, ur11.1, ur11.2⟩) (.cons (fun H => .inr ⟨_, itr12, ntr12, vr12, rfl, rfl, ur12.1, ur12.2⟩) (.cons (fun H => .inr ⟨_, itr13, ntr13, vr13, rfl, rfl, ur13.1, ur13.2⟩) (.cons (fun H => .inr ⟨_, itr14, ntr14, vr14, rfl, rfl, ur14.1, ur14.2⟩) (.cons (fun H => .inr ⟨_, itr15, ntr15, vr15, rfl, rfl, ur15.1, ur15.2⟩) (.cons (fun H => .inr ⟨_, itr16, ntr16, vr16, rfl, rfl, ur16.1, ur16.2⟩) (.cons (fun H => .inr ⟨_, itr17, ntr17, vr17, rfl, rfl, ur17.1, ur17.2⟩) (.cons (fun H => .inr ⟨_, itr18, ntr18, vr18, rfl, rfl, ur18.1, ur18.2⟩) (.cons (fun H => .inr ⟨_, itr19, ntr19, vr19, rfl, rfl, ur19.1, ur19.2⟩) (.cons (fun H => .inr ⟨_, itr20, ntr20, vr20, rfl, rfl, ur20.1, ur20.2⟩) (.cons (fun H => .inr ⟨_, itr21, ntr21, vr21, rfl, rfl, ur21.1, ur21.2⟩) (.cons (fun H => .inr ⟨_, itr22, ntr22, vr22, rfl, rfl, ur22.1, ur22.2⟩) (.cons (fun H => .inr ⟨_, itr23, ntr23, vr23, rfl, rfl, ur23.1, ur23.2⟩) (.cons (fun H => .inr ⟨_, itr24, ntr24, vr24, rfl, rfl, ur24.1, ur24.2⟩) (.cons (fun H => .inr ⟨_, itr25, ntr25, vr25, rfl, rfl, ur25.1, ur25.2⟩) (.cons (fun H => .inr ⟨_, itr26, ntr26, vr26, rfl, rfl, ur26.1, ur26.2⟩) (.nil)))))))))))))))))))))))))))
  have T0 : Bt0 mg := ⟨(PySem.W.mg_none_of X G z_len), (PySem.W.mg_none_of X G z_int), (PySem.W.mg_none_of X G z_range), (PySem.W.mg_none_of X G z_list), (PySem.W.mg_none_of X G z_tuple)⟩
  have TB : Bt K mg TP := ⟨(PySem.W.mg_none_of X G z_len), (PySem.W.mg_none_of X G z_iter), (PySem.W.mg_none_of X G z_all), (PySem.W.mg_of X G gPP), pk⟩
  have TBB : BtB mg tL := ⟨(PySem.W.mg_none_of X G z_isinstance), (PySem.W.mg_none_of X G z_str), (PySem.W.mg_none_of X G z_len), (PySem.W.mg_none_of X G z_all), (PySem.W.mg_none_of X G z_any), (PySem.W.mg_none_of X G z_dict), (PySem.W.mg_none_of X G z_sorted), (PySem.W.mg_of X G gL)⟩
  have TBK : BtK K mg TZ := ⟨(PySem.W.mg_of X G gZ), tZ⟩
  have TBC : BtC K mg tL TP := ⟨TBB, (PySem.W.mg_none_of X G z_iter), (PySem.W.mg_of X G gPP), pk⟩
  have MP : Mk K PR fRI := ⟨p5R, mRI, hRI, p9R⟩
  have MB : Mk K BO fKI := ⟨p5K, mKI, hKI, p9K⟩
  have TBI : BtI K mg tL tU tX2 TP PR fRI := ⟨TBC, (PySem.W.mg_of X G gU), (PySem.W.mg_of X G gX2), MP⟩
  have T2 : Bt2 K mg TP PR fRI := ⟨TB, (PySem.W.mg_of X G aR), MP⟩
  have CL : Cls K PR := ⟨p1R, p2R, p3R, p4R⟩
  have C : PrC K mg PR := ⟨(PySem.W.mg_of X G aR), CL, n0R⟩
  have B : BkC K mg BO := ⟨(PySem.W.mg_of X G aK), ⟨p1K, p2K, p3K, p4K⟩, n0K, n1K⟩
  have OXG : OexC K XG := ⟨⟨nmG, qnG, NG, bsG, bmG, snG, sbG, abG, coG, ddG, m0G, m1G, m2G, m3G, m5G, xG, rG⟩, b1G, q1G, q3G, b4G⟩
  have ECG : ErrC K XG := ⟨OXG, b7G, b8G, b9, b10G⟩
  have CFG : CodeF K l.prog cdaG := ⟨⟨cxG, ceG, vsG, czG, fileG, tfG, b11G, b12G, b13G⟩, b14⟩
  have FXG : FunX K "__init__" "TooLarge.__init__" s_TooLarge_init feG _ ccG cdaG XG := ⟨⟨ocG, odG, kVG, dcG, pmG, anG, ctG, slG, rfl, lG, cG⟩, ⟨clG, cdG, csG, eG⟩, kG⟩
  have KTG : KitC K XG := ⟨q2G, b17G, b18G, q1G, b25G, p12, p13, b26G⟩
  have GXG := ok_TooLarge_init (P := l.prog) (w := w) (base := base) (mg := mg) (CX := L2.CX l.prog w) (Pf := SmallI) FXG ECG CFG (PySem.W.mg_none_of X G z_super) b15G (fun v h => smallI_log h)
  have ERG : Er1 l.prog w K mg base "TooLarge" "bound" XG feG _ ["self", "bound"] SmallI := ⟨(PySem.W.mg_of X G aG), OXG, b5G, b6G, .all fun us hl => match us, hl with | [_, _], _ => rfl, GXG⟩
  have OXP : OexC K XP := ⟨⟨nmP, qnP, NP, bsP, bmP, snP, sbP, abP, coP, ddP, m0P, m1P, m2P, m3P, m5P, xP, rP⟩, b1P, q1P, q3P, b4P⟩
  have ECP : ErrC K XP := ⟨OXP, b7P, b8P, b9, b10P⟩
  have CFP : CodeF K l.prog cdaP := ⟨⟨cxP, ceP, vsP, czP, fileP, tfP, b11P, b12P, b13P⟩, b14⟩
  have FXP : FunX K "__init__" "BadPair.__init__" s_BadPair_init feP _ ccP cdaP XP := ⟨⟨ocP, odP, kVP, dcP, pmP, anP, ctP, slP, rfl, lP, cP⟩, ⟨clP, cdP, csP, eP⟩, kP⟩
  have KTP : KitC K XP := ⟨q2P, b17P, b18P, q1P, b25P, p12, p13, b26P⟩
  have GXP := ok_BadPair_init (P := l.prog) (w := w) (base := base) (mg := mg) (CX := L2.CX l.prog w) (Pf := (fun _ => True)) FXP ECP CFP (PySem.W.mg_none_of X G z_super) b15P
  have ERP : Er1 l.prog w K mg base "BadPair" "pair" XP feP _ ["self", "pair"] (fun _ => True) := ⟨(PySem.W.mg_of X G aP), OXP, b5P, b6P, .all fun us hl => match us, hl with | [_, _], _ => rfl, GXP⟩
  have OXF : OexC K XF := ⟨⟨nmF, qnF, NF, bsF, bmF, snF, sbF, abF, coF, ddF, m0F, m1F, m2F, m3F, m5F, xF, rF⟩, b1F, q1F, q3F, b4F⟩
  have ECF : ErrC K XF := ⟨OXF, b7F, b8F, b9, b10F⟩
  have CFF : CodeF K l.prog cdaF := ⟨⟨cxF, ceF, vsF, czF, fileF, tfF, b11F, b12F, b13F⟩, b14⟩
  have FXF : FunX K "__init__" "BadFence.__init__" s_BadFence_init feF _ ccF cdaF XF := ⟨⟨ocF, odF, kVF, dcF, pmF, anF, ctF, slF, rfl, lF, cF⟩, ⟨clF, cdF, csF, eF⟩, kF⟩
  have KTF : KitC K XF := ⟨q2F, b17F, b18F, q1F, b25F, p12, p13, b26F⟩
  have GXF := ok_BadFence_init (P := l.prog) (w := w) (base := base) (mg := mg) (CX := L2.CX l.prog w) (Pf := (fun _ => True)) FXF ECF CFF (PySem.W.mg_none_of X G z_super) b15F
  have ERF : Er1 l.prog w K mg base "BadFence" "name" XF feF _ ["self", "name"] (fun _ => True) := ⟨(PySem.W.mg_of X G aF), OXF, b5F, b6F, .all fun us hl => match us, hl with | [_, _], _ => rfl, GXF⟩
  have OXQ : OexC K XQ := ⟨⟨nmQ, qnQ, NQ, bsQ, bmQ, snQ, sbQ, abQ, coQ, ddQ, m0Q, m1Q, m2Q, m3Q, m5Q, xQ, rQ⟩, b1Q, q1Q, q3Q, b4Q⟩
  have ECQ : ErrC K XQ := ⟨OXQ, b7Q, b8Q, b9, b10Q⟩
  have CFQ : CodeF K l.prog cdaQ := ⟨⟨cxQ, ceQ, vsQ, czQ, fileQ, tfQ, b11Q, b12Q, b13Q⟩, b14⟩
  have FXQ : FunX K "__init__" "NoFence.__init__" s_NoFence_init feQ _ ccQ cdaQ XQ := ⟨⟨ocQ, odQ, kVQ, dcQ, pmQ, anQ, ctQ, slQ, rfl, lQ, cQ⟩, ⟨clQ, cdQ, csQ, eQ⟩, kQ⟩
  have KTQ : KitC K XQ := ⟨q2Q, b17Q, b18Q, q1Q, b25Q, p12, p13, b26Q⟩
  have GXQ := ok_NoFence_init (P := l.prog) (w := w) (base := base) (mg := mg) (CX := L2.CX l.prog w) (Pf := (fun _ => True)) FXQ ECQ CFQ (PySem.W.mg_none_of X G z_super) b15Q
  have ERQ : Er1 l.prog w K mg base "NoFence" "name" XQ feQ _ ["self", "name"] (fun _ => True) := ⟨(PySem.W.mg_of X G aQ), OXQ, b5Q, b6Q, .all fun us hl => match us, hl with | [_, _], _ => rfl, GXQ⟩
  have TF : BtF K mg XQ := ⟨(PySem.W.mg_of X G aQ), ⟨b17Q, b18Q, q1Q, b19Q⟩, b15Q, exm_sub q1Q q2Q q3Q sQQ⟩
  have TKR : BtKR K mg XC XP XQ XF := ⟨(PySem.W.mg_of X G aC), (PySem.W.mg_of X G aP), (PySem.W.mg_of X G aQ), (PySem.W.mg_of X G aF), ⟨b17P, b18P, q1P, b19P⟩, b15P, ⟨b17Q, b18Q, q1Q, b19Q⟩, b15Q, exm_sub q1C q2C q3C sPC, exm_sub q1C q2C q3C sQC, KTP, KTQ, kit_self, kit_ty b31 b8P, kit_sub ePQ q2Q q3Q sPQ, kit_sub eQP q2P q3P sQP, kit_self, kit_ty b31 b8Q, kit_sub eQF q2F q3F sQF, (PySem.W.mg_none_of X G z_isinstance), (PySem.W.mg_none_of X G z_ValueError)⟩
  have TBR : BtBR K mg XC XG XQ XF PR BO fRI fKI := ⟨(PySem.W.mg_of X G aC), (PySem.W.mg_of X G aG), (PySem.W.mg_of X G aQ), (PySem.W.mg_of X G aF), ⟨b17G, b18G, q1G, b19G⟩, b15G, ⟨b17F, b18F, q1F, b19F⟩, b15F, exm_sub q1C q2C q3C sGC, exm_sub q1C q2C q3C sFC, KTG, KTF, kit_self, kit_ty b31 b8G, kit_sub eGF q2F q3F sGF, kit_sub eFG q2G q3G sFG, kit_self, kit_ty b31 b8F, kit_sub eFQ q2Q q3Q sFQ, (PySem.W.mg_none_of X G z_isinstance), (PySem.W.mg_none_of X G z_ValueError), (PySem.W.mg_none_of X G z_list), MP, MB⟩
  have F0 := fun_mk (st := s_is_name) l0 c0 k0
  have D0 : Df K mg "is_name" s_is_name ["value"] f0 _ := ⟨F0, PySem.W.mg_of X G a0, F0.binds (ps := ["value"]) fun _ _ _ _ _ _ us hl => match us, hl with | [_], _ => rfl⟩
  have F1 := fun_mk (st := s_is_fence_name) l1 c1 k1
  have D1 : Df K mg "is_fence_name" s_is_fence_name ["name"] f1 _ := ⟨F1, PySem.W.mg_of X G a1, F1.binds (ps := ["name"]) fun _ _ _ _ _ _ us hl => match us, hl with | [_], _ => rfl⟩
  have F2 := fun_mk (st := s_law_great) l2 c2 k2
  have D2 : Df K mg "_law_great" s_law_great ["_law_cell", "_law_k"] f2 _ := ⟨F2, PySem.W.mg_of X G a2, F2.binds (ps := ["_law_cell", "_law_k"]) fun _ _ _ _ _ _ us hl => match us, hl with | [_, _], _ => rfl⟩
  have F3 := fun_mk (st := s_law_draw) l3 c3 k3
  have D3 : Df K mg "_law_draw" s_law_draw ["_law_script", "_law_k"] f3 _ := ⟨F3, PySem.W.mg_of X G a3, F3.binds (ps := ["_law_script", "_law_k"]) fun _ _ _ _ _ _ us hl => match us, hl with | [_, _], _ => rfl⟩
  have F4 := fun_mk (st := s_law_pairs) l4 c4 k4
  have D4 : Df K mg "_law_pairs" s_law_pairs [] f4 _ := ⟨F4, PySem.W.mg_of X G a4, F4.binds (ps := []) fun _ _ _ _ _ _ us hl => match us, hl with | [], _ => rfl⟩
  have F5 := fun_mk (st := s_law_usual) l5 c5 k5
  have D5 : Df K mg "_law_usual" s_law_usual ["_law_which"] f5 _ := ⟨F5, PySem.W.mg_of X G a5, F5.binds (ps := ["_law_which"]) fun _ _ _ _ _ _ us hl => match us, hl with | [_], _ => rfl⟩
  have F6 := fun_mk (st := s_law_set) l6 c6 k6
  have D6 : Df K mg "_law_set" s_law_set ["_law_number"] f6 _ := ⟨F6, PySem.W.mg_of X G a6, F6.binds (ps := ["_law_number"]) fun _ _ _ _ _ _ us hl => match us, hl with | [_], _ => rfl⟩
  have F7 := fun_mk (st := s_law_name) l7 c7 k7
  have D7 : Df K mg "_law_name" s_law_name ["_law_number", "_law_taken"] f7 _ := ⟨F7, PySem.W.mg_of X G a7, F7.binds (ps := ["_law_number", "_law_taken"]) fun _ _ _ _ _ _ us hl => match us, hl with | [_, _], _ => rfl⟩
  have F8 := fun_mk (st := s_law_says) l8 c8 k8
  have D8 : Df K mg "_law_says" s_law_says ["_law_told", "_law_due"] f8 _ := ⟨F8, PySem.W.mg_of X G a8, F8.binds (ps := ["_law_told", "_law_due"]) fun _ _ _ _ _ _ us hl => match us, hl with | [_, _], _ => rfl⟩
  have F9 := fun_mk (st := s_law_row) l9 c9 k9
  have D9 : Df K mg "_law_row" s_law_row ["_law_number", "_law_names"] f9 _ := ⟨F9, PySem.W.mg_of X G a9, F9.binds (ps := ["_law_number", "_law_names"]) fun _ _ _ _ _ _ us hl => match us, hl with | [_, _], _ => rfl⟩
  have F10 := fun_mk (st := s_law_unknown) l10 c10 k10
  have D10 : Df K mg "_law_unknown" s_law_unknown ["_law_number", "_law_names"] f10 _ := ⟨F10, PySem.W.mg_of X G a10, F10.binds (ps := ["_law_number", "_law_names"]) fun _ _ _ _ _ _ us hl => match us, hl with | [_, _], _ => rfl⟩
  have F11 := fun_mk (st := s_law_keeps_refusal) l11 c11 k11
  have D11 : Df K mg "_law_keeps_refusal" s_law_keeps_refusal ["_law_made", "_law_first", "_law_second", "_law_row_here"] f11 _ := ⟨F11, PySem.W.mg_of X G a11, F11.binds (ps := ["_law_made", "_law_first", "_law_second", "_law_row_here"]) fun _ _ _ _ _ _ us hl => match us, hl with | [_, _, _, _], _ => rfl⟩
  have F12 := fun_mk (st := s_law_fence_refusal) l12 c12 k12
  have D12 : Df K mg "_law_fence_refusal" s_law_fence_refusal ["_law_made", "_law_name_here"] f12 _ := ⟨F12, PySem.W.mg_of X G a12, F12.binds (ps := ["_law_made", "_law_name_here"]) fun _ _ _ _ _ _ us hl => match us, hl with | [_, _], _ => rfl⟩
  have F13 := fun_mk (st := s_law_book_refusal) l13 c13 k13
  have D13 : Df K mg "_law_book_refusal" s_law_book_refusal ["_law_kept", "_law_table"] f13 _ := ⟨F13, PySem.W.mg_of X G a13, F13.binds (ps := ["_law_kept", "_law_table"]) fun _ _ _ _ _ _ us hl => match us, hl with | [_, _], _ => rfl⟩
  have F14 := fun_mk (st := s_law_is_book) l14 c14 k14
  have D14 : Df K mg "_law_is_book" s_law_is_book ["_law_made", "_law_kept", "_law_table", "_law_row_here"] f14 _ := ⟨F14, PySem.W.mg_of X G a14, F14.binds (ps := ["_law_made", "_law_kept", "_law_table", "_law_row_here"]) fun _ _ _ _ _ _ us hl => match us, hl with | [_, _, _, _], _ => rfl⟩
  have F15 := fun_mk (st := s_law_bad_names) l15 c15 k15
  have D15 : Df K mg "_law_bad_names" s_law_bad_names ["_law_number", "_law_names"] f15 _ := ⟨F15, PySem.W.mg_of X G a15, F15.binds (ps := ["_law_number", "_law_names"]) fun _ _ _ _ _ _ us hl => match us, hl with | [_, _], _ => rfl⟩
  have F16 := fun_mk (st := s_law_refuses) l16 c16 k16
  have D16 : Df K mg "_law_refuses" s_law_refuses ["_law_made", "_law_kept", "_law_row_here", "_law_number"] f16 _ := ⟨F16, PySem.W.mg_of X G a16, F16.binds (ps := ["_law_made", "_law_kept", "_law_row_here", "_law_number"]) fun _ _ _ _ _ _ us hl => match us, hl with | [_, _, _, _], _ => rfl⟩
  have F17 := fun_mk (st := s_law_grown) l17 c17 k17
  have D17 : Df K mg "_law_grown" s_law_grown ["_law_made", "_law_kept", "_law_table", "_law_row_here", "_law_more"] f17 _ := ⟨F17, PySem.W.mg_of X G a17, F17.binds (ps := ["_law_made", "_law_kept", "_law_table", "_law_row_here", "_law_more"]) fun _ _ _ _ _ _ us hl => match us, hl with | [_, _, _, _, _], _ => rfl⟩
  have F18 := fun_mk (st := s_law) l18 c18 k18
  have D18 : Df K mg "law" s_law ["_law_script"] fa _ := ⟨F18, PySem.W.mg_of X G a18, F18.binds (ps := ["_law_script"]) fun _ _ _ _ _ _ us hl => match us, hl with | [_], _ => rfl⟩
  have FRC := fun_mk (st := s_Pairs_contains) lRC cRC kRC
  have bRC : Binds K _ ["self", "x"] [] := FRC.binds (ps := ["self", "x"]) fun _ _ _ _ _ _ us hl => match us, hl with | [_, _], _ => rfl
  have FRL := fun_mk (st := s_Pairs_len) lRL cRL kRL
  have bRL : Binds K _ ["self"] [] := FRL.binds (ps := ["self"]) fun _ _ _ _ _ _ us hl => match us, hl with | [_], _ => rfl
  have FRT := fun_mk (st := s_Pairs_iter) lRT cRT kRT
  have bRT : Binds K _ ["self"] [] := FRT.binds (ps := ["self"]) fun _ _ _ _ _ _ us hl => match us, hl with | [_], _ => rfl
  have FRO := fun_mk (st := s_Pairs_or) lRO cRO kRO
  have bRO : Binds K _ ["self", "other"] [] := FRO.binds (ps := ["self", "other"]) fun _ _ _ _ _ _ us hl => match us, hl with | [_, _], _ => rfl
  have FKF := fun_mk (st := s_Book_fences) lKF cKF kKF
  have bKF : Binds K _ ["self"] [] := FKF.binds (ps := ["self"]) fun _ _ _ _ _ _ us hl => match us, hl with | [_], _ => rfl
  have FKE := fun_mk (st := s_Book_fence) lKE cKE kKE
  have bKE : Binds K _ ["self", "name"] [] := FKE.binds (ps := ["self", "name"]) fun _ _ _ _ _ _ us hl => match us, hl with | [_, _], _ => rfl
  have LN : LenC K PR fRL := ⟨mRL, hRL⟩
  have IT : IterC K PR fRT fRL := ⟨mRT, hRT, LN⟩
  have IN : InC K PR fRC := ⟨mRC, hRC⟩
  have BC : BinC K PR fRO .BitOr := ⟨p10R, mRO, hRO⟩
  have MKF : Meth K BO _ fKF := ⟨mKF, hKF, kKF⟩
  have MKE : Meth K BO _ fKE := ⟨mKE, hKE, kKE⟩
  have MKK : Meth K BO _ fKK := ⟨mKK, hKK, kKK⟩
  have TIB : BtIB K mg PR fRC fRL fRT := ⟨T0, (PySem.W.mg_of X G aR), CL, kit_self, p11R, p12, p13, p14R, (PySem.W.mg_none_of X G z_isinstance), (PySem.W.mg_none_of X G z_sorted), LN, IT⟩
  have TGr : BtGr K mg PR BO fRI fKI := ⟨T0, MP, MB⟩
  have TL : BtL K mg PR BO fRI fKI fRT fRL := ⟨⟨⟨T0, (PySem.W.mg_none_of X G z_sorted)⟩, (PySem.W.mg_of X G aR), MP, LN, IT⟩, MB⟩
  have FRI : FunD K "__init__" "Pairs.__init__" (defArgs s_Pairs_init) (defBody s_Pairs_init) (defScope s_Pairs_init) [V.ref de] [] fRI _ := ⟨⟨ocRI, odRI, .ref TD, kVRI, dcRI, pmRI, anRI, cdRI, ctRI, slRI, rfl, lRI, cRI, .inr ⟨fun z => (nomatch z), TD, _, [.ref de], ntD, rfl, vD, rfl, .cons rfl .nil⟩, .inl rfl⟩, kRI⟩
  obtain ⟨ds1, hds1, bI⟩ := FRI.binds1 (ps := ["self", "pairs"]) 2 1 (fun z => nomatch z) rfl fun T kV doc pm an cdv ct us its h1 h2 => match us, h1, its, h2 with | [_, _], _, [_], _ => ⟨_, rfl, rfl⟩
  cases hds1
  obtain ⟨ds, hds, bD⟩ := FRI.binds1 (ps := ["self", "pairs"]) 1 0 (fun z => nomatch z) rfl fun T kV doc pm an cdv ct us its h1 h2 => match us, h1, its, h2 with | [_], _, [_], _ => ⟨_, rfl, rfl⟩
  have FKI0 : FunD K "__init__" "Book.__init__" (defArgs s_Book_init) (defBody s_Book_init) (defScope s_Book_init) [] [] fKI _ := ⟨⟨ocKI, odKI, .none, .ref DB, dcKI, pmKI, anKI, cdKI, ctKI, slKI, rfl, lKI, cKI, .inl ⟨rfl, rfl⟩, .inl rfl⟩, kKI⟩
  have FKI : FunD K "__init__" "Book.__init__" (defArgs s_Book_init) (defBody s_Book_init) (defScope s_Book_init) [] [("fences", V.non)] fKI _ := ⟨⟨ocKI, odKI, .none, .ref DB, dcKI, pmKI, anKI, cdKI, ctKI, slKI, rfl, lKI, cKI, .inl ⟨rfl, rfl⟩, .inr ⟨DB, rfl, fun q hq => by
    rw [List.mem_singleton.mp hq]
    exact ⟨_, d1, rfl⟩⟩⟩, kKI⟩
  have FKK0 : FunD K "keeps" "Book.keeps" (defArgs s_Book_keeps) (defBody s_Book_keeps) (defScope s_Book_keeps) [] [] fKK _ := ⟨⟨ocKK, odKK, .none, .ref DE, dcKK, pmKK, anKK, cdKK, ctKK, slKK, rfl, lKK, cKK, .inl ⟨rfl, rfl⟩, .inl rfl⟩, kKK⟩
  have FKK : FunD K "keeps" "Book.keeps" (defArgs s_Book_keeps) (defBody s_Book_keeps) (defScope s_Book_keeps) [] [("between", V.ref dk)] fKK _ := ⟨⟨ocKK, odKK, .none, .ref DE, dcKK, pmKK, anKK, cdKK, ctKK, slKK, rfl, lKK, cKK, .inl ⟨rfl, rfl⟩, .inr ⟨DE, rfl, fun q hq => by
    rw [List.mem_singleton.mp hq]
    exact ⟨_, d2, rfl⟩⟩⟩, kKK⟩
  obtain ⟨dsB, hdB, bDB⟩ := FKI.binds0 (ps := ["self", "kept", "fences"]) 2 (by simp) rfl fun D doc pm an cdv ct us ks h1 h2 => match us, h1, ks, h2 with | [_, _], _, [_], _ => ⟨_, _, _, _, _, _, rfl, rfl, rfl⟩
  obtain ⟨dsK, hdK, bDK⟩ := FKK.binds0 (ps := ["self", "first", "second", "between"]) 3 (by simp) rfl fun D doc pm an cdv ct us ks h1 h2 => match us, h1, ks, h2 with | [_, _, _], _, [_], _ => ⟨_, _, _, _, _, _, rfl, rfl, rfl⟩
  obtain ⟨mvB, kbB⟩ := FKI.kbinds0 (ps := ["self", "kept", "fences"]) 2 ["fences"] [] (fun vs _ zs => vs ++ zs) (by simp) (fun q h => nomatch h) (fun r1 _ r3 => r1.append r3) fun D doc pm an cdv ct us mv ws h1 h2 h3 => match us, h1, mv, h2, ws, h3 with | [_, _], _, [], _, [_], _ => rfl
  obtain ⟨mvK, kbK⟩ := FKK.kbinds0 (ps := ["self", "first", "second", "between"]) 3 ["between"] [] (fun vs _ zs => vs ++ zs) (by simp) (fun q h => nomatch h) (fun r1 _ r3 => r1.append r3) fun D doc pm an cdv ct us mv ws h1 h2 h3 => match us, h1, mv, h2, ws, h3 with | [_, _, _], _, [], _, [_], _ => rfl
  have G0 := ok_is_name (P := l.prog) (w := w) (base := base) D0 TBB
  have G1 := ok_is_fence_name (P := l.prog) (w := w) (base := base) D1 TBK D0 G0
  have GRI := ok_Pairs_init (P := l.prog) (w := w) (base := base) FRI TB C ERP
  have GRC := ok_Pairs_contains (P := l.prog) (w := w) (base := base) FRC C
  have GRL := ok_Pairs_len (P := l.prog) (w := w) (base := base) FRL TB C
  have GRT := ok_Pairs_iter (P := l.prog) (w := w) (base := base) FRT TB C
  have GRO := ok_Pairs_or (P := l.prog) (w := w) (base := base) FRO T2 C bI GRI
  have GKF := ok_Book_fences (PC := PR) (P := l.prog) (w := w) (base := base) FKF TBB B
  have GKE := ok_Book_fence (PC := PR) (P := l.prog) (w := w) (base := base) FKE TBB B ERQ D0 G0
  have GKI := ok_Book_init (P := l.prog) (w := w) (base := base) FKI0 TBI B C ERG ERF D1 G1 bI GRI
  have GKK := ok_Book_keeps (P := l.prog) (w := w) (base := base) FKK0 TBC B C ERP MKE bKE GKE IN bRC GRC
  have G2 := ok_law_great (P := l.prog) (w := w) (base := base) D2 T0
  have G3 := ok_law_draw (P := l.prog) (w := w) (base := base) D3 T0 D2 G2
  have G4 := ok_law_pairs (P := l.prog) (w := w) (base := base) D4 T0
  have G5 := ok_law_usual (P := l.prog) (w := w) (base := base) D5 T0 D4 G4
  have G6 := ok_law_set (P := l.prog) (w := w) (base := base) D6 T0 D4 G4 D5 G5
  have G7 := ok_law_name (P := l.prog) (w := w) (base := base) D7 T0
  have G8 := ok_law_says (P := l.prog) (w := w) (base := base) D8 
  have G9 := ok_law_row (P := l.prog) (w := w) (base := base) D9 T0
  have G10 := ok_law_unknown (P := l.prog) (w := w) (base := base) D10 T0
  have G11 := ok_law_keeps_refusal (P := l.prog) (w := w) (base := base) D11 TKR B MKK kbK GKK
  have G12 := ok_law_fence_refusal (P := l.prog) (w := w) (base := base) D12 TF B MKE bKE GKE
  have G13 := ok_law_book_refusal (P := l.prog) (w := w) (base := base) D13 TBR C B bI GRI kbB GKI
  have G14 := ok_law_is_book (P := l.prog) (w := w) (base := base) D14 TIB C B bRL GRL bRT GRT MKF bKF GKF MKE bKE GKE hdk hdK bDK MKK kbK GKK D4 G4 D8 G8
  have G15 := ok_law_bad_names (P := l.prog) (w := w) (base := base) D15 T0
  have G16 := ok_law_refuses (P := l.prog) (w := w) (base := base) D16 T0 B MKF bKF GKF D4 G4 D10 G10 D11 G11 D12 G12
  have G17 := ok_law_grown (P := l.prog) (w := w) (base := base) D17 TGr C B bI GRI BC bRO GRO hdB bDB kbB GKI MKE bKE GKE hdk hdK bDK MKK kbK GKK D4 G4 D8 G8
  exact ok_law (P := l.prog) (w := w) (base := base) D18 hde TL C B bI hds bD GRI bRL GRL bRT GRT hdB bDB kbB GKI D3 G3 D7 G7 D15 G15 D13 G13 D9 G9 D14 G14 D16 G16 D17 G17 D6 G6 D4 G4
theorem walk {l : PySem.W.OpenLaw} {q : Program} {loose : List Str} {XP : (Str → Option Value) → Heap → Prop} {YP : World → Heap → Prop} {d : DefRec} {K : Params → PySem.W.Frag} (hn : l.most = some 63) (hdf : d.params.defaults = [])
    (hY : ∀ (w : World) (h : Heap), YP w h → (K w.params).In h)
    (F : ∀ (w : World) (mg : Str → Option Value) (fa : Addr) (h : Heap), (K w.params).In h → h.Ns mainGlobals mg → mg d.name = some (.ref fa) →
      ∃ fd : FuncData, (∀ (s : Shared) (u : Value), BindsTo s fd ⟨[u], []⟩ [("_law_script", u)]) ∧ ∀ base : Heap, (K w.params).In base → base.Ns mainGlobals mg → FnOk l.prog w (K w.params) mg base CX0 8 fa fd ["_law_script"] (spLaw (K w.params))) :
    PySem.W.WalkO q loose XP YP l.row.toRowW d [] (fun f vs => PySem.call f vs) :=
  L2.walk_of (n := 63) (k := 8) (x := "_law_script") (CX := fun _ => CX0) (sp := fun w => spLaw (K w.params)) hn (by decide) hdf ⟨rfl, by decide, by decide⟩ hY F (fun _ _ a ns hl _ hS => ⟨a, ns, rfl, ⟨hS, hl⟩, fun _ => rfl⟩) fun _ _ _ _ _ z => z
end My
open PySem PySem.W PyProof.Rows in
set_option maxRecDepth 100000 in
set_option maxHeartbeats 0 in
theorem PySem.Challenge.cw_coretower_k34_books_keep_orders_holds : PySem.Challenge.rw_coretower_k34_books_keep_orders.Holds := by
  w_on; o_law; k_head; (case hw => w_witness2)
  k_fill
  refine My.walk (l := PySem.Challenge.rw_coretower_k34_books_keep_orders) rfl rfl (fun w h Y => PySem.W.kIn_of Y) ?F
  case F =>
    intro w mg fa h KX G hmg
    refine' My.all_mk KX G hmg ?a0 ?l0 ?c0 ?k0 ?a1 ?l1 ?c1 ?k1 ?a2 ?l2 ?c2 ?k2 ?a3 ?l3 ?c3 ?k3 ?a4 ?l4 ?c4 ?k4 ?a5 ?l5 ?c5 ?k5 ?a6 ?l6 ?c6 ?k6 ?a7 ?l7 ?c7 ?k7 ?a8 ?l8 ?c8 ?k8 ?a9 ?l9 ?c9 ?k9 ?a10 ?l10 ?c10 ?k10 ?a11 ?l11 ?c11 ?k11 ?a12 ?l12 ?c12 ?k12 ?a13 ?l13 ?c13 ?k13 ?a14 ?l14 ?c14 ?k14 ?a15 ?l15 ?c15 ?k15 ?a16 ?l16 ?c16 ?k16 ?a17 ?l17 ?c17 ?k17 ?a18 ?l18 ?c18 ?k18 ?z_isinstance ?z_str ?z_len ?z_all ?z_any ?z_dict ?z_sorted ?z_iter ?z_int ?z_range ?z_list ?z_tuple ?z_ValueError ?z_super ?gL ?eL ?gU ?eU ?gX2 ?aG ?xG ?rG ?b1G ?q1G ?q2G ?q3G ?b4G ?b5G ?b6G ?lG ?cG ?kG ?eG ?b7G ?b8G ?b9 ?b14 ?b31 ?p12 ?p13 ?b10G ?b11G ?b12G ?b13G ?b15G ?b17G ?b18G ?b19G ?b25G ?b26G ?aP ?xP ?rP ?b1P ?q1P ?q2P ?q3P ?b4P ?b5P ?b6P ?lP ?cP ?kP ?eP ?b7P ?b8P ?b10P ?b11P ?b12P ?b13P ?b15P ?b17P ?b18P ?b19P ?b25P ?b26P ?aF ?xF ?rF ?b1F ?q1F ?q2F ?q3F ?b4F ?b5F ?b6F ?lF ?cF ?kF ?eF ?b7F ?b8F ?b10F ?b11F ?b12F ?b13F ?b15F ?b17F ?b18F ?b19F ?b25F ?b26F ?aQ ?xQ ?rQ ?b1Q ?q1Q ?q2Q ?q3Q ?b4Q ?b5Q ?b6Q ?lQ ?cQ ?kQ ?eQ ?b7Q ?b8Q ?b10Q ?b11Q ?b12Q ?b13Q ?b15Q ?b17Q ?b18Q ?b19Q ?b25Q ?b26Q ?aC ?q1C ?q2C ?q3C ?aR ?p1R ?p2R ?p3R ?p4R ?n0R ?p9R ?aK ?p1K ?p2K ?p3K ?p4K ?n0K ?n1K ?p9K ?p5R ?p5K ?p10R ?p11R ?p14R ?mRI ?hRI ?lRI ?cRI ?kRI ?mRC ?hRC ?lRC ?cRC ?kRC ?mRL ?hRL ?lRL ?cRL ?kRL ?mRT ?hRT ?lRT ?cRT ?kRT ?mRO ?hRO ?lRO ?cRO ?kRO ?mKI ?hKI ?lKI ?cKI ?kKI ?mKF ?hKF ?lKF ?cKF ?kKF ?mKE ?hKE ?lKE ?cKE ?kKE ?mKK ?hKK ?lKK ?cKK ?kKK ?vD ?uD ?vE ?uE ?d1 ?d2 ?vk ?uk ?gZ ?vZ ?uZ ?gPP ?vPP ?uPP ?vr0 ?ur0 ?vr1 ?ur1 ?vr2 ?ur2 ?vr3 ?ur3 ?vr4 ?ur4 ?vr5 ?ur5 ?vr6 ?ur6 ?vr7 ?ur7 ?vr8 ?ur8 ?vr9 ?ur9 ?vr10 ?ur10 ?vr11 ?ur11 ?vr12 ?ur12 ?vr13 ?ur13 ?vr14 ?ur14 ?vr15 ?ur15 ?vr16 ?ur16 ?vr17 ?ur17 ?vr18 ?ur18 ?vr19 ?ur19 ?vr20 ?ur20 ?vr21 ?ur21 ?vr22 ?ur22 ?vr23 ?ur23 ?vr24 ?ur24 ?vr25 ?ur25 ?vr26 ?ur26 ?sGC ?sPC ?sFC ?sQC ?sQQ ?sPQ ?ePQ ?sQP ?eQP ?sQF ?eQF ?sGF ?eGF ?sFG ?eFG ?sFQ ?eFQ
    (case a0 => k_is)
    (case l0 => k_is)
    (case c0 => k_is)
    (case k0 => k_is)
    (case a1 => k_is)
    (case l1 => k_is)
    (case c1 => k_is)
    (case k1 => k_is)
    (case a2 => k_is)
    (case l2 => k_is)
    (case c2 => k_is)
    (case k2 => k_is)
    (case a3 => k_is)
    (case l3 => k_is)
    (case c3 => k_is)
    (case k3 => k_is)
    (case a4 => k_is)
    (case l4 => k_is)
    (case c4 => k_is)
    (case k4 => k_is)
    (case a5 => k_is)
    (case l5 => k_is)
    (case c5 => k_is)
    (case k5 => k_is)
    (case a6 => k_is)
    (case l6 => k_is)
    (case c6 => k_is)
    (case k6 => k_is)
    (case a7 => k_is)
    (case l7 => k_is)
    (case c7 => k_is)
    (case k7 => k_is)
    (case a8 => k_is)
    (case l8 => k_is)
    (case c8 => k_is)
    (case k8 => k_is)
    (case a9 => k_is)
    (case l9 => k_is)
    (case c9 => k_is)
    (case k9 => k_is)
    (case a10 => k_is)
    (case l10 => k_is)
    (case c10 => k_is)
    (case k10 => k_is)
    (case a11 => k_is)
    (case l11 => k_is)
    (case c11 => k_is)
    (case k11 => k_is)
    (case a12 => k_is)
    (case l12 => k_is)
    (case c12 => k_is)
    (case k12 => k_is)
    (case a13 => k_is)
    (case l13 => k_is)
    (case c13 => k_is)
    (case k13 => k_is)
    (case a14 => k_is)
    (case l14 => k_is)
    (case c14 => k_is)
    (case k14 => k_is)
    (case a15 => k_is)
    (case l15 => k_is)
    (case c15 => k_is)
    (case k15 => k_is)
    (case a16 => k_is)
    (case l16 => k_is)
    (case c16 => k_is)
    (case k16 => k_is)
    (case a17 => k_is)
    (case l17 => k_is)
    (case c17 => k_is)
    (case k17 => k_is)
    (case a18 => k_is)
    (case l18 => k_is)
    (case c18 => k_is)
    (case k18 => k_is)
    (case z_isinstance => k_is)
    (case z_str => k_is)
    (case z_len => k_is)
    (case z_all => k_is)
    (case z_any => k_is)
    (case z_dict => k_is)
    (case z_sorted => k_is)
    (case z_iter => k_is)
    (case z_int => k_is)
    (case z_range => k_is)
    (case z_list => k_is)
    (case z_tuple => k_is)
    (case z_ValueError => k_is)
    (case z_super => k_is)
    (case gL => k_is)
    (case eL => decide +kernel)
    (case gU => k_is)
    (case eU => decide +kernel)
    (case gX2 => k_is)
    (case aG => k_is)
    (case xG => k_is)
    (case rG => decide +kernel)
    (case b1G => k_is)
    (case q1G => k_is)
    (case q2G => k_is)
    (case q3G => k_is)
    (case b4G => k_is)
    (case b5G => k_is)
    (case b6G => k_is)
    (case lG => k_is)
    (case cG => k_is)
    (case kG => k_is)
    (case eG => k_is)
    (case b7G => ks_is)
    (case b8G => k_is)
    (case b9 => k_is)
    (case b14 => first | rfl | decide +kernel)
    (case b31 => decide +kernel)
    (case p12 => k_is)
    (case p13 => k_is)
    (case b10G => k_is)
    (case b11G => k_is)
    (case b12G => rfl)
    (case b13G => first | rfl | decide +kernel)
    (case b15G => k_is)
    (case b17G => k_is)
    (case b18G => k_is)
    (case b19G => k_is)
    (case b25G => k_is)
    (case b26G => k_is)
    (case aP => k_is)
    (case xP => k_is)
    (case rP => decide +kernel)
    (case b1P => k_is)
    (case q1P => k_is)
    (case q2P => k_is)
    (case q3P => k_is)
    (case b4P => k_is)
    (case b5P => k_is)
    (case b6P => k_is)
    (case lP => k_is)
    (case cP => k_is)
    (case kP => k_is)
    (case eP => k_is)
    (case b7P => ks_is)
    (case b8P => k_is)
    (case b10P => k_is)
    (case b11P => k_is)
    (case b12P => rfl)
    (case b13P => first | rfl | decide +kernel)
    (case b15P => k_is)
    (case b17P => k_is)
    (case b18P => k_is)
    (case b19P => k_is)
    (case b25P => k_is)
    (case b26P => k_is)
    (case aF => k_is)
    (case xF => k_is)
    (case rF => decide +kernel)
    (case b1F => k_is)
    (case q1F => k_is)
    (case q2F => k_is)
    (case q3F => k_is)
    (case b4F => k_is)
    (case b5F => k_is)
    (case b6F => k_is)
    (case lF => k_is)
    (case cF => k_is)
    (case kF => k_is)
    (case eF => k_is)
    (case b7F => ks_is)
    (case b8F => k_is)
    (case b10F => k_is)
    (case b11F => k_is)
    (case b12F => rfl)
    (case b13F => first | rfl | decide +kernel)
    (case b15F => k_is)
    (case b17F => k_is)
    (case b18F => k_is)
    (case b19F => k_is)
    (case b25F => k_is)
    (case b26F => k_is)
    (case aQ => k_is)
    (case xQ => k_is)
    (case rQ => decide +kernel)
    (case b1Q => k_is)
    (case q1Q => k_is)
    (case q2Q => k_is)
    (case q3Q => k_is)
    (case b4Q => k_is)
    (case b5Q => k_is)
    (case b6Q => k_is)
    (case lQ => k_is)
    (case cQ => k_is)
    (case kQ => k_is)
    (case eQ => k_is)
    (case b7Q => ks_is)
    (case b8Q => k_is)
    (case b10Q => k_is)
    (case b11Q => k_is)
    (case b12Q => rfl)
    (case b13Q => first | rfl | decide +kernel)
    (case b15Q => k_is)
    (case b17Q => k_is)
    (case b18Q => k_is)
    (case b19Q => k_is)
    (case b25Q => k_is)
    (case b26Q => k_is)
    (case aC => k_is)
    (case q1C => k_is)
    (case q2C => k_is)
    (case q3C => k_is)
    (case aR => k_is)
    (case p1R => k_is)
    (case p2R => k_is)
    (case p3R => k_is)
    (case p4R => k_is)
    (case n0R => k_is)
    (case p9R => k_is)
    (case aK => k_is)
    (case p1K => k_is)
    (case p2K => k_is)
    (case p3K => k_is)
    (case p4K => k_is)
    (case n0K => k_is)
    (case n1K => k_is)
    (case p9K => k_is)
    (case p5R => k_is)
    (case p5K => k_is)
    (case p10R => k_is)
    (case p11R => k_is)
    (case p14R => k_is)
    (case mRI => k_is)
    (case hRI => k_is)
    (case lRI => k_is)
    (case cRI => k_is)
    (case kRI => k_is)
    (case mRC => k_is)
    (case hRC => k_is)
    (case lRC => k_is)
    (case cRC => k_is)
    (case kRC => k_is)
    (case mRL => k_is)
    (case hRL => k_is)
    (case lRL => k_is)
    (case cRL => k_is)
    (case kRL => k_is)
    (case mRT => k_is)
    (case hRT => k_is)
    (case lRT => k_is)
    (case cRT => k_is)
    (case kRT => k_is)
    (case mRO => k_is)
    (case hRO => k_is)
    (case lRO => k_is)
    (case cRO => k_is)
    (case kRO => k_is)
    (case mKI => k_is)
    (case hKI => k_is)
    (case lKI => k_is)
    (case cKI => k_is)
    (case kKI => k_is)
    (case mKF => k_is)
    (case hKF => k_is)
    (case lKF => k_is)
    (case cKF => k_is)
    (case kKF => k_is)
    (case mKE => k_is)
    (case hKE => k_is)
    (case lKE => k_is)
    (case cKE => k_is)
    (case kKE => k_is)
    (case mKK => k_is)
    (case hKK => k_is)
    (case lKK => k_is)
    (case cKK => k_is)
    (case kKK => k_is)
    (case vD => k_is)
    (case uD => exact rfl)
    (case vE => k_is)
    (case uE => exact rfl)
    (case d1 => k_is)
    (case d2 => k_is)
    (case vk => k_is)
    (case uk => exact rfl)
    (case gZ => k_is)
    (case vZ => k_is)
    (case uZ => exact ⟨by decide, by exact .cons ⟨_, rfl⟩ (.cons ⟨_, rfl⟩ (.cons ⟨_, rfl⟩ (.cons ⟨_, rfl⟩ (.cons ⟨_, rfl⟩ (.nil)))))⟩)
    (case gPP => k_is)
    (case vPP => k_is)
    (case uPP => exact rfl)
    (case vr0 => k_is)
    (case ur0 => exact ⟨by decide, by exact .cons ⟨_, rfl⟩ (.cons ⟨_, rfl⟩ (.nil))⟩)
    (case vr1 => k_is)
    (case ur1 => exact ⟨by decide, by exact .cons ⟨_, rfl⟩ (.cons ⟨_, rfl⟩ (.nil))⟩)
    (case vr2 => k_is)
    (case ur2 => exact ⟨by decide, by exact .cons ⟨_, rfl⟩ (.cons ⟨_, rfl⟩ (.nil))⟩)
    (case vr3 => k_is)
    (case ur3 => exact ⟨by decide, by exact .cons ⟨_, rfl⟩ (.cons ⟨_, rfl⟩ (.nil))⟩)
    (case vr4 => k_is)
    (case ur4 => exact ⟨by decide, by exact .cons ⟨_, rfl⟩ (.cons ⟨_, rfl⟩ (.nil))⟩)
    (case vr5 => k_is)
    (case ur5 => exact ⟨by decide, by exact .cons ⟨_, rfl⟩ (.cons ⟨_, rfl⟩ (.nil))⟩)
    (case vr6 => k_is)
    (case ur6 => exact ⟨by decide, by exact .cons ⟨_, rfl⟩ (.cons ⟨_, rfl⟩ (.nil))⟩)
    (case vr7 => k_is)
    (case ur7 => exact ⟨by decide, by exact .cons ⟨_, rfl⟩ (.cons ⟨_, rfl⟩ (.nil))⟩)
    (case vr8 => k_is)
    (case ur8 => exact ⟨by decide, by exact .cons ⟨_, rfl⟩ (.cons ⟨_, rfl⟩ (.nil))⟩)
    (case vr9 => k_is)
    (case ur9 => exact ⟨by decide, by exact .cons ⟨_, rfl⟩ (.cons ⟨_, rfl⟩ (.nil))⟩)
    (case vr10 => k_is)
    (case ur10 => exact ⟨by decide, by exact .cons ⟨_, rfl⟩ (.cons ⟨_, rfl⟩ (.nil))⟩)
    (case vr11 => k_is)
    (case ur11 => exact ⟨by decide, by exact .cons ⟨_, rfl⟩ (.cons ⟨_, rfl⟩ (.nil))⟩)
    (case vr12 => k_is)
    (case ur12 => exact ⟨by decide, by exact .cons ⟨_, rfl⟩ (.cons ⟨_, rfl⟩ (.nil))⟩)
    (case vr13 => k_is)
    (case ur13 => exact ⟨by decide, by exact .cons ⟨_, rfl⟩ (.cons ⟨_, rfl⟩ (.nil))⟩)
    (case vr14 => k_is)
    (case ur14 => exact ⟨by decide, by exact .cons ⟨_, rfl⟩ (.cons ⟨_, rfl⟩ (.nil))⟩)
    (case vr15 => k_is)
    (case ur15 => exact ⟨by decide, by exact .cons ⟨_, rfl⟩ (.cons ⟨_, rfl⟩ (.nil))⟩)
    (case vr16 => k_is)
    (case ur16 => exact ⟨by decide, by exact .cons ⟨_, rfl⟩ (.cons ⟨_, rfl⟩ (.nil))⟩)
    (case vr17 => k_is)
    (case ur17 => exact ⟨by decide, by exact .cons ⟨_, rfl⟩ (.cons ⟨_, rfl⟩ (.nil))⟩)
    (case vr18 => k_is)
    (case ur18 => exact ⟨by decide, by exact .cons ⟨_, rfl⟩ (.cons ⟨_, rfl⟩ (.nil))⟩)
    (case vr19 => k_is)
    (case ur19 => exact ⟨by decide, by exact .cons ⟨_, rfl⟩ (.cons ⟨_, rfl⟩ (.nil))⟩)
    (case vr20 => k_is)
    (case ur20 => exact ⟨by decide, by exact .cons ⟨_, rfl⟩ (.cons ⟨_, rfl⟩ (.nil))⟩)
    (case vr21 => k_is)
    (case ur21 => exact ⟨by decide, by exact .cons ⟨_, rfl⟩ (.cons ⟨_, rfl⟩ (.nil))⟩)
    (case vr22 => k_is)
    (case ur22 => exact ⟨by decide, by exact .cons ⟨_, rfl⟩ (.cons ⟨_, rfl⟩ (.nil))⟩)
    (case vr23 => k_is)
    (case ur23 => exact ⟨by decide, by exact .cons ⟨_, rfl⟩ (.cons ⟨_, rfl⟩ (.nil))⟩)
    (case vr24 => k_is)
    (case ur24 => exact ⟨by decide, by exact .cons ⟨_, rfl⟩ (.cons ⟨_, rfl⟩ (.nil))⟩)
    (case vr25 => k_is)
    (case ur25 => exact ⟨by decide, by exact .cons ⟨_, rfl⟩ (.cons ⟨_, rfl⟩ (.nil))⟩)
    (case vr26 => k_is)
    (case ur26 => exact ⟨by decide, by exact .cons ⟨_, rfl⟩ (.cons ⟨_, rfl⟩ (.nil))⟩)
    (case sGC => first | rfl | k_is)
    (case sPC => first | rfl | k_is)
    (case sFC => first | rfl | k_is)
    (case sQC => first | rfl | k_is)
    (case sQQ => first | rfl | k_is)
    (case sPQ => first | rfl | k_is)
    (case ePQ => decide +kernel)
    (case sQP => first | rfl | k_is)
    (case eQP => decide +kernel)
    (case sQF => first | rfl | k_is)
    (case eQF => decide +kernel)
    (case sGF => first | rfl | k_is)
    (case eGF => decide +kernel)
    (case sFG => first | rfl | k_is)
    (case eFG => decide +kernel)
    (case sFQ => first | rfl | k_is)
    (case eFQ => decide +kernel)

