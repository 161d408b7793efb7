import PyProof.Rows.All
import Wide.All
import OpenK.AllK
import Wide.FinOn
import HandS.ForMost
import HandS.Style
import HandS.IsInst
import HandS.More
import HandS.Evl
import HandS.ForExc
import HandS.SlotsOwn
import HandS.OwnIter
import HandS.IterNext
import HandS.ClsMeth
import HandS.Deep
import HandS.Zip
import HandS.Walk
import HandS.SetFor
import HandS.Defaults
import HandS.CallSlots
import KE.KExcSuper
import HandS.ExcInit
import HandS.Nested
import HandS.ExcField
import HandS.ExcIs
import HandS.TryMany
import HandS.TryOnly
import HandS.ExcOwn
import HandS.WordsExc
import KE.KExcIs
import HandS.Sort
import KE.KDictCopyH
import HandS.Comp
import HandS.Exc
import KE.GoesRaise
import HandS.Dict
import PyProof.FactsDict
import PyProof.FactsAll.dict_1
import HandS.Star
import HandS.MakeKwOnly
import PyProof.Rows.SortStr
import HandS.TupAny
import HandS.DictComp
import HandS.Strs
import HandS.Set
import PyProof.Rows.SortShellAny
import HandS.SortOrd
import KE.KOpsOwn
import HandS.FStr
import PyProof.Rows.RegStrFacts
import PySem.Challenge.RW_coretower_k35_rows_of_recipes
import PyProof.Rows.SortStrRead
import KE.RegKSuper
set_option Elab.async false
set_option linter.all false
set_option maxRecDepth 100000
set_option maxHeartbeats 4000000
/-! ### small things over the layer: frames, loops, tests -/
namespace My
open PySem L2
section
variable {P : Program} {w : World} {K : PySem.W.Frag} {mg : Str → Option Value} {base : Heap}
/-- a def of the text, where it stands -/
structure Df (K : PySem.W.Frag) (mg : Str → Option Value) (x : Str) (st : Stmt) (ps : List Str) (f : Addr) (fd : FuncData) : Prop where
  F : Fun K x x st f fd
  g : mg x = some (.ref f)
  b : Binds K fd ps []
theorem cxK {CX : CXT} {N : List Str} {q : Str} {sc : Scope} {f : Addr} {cdv : Value} {A : Around} {outer : List Env} {s : Shared} {H : Hp} {E : XK} : (cxOf CX P w K mg base N q sc f cdv A outer s H E).K = K := rfl
theorem cxnK {CX : CXT} {N : List Str} {q : Str} {sc : Scope} {f : Addr} {cdv : Value} {A : Around} {outer : List Env} {s : Shared} {H : Hp} {E : XK} : (cxOf CX P w K mg base N q sc f cdv A outer s H E).nox.K = K := rfl
end
/-! ### frames -/
/-- what stood outside of S stands as it did -/
def Kp (S : List Addr) (H H' : Hp) : Prop := ∀ b o, b ∉ S → H b = some o → H' b = some o
theorem Kp.refl (S : List Addr) (H : Hp) : Kp S H H := fun _ _ _ h => h
theorem Kp.trans {S : List Addr} {H H1 H2 : Hp} (a : Kp S H H1) (b : Kp S H1 H2) : Kp S H H2 := fun c o hc h => b c o hc (a c o hc h)
theorem Kp.mono {S T : List Addr} {H H' : Hp} (a : Kp S H H') (h : ∀ x ∈ S, x ∈ T) : Kp T H H' := fun c o hc e => a c o (fun z => hc (h c z)) e
theorem Kp.of0 {T : List Addr} {H H' : Hp} (a : Kp [] H H') : Kp T H H' := a.mono fun x hx => nomatch hx
theorem Kp.new {S : List Addr} {H : Hp} {p : Addr} {o : HO} (h : H p = none) : Kp S H (upd H p o) := fun a u _ e => by
  rw [upd_ne (ne_of_none e h)]
  exact e
/-- a write to something that was not there at the beginning -/
theorem Kp.wr {S : List Addr} {H H' : Hp} {p : Addr} {o : HO} (a : Kp S H H') (h : H p = none) : Kp S H (upd H' p o) := fun b u hb e => by
  rw [upd_ne (ne_of_none e h)]
  exact a b u hb e
theorem Kp.put {S : List Addr} {H H' : Hp} {p : Addr} {o : HO} (a : Kp S H H') (h : p ∈ S) : Kp S H (upd H' p o) := fun b u hb e => by
  rw [upd_ne (fun z => hb (by rw [z]; exact h))]
  exact a b u hb e
theorem Kp.ls {S : List Addr} {K : PySem.W.Frag} {H H' : Hp} {a : Addr} {xs : List V} (k : Kp S H H') (ha : a ∉ S) (h : SqL K H a xs) : SqL K H' a xs := by
  rcases h with (h | ⟨o, h⟩) | h
  · exact .inl (.inl (k _ _ ha h))
  · exact .inl (.inr ⟨o, k _ _ ha h⟩)
  · exact .inr h
theorem Kp.tp {S : List Addr} {K : PySem.W.Frag} {H H' : Hp} {a : Addr} {xs : List V} (k : Kp S H H') (ha : a ∉ S) (h : SqT K H a xs) : SqT K H' a xs := by
  rcases h with (h | ⟨o, h⟩) | h
  · exact .inl (.inl (k _ _ ha h))
  · exact .inl (.inr ⟨o, k _ _ ha h⟩)
  · exact .inr h
theorem Kp.free {S : List Addr} {H H' : Hp} {p : Addr} (k : Kp S H H') (hp : H' p = none) (hs : ∀ a ∈ S, ∃ o, H' a = some o) : H p = none := by
  cases e : H p with
  | none => rfl
  | some o =>
    by_cases h : p ∈ S
    · obtain ⟨u, hu⟩ := hs p h
      rw [hp] at hu; cases hu
    · rw [k p o h e] at hp; cases hp
theorem Kp.free0 {H H' : Hp} {p : Addr} (k : Kp [] H H') (hp : H' p = none) : H p = none := k.free hp fun a h => nomatch h
theorem not1 {a b : Addr} (h : b ≠ a) : b ∉ [a] := fun z => h (List.mem_singleton.mp z)
theorem not0 {b : Addr} : b ∉ ([] : List Addr) := fun z => nomatch z
theorem sq_l {K : PySem.W.Frag} {H : Hp} {a : Addr} {xs : List V} (h : H a = some (.lst xs)) : SqL K H a xs := .inl (.inl h)
theorem sq_t {K : PySem.W.Frag} {H : Hp} {a : Addr} {xs : List V} (h : H a = some (.tup xs)) : SqT K H a xs := .inl (.inl h)
theorem small {n : Nat} (h : n ≤ 100000) : n ≤ sizeLine := Nat.le_trans h (by decide)
theorem smallL {n : Nat} (h : n ≤ 100000) : n < sizeLine := Nat.lt_of_le_of_lt h (by decide)
theorem ne_kind {H : Hp} {a b : Addr} {o u : HO} (h : H a = some o) (h' : H b = some u) (d : o ≠ u) : a ≠ b := ne_of h h' d
/-! ### subscripts -/
theorem atI_of {α : Type} {xs : List α} {i : Int} {v : α} (h0 : 0 ≤ i) (h : xs[i.toNat]? = some v) : atI xs i = some v := by
  have e := atI_nat h
  rwa [Int.toNat_of_nonneg h0] at e
theorem ixN_of {n : Nat} {i : Int} (h0 : 0 ≤ i) (h : i < n) : ixN n i = some i.toNat := by
  unfold ixN
  rw [if_pos h0, if_pos h]
theorem atI_ex {α : Type} {xs : List α} {i : Int} (h0 : 0 ≤ i) (h : i < xs.length) : ∃ v, v ∈ xs ∧ atI xs i = some v := by
  have hl : i.toNat < xs.length := by omega
  exact ⟨xs[i.toNat], List.getElem_mem hl, atI_of h0 (List.getElem?_eq_getElem hl)⟩
/-! ### isinstance -/
section
variable {K : PySem.W.Frag} {H : Hp} {Q : VK}
theorem isi_mk {x : V} {n m : String} {b : Bool} (h : TyOf K H x (.type n)) (k : kitB n m = some b) (q : Q (.bl b) H) : rIsi K [x, .ty m] H Q := ⟨x, _, _, _, b, rfl, .ty m, .base h, kit_ty k, q⟩
theorem isi_int_str {i : Int} (q : Q (.bl false) H) : rIsi K [.int i, .ty "str"] H Q := isi_mk (.int i) (by decide +kernel) q
theorem isi_str_str {i : Str} (q : Q (.bl true) H) : rIsi K [.str i, .ty "str"] H Q := isi_mk (.str i) (by decide +kernel) q
theorem isi_int_int {i : Int} (q : Q (.bl true) H) : rIsi K [.int i, .ty "int"] H Q := isi_mk (.int i) (by decide +kernel) q
theorem isi_int_bool {i : Int} (q : Q (.bl false) H) : rIsi K [.int i, .ty "bool"] H Q := isi_mk (.int i) (by decide +kernel) q
theorem isi_bl_bool {i : Bool} (q : Q (.bl true) H) : rIsi K [.bl i, .ty "bool"] H Q := isi_mk (.bl i) (by decide +kernel) q
end
theorem sc_ii {i j : Int} : scal (.int i) (.int j) = true := rfl
theorem sc_ss {i j : Str} : scal (.str i) (.str j) = true := rfl
theorem sc_bb {i j : Bool} : scal (.bl i) (.bl j) = true := rfl
theorem sc_ni {j : Int} : scal .non (.int j) = true := rfl
theorem sc_in {j : Int} : scal (.int j) .non = true := rfl
theorem sc_is {i : Int} {j : Str} : scal (.int i) (.str j) = true := rfl
theorem sc_si {i : Int} {j : Str} : scal (.str j) (.int i) = true := rfl
theorem sc_nn : scal .non .non = true := rfl
/-! ### loops -/
section
variable {K : PySem.W.Frag} {g : TG} {tb : TS} {D : Ends} {σ : St} {H : Hp}
theorem forL {a : Addr} {xs : List V} {i : Nat} (Pv : Nat → L2.St → Hp → Prop) (hσ : σ[i]? = some (some (.ref a))) (hS : SqL K H a xs) (h0 : Pv 0 σ H) (hl : ∀ j σ H, j ≤ xs.length → Pv j σ H → SqL K H a xs)
    (hs : ∀ j x σ H, xs[j]? = some x → Pv j σ H → g x σ H fun σ2 H2 => tb { D with nx := Pv (j + 1), ct := Pv (j + 1), bk := D.nx } σ2 H2) (hd : ∀ σ H, Pv xs.length σ H → D.nx σ H) : tFor (iList K (tVar i)) g tb D σ H :=
  ⟨_, hσ, a, rfl, ⟨xs, hS⟩, for_list Pv h0 hl hs hd⟩
theorem forT {a : Addr} {xs : List V} {i : Nat} (Pv : Nat → L2.St → Hp → Prop) (hσ : σ[i]? = some (some (.ref a))) (hS : SqT K H a xs) (h0 : Pv 0 σ H) (hl : ∀ j σ H, j ≤ xs.length → Pv j σ H → SqT K H a xs)
    (hs : ∀ j x σ H, xs[j]? = some x → Pv j σ H → g x σ H fun σ2 H2 => tb { D with nx := Pv (j + 1), ct := Pv (j + 1), bk := D.nx } σ2 H2) (hd : ∀ σ H, Pv xs.length σ H → D.nx σ H) : tFor (iTup K (tVar i)) g tb D σ H :=
  ⟨_, hσ, a, rfl, ⟨xs, hS⟩, for_tup Pv h0 hl hs hd⟩
/-- behind the reckoning of the bound: range(m) -/
theorem forR {ta : TA} {Qx : Hp → Int → Prop} (h : ta σ H fun vs H1 => ∃ m : Int, vs = [.int m] ∧ -(2 ^ 62) ≤ m ∧ m < 2 ^ 62 ∧ ∃ Pv : Nat → L2.St → Hp → Prop, Pv 0 σ H1 ∧
    (∀ j σ H, j < m.toNat → Pv j σ H → g (.int (0 + j)) σ H fun σ2 H2 => tb { D with nx := Pv (j + 1), ct := Pv (j + 1), bk := D.nx } σ2 H2) ∧ (∀ σ H, Pv m.toNat σ H → D.nx σ H))
    (mono : ∀ Q Q' : List V → Hp → Prop, (∀ vs H, Q vs H → Q' vs H) → ta σ H Q → ta σ H Q') : tFor (iRng1 ta) g tb D σ H := by
  refine mono _ _ ?_ h
  rintro vs H1 ⟨m, e, h1, h2, Pv, a, b, c⟩
  exact ⟨m, e, h1, h2, for_range Pv a b c⟩
end
/-! ### dicts -/
section
variable {κ : Type} [DecidableEq κ]
theorem keys_putK (kvs : List (κ × V)) (k : κ) (v : V) (h : (kvs.map (·.1)).Nodup) : ((putK kvs k v).map (·.1)).Nodup := by
  cases e : valV kvs k with
  | none => exact nd_putK v h e
  | some y =>
    have ha : (kvs.any fun kv => decide (kv.1 = k)) = true := by
      unfold valV at e
      cases q : kvs.find? fun kv => decide (kv.1 = k) with
      | none => rw [q] at e; cases e
      | some p => exact List.any_eq_true.mpr ⟨p, List.mem_of_find?_eq_some q, by simpa using List.find?_some q⟩
    unfold putK
    rw [if_pos ha, List.map_map]
    have e2 : ((fun kv : κ × V => kv.1) ∘ fun kv : κ × V => if kv.1 = k then (kv.1, v) else kv) = fun kv => kv.1 := by
      funext p
      show (if p.1 = k then (p.1, v) else p).1 = p.1
      split <;> rfl
    rw [e2]
    exact h
theorem mem_putK {kvs : List (κ × V)} {k : κ} {v : V} {p : κ × V} (h : p ∈ putK kvs k v) : p ∈ kvs ∨ p = (k, v) := by
  unfold putK at h
  split at h
  · obtain ⟨q, hq, e⟩ := List.mem_map.mp h
    split at e
    · rename_i hk
      exact .inr (by rw [← e, hk])
    · exact .inl (by rw [← e]; exact hq)
  · rcases List.mem_append.mp h with h | h
    · exact .inl h
    · exact .inr (List.mem_singleton.mp h)
theorem valV_mem {kvs : List (κ × V)} {k : κ} {v : V} (h : (kvs.map (·.1)).Nodup) (hm : (k, v) ∈ kvs) : valV kvs k = some v := by
  induction kvs with
  | nil => nomatch hm
  | cons p r ih =>
    rw [List.map_cons, List.nodup_cons] at h
    by_cases e : p.1 = k
    · rw [valV_pos e]
      rcases List.mem_cons.mp hm with z | z
      · rw [← z]
      · exact absurd (List.mem_map.mpr ⟨_, z, rfl⟩) (by rw [← e]; exact h.1)
    · rw [valV_neg e]
      rcases List.mem_cons.mp hm with z | z
      · exact absurd (by rw [← z]) e
      · exact ih h.2 z
end
end My

set_option Elab.async false
set_option linter.all false
set_option maxRecDepth 100000
set_option maxHeartbeats 4000000
/-! ### operators, in, len, list of instances of an own class that define them -/
namespace My
open PySem PySem.Spec PyProof.Rows L2
section
variable {X : Cx} {CX : CXT} {pins : List (Addr × Obj)} {σ : L2.St} {H : Hp} {s : Shared} {C g a : Addr} {fd : FuncData} {ps : List Str} {sp : Sp} {E : XK} {k : Nat} {A1 : Around}
theorem inst_of {dx : Addr} {fs : List (Str × V)} (I : Inv X pins σ H s) (ha : H a = some (.ins C dx fs)) : ∃ ox od, PySem.W.InstAt s.heap a ox C (some od) := by
  obtain ⟨mA, J, _⟩ := ins_get I.hok ha
  obtain ⟨od, J', _⟩ := J.look
  exact ⟨_, od, J'⟩
theorem env_under (sb : Sub X k A1) (I : Inv X pins σ H s) : Env0 X.prog X.w X.K X.mg X.base A1 X.stack s H := by
  obtain ⟨f1, f2, f3, f4, f5, f6, f7, f8⟩ := I.env0
  exact ⟨(sb.fr).trans f1, f2, f3, f4, f5, f6, f7, f8⟩
/-- a def of the class runs somewhere below the body -/
theorem run_under {Q : VK} {us : List Value} {vs : List V} (F : FnOk X.prog X.w X.K X.mg X.base CX k g fd ps sp) (sb : Sub X k A1) (hb : Binds X.K fd ps []) (hx : Passes CX X E) (I : Inv X pins σ H s) (r : Vals vs us) (h : sp vs H Q E) :
    wpAny (model X.prog X.w) A1 (call (.ref g) us) (EP X pins σ Q) X.xe s := by
  have len := F.len _ _ _ _ h
  have bnd := hb s us I.kIn (by rw [List.append_nil, ← r.length]; exact len)
  rw [List.append_nil] at bnd
  refine wpAny_call (codeAny_mono (F.run A1 X.stack s H ⟨us, []⟩ us vs Q E sb.room (env_under sb I) bnd r h) ?_)
  rintro (e | fl) s' z
  · exact hx pins σ H s e s' I z
  · cases fl <;> first | exact I.after z | exact z.elim
/-- x op y, both instances of the class at C -/
def rBinO (C : Addr) (sp : Sp) (E : XK) : R2 := fun x y H Q => ∃ (a dx : Addr) (fs : List (Str × V)) (b dy : Addr) (gs : List (Str × V)), x = .ref a ∧ y = .ref b ∧ H a = some (.ins C dx fs) ∧ H b = some (.ins C dy gs) ∧ sp [.ref a, .ref b] H Q E
/-- what stands of an operator's def -/
structure BinC (K : PySem.W.Frag) (C g : Addr) (op : Operator) : Prop where
  one : PySem.W.selfFirst K C = true
  at_ : PySem.W.findIn K (.ref C) (PySem.dunder op.info.2) = some (some (.ref g))
  fn : PySem.W.isFn K (.ref g) = true
theorem sub_here (hr : Room k X.A) : Sub X k X.A := ⟨hr, rfl⟩
theorem op_binO {op : Operator} (c : BinC X.K C g op) (F : FnOk X.prog X.w X.K X.mg X.base CX k g fd ps sp) (hb : Binds X.K fd ps []) (hr : Room k X.A) (hx : Passes CX X E) : OpR X (binaryOp op) (rBinO C sp E) := by
  rintro pins s σ H x y v u Q I rx ry ⟨a, dx, fs, b, dy, gs, rfl, rfl, ha, hb', q⟩
  cases rx
  cases ry
  obtain ⟨ox, od, J⟩ := inst_of I ha
  obtain ⟨oy, ody, J'⟩ := inst_of I hb'
  obtain ⟨m, hF⟩ := I.fr
  refine PySem.W.binop_K hF I.ok.mod.kin J J'.type c.one c.at_ c.fn ?_
  refine thn (run_under (us := [.ref a, .ref b]) (vs := [.ref a, .ref b]) F (sub_here hr) hb hx I (.cons rfl (.cons rfl .nil)) q) ?_
  rintro w s' ⟨z, H', I', rz, qz⟩
  exact SlX.cmpback rz ⟨z, H', I', rz, qz⟩
/-- y in x, x an instance of the class at C: its __contains__ gives a bool -/
def rInO (C : Addr) (sp : Sp) (E : XK) (neg : Bool) : R2 := fun y x H Q => ∃ (a dx : Addr) (fs : List (Str × V)), x = .ref a ∧ H a = some (.ins C dx fs) ∧ sp [.ref a, y] H (fun v H' => ∃ b, v = .bl b ∧ Q (.bl (if neg then !b else b)) H') E
structure InC (K : PySem.W.Frag) (C g : Addr) : Prop where
  at_ : PySem.W.findIn K (.ref C) "__contains__" = some (some (.ref g))
  fn : PySem.W.isFn K (.ref g) = true
theorem op_inO (c : InC X.K C g) (F : FnOk X.prog X.w X.K X.mg X.base CX k g fd ps sp) (hb : Binds X.K fd ps []) (hr : Room k X.A) (hx : Passes CX X E) : OpR X (compareOp .In) (rInO C sp E false) := by
  rintro pins s σ H y x u v Q I ry rx ⟨a, dx, fs, rfl, ha, q⟩
  cases rx
  obtain ⟨ox, od, J⟩ := inst_of I ha
  obtain ⟨m, hF⟩ := I.fr
  refine PySem.W.in_K hF I.ok.mod.kin J c.at_ c.fn ?_
  refine thn (run_under (us := [.ref a, u]) (vs := [.ref a, y]) F (sub_here hr) hb hx I (.cons rfl (.cons ry .nil)) q) ?_
  rintro w s' ⟨z, H', I', rz, b, rfl, qz⟩
  cases rz
  exact wpAny_pure ⟨.bl b, H', I', rfl, qz⟩
theorem op_notInO (c : InC X.K C g) (F : FnOk X.prog X.w X.K X.mg X.base CX k g fd ps sp) (hb : Binds X.K fd ps []) (hr : Room k X.A) (hx : Passes CX X E) : OpR X (compareOp .NotIn) (rInO C sp E true) := by
  rintro pins s σ H y x u v Q I ry rx ⟨a, dx, fs, rfl, ha, q⟩
  cases rx
  obtain ⟨ox, od, J⟩ := inst_of I ha
  obtain ⟨m, hF⟩ := I.fr
  refine PySem.W.notIn_K hF I.ok.mod.kin J c.at_ c.fn ?_
  refine thn (run_under (us := [.ref a, u]) (vs := [.ref a, y]) F (sub_here hr) hb hx I (.cons rfl (.cons ry .nil)) q) ?_
  rintro w s' ⟨z, H', I', rz, b, rfl, qz⟩
  cases rz
  exact wpAny_pure ⟨.bl (!b), H', I', rfl, qz⟩
/-- len(x) -/
structure LenC (K : PySem.W.Frag) (C g : Addr) : Prop where
  at_ : PySem.W.findIn K (.ref C) "__len__" = some (some (.ref g))
  fn : PySem.W.isFn K (.ref g) = true
theorem len_under {R : Value → Shared → Prop} {Q1 : Nat → Hp → Prop} {dx : Addr} {fs : List (Str × V)} (c : LenC X.K C g) (F : FnOk X.prog X.w X.K X.mg X.base CX k g fd ps sp) (hb : Binds X.K fd ps []) (sb : Sub X (k + 1) A1) (hx : Passes CX X E) (I : Inv X pins σ H s)
    (ha : H a = some (.ins C dx fs)) (h : sp [.ref a] H (fun v H' => ∃ n : Nat, v = .int n ∧ n ≤ sizeLine ∧ Q1 n H') E) (hR : ∀ (n : Nat) H' s' t, n ≤ sizeLine → Inv X pins σ H' s' → Q1 n H' → R (.int n t) s') : wpAny (model X.prog X.w) A1 (call (.builtin "len") [.ref a]) R X.xe s := by
  obtain ⟨ox, od, J⟩ := inst_of I ha
  refine Calls.call_function_entry kind_len plain_len entry_len (args_len1 _) ?_
  unfold Builtin.«len»
  refine wpAny_bind (m := oneArg "len" _) (wpAny_pure ?_)
  refine wpAny_bind (PySem.W.special_fn I.kIn J c.at_ (beq_iff_eq.mp c.fn) ?_)
  refine thn (run_under (us := [.ref a]) (vs := [.ref a]) F sb.in1 hb hx I (.cons rfl .nil) h) ?_
  rintro w s' ⟨z, H', I', rz, n, rfl, hn, hq⟩
  obtain ⟨t, rfl⟩ := rz
  have h63 : ((n : Int)) < 2 ^ 63 := by
    rw [sizeLine_eq] at hn
    omega
  refine wpAny_bind (wpAny_holding (wpAny_pure ?_))
  refine wpAny_bind (wpAny_letGo ?_)
  refine wpAny_ite_false (decide_eq_false (show ¬ ((n : Int) < 0) by omega)) ?_
  refine wpAny_ite_false (decide_eq_false (show ¬ ((n : Int) ≥ 2 ^ 63) by omega)) ?_
  exact wpAny_bind (wpAny_mkInt (wpAny_pure ⟨_, rfl, hR n H' _ _ hn (I'.tok _) hq⟩))
def rLenO (C : Addr) (sp : Sp) (E : XK) : List V → Hp → VK → Prop := fun xs H Q => ∃ (a dx : Addr) (fs : List (Str × V)), xs = [.ref a] ∧ H a = some (.ins C dx fs) ∧ sp [.ref a] H (fun v H' => ∃ n : Nat, v = .int n ∧ n ≤ sizeLine ∧ Q (.int n) H') E
theorem call_lenO (c : LenC X.K C g) (F : FnOk X.prog X.w X.K X.mg X.base CX k g fd ps sp) (hb : Binds X.K fd ps []) (hr : Room (k + 1) X.A) (hx : Passes CX X E) : CallR X (.builtin "len") (rLenO C sp E) := by
  rintro pins s σ H xs us Q I r ⟨a, dx, fs, rfl, ha, q⟩
  obtain ⟨u, rfl, ru⟩ := r.one
  cases ru
  exact len_under (Q1 := fun n H' => Q (.int n) H') c F hb (sub_here hr) hx I ha q fun n H' s' t _ I' hq => ⟨.int n, H', I', ⟨t, rfl⟩, hq⟩
/-- something that is no more looked at -/
def junk (q : Addr) : HO := .ext fun h => ∃ o, h.get? q = some o
theorem junk_ok {P : Program} {w : World} {H : Hp} {h : Heap} {q : Addr} {o : Obj} (e : h.get? q = some o) : ObjOk P w H h q (junk q) := ⟨⟨_, e⟩, ⟨_, e⟩, fun _ _ ⟨u, z⟩ k => ⟨u, k _ z⟩⟩
/-- the class's __iter__ gives iter(l) of a list l, and it has a __len__ -/
structure IterC (K : PySem.W.Frag) (C gi gl : Addr) : Prop where
  it : PySem.W.findIn K (.ref C) "__iter__" = some (some (.ref gi))
  itF : PySem.W.isFn K (.ref gi) = true
  ln : LenC K C gl
/-- list(x) -/
def rListO (K : PySem.W.Frag) (C : Addr) (si sl : Sp) (E : XK) : List V → Hp → VK → Prop := fun xs H Q => ∃ (a dx : Addr) (fs : List (Str × V)), xs = [.ref a] ∧ H a = some (.ins C dx fs) ∧ ∀ q, H q = none →
  si [.ref a] (upd H q (.lst [])) (fun v H1 => ∃ (l it : Addr) (zs : List V), v = .ref it ∧ H1 a = some (.ins C dx fs) ∧ H1 it = some (ItO l it 0) ∧ SqL K H1 l zs ∧ l ≠ q ∧ l ≠ it ∧ H1 q = some (.lst []) ∧
    sl [.ref a] H1 (fun v H2 => ∃ n : Nat, v = .int n ∧ n ≤ sizeLine ∧ H2 it = some (ItO l it 0) ∧ SqL K H2 l zs ∧ H2 q = some (.lst []) ∧ Q (.ref q) (upd (upd H2 it (junk it)) q (.lst zs))) E) E
/-- .. where nothing is raised -/
theorem run_under0 {Q : VK} {us : List Value} {vs : List V} {Ex : Value → Shared → Prop} (F : FnOk X.prog X.w X.K X.mg X.base CX0 k g fd ps sp) (sb : Sub X k A1) (hb : Binds X.K fd ps []) (I : Inv X pins σ H s) (r : Vals vs us) (h : sp vs H Q E) :
    wpAny (model X.prog X.w) A1 (call (.ref g) us) (EP X pins σ Q) Ex s := by
  have len := F.len _ _ _ _ h
  have bnd := hb s us I.kIn (by rw [List.append_nil, ← r.length]; exact len)
  rw [List.append_nil] at bnd
  refine wpAny_call (codeAny_mono (F.run A1 X.stack s H ⟨us, []⟩ us vs Q E sb.room (env_under sb I) bnd r h) ?_)
  rintro (e | fl) s' z
  · exact False.elim z
  · cases fl <;> first | exact I.after z | exact z.elim
theorem len_under0 {R : Value → Shared → Prop} {Ex : Value → Shared → Prop} {Q1 : Nat → Hp → Prop} {dx : Addr} {fs : List (Str × V)} (c : LenC X.K C g) (F : FnOk X.prog X.w X.K X.mg X.base CX0 k g fd ps sp) (hb : Binds X.K fd ps []) (sb : Sub X (k + 1) A1) (I : Inv X pins σ H s)
    (ha : H a = some (.ins C dx fs)) (h : sp [.ref a] H (fun v H' => ∃ n : Nat, v = .int n ∧ n ≤ sizeLine ∧ Q1 n H') E) (hR : ∀ (n : Nat) H' s' t, n ≤ sizeLine → Inv X pins σ H' s' → Q1 n H' → R (.int n t) s') : wpAny (model X.prog X.w) A1 (call (.builtin "len") [.ref a]) R Ex s := by
  obtain ⟨ox, od, J⟩ := inst_of I ha
  refine Calls.call_function_entry kind_len plain_len entry_len (args_len1 _) ?_
  unfold Builtin.«len»
  refine wpAny_bind (m := oneArg "len" _) (wpAny_pure ?_)
  refine wpAny_bind (PySem.W.special_fn I.kIn J c.at_ (beq_iff_eq.mp c.fn) ?_)
  refine thn (run_under0 (us := [.ref a]) (vs := [.ref a]) F sb.in1 hb I (.cons rfl .nil) h) ?_
  rintro w s' ⟨z, H', I', rz, n, rfl, hn, hq⟩
  obtain ⟨t, rfl⟩ := rz
  have h63 : ((n : Int)) < 2 ^ 63 := by
    rw [sizeLine_eq] at hn
    omega
  refine wpAny_bind (wpAny_holding (wpAny_pure ?_))
  refine wpAny_bind (wpAny_letGo ?_)
  refine wpAny_ite_false (decide_eq_false (show ¬ ((n : Int) < 0) by omega)) ?_
  refine wpAny_ite_false (decide_eq_false (show ¬ ((n : Int) ≥ 2 ^ 63) by omega)) ?_
  exact wpAny_bind (wpAny_mkInt (wpAny_pure ⟨_, rfl, hR n H' _ _ hn (I'.tok _) hq⟩))
theorem hint_own {Q : Bool → Shared → Prop} {Ex : Value → Shared → Prop} {Q1 : Nat → Hp → Prop} {dx : Addr} {fs : List (Str × V)} (c : LenC X.K C g) (F : FnOk X.prog X.w X.K X.mg X.base CX0 k g fd ps sp) (hb : Binds X.K fd ps []) (sb : Sub X (k + 1) A1) (I : Inv X pins σ H s)
    (ha : H a = some (.ins C dx fs)) (h : sp [.ref a] H (fun v H' => ∃ n : Nat, v = .int n ∧ n ≤ sizeLine ∧ Q1 n H') E) (hR : ∀ b n H' s', Inv X pins σ H' s' → Q1 n H' → Q b s') : wpAny (model X.prog X.w) A1 (Builtin.List.listLengthHint (.ref a)) Q Ex s := by
  obtain ⟨ox, od, J⟩ := inst_of I ha
  unfold Builtin.List.listLengthHint
  refine wpAny_bind (wpAny_bind (J.type.here ((PySem.W.looks_findIn I.kIn c.at_).here ?_)))
  refine PySem.W.KFB.if_not rfl ?_
  refine PySem.W.KFB.if_so rfl ?_
  refine wpAny_bind (wpAny_rule ?_)
  refine wpAny_bind (wpAny_attempt (len_under0 c F hb sb I ha h ?_))
  intro n H' s' t hn I' hq
  show wpAny _ _ (pure (some (n : Int)) >>= _) _ _ _
  refine wpAny_bind (wpAny_pure ?_)
  have hl : Builtin.List.listTooLong ((n : Int).toNat) = false := by
    rw [Int.toNat_natCast]; exact notLongL hn
  refine PySem.W.KFB.if_not hl ?_
  exact wpAny_pure (hR _ n H' s' I' hq)
/-! ### the list's iterator, drawn to its end -/
theorem py_item {it l : Addr} {i : Nat} {items : Array Value} {v : Value} {prog : Program} {w : World} {Q : Option Value → Shared → Prop} {Ex : Value → Shared → Prop} (ho : s.heap.get? it = some (GNX.itObj l i)) (hl : s.heap.IsList l items) (hv : items[i]? = some v)
    (hQ : ∀ h', h'.get? it = some (GNX.itObj l (i + 1)) → (∀ b o, b ≠ it → s.heap.get? b = some o → h'.get? b = some o) → Q (some v) { s with heap := h' }) : wpAny (model prog w) A1 (pyNext (.ref it)) Q Ex s := by
  have hT : s.TypeIs (.ref it) "list_iterator" := ⟨_, ho, rfl⟩
  unfold pyNext
  refine wpAny_bind (wpAny_attempt (wpAny_callSpecial?_slot (name := Str.ofString "__next__") hT slot_listiter_next (wpAny_call_entry slot_listiter_next hT entry_listiter_next (GNX.next_item ho hl hv ?_) (args_listiter_next _))))
  intro h' e sb
  exact wpAny_pure (hQ h' e fun b o hb eb => (sb.2 b hb).trans eb)
theorem py_end {it l : Addr} {i : Nat} {items : Array Value} {prog : Program} {w : World} {Q : Option Value → Shared → Prop} {Ex : Value → Shared → Prop} (hh : A1.handled = none) (ho : s.heap.get? it = some (GNX.itObj l i)) (hl : s.heap.IsList l items) (hv : items[i]? = none)
    (hQ : ∀ h', h'.get? it = some (GNX.itEnd i) → (∀ b o, b ≠ it → s.heap.get? b = some o → h'.get? b = some o) → Q none { s with heap := h' }) : wpAny (model prog w) A1 (pyNext (.ref it)) Q Ex s := by
  have hT : s.TypeIs (.ref it) "list_iterator" := ⟨_, ho, rfl⟩
  unfold pyNext
  refine wpAny_bind (wpAny_attempt (wpAny_callSpecial?_slot (name := Str.ofString "__next__") hT slot_listiter_next (wpAny_call_entry slot_listiter_next hT entry_listiter_next (GNX.next_end hh ho hl hv ?_) (args_listiter_next _))))
  intro h1 h' e vs e1 sb k1 ne he hv'
  refine wpAny_bind (wpAny_isInstance (T := "StopIteration") (b := true) ⟨_, he, rfl⟩ PySem.isSubtype_stop ?_)
  exact wpAny_pure (hQ h' (k1 _ _ e1) fun b o hb eb => k1 _ _ ((sb.2 b hb).trans eb))
theorem same_upd {H : Hp} {q : Addr} {o : HO} (e : H q = some o) : upd H q o = H := by
  funext b
  by_cases z : b = q
  · rw [z, upd_same, e]
  · rw [upd_ne z]
theorem take_next' {α : Type} {xs : List α} {i : Nat} {x : α} (h : xs[i]? = some x) : xs.take (i + 1) = xs.take i ++ [x] := by
  rw [List.take_add_one, h]; rfl
/-- the loop that fills the list at q -/
theorem drain {q l it : Addr} {zs : List V} {F : Hp} {R : Result → Shared → Prop} (hh : A1.in1.handled = none) (lit : l ≠ it) (lq : l ≠ q) (hne : it ≠ q) (hdone : ∀ s', Inv X pins σ F s' → R (.ok (.ret .none)) s') :
    ∀ (n i : Nat) (H1 : Hp) (s1 : Shared), zs.length - i = n → i ≤ zs.length → Inv X pins σ H1 s1 → H1 it = some (ItO l it i) → SqL X.K H1 l zs → H1 q = some (.lst (zs.take i)) → upd (upd H1 it (junk it)) q (.lst zs) = F →
      codeAny (model X.prog X.w) A1 (.builtin "list.extend.loop" ⟨[.ref q, .ref it, .none], []⟩) R s1 := by
  intro n
  induction n with
  | zero =>
    intro i H1 s1 hn hi I hit hl hq hF
    obtain ⟨its, rv, pl, hz⟩ := I.list hl
    have hlen := rv.length
    have nope : its.toArray[i]? = none := by
      rw [List.getElem?_toArray]
      exact List.getElem?_eq_none (by omega)
    refine codeAny_builtin PySem.F.entry_extend_loop ?_
    rw [Around.under_plainId PySem.F.plain_extend_loop _]
    refine wpAny_bind (m := pyNext (.ref it)) (py_end hh (itO_get I hit) pl.isList nope fun h' he hk => ?_)
    have J : Inv X pins σ (upd H1 it (junk it)) { s1 with heap := h' } := I.write (t' := s1.toks) (x := it) (e := it) (by rw [hit]; exact True.intro) (.inl rfl) (fun b u hb e => hk b u hb e) ⟨_, he⟩ (junk_ok he)
    have e : upd H1 it (junk it) = F := by
      rw [← hF]
      refine (same_upd ?_).symm
      rw [upd_ne hne.symm, hq, List.take_of_length_le (by omega)]
    rw [e] at J
    exact wpAny_pure (hdone _ J)
  | succ n ih =>
    intro i H1 s1 hn hi I hit hl hq hF
    obtain ⟨its, rv, pl, hz⟩ := I.list hl
    have hlen := rv.length
    have hx : zs[i]? = some zs[i] := List.getElem?_eq_getElem (by omega)
    obtain ⟨u, hu, ru⟩ := rv.get hx
    refine codeAny_builtin PySem.F.entry_extend_loop ?_
    rw [Around.under_plainId PySem.F.plain_extend_loop _]
    refine wpAny_bind (m := pyNext (.ref it)) (py_item (itO_get I hit) pl.isList (v := u) (by simpa using hu) fun h' he hk => ?_)
    have J : Inv X pins σ (upd H1 it (ItO l it (i + 1))) { s1 with heap := h' } := I.write (t' := s1.toks) (x := it) (e := it) (by rw [hit]; exact True.intro) (.inl rfl) (fun b u hb e => hk b u hb e) ⟨_, he⟩ (itO_ok he)
    have hq' : (upd H1 it (ItO l it (i + 1))) q = some (.lst (zs.take i)) := by rw [upd_ne hne.symm]; exact hq
    obtain ⟨_, ys, c, r2, hl2, e2⟩ := J.lstM hq'
    have hy : ys.length = i := by rw [← hl2, List.length_take]; omega
    refine wpAny_bind (m := updateSeq q (·.push u)) (wpAny_updateSeq e2 rfl (wpAny_pure ⟨plainId_quiet PySem.F.plain_extend_loop _, ?_⟩) (by rw [List.size_toArray]; omega) (by rw [Array.size_push, List.size_toArray]; omega))
    have J2 := J.lset (f := (·.push u)) (its' := ys ++ [u]) (ys := zs.take (i + 1)) (t' := s1.toks) hq' e2 (by simp) (by rw [take_next' hx]; exact r2.append (.cons ru .nil)) (by rw [List.length_take]; omega)
    refine ih (i + 1) _ _ (by omega) (by omega) J2 ?_ ?_ upd_same ?_
    · rw [upd_ne hne]; exact upd_same
    · exact (((Kp.refl [it, q] H1).put (by simp)).put (by simp)).ls (by simp [lit, lq]) hl
    · rw [← hF]
      funext b
      by_cases z : b = q
      · rw [z, upd_same, upd_same]
      · rw [upd_ne z, upd_ne z]
        by_cases y : b = it
        · rw [y, upd_same, upd_same]
        · rw [upd_ne y, upd_ne y, upd_ne z, upd_ne y]
theorem call_listO {gi gl : Addr} {fdi fdl : FuncData} {psi psl : List Str} {si sl : Sp} {ki kl : Nat} (c : IterC X.K C gi gl) (Fi : FnOk X.prog X.w X.K X.mg X.base CX0 ki gi fdi psi si) (bi : Binds X.K fdi psi []) (Fl : FnOk X.prog X.w X.K X.mg X.base CX0 kl gl fdl psl sl) (bl : Binds X.K fdl psl [])
    (hr : Room (max ki (kl + 1) + 2) X.A) (hcalm : X.calm = true := by rfl) : CallR X (.type "list") (rListO X.K C si sl E) := by
  rintro pins s σ H xs us Q I rv ⟨a, dx, fs, rfl, ha, hq⟩
  obtain ⟨u, rfl, ru⟩ := rv.one
  cases ru
  have sb0 : Sub X (max ki (kl + 1)) X.A.in1.in1 := (sub_here hr).in1.in1
  have hh : X.A.handled = none := I.ok.hd hcalm
  refine callType_codes (Q₁ := fun obj s₁ => obj = .ref s.heap.objs.size ∧ s₁ = { s with heap := s.heap.push { cls := .type "list", data := .seq #[] } }) PySem.F.called_list (PySem.F.typeCall_list_1 _) PySem.F.entry_list_init (code_list_new _ ⟨rfl, rfl⟩) ?_
  rintro obj s₁ ⟨rfl, rfl⟩
  have hS : (s.heap.push { cls := .type "list", data := .seq #[] }).get? s.heap.objs.size = some { cls := .type "list", data := .seq #[] } := Heap.get?_push_size _ rfl
  refine ⟨⟨_, hS, rfl⟩, PySem.F.args_list_init_2 _ _, ?_⟩
  have fr : H s.heap.objs.size = none := I.hok.fresh (Nat.le_refl _)
  have todo := hq _ fr
  generalize hqq : s.heap.objs.size = q at *
  have I1 : Inv X pins σ (upd H q (.lst [])) { s with heap := s.heap.push { cls := .type "list", data := .seq #[] } } := by
    rw [← hqq]
    exact I.lnew (its := []) (t' := s.toks) .nil (Nat.zero_le _)
  show wpAny _ _ (Builtin.List.listItems (.ref q) >>= fun old => Builtin.List.listUpdate (.ref q) (fun _ => #[]) >>= fun _ => letGo old.toList.reverse >>= fun _ => Builtin.List.listExtendWith (.ref q) (.ref a) .none) _ _ _
  refine wpAny_bind ?_
  unfold Builtin.List.listItems
  refine wpAny_bind (wpAny_seqItems hS rfl (wpAny_pure ?_))
  refine wpAny_bind (m := updateSeq q fun _ => #[]) (wpAny_updateSeq hS rfl ?_)
  have I2 := I1.lset (f := fun _ => #[]) (its := []) (its' := []) (ys := []) (t' := s.toks) upd_same hS rfl .nil (Nat.zero_le _)
  rw [upd_upd] at I2
  refine wpAny_bind (wpAny_letGo ?_)
  have ha2 : upd H q (.lst []) a = some (.ins C dx fs) := by rw [upd_ne (ne_of_none ha fr)]; exact ha
  obtain ⟨ox, od, J⟩ := inst_of I2 ha2
  obtain ⟨m0, hF⟩ := I2.fr
  have naq : a ≠ q := ne_of_none ha fr
  unfold Builtin.List.listExtendWith
  refine wpAny_bind (J.type.here ?_)
  have h1 : Builtin.List.listSameRef (.ref q) (.ref a) = false := beq_eq_false_iff_ne.mpr naq.symm
  refine PySem.W.KFB.if_not (by rw [h1]; rfl) ?_
  refine wpAny_bind (PySem.W.owit_iter hF I2.ok.mod.kin J c.it c.itF ?_)
  refine thn (run_under0 (us := [.ref a]) (vs := [.ref a]) Fi (sb0.mono (Nat.le_max_left _ _)) bi I2 (.cons rfl .nil) todo) ?_
  rintro w s2 ⟨z, H1, I3, rz, l, it, zs, rfl, ha3, hit, hl, lq, lit, hq3, hsl⟩
  cases rz
  unfold PySem.W.OwitIt
  have hT : s2.TypeIs (.ref it) "list_iterator" := ⟨_, itO_get I3 hit, rfl⟩
  refine wpAny_specialOf (name := Str.ofString "__next__") hT slot_listiter_next.lookup ?_
  refine wpAny_bind (wpAny_holding (hint_own c.ln Fl bl (sb0.mono (Nat.le_max_right _ _)) I3 ha3 hsl ?_))
  rintro room n H2 s3 I4 ⟨hit4, hl4, hq4, qend⟩
  have hne : it ≠ q := ne_of hit4 hq4 (fun z => by cases z)
  have fin : ∀ s4, Inv X pins σ H2 s4 → codeAny (model X.prog X.w) X.A.in1 (.builtin "list.extend.loop" ⟨[.ref q, .ref it, .none], []⟩) (wants (fun r s₂ => r = .none ∧ EP X pins σ Q (.ref q) s₂) X.xe) s4 := fun s4 I5 =>
    drain (A1 := X.A.in1) (F := upd (upd H2 it (junk it)) q (.lst zs)) (by simp [hh]) lit lq hne (fun s' I6 => ⟨rfl, .ref q, _, I6, rfl, qend⟩) _ 0 H2 s4 rfl (Nat.zero_le _) I5 hit4 hl4 (by rw [List.take_zero]; exact hq4) rfl
  refine wpAny_ite_split (fun _ => ?_) (fun _ => wpAny_pure ⟨plainId_quiet PySem.F.plain_extend_loop _, fin s3 I4⟩)
  refine wpAny_bind (wpAny_rule (wpAny_bind ?_))
  obtain ⟨_, its, k4, r4, hl5, e4⟩ := I4.lstM hq4
  cases r4
  refine wpAny_bind (m := updateSeq q (·.push .none)) (wpAny_updateSeq e4 rfl ?_)
  have I5 := I4.lset (f := (·.push Value.none)) (its' := [Value.none]) (ys := [.non]) (t' := s3.toks) hq4 e4 (by simp) (.cons rfl .nil) (by rw [List.length_singleton, sizeLine_eq]; decide)
  obtain ⟨_, its5, k5, r5, hl6, e5⟩ := I5.lstM upd_same
  obtain ⟨u5, rfl, ru5⟩ := r5.one
  refine wpAny_updateSeq (a := q) (f := (·.pop)) e5 rfl ?_ (by show 1 ≤ sizeLine; rw [sizeLine_eq]; decide) (by show 0 ≤ sizeLine + 1; exact Nat.zero_le _)
  have I6 := I5.lset (f := (·.pop)) (its := [u5]) (its' := []) (ys := []) (t' := s3.toks) upd_same e5 (by rfl) .nil (Nat.zero_le _)
  rw [upd_upd, same_upd hq4] at I6
  exact wpAny_pure ⟨plainId_quiet PySem.F.plain_extend_loop _, fin _ I6⟩
end
/-! ### a static method, called by its class's name -/
structure StaC (K : PySem.W.Frag) (C : Addr) (mc : Value) (m : Str) (p g : Addr) : Prop where
  rd : PySem.W.readsIn K C mc = true
  ga : PySem.W.specialIn K (.ref C) "__getattribute__" = some (some (.builtin "type.__getattribute__"))
  at_ : PySem.W.findCls K (.ref C) mc m = some (.get (.builtin "staticmethod.__get__") (.ref p) .none (.ref C))
  rc : ∃ rest, PySem.W.recIn K p "staticmethod" = some (.ref g :: rest)
  kp : PySem.W.keepIn K (.ref g) = true
def tSta (C : Addr) (sp : Sp) (dvs : List V) (E : XK) (ta : TE) (t : TA) : TE := fun σ H Q => ta σ H fun x H1 => x = .ref C ∧ t σ H1 fun vs H2 => sp (vs ++ dvs) H2 Q E
section
variable {X : Cx} {CX : CXT} {C p g : Addr} {mc : Value} {m : Str} {fd : FuncData} {ps : List Str} {sp : Sp} {E : XK} {k : Nat} {o e : Expr} {es : List Expr} {ta : TE} {t : TA} {apos pos : Pos} {dvs : List V} {ds : List Value}
theorem pe_sta {pl : Sem Bool} (he : PE X o ta) (c : StaC X.K C mc m p g) (F : FnOk X.prog X.w X.K X.mg X.base CX k g fd ps sp) (hr : Room k X.A) (hb : Binds X.K fd ps ds) (hd : Vals dvs ds) (hx : Passes CX X E) (ha : PA X (e :: es) t)
    (hst : starEach (e :: es) X.env = (false, eval e X.env) :: starEach es X.env := by rfl) (hpl : (backTo pos (starEach es X.env)).any (·.1) = false := by rfl)
    (ht : eval (.Call (.Attribute o m apos) (e :: es) [] pos) X.env = (eval o X.env >>= fun ov => standAt apos.atName >>= fun _ => holding [ov] (getMethod ov m pl) >>= fun fr => callWith pos fr.1 fr.2 (backTo pos (starEach (e :: es) X.env)) (backToKw pos (keywordEach [] X.env))) := by rfl) :
    PE X (.Call (.Attribute o m apos) (e :: es) [] pos) (tSta C sp dvs E ta t) := by
  refine ⟨fun pins s σ H Q I h => ?_⟩
  refine PySem.W.methodCall_KW (pl := pl) (thn (he.run pins s σ H _ I h) ?_) ht
  rintro u s1 ⟨x, H1, I1, rx, rfl, q⟩
  cases rx
  obtain ⟨rest, hp⟩ := c.rc
  refine PySem.W.method_cls I1.kIn c.ga (PySem.W.cls_bind I1.kIn c.rd c.at_ (wpAny_call ?_))
  refine PySem.W.sm_get (s := { s1 with toks := s1.toks + 1 }) I1.kIn hp (PySem.W.handed_on rfl ?_)
  refine PySem.W.callWith_K (first := []) (h₀ := X.base) I1.ok.mod.kin c.kp (thn (ha.run pos pins _ σ H1 _ (I1.tok _) q) fun us s2 ⟨vs, H2, I2, r, q2⟩ => ⟨I2.kIn, ?_⟩) hst hpl
  exact run_fn F hr hb hd hx I2 r q2
/-- x in t, t a tuple, of data of any depth -/
def rInT (K : PySem.W.Frag) (neg : Bool) : R2 := fun x y H Q => ∃ d ds, Dp K H x d ∧ Dp K H y (.tuple ds) ∧ SeqAt.shaped d = true ∧ SeqAt.shaped (.tuple ds) = true ∧ Q (.bl (if neg then !(ds.any fun z => PyData.eqv z d) else ds.any fun z => PyData.eqv z d)) H
theorem op_inT (hu : X.A.units + 65 < cLine) : OpR X (compareOp .In) (rInT X.K false) := by
  rintro pins s σ H x y v u Q I rx ry ⟨d, ds, hd, he, sd, se, q⟩
  obtain ⟨as, r1⟩ := Dp.reads I d x v hd rx
  obtain ⟨bs, r2⟩ := Dp.reads I (.tuple ds) y u he ry
  exact SeqAt.in_tuple_reads r2 r1 (SeqAt.canLay_of_shaped se) (SeqAt.canLay_of_shaped sd) (room_in_shaped sd hu) ⟨.bl _, H, I, rfl, q⟩
theorem op_notInT (hu : X.A.units + 65 < cLine) : OpR X (compareOp .NotIn) (rInT X.K true) := by
  rintro pins s σ H x y v u Q I rx ry ⟨d, ds, hd, he, sd, se, q⟩
  obtain ⟨as, r1⟩ := Dp.reads I d x v hd rx
  obtain ⟨bs, r2⟩ := Dp.reads I (.tuple ds) y u he ry
  exact SeqAt.notIn_tuple_reads r2 r1 (SeqAt.canLay_of_shaped se) (SeqAt.canLay_of_shaped sd) (room_in_shaped sd hu) ⟨.bl _, H, I, rfl, q⟩
end
end My

set_option Elab.async false
set_option linter.all false
set_option maxRecDepth 100000
set_option maxHeartbeats 4000000
/-! ### data of any depth: kept, walked in lists or tuples -/
namespace My
open PySem PySem.Spec PyProof.Rows L2
/-- no list or tuple stands in S -/
def NoSq (H : Hp) (S : List Addr) : Prop := ∀ a ∈ S, (∀ xs, H a ≠ some (.lst xs)) ∧ (∀ xs, H a ≠ some (.tup xs)) ∧ ∀ o u, H a ≠ some (.frz o u)
theorem noSq0 {H : Hp} : NoSq H [] := fun a h => nomatch h
theorem noSq1 {H : Hp} {a C dx : Addr} {fs : List (Str × V)} (h : H a = some (.ins C dx fs)) : NoSq H [a] := fun b hb => by
  rw [List.mem_singleton.mp hb, h]
  exact ⟨fun _ z => (by cases z), fun _ z => (by cases z), fun _ _ z => (by cases z)⟩
theorem Kp.lsN {S : List Addr} {K : PySem.W.Frag} {H H' : Hp} {a : Addr} {xs : List V} (k : Kp S H H') (n : NoSq H S) (h : SqL K H a xs) : SqL K H' a xs := by
  rcases h with (h | ⟨o, h⟩) | h
  · exact .inl (.inl (k _ _ (fun z => (n a z).1 _ h) h))
  · exact .inl (.inr ⟨o, k _ _ (fun z => (n a z).2.2 _ _ h) h⟩)
  · exact .inr h
theorem Kp.tpN {S : List Addr} {K : PySem.W.Frag} {H H' : Hp} {a : Addr} {xs : List V} (k : Kp S H H') (n : NoSq H S) (h : SqT K H a xs) : SqT K H' a xs := by
  rcases h with (h | ⟨o, h⟩) | h
  · exact .inl (.inl (k _ _ (fun z => (n a z).2.1 _ h) h))
  · exact .inl (.inr ⟨o, k _ _ (fun z => (n a z).2.2 _ _ h) h⟩)
  · exact .inr h
mutual
theorem dpN {S : List Addr} {K : PySem.W.Frag} {H H' : Hp} (k : Kp S H H') (n : NoSq H S) : ∀ {d : PyData} {v : V}, Dp K H v d → Dp K H' v d
  | _, _, .non => .non
  | _, _, .bl b => .bl b
  | _, _, .int i => .int i
  | _, _, .str x => .str x
  | _, _, .lst e h => .lst (k.lsN n e) (dpAllN k n h)
  | _, _, .tup e h => .tup (k.tpN n e) (dpAllN k n h)
theorem dpAllN {S : List Addr} {K : PySem.W.Frag} {H H' : Hp} (k : Kp S H H') (n : NoSq H S) : ∀ {ds : List PyData} {vs : List V}, DpAll K H vs ds → DpAll K H' vs ds
  | _, _, .nil => .nil
  | _, _, .cons h t => .cons (dpN k n h) (dpAllN k n t)
end
mutual
def noLs : PyData → Bool
  | .list _ => false
  | .tuple ds => noLsAll ds
  | _ => true
def noLsAll : List PyData → Bool
  | [] => true
  | d :: ds => noLs d && noLsAll ds
end
/-- .. stand as before, where lists change -/
def NoTp (H : Hp) (S : List Addr) : Prop := ∀ a ∈ S, (∀ xs, H a ≠ some (.tup xs)) ∧ ∀ o u, H a ≠ some (.frz o u)
theorem noTp1 {H : Hp} {a : Addr} {xs : List V} (h : H a = some (.lst xs)) : NoTp H [a] := fun b hb => by
  rw [List.mem_singleton.mp hb, h]
  exact ⟨fun _ z => (by cases z), fun _ _ z => (by cases z)⟩
theorem Kp.tpT {S : List Addr} {K : PySem.W.Frag} {H H' : Hp} {a : Addr} {xs : List V} (k : Kp S H H') (n : NoTp H S) (h : SqT K H a xs) : SqT K H' a xs := by
  rcases h with (h | ⟨o, h⟩) | h
  · exact .inl (.inl (k _ _ (fun z => (n a z).1 _ h) h))
  · exact .inl (.inr ⟨o, k _ _ (fun z => (n a z).2 _ _ h) h⟩)
  · exact .inr h
mutual
theorem dpT {S : List Addr} {K : PySem.W.Frag} {H H' : Hp} (k : Kp S H H') (n : NoTp H S) : ∀ {d : PyData} {v : V}, Dp K H v d → noLs d = true → Dp K H' v d
  | _, _, .non, _ => .non
  | _, _, .bl b, _ => .bl b
  | _, _, .int i, _ => .int i
  | _, _, .str x, _ => .str x
  | _, _, .lst e h, z => by cases z
  | _, _, .tup e h, z => .tup (k.tpT n e) (dpAllT k n h z)
theorem dpAllT {S : List Addr} {K : PySem.W.Frag} {H H' : Hp} (k : Kp S H H') (n : NoTp H S) : ∀ {ds : List PyData} {vs : List V}, DpAll K H vs ds → noLsAll ds = true → DpAll K H' vs ds
  | _, _, .nil, _ => .nil
  | _, _, .cons h t, z => by
    have z' := Bool.and_eq_true_iff.mp z
    exact .cons (dpT k n h z'.1) (dpAllT k n t z'.2)
end
theorem dpLen {K : PySem.W.Frag} {H : Hp} : ∀ {ds : List PyData} {vs : List V}, DpAll K H vs ds → vs.length = ds.length
  | _, _, .nil => rfl
  | _, _, .cons h t => by rw [List.length_cons, List.length_cons, dpLen t]
theorem dpGet {K : PySem.W.Frag} {H : Hp} : ∀ {ds : List PyData} {vs : List V}, DpAll K H vs ds → ∀ {i : Nat} {v : V}, vs[i]? = some v → ∃ d, ds[i]? = some d ∧ Dp K H v d
  | _, _, .nil, _, _, e => nomatch e
  | _, _, .cons h t, 0, _, e => by cases e; exact ⟨_, rfl, h⟩
  | _, _, .cons h t, i + 1, _, e => dpGet t (i := i) e
theorem dpApp {K : PySem.W.Frag} {H : Hp} : ∀ {ds es : List PyData} {vs us : List V}, DpAll K H vs ds → DpAll K H us es → DpAll K H (vs ++ us) (ds ++ es)
  | _, _, _, _, .nil, k => k
  | _, _, _, _, .cons h t, k => .cons h (dpApp t k)
theorem dpTake {K : PySem.W.Frag} {H : Hp} : ∀ {ds : List PyData} {vs : List V}, DpAll K H vs ds → ∀ i, DpAll K H (vs.take i) (ds.take i)
  | _, _, .nil, i => by rw [List.take_nil, List.take_nil]; exact .nil
  | _, _, .cons h t, 0 => .nil
  | _, _, .cons h t, i + 1 => .cons h (dpTake t i)
theorem dpDrop {K : PySem.W.Frag} {H : Hp} : ∀ {ds : List PyData} {vs : List V}, DpAll K H vs ds → ∀ i, DpAll K H (vs.drop i) (ds.drop i)
  | _, _, .nil, i => by rw [List.drop_nil, List.drop_nil]; exact .nil
  | _, _, .cons h t, 0 => .cons h t
  | _, _, .cons h t, i + 1 => dpDrop t i
theorem dpRev {K : PySem.W.Frag} {H : Hp} : ∀ {ds : List PyData} {vs : List V}, DpAll K H vs ds → DpAll K H vs.reverse ds.reverse
  | _, _, .nil => .nil
  | _, _, .cons h t => by
    rw [List.reverse_cons, List.reverse_cons]
    exact dpApp (dpRev t) (.cons h .nil)
theorem dpStrs {K : PySem.W.Frag} {H : Hp} : ∀ zs : List Str, DpAll K H (zs.map V.str) (zs.map PyData.str)
  | [] => .nil
  | z :: zs => .cons (.str z) (dpStrs zs)
/-- an object walked that is a list or a tuple -/
def SqAny (K : PySem.W.Frag) (H : Hp) (a : Addr) (xs : List V) : Prop := SqL K H a xs ∨ SqT K H a xs
theorem Kp.anyN {S : List Addr} {K : PySem.W.Frag} {H H' : Hp} {a : Addr} {xs : List V} (k : Kp S H H') (n : NoSq H S) (h : SqAny K H a xs) : SqAny K H' a xs := h.imp (k.lsN n) (k.tpN n)
def iSeq (K : PySem.W.Frag) (tl : TE) : TI := fun σ H R => tl σ H fun x H1 => ∃ a, x = .ref a ∧ (((∃ xs, SqL K H1 a xs) ∧ R (Itl K a) H1) ∨ ((∃ xs, SqT K H1 a xs) ∧ R (Itt K a) H1))
section
variable {X : Cx} {tg : Expr}
theorem pi_seq {l : Expr} {tl : TE} (hl : PE X l tl) : PI X tg l (iSeq X.K tl) := by
  refine ⟨fun pins s σ H R I h => thn (hl.run pins s σ H _ I h) ?_⟩
  rintro v s1 ⟨x, H1, I1, r1, a, rfl, ⟨⟨xs, hq⟩, q⟩ | ⟨⟨xs, hq⟩, q⟩⟩
  · cases r1
    obtain ⟨its, rv, p, hz⟩ := I1.list hq
    refine wpAny_pyIter_list p.isList ⟨_, [_], _, _, H1, rfl, I1.kept (t' := s1.toks) (fun b o e => Heap.get?_push_of_some _ e), turn_list a _, ⟨_, Heap.get?_push_size _ rfl, rfl, rfl⟩, fun b hb => ?_, q⟩
    rw [List.mem_singleton.mp hb]
    exact I1.fpOk (Nat.le_refl _) (I1.hok.fresh (Nat.le_refl _))
  · cases r1
    obtain ⟨its, rv, p, hz⟩ := I1.tuple hq
    refine wpAny_pyIter_tuple (show s1.heap.IsTuple a its.toArray from p) ⟨_, [_], _, _, H1, rfl, I1.kept (t' := s1.toks) (fun b o e => Heap.get?_push_of_some _ e), turn_tuple a _, ⟨_, Heap.get?_push_size _ rfl, rfl, rfl⟩, fun b hb => ?_, q⟩
    rw [List.mem_singleton.mp hb]
    exact I1.fpOk (Nat.le_refl _) (I1.hok.fresh (Nat.le_refl _))
/-- x in s, s a list or a tuple -/
def rInS (K : PySem.W.Frag) (neg : Bool) : R2 := fun x y H Q => ∃ (d : PyData) (ds : List PyData) (a : Addr) (xs : List V), y = .ref a ∧ SqAny K H a xs ∧ DpAll K H xs ds ∧ Dp K H x d ∧ SeqAt.shaped d = true ∧ SeqAt.shaped (.list ds) = true ∧ Q (.bl (if neg then !(ds.any fun z => PyData.eqv z d) else ds.any fun z => PyData.eqv z d)) H
theorem op_inS (hu : X.A.units + 65 < cLine) : OpR X (compareOp .In) (rInS X.K false) := by
  rintro pins s σ H x y v u Q I rx ry ⟨d, ds, a, xs, rfl, ha | ha, hx, hd, s1, s2, q⟩
  · exact op_inD hu pins s σ H x _ v u Q I rx ry ⟨d, ds, hd, .lst ha hx, s1, s2, q⟩
  · exact op_inT hu pins s σ H x _ v u Q I rx ry ⟨d, ds, hd, .tup ha hx, s1, s2, q⟩
theorem op_notInS (hu : X.A.units + 65 < cLine) : OpR X (compareOp .NotIn) (rInS X.K true) := by
  rintro pins s σ H x y v u Q I rx ry ⟨d, ds, a, xs, rfl, ha | ha, hx, hd, s1, s2, q⟩
  · exact op_notInD hu pins s σ H x _ v u Q I rx ry ⟨d, ds, hd, .lst ha hx, s1, s2, q⟩
  · exact op_notInT hu pins s σ H x _ v u Q I rx ry ⟨d, ds, hd, .tup ha hx, s1, s2, q⟩
theorem hu5 {A : Around} {k : Nat} (hr : Room k A) : A.units + 65 < cLine := by have := hr.un; omega
end
section
variable {K : PySem.W.Frag} {H H0 : Hp} {a : Addr} {xs : List V} {g : TG} {tb : TS} {D : Ends} {σ : L2.St} {i : Nat}
/-- for x in s, s a list or a tuple that stands still -/
theorem forS (Pv : Nat → L2.St → Hp → Prop) (hσ : σ[i]? = some (some (.ref a))) (hS : SqAny K H a xs) (h0 : Pv 0 σ H) (hk : ∀ j σ' H', Pv j σ' H' → Kp [] H H')
    (hs : ∀ j x σ H, xs[j]? = some x → Pv j σ H → g x σ H fun σ2 H2 => tb { D with nx := Pv (j + 1), ct := Pv (j + 1), bk := D.nx } σ2 H2) (hd : ∀ σ H, Pv xs.length σ H → D.nx σ H) : tFor (iSeq K (tVar i)) g tb D σ H := by
  rcases hS with h | h
  · exact ⟨_, hσ, a, rfl, .inl ⟨⟨xs, h⟩, for_list Pv h0 (fun j σ' H' _ p => (hk j σ' H' p).ls not0 h) hs hd⟩⟩
  · exact ⟨_, hσ, a, rfl, .inr ⟨⟨xs, h⟩, for_tup Pv h0 (fun j σ' H' _ p => (hk j σ' H' p).tp not0 h) hs hd⟩⟩
end
end My

set_option Elab.async false
set_option linter.all false
set_option maxRecDepth 100000
set_option maxHeartbeats 4000000
namespace My
open PySem L2
/-! ### data that stands in tracked tuples and lists -/
mutual
inductive Dq (H : Hp) : V → PyData → Prop
  | non : Dq H .non .none
  | bl (b : Bool) : Dq H (.bl b) (.bool b)
  | int (i : Int) : Dq H (.int i) (.int i)
  | str (x : Str) : Dq H (.str x) (.str x)
  | lst {a : Addr} {xs : List V} {ds : List PyData} : H a = some (.lst xs) → DqAll H xs ds → Dq H (.ref a) (.list ds)
  | tup {a : Addr} {xs : List V} {ds : List PyData} : H a = some (.tup xs) → DqAll H xs ds → Dq H (.ref a) (.tuple ds)
inductive DqAll (H : Hp) : List V → List PyData → Prop
  | nil : DqAll H [] []
  | cons {v : V} {vs : List V} {d : PyData} {ds : List PyData} : Dq H v d → DqAll H vs ds → DqAll H (v :: vs) (d :: ds)
end
mutual
theorem Dq.kp {H H' : Hp} (k : Kp [] H H') : ∀ {d : PyData} {v : V}, Dq H v d → Dq H' v d
  | _, _, .non => .non
  | _, _, .bl b => .bl b
  | _, _, .int i => .int i
  | _, _, .str x => .str x
  | _, _, .lst e h => .lst (k _ _ not0 e) (DqAll.kp k h)
  | _, _, .tup e h => .tup (k _ _ not0 e) (DqAll.kp k h)
theorem DqAll.kp {H H' : Hp} (k : Kp [] H H') : ∀ {ds : List PyData} {vs : List V}, DqAll H vs ds → DqAll H' vs ds
  | _, _, .nil => .nil
  | _, _, .cons h t => .cons (Dq.kp k h) (DqAll.kp k t)
end
mutual
theorem Dq.dp {K : PySem.W.Frag} {H : Hp} : ∀ {d : PyData} {v : V}, Dq H v d → Dp K H v d
  | _, _, .non => .non
  | _, _, .bl b => .bl b
  | _, _, .int i => .int i
  | _, _, .str x => .str x
  | _, _, .lst e h => .lst (sq_l e) (DqAll.dp h)
  | _, _, .tup e h => .tup (sq_t e) (DqAll.dp h)
theorem DqAll.dp {K : PySem.W.Frag} {H : Hp} : ∀ {ds : List PyData} {vs : List V}, DqAll H vs ds → DpAll K H vs ds
  | _, _, .nil => .nil
  | _, _, .cons h t => .cons (Dq.dp h) (DqAll.dp t)
end
theorem DqAll.len {H : Hp} : ∀ {ds : List PyData} {vs : List V}, DqAll H vs ds → vs.length = ds.length
  | _, _, .nil => rfl
  | _, _, .cons h t => by rw [List.length_cons, List.length_cons, t.len]
theorem DqAll.get {H : Hp} : ∀ {ds : List PyData} {vs : List V}, DqAll H vs ds → ∀ {i : Nat} {v : V}, vs[i]? = some v → ∃ d, ds[i]? = some d ∧ Dq H v d
  | _, _, .nil, _, _, e => nomatch e
  | _, _, .cons h t, 0, _, e => by cases e; exact ⟨_, rfl, h⟩
  | _, _, .cons h t, i + 1, _, e => t.get (i := i) e
/-- its class -/
def tyD : PyData → String
  | .none => "NoneType"
  | .bool _ => "bool"
  | .int _ => "int"
  | .str _ => "str"
  | .list _ => "list"
  | .tuple _ => "tuple"
  | _ => "object"
theorem Dq.ty {K : PySem.W.Frag} {H : Hp} {v : V} {d : PyData} (h : Dq H v d) : TyOf K H v (.type (tyD d)) := by
  cases h with
  | non => exact .non
  | bl b => exact .bl b
  | int i => exact .int i
  | str x => exact .str x
  | lst e h => exact .lst e
  | tup e h => exact .tup e
def six (d : PyData) : Prop := match d with
  | .none | .bool _ | .int _ | .str _ | .list _ | .tuple _ => True
  | _ => False
theorem Dq.six {H : Hp} {v : V} {d : PyData} (h : Dq H v d) : six d := by
  cases h <;> exact True.intro
def isStrD : PyData → Bool | .str _ => true | _ => false
def isTupD : PyData → Bool | .tuple _ => true | _ => false
def isLstD : PyData → Bool | .list _ => true | _ => false
def isIntD : PyData → Bool | .int _ | .bool _ => true | _ => false
def isBoolD : PyData → Bool | .bool _ => true | _ => false
section
variable {K : PySem.W.Frag} {H : Hp} {Q : VK} {v : V} {d : PyData}
theorem isi_D (h : Dq H v d) {m : String} {b : Bool} (k : kitB (tyD d) m = some b) (q : Q (.bl b) H) : rIsi K [v, .ty m] H Q := isi_mk h.ty k q
theorem isi_Dstr (h : Dq H v d) (q : Q (.bl (isStrD d)) H) : rIsi K [v, .ty "str"] H Q := isi_D h (by cases h <;> simp only [tyD, isStrD, isTupD, isLstD, isIntD, isBoolD] <;> decide +kernel) q
theorem isi_Dtup (h : Dq H v d) (q : Q (.bl (isTupD d)) H) : rIsi K [v, .ty "tuple"] H Q := isi_D h (by cases h <;> simp only [tyD, isStrD, isTupD, isLstD, isIntD, isBoolD] <;> decide +kernel) q
theorem isi_Dlst (h : Dq H v d) (q : Q (.bl (isLstD d)) H) : rIsi K [v, .ty "list"] H Q := isi_D h (by cases h <;> simp only [tyD, isStrD, isTupD, isLstD, isIntD, isBoolD] <;> decide +kernel) q
theorem isi_Dint (h : Dq H v d) (q : Q (.bl (isIntD d)) H) : rIsi K [v, .ty "int"] H Q := isi_D h (by cases h <;> simp only [tyD, isStrD, isTupD, isLstD, isIntD, isBoolD] <;> decide +kernel) q
theorem isi_Dbool (h : Dq H v d) (q : Q (.bl (isBoolD d)) H) : rIsi K [v, .ty "bool"] H Q := isi_D h (by cases h <;> simp only [tyD, isStrD, isTupD, isLstD, isIntD, isBoolD] <;> decide +kernel) q
end
/-! ### xs.remove(text) -/
def eqs (z : Str) (v : Value) : Bool := match v with
  | .str y _ => y == z
  | _ => false
theorem str_beq' (w z : Str) : (w == z) = (w.cps.toList == z.cps.toList) := by
  rw [Bool.eq_iff_iff, beq_iff_eq, beq_iff_eq]
  constructor
  · rintro rfl; rfl
  · intro h
    obtain ⟨a⟩ := w
    obtain ⟨b⟩ := z
    obtain ⟨a⟩ := a
    obtain ⟨b⟩ := b
    have h' : a = b := h
    rw [h']
def rRemS : V → List V → Hp → VK → Prop := fun x xs H Q => ∃ (l : Addr) (zs : List Str) (z : Str) (j : Nat), x = .ref l ∧ xs = [.str z] ∧ H l = some (.lst (zs.map V.str)) ∧ zs[j]? = some z ∧ (∀ m : Nat, m < j → zs[m]? ≠ some z) ∧ Q .non (upd H l (.lst ((zs.eraseIdx j).map V.str)))
theorem vals_str : ∀ {zs : List Str} {us : List Value}, Vals (zs.map V.str) us → ∀ {i : Nat} {u : Value}, us[i]? = some u → ∃ y t, u = .str y t ∧ zs[i]? = some y
  | [], _, r, _, _, e => by cases r; cases e
  | z :: zs, us, r, i, u, e => by
    rw [List.map_cons] at r
    cases r with
    | cons r0 rt =>
      match i, e with
      | 0, e =>
        cases e
        obtain ⟨t, rfl⟩ := r0
        exact ⟨z, t, rfl, rfl⟩
      | i + 1, e => exact vals_str rt (i := i) e
theorem erase_mapS : ∀ (l : List Str) (j : Nat), (l.map V.str).eraseIdx j = (l.eraseIdx j).map V.str
  | [], j => by simp
  | _ :: _, 0 => by simp
  | _ :: r, j + 1 => by simp [erase_mapS r j]
theorem eqs_ok (w z : Str) (tw t : Tok) : MeetsSeq.EqGives (.str w tw) (.str z t) (eqs z (.str w tw)) := by
  have e : eqs z (.str w tw) = (w.cps.toList == z.cps.toList) := (str_beq' w z)
  rw [e]
  exact SeqRoads2.EqGives.str w z tw t
theorem mt_removeS {X : Cx} : MtM X "list.remove" rRemS := by
  intro pins s σ H x xs v us Q I rx rxs h
  obtain ⟨l, zs, z, j, rfl, rfl, hH, hj, hno, q⟩ := h
  cases rx
  obtain ⟨u, rfl, ru⟩ := rxs.one
  obtain ⟨t, rfl⟩ := ru
  obtain ⟨hz, its, n, r, hl, e⟩ := I.lstM hH
  rw [List.length_map] at hl hz
  have hjn : j < zs.length := (List.getElem?_eq_some_iff.mp hj).1
  have hjl : j < its.toArray.size := by rw [List.size_toArray]; omega
  have each : ∀ y, y ∈ its.toArray → MeetsSeq.EqGives y (.str z t) (eqs z y) := fun y hy => by
    obtain ⟨i, hi, e1⟩ := List.mem_iff_getElem.mp (show y ∈ its by simpa using hy)
    obtain ⟨w, tw, rfl, _⟩ := vals_str r (i := i) (by rw [List.getElem?_eq_getElem hi, e1])
    exact eqs_ok w z tw t
  have at_ : ∀ m (hm : m < its.toArray.size), ∃ t', its.toArray[m] = .str (zs[m]'(by rw [List.size_toArray] at hm; omega)) t' := fun m hm => by
    have hm' : m < its.length := by simpa using hm
    obtain ⟨w, tw, ew, ez⟩ := vals_str r (i := m) (List.getElem?_eq_getElem hm')
    have hmz : m < zs.length := by omega
    rw [List.getElem?_eq_getElem hmz] at ez
    exact ⟨tw, by rw [Option.some.inj ez]; simpa using ew⟩
  refine call_meets PySem.F.slot_list_remove ⟨_, e, rfl⟩ PySem.F.entry_list_remove (PySem.F.args_list_remove_2 _ _) (MeetsSeq.list_remove l its.toArray n (.str z t) (eqs z) each j hjl ?_ ?_ (by rw [List.size_toArray]; omega)) ⟨e, ?_⟩
  · obtain ⟨t', et⟩ := at_ j hjl
    rw [List.getElem?_eq_getElem hjn] at hj
    rw [et, Option.some.inj hj]
    exact beq_self_eq_true z
  · intro m hm hmj
    obtain ⟨t', et⟩ := at_ m hm
    rw [et]
    refine beq_eq_false_iff_ne.mpr fun e2 => hno m hmj ?_
    rw [← e2]
    exact List.getElem?_eq_getElem _
  · have rr := r.eraseIdx j
    rw [erase_mapS] at rr
    refine ⟨.non, _, I.lset (its' := its.eraseIdx j) (t' := s.toks) hH e ?_ rr ?_, rfl, q⟩
    · show its.toArray.eraseIdxIfInBounds j = (its.eraseIdx j).toArray
      rw [List.eraseIdxIfInBounds_toArray]
    · have := List.length_eraseIdx_le zs j
      rw [List.length_map]
      omega
/-! ### repr of data, nothing being shown -/
def rReprD (K : PySem.W.Frag) : List V → Hp → VK → Prop := fun xs H Q => ∃ (a : Addr) (d : PyData), xs = [.ref a] ∧ Dp K H (.ref a) d ∧ d.showable = true ∧ d.hasDict = false ∧ d.depth ≤ 60 ∧ d.shown.length ≤ sizeLine ∧ Q (.str d.shown) H
theorem call_reprD {X : Cx} (gd : X.A.guards = some [] ∧ X.A.units + 64 < cLine) : CallR X (.builtin "repr") (rReprD X.K) := by
  intro pins s σ H xs us Q I r h
  obtain ⟨a, d, rfl, hd, hs, hn, hp, hz, q⟩ := h
  obtain ⟨u, rfl, ru⟩ := vals1 r
  obtain ⟨as, rd⟩ := Dp.reads I d (.ref a) u hd ru
  cases (show u = Value.ref a from ru)
  refine repr_of_reads' rd hs (PyData.noDict_hsm hn) gd.1 (by omega) (fun _ _ e => e) (fun h' t tk hk => ⟨.str _, H, I.kept (t' := tk) hk, ⟨_, rfl⟩, q⟩) hz
/-! ### an own class made where what is raised is wished for at the slots -/
def tMakeS (C : Addr) (sp : Sp) (dvs : List V) (E : L2.St → XK) (t : TA) : TE := fun σ H Q => t σ H fun vs H1 => ∀ o d, H1 o = none → H1 d = none → d ≠ o → sp (.ref o :: (vs ++ dvs)) (upd (upd H1 d (.own o)) o (.ins C d [])) (fun v H2 => v = .non ∧ Q (.ref o) H2) (E σ)
section
variable {X : Cx} {CX : CXT} {k : Nat} {f C : Addr} {fd : FuncData} {ps : List Str} {sp : Sp} {dvs : List V} {ds : List Value} {E : L2.St → XK} {x : Str} {p pos : Pos} {e : Expr} {es : List Expr} {t : TA}
theorem pe_makeS (M : Mk X.K C f) (F : FnOk X.prog X.w X.K X.mg X.base CX k f fd ps sp) (hr : Room (k + 1) X.A) (hg : Gl X x) (hm : X.mg x = some (.ref C)) (hb : Binds X.K fd ps ds) (hd : Vals dvs ds) (hx : ∀ σ, PassesAt CX X σ (E σ)) (ha : PA X (e :: es) t)
    (hdb : (x == ("__debug__" : Str)) = false := by decide) (he : starEach (e :: es) X.env = (false, eval e X.env) :: starEach es X.env := by rfl) (hpl : (backTo pos (starEach es X.env)).any (·.1) = false := by rfl) :
    PE X (.Call (.Name x p) (e :: es) [] pos) (tMakeS C sp dvs E t) := by
  refine ⟨fun pins s σ H Q I h => wpAny_Call_Name_kw (ld_glob I hg hm ?_ hdb)⟩
  refine PySem.W.callWith_K (h₀ := X.base) I.ok.mod.kin M.kp (thn (ha.run pos pins s σ H _ I h) fun us s1 ⟨vs, H1, I1, r, q⟩ => ⟨I1.kIn, ?_⟩) he hpl
  have g0 : H1 (s1.heap.objs.size + 1) = none := I1.hok.fresh (Nat.le_succ _)
  have g1 : H1 s1.heap.objs.size = none := I1.hok.fresh (Nat.le_refl _)
  have todo := q _ _ g0 g1 (Nat.ne_of_lt (Nat.lt_succ_self _))
  have J := Inv.made (C := C) I1
  have rr : Vals (V.ref (s1.heap.objs.size + 1) :: (vs ++ dvs)) (Value.ref (s1.heap.objs.size + 1) :: (us ++ ds)) := .cons rfl (r.append hd)
  have many : (Value.ref (s1.heap.objs.size + 1) :: us ++ ds).length = ps.length := (rr.length.symm.trans (F.len _ _ _ _ todo))
  refine wpAny_call (make_map (f := f) I1.kIn M.makes M.init (beq_iff_eq.mp M.fn) (codeAny_mono (F.run _ X.stack _ _ ⟨_, []⟩ _ _ _ (E σ) (hr.make C us []) (J.env0.make C us []) (hb _ (Value.ref (s1.heap.objs.size + 1) :: us) J.kIn many) rr todo) fun
    | .error er, s2, z => hx σ pins _ _ er s2 J z
    | .ok (.ret u), s2, z => ?_
    | .ok .next, _, z => False.elim z
    | .ok .brk, _, z => False.elim z
    | .ok .cont, _, z => False.elim z))
  obtain ⟨v, H3, J3, rv, rfl, z3⟩ := J.after z
  exact ⟨rv, .ref (s1.heap.objs.size + 1), H3, J3, rfl, z3⟩
end
end My

set_option Elab.async false
set_option linter.all false
set_option maxRecDepth 100000
set_option maxHeartbeats 4000000
/-! ### defs that close over their class, and super().__init__(..) of an own error -/
namespace My
open PySem L2 NdefX
/-- a block whose activation is known -/
structure PSat (X : Cx) (c : Code) (body : List Stmt) (t : TS) : Prop where
  run : ∀ (pins : List (Addr × Obj)) (s : Shared) (σ : L2.St) (H : Hp) (D : Ends), Inv X pins σ H s → t D σ H → wpAt (model X.prog X.w) X.A c (execs body X.env) (SP X pins D) X.xe s
structure PSat1 (X : Cx) (c : Code) (st : Stmt) (t : TS) : Prop where
  run : ∀ (pins : List (Addr × Obj)) (s : Shared) (σ : L2.St) (H : Hp) (D : Ends), Inv X pins σ H s → t D σ H → wpAt (model X.prog X.w) X.A c (exec st X.env) (SP X pins D) X.xe s
theorem psat_of {X : Cx} {c : Code} {body : List Stmt} {t : TS} (h : PSs X body t) : PSat X c body t := ⟨fun pins s σ H D I q => wpAt_of_wpAny (h.run pins s σ H D I q)⟩
theorem psat_cons {X : Cx} {c : Code} {st : Stmt} {rest : List Stmt} {t u : TS} (h1 : PSat1 X c st t) (h2 : PSs X rest u) : PSat X c (st :: rest) (tSeq t u) := by
  refine ⟨fun pins s σ H D I q => ?_⟩
  refine PySem.ks_wpAt_execs_cons (wpAt_mono (h1.run pins s σ H { D with nx := u D } I q) (fun f s1 r => ?_) fun _ _ z => z)
  cases f with
  | next =>
    obtain ⟨σ', H', I', r⟩ := r
    exact wpAt_of_wpAny (h2.run pins s1 σ' H' D I' r)
  | brk => exact r
  | cont => exact r
  | ret u => exact r
/-- the words of a def that closes over its class -/
def nfOf (x qual : Str) (st : Stmt) (cc cda : Addr) : NF := ⟨x, qual, defArgs st, defBody st, defScope st, [("__class__", cc)], cda⟩
structure FunX (K : PySem.W.Frag) (x qual : Str) (st : Stmt) (f : Addr) (fd : FuncData) (cc cda D : Addr) : Prop where
  ex : ∃ (oc : Value) (od : Option Addr) (kV doc pm : Value) (an : Option Addr) (ct : Value) (osl : Array (Option Value)),
    fd = PySem.W.fnX x qual (defArgs st) (defBody st) (defScope st) [("__class__", cc)] .none kV doc pm an (.ref cda) ct ∧ K.lookup f = some ⟨oc, od, .func fd, osl⟩ ∧ PySem.W.codeIn K (.ref cda) qual = true
  cell : ∃ (cl : Value) (cld : Option Addr) (csl : Array (Option Value)), K.lookup cc = some ⟨cl, cld, .cell (some (.ref D)), csl⟩
  kp : PySem.W.keepIn K (.ref f) = true
section
variable {P : Program} {w : World} {K : PySem.W.Frag} {mg : Str → Option Value} {base : Heap}
abbrev cxX (CX : CXT) (P : Program) (w : World) (K : PySem.W.Frag) (mg : Str → Option Value) (base : Heap) (N : List Str) (x qual : Str) (st : Stmt) (cc cda f : Addr) (A : Around) (outer : List Env) (s : Shared) (H : Hp) (E : XK) : Cx := ncx CX P w K mg base N (nfOf x qual st cc cda) f A outer s H E
theorem FunX.ok {CX : CXT} {x qual : Str} {st : Stmt} {f cc cda D : Addr} {fd : FuncData} {N ps : List Str} {k : Nat} {sp : Sp} (F : FunX K x qual st f fd cc cda D) (S : NScope N ps ["__class__"] (defScope st)) (len : ∀ vs H Q E, sp vs H Q E → vs.length = ps.length)
    (hbody : ∀ (A : Around) (outer : List Env) (s : Shared) (H : Hp) (vs : List V) (Q : VK) (E : XK), Room k (A.deeper (envF (nfOf x qual st cc cda) f s.heap.objs.size)) → sp vs H Q E →
      ∃ t, PSat (cxX CX P w K mg base N x qual st cc cda f A outer s H E) (.func (defBody st) (envF (nfOf x qual st cc cda) f s.heap.objs.size)) (defBody st) t ∧ t { nx := fun _ H' => Q .non H', rt := Q } (startF N vs [some (.ref D)]) H) :
    FnOk P w K mg base CX (k + 1) f fd ps sp := by
  obtain ⟨oc, od, kV, doc, pm, an, ct, osl, rfl, lk, hcd⟩ := F.ex
  obtain ⟨cl, cld, csl, hcc⟩ := F.cell
  refine ⟨len, fun A outer s H args us vs Q E hr e0 hb r hsp => ?_⟩
  have hl := len _ _ _ _ hsp
  have KX : K.In s.heap := e0.mod.kin.keeps fun b o e => (e0.bs b o e).1
  have lim : s.heap.NoLimit := e0.mod.nolimit.keeps fun b o e => (e0.bs b o e).1
  have hcB := e0.mod.kin _ _ hcc
  have C : CellsAt (nfOf x qual st cc cda).cl ["__class__"] [some (.ref D)] s.heap H := by
    refine ⟨rfl, fun y c e => ?_, fun a b c e1 e2 => ?_, fun i y e => ?_⟩
    · have e' : (if y = ("__class__" : Str) then some cc else none) = some c := by
        rw [← e]
        show _ = List.lookup y [(("__class__" : Str), cc)]
        rw [List.lookup_cons, List.lookup_nil]
        by_cases h : y = ("__class__" : Str)
        · rw [if_pos h, beq_iff_eq.mpr h]
        · rw [if_neg h, beq_eq_false_iff_ne.mpr h]
      split at e'
      · cases e'
        exact ⟨(e0.bs _ _ hcB).2, _, _, KX _ _ hcc, rfl⟩
      · cases e'
    · have g : ∀ (y : Str) (d : Addr), List.lookup y [(("__class__" : Str), cc)] = some d → y = "__class__" := by
        intro y d e
        rw [List.lookup_cons, List.lookup_nil] at e
        by_cases h : y = ("__class__" : Str)
        · exact h
        · rw [beq_eq_false_iff_ne.mpr h] at e
          cases e
      exact (g a c e1).trans (g b c e2).symm
    · match i, e with
      | 0, e =>
        have ey : y = "__class__" := (Option.some.inj e).symm
        subst ey
        exact ⟨cc, rfl, fun v hv => ⟨.ref D, by cases hv; rfl, _, KX _ _ hcc, rfl⟩⟩
      | i + 1, e => cases e
  refine PySem.ks_codeAny_call_defAt (fd := PySem.W.fnX x qual (defArgs st) (defBody st) (defScope st) [("__class__", cc)] .none kV doc pm an (.ref cda) ct) (body := defBody st) (binds := ps.zip us) hr.depth (KX _ _ lk) rfl lim (PySem.W.codeRec_of KX hcd) rfl hb S.nocell (fun ⟨n, v⟩ hy => S.par n (List.of_mem_zip hy).1) (fun h₁ hns kp => ?_) S.co S.gen S.kind
  obtain ⟨t, ht, hq⟩ := hbody A outer s H vs Q E (hr.deeper _) hsp
  have I : Inv (cxX CX P w K mg base N x qual st cc cda f A outer s H E) [] (startF N vs [some (.ref D)]) H { s with heap := h₁, toks := s.toks + (ps.zip us).length } := inv_startN S hr.hd e0 hl r C hns kp
  refine wpAt_mono (ht.run [] _ (startF N vs [some (.ref D)]) H _ I hq) (fun fl s' hs => ?_) fun e s' hs => hs
  have fin : ∀ {σ' : L2.St} {H' : Hp} {v : V} {u : Value}, Inv (cxX CX P w K mg base N x qual st cc cda f A outer s H E) [] σ' H' s' → L2.RelV v u → Q v H' → CE outer P w H s Q u s' :=
    fun {σ' H' v u} J rv q => ⟨v, H', J.os, J.bare, J.base, J.hok, rv, q⟩
  cases fl with
  | ret u =>
    obtain ⟨v, σ', H', J, rv, q⟩ := hs
    exact fin J rv q
  | next =>
    obtain ⟨σ', H', J, q⟩ := hs
    exact fin (v := V.non) (u := Value.none) J rfl q
  | brk =>
    obtain ⟨_, _, _, q⟩ := hs
    exact False.elim q
  | cont =>
    obtain ⟨_, _, _, q⟩ := hs
    exact False.elim q
end

/-! ### super().__init__(e) -/
/-- what the written part says of an own error that is made by an __init__ of its own: OexC, its place in the chain -/
structure ErrC (K : PySem.W.Frag) (C : Addr) : Prop where
  ox : OexC K C
  sup : PySem.W.ks_superIn K C C "__init__" = some (some (.builtin "ValueError.__init__"))
  isV : PySem.W.subIn K (.ref C) (.type "ValueError") = some true
  opq : PySem.W.nsIn K cStatics "thirdparty.any" = some none
  me : PySem.W.mroIn K C (.ref C) = some true
/-- what the code object of the def tells -/
structure CodeF (K : PySem.W.Frag) (P : Program) (cda : Addr) : Prop where
  at_ : ∃ (ccl : Value) (cdd : Option Addr) (vs : Array Value) (ccs : Array (Option Value)) (file : Str) (tf : Tok), K.lookup cda = some ⟨ccl, cdd, .fields vs, ccs⟩ ∧ vs[2]? = some (.str file tf) ∧ ((P.main.file : Str) == file) = true
  noTop : (P.main.scope.names.lookup ("super" : Str)).isSome = false
/-- the reading: the text is reckoned, nothing more -/
def tSupI (C : Addr) (ta : TA) : TS := fun D σ H => ∃ a : Addr, σ[0]? = some (some (.ref a)) ∧ H a = some (exo a C none) ∧ ta σ H fun vs H1 => vs.length ≤ 1000 ∧ H1 a = some (exo a C none) ∧ D.nx σ H1
section
variable {X : Cx}
theorem psat_sup {body : List Stmt} {f cc cda C : Addr} {fd : FuncData} {oc : Value} {od : Option Addr} {osl : Array (Option Value)} {cl : Value} {cld : Option Addr} {csl : Array (Option Value)} {ar : Arg} {e : Expr} {es : List Expr} {ta : TA} {p0 p1 apos cpos pos : Pos} {pl : Sem Bool}
    (T : ErrC X.K C) (G : CodeF X.K X.prog cda)
    (hf : X.K.lookup f = some ⟨oc, od, .func fd, osl⟩) (hp : (fd.params.posonlyargs ++ fd.params.args).head? = some ar)
    (hcell : X.K.lookup cc = some ⟨cl, cld, .cell (some (.ref C)), csl⟩) (hsuper : X.mg "super" = none)
    (hfu : X.env.func = some f) (hco : X.env.code = .ref cda) (hcl : X.env.cells.lookup ("__class__" : Str) = some cc)
    (hks : X.env.scope.names.lookup ("super" : Str) = some .globalImplicit) (hkc : X.env.scope.names.lookup ("__class__" : Str) = some .free) (hka : X.env.scope.names.lookup ar.arg = some .local)
    (hN : X.N[0]? = some ar.arg) (ha : PA X (e :: es) ta)
    (hev : eval (.Call (.Attribute (.Call (.Name "super" p0) [] [] p1) "__init__" apos) (e :: es) [] cpos) X.env = (do
      let ov ← attributeBase (.Call (.Name "super" p0) [] [] p1) "__init__" X.env (eval (.Call (.Name "super" p0) [] [] p1) X.env)
      standAt apos.atName
      let (f, first) ← holding [ov] (getMethod ov "__init__" pl)
      callWith cpos f first (backTo cpos (starEach (e :: es) X.env)) []))
    (hst : starEach (e :: es) X.env = (false, eval e X.env) :: starEach es X.env) (hpl : (backTo cpos (starEach es X.env)).any (·.1) = false)
    (hsw : swapsWith (.Call (.Attribute (.Call (.Name "super" p0) [] [] p1) "__init__" apos) (e :: es) [] cpos) none pos.line X.env = pure false) (hint : interactive X.env = false) :
    PSat1 X (.func body X.env) (.Expr (.Call (.Attribute (.Call (.Name "super" p0) [] [] p1) "__init__" apos) (e :: es) [] cpos) pos) (tSupI C ta) := by
  refine ⟨fun pins s σ H D I h => ?_⟩
  obtain ⟨a, hσ, ea, q⟩ := h
  obtain ⟨ccl, cdd, vs, ccs, file, tf, hcode, hvs, hfile⟩ := G.at_
  obtain ⟨nm, qn, N, bs, bm, sn, sub, ab, col, dd, k0, k1, k2, k3, k5, hC, hbm⟩ := T.ox.cls
  have hcls : PySem.W.clsIn X.K C = some { name := nm, bases := bs, mro := .ref C :: bm, ns := N, qualname := qn, hasDict := true, slotNames := sn, subclasses := sub, abstract := ab, collection := col, hasDel := false } := by unfold PySem.W.clsIn; rw [hC] <;> rfl
  obtain ⟨t1, ho⟩ := exo_at I.hok ea
  obtain ⟨hh, g, d, t, os⟩ := s
  have XK := I.kIn
  obtain ⟨mb, hb1, hb2⟩ := I.mod.blt
  obtain ⟨m, hn, hl⟩ := id I.loc
  obtain ⟨u0, ru0, lk0⟩ := hl 0 ar.arg (.ref a) hN hσ (.inl hka)
  obtain rfl : u0 = Value.ref a := ru0
  have hv : m ar.arg = some (Value.ref a) := by
    rcases lk0 with ⟨_, e⟩ | ⟨z, _⟩
    · exact e
    · exfalso
      rcases z with z | z
      · have z' : X.env.scope.names.lookup ar.arg = some .cell := z
        rw [hka] at z'; cases z'
      · have z' : X.env.scope.names.lookup ar.arg = some .free := z
        rw [hka] at z'; cases z'
  refine PySem.ks_wpAt_Expr_any (PySem.ks_wpAt_MethodCall ?_ hev) hint hsw
  refine PySem.ks_wpAt_super_base (env := X.env) hks hkc (by decide) hfu (XK _ _ hf) rfl hp hco (XK _ _ hcode) rfl hvs hfile G.noTop ?_
  refine PySem.W.ks_loadName_global I.ok.kind hks (PySem.Calls.loadGlobal_builtin (by rw [I.ok.glob]; exact I.mod.glob.keeps I.bk) hsuper (by rw [I.ok.blt]; exact hb1.keeps I.bk) ((hb2 "super" (by decide)).trans (by decide +kernel)) ⟨rfl, ?_⟩)
  refine wpAny_loadName_free I.ok.kind hkc hcl ⟨_, XK _ _ hcell, rfl⟩ ?_
  refine wpAny_loadName_local I.ok.kind hka hn hv ?_
  refine ks_wpAny_isType_cls (XK _ _ hC) rfl ⟨rfl, ?_⟩
  refine ks_wpAny_call_super (XK _ _ hC) rfl ho rfl (fun c z => nomatch z) (PySem.W.looks_mroIn XK T.me) (fun h' e1 k1' => ?_)
  have I1 : Inv X pins σ H ⟨h', g, d, t, os⟩ := I.kept (t' := t) k1'
  have X1 := I1.kIn
  have ho1 := k1' _ _ ho
  have IA : PySem.W.InstAt h' a _ C none := ⟨ho1, rfl, rfl, trivial⟩
  refine PySem.W.kxs_getMethod PySem.W.kxs_ValueError e1 (PySem.W.looks_opaque X1 T.opq) (l₀ := .ref C :: bm) ?_ rfl X1 ?_ (IA.type.andThen (PySem.W.looks_subIn X1 T.isV)) (PySem.W.ks_ne X1 IA hcls) (by decide) ?_
  · exact fun A Q E s k q => wpAny_bind ((PySem.W.looks_clsIn X1 hcls) A _ E s k (wpAny_pure q))
  · have q1 := T.sup
    unfold PySem.W.ks_superIn at q1
    rw [hcls] at q1
    exact q1
  have I2 : Inv X pins σ H ⟨h'.push (PySem.W.kxs_mw "ValueError.__init__" a), g, d, t + 1, os⟩ := I1.kept (t' := t + 1) (fun b o z => Heap.get?_push_of_some _ z)
  have hu2 : (h'.push (PySem.W.kxs_mw "ValueError.__init__" a)).get? h'.objs.size = some (PySem.W.kxs_mw "ValueError.__init__" a) := Heap.get?_push_size _ rfl
  have hHu : H h'.objs.size = none := I1.hok.fresh (Nat.le_refl _)
  have J2 : Inv X ((h'.objs.size, PySem.W.kxs_mw "ValueError.__init__" a) :: pins) σ H ⟨h'.push (PySem.W.kxs_mw "ValueError.__init__" a), g, d, t + 1, os⟩ := by
    refine I2.pins_of fun p hp => ?_
    rcases List.mem_cons.mp hp with rfl | hp
    · exact ⟨hu2, hHu, Nat.ne_of_gt I1.lt, I1.nofs (Nat.le_refl _), fun v z => nomatch z⟩
    · exact I2.pin p (List.mem_append_right _ hp)
  have key : wpAny (model X.prog X.w) X.A (spliced (backTo cpos (starEach (e :: es) X.env))) (fun vs s₁ => PySem.W.KxsAt "ValueError.__init__" h'.objs.size a s₁.heap ∧ wpAny (model X.prog X.w) X.A (call (.ref h'.objs.size) vs) (fun _ => SP X pins D .next) X.xe s₁) X.xe ⟨h'.push (PySem.W.kxs_mw "ValueError.__init__" a), g, d, t + 1, os⟩ := by
    refine thn (ha.run cpos _ _ σ H _ J2 q) fun us s3 ⟨vs3, H1, I3, rv, hvl, ea1, qn⟩ => ?_
    have hu3 := (I3.pin (h'.objs.size, PySem.W.kxs_mw "ValueError.__init__" a) (List.mem_append_right _ List.mem_cons_self)).1
    refine ⟨hu3, ?_⟩
    have J3 : Inv X pins σ H1 s3 := I3.pins_of fun p hp => I3.pin p (List.mem_append_right _ (List.mem_cons_of_mem _ hp))
    obtain ⟨t2, ho3⟩ := exo_at J3.hok ea1
    have hus : us.length ≤ sizeLine := by
      rw [← Paired.length rv, sizeLine_eq]; omega
    have hC3 := J3.kIn _ _ hC
    obtain ⟨h3, g3, d3, tk3, os3⟩ := s3
    refine wpAny_call (codeAny_of_tree ?_)
    show wpAny _ X.A.in1 (callAny (.ref h'.objs.size) ⟨us, []⟩) _ _ _
    simp only [callAny]
    refine wpAny_bind (wpAny_load hu3 ?_)
    simp only [PySem.W.kxs_mw, show (Value.type "method-wrapper" == Value.type "method" || Value.type "method-wrapper" == Value.type "builtin_function_or_method" || Value.type "method-wrapper" == Value.type "method-wrapper") = true by decide, if_true]
    refine PySem.W.KFB.if_so (by decide) ?_
    refine wpAny_bind (PySem.W.check_bound_init F.excBase_ValueError.toExcCallFacts hC3 ho3 rfl ?_)
    refine wpAny_bind (wpAny_pure (wpAny_pure ?_))
    refine ⟨plainId_quiet F.excBase_ValueError.init.plain _, codeAny_builtin F.excBase_ValueError.initEntry ?_⟩
    refine PySem.W.exc_init_tree (cls := .ref C) (t0 := t2) (dv := none) (c2 := .none) (c3 := .none) (b4 := .bool false) ho3 hus fun h4 k4 hx4 ht4 => ?_
    have J := J3.write (t' := tk3) (x := a) (e := a) (o := exo a C none) (h' := h4) (by rw [ea1]; exact True.intro) (.inl rfl) k4 ⟨_, hx4⟩ (exo_ok hx4)
    have eu : upd H1 a (exo a C none) = H1 := by
      funext b
      by_cases hb : b = a
      · rw [hb, upd_same, ea1]
      · rw [upd_ne hb]
    rw [eu] at J
    exact ⟨σ, H1, J, qn⟩
  rw [hst] at key ⊢
  refine PySem.W.kxs_callWith (i := "ValueError.__init__") (x := a) (by show (false || (backTo cpos (starEach es X.env)).any (·.1)) = false; rw [hpl]; rfl) ?_
  exact PySem.Calls.evalArgs_plain key
end
end My

set_option Elab.async false
set_option linter.all false
set_option maxRecDepth 100000
set_option maxHeartbeats 4000000
/-! ### own errors: made, raised, caught, asked -/
namespace My
open PySem L2 NdefX
/-- __init__ of an error with one field: what it promises -/
def spErr1 (C : Addr) (f : Str) (P : V → Prop) : Sp := fun vs H Q _ => ∃ (a : Addr) (v : V), vs = [.ref a, v] ∧ P v ∧ H a = some (exo a C none) ∧ ∀ dx, H dx = none → dx ≠ a → Q .non (upd (upd H dx (exd dx [(f, v)])) a (exo a C (some dx)))
/-- .. with two fields -/
def spErr2 (C : Addr) (f g : Str) (P : V → V → Prop) : Sp := fun vs H Q _ => ∃ (a : Addr) (v u : V), vs = [.ref a, v, u] ∧ P v u ∧ H a = some (exo a C none) ∧ ∀ dx, H dx = none → dx ≠ a → Q .non (upd (upd (upd H dx (exd dx [(f, v)])) a (exo a C (some dx))) dx (exd dx [(g, u), (f, v)]))
theorem err_kp {H1 H2 : Hp} {a dx : Addr} {fs : List (Str × V)} (na : H1 a = none) (nd : H1 dx = none) (k : ∀ b, b ≠ a → b ≠ dx → H2 b = H1 b) : Kp [] H1 (upd (del H2 a) dx (.xd fs)) := fun b o _ e => by
  have h1 : b ≠ a := ne_of_none e na
  have h2 : b ≠ dx := ne_of_none e nd
  rw [upd_ne h2, del_ne h1, k b h1 h2]
  exact e
theorem err1_made {C : Addr} {f : Str} {P : V → Prop} {v : V} {H1 : Hp} {Q : XK} (hp : P v) (q : ∀ d H', H1 d = none → H' d = some (.xd [(f, v)]) → Kp [] H1 H' → Q (.ref C) (some d) H') :
    ([v] : List V).length ≤ 1000 ∧ ∀ a, H1 a = none → spErr1 C f P (.ref a :: ([v] ++ [])) (upd H1 a (exo a C none)) (fun v H2 => v = .non ∧ ∃ (d : Addr) (fs : List (Str × V)), H2 a = some (exo a C (some d)) ∧ H2 d = some (exd d fs) ∧ H1 d = none ∧ Q (.ref C) (some d) (upd (del H2 a) d (.xd fs))) (fun _ _ _ => False) := by
  refine ⟨by show 1 ≤ 1000; decide, fun a na => ⟨a, v, rfl, hp, upd_same, fun dx ndx hne => ?_⟩⟩
  rw [upd_ne hne] at ndx
  refine ⟨rfl, dx, _, upd_same, by rw [upd_ne hne]; exact upd_same, ndx, q dx _ ndx upd_same (err_kp na ndx fun b h1 h2 => ?_)⟩
  rw [upd_ne h1, upd_ne h2, upd_ne h1]
theorem err2_made {C : Addr} {f g : Str} {P : V → V → Prop} {v u : V} {H1 : Hp} {Q : XK} (hp : P v u) (q : ∀ d H', H1 d = none → H' d = some (.xd [(g, u), (f, v)]) → Kp [] H1 H' → Q (.ref C) (some d) H') :
    ([v, u] : List V).length ≤ 1000 ∧ ∀ a, H1 a = none → spErr2 C f g P (.ref a :: ([v, u] ++ [])) (upd H1 a (exo a C none)) (fun v H2 => v = .non ∧ ∃ (d : Addr) (fs : List (Str × V)), H2 a = some (exo a C (some d)) ∧ H2 d = some (exd d fs) ∧ H1 d = none ∧ Q (.ref C) (some d) (upd (del H2 a) d (.xd fs))) (fun _ _ _ => False) := by
  refine ⟨by show 2 ≤ 1000; decide, fun a na => ⟨a, v, u, rfl, hp, upd_same, fun dx ndx hne => ?_⟩⟩
  rw [upd_ne hne] at ndx
  refine ⟨rfl, dx, _, by rw [upd_ne hne.symm]; exact upd_same, upd_same, ndx, q dx _ ndx upd_same (err_kp na ndx fun b h1 h2 => ?_)⟩
  rw [upd_ne h2, upd_ne h1, upd_ne h2, upd_ne h1]
/-- what the written part says of an error class that is caught and asked -/
structure KitC (K : PySem.W.Frag) (C : Addr) : Prop where
  cl : (PySem.W.clsIn K C).isSome = true
  ga : PySem.W.findIn K (.ref C) "__getattribute__" = some (some (.builtin "BaseException.__getattribute__"))
  gg : PySem.W.findIn K (.ref C) "__getattr__" = some none
  bx : PySem.W.subIn K (.ref C) (.type "BaseException") = some true
  hc : PySem.W.findIn K (.ref C) "__class__" = some (some (.builtin "object.__class__"))
  hn : PySem.W.specialIn K (.builtin "object.__class__") "__get__" = some (some (.builtin "getset_descriptor.__get__"))
  ht : PySem.W.takesIn K (.builtin "object.__class__") = some true
  ob : PySem.W.mroIn K C (.type "object") = some true
/-- isinstance(e, c), e the error that the suite holds -/
def rIsX (K : PySem.W.Frag) (a : Addr) (cls : Value) (d : Option Addr) : List V → Hp → VK → Prop := fun xs H Q => ∃ (c : V) (cv : Value) (b : Bool) (D dd : Addr) (fs : List (Str × V)), xs = [.ref a, c] ∧ (∀ u, RelV c u → u = cv) ∧ cls = .ref D ∧ d = some dd ∧ H dd = some (.xd fs) ∧ KitC K D ∧ PySem.W.kitOne K (.ref D) cv = some b ∧ Q (.bl b) H
/-- .. a tuple of classes that was just laid -/
def rIsXT (K : PySem.W.Frag) (a : Addr) (cls : Value) (d : Option Addr) : List V → Hp → VK → Prop := fun xs H Q => ∃ (tp : Addr) (cs : List V) (us : List Value) (b : Bool) (D dd : Addr) (fs : List (Str × V)), xs = [.ref a, .ref tp] ∧ H tp = some (.tup cs) ∧ Paired ClsV cs us ∧ cls = .ref D ∧ d = some dd ∧ H dd = some (.xd fs) ∧ KitC K D ∧ PySem.W.kitAny K (.ref D) us = some b ∧ Q (.bl b) H
section
variable {X : Cx} {a : Addr} {oe : Obj} {cls : Value} {d : Option Addr} {pn : List (Addr × Obj)}
theorem inst_x {pins : List (Addr × Obj)} {s : Shared} {σ : L2.St} {H : Hp} {D dd : Addr} {fs : List (Str × V)} (I : Inv (X.suite a ((a, oe) :: pn)) pins σ H s) (hz : Zc (.ref D) (some dd) oe) (hf : ∃ vs, oe.data = .fields vs) (e : H dd = some (.xd fs)) : ∃ od, PySem.W.InstAt s.heap a oe D (some od) := by
  obtain ⟨ha, _⟩ := I.pin (a, oe) (List.mem_append_left _ List.mem_cons_self)
  obtain ⟨vs, hv⟩ := hf
  obtain ⟨mA, hns, _⟩ := (show ObjOk X.prog X.w H s.heap dd (.xd fs) from I.hok dd _ e)
  obtain ⟨od, ho, _⟩ := lookIn_ns hns
  exact ⟨od, ha, hz.1, by unfold PySem.W.notCls; rw [hv] <;> rfl, by rw [hz.2]; exact ho⟩
theorem call_isX (hz : Zc cls d oe) (hf : ∃ vs, oe.data = .fields vs) : CallR (X.suite a ((a, oe) :: pn)) (.builtin "isinstance") (rIsX X.K a cls d) := by
  intro pins s σ H xs us Q I r h
  obtain ⟨c, cv, b, D, dd, fs, rfl, hcv, rfl, rfl, ed, T, e, q⟩ := h
  obtain ⟨u1, u2, rfl, r1, r2⟩ := vals2 r
  cases (show u1 = Value.ref a from r1)
  cases hcv _ r2
  obtain ⟨od, J⟩ := inst_x I hz hf ed
  exact PySem.W.kia_one (PySem.W.kitx_exc T.cl T.ga T.gg T.bx T.hc T.hn T.ht T.ob) I.kIn J e (fun z => nomatch z) fun tk => ⟨.bl b, H, I.tok tk, rfl, q⟩
theorem call_isXT (hz : Zc cls d oe) (hf : ∃ vs, oe.data = .fields vs) : CallR (X.suite a ((a, oe) :: pn)) (.builtin "isinstance") (rIsXT X.K a cls d) := by
  intro pins s σ H xs us Q I r h
  obtain ⟨tp, cs, ws, b, D, dd, fs, rfl, hT, k, rfl, rfl, ed, T, e, q⟩ := h
  obtain ⟨u1, u2, rfl, r1, r2⟩ := vals2 r
  cases (show u1 = Value.ref a from r1)
  cases (show u2 = Value.ref tp from r2)
  obtain ⟨od, J⟩ := inst_x I hz hf ed
  obtain ⟨_, its, rv, o, h1, h2, n, h3⟩ := (show ObjOk X.prog X.w H s.heap tp (.tup cs) from I.hok tp _ hT)
  cases ClsV.all k rv
  obtain ⟨oc, od2, dt, sl⟩ := o
  simp only at h2 h3
  subst h2 h3
  exact PySem.W.kia_tup (PySem.W.kitx_exc T.cl T.ga T.gg T.bx T.hc T.hn T.ht T.ob) I.kIn J h1 e (fun z => nomatch z) fun tk => ⟨.bl b, H, I.tok tk, rfl, q⟩
end
end My

set_option Elab.async false
set_option linter.all false
set_option maxRecDepth 100000
set_option maxHeartbeats 4000000
/-! ### d.values() as a value, list(d.values()) -/
namespace My
open PySem L2 PySem.W
/-- at q: the view of the values of the dict at d -/
def viewO (q d : Addr) : HO := .ext fun h => h.get? q = some ({ cls := .type "dict_values", data := .fields #[.ref d] } : Obj)
theorem view_ok {P : Program} {w : World} {H : Hp} {h : Heap} {q d : Addr} (e : h.get? q = some ({ cls := .type "dict_values", data := .fields #[.ref d] } : Obj)) : ObjOk P w H h q (viewO q d) := ⟨e, ⟨_, e⟩, fun _ _ z k => k _ z⟩
theorem view_at {P : Program} {w : World} {H : Hp} {h : Heap} {q d : Addr} (ok : HOk P w H h) (e : H q = some (viewO q d)) : h.get? q = some ({ cls := .type "dict_values", data := .fields #[.ref d] } : Obj) := by
  have x : ObjOk P w H h q (.ext fun h => h.get? q = some ({ cls := .type "dict_values", data := .fields #[.ref d] } : Obj)) := ok q _ e
  exact x.1
def tVals (td : TE) : TE := fun σ H Q => td σ H fun x H1 => ∃ (a : Addr) (kvs : List (Key × V)), x = .ref a ∧ H1 a = some (.dK kvs) ∧ ∀ q, H1 q = none → Q (.ref q) (upd H1 q (viewO q a))
def rListV : List V → Hp → VK → Prop := fun xs H Q => ∃ (q a : Addr) (kvs : List (Key × V)), xs = [.ref q] ∧ H q = some (viewO q a) ∧ H a = some (.dK kvs) ∧ ∀ p, H p = none → Q (.ref p) (upd H p (.lst (kvs.map fun kv => kv.2)))
theorem vals_of : ∀ {kvs : List (Key × V)} {vs : List (Key × Value)} {us : List Value}, KV kvs vs → us.length = vs.length → (∀ (j : Nat) (v : Value), us[j]? = some v → ∃ k, vs[j]? = some (k, v)) → Vals (kvs.map fun kv => kv.2) us
  | [], [], [], _, _, _ => .nil
  | p :: r, q :: vs, u :: us, h, hl, e => by
    cases h with
    | cons h1 h2 =>
      obtain ⟨k, e1⟩ := e 0 u rfl
      have e1' : q = (k, u) := Option.some.inj e1
      subst e1'
      exact .cons h1.2 (vals_of h2 (by simpa using hl) fun j v z => e (j + 1) v z)
  | [], _ :: _, _, h, _, _ => by cases h
  | _ :: _, [], _, h, _, _ => by cases h
  | [], [], _ :: _, _, hl, _ => by cases hl
  | _ :: _, _ :: _, [], _, hl, _ => by cases hl
section
variable {X : Cx} {o : Expr} {td : TE} {apos cpos : Pos}
theorem pe_values (he : PE X o td) (hbase : attributeBase o "values" X.env (eval o X.env) = eval o X.env := by rfl) (hline : (apos.endLine == cpos.line) = true := by rfl) : PE X (.Call (.Attribute o "values" apos) [] [] cpos) (tVals td) := by
  refine ⟨fun pins s σ H Q I h => ?_⟩
  refine wpAny_Call_method (T := "dict") (id := "dict.values") hbase rfl hline F.plainAttrs_dict F.slot_dict_values F.type_dict_values (thn (he.run pins s σ H _ I h) fun u s1 ⟨x, H1, I1, rx, d, kvs, ex, hd, q⟩ => ?_)
  subst ex
  cases (show u = Value.ref d from rx)
  obtain ⟨_, hs, vs, rel, dof⟩ := dk_of I1.hok hd
  refine ⟨dof.typeIs, dof.mapOf.noDict, ?_⟩
  have got := Heap.get?_push_size s1.heap (o := ({ cls := .type "dict_values", data := .fields #[.ref d] } : Obj)) rfl
  have J : Inv X pins σ (upd H1 s1.heap.objs.size (viewO s1.heap.objs.size d)) { s1 with heap := s1.heap.push { cls := .type "dict_values", data := .fields #[.ref d] } } := I1.laid (t' := s1.toks) (fun b ob q => Heap.get?_push_of_some _ q) (Nat.le_refl _) (view_ok got)
  exact method_meetsIn F.slot_dict_values F.entry_dict_values rfl (PySem.evalArgs_none ⟨rfl, dof.typeIs, F.args_dict_values_1 _, _, meets_dict_values (mixKind X.prog X.w) d hs, ⟨vs, dof⟩, ⟨.ref s1.heap.objs.size, _, J, rfl, q _ (I1.hok.fresh (Nat.le_refl _))⟩⟩)
theorem call_listV (hcalm : X.calm = true) : CallR X (.type "list") rListV := by
  intro pins s σ H xs us Q I r h
  obtain ⟨v, a, kvs, rfl, hv, ha, q⟩ := h
  obtain ⟨u, rfl, rx⟩ := vals1 r
  cases (show u = Value.ref v from rx)
  obtain ⟨z, hs, vs, rel, dof⟩ := dk_of I.hok ha
  obtain ⟨es, ep, raw, sz, each⟩ := dof.raw
  have hl := KV.length rel
  refine PySem.W.kdl_call (KdlSrc.rawValues (r := v) (d := a) (es := es) (ep := ep)) (I.ok.hd hcalm) ⟨⟨_, view_at I.hok hv, rfl, rfl⟩, raw⟩ (by omega) fun h' tk acc c' hk hD hacc => ?_
  have av : Vals (kvs.map fun kv => kv.2) acc.toList := vals_of rel (by rw [Array.length_toList, hacc.1, sz]) fun j u ej => by
    rw [Array.getElem?_toList] at ej
    obtain ⟨hi, rfl⟩ := hacc.2 j u ej
    have hj : j < vs.length := by omega
    have e1 : vs[j]? = some (vs[j].1, vs[j].2) := List.getElem?_eq_getElem hj
    have e2 := (each j hi _ _ e1).2
    exact ⟨vs[j].1, by rw [e1, e2]⟩
  refine ⟨.ref s.heap.objs.size, upd H s.heap.objs.size (.lst (kvs.map fun kv => kv.2)), I.laid (t' := tk) hk (Nat.le_refl _) ?_, rfl, q _ (I.hok.fresh (Nat.le_refl _))⟩
  exact (show ObjOk X.prog X.w _ _ _ (.lst _) from ⟨by rw [List.length_map]; exact z, acc.toList, c', av, by rw [Array.toArray_toList]; exact hD⟩)
end
end My

set_option Elab.async false
set_option linter.all false
set_option maxRecDepth 100000
set_option maxHeartbeats 4000000
/-! ### an exception that leaves a list comprehension -/
namespace My
open PySem L2
theorem inv_xe {X : Cx} {pins : List (Addr × Obj)} {σ : L2.St} {H : Hp} {s : Shared} (xe' : Value → Shared → Prop) (I : Inv X pins σ H s) : Inv { X with xe := xe' } pins σ H s := by
  obtain ⟨ok, a, b, c, d, e, f, g, h, i, j⟩ := I
  obtain ⟨o1, o2, o3, o4, o5, o6, o7, o8, o9, o10, o11, o12, o13, o14, o15, o16, o17, o18⟩ := ok
  exact ⟨⟨o1, o2, o3, o4, o5, o6, o7, o8, o9, o10, o11, o12, o13, o14, o15, o16, o17, o18⟩, a, b, c, d, e, f, g, h, i, j⟩
theorem hide_ne {h : Heap} {C b : Addr} {o : Obj} (e : (PySem.W.hideAll h [C]).get? b = some o) : b ≠ C := fun z => by
  rw [z] at e
  have q := PySem.W.hideAll_none (h := h) [C] (b := C) (by simp)
  rw [q] at e
  exact nomatch e
section
variable {X : Cx} {pins : List (Addr × Obj)} {σ : L2.St} {H5 : Hp} {s5 s' : Shared} {E : XK} {C : Addr} {ce : Env} {m : Str → Option Value}
theorem out_of_block (tk : L2.Takes X (fun c d _ H => E c d H)) (hs : X.stack = X.env :: X.outer) (hf : X.env.frame = some X.env.locals) (I : Inv X pins σ H5 s5) (hc : ce.frame = X.env.frame) (hl : ce.locals = C) (F : FpOk X pins H5 C) (hn : s5.heap.Ns C m)
    {u : Value} (c : L2.CX X.prog X.w X.stack H5 s5 E u s') : notedBy (model X.prog X.w) X.A ce (CompFails (model X.prog X.w) X.A X.xe ce) u s' := by
  obtain ⟨a0, B0, H0', cls0, d0, e0, fl0, hok0, ub0, na0, os0, ag0, hE0⟩ := c
  have ubf := ub0.free
  have ubk := ub0.keep
  obtain ⟨f0, f1, f2, f3, f4, f5⟩ := F
  have hCs : C ∉ frs X.stack := fun h => by
    rcases List.mem_cons.mp (I.stkSub C h) with z | z
    · exact f1 z
    · exact f2 z
  obtain ⟨oC, es, ep, hoC, hdC, rC⟩ := hn
  have hBC : B0.get? C = some oC := ubk C oC hoC f0 hCs
  have hHC : H0' C = none := ubf C oC hoC f0
  have hsC : s'.heap.get? C = some oC := fl0.1 C oC hBC
  have nsC : s'.heap.Ns C m := ⟨oC, es, ep, hsC, hdC, rC⟩
  have x : L2.XE X (fun c d _ H => E c d H ∧ H C = none) u s' := L2.XE.of_call I (E := fun c d H => E c d H ∧ H C = none) (fun _ _ _ h => h) ⟨a0, B0, H0', cls0, d0, e0, fl0, hok0, ub0, na0, os0, ag0, hE0, hHC⟩
  obtain ⟨a, B, sI, pins2, σ2, H, cls, d, rfl, J, nb, up, sky, na, os, ag, hE, hHC2⟩ := x
  have J0 : Inv X [] σ2 H sI := J.unpinned
  have sne : ∀ b o, (PySem.W.hideAll sI.heap [C]).get? b = some o → b ≠ C ∧ sI.heap.get? b = some o := fun b o e => ⟨hide_ne e, PySem.W.of_hideAll _ e⟩
  have K1 : Inv X [] σ2 H { sI with heap := PySem.W.hideAll sI.heap [C] } := J0.turned (t' := sI.toks) (it := C) (fun b o hb e => PySem.W.hideAll_get _ e (by simpa using hb)) hHC2 f1 f3 f4 (fun p hp => f5 p (by
    rw [List.append_nil] at hp
    exact List.mem_append_left _ hp))
  have bne : ∀ b o, (PySem.W.hideAll B [C]).get? b = some o → b ≠ C ∧ B.get? b = some o := fun b o e => ⟨hide_ne e, PySem.W.of_hideAll _ e⟩
  have hfr : X.A.frames = some (X.env :: X.outer) := by rw [I.ok.frames, hs]
  -- what is behind the note
  have fin : ∀ h1, HandSPX.HeldZ B (X.env :: X.outer) a (Zc cls d) X.env.locals h1 → s'.heap.UpToSlots h1 → CompFails (model X.prog X.w) X.A X.xe ce (.ref a) { s' with heap := h1 } := by
    rintro h1 ⟨g1, g2, g3, g4⟩ up1
    obtain ⟨sl, eC⟩ := up1 C oC hsC fun vs q => by rw [hdC] at q; cases q
    refine ⟨m, by rw [hl]; exact ⟨_, es, ep, eC, hdC, rC⟩, fun h2 m2 hn2 sb => ?_⟩
    rw [hl] at hn2 sb
    have st2 : (PySem.W.hideAll B [C]).StaysIn h2 := fun b o e => by
      obtain ⟨z1, z2⟩ := bne b o e
      exact (sb.2 b z1).trans (g1 b o z2)
    have fl2 : h2.FunFrames (PySem.W.hideAll B [C]) (X.env :: X.outer) := funFrames_none (Heap.FunFrames.sameBut sb hn2 g3) fun L hL => by
      cases q : (PySem.W.hideAll B [C]).get? L with
      | none => rfl
      | some o =>
        have z := (g3.mem hL).1
        rw [(bne L o q).2] at z; cases z
    obtain ⟨oe, vs, T, oT, ts, he, hz, hd, h1', hnT, hTe, hT, hdT, h3⟩ := g4
    have naC : a ≠ C := fun z => by rw [z, eC] at he; cases he; rw [hdC] at hd; cases hd
    have nTC : T ≠ C := fun z => by rw [z, eC] at hT; cases hT; rw [hdC] at hdT; cases hdT
    have nul : ∀ b, B.get? b = none → (PySem.W.hideAll B [C]).get? b = none := fun b e => by
      cases q : (PySem.W.hideAll B [C]).get? b with
      | none => rfl
      | some o => rw [(bne b o q).2] at e; cases e
    have he2 : h2.get? a = some oe := (sb.2 a naC).trans he
    have hT2 : h2.get? T = some oT := (sb.2 T nTC).trans hT
    have tr2 : HandSPX.TracedZ h2 (PySem.W.hideAll B [C]) a (Zc cls d) (rawInt X.env.locals) := ⟨oe, vs, T, oT, ts, he2, hz, hd, h1', nul T hnT, hTe, hT2, hdT, h3⟩
    unfold passOn
    refine wpAny_bind (wpAny_field he2 hd h1' ?_)
    rw [if_neg (show ¬ ((Value.ref T == Value.none) = true) from by simp)]
    rw [hc, hf]
    refine wpAny_bind (HandSPX.setFlight_anyZ (fr := some X.env.locals) st2 fl2 tr2 fun h4 k1 k2 k3 k4 => wpAny_throw ?_)
    refine tk _ _ ⟨a, PySem.W.hideAll B [C], { sI with heap := PySem.W.hideAll sI.heap [C] }, [], σ2, H, cls, d, rfl, K1, fun b o e hb => ?_, fun b o e hnf => ?_, .inr (.inr ?_), na, os, ag, hE⟩
    · obtain ⟨z1, z2⟩ := sne b o e
      exact PySem.W.hideAll_get _ (nb b o z2 hb) (by simpa using z1)
    · obtain ⟨z1, z2⟩ := sne b o e
      obtain ⟨q1, e1⟩ := up b o z2 hnf
      obtain ⟨q2, e2⟩ := up1 b _ e1 hnf
      obtain ⟨q3, e3⟩ := k4 b _ ((sb.2 b z1).trans e2) hnf
      exact ⟨q3, e3⟩
    · rw [hs]
      exact ⟨k1, nul a g2, k2, k3⟩
  show wpAny (model X.prog X.w) X.A (noteFrame (.ref a) ce) _ _ s'
  rw [noteFrame_env _ hc]
  rw [hs] at sky
  rcases sky with ⟨hB, hn, hl, oe, vs, he, hz, hd, h1⟩ | fl | hh
  · exact HandSPX.look_newZ Zc.steady hfr hl hf he hB hn hd h1 hz fin
  · exact HandSPX.looks_onZ Zc.steady hfr hf fl fin
  · exact HandSPX.againZ hf hh.2.2.2 (fin s'.heap hh (Heap.UpToSlots.refl _))
end
/-- the block's context, with a wish for what leaves it -/
abbrev blkX (X : Cx) (xe' : Value → Shared → Prop) (s : Shared) (H : Hp) (scope : Scope) (ce : Env) (fp : List Addr) : Cx := { X.blk s H scope ce fp with xe := xe' }
section
variable {X : Cx} {E : XK} {elt tg iter : Expr} {scope : Scope} {own : List (Str × Nat)} {pos : Pos} {wi : TI} {g : TG} {te : TE}
/-- [elt for tg in iter], where elt may let an exception out that the def passes on; use: what becomes of the list -/
theorem lcX_core {pins : List (Addr × Obj)} {s : Shared} {σ : L2.St} {H : Hp} {Q : VK} {pos' : Pos} {use : Option (Value → Sem Unit)} {Qf : Value → Shared → Prop} (tk : L2.Takes X (fun c d _ H => E c d H)) (hst : X.stack = X.env :: X.outer) (hf : X.env.frame = some X.env.locals) (hc : X.calm = true) (hN : X.N.Nodup) (I : Inv X pins σ H s) (hi : PI X tg iter wi) (ok : BlkOk X.N X.env.scope scope own)
    (hg : ∀ (s : Shared) (H : Hp) (C : Addr) (cl : List (Str × Addr)) (fp : List Addr), PG (X.blk s H scope (compEnvC scope cl C X.env) fp) tg g)
    (he : ∀ (xe' : Value → Shared → Prop) (s : Shared) (H : Hp) (C : Addr) (cl : List (Str × Addr)) (fp : List Addr), Passes (L2.CX X.prog X.w) (blkX X xe' s H scope (compEnvC scope cl C X.env) fp) E → PE (blkX X xe' s H scope (compEnvC scope cl C X.env) fp) elt te)
    (hs : ∀ x, foldedSetIterable iter X.env x = pure x) (h : tLc wi g tYes te (own.map (·.2)) σ H Q)
    (hRR : ∀ D C ce s' m H', Inv X pins σ H' s' → Q (.ref D) H' → s'.heap.Ns C m → FpOk X pins H' C → Env.locals ce = C → compEnds (model X.prog X.w) X.A X.xe use Qf (.ref D) ce (.ok .next) s') :
    wpAny (model X.prog X.w) X.A (comprehension (.ListComp elt [⟨tg, iter, [], 0⟩] scope pos) scope X.env pos' (newList []) false (eval iter X.env) use) Qf X.xe s := by
  have hfree : ∀ y ∈ scope.names, y.2 = .free → ∃ c, X.env.cells.lookup y.1 = some c := fun y hy e => I.ok.has _ (ok.free y hy e)
  refine comprehension_at (use := use) rfl hs (closure_ok hfree) ok.kind (fun y hy e => by rw [ok.uniq y hy, e]) (thn (hi.run pins s σ H _ I h) fun xv s1 hx => thn hx fun itv s2 h2 => ?_)
  obtain ⟨it, fp, tn, J, H2, rfl, I2, T, st2, f2, q⟩ := h2
  refine wpAny_newObj_type (newEnv_comp ?_) (by show 0 ≤ sizeLine; decide)
  -- the new list's address, and the state with it
  have hDn : H2 s2.heap.objs.size = none := I2.hok.fresh (Nat.le_refl _)
  obtain ⟨W, ⟨m0, w0⟩, turn⟩ := q _ hDn
  have I3 : Inv X pins σ (upd H2 s2.heap.objs.size (.lst [])) { s2 with heap := s2.heap.push { cls := .type "list", data := .seq ([] : List Value).toArray } } := by
    refine I2.laid (t' := s2.toks) (fun b o e => Heap.get?_push_of_some _ e) (Nat.le_refl _) ⟨Nat.zero_le _, [], 0, .nil, ?_⟩
    exact Heap.get?_push_size _ rfl
  have f3 : ∀ b ∈ fp, FpOk X pins (upd H2 s2.heap.objs.size (.lst [])) b ∧ b < (s2.heap.push { cls := .type "list", data := .seq ([] : List Value).toArray }).objs.size := fun b hb => by
    obtain ⟨o, e, _⟩ := T.obj _ _ st2 b hb
    have hlt := Heap.lt_size e
    refine ⟨⟨?_, (f2 b hb).2⟩, by rw [Heap.size_push]; exact Nat.lt_succ_of_lt hlt⟩
    rw [upd_ne (Nat.ne_of_lt hlt)]
    exact (f2 b hb).1
  have st3 : tn 0 (s2.heap.push { cls := .type "list", data := .seq ([] : List Value).toArray }) := T.keep _ _ _ st2 fun b _ o e => Heap.get?_push_of_some _ e
  have I4 := block_start I3 ok hN f3
  generalize hs3 : ({ s2 with heap := s2.heap.push { cls := .type "list", data := .seq ([] : List Value).toArray } } : Shared) = s3 at I3 I4
  have h3 : s2.heap.push { cls := .type "list", data := .seq ([] : List Value).toArray } = s3.heap := by rw [← hs3]
  rw [h3] at f3 st3
  generalize hD : s2.heap.objs.size = D at *
  generalize hH3 : upd H2 D (.lst []) = H3 at *
  generalize hcl : cellsFrom (s3.heap.objs.size + 1) scope.names (cloFrom X.env.cells scope.names []) = cl at *
  have hlo : (compEnvC scope cl s3.heap.objs.size X.env).locals = s3.heap.objs.size := rfl
  have hfr : (compEnvC scope cl s3.heap.objs.size X.env).frame = X.env.frame := rfl
  show codeAny _ _ (.compStart (.ListComp elt [⟨tg, iter, [], 0⟩] scope pos) 0 (.ref it) (.ref D) (compEnvC scope cl s3.heap.objs.size X.env)) (compEnds (model X.prog X.w) X.A X.xe use Qf (.ref D) (compEnvC scope cl s3.heap.objs.size X.env)) _
  have pg := hg s3 H3 s3.heap.objs.size cl fp
  have pe := he (fun u s' => notedBy (model X.prog X.w) X.A (compEnvC scope cl s3.heap.objs.size X.env) (CompFails (model X.prog X.w) X.A X.xe (compEnvC scope cl s3.heap.objs.size X.env)) u s') s3 H3 s3.heap.objs.size cl fp
  generalize hce : compEnvC scope cl s3.heap.objs.size X.env = ce at *
  generalize hs4 : ({ s3 with heap := pushCells (s3.heap.push { cls := .type "dict", data := .dict #[] }) scope.names } : Shared) = s4 at *
  have st4 : tn 0 s4.heap := T.keep _ _ _ st3 fun b _ o e => by rw [← hs4]; exact pushCells_keeps _ _ _ _ (Heap.get?_push_of_some _ e)
  have nfp : ∀ b ∈ fp, H3 b = none := fun b hb => (f3 b hb).1.1
  -- out of the block, back in the def's context
  have back : ∀ {σ' : L2.St} {pins' : List (Addr × Obj)} {H' : Hp} {s' : Shared}, Inv (X.blk s3 H3 scope ce fp) pins' σ' H' s' → Inv X pins σ H' s' ∧ FpOk X pins H' s3.heap.objs.size ∧ ∃ m, s'.heap.Ns s3.heap.objs.size m := fun {σ' pins' H' s'} I' => by
    have nC : H' s3.heap.objs.size = none := by
      have z : H' ce.locals = none := I'.free
      rw [hlo] at z
      exact z
    obtain ⟨m, hn, _⟩ := I'.loc
    have hn : s'.heap.Ns ce.locals m := hn
    rw [hlo] at hn
    exact ⟨I3.call' (ch := fp) I'.os I'.base I'.hok I'.bare fun b hb => ⟨(f3 b hb).1.2.2.2.1, (f3 b hb).1.2.1, (f3 b hb).1.2.2.2.2.1, (f3 b hb).1.2.2.2.2.2⟩, I3.fpOk (Nat.le_refl _) nC, m, hn⟩
  have pe := pe fun pins' σ' H' s' u s'' I' c => by
    have I'' : Inv (X.blk s3 H3 scope ce fp) pins' σ' H' s' := inv_xe (fun _ _ => False) I'
    obtain ⟨b1, b2, m, b3⟩ := back I''
    exact out_of_block tk hst hf b1 hfr hlo b2 b3 c
  have stat : ∀ {σ' : L2.St} {H' : Hp} {s' : Shared}, Inv (X.blk s3 H3 scope ce fp) [] σ' H' s' → (∀ b ∈ fp, H' b = none) → ∀ b ∈ fp, FpOk (X.blk s3 H3 scope ce fp) [] H' b := fun {σ' H' s'} I' hn b hb =>
    ⟨hn b hb, (I'.ok.exf b hb).1, I'.ok.exfs b hb, .inl hb, fun x c e => (I'.ok.exf b hb).2 x c e, fun p hp => absurd (show p ∈ ([] : List (Addr × Obj)) ++ [] from hp) (by simp)⟩
  have loop : codeAny (model X.prog X.w) X.A (.compLoop (.ListComp elt [⟨tg, iter, [], 0⟩] scope pos) 0 (.ref it) (.ref D) ce) (compEnds (model X.prog X.w) X.A X.xe use Qf (.ref D) ce) s4 := by
    refine compLoop_any (fun n s' => ∃ i H', Inv (X.blk s3 H3 scope ce fp) [] (wipe σ (own.map (·.2))) H' s' ∧ tn i s'.heap ∧ (∀ b ∈ fp, H' b = none) ∧ W i n H') ?_ m0 ⟨0, H3, I4, st4, nfp, w0⟩
    rintro n s5 ⟨i, H5, I5, st5, n5, w5⟩
    rcases turn i n H5 w5 with ⟨stop, qq⟩ | ⟨go, Nx, hNx, step⟩
    · have td := T.done (X.blk s3 H3 scope ce fp) rfl rfl rfl hc i [] s5 _ H5 (fun _ _ => False) I5 (stat I5 n5) st5 stop
      refine thnF td fun r s6 ⟨hr, I6⟩ => ?_
      subst hr
      obtain ⟨b1, b2, m, hn⟩ := back I6
      exact hRR D _ ce s6 m H5 b1 qq hn b2 hlo
    · have ti := T.item (X.blk s3 H3 scope ce fp) rfl rfl rfl hc i [] s5 _ H5 (fun _ _ => False) I5 (stat I5 n5) st5 go
      refine thnF ti fun r s6 ⟨u, hr, h6⟩ => ?_
      subst hr
      refine thnF h6 fun _ s7 ⟨x, H7, I7, r7, y7, st7, n7⟩ => ?_
      have I7' := I7.pinned (stat I7 n7) (T.obj _ _ st7)
      refine thnF (pg.run _ s7 _ H7 x u _ I7' r7 (step x H7 y7)) fun _ s8 ⟨σ8, H8, I8, hw8, q8⟩ => ?_
      refine wpAny_tests_nil ?_
      have q8 : te σ8 H8 fun y H4 => ∃ acc, H4 D = some (HO.lst acc) ∧ acc.length < sizeLine ∧ Nx (upd H4 D (HO.lst (acc ++ [y]))) := by
        have z := q8
        simp only [tYes, if_true] at z
        exact z
      show wpAny _ _ _ _ _ _
      refine wpAny_mono (pe.run _ s8 σ8 H8 _ (inv_xe _ I8) q8) (fun z s10 ⟨yv, H10, I10, r10, acc, hD10, hz10, nx⟩ => ?_) fun _ _ z => by cases use <;> exact z
      have I10 : Inv (X.blk s3 H3 scope ce fp) _ σ8 H10 s10 := inv_xe (fun _ _ => False) I10
      refine app_ok (X := X.blk s3 H3 scope ce fp) I10 hD10 hz10 r10 fun s11 I11 => ?_
      obtain ⟨m', hm, w'⟩ := hNx _ nx
      have pin' : ∀ b ∈ fp, ∀ o, s7.heap.get? b = some o → s11.heap.get? b = some o ∧ (upd H10 D (.lst (acc ++ [yv]))) b = none := fun b hb o e =>
        let z := I11.pin (b, o) (List.mem_append_right _ (List.mem_append_right _ (mem_pinsAt hb e)))
        ⟨z.1, z.2.1⟩
      have hl : (wipe σ (own.map (·.2))).length = σ8.length := by rw [← hw8, wipe_length]
      refine ⟨m', hm, i + 1, _, (I11.unpinned (pins := [])).weak hl (fun j v e => ?_), T.keep _ _ _ st7 fun b hb o e => (pin' b hb o e).1, fun b hb => ?_, w'⟩
      · rw [← hw8] at e
        exact (wipe_some e).1
      · obtain ⟨o, e, _⟩ := T.obj _ _ st7 b hb
        exact (pin' b hb o e).2
  exact codeAny_compStart_list loop (T.self X.A 0 _ _ _ st4 loop)
/-- as a value -/
theorem pe_lcX (tk : L2.Takes X (fun c d _ H => E c d H)) (hst : X.stack = X.env :: X.outer) (hf : X.env.frame = some X.env.locals) (hc : X.calm = true) (hN : X.N.Nodup) (hi : PI X tg iter wi) (ok : BlkOk X.N X.env.scope scope own)
    (hg : ∀ (s : Shared) (H : Hp) (C : Addr) (cl : List (Str × Addr)) (fp : List Addr), PG (X.blk s H scope (compEnvC scope cl C X.env) fp) tg g)
    (he : ∀ (xe' : Value → Shared → Prop) (s : Shared) (H : Hp) (C : Addr) (cl : List (Str × Addr)) (fp : List Addr), Passes (L2.CX X.prog X.w) (blkX X xe' s H scope (compEnvC scope cl C X.env) fp) E → PE (blkX X xe' s H scope (compEnvC scope cl C X.env) fp) elt te)
    (hs : ∀ x, foldedSetIterable iter X.env x = pure x := by intro _; rfl) : PE X (.ListComp elt [⟨tg, iter, [], 0⟩] scope pos) (tLc wi g tYes te (own.map (·.2))) := by
  refine ⟨fun pins s σ H Q I h => ?_⟩
  rw [eval_ListComp]
  refine lcX_core (E := E) tk hst hf hc hN I hi ok hg he hs h fun D C ce s' m H' I' q hn f hl => ⟨m, by rw [hl]; exact hn, fun h'' sb => ?_⟩
  rw [hl] at sb
  obtain ⟨f0, f1, f2, f3, f4, f5⟩ := f
  exact ⟨.ref D, H', I'.turned (t' := s'.toks) (fun b o hb e => (sb.2 b hb).trans e) f0 f1 f3 f4 f5, rfl, q⟩
/-- name = [..] on one line, the name a local -/
theorem ps_setLcX {i : Nat} {y : Str} {py spos : Pos} (tk : L2.Takes X (fun c d _ H => E c d H)) (hst : X.stack = X.env :: X.outer) (hf : X.env.frame = some X.env.locals) (hc : X.calm = true) (hN : X.N.Nodup) (hy : X.N[i]? = some y) (hyl : X.env.scope.names.lookup y = some .local)
    (hsw : swapsWith (.ListComp elt [⟨tg, iter, [], 0⟩] scope pos) (some (.Name y py)) spos.line X.env = pure true) (hi : PI X tg iter wi) (ok : BlkOk X.N X.env.scope scope own)
    (hg : ∀ (s : Shared) (H : Hp) (C : Addr) (cl : List (Str × Addr)) (fp : List Addr), PG (X.blk s H scope (compEnvC scope cl C X.env) fp) tg g)
    (he : ∀ (xe' : Value → Shared → Prop) (s : Shared) (H : Hp) (C : Addr) (cl : List (Str × Addr)) (fp : List Addr), Passes (L2.CX X.prog X.w) (blkX X xe' s H scope (compEnvC scope cl C X.env) fp) E → PE (blkX X xe' s H scope (compEnvC scope cl C X.env) fp) elt te)
    (hs : ∀ x, foldedSetIterable iter X.env x = pure x := by intro _; rfl) : PS X (.Assign [.Name y py] (.ListComp elt [⟨tg, iter, [], 0⟩] scope pos) spos) (tAsg (tLc wi g tYes te (own.map (·.2))) (gName i)) := by
  refine ⟨fun pins s σ H D I h => ?_⟩
  rw [exec_Assign_Name_used _ _ _ _ hsw]
  refine wpAny_bind (wpAny_standAt (wpAny_bind ?_))
  show wpAny _ X.A (do let _ ← comprehension (.ListComp elt [⟨tg, iter, [], 0⟩] scope pos) scope X.env (firstIterPos [⟨tg, iter, [], 0⟩] pos) (newList []) false (eval iter X.env) (some (assign (.Name y py) X.env))) _ _ s
  have h : tLc wi g tYes te (own.map (·.2)) σ H (fun x H1 => gName i x σ H1 D.nx) := h
  refine wpAny_bind (thn (lcX_core (E := E) (Qf := fun _ s' => SP X pins D .next s') tk hst hf hc hN I hi ok hg he hs h fun L C ce s' m H' I' q hn f hl => ?_) fun _ s' hq => wpAny_pure (wpAny_pure hq))
  show wpAny _ _ (assign (.Name y py) X.env (.ref L)) _ _ _
  rw [hl]
  refine wpAny_assign_Name (store_ok2 (v := V.ref L) I' hN hy (.inl hyl) rfl (fun s2 I2 ⟨a, sb, ha⟩ => ?_) (.inr hyl))
  obtain ⟨f0, f1, f2, f3, f4, f5⟩ := f
  have haC : C ≠ a := by
    rcases ha with z | z
    · rw [z]; exact f1
    · exact fun e => f4 y a z e.symm
  refine ⟨m, hn.sameBut sb haC, fun h3 sb3 => ?_⟩
  exact ⟨_, H', I2.turned (t' := s2.toks) (fun b o hb e => (sb3.2 b hb).trans e) f0 f1 f3 f4 f5, q⟩
end
end My

set_option Elab.async false
set_option linter.all false
set_option maxRecDepth 100000
set_option maxHeartbeats 4000000
/-! ### {**d, k: v}: a dict display that begins with another dict's items -/
namespace My
open PySem L2
section
variable {prog : Program} {w : World} {K : Type} [DecidableEq K] {knd : KeyKind prog w K} {A : Around} {E : Value → Shared → Prop} {s : Shared}
/-- a key that isn't there yet, or is: set by its hash -/
theorem put_pairs {d : Addr} {kvs : List (K × Value)} {k : K} {key v : Value} {Q : Unit → Shared → Prop} (hkey : knd.is k key = true) (hm : s.heap.DictOf knd d kvs) (hsz : kvs.length ≤ sizeLine)
    (hQ : ∀ h', h'.DictOf knd d (stored kvs k v) → Heap.SameBut d s.heap h' → Q () { s with heap := h' }) : wpAny (model prog w) A (dictPut d (knd.hash k) key v) Q E s := by
  obtain ⟨o, es, ep, ho, hc, hd, hk, hp, hn⟩ := hm
  have hes : es.size ≤ sizeLine := by
    have e1 := hp.length
    have e2 : es.toList.length = es.size := by simp
    omega
  have hidx : (es.findIdx? fun e => knd.is k e.key) = kvs.findIdx? fun kv => decide (kv.1 = k) := by
    rw [← hp.findIdx k]; obtain ⟨l⟩ := es; simp
  unfold dictPut
  refine wpAny_bind (wpAny_dictFind_of hkey ho hd hk ?_)
  cases hi : es.findIdx? fun e => knd.is k e.key with
  | some i =>
    have hl : (es.toList.findIdx? fun e => knd.is k e.key) = some i := by rw [← hi]; obtain ⟨l⟩ := es; simp
    refine wpAny_updateDict ho hd (hQ _ ⟨_, _, ep, Heap.get?_update_self _ ho (Obj.isFreed_of_dict (Obj.data_mapDict hd _)), hc.mapDict _, Obj.data_mapDict hd _, hk.modify _ _, ?_, ?_⟩ (Heap.SameBut.update ..))
    · rw [stored, if_pos (any_of_findIdx_some (hidx ▸ hi))]
      have := hp.modify hn hl v
      obtain ⟨l⟩ := es
      simpa using this
    · rw [stored, if_pos (any_of_findIdx_some (hidx ▸ hi)), keys_map_store]; exact hn
  | none =>
    have hnot : k ∉ kvs.map (·.1) := not_mem_of_findIdx_none (hidx ▸ hi)
    have hany : ¬ (kvs.any fun kv => decide (kv.1 = k)) = true := fun z => by
      obtain ⟨kv, hkv, he⟩ := List.any_eq_true.mp z
      exact hnot (List.mem_map.mpr ⟨kv, hkv, of_decide_eq_true he⟩)
    refine wpAny_updateDictKeys (hz := hes) ho hd (hQ _ ⟨_, _, ep + 1, Heap.get?_update_self _ ho (Obj.isFreed_of_dict (Obj.data_mapDictKeys hd _)), hc.mapDictKeys _, Obj.data_mapDictKeys hd _, hk.push hkey _, ?_, ?_⟩ (Heap.SameBut.update ..))
    · rw [stored, if_neg hany]
      have := hp.append hkey (knd.hash k) v
      obtain ⟨l⟩ := es
      simpa using this
    · rw [stored, if_neg hany, List.map_append, List.nodup_append]
      refine ⟨hn, by simp, fun a ha b hb => ?_⟩
      simp only [List.map_cons, List.map_nil, List.mem_singleton] at hb
      subst hb
      exact fun e => hnot (e ▸ ha)
theorem merge_pairs {d o : Addr} {kvs more : List (K × Value)} {Q : Unit → Shared → Prop} (hdo : d ≠ o) (hoS : (o == sysModules) = false) (hd : s.heap.DictOf knd d kvs) (ho : s.heap.DictOf knd o more) (hsz : kvs.length + more.length ≤ sizeLine)
    (hQ : ∀ h', h'.DictOf knd d (merged kvs more) → Heap.SameBut d s.heap h' → Q () { s with heap := h' }) : wpAny (model prog w) A (mergeMapping d (.ref o) false) Q E s := by
  obtain ⟨od, esd, epd, hod, hcd, hdd, hkd, hpd, hnd⟩ := id hd
  obtain ⟨oo, eso, epo, hoo, hco, hdo', hko, hpo, hno⟩ := id ho
  have hT : s.TypeIs (.ref o) "dict" := ⟨oo, hoo, hco.1⟩
  unfold mergeMapping
  refine wpAny_bind (wpAny_isInstance hT isSubtype_dict_dict ?_)
  refine wpAny_bind (wpAny_specialOf hT F.slot_dict_iter.lookup (wpAny_bind (wpAny_pure ?_)))
  simp only [beq_self_eq_true]
  rw [if_neg (by rw [hoS]; exact Bool.false_ne_true)]
  have hlen : more.length = eso.size := by rw [← hpo.length]; simp
  refine wpAny_bind (wpAny_dictEntries hod hdd ?_)
  split
  refine wpAny_bind (wpAny_dictEntries hoo hdo' (wpAny_bind (wpAny_of_eq (a := PUnit.unit) ?_ ?_)))
  · rw [← Array.forIn_toList]
    refine forIn_yield_id _ fun e he c => ?_
    obtain ⟨k, hkey, _⟩ := hko e (Array.mem_toList_iff.mp he)
    have hv := knd.byValue k _ hkey
    cases hk : e.key with
    | ref a => rw [hk] at hv; cases hv
    | _ => rfl
  all_goals
    refine wpAny_bind (wpAny_dictEntries hoo hdo' (wpAny_bind (wpAny_dictEpoch hoo hdo' (wpAny_bind ?_))))
    refine wpAny_forIn_list _ (fun rest _ s' => ∃ h' i, s' = { s with heap := h' } ∧ rest = List.range' i (eso.size - i) ∧ i ≤ eso.size ∧ h'.DictOf knd d (merged kvs (more.take i)) ∧ h'.get? o = some oo ∧ Heap.SameBut d s.heap h') _ ?_ ?_ _ _
      ⟨s.heap, 0, rfl, by rw [Nat.sub_zero, List.range_eq_range'], Nat.zero_le _, by simpa [merged] using hd, hoo, Heap.SameBut.refl _ _⟩
    · rintro x rest b s' ⟨h', i, rfl, hr, hi, hd', hoo', hs'⟩
      have hlt : i < eso.size := by
        rcases Nat.lt_or_ge i eso.size with h | h
        · exact h
        · rw [Nat.sub_eq_zero_of_le h] at hr; simp at hr
      obtain ⟨rfl, hrest⟩ : x = i ∧ rest = List.range' (i + 1) (eso.size - (i + 1)) := by
        have e : eso.size - i = (eso.size - (i + 1)) + 1 := by omega
        rw [e, List.range'_succ] at hr
        injection hr with h1 h2
        exact ⟨h1, h2⟩
      refine wpAny_bind (wpAny_dictEntries hoo' hdo' ?_)
      rw [Array.getElem?_eq_getElem hlt]
      obtain ⟨⟨k, v⟩, hkv⟩ : ∃ kv, more[x]? = some kv := ⟨more[x]'(by rw [hlen]; exact hlt), List.getElem?_eq_getElem _⟩
      obtain ⟨hkey, hval⟩ := hpo.get? (e := eso[x]) (by simp [hlt]) hkv
      obtain ⟨k', hkey', hhash⟩ := hko eso[x] (Array.getElem_mem hlt)
      obtain rfl : k' = k := knd.inj _ _ _ hkey' hkey
      dsimp only
      rw [if_neg Bool.false_ne_true, hhash, hval]
      have hmx : (merged kvs (more.take x)).length ≤ sizeLine := by
        have e1 := merged_length_le kvs (more.take x)
        have e2 : (more.take x).length ≤ more.length := by rw [List.length_take]; omega
        omega
      refine wpAny_bind (wpAny_holding (put_pairs hkey hd' hmx fun h'' hd'' hs'' => ?_))
      have hoo'' : h''.get? o = some oo := (hs''.2 o (Ne.symm hdo)).trans hoo'
      refine wpAny_bind (wpAny_dictEpoch hoo'' hdo' ?_)
      rw [if_neg (by simp)]
      exact wpAny_pure ⟨h'', x + 1, rfl, hrest, hlt, by rw [merged_take_succ kvs more x (k', v) hkv]; exact hd'', hoo'', hs'.trans hs''⟩
    · rintro b s' ⟨h', i, rfl, hr, hi, hd', hoo', hs'⟩
      have hin : i = eso.size := by
        rcases Nat.lt_or_ge i eso.size with h | h
        · have e : eso.size - i = (eso.size - (i + 1)) + 1 := by omega
          rw [e, List.range'_succ] at hr; exact nomatch hr
        · exact Nat.le_antisymm hi h
      refine wpAny_pure (hQ h' ?_ hs')
      rw [hin, ← hlen, List.take_length] at hd'; exact hd'
end
/-- {**d, k: v}: p the new dict, p2 the one that the pair stands in ahead -/
def tDSt (td tk tv : TE) : TE := fun σ H Q => ∀ p, H p = none → td σ (upd H p (.dK [])) fun x H1 => ∃ a kvs, x = .ref a ∧ H1 p = some (.dK []) ∧ H1 a = some (.dK kvs) ∧ a ≠ p ∧ kvs.length ≤ 1000 ∧ ∀ p2, (upd H1 p (.dK kvs)) p2 = none →
  tk σ (upd (upd H1 p (.dK kvs)) p2 (.dK [])) fun kx H2 => tv σ H2 fun vx H3 => H3 p2 = some (.dK []) ∧ H3 p = some (.dK kvs) ∧ ∃ key, kx = kV key ∧ Q (.ref p) (upd (upd H3 p2 (.dK [(key, vx)])) p (.dK (putK kvs key vx)))
theorem pe_dstar {X : Cx} {d k v : Expr} {pos : Pos} {td tk tv : TE} (hd : PE X d td) (hk : PE X k tk) (hv : PE X v tv) : PE X (.Dict [none, some k] [d, v] pos) (tDSt td tk tv) := by
  refine ⟨fun pins s σ H Q I q => ?_⟩
  rw [arm_eval_Dict]
  refine wpAny_bind (wpAny_standAt ?_)
  show wpAny _ _ (dictDisplay [(none, do let x ← eval d X.env; standAt pos; pure x), (some (eval k X.env), do let x ← eval v X.env; standAt pos; pure x)]) _ _ _
  unfold dictDisplay
  simp only [List.forIn_cons, List.forIn_nil, List.isEmpty_nil, if_true, pure_bind, bind_assoc]
  simp only [List.nil_append, List.length_cons, List.length_nil, show ((0 + 1 == 17) = false) from rfl, Bool.false_eq_true, if_false, pure_bind, List.isEmpty_cons, bind_assoc]
  have hn := I.hok.fresh (Nat.le_refl s.heap.objs.size)
  have I1 := I.laid (a := s.heap.objs.size) (o := .dK []) (h' := s.heap.push { cls := .type "dict", data := .dict #[] }) (t' := s.toks) (fun _ _ q => Heap.get?_push_of_some _ q) (Nat.le_refl _) (dk_empty s.heap I.big)
  refine wpAny_bind (wpAny_alloc (wpAny_bind (wpAny_holding (wpAny_bind (thn (hd.run pins _ σ _ _ I1 (q _ hn)) fun u s1 hq => ?_)))))
  obtain ⟨y, H1, I2, ry, a, kvs, rfl, hp, ha, hap, kl, q2⟩ := hq
  refine wpAny_bind (wpAny_standAt (wpAny_pure ?_))
  have eu : u = .ref a := ry
  subst eu
  obtain ⟨z1, b1, vs1, r1, dd1⟩ := dk_of I2.hok hp
  obtain ⟨z2, b2, vs2, r2, dd2⟩ := dk_of I2.hok ha
  cases r1
  have hle : vs2.length = kvs.length := (Paired.length r2).symm
  have hm0 : (vs2.map (·.1)).Nodup := by
    obtain ⟨oo, eso, epo, hoo, hco, hdo', hko, hpo, hno⟩ := dd2
    exact hno
  refine wpAny_bind (wpAny_onRaise (wpAny_tryCatch (wpAny_onRaise (wpAny_holding (merge_pairs (knd := mixKind X.prog X.w) (Ne.symm hap) b2 dd1 dd2 (by rw [sizeLine_eq, List.length_nil, hle]; omega) fun h1 dh1 sb1 => ?_)))))
  rw [merged_nil_of_nodup vs2 hm0] at dh1
  have he1 : ∃ q, h1.get? s.heap.objs.size = some q := let ⟨q, _, _, hq, _⟩ := dh1; ⟨q, hq⟩
  have I3 : Inv X pins σ (upd H1 s.heap.objs.size (.dK kvs)) { s1 with heap := h1, toks := s1.toks } := d_write I2 (by rw [hp]; exact True.intro) sb1 he1 (dk_new z2 b1 r2 dh1)
  have hn2 := I3.hok.fresh (Nat.le_refl h1.objs.size)
  have I4 := I3.laid (a := h1.objs.size) (o := .dK []) (h' := h1.push { cls := .type "dict", data := .dict #[] }) (t' := s1.toks) (fun _ _ q => Heap.get?_push_of_some _ q) (Nat.le_refl _) (dk_empty h1 I3.big)
  have pp : PPs X pos [some k] [v] [(tk, tv)] := pps_cons hk hv pps_nil
  have hne : h1.objs.size ≠ s.heap.objs.size := fun z => by rw [z, upd_same] at hn2; cases hn2
  refine wpAny_bind (wpAny_holding (wpAny_subDict (knd := mixKind X.prog X.w) (Nat.le_of_ble_eq_true rfl) (thn (pp.run pins _ σ _ (fun ps H3 => match ps with
    | [(kx, vx)] => H3 h1.objs.size = some (.dK []) ∧ H3 s.heap.objs.size = some (.dK kvs) ∧ ∃ key, kx = kV key ∧ Q (.ref s.heap.objs.size) (upd (upd H3 h1.objs.size (.dK [(key, vx)])) s.heap.objs.size (.dK (putK kvs key vx)))
    | _ => False) I4 (q2 _ hn2)) fun ws s2 hq => ?_)))
  obtain ⟨ps, H3, I5, rel, qq⟩ := hq
  match ps, rel, qq with
  | [], _, qq => exact qq.elim
  | _ :: _ :: _, _, qq => exact qq.elim
  | [(kx, vx)], rel, qq =>
    obtain ⟨e2, e1, key, rfl, qf⟩ := qq
    obtain ⟨rs, c, rk⟩ := carries_of (P := X.prog) (w := X.w) (kvs := [(key, vx)]) rel
    obtain ⟨z3, b3, vs3, r3, dd3⟩ := dk_of I5.hok e2
    cases r3
    refine ⟨rs, c, dd3, fun h2 dh2 sb2 => ?_⟩
    have he2 : ∃ q, h2.get? h1.objs.size = some q := let ⟨q, _, _, hq, _⟩ := dh2; ⟨q, hq⟩
    have I6 : Inv X pins σ (upd H3 h1.objs.size (.dK [(key, vx)])) { s2 with heap := h2, toks := s2.toks + ws.length } := d_write I5 (by rw [e2]; exact True.intro) sb2 he2 (dk_new (by rw [sizeLine_eq]; show 1 ≤ 16777216; decide) b3 (rk.merge .nil) dh2)
    have e3 : (upd H3 h1.objs.size (.dK [(key, vx)])) s.heap.objs.size = some (.dK kvs) := by rw [upd_ne (Ne.symm hne)]; exact e1
    obtain ⟨z4, b4, vs4, r4, dd4⟩ := dk_of I6.hok e3
    have l4 : vs4.length = kvs.length := (Paired.length r4).symm
    have lr : rs.length = 1 := (Paired.length rk).symm
    have lm : (merged [] rs).length ≤ 1 := by
      have := merged_length_le ([] : List (Key × Value)) rs
      rw [List.length_nil, lr] at this
      omega
    refine wpAny_bind (wpAny_onRaise (wpAny_holding (merge_pairs (knd := mixKind X.prog X.w) (Ne.symm hne) b3 dd4 dh2 (by rw [sizeLine_eq, l4]; omega) fun h3 dh3 sb3 => ?_)))
    have he3 : ∃ q, h3.get? s.heap.objs.size = some q := let ⟨q, _, _, hq, _⟩ := dh3; ⟨q, hq⟩
    have lp := length_putK kvs key vx
    have I7 : Inv X pins σ (upd (upd H3 h1.objs.size (.dK [(key, vx)])) s.heap.objs.size (.dK (putK kvs key vx))) { s2 with heap := h3, toks := s2.toks + ws.length } := d_write (t' := s2.toks + ws.length) (s := { s2 with heap := h2, toks := s2.toks + ws.length }) I6 (by rw [e3]; exact True.intro) sb3 he3 (dk_new (by rw [sizeLine_eq]; omega) b4 ((rk.merge .nil).merge r4) dh3)
    exact wpAny_pure ⟨.ref s.heap.objs.size, _, I7, rfl, qf⟩
end My

set_option Elab.async false
set_option linter.all false
set_option maxRecDepth 100000
set_option maxHeartbeats 4000000
/-! ### methods and called objects within a try -/
namespace My
open PySem L2 StX PySem.Spec PyProof.Rows
def tMethT (C : Addr) (m : Str) (sp : Sp) (E : L2.St → XK) (ta : TE) (t : TA) : TE := fun σ H Q => ta σ H fun x H1 => ∃ a dx fs, x = .ref a ∧ H1 a = some (.ins C dx fs) ∧ fs.lookup m = none ∧ t σ H1 fun vs H2 => sp (.ref a :: vs) H2 Q (E σ)
section
variable {X : Cx} {CX : CXT} {C g : Addr} {fd : FuncData} {ps : List Str} {sp : Sp} {E : L2.St → XK} {k : Nat} {o e : Expr} {es : List Expr} {ta : TE} {t : TA} {pos apos : Pos} {m : Str} {f : Addr}
theorem pe_methT {pl : Sem Bool} (c : Cls X.K C) (hm : Meth X.K C m f) (F : FnOk X.prog X.w X.K X.mg X.base CX k f fd ps sp) (hr : Room k X.A) (hb : Binds X.K fd ps []) (hx : ∀ σ, PassesAt CX X σ (E σ)) (he : PE X o ta) (ha : PA X (e :: es) t)
    (hst : starEach (e :: es) X.env = (false, eval e X.env) :: starEach es X.env := by rfl) (hpl : (backTo pos (starEach es X.env)).any (·.1) = false := by rfl)
    (ht : eval (.Call (.Attribute o m apos) (e :: es) [] pos) X.env = (do
      let ov ← eval o X.env
      standAt apos.atName
      let (f, first) ← holding [ov] (getMethod ov m pl)
      callWith pos f first (backTo pos (starEach (e :: es) X.env)) (backToKw pos (keywordEach [] X.env))) := by rfl) :
    PE X (.Call (.Attribute o m apos) (e :: es) [] pos) (tMethT C m sp E ta t) := by
  refine ⟨fun pins s σ H Q I h => ?_⟩
  refine PySem.W.methodCall_KW (pl := pl) (thn (he.run pins s σ H _ I h) fun u s1 ⟨x, H1, I1, rx, a, dx, fs, ex, ea, l, q⟩ => ?_) ht
  subst ex
  obtain rfl : u = Value.ref a := rx
  refine getmeth_ok I1 ea c hm l ?_
  refine PySem.W.callWith_K (first := [.ref a]) (h₀ := X.base) I.ok.mod.kin hm.kp (thn (ha.run pos pins s1 σ H1 _ I1 q) fun us s2 ⟨vs, H2, I2, r, q2⟩ => ⟨I2.kIn, ?_⟩) hst hpl
  exact run_fnS (us := .ref a :: us) (vs := .ref a :: vs) F hr hb (hx σ) I2 (.cons rfl r) q2
def tCallOT (C : Addr) (sp : Sp) (E : L2.St → XK) (tf : TE) (t : TA) : TE := fun σ H Q => tf σ H fun y H1 => ∃ a, y = V.ref a ∧ t σ H1 fun vs H2 => (∃ dx fs, H2 a = some (.ins C dx fs)) ∧ sp (V.ref a :: vs) H2 Q (E σ)
theorem run_fnRS {pins : List (Addr × Obj)} {σ : L2.St} {H : Hp} {s : Shared} {f : Addr} {Q : VK} {E : L2.St → XK} {us : List Value} {vs : List V} (F : FnR X.prog X.w X.K X.mg X.base CX k f sp) (hr : Room k X.A) (hx : PassesAt CX X σ (E σ)) (I : Inv X pins σ H s) (r : Vals vs us) (h : sp vs H Q (E σ)) :
    codeAny (model X.prog X.w) X.A (.call (.ref f) ⟨us, []⟩) (fun r s' => match r with | .ok (.ret v) => EP X pins σ Q v s' | .ok _ => False | .error e => X.xe e s') s := by
  refine codeAny_mono (F X.A X.stack s H us vs Q (E σ) hr I.env0 r h) fun r s' hq => ?_
  cases r with
  | error e => exact hx pins H s e s' I hq
  | ok fl =>
    cases fl with
    | ret u => exact I.after hq
    | next => exact False.elim hq
    | brk => exact False.elim hq
    | cont => exact False.elim hq
theorem pe_callOT {fe : Expr} {tf : TE} (c : CallO X.K C g) (F : FnR X.prog X.w X.K X.mg X.base CX k g sp) (hr : Room k X.A) (hx : ∀ σ, PassesAt CX X σ (E σ)) (hf : PE X fe tf) (ha : PA X (e :: es) t)
    (ht : eval (.Call fe (e :: es) [] pos) X.env = (do callWith pos (← eval fe X.env) [] (backTo pos (starEach (e :: es) X.env)) (backToKw pos (keywordEach [] X.env))) := by rfl)
    (he : starEach (e :: es) X.env = (false, eval e X.env) :: starEach es X.env := by rfl) (hpl : (backTo pos (starEach es X.env)).any (·.1) = false := by rfl) : PE X (.Call fe (e :: es) [] pos) (tCallOT C sp E tf t) := by
  refine ⟨fun pins s σ H Q I h => ?_⟩
  refine Call_ (thn (hf.run pins s σ H _ I h) fun u s1 ⟨y, H1, I1, ry, a, ey, q⟩ => ?_) ht
  subst ey
  obtain rfl : u = Value.ref a := ry
  refine callO_with (thn (ha.run pos pins s1 σ H1 _ I1 q) fun us s2 ⟨vs, H2, I2, r, hi, q2⟩ => ?_) he hpl
  obtain ⟨ox, od, J, hd⟩ := insC_at I2 (.inr hi)
  exact ⟨⟨C, ox, od, J, hd⟩, wpAny_call (PySem.W.kco_code I2.kIn J hd c.at_ c.fn c.fi (run_fnRS (us := .ref a :: us) (vs := .ref a :: vs) F hr (hx σ) I2 (.cons rfl r) q2))⟩
end
end My

set_option Elab.async false
set_option linter.all false
set_option maxRecDepth 100000
set_option maxHeartbeats 4000000
/-! ### methods with keywords, also within a try; a new instance with keywords within a try -/
namespace My
open PySem L2 StX PySem.Spec PyProof.Rows
def tMethN (C : Addr) (m : Str) (n mk : Nat) (sp : Sp) (gV : List V → List V → List V) (E : XK) (ta : TE) (t tk : TA) : TE := fun σ H Q => ta σ H fun x H1 => ∃ a dx fs, x = .ref a ∧ H1 a = some (.ins C dx fs) ∧ fs.lookup m = none ∧ t σ H1 fun vs H2 => tk σ H2 fun zs H3 => vs.length = n ∧ zs.length = mk ∧ sp (gV (.ref a :: vs) zs) H3 Q E
def tMethNT (C : Addr) (m : Str) (n mk : Nat) (sp : Sp) (gV : List V → List V → List V) (E : L2.St → XK) (ta : TE) (t tk : TA) : TE := fun σ H Q => ta σ H fun x H1 => ∃ a dx fs, x = .ref a ∧ H1 a = some (.ins C dx fs) ∧ fs.lookup m = none ∧ t σ H1 fun vs H2 => tk σ H2 fun zs H3 => vs.length = n ∧ zs.length = mk ∧ sp (gV (.ref a :: vs) zs) H3 Q (E σ)
def tMakeNT (C : Addr) (n m : Nat) (sp : Sp) (gV : List V → List V → List V) (E : L2.St → XK) (t tk : TA) : TE := fun σ H Q => t σ H fun vs H1 => tk σ H1 fun zs H2 => vs.length = n ∧ zs.length = m ∧ ∀ x dx, H2 x = none → H2 dx = none → dx ≠ x →
  sp (gV (.ref x :: vs) zs) (upd (upd H2 dx (.own x)) x (.ins C dx [])) (fun v H3 => v = .non ∧ Q (.ref x) H3) (E σ)
section
variable {X : Cx} {CX : CXT} {C f : Addr} {fd : FuncData} {ps ks : List Str} {sp : Sp} {k n : Nat} {o e : Expr} {es : List Expr} {kws : List Keyword} {ta : TE} {t tk : TA} {pos apos p : Pos} {m x : Str} {g : List Value → List Value → List Value} {gV : List V → List V → List V}
theorem run_fnNS {pins : List (Addr × Obj)} {σ : L2.St} {H : Hp} {s : Shared} {Q : VK} {us ws : List Value} {vs zs : List V} {E : XK} (F : FnOk X.prog X.w X.K X.mg X.base CX k f fd ps sp) (hr : Room k X.A) (hb : KBn X.K fd ps n ks g gV) (hx : PassesAt CX X σ E)
    (I : Inv X pins σ H s) (r : Vals vs us) (rz : Vals zs ws) (l1 : vs.length = n) (l2 : zs.length = ks.length) (h : sp (gV vs zs) H Q E) : wpAny (model X.prog X.w) X.A (call (.ref f) us (ks.zip ws)) (EP X pins σ Q) X.xe s := by
  have r2 := hb.rel r rz
  refine wpAny_call (codeAny_mono (F.run X.A X.stack s H ⟨us, ks.zip ws⟩ (g us ws) (gV vs zs) Q E hr I.env0 (hb.to s us ws I.kIn (r.length.symm.trans l1) (rz.length.symm.trans l2)) r2 h) fun r s' hq => ?_)
  cases r with
  | error e => exact hx pins H s e s' I hq
  | ok fl =>
    cases fl with
    | ret u => exact I.after hq
    | next => exact False.elim hq
    | brk => exact False.elim hq
    | cont => exact False.elim hq
theorem pe_methN {pl : Sem Bool} {E : XK} (c : Cls X.K C) (hm : Meth X.K C m f) (F : FnOk X.prog X.w X.K X.mg X.base CX k f fd ps sp) (hr : Room k X.A) (hb : KBn X.K fd ps (n + 1) ks g gV) (hx : Passes CX X E) (he : PE X o ta) (ha : PA X (e :: es) t) (hkw : PK X kws tk)
    (hall : (backToKw pos (keywordEach kws X.env)).all (·.1.isSome) = true := by rfl) (hks : (backToKw pos (keywordEach kws X.env)).filterMap (·.1) = ks := by rfl)
    (hst : starEach (e :: es) X.env = (false, eval e X.env) :: starEach es X.env := by rfl) (hpl : ((backTo pos (starEach (e :: es) X.env)).any (·.1) || (backToKw pos (keywordEach kws X.env)).any (·.1.isNone)) = false := by rfl)
    (ht : eval (.Call (.Attribute o m apos) (e :: es) kws pos) X.env = (do
      let ov ← eval o X.env
      standAt apos.atName
      let (f, first) ← holding [ov] (getMethod ov m pl)
      callWith pos f first (backTo pos (starEach (e :: es) X.env)) (backToKw pos (keywordEach kws X.env))) := by rfl) :
    PE X (.Call (.Attribute o m apos) (e :: es) kws pos) (tMethN C m n ks.length sp gV E ta t tk) := by
  refine ⟨fun pins s σ H Q I h => ?_⟩
  refine PySem.W.methodCall_KW (pl := pl) (thn (he.run pins s σ H _ I h) fun u s1 ⟨x, H1, I1, rx, a, dx, fs, ex, ea, l, q⟩ => ?_) ht
  subst ex
  obtain rfl : u = Value.ref a := rx
  refine getmeth_ok I1 ea c hm l ?_
  refine PySem.W.callWith_KW (first := [.ref a]) (h₀ := X.base) I.ok.mod.kin hm.kp hall (thn (ha.run pos pins s1 σ H1 _ I1 q) fun us s2 ⟨vs, H2, I2, r, q2⟩ => ?_) hpl hst
  refine thn (hkw.run pos pins s2 σ H2 _ I2 q2) fun ws s3 ⟨zs, H3, I3, rz, l1, l2, q3⟩ => ⟨I3.kIn, ?_⟩
  rw [hks]
  exact run_fnN (us := .ref a :: us) (vs := .ref a :: vs) F hr hb hx I3 (.cons rfl r) rz (by rw [List.length_cons, l1]) l2 q3
theorem pe_methNT {pl : Sem Bool} {E : L2.St → XK} (c : Cls X.K C) (hm : Meth X.K C m f) (F : FnOk X.prog X.w X.K X.mg X.base CX k f fd ps sp) (hr : Room k X.A) (hb : KBn X.K fd ps (n + 1) ks g gV) (hx : ∀ σ, PassesAt CX X σ (E σ)) (he : PE X o ta) (ha : PA X (e :: es) t) (hkw : PK X kws tk)
    (hall : (backToKw pos (keywordEach kws X.env)).all (·.1.isSome) = true := by rfl) (hks : (backToKw pos (keywordEach kws X.env)).filterMap (·.1) = ks := by rfl)
    (hst : starEach (e :: es) X.env = (false, eval e X.env) :: starEach es X.env := by rfl) (hpl : ((backTo pos (starEach (e :: es) X.env)).any (·.1) || (backToKw pos (keywordEach kws X.env)).any (·.1.isNone)) = false := by rfl)
    (ht : eval (.Call (.Attribute o m apos) (e :: es) kws pos) X.env = (do
      let ov ← eval o X.env
      standAt apos.atName
      let (f, first) ← holding [ov] (getMethod ov m pl)
      callWith pos f first (backTo pos (starEach (e :: es) X.env)) (backToKw pos (keywordEach kws X.env))) := by rfl) :
    PE X (.Call (.Attribute o m apos) (e :: es) kws pos) (tMethNT C m n ks.length sp gV E ta t tk) := by
  refine ⟨fun pins s σ H Q I h => ?_⟩
  refine PySem.W.methodCall_KW (pl := pl) (thn (he.run pins s σ H _ I h) fun u s1 ⟨x, H1, I1, rx, a, dx, fs, ex, ea, l, q⟩ => ?_) ht
  subst ex
  obtain rfl : u = Value.ref a := rx
  refine getmeth_ok I1 ea c hm l ?_
  refine PySem.W.callWith_KW (first := [.ref a]) (h₀ := X.base) I.ok.mod.kin hm.kp hall (thn (ha.run pos pins s1 σ H1 _ I1 q) fun us s2 ⟨vs, H2, I2, r, q2⟩ => ?_) hpl hst
  refine thn (hkw.run pos pins s2 σ H2 _ I2 q2) fun ws s3 ⟨zs, H3, I3, rz, l1, l2, q3⟩ => ⟨I3.kIn, ?_⟩
  rw [hks]
  exact run_fnNS (us := .ref a :: us) (vs := .ref a :: vs) F hr hb (hx σ) I3 (.cons rfl r) rz (by rw [List.length_cons, l1]) l2 q3
theorem pe_makeNT {E : L2.St → XK} (M : Mk X.K C f) (F : FnOk X.prog X.w X.K X.mg X.base CX k f fd ps sp) (hr : Room (k + 1) X.A) (hg : Gl X x) (hm : X.mg x = some (.ref C)) (hb : KBn X.K fd ps (n + 1) ks g gV) (hx : ∀ σ, PassesAt CX X σ (E σ)) (ha : PA X (e :: es) t) (hkw : PK X kws tk)
    (hall : (backToKw pos (keywordEach kws X.env)).all (·.1.isSome) = true := by rfl) (hks : (backToKw pos (keywordEach kws X.env)).filterMap (·.1) = ks := by rfl) (hdb : (x == ("__debug__" : Str)) = false := by decide)
    (he : starEach (e :: es) X.env = (false, eval e X.env) :: starEach es X.env := by rfl) (hpl : ((backTo pos (starEach (e :: es) X.env)).any (·.1) || (backToKw pos (keywordEach kws X.env)).any (·.1.isNone)) = false := by rfl) :
    PE X (.Call (.Name x p) (e :: es) kws pos) (tMakeNT C n ks.length sp gV E t tk) := by
  refine ⟨fun pins s σ H Q I h => wpAny_Call_Name_kw (ld_glob I hg hm ?_ hdb)⟩
  refine PySem.W.callWith_KW (h₀ := X.base) I.ok.mod.kin M.kp hall (thn (ha.run pos pins s σ H _ I h) fun us s1 ⟨vs, H1, I1, r, q⟩ => ?_) hpl he
  refine thn (hkw.run pos pins s1 σ H1 _ I1 q) fun ws s2 ⟨zs, H2, I2, rz, l1, l2, q2⟩ => ⟨I2.kIn, ?_⟩
  rw [hks]
  have g0 : H2 (s2.heap.objs.size + 1) = none := I2.hok.fresh (Nat.le_succ _)
  have g1 : H2 s2.heap.objs.size = none := I2.hok.fresh (Nat.le_refl _)
  have todo := q2 _ _ g0 g1 (Nat.ne_of_lt (Nat.lt_succ_self _))
  have J := Inv.made (C := C) I2
  have r1 : Vals (V.ref (s2.heap.objs.size + 1) :: vs) (Value.ref (s2.heap.objs.size + 1) :: us) := .cons rfl r
  have rr := hb.rel r1 rz
  have n1 : (Value.ref (s2.heap.objs.size + 1) :: us).length = n + 1 := by rw [List.length_cons, ← r.length, l1]
  refine wpAny_call (make_map (f := f) I2.kIn M.makes M.init (beq_iff_eq.mp M.fn) (codeAny_mono (F.run _ X.stack _ _ ⟨Value.ref (s2.heap.objs.size + 1) :: us, ks.zip ws⟩ (g (Value.ref (s2.heap.objs.size + 1) :: us) ws) _ _ (E σ) (hr.make C us (ks.zip ws)) (J.env0.make C us (ks.zip ws)) (hb.to _ (Value.ref (s2.heap.objs.size + 1) :: us) ws J.kIn n1 (rz.length.symm.trans l2)) rr todo) fun
    | .error er, s4, z => hx σ pins _ _ er s4 J z
    | .ok (.ret u), s4, z => ?_
    | .ok .next, _, z => False.elim z
    | .ok .brk, _, z => False.elim z
    | .ok .cont, _, z => False.elim z))
  obtain ⟨v, H3, J3, rv, rfl, z3⟩ := J.after z
  exact ⟨rv, .ref (s2.heap.objs.size + 1), H3, J3, rfl, z3⟩
end
end My

set_option linter.all false
/-! ### sorted texts: one list -/
namespace My
open PySem PyProof.Rows
theorem risingS_pw : ∀ (l : List Str) (p : Str), risingS p l = true → (p :: l).Pairwise (fun a b => a.cps.toList ≤ b.cps.toList)
  | [], p, _ => List.pairwise_singleton _ _
  | x :: r, p, h => by
    have h' : (!Spec.ltCps x.cps.toList p.cps.toList && risingS x r) = true := h
    rw [Bool.and_eq_true, ltCps_eq] at h'
    have px : p.cps.toList ≤ x.cps.toList := by
      have := h'.1
      simp only [Bool.not_eq_true', decide_eq_false_iff_not] at this
      exact List.not_lt.mp this
    have ih := risingS_pw r x h'.2
    refine List.pairwise_cons.mpr ⟨fun y hy => ?_, ih⟩
    rcases List.mem_cons.mp hy with rfl | hy
    · exact px
    · exact List.le_trans px (List.rel_of_pairwise_cons ih hy)
theorem sortedS_pw {l : List Str} (h : sortedS l = true) : l.Pairwise (fun a b => a.cps.toList ≤ b.cps.toList) := by
  cases l with
  | nil => exact List.Pairwise.nil
  | cons x r => exact risingS_pw r x h
theorem str_ext {a b : Str} (h : a.cps.toList = b.cps.toList) : a = b := by
  obtain ⟨⟨a⟩⟩ := a
  obtain ⟨⟨b⟩⟩ := b
  have h' : a = b := h
  rw [h']
theorem sorted_uniq {l m : List Str} (hl : sortedS l = true) (hm : sortedS m = true) (p : l.Perm m) : l = m :=
  List.Perm.eq_of_pairwise (le := fun a b : Str => a.cps.toList ≤ b.cps.toList) (fun a b _ _ h1 h2 => str_ext (List.le_antisymm h1 h2)) (sortedS_pw hl) (sortedS_pw hm) p
end My

set_option Elab.async false
set_option linter.all false
set_option maxRecDepth 100000
set_option maxHeartbeats 4000000
/-! ### a loop over a dict's keys -/
namespace My
open PySem L2
theorem forKeys {g : TG} {tb : TS} {D : Ends} {σ : L2.St} {H : Hp} {d : Addr} {kvs : List (Key × V)} {i : Nat} (hσ : σ[i]? = some (some (.ref d))) (hd : H d = some (.dK kvs)) (Pv : Obj → Nat → L2.St → Hp → Prop)
    (h0 : ∀ od, Pv od 0 σ (upd H d (.frz od (.dK kvs)))) (hk : ∀ od j σ H', Pv od j σ H' → H' d = some (.frz od (.dK kvs)))
    (hs : ∀ od j k v σ H', kvs[j]? = some (k, v) → Pv od j σ H' → g (kV k) σ H' fun σ2 H2 => tb ⟨Pv od (j + 1), fun v H' => H' d = some (.frz od (.dK kvs)) ∧ D.rt v (upd H' d (.dK kvs)), fun σ' H' => H' d = some (.frz od (.dK kvs)) ∧ D.nx σ' (upd H' d (.dK kvs)), Pv od (j + 1)⟩ σ2 H2)
    (fin : ∀ od σ' H', Pv od kvs.length σ' H' → D.nx σ' (upd H' d (.dK kvs))) : tLock (tFor (iKeys (tVar i)) g tb) D σ H := by
  refine ⟨d, .dK kvs, hd, True.intro, fun od => ?_⟩
  refine ⟨.ref d, hσ, d, od, rfl, .inl ⟨kvs, upd_same, ?_⟩⟩
  refine for_it (n := kvs.length) walk_keys (Pv od) (h0 od) (fun j σ H _ p => hk od j σ H p) (fun j x σ H1 H' hj p y => ?_) fun σ H p => ⟨hk od _ σ H p, fin od σ H p⟩
  obtain ⟨rfl, k, v, e, rfl⟩ := y
  exact hs od j k v σ _ e p
theorem noSqD {H : Hp} {d : Addr} {kvs : List (Key × V)} (h : H d = some (.dK kvs)) : NoSq H [d] := fun b hb => by
  rw [List.mem_singleton.mp hb, h]
  exact ⟨fun _ z => (by cases z), fun _ z => (by cases z), fun _ _ z => (by cases z)⟩
mutual
theorem dpM {K : PySem.W.Frag} {H H' : Hp} (hl : ∀ a xs, SqL K H a xs → SqL K H' a xs) (ht : ∀ a xs, SqT K H a xs → SqT K H' a xs) : ∀ {d : PyData} {v : V}, Dp K H v d → Dp K H' v d
  | _, _, .non => .non
  | _, _, .bl b => .bl b
  | _, _, .int i => .int i
  | _, _, .str x => .str x
  | _, _, .lst e h => .lst (hl _ _ e) (dpAllM hl ht h)
  | _, _, .tup e h => .tup (ht _ _ e) (dpAllM hl ht h)
theorem dpAllM {K : PySem.W.Frag} {H H' : Hp} (hl : ∀ a xs, SqL K H a xs → SqL K H' a xs) (ht : ∀ a xs, SqT K H a xs → SqT K H' a xs) : ∀ {ds : List PyData} {vs : List V}, DpAll K H vs ds → DpAll K H' vs ds
  | _, _, .nil => .nil
  | _, _, .cons h t => .cons (dpM hl ht h) (dpAllM hl ht t)
end
theorem unfL {K : PySem.W.Frag} {H : Hp} {d : Addr} {o : Obj} {kvs : List (Key × V)} {u : HO} (h : H d = some (.frz o (.dK kvs))) : ∀ a xs, SqL K H a xs → SqL K (upd H d u) a xs := fun a xs z => by
  rcases z with (z | ⟨o2, z⟩) | z
  · exact .inl (.inl (by rw [upd_ne (fun e => by rw [e, h] at z; cases z)]; exact z))
  · exact .inl (.inr ⟨o2, by rw [upd_ne (fun e => by rw [e, h] at z; cases z)]; exact z⟩)
  · exact .inr z
theorem unfT {K : PySem.W.Frag} {H : Hp} {d : Addr} {o : Obj} {kvs : List (Key × V)} {u : HO} (h : H d = some (.frz o (.dK kvs))) : ∀ a xs, SqT K H a xs → SqT K (upd H d u) a xs := fun a xs z => by
  rcases z with (z | ⟨o2, z⟩) | z
  · exact .inl (.inl (by rw [upd_ne (fun e => by rw [e, h] at z; cases z)]; exact z))
  · exact .inl (.inr ⟨o2, by rw [upd_ne (fun e => by rw [e, h] at z; cases z)]; exact z⟩)
  · exact .inr z
/-- over a loop: what stood before stands behind it -/
theorem Kp.unlock {H H' : Hp} {d : Addr} {o : Obj} {u : HO} (hd : H d = some u) (k : Kp [] (upd H d (.frz o u)) H') : Kp [] H (upd H' d u) := fun a x _ e => by
  by_cases z : a = d
  · subst z; rw [upd_same, ← hd, e]
  · rw [upd_ne z]
    exact k a x not0 (by rw [upd_ne z]; exact e)
theorem Kp.lock {H : Hp} {d : Addr} {u : HO} : Kp [d] H (upd H d u) := (Kp.refl [d] H).put (by simp)
end My

set_option Elab.async false
set_option linter.all false
set_option maxRecDepth 100000
set_option maxHeartbeats 4000000
/-! ### slices and sums of any tuples, as their callers read them -/
namespace My
open PySem L2
theorem cut_to (xs : List V) (k : Nat) : cutV xs none (some (k : Int)) = xs.take k := by
  unfold cutV
  rw [HT.sIx_none, HT.sIx_nat, List.drop_zero, Nat.sub_zero]
  by_cases h : k ≤ xs.length
  · rw [Nat.min_eq_left h]
  · rw [Nat.min_eq_right (by omega), List.take_length, List.take_of_length_le (by omega)]
theorem cut_from (xs : List V) (k : Nat) : cutV xs (some (k : Int)) none = xs.drop k := by
  unfold cutV
  rw [HT.sIx_none, HT.sIx_nat]
  by_cases h : k ≤ xs.length
  · rw [Nat.min_eq_left h, List.take_of_length_le (by rw [List.length_drop]; omega)]
  · rw [Nat.min_eq_right (by omega), List.drop_length, List.drop_of_length_le (by omega), List.take_nil]
section
variable {K : PySem.W.Frag} {H : Hp} {a b : Addr} {xs ys : List V} {Q : VK} {k : Nat} {i : Int}
theorem slA_to (e : i = (k : Nat)) (h : H a = some (.tup xs)) (q : ∀ r H', H' r = some (.tup (xs.take k)) → Kp [] H H' → Q (.ref r) H') : rSlA K (.ref a) none (some i) H Q := by
  subst e
  refine ⟨a, xs, rfl, sq_t h, fun z => q a H ?_ (Kp.refl _ _), fun _ p np => q p _ (by rw [upd_same, cut_to]) (Kp.new np)⟩
  have z2 := z.2
  rw [HT.sIx_nat] at z2
  rw [h, List.take_of_length_le (by omega)]
theorem slA_from (e : i = (k : Nat)) (h : H a = some (.tup xs)) (q : ∀ r H', H' r = some (.tup (xs.drop k)) → Kp [] H H' → Q (.ref r) H') : rSlA K (.ref a) (some i) none H Q := by
  subst e
  refine ⟨a, xs, rfl, sq_t h, fun z => q a H ?_ (Kp.refl _ _), fun _ p np => q p _ (by rw [upd_same, cut_from]) (Kp.new np)⟩
  have z1 := z.1
  rw [HT.sIx_nat] at z1
  by_cases h0 : k = 0
  · rw [h, h0]; rfl
  · have : xs = [] := List.eq_nil_of_length_eq_zero (by omega)
    rw [h, this, List.drop_nil]
theorem catA_use (ha : H a = some (.tup xs)) (hb : H b = some (.tup ys)) (hl : xs.length + ys.length ≤ 1000) (q : ∀ r H', H' r = some (.tup (xs ++ ys)) → Kp [] H H' → Q (.ref r) H') : rCatA K (.ref a) (.ref b) H Q := by
  refine ⟨a, b, xs, ys, rfl, rfl, sq_t ha, sq_t hb, small (by omega), fun e => q b H ?_ (Kp.refl _ _), fun _ e => q a H ?_ (Kp.refl _ _), fun _ _ p np => q p _ upd_same (Kp.new np)⟩
  · rw [hb, e]; rfl
  · rw [ha, e, List.append_nil]
end
end My

set_option Elab.async false
set_option linter.all false
set_option maxRecDepth 100000
set_option maxHeartbeats 4000000
/-! ### displays of data: what an expression gives, read off its form -/
namespace My
open PySem L2
/-- te gives a value of the data d, and what stood stands -/
def DE (te : TE) (σ : L2.St) (H0 : Hp) (d : PyData) : Prop := ∀ H1, Kp [] H0 H1 → ∀ Q : VK, (∀ v H2, Kp [] H1 H2 → Dq H2 v d → Q v H2) → te σ H1 Q
def DA (ta : TA) (σ : L2.St) (H0 : Hp) (ds : List PyData) : Prop := ∀ H1, Kp [] H0 H1 → ∀ Q : List V → Hp → Prop, (∀ vs H2, Kp [] H1 H2 → DqAll H2 vs ds → Q vs H2) → ta σ H1 Q
section
variable {σ : L2.St} {H0 : Hp} {te tf : TE} {ta : TA} {d : PyData} {ds es : List PyData}
theorem de_int {i : Int} : DE (tC (.int i)) σ H0 (.int i) := fun H1 _ Q h => h _ _ (Kp.refl _ _) (.int i)
theorem de_str {z : Str} : DE (tC (.str z)) σ H0 (.str z) := fun H1 _ Q h => h _ _ (Kp.refl _ _) (.str z)
theorem de_bl {b : Bool} : DE (tC (.bl b)) σ H0 (.bool b) := fun H1 _ Q h => h _ _ (Kp.refl _ _) (.bl b)
theorem de_non : DE (tC .non) σ H0 .none := fun H1 _ Q h => h _ _ (Kp.refl _ _) .non
theorem de_neg {i : Int} : DE (tUn (rU fun i => V.int (-i)) (tC (.int i))) σ H0 (.int (-i)) := fun H1 _ Q h => ⟨i, rfl, h _ _ (Kp.refl _ _) (.int _)⟩
theorem de_var {i : Nat} {v : V} (e : σ[i]? = some (some v)) (hd : Dq H0 v d) : DE (tVar i) σ H0 d := fun H1 k Q h => ⟨v, e, h _ _ (Kp.refl _ _) (Dq.kp k hd)⟩
theorem da_nil : DA tNil σ H0 [] := fun H1 _ Q h => h _ _ (Kp.refl _ _) .nil
theorem da_cons (a : DE te σ H0 d) (b : DA ta σ H0 ds) : DA (tCons te ta) σ H0 (d :: ds) := fun H1 k Q h => a H1 k _ fun v H2 k2 hv => b H2 (k.trans k2) _ fun vs H3 k3 hvs => h _ _ (k2.trans k3) (.cons (Dq.kp k3 hv) hvs)
theorem de_tup (a : DA ta σ H0 ds) (l : ds.length ≤ 1000 := by decide) : DE (tTup ta) σ H0 (.tuple ds) := fun H1 k Q h => a H1 k _ fun vs H2 k2 hvs => ⟨by rw [hvs.len, sizeLine_eq]; omega, fun p np => h _ _ (k2.trans (Kp.new np)) (.tup upd_same (DqAll.kp (Kp.new np) hvs))⟩
theorem de_lst (a : DA ta σ H0 ds) (l : ds.length ≤ 1000 := by decide) : DE (tLst ta) σ H0 (.list ds) := fun H1 k Q h => a H1 k _ fun vs H2 k2 hvs => ⟨by rw [hvs.len, sizeLine_eq]; omega, fun p np => h _ _ (k2.trans (Kp.new np)) (.lst upd_same (DqAll.kp (Kp.new np) hvs))⟩
/-- list + list -/
theorem de_cat (a : DE te σ H0 (.list ds)) (b : DE tf σ H0 (.list es)) (l : ds.length ≤ 1000) (l2 : es.length ≤ 1000) : DE (tOp rCat te tf) σ H0 (.list (ds ++ es)) := fun H1 k Q h => a H1 k _ fun v H2 k2 hv => b H2 (k.trans k2) _ fun u H3 k3 hu => by
  have hv3 := Dq.kp k3 hv
  cases hv3 with
  | @lst p xs _ e1 h1 =>
    cases hu with
    | @lst q ys _ e2 h2 =>
      refine ⟨p, q, xs, ys, rfl, rfl, e1, e2, by rw [h1.len, h2.len, sizeLine_eq]; omega, fun r nr => h _ _ ((k2.trans k3).trans (Kp.new nr)) (.lst upd_same ?_)⟩
      have app : ∀ {as bs : List PyData} {us vs : List V}, DqAll H3 us as → DqAll H3 vs bs → DqAll H3 (us ++ vs) (as ++ bs) := by
        intro as
        induction as with
        | nil => intro bs us vs h h'; cases h; exact h'
        | cons a as ih => intro bs us vs h h'; cases h with
          | cons x t => exact .cons x (ih t h')
      exact DqAll.kp (Kp.new nr) (app h1 h2)
/-- t[j], t a name of a tuple -/
theorem de_ix {K : PySem.W.Frag} {i : Nat} {j : Nat} {t : Addr} {xs : List V} {x : V} (e : σ[i]? = some (some (.ref t))) (ht : H0 t = some (.tup xs)) (ej : xs[j]? = some x) (hd : Dq H0 x d) : DE (tOp (rIxT K) (tVar i) (tC (.int (j : Nat)))) σ H0 d := fun H1 k Q h =>
  ⟨.ref t, e, t, xs, (j : Nat), x, rfl, rfl, sq_t (k _ _ not0 ht), atI_nat ej, h _ _ (Kp.refl _ _) (Dq.kp k hd)⟩
/-- tuple + tuple, neither empty -/
theorem de_catA {K : PySem.W.Frag} (a : DE te σ H0 (.tuple ds)) (b : DE tf σ H0 (.tuple es)) (l : ds.length ≤ 1000) (l2 : es.length ≤ 1000) (n1 : ds ≠ []) (n2 : es ≠ []) : DE (tOp (rCatA K) te tf) σ H0 (.tuple (ds ++ es)) := fun H1 k Q h => a H1 k _ fun v H2 k2 hv => b H2 (k.trans k2) _ fun u H3 k3 hu => by
  have hv3 := Dq.kp k3 hv
  cases hv3 with
  | @tup p xs _ e1 h1 =>
    cases hu with
    | @tup q ys _ e2 h2 =>
      have m1 : xs ≠ [] := fun z => by have := h1.len; rw [z] at this; exact n1 (List.eq_nil_of_length_eq_zero this.symm)
      have m2 : ys ≠ [] := fun z => by have := h2.len; rw [z] at this; exact n2 (List.eq_nil_of_length_eq_zero this.symm)
      refine ⟨p, q, xs, ys, rfl, rfl, sq_t e1, sq_t e2, by rw [h1.len, h2.len, sizeLine_eq]; omega, fun z => absurd z m1, fun _ z => absurd z m2, fun _ _ r nr => h _ _ ((k2.trans k3).trans (Kp.new nr)) (.tup upd_same ?_)⟩
      have app : ∀ {as bs : List PyData} {us vs : List V}, DqAll H3 us as → DqAll H3 vs bs → DqAll H3 (us ++ vs) (as ++ bs) := by
        intro as
        induction as with
        | nil => intro bs us vs h h'; cases h; exact h'
        | cons a as ih => intro bs us vs h h'; cases h with
          | cons x t => exact .cons x (ih t h')
      exact DqAll.kp (Kp.new nr) (app h1 h2)
/-- list(t), t a name of a tuple -/
theorem de_list {K : PySem.W.Frag} (a : DE te σ H0 (.tuple ds)) : DE (tCB (fun xs H Q => ∃ p ys, xs = [V.ref p] ∧ (SqL K H p ys ∨ SqT K H p ys) ∧ ∀ (l : Addr), H l = none → Q (V.ref l) (upd H l (HO.lst ys))) (tCons te tNil)) σ H0 (.list ds) := fun H1 k Q h => a H1 k _ fun v H2 k2 hv => by
  cases hv with
  | @tup p xs _ e1 h1 => exact ⟨p, xs, rfl, .inr (sq_t e1), fun l nl => h _ _ (k2.trans (Kp.new nl)) (.lst upd_same (DqAll.kp (Kp.new nl) h1))⟩
end
end My

set_option Elab.async false
set_option linter.all false
set_option maxRecDepth 100000
set_option maxHeartbeats 4000000
/-! ### a dict comprehension over any walk -/
namespace My
open PySem L2
theorem dc_it {J : It} {n : Nat} {G : Hp → Prop} {Y : Nat → Hp → V → Hp → Prop} (wk : Walk J n G Y) {g : TG} {tt : TT} {tk tv : TE} {vs : List Nat} {σ : L2.St} {H1 : Hp} {D : Addr} {Qd : Hp → Prop} (Inv : Nat → Hp → Prop) (begins : Inv 0 (upd H1 D (.dK []))) (may : ∀ i H, i ≤ n → Inv i H → G H)
    (turn : ∀ i x H H', i < n → Inv i H → Y i H x H' → g x (wipe σ vs) H' fun σ2 H2 => wipe σ2 vs = wipe σ vs ∧ tt σ2 H2 fun b H3 =>
      if b = true then tk σ2 H3 fun y H4 => tv σ2 H4 fun z H5 => ∃ kvs k, y = kV k ∧ H5 D = some (.dK kvs) ∧ kvs.length < sizeLine ∧ Inv (i + 1) (upd H5 D (.dK (putK kvs k z))) else Inv (i + 1) H3) (ends : ∀ H, Inv n H → Qd H) :
    ∃ W : Nat → Nat → Hp → Prop, (∃ m, W 0 m (upd H1 D (.dK []))) ∧ ∀ i m H, W i m H →
      (J.stop i H ∧ Qd H) ∨ (J.go i H ∧ ∃ Nx : Hp → Prop, (∀ H', Nx H' → ∃ m', m' < m ∧ W (i + 1) m' H') ∧ ∀ x H', J.yld i H x H' → g x (wipe σ vs) H' fun σ2 H2 => wipe σ2 vs = wipe σ vs ∧ tt σ2 H2 fun b H3 =>
        if b = true then tk σ2 H3 fun y H4 => tv σ2 H4 fun z H5 => ∃ kvs k, y = kV k ∧ H5 D = some (.dK kvs) ∧ kvs.length < sizeLine ∧ Nx (upd H5 D (.dK (putK kvs k z))) else Nx H3) := by
  refine ⟨fun i m H => m + i = n ∧ Inv i H, ⟨n, rfl, begins⟩, fun i m H h => ?_⟩
  obtain ⟨e, p⟩ := h
  have ok := may i H (by omega) p
  rcases Nat.lt_or_ge i n with lt | ge
  · exact .inr ⟨wk.goes i H lt ok, Inv (i + 1), fun H' p' => ⟨m - 1, by omega, by omega, p'⟩, fun x H' y => turn i x H H' lt p (wk.yields i H x H' lt ok y)⟩
  · have z : i = n := by omega
    subst z
    exact .inl ⟨wk.stops H ok, ends H p⟩
end My

set_option Elab.async false
set_option linter.all false
set_option maxRecDepth 100000
set_option maxHeartbeats 4000000
/-! ### len(set(t)), t a tuple of any texts -/
namespace My
open PySem PySem.Spec PyProof.Rows L2
/-- how many different ones stand among the first i -/
def dis (xs : List Str) : Nat → Nat
  | 0 => 0
  | i + 1 => if (xs.take i).any (· == xs.getD i Str.empty) = true then dis xs i else dis xs i + 1
theorem dis_le (xs : List Str) : ∀ i, dis xs i ≤ i
  | 0 => Nat.le_refl 0
  | i + 1 => by
    have := dis_le xs i
    unfold dis
    split <;> omega
theorem dis_full {xs : List Str} : ∀ i, dis xs i = i → ∀ j, j < i → (xs.take j).any (· == xs.getD j Str.empty) = false
  | 0, _, j, hj => absurd hj (Nat.not_lt_zero j)
  | i + 1, h, j, hj => by
    have l := dis_le xs i
    unfold dis at h
    split at h
    · omega
    · rename_i q
      by_cases e : j = i
      · rw [e]; exact Bool.eq_false_iff.mpr q
      · exact dis_full i (by omega) j (by omega)
theorem any_take {xs : List Str} {j : Nat} {z : Str} : (xs.take j).any (· == z) = true ↔ ∃ i, i < j ∧ xs[i]? = some z := by
  rw [List.any_eq_true]
  constructor
  · rintro ⟨y, hy, e⟩
    obtain ⟨i, hi⟩ := List.mem_iff_getElem?.mp hy
    rw [List.getElem?_take] at hi
    split at hi
    · rename_i hij
      exact ⟨i, hij, by rw [hi, eq_of_beq e]⟩
    · cases hi
  · rintro ⟨i, hi, e⟩
    exact ⟨z, List.mem_iff_getElem?.mpr ⟨i, by rw [List.getElem?_take, if_pos hi, e]⟩, beq_self_eq_true z⟩
theorem dis_nodup {xs : List Str} : dis xs xs.length = xs.length ↔ xs.Nodup := by
  constructor
  · intro h
    unfold List.Nodup
    rw [List.pairwise_iff_getElem]
    intro i j hi hj hij e
    have z := dis_full _ h j hj
    have g : xs.getD j Str.empty = xs[j] := by rw [List.getD_eq_getElem?_getD, List.getElem?_eq_getElem hj]; rfl
    rw [g] at z
    rw [any_take.mpr ⟨i, hij, by rw [List.getElem?_eq_getElem hi, e]⟩] at z
    cases z
  · intro h
    have key : ∀ i, i ≤ xs.length → dis xs i = i := by
      intro i
      induction i with
      | zero => intro _; rfl
      | succ i ih =>
        intro hi
        have g : xs.getD i Str.empty = xs[i] := by rw [List.getD_eq_getElem?_getD, List.getElem?_eq_getElem (show i < xs.length by omega)]; rfl
        unfold dis
        rw [ih (by omega), g, if_neg]
        intro q
        obtain ⟨j, hj, e⟩ := any_take.mp q
        have hj' : j < xs.length := by omega
        rw [List.getElem?_eq_getElem hj'] at e
        exact List.pairwise_iff_getElem.mp h j i hj' (by omega) hj (Option.some.inj e)
    exact key _ (Nat.le_refl _)
/-- a set that was just made -/
abbrev nset (led : Bool) : Obj := { cls := .type "set", dict := none, data := .set #[] 0 (.fresh 0 0 led) }
abbrev SetN (p : Program) (w : World) (h : Heap) (S : Addr) (xs : List Str) (i : Nat) : Prop := h.SetOf (PySem.strKind p w) S (fun z => (xs.take i).any (· == z)) (dis xs i)
section
variable {p : Program} {w : World} {A : Around} {R : Result → Shared → Prop} {it : Addr} {fp wr : List Addr} {G : Array GenState → Array GenState → Prop} {n : Nat} {Pi : Nat → Value → Prop} {St : Nat → Shared → Prop}
theorem SetN.at {h h' : Heap} {S : Addr} {xs : List Str} {i : Nat} (q : SetN p w h S xs i) (k : ∀ o, h.get? S = some o → h'.get? S = some o) : SetN p w h' S xs i := by
  obtain ⟨o, es, ep, t, ho, r⟩ := q
  exact ⟨o, es, ep, t, k o ho, r⟩
theorem SetN.next {h : Heap} {S : Addr} {xs : List Str} {i : Nat} (hi : i < xs.length) (q : h.SetOf (PySem.strKind p w) S (fun z => (xs.take i).any (· == z) || decide (z = xs.getD i Str.empty)) (if (xs.take i).any (· == xs.getD i Str.empty) = true then dis xs i else dis xs i + 1)) : SetN p w h S xs (i + 1) := by
  refine SetOf_congr q (fun z => ?_) rfl
  have g : xs.getD i Str.empty = xs[i] := by rw [List.getD_eq_getElem?_getD, List.getElem?_eq_getElem hi]; rfl
  rw [List.take_add_one, List.getElem?_eq_getElem hi, g, List.any_append]
  congr 1
  show decide (z = xs[i]) = ((xs[i] == z) || false)
  rw [Bool.or_false]
  by_cases e : z = xs[i]
  · rw [e, beq_self_eq_true, decide_eq_true rfl]
  · rw [decide_eq_false e, beq_eq_false_iff_ne.mpr fun z' => e z'.symm]
/-- the rest of the items goes into the set -/
theorem set_grows (W : WalksS p w A.in1 it fp wr G n Pi St) (S : Addr) (out : S ∉ fp) (xs : List Str) (len : n = xs.length) (few : xs.length ≤ 1000) (txt : ∀ i v, Pi i v → ∃ t, v = .str (xs.getD i Str.empty) t) :
    ∀ (left i : Nat) (s : Shared), n = i + left → St i s → SetN p w s.heap S xs i → (∀ s', Moved (S :: wr) G s s' → SetN p w s'.heap S xs n → R (.ok (.ret .none)) s') → codeAny (model p w) A (.builtin "set.update.loop" ⟨[.ref S, .ref it], []⟩) R s
  | 0, i, s, e, st, q, fin => by
    have e' : i = n := by omega
    subst e'
    have notW : S ∉ wr := fun z => out (W.sub _ z)
    refine codeAny_builtin F.entry_set_update_loop (by
      rw [Around.under_plainId F.plain_set_update_loop _]
      exact wpAny_bind (W.done s _ _ st fun s' hm => wpAny_pure (fin s' (hm.mono fun b hb => List.mem_cons_of_mem _ hb) (q.at fun o => hm.heap S o notW))))
  | left + 1, i, s, e, st, q, fin => by
    have notW : S ∉ wr := fun z => out (W.sub _ z)
    have hi : i < n := by omega
    refine codeAny_builtin F.entry_set_update_loop ?_
    rw [Around.under_plainId F.plain_set_update_loop _]
    refine wpAny_bind (W.item i s _ _ hi st fun v s1 hv st1 m1 => ?_)
    obtain ⟨t, rfl⟩ := txt i v hv
    have q1 : SetN p w s1.heap S xs i := q.at fun o => m1.heap S o notW
    have room : dis xs i + 1 < scanBound := by
      have := dis_le xs i
      unfold scanBound
      omega
    show wpAny _ A.in1 (holding [Value.str (xs.getD i Str.empty) t] (setAdd S (.str (xs.getD i Str.empty) t)) >>= _) _ _ s1
    refine wpAny_bind (wpAny_holding ?_)
    unfold setAdd
    refine wpAny_holding (wpAny_bind ((PySem.strKind p w).pyHash (k := xs.getD i Str.empty) (strKind_is _ _ _ _) ?_))
    refine wpAny_setAddHashed_of (knd := PySem.strKind p w) (s := { s1 with toks := s1.toks + 1 }) (strKind_is _ _ _ _) rfl q1 room fun h2 sb q2 => ?_
    refine wpAny_pure ⟨plainId_quiet F.plain_set_update_loop _, set_grows W S out xs len few txt left (i + 1) _ (by omega) (W.frame _ s1 _ _ st1 (Nat.le_succ _) fun b hb o e1 => ?_) (SetN.next (by omega) q2) fun s3 m3 q3 => fin s3 (Moved.trans W.gtrans ((m1.mono fun b hb => List.mem_cons_of_mem _ hb).then_heap (Nat.le_succ _) fun b o hb e1 => ?_) m3) q3⟩
    · have ne : b ≠ S := fun z => out (by rw [← z]; exact hb)
      rw [sb.2 b ne]; exact e1
    · have ne : b ≠ S := fun z => hb (by rw [z]; exact List.mem_cons_self)
      rw [sb.2 b ne]; exact e1
end
section
variable {p : Program} {w : World} {A : Around} {E : Value → Shared → Prop} {s : Shared}
set_option maxHeartbeats 6400000 in
theorem set_of_texts {l : Addr} {items : Array Value} {xs : List Str} {Q : Value → Shared → Prop} (calm : A.handled = none) (tup : s.heap.IsTuple l items) (txts : StrsAre items.toList xs) (few : xs.length ≤ 1000)
    (go : ∀ (h' : Heap) (tk : Nat), SetN p w h' s.heap.objs.size xs xs.length → (∀ b o, s.heap.get? b = some o → h'.get? b = some o) → Q (.ref s.heap.objs.size) { s with heap := h', toks := tk }) :
    wpAny (model p w) A (call (.type "set") [.ref l]) Q E s := by
  obtain ⟨c, tl, mro⟩ := PySem.F.called_set.mro
  have made := PySem.F.called_set.made; have sub := PySem.F.called_set.sub; have nt := PySem.F.called_set.notType; have cc := PySem.F.called_set.canCreate
  have tcall := PySem.F.typeCall_set_1 (.ref l)
  refine wpAny_call (codeAny_of_tree (show wpAny _ _ (callAny (.type "set") _) _ _ _ from ?_))
  refine wpAny_pure ⟨Code.quiet_builtin _ (by decide +kernel), codeAny_builtin PySem.F.entry_type_call ?_⟩
  rw [Around.under_plain (weight_type_call_type "set" [.ref l] []) rfl]; repeat (any_goals (first | assumption | wp_step))
  refine codeAny_mono (code_set_new_1 (.ref l) (E := E) (Q₁ := fun v s1 => ∃ led : Bool, v = .ref s.heap.objs.size ∧ s1 = { s with heap := s.heap.push (nset led) }) fun led => ⟨led, rfl, rfl⟩) ?_
  rintro (e | fl) s1 hr
  · exact hr
  cases fl with
  | ret v =>
    obtain ⟨led, rfl, rfl⟩ := hr
    have at_ : (s.heap.push (nset led)).get? s.heap.objs.size = some (nset led) := Heap.get?_push_size _ rfl
    have isT : Shared.TypeIs { s with heap := s.heap.push (nset led) } (.ref s.heap.objs.size) "set" := ⟨_, at_, rfl⟩
    have look := PySem.F.called_set.init.lookup; have bind_ := PySem.F.called_set.init.bind (.ref s.heap.objs.size)
    repeat (any_goals (first | assumption | wp_step))
    refine codeAny_mono (codeAny_call_builtin (R := wants (fun r s2 => r = .none ∧ ∃ h' tk, s2 = { s with heap := h', toks := tk } ∧ SetN p w h' s.heap.objs.size xs xs.length ∧ ∀ b o, s.heap.get? b = some o → h'.get? b = some o) E)
      PySem.F.called_set.init.plain PySem.F.entry_set_init (check_set_init_1 isT ?_)) ?_
    · obtain ⟨⟨tc, td, tdat, tsl⟩, ho, hc, hn, hd⟩ := tup
      simp only at hc hd
      subst hc
      subst hd
      have ho1 : (s.heap.push (nset led)).get? l = some { cls := .type "tuple", dict := td, data := .seq items hn, slots := tsl } := Heap.get?_push_of_some _ ho
      have isTup : (s.heap.push (nset led)).IsTuple l items := ⟨_, ho1, rfl, hn, rfl⟩
      have n1 := PySem.F.sub_tuple_set; have n2 := PySem.F.sub_tuple_frozenset; have n3 : (Value.type "tuple" == Value.type "dict") = false := by decide
      unfold Builtin.«set.__init__» noKeywords Builtin.Frozenset.updateFrom
      generalize hI : pyIter = I
      wp_walk
      subst hI
      refine wpAny_pyIter_tuple isTup (wpAny_bind (wpAny_runValue ?_))
      have below : l < s.heap.objs.size := Heap.lt_size ho
      have sz : (s.heap.push (nset led)).objs.size = s.heap.objs.size + 1 := Heap.size_push _ _
      have len : items.size = xs.length := by rw [← StrsAre.len_eq txts]; exact Array.length_toList
      refine set_grows ((Walks.tuple (show A.in1.in1.in1.handled = none by simp [calm]) _ l (by rw [sz]; exact Nat.ne_of_lt (Nat.lt_succ_of_lt below)) items).toS) s.heap.objs.size ?far xs len few (fun i v hv => SS.strs_at txts i v (by rw [Array.getElem?_toList]; exact hv)) items.size 0 _ (Nat.zero_add _).symm ⟨⟨_, Heap.get?_push_size _ rfl, rfl, rfl⟩, isTup.push _⟩ ?start ?stop
      case far =>
        rw [sz]
        intro z
        rcases List.mem_cons.mp z with z | z
        · exact absurd z (Nat.ne_of_lt (Nat.lt_succ_self _))
        · exact absurd (List.mem_singleton.mp z).symm (Nat.ne_of_lt below)
      case start =>
        have empty := (setObjOf_fresh (knd := PySem.strKind p w) led).setOf (a := s.heap.objs.size) (h := (s.heap.push (nset led)).push { cls := .type "tuple_iterator", data := .fields #[.ref l, .int 0 0] }) (Heap.get?_push_of_some _ at_) (by unfold scanBound; omega)
        exact SetOf_congr empty (fun _ => rfl) rfl
      case stop =>
        rintro ⟨h', g', d', tk', os'⟩ mv q
        cases (show g' = s.gens from mv.gens)
        cases (show d' = s.drawn from mv.drawn)
        cases (show os' = s.os from mv.os)
        refine wpAny_pure (show wpAny _ _ (ret Value.none) _ _ _ from wpAny_pure ⟨rfl, h', tk', rfl, by rw [len] at q; exact q, fun b o e => mv.heap b o ?_ (Heap.get?_push_of_some _ (Heap.get?_push_of_some _ e))⟩)
        have hb := Heap.lt_size e
        intro z
        rcases List.mem_cons.mp z with z | z
        · exact absurd z (Nat.ne_of_lt hb)
        · have z' : b ∈ [(s.heap.push (nset led)).objs.size] := z
          rw [List.mem_singleton, sz] at z'
          exact absurd z' (Nat.ne_of_lt (Nat.lt_succ_of_lt hb))
    · rintro (e | fl2) s2 hr2
      · exact hr2
      cases fl2 with
      | ret r =>
        obtain ⟨rfl, h', tk, rfl, q, kp⟩ := hr2
        repeat (any_goals (first | assumption | wp_step))
        exact go _ _ q kp
      | _ => exact hr2.elim
  | _ => exact hr.elim
end
/-- len(set(t)) -/
def tLenT (K : PySem.W.Frag) (ta : TE) : TE := fun σ H Q => ta σ H fun x H1 => ∃ (l : Addr) (xs : List Str), x = .ref l ∧ SqT K H1 l (xs.map V.str) ∧ xs.length ≤ 1000 ∧ Q (.int (dis xs xs.length : Nat)) H1
theorem pe_lenSetT {X : Cx} {a : Expr} {ta : TE} {p p2 q pos : Pos} (hg : Gl X "len") (hm : X.mg "len" = none) (hg2 : Gl X "set") (hm2 : X.mg "set" = none) (ha : PE X a ta) (hc : X.calm = true := by rfl)
    (na : starEach [a] X.env = (false, eval a X.env) :: starEach [] X.env := by rfl) : PE X (.Call (.Name "len" p) [.Call (.Name "set" p2) [a] [] q] [] pos) (tLenT X.K ta) := by
  refine ⟨fun pins s σ H Q I h => ?_⟩
  refine Call_ (ld_blt I hg hm boot_len (callWith_builtin1 (args_cons (Call_ (ld_blt I hg2 hm2 boot_set ?_)) rfl) rfl rfl))
  refine callWith_type1 (args_cons (thn (ha.run pins s σ H _ I h) ?_) na) na rfl
  rintro v s1 ⟨x, H1, I1, rx, l, xs, rfl, tup, few, out⟩
  cases rx
  obtain ⟨its, rv, isT, _⟩ := I1.tuple tup
  refine args_nil (set_of_texts (I1.ok.hd hc) isT (by simpa using strsAre_of rv) few fun h' tk N kp => args_nil ?_)
  obtain ⟨o, es, ep, t, ho, ex, d1, _, _, _, f1, cnt⟩ := N
  have I2 : Inv X pins σ H1 { s1 with heap := h', toks := tk } := I1.kept fun b o e => kp b o e
  have dl := dis_le xs xs.length
  exact call_len_set ho ex d1 f1 (by rw [cnt]; unfold sizeLine at *; omega) ⟨.int (dis xs xs.length : Nat), H1, I2.tok _, ⟨_, by rw [cnt]⟩, out⟩
end My

set_option Elab.async false
set_option linter.all false
set_option maxRecDepth 100000
set_option maxHeartbeats 4000000
/-! ### sorted(set(t)), t a tuple of texts: a set whose table can be walked -/
namespace My
open PySem PySem.Spec PyProof.Rows L2
def txOf (e : Int × Value) : Str := match e.2 with
  | .str z _ => z
  | _ => Str.empty
def TxE (P : Program) (w : World) (e : Int × Value) : Prop := ∃ z tk, e.2 = Value.str z tk ∧ e.1 = (PySem.strKind P w).hash z
/-- at a the set of the texts met so far -/
def SetS (P : Program) (w : World) (h : Heap) (a : Addr) (xs : List Str) : Prop :=
  ∃ o es ep t, h.get? a = some o ∧ o.ExactSet ∧ o.data = .set es ep t ∧ (∀ e ∈ es.toList, TxE P w e) ∧ (es.toList.map txOf).Nodup ∧ (∀ z, z ∈ xs ↔ z ∈ es.toList.map txOf) ∧ es.size ≤ xs.length ∧ t.fits es.size = true ∧ Ris t.place.toList ∧ (w.params.followText "set-order" = true ∨ t.led = true)
section
variable {P : Program} {w : World} {h h' : Heap} {a : Addr} {xs : List Str}
theorem SetS.at (R : SetS P w h a xs) (k : ∀ o, h.get? a = some o → h'.get? a = some o) : SetS P w h' a xs := by
  obtain ⟨o, es, ep, t, e, more⟩ := R
  exact ⟨o, es, ep, t, k o e, more⟩
theorem tx_is {e : Int × Value} (g : TxE P w e) (z : Str) : (PySem.strKind P w).is z e.2 = true ↔ txOf e = z := by
  obtain ⟨y, tk, e1, _⟩ := g
  unfold txOf
  rw [e1]
  simp [PySem.strKind, Value.isStrOf]
theorem tx_elems {l : List (Int × Value)} (g : ∀ e ∈ l, TxE P w e) : ElemsOf (PySem.strKind P w) l := fun e he => by
  obtain ⟨y, tk, e1, e2⟩ := g e he
  exact ⟨⟨y, by rw [e1]; exact strKind_is P w y tk, e2⟩, by rw [e1]; rfl⟩
theorem tx_mem {l : List (Int × Value)} (g : ∀ e ∈ l, TxE P w e) (z : Str) : z ∈ l.map txOf ↔ ∃ e ∈ l, (PySem.strKind P w).is z e.2 = true := by
  rw [List.mem_map]
  exact ⟨fun ⟨e, he, q⟩ => ⟨e, he, (tx_is (g e he) z).2 q⟩, fun ⟨e, he, q⟩ => ⟨e, he, (tx_is (g e he) z).1 q⟩⟩
theorem setS_fresh (w : World) : SetS P w (h.push (nset (!w.params.followText "set-order"))) h.objs.size [] :=
  ⟨_, #[], 0, _, Heap.get?_push_size _ rfl, ⟨rfl, rfl, rfl⟩, rfl, (fun e he => by simp at he), (by simp), (fun z => by simp), Nat.le_refl _, (by rfl), List.Pairwise.nil, by
    show _ ∨ (!w.params.followText "set-order") = true
    cases w.params.followText "set-order" <;> simp⟩
end
section
variable {P : Program} {w : World} {A : Around} {E : Value → Shared → Prop} {s : Shared} {a : Addr} {xs : List Str}
/-- the new entries are stored, the table made larger where it is too full -/
theorem sS_store {g : Bool → Sem Unit} (hg : ∀ (b : Bool) (s1 : Shared) (Q : Unit → Shared → Prop), Q () s1 → wpAny (model P w) A (g b) Q E s1) {o : Obj} {es es1 : Array (Int × Value)} {ep : Nat} {t t2 : SetTable} (ho : s.heap.get? a = some o) (hx : o.ExactSet) (hd : o.data = .set es ep t)
    {ys : List Str} (gd : ∀ e ∈ es1.toList, TxE P w e) (nd : (es1.toList.map txOf).Nodup) (me : ∀ z, z ∈ ys ↔ z ∈ es1.toList.map txOf) (sz : es1.size ≤ ys.length) (few : ys.length ≤ 2000) (ft : t2.fits es1.size = true) (rs : Ris t2.place.toList) (ld : w.params.followText "set-order" = true ∨ t2.led = true) {was : Bool} {R : Option Bool → Shared → Prop}
    (go : ∀ h', Heap.SameBut a s.heap h' → SetS P w h' a ys → R (some true) { s with heap := h' }) :
    wpAny (model P w) A (do
        storeSet a es1 t2
        if (!was && t2.tooFull) = true then do
            g (relayAll t2 es1 (SetTable.grown es1.size)).2.2
            storeSet a (relayAll t2 es1 (SetTable.grown es1.size)).1 (relayAll t2 es1 (SetTable.grown es1.size)).2.1
            pure (some true)
          else pure (some true)) R E s := by
  have bd : es1.size < scanBound := by unfold scanBound; omega
  refine wpAny_bind (wpAny_storeSet_of ho hd ?_ (fits_of_scanBound bd))
  have o1 := store_at (es' := es1) (t' := t2) ho hd
  have same := Heap.SameBut.update s.heap a (Obj.putSet es1 t2)
  by_cases full : (!was && t2.tooFull) = true
  · rw [if_pos full]
    have q1 := relayAll_perm t2 es1 (SetTable.grown es1.size)
    have q2 := relayAll_fits t2 es1 (SetTable.grown es1.size)
    have q3 := relayAll_ris t2 es1 (SetTable.grown es1.size)
    have q4 := relayAll_led t2 es1 (SetTable.grown es1.size)
    generalize relayAll t2 es1 (SetTable.grown es1.size) = Z at q1 q2 q3 q4 ⊢
    rcases Z with ⟨es2, t3, gave⟩
    simp only at q1 q2 q3 q4 ⊢
    have z2 : es2.size = es1.size := by simpa using q1.length_eq
    refine wpAny_bind (hg _ _ _ (wpAny_bind (wpAny_storeSet_of o1 rfl ?_ (fits_of_scanBound (by rw [z2]; exact bd)))))
    have pk := q1.map txOf
    exact wpAny_pure (go _ (same.trans (Heap.SameBut.update _ a _)) ⟨_, es2, _, t3, store_at (es' := es2) (t' := t3) o1 rfl, hx, rfl, fun e he => gd e (q1.mem_iff.mp he), pk.nodup_iff.mpr nd, fun z => (me z).trans pk.mem_iff.symm, by rw [z2]; exact sz, q2, q3, ld.imp id fun z => by rw [q4]; exact z⟩)
  · rw [if_neg full]
    exact wpAny_pure (go _ same ⟨_, es1, _, t2, o1, hx, rfl, gd, nd, me, sz, ft, rs, ld⟩)
theorem sS_add {z : Str} {tk : Tok} {Q : Bool → Shared → Prop} (R : SetS P w s.heap a xs) (few : xs.length + 1 ≤ 2000) (go : ∀ (b : Bool) h', Heap.SameBut a s.heap h' → SetS P w h' a (xs ++ [z]) → Q b { s with heap := h' }) :
    wpAny (model P w) A (setAddHashed a (.str z tk) ((PySem.strKind P w).hash z)) Q E s := by
  obtain ⟨o, es, ep, t, ho, hx, hd, gd, nd, me, sz, ft, rs, ld⟩ := R
  have key : (PySem.strKind P w).is z (.str z tk) = true := strKind_is P w z tk
  have scan : (Value.str z tk).scannable = true := rfl
  have bd : es.size < scanBound := by unfold scanBound; omega
  have el := tx_elems gd
  have all : ∀ y, y ∈ xs ++ [z] ↔ y ∈ es.toList.map txOf ∨ y = z := fun y => by rw [List.mem_append, List.mem_singleton, me y]
  unfold setAddHashed setAddHashedIn
  refine wpAny_holding (wpAny_bind (wpAny_setState_of ho hd ft ?_))
  dsimp only
  rw [byScan_of scan bd el]
  simp only [↓reduceIte]
  unfold setAddByScan
  refine wpAny_bind (wpAny_bind (wpAny_rule (wpAny_bind (wpAny_setScan_of key ho hd ft el ?_))))
  cases found : List.findIdx? (fun e => (PySem.strKind P w).is z e.2) es.toList with
  | some j =>
    obtain ⟨jl, jp, _⟩ := List.findIdx?_eq_some_iff_getElem.mp found
    have old : z ∈ es.toList.map txOf := (tx_mem (P := P) (w := w) gd z).2 ⟨es.toList[j], List.getElem_mem jl, jp⟩
    dsimp only
    exact wpAny_pure (wpAny_pure (go _ s.heap (Heap.SameBut.refl a s.heap) ⟨o, es, ep, t, ho, hx, hd, gd, nd, fun y => (all y).trans ⟨fun q => q.elim id fun e => e ▸ old, .inl⟩, by rw [List.length_append]; omega, ft, rs, ld⟩))
  | none =>
    dsimp only
    have new : z ∉ es.toList.map txOf := fun m => by
      obtain ⟨e, he, q⟩ := (tx_mem (P := P) (w := w) gd z).1 m
      have := List.findIdx?_eq_none_iff.mp found e he
      rw [q] at this; cases this
    have gw : ∀ (b : Bool) {s1 : Shared} {Q' : Unit → Shared → Prop}, Q' () s1 → wpAny (model P w) A (match b with | true => rule "set.scan.the-table-gave-way" | false => pure ()) Q' E s1 := fun b s1 Q' q => by
      cases b
      · exact wpAny_pure q
      · exact wpAny_rule q
    have p1 := layNew_perm t es ((PySem.strKind P w).hash z) (.str z tk)
    have p2 := layNew_fits t es ((PySem.strKind P w).hash z) (.str z tk)
    have p3 := layNew_ris t es ((PySem.strKind P w).hash z) (.str z tk) rs
    have p4 := layNew_led t es ((PySem.strKind P w).hash z) (.str z tk)
    generalize layNew t es ((PySem.strKind P w).hash z) (.str z tk) = Z at p1 p2 p3 p4 ⊢
    rcases Z with ⟨es1, t1, was, gave⟩
    dsimp only at p1 p2 p3 p4 ⊢
    rw [Array.toList_push] at p1
    have pc : es1.toList.Perm (((PySem.strKind P w).hash z, Value.str z tk) :: es.toList) := p1.trans (List.perm_append_singleton _ _)
    have pk : (es1.toList.map txOf).Perm (z :: es.toList.map txOf) := pc.map txOf
    have gd1 : ∀ e ∈ es1.toList, TxE P w e := fun e he => (List.mem_cons.mp (pc.mem_iff.mp he)).elim (fun q => q ▸ ⟨z, tk, rfl, rfl⟩) (gd e)
    have nd1 : (es1.toList.map txOf).Nodup := pk.nodup_iff.mpr (List.nodup_cons.mpr ⟨new, nd⟩)
    have me1 : ∀ y, y ∈ xs ++ [z] ↔ y ∈ es1.toList.map txOf := fun y => by rw [all y, pk.mem_iff, List.mem_cons]; exact Or.comm
    have sz1 : es1.size ≤ (xs ++ [z]).length := by
      have := pc.length_eq
      simp only [List.length_cons, Array.length_toList] at this
      rw [List.length_append]
      simp only [List.length_cons, List.length_nil]
      omega
    have ld1 : w.params.followText "set-order" = true ∨ t1.led = true := ld.imp id fun q => by rw [p4]; exact q
    have few1 : (xs ++ [z]).length ≤ 2000 := by rw [List.length_append]; exact few
    refine wpAny_bind (gw _ ?_)
    split
    · refine wpAny_bind ?_
      rw [hashByValue_scannable 8 scan]
      refine wpAny_pure (sS_store (fun b s1 Q' q => ?_) ho hx hd gd1 nd1 me1 sz1 few1 ?_ ?_ ?_ fun h' sb r => ?_)
      · cases b
        · exact wpAny_pure q
        · exact wpAny_rule q
      · first | (split <;> first | exact p2 | exact SetTable.fits_plain_off p2) | exact p2
      · first | (split <;> exact p3) | exact p3
      · first | (split <;> exact ld1) | exact ld1
      · dsimp only
        exact wpAny_pure (go _ h' sb r)
    · refine wpAny_bind (wpAny_pure ?_)
      simp only [↓reduceIte]
      refine sS_store (fun b s1 Q' q => ?_) ho hx hd gd1 nd1 me1 sz1 few1 p2 p3 ld1 fun h' sb r => ?_
      · cases b
        · exact wpAny_pure q
        · exact wpAny_rule q
      · dsimp only
        exact wpAny_pure (go _ h' sb r)
end
section
variable {p : Program} {w : World} {A : Around} {R : Result → Shared → Prop} {it : Addr} {fp wr : List Addr} {G : Array GenState → Array GenState → Prop} {n : Nat} {Pi : Nat → Value → Prop} {St : Nat → Shared → Prop}
/-- the rest of the items goes into the set -/
theorem setS_grows (W : WalksS p w A.in1 it fp wr G n Pi St) (S : Addr) (out : S ∉ fp) (xs : List Str) (len : n = xs.length) (few : xs.length ≤ 1000) (txt : ∀ i v, Pi i v → ∃ t, v = .str (xs.getD i Str.empty) t) :
    ∀ (left i : Nat) (s : Shared), n = i + left → St i s → SetS p w s.heap S (xs.take i) → (∀ s', Moved (S :: wr) G s s' → SetS p w s'.heap S (xs.take n) → R (.ok (.ret .none)) s') → codeAny (model p w) A (.builtin "set.update.loop" ⟨[.ref S, .ref it], []⟩) R s
  | 0, i, s, e, st, q, fin => by
    have e' : i = n := by omega
    subst e'
    have notW : S ∉ wr := fun z => out (W.sub _ z)
    refine codeAny_builtin F.entry_set_update_loop (by
      rw [Around.under_plainId F.plain_set_update_loop _]
      exact wpAny_bind (W.done s _ _ st fun s' hm => wpAny_pure (fin s' (hm.mono fun b hb => List.mem_cons_of_mem _ hb) (q.at fun o => hm.heap S o notW))))
  | left + 1, i, s, e, st, q, fin => by
    have notW : S ∉ wr := fun z => out (W.sub _ z)
    have hi : i < n := by omega
    refine codeAny_builtin F.entry_set_update_loop ?_
    rw [Around.under_plainId F.plain_set_update_loop _]
    refine wpAny_bind (W.item i s _ _ hi st fun v s1 hv st1 m1 => ?_)
    obtain ⟨t, rfl⟩ := txt i v hv
    have q1 : SetS p w s1.heap S (xs.take i) := q.at fun o => m1.heap S o notW
    show wpAny _ A.in1 (holding [Value.str (xs.getD i Str.empty) t] (setAdd S (.str (xs.getD i Str.empty) t)) >>= _) _ _ s1
    refine wpAny_bind (wpAny_holding ?_)
    unfold setAdd
    refine wpAny_holding (wpAny_bind ((PySem.strKind p w).pyHash (k := xs.getD i Str.empty) (strKind_is _ _ _ _) ?_))
    refine sS_add (s := { s1 with toks := s1.toks + 1 }) q1 (by rw [List.length_take]; omega) fun b2 h2 sb q2 => ?_
    have q2 : SetS p w h2 S (xs.take (i + 1)) := by
      have g : xs.getD i Str.empty = xs[i] := by rw [List.getD_eq_getElem?_getD, List.getElem?_eq_getElem (show i < xs.length by omega)]; rfl
      rw [List.take_add_one, List.getElem?_eq_getElem (show i < xs.length by omega)]
      rw [g] at q2
      exact q2
    refine wpAny_pure ⟨plainId_quiet F.plain_set_update_loop _, setS_grows W S out xs len few txt left (i + 1) _ (by omega) (W.frame _ s1 _ _ st1 (Nat.le_succ _) fun b hb o e1 => ?_) q2 fun s3 m3 q3 => fin s3 (Moved.trans W.gtrans ((m1.mono fun b hb => List.mem_cons_of_mem _ hb).then_heap (Nat.le_succ _) fun b o hb e1 => ?_) m3) q3⟩
    · have ne : b ≠ S := fun z => out (by rw [← z]; exact hb)
      rw [sb.2 b ne]; exact e1
    · have ne : b ≠ S := fun z => hb (by rw [z]; exact List.mem_cons_self)
      rw [sb.2 b ne]; exact e1
end
section
variable {p : Program} {w : World} {A : Around} {E : Value → Shared → Prop} {s : Shared}
set_option maxHeartbeats 6400000 in
theorem setS_of_texts {l : Addr} {items : Array Value} {xs : List Str} {Q : Value → Shared → Prop} (calm : A.handled = none) (tup : s.heap.IsTuple l items) (txts : StrsAre items.toList xs) (few : xs.length ≤ 1000)
    (go : ∀ (h' : Heap) (tk : Nat), SetS p w h' s.heap.objs.size xs → (∀ b o, s.heap.get? b = some o → h'.get? b = some o) → Q (.ref s.heap.objs.size) { s with heap := h', toks := tk }) :
    wpAny (model p w) A (call (.type "set") [.ref l]) Q E s := by
  obtain ⟨c, tl, mro⟩ := PySem.F.called_set.mro
  have made := PySem.F.called_set.made; have sub := PySem.F.called_set.sub; have nt := PySem.F.called_set.notType; have cc := PySem.F.called_set.canCreate
  have tcall := PySem.F.typeCall_set_1 (.ref l)
  refine wpAny_call (codeAny_of_tree (show wpAny _ _ (callAny (.type "set") _) _ _ _ from ?_))
  refine wpAny_pure ⟨Code.quiet_builtin _ (by decide +kernel), codeAny_builtin PySem.F.entry_type_call ?_⟩
  rw [Around.under_plain (weight_type_call_type "set" [.ref l] []) rfl]; repeat (any_goals (first | assumption | wp_step))
  refine codeAny_mono (code_set_led1 (.ref l) (E := E) (Q₁ := fun v s1 => v = .ref s.heap.objs.size ∧ s1 = { s with heap := s.heap.push (nset (!w.params.followText "set-order")) }) ⟨rfl, rfl⟩) ?_
  rintro (e | fl) s1 hr
  · exact hr
  cases fl with
  | ret v =>
    obtain ⟨rfl, rfl⟩ := hr
    have at_ : (s.heap.push (nset (!w.params.followText "set-order"))).get? s.heap.objs.size = some (nset (!w.params.followText "set-order")) := Heap.get?_push_size _ rfl
    have isT : Shared.TypeIs { s with heap := s.heap.push (nset (!w.params.followText "set-order")) } (.ref s.heap.objs.size) "set" := ⟨_, at_, rfl⟩
    have look := PySem.F.called_set.init.lookup; have bind_ := PySem.F.called_set.init.bind (.ref s.heap.objs.size)
    repeat (any_goals (first | assumption | wp_step))
    refine codeAny_mono (codeAny_call_builtin (R := wants (fun r s2 => r = .none ∧ ∃ h' tk, s2 = { s with heap := h', toks := tk } ∧ SetS p w h' s.heap.objs.size xs ∧ ∀ b o, s.heap.get? b = some o → h'.get? b = some o) E)
      PySem.F.called_set.init.plain PySem.F.entry_set_init (check_set_init_1 isT ?_)) ?_
    · obtain ⟨⟨tc, td, tdat, tsl⟩, ho, hc, hn, hd⟩ := tup
      simp only at hc hd
      subst hc
      subst hd
      have ho1 : (s.heap.push (nset (!w.params.followText "set-order"))).get? l = some { cls := .type "tuple", dict := td, data := .seq items hn, slots := tsl } := Heap.get?_push_of_some _ ho
      have isTup : (s.heap.push (nset (!w.params.followText "set-order"))).IsTuple l items := ⟨_, ho1, rfl, hn, rfl⟩
      have n1 := PySem.F.sub_tuple_set; have n2 := PySem.F.sub_tuple_frozenset; have n3 : (Value.type "tuple" == Value.type "dict") = false := by decide
      unfold Builtin.«set.__init__» noKeywords Builtin.Frozenset.updateFrom
      generalize hI : pyIter = I
      wp_walk
      subst hI
      refine wpAny_pyIter_tuple isTup (wpAny_bind (wpAny_runValue ?_))
      have below : l < s.heap.objs.size := Heap.lt_size ho
      have sz : (s.heap.push (nset (!w.params.followText "set-order"))).objs.size = s.heap.objs.size + 1 := Heap.size_push _ _
      have len : items.size = xs.length := by rw [← StrsAre.len_eq txts]; exact Array.length_toList
      refine setS_grows ((Walks.tuple (show A.in1.in1.in1.handled = none by simp [calm]) _ l (by rw [sz]; exact Nat.ne_of_lt (Nat.lt_succ_of_lt below)) items).toS) s.heap.objs.size ?far xs len few (fun i v hv => SS.strs_at txts i v (by rw [Array.getElem?_toList]; exact hv)) items.size 0 _ (Nat.zero_add _).symm ⟨⟨_, Heap.get?_push_size _ rfl, rfl, rfl⟩, isTup.push _⟩ ?start ?stop
      case far =>
        rw [sz]
        intro z
        rcases List.mem_cons.mp z with z | z
        · exact absurd z (Nat.ne_of_lt (Nat.lt_succ_self _))
        · exact absurd (List.mem_singleton.mp z).symm (Nat.ne_of_lt below)
      case start =>
        exact (setS_fresh (P := p) (h := s.heap) w).at fun o e => Heap.get?_push_of_some _ e
      case stop =>
        rintro ⟨h', g', d', tk', os'⟩ mv q
        cases (show g' = s.gens from mv.gens)
        cases (show d' = s.drawn from mv.drawn)
        cases (show os' = s.os from mv.os)
        refine wpAny_pure (show wpAny _ _ (ret Value.none) _ _ _ from wpAny_pure ⟨rfl, h', tk', rfl, by rw [len, List.take_length] at q; exact q, fun b o e => mv.heap b o ?_ (Heap.get?_push_of_some _ (Heap.get?_push_of_some _ e))⟩)
        have hb := Heap.lt_size e
        intro z
        rcases List.mem_cons.mp z with z | z
        · exact absurd z (Nat.ne_of_lt hb)
        · have z' : b ∈ [(s.heap.push (nset (!w.params.followText "set-order"))).objs.size] := z
          rw [List.mem_singleton, sz] at z'
          exact absurd z' (Nat.ne_of_lt (Nat.lt_succ_of_lt hb))
    · rintro (e | fl2) s2 hr2
      · exact hr2
      cases fl2 with
      | ret r =>
        obtain ⟨rfl, h', tk, rfl, q, kp⟩ := hr2
        repeat (any_goals (first | assumption | wp_step))
        exact go _ _ q kp
      | _ => exact hr2.elim
  | _ => exact hr.elim
end
section
variable {P : Program} {w : World} {A : Around} {E : Value → Shared → Prop} {s : Shared} {a : Addr} {xs : List Str}
theorem strs_of_tx {l : List (Int × Value)} (g : ∀ e ∈ l, TxE P w e) : ∀ vs : List Value, vs.Perm (l.map (·.2)) → StrsAre vs (vs.map strOf) := fun vs pm => by
  have all : ∀ v ∈ vs, ∃ z t, v = Value.str z t := fun v hv => by
    obtain ⟨e, he, q⟩ := List.mem_map.mp (pm.mem_iff.mp hv)
    obtain ⟨z, tk, e1, _⟩ := g e he
    exact ⟨z, tk, by rw [← q]; exact e1⟩
  exact strsAre_map vs all
theorem sorted_setS {Q : Value → Shared → Prop} (R : SetS P w s.heap a xs) (calm : A.handled = none) (few : xs.length ≤ 1000)
    (go : ∀ s' pp (out : Array Value) (c : Nat) (ys : List Str), (∀ b o, s.heap.get? b = some o → s'.heap.get? b = some o) → s'.gens = s.gens → s'.os = s.os → s.heap.objs.size ≤ pp → s'.heap.get? pp = some (seqObj "list" out c) → StrsAre out.toList ys → sortedS ys = true → ys.Nodup → (∀ z, z ∈ ys ↔ z ∈ xs) → ys.length ≤ xs.length → Q (.ref pp) s') :
    wpAny (model P w) A (call (.builtin "sorted") [.ref a]) Q E s := by
  obtain ⟨o, es, ep, t, ho, hx, hd, gd, nd, me, sz, ft, rs, ld⟩ := R
  have bd : es.size < scanBound := by unfold scanBound; omega
  refine Calls.call_function_entry kind_sorted plain_sorted entry_sorted (args_sorted1 _) ?_
  unfold Builtin.«sorted»
  refine wpAny_bind (m := checkCount "sorted" 1 1 _) (wpAny_pure (wpAny_bind (collect_set (A := A.in1) calm ⟨o, ho, hx.1, hd⟩ ft bd rs ld fun s1 vs k1 z1 g1 o1 pm => ?_)))
  have many : vs.length = es.size := by rw [pm.length_eq, List.length_map, Array.length_toList]
  have big : 2000 ≤ sizeLine := by rw [sizeLine_eq]; decide
  have txs := strs_of_tx gd vs pm
  have keys : (vs.map strOf).Perm (es.toList.map txOf) := by
    have q := pm.map strOf
    rw [List.map_map] at q
    refine q.trans (List.Perm.of_eq (List.map_congr_left fun e he => ?_))
    obtain ⟨z, tk, e1, _⟩ := gd e he
    show strOf e.2 = txOf e
    unfold txOf
    rw [e1]; rfl
  refine wpAny_bind (wpAny_newList ?_ (by rw [many]; omega))
  have new : (s1.heap.push (seqObj "list" vs.toArray 0)).get? s1.heap.objs.size = some (seqObj "list" vs.toArray 0) := Heap.get?_push_size _ rfl
  refine wpAny_bind (wpAny_holding (wpAny_call_entry slot_list_sort ⟨_, new, rfl⟩ entry_list_sort (list_sort_treeKAny strKind_oneLt new txs.keysOf (fun v1 v2 rest e => keyKind_strs (by rw [← e]; exact txs)) (by rw [many]; omega) fun st' hp hs => ⟨_, rfl, ?_⟩) (args_list_sort _)))
  obtain ⟨ys, y1, y2, y3⟩ := sorted_out_str txs hp hs
  obtain ⟨c, hc⟩ := sortedHeap_at (vs := vs) (out := (arrOf st').map (·.2)) new
  have pk : ys.Perm (es.toList.map txOf) := y2.trans keys
  refine wpAny_pure ⟨_, rfl, go _ s1.heap.objs.size _ c ys (fun b u e => ?_) g1 o1 z1 hc y1 y3 (pk.nodup_iff.mpr nd) (fun z => pk.mem_iff.trans (me z).symm) (by rw [pk.length_eq, List.length_map, Array.length_toList]; exact sz)⟩
  have q := k1 b u e
  have lt := Heap.lt_size q
  show (sortedHeap (s1.heap.push (seqObj "list" vs.toArray 0)) s1.heap.objs.size vs ((arrOf st').map (·.2))).get? b = some u
  rw [sortedHeap_old (Nat.ne_of_lt lt) (by rw [size_push']; exact Nat.lt_succ_of_lt lt)]
  exact Heap.get?_push_of_some _ q
end
/-- sorted(set(t)) -/
def tSortSetT (K : PySem.W.Frag) (ta : TE) : TE := fun σ H Q => ta σ H fun x H1 => ∃ (l : Addr) (xs : List Str), x = .ref l ∧ SqT K H1 l (xs.map V.str) ∧ xs.length ≤ 1000 ∧
  ∀ (ys : List Str) (p : Addr), sortedS ys = true → ys.Nodup → (∀ z, z ∈ ys ↔ z ∈ xs) → ys.length ≤ xs.length → H1 p = none → Q (.ref p) (upd H1 p (.lst (ys.map V.str)))
theorem pe_sortSetT {X : Cx} {a : Expr} {ta : TE} {p p2 q pos : Pos} (hg : Gl X "sorted") (hm : X.mg "sorted" = none) (hg2 : Gl X "set") (hm2 : X.mg "set" = none) (ha : PE X a ta) (hc : X.calm = true := by rfl)
    (na : starEach [a] X.env = (false, eval a X.env) :: starEach [] X.env := by rfl) : PE X (.Call (.Name "sorted" p) [.Call (.Name "set" p2) [a] [] q] [] pos) (tSortSetT X.K ta) := by
  refine ⟨fun pins s σ H Q I h => ?_⟩
  refine Call_ (ld_blt I hg hm (u := .builtin "sorted") (by decide +kernel) (callWith_builtin1 (args_cons (Call_ (ld_blt I hg2 hm2 boot_set ?_)) rfl) rfl rfl))
  refine callWith_type1 (args_cons (thn (ha.run pins s σ H _ I h) ?_) na) na rfl
  rintro v s1 ⟨x, H1, I1, rx, l, xs, rfl, tup, few, out⟩
  cases rx
  obtain ⟨its, rv, isT, _⟩ := I1.tuple tup
  refine args_nil (setS_of_texts (I1.ok.hd hc) isT (by simpa using strsAre_of rv) few fun h' tk R kp => args_nil ?_)
  have I2 : Inv X pins σ H1 { s1 with heap := h', toks := tk } := I1.kept fun b o e => kp b o e
  refine sorted_setS R (I1.ok.hd hc) few fun s' pp its' c ys k g o hp hat hst srt nd me ln => ?_
  have sz : (ys.map V.str).length ≤ sizeLine := by rw [List.length_map, sizeLine_eq]; omega
  have nop : H1 pp = none := I2.hok.fresh hp
  generalize hT : ({ s1 with heap := h', toks := tk } : Shared) = sT at I2 k g o hp
  have J : Inv X pins σ (upd H1 pp (.lst (ys.map V.str))) { sT with heap := s'.heap, gens := s'.gens, drawn := s'.drawn, toks := s'.toks } :=
    I2.call (ch := []) (Un.laid k hp nop) (I2.hok.laid k hp ⟨sz, its'.toList, c, vals_of_strs hst, hat⟩) (by rw [g]; exact I2.bare) (fun _ z => nomatch z)
  have e : s' = { sT with heap := s'.heap, gens := s'.gens, drawn := s'.drawn, toks := s'.toks } := by
    cases s'
    cases sT
    cases o
    rfl
  rw [e]
  exact ⟨.ref pp, _, J, rfl, out ys pp srt nd me ln nop⟩
end My

set_option Elab.async false
set_option linter.all false
set_option maxRecDepth 100000
set_option maxHeartbeats 4000000
/-! ### x op y of own instances within a try -/
namespace My
open PySem PySem.Spec PyProof.Rows L2
def tOpS (C : Addr) (sp : Sp) (E : L2.St → XK) (ta tb : TE) : TE := fun σ H Q => ta σ H fun x H1 => tb σ H1 fun y H2 => rBinO C sp (E σ) x y H2 Q
section
variable {X : Cx} {CX : CXT} {C g : Addr} {fd : FuncData} {ps : List Str} {sp : Sp} {E : L2.St → XK} {k : Nat} {a b : Expr} {ta tb : TE} {pos : Pos}
theorem pe_opS {op : Operator} (c : BinC X.K C g op) (F : FnOk X.prog X.w X.K X.mg X.base CX k g fd ps sp) (hb : Binds X.K fd ps []) (hr : Room k X.A) (hx : ∀ σ, PassesAt CX X σ (E σ)) (h1 : PE X a ta) (h2 : PE X b tb) : PE X (.BinOp a op b pos) (tOpS C sp E ta tb) := by
  refine ⟨fun pins s σ H Q I h => ?_⟩
  refine wpAny_BinOp (binT h1 h2 I h fun v u s2 x y H2 I2 rx ry q => ?_)
  obtain ⟨p, dx, fs, r, dy, gs, rfl, rfl, hp, hr', q⟩ := q
  cases rx
  cases ry
  obtain ⟨ox, od, J⟩ := inst_of I2 hp
  obtain ⟨oy, ody, J'⟩ := inst_of I2 hr'
  obtain ⟨m, hF⟩ := I2.fr
  refine PySem.W.binop_K hF I2.ok.mod.kin J J'.type c.one c.at_ c.fn ?_
  refine thn (run_fnS (us := [.ref p, .ref r]) (vs := [.ref p, .ref r]) F hr hb (hx σ) I2 (.cons rfl (.cons rfl .nil)) q) ?_
  rintro w s' ⟨z, H', I', rz, qz⟩
  exact SlX.cmpback rz ⟨z, H', I', rz, qz⟩
end
end My

set_option Elab.async false
set_option linter.all false
set_option maxRecDepth 100000
set_option maxHeartbeats 4000000
/-! ### x[y], x an instance of an own class that defines __getitem__ -/
namespace My
open PySem PySem.Spec PyProof.Rows L2
section
variable {X : Cx} {CX : CXT} {pins : List (Addr × Obj)} {σ : L2.St} {H : Hp} {s : Shared} {C g a : Addr} {fd : FuncData} {ps : List Str} {sp : Sp} {E : XK} {k : Nat} {A1 : Around}
structure GetC (K : PySem.W.Frag) (C g : Addr) : Prop where
  at_ : PySem.W.findIn K (.ref C) "__getitem__" = some (some (.ref g))
  fn : PySem.W.isFn K (.ref g) = true
  it : PySem.W.fnIn K g = true
def rGetO (C : Addr) (sp : Sp) (E : XK) : R2 := fun x y H Q => ∃ (a dx : Addr) (fs : List (Str × V)), x = .ref a ∧ H a = some (.ins C dx fs) ∧ sp [.ref a, y] H Q E
theorem pe_getO {o i : Expr} {ta tb : TE} {pos : Pos} (c : GetC X.K C g) (F : FnOk X.prog X.w X.K X.mg X.base CX k g fd ps sp) (hb : Binds X.K fd ps []) (hr : Room (k + 1) X.A) (hx : Passes CX X E) (ha : PE X o ta) (hi : PE X i tb)
    (hsl : ∀ v u, subscripted i true v u = runValue (.builtin "lifetime.subscript" ⟨[v, u], []⟩) := by intros; rfl) : PE X (.Subscript o i pos) (tOp (rGetO C sp E) ta tb) := by
  refine ⟨fun pins s σ H Q I h => ?_⟩
  refine Subscript_ (binT ha hi I h fun v u s2 x y H2 I2 rx ry q => ?_)
  obtain ⟨a, dx, fs, rfl, hh, q⟩ := q
  cases rx
  obtain ⟨ox, od, J⟩ := inst_of I2 hh
  obtain ⟨m, hF⟩ := I2.fr
  refine PySem.W.sub_K hF I2.ok.mod.kin J c.at_ c.it c.fn ?_ (hsl _ _)
  exact run_under (us := [.ref a, u]) (vs := [.ref a, y]) F (sub_here hr).in1 hb hx I2 (.cons rfl (.cons ry .nil)) q
end
end My

set_option Elab.async false
set_option linter.all false
set_option maxRecDepth 100000
set_option maxHeartbeats 4000000
/-! ### x[y] in a try, x an instance of an own class that defines __getitem__ -/
namespace My
open PySem PySem.Spec PyProof.Rows L2
section
variable {X : Cx} {CX : CXT} {C g : Addr} {fd : FuncData} {ps : List Str} {sp : Sp} {E : L2.St → XK} {k : Nat} {A1 : Around}
theorem run_underS {pins : List (Addr × Obj)} {σ : L2.St} {H : Hp} {s : Shared} {Q : VK} {us : List Value} {vs : List V} (F : FnOk X.prog X.w X.K X.mg X.base CX k g fd ps sp) (sb : Sub X k A1) (hb : Binds X.K fd ps []) (hx : PassesAt CX X σ (E σ)) (I : L2.Inv X pins σ H s) (r : Vals vs us) (h : sp vs H Q (E σ)) :
    wpAny (model X.prog X.w) A1 (call (.ref g) us) (EP X pins σ Q) X.xe s := by
  have len := F.len _ _ _ _ h
  have bnd := hb s us I.kIn (by rw [List.append_nil, ← r.length]; exact len)
  rw [List.append_nil] at bnd
  refine wpAny_call (codeAny_mono (F.run A1 X.stack s H ⟨us, []⟩ us vs Q (E σ) sb.room (env_under sb I) bnd r h) ?_)
  rintro (e | fl) s' z
  · exact hx pins H s e s' I z
  · cases fl <;> first | exact I.after z | exact z.elim
def tGetS (C : Addr) (sp : Sp) (E : L2.St → XK) (ta tb : TE) : TE := fun σ H Q => ta σ H fun x H1 => tb σ H1 fun y H2 => rGetO C sp (E σ) x y H2 Q
theorem pe_getOS {o i : Expr} {ta tb : TE} {pos : Pos} (c : GetC X.K C g) (F : FnOk X.prog X.w X.K X.mg X.base CX k g fd ps sp) (hb : Binds X.K fd ps []) (hr : Room (k + 1) X.A) (hx : ∀ σ, PassesAt CX X σ (E σ)) (ha : PE X o ta) (hi : PE X i tb)
    (hsl : ∀ v u, subscripted i true v u = runValue (.builtin "lifetime.subscript" ⟨[v, u], []⟩) := by intros; rfl) : PE X (.Subscript o i pos) (tGetS C sp E ta tb) := by
  refine ⟨fun pins s σ H Q I h => ?_⟩
  refine Subscript_ (binT ha hi I h fun v u s2 x y H2 I2 rx ry q => ?_)
  obtain ⟨a, dx, fs, rfl, hh, q⟩ := q
  cases rx
  obtain ⟨ox, od, J⟩ := inst_of I2 hh
  obtain ⟨m, hF⟩ := I2.fr
  refine PySem.W.sub_K hF I2.ok.mod.kin J c.at_ c.it c.fn ?_ (hsl _ _)
  exact run_underS (us := [.ref a, u]) (vs := [.ref a, y]) F (sub_here hr).in1 hb (hx σ) I2 (.cons rfl (.cons ry .nil)) q
end
end My

set_option Elab.async false
set_option linter.all false
set_option maxRecDepth 100000
set_option maxHeartbeats 4000000
/-! ### x[y] = z, x an instance of an own class that defines __setitem__; also in a try -/
namespace My
open PySem PySem.Spec PyProof.Rows L2
structure SetC (K : PySem.W.Frag) (C g : Addr) : Prop where
  at_ : PySem.W.findIn K (.ref C) "__setitem__" = some (some (.ref g))
  fn : PySem.W.isFn K (.ref g) = true
  nq : PySem.W.noSeq K C = true
def gSetO (C : Addr) (sp : Sp) (E : L2.St → XK) (to ti : TE) : TG := fun z σ H Q => to σ H fun x H1 => ti σ H1 fun y H2 => ∃ (a dx : Addr) (fs : List (Str × V)), x = .ref a ∧ H2 a = some (.ins C dx fs) ∧ sp [.ref a, y, z] H2 (fun _ H3 => Q σ H3) (E σ)
section
variable {X : Cx} {CX : CXT} {C g : Addr} {fd : FuncData} {ps : List Str} {sp : Sp} {E : L2.St → XK} {k : Nat}
theorem pg_setO {o i : Expr} {to ti : TE} {pos : Pos} (c : SetC X.K C g) (F : FnOk X.prog X.w X.K X.mg X.base CX k g fd ps sp) (hb : Binds X.K fd ps []) (hr : Room (k + 1) X.A) (hx : ∀ σ, PassesAt CX X σ (E σ)) (ho : PE X o to) (hi : PE X i ti)
    (as_ : ∀ w, assign (.Subscript o i pos) X.env w = (do let b ← holding [w] (eval o X.env); let n ← holding [w, b] (eval i X.env); standAt pos; holding [w, b, n] (setItem b n w); release [w, b, n] []) := by intro _; rfl) : PG X (.Subscript o i pos) (gSetO C sp E to ti) := by
  refine ⟨fun pins s σ H v u Q I r h => ?_⟩
  rw [as_]
  refine wpAny_bind (wpAny_holding (thn (ho.run pins s σ H _ I h) fun ov s1 ⟨x, H1, I1, r1, q1⟩ => ?_))
  refine wpAny_bind (wpAny_holding (thn (hi.run pins s1 σ H1 _ I1 q1) fun iv s2 ⟨y, H2, I2, r2, a, dx, fs, ex, hh, q⟩ => ?_))
  subst ex
  cases r1
  obtain ⟨ox, od, J⟩ := inst_of I2 hh
  obtain ⟨m, hF⟩ := I2.fr
  refine wpAny_bind (wpAny_standAt (wpAny_bind (wpAny_holding (PySem.W.ksp_setItem hF I2.ok.mod.kin J c.nq c.at_ c.fn ?_))))
  refine wpAny_mono (run_underS (A1 := X.A) (us := [.ref a, iv, u]) (vs := [.ref a, y, v]) F (sub_here (hr.mono (Nat.le_succ k))) hb (hx σ) I2 (.cons rfl (.cons r2 (.cons r .nil))) q) (fun w s3 ⟨_, H3, I3, _, q3⟩ => ?_) fun _ _ z => z
  exact wpAny_release ⟨σ, H3, I3, q3⟩
end
end My

set_option Elab.async false
set_option linter.all false
set_option maxRecDepth 100000
set_option maxHeartbeats 4000000
/-! ### list(x), x an instance of an own class whose __iter__ gives iter(l) of a list l, and that has no __len__ -/
namespace My
open PySem PySem.Spec PyProof.Rows L2
structure IterN (K : PySem.W.Frag) (C gi : Addr) : Prop where
  it : PySem.W.findIn K (.ref C) "__iter__" = some (some (.ref gi))
  itF : PySem.W.isFn K (.ref gi) = true
  l0 : PySem.W.findIn K (.ref C) "__len__" = some none
  h0 : PySem.W.findIn K (.ref C) "__length_hint__" = some none
def rListN (K : PySem.W.Frag) (C : Addr) (si : Sp) (E : XK) : List V → Hp → VK → Prop := fun xs H Q => ∃ (a dx : Addr) (fs : List (Str × V)), xs = [.ref a] ∧ H a = some (.ins C dx fs) ∧ ∀ q, H q = none →
  si [.ref a] (upd H q (.lst [])) (fun v H1 => ∃ (l it : Addr) (zs : List V), v = .ref it ∧ H1 a = some (.ins C dx fs) ∧ H1 it = some (ItO l it 0) ∧ SqL K H1 l zs ∧ l ≠ q ∧ l ≠ it ∧ H1 q = some (.lst []) ∧ Q (.ref q) (upd (upd H1 it (junk it)) q (.lst zs))) E
section
variable {X : Cx} {C : Addr} {E : XK}
theorem call_listN {gi : Addr} {fdi : FuncData} {psi : List Str} {si : Sp} {ki : Nat} (c : IterN X.K C gi) (Fi : FnOk X.prog X.w X.K X.mg X.base CX0 ki gi fdi psi si) (bi : Binds X.K fdi psi []) (hr : Room (ki + 2) X.A) (hcalm : X.calm = true := by rfl) : CallR X (.type "list") (rListN X.K C si E) := by
  rintro pins s σ H xs us Q I rv ⟨a, dx, fs, rfl, ha, hq⟩
  obtain ⟨u, rfl, ru⟩ := rv.one
  cases ru
  have sb0 : Sub X ki X.A.in1.in1 := (sub_here hr).in1.in1
  have hh : X.A.handled = none := I.ok.hd hcalm
  refine callType_codes (Q₁ := fun obj s₁ => obj = .ref s.heap.objs.size ∧ s₁ = { s with heap := s.heap.push { cls := .type "list", data := .seq #[] } }) PySem.F.called_list (PySem.F.typeCall_list_1 _) PySem.F.entry_list_init (code_list_new _ ⟨rfl, rfl⟩) ?_
  rintro obj s₁ ⟨rfl, rfl⟩
  have hS : (s.heap.push { cls := .type "list", data := .seq #[] }).get? s.heap.objs.size = some { cls := .type "list", data := .seq #[] } := Heap.get?_push_size _ rfl
  refine ⟨⟨_, hS, rfl⟩, PySem.F.args_list_init_2 _ _, ?_⟩
  have fr : H s.heap.objs.size = none := I.hok.fresh (Nat.le_refl _)
  have todo := hq _ fr
  generalize hqq : s.heap.objs.size = q at *
  have I1 : Inv X pins σ (upd H q (.lst [])) { s with heap := s.heap.push { cls := .type "list", data := .seq #[] } } := by
    rw [← hqq]
    exact I.lnew (its := []) (t' := s.toks) .nil (Nat.zero_le _)
  show wpAny _ _ (Builtin.List.listItems (.ref q) >>= fun old => Builtin.List.listUpdate (.ref q) (fun _ => #[]) >>= fun _ => letGo old.toList.reverse >>= fun _ => Builtin.List.listExtendWith (.ref q) (.ref a) .none) _ _ _
  refine wpAny_bind ?_
  unfold Builtin.List.listItems
  refine wpAny_bind (wpAny_seqItems hS rfl (wpAny_pure ?_))
  refine wpAny_bind (m := updateSeq q fun _ => #[]) (wpAny_updateSeq hS rfl ?_)
  have I2 := I1.lset (f := fun _ => #[]) (its := []) (its' := []) (ys := []) (t' := s.toks) upd_same hS rfl .nil (Nat.zero_le _)
  rw [upd_upd] at I2
  refine wpAny_bind (wpAny_letGo ?_)
  have ha2 : upd H q (.lst []) a = some (.ins C dx fs) := by rw [upd_ne (ne_of_none ha fr)]; exact ha
  obtain ⟨ox, od, J⟩ := inst_of I2 ha2
  obtain ⟨m0, hF⟩ := I2.fr
  have naq : a ≠ q := ne_of_none ha fr
  unfold Builtin.List.listExtendWith
  refine wpAny_bind (J.type.here ?_)
  have h1 : Builtin.List.listSameRef (.ref q) (.ref a) = false := beq_eq_false_iff_ne.mpr naq.symm
  refine PySem.W.KFB.if_not (by rw [h1]; rfl) ?_
  refine wpAny_bind (PySem.W.owit_iter hF I2.ok.mod.kin J c.it c.itF ?_)
  refine thn (run_under0 (us := [.ref a]) (vs := [.ref a]) Fi sb0 bi I2 (.cons rfl .nil) todo) ?_
  rintro w s2 ⟨z, H1, I3, rz, l, it, zs, rfl, ha3, hit, hl, lq, lit, hq3, qend⟩
  cases rz
  unfold PySem.W.OwitIt
  have hT : s2.TypeIs (.ref it) "list_iterator" := ⟨_, itO_get I3 hit, rfl⟩
  refine wpAny_specialOf (name := Str.ofString "__next__") hT slot_listiter_next.lookup ?_
  obtain ⟨ox3, od3, J3⟩ := inst_of I3 ha3
  refine wpAny_bind (wpAny_holding ?_)
  unfold Builtin.List.listLengthHint
  refine wpAny_bind (wpAny_bind (J3.type.here ((PySem.W.looks_findIn I3.kIn c.l0).here ?_)))
  refine PySem.W.KFB.if_not rfl ?_
  refine PySem.W.KFB.if_not rfl ?_
  refine wpAny_bind (wpAny_bind (J3.type.here ((PySem.W.looks_findIn I3.kIn c.h0).here ?_)))
  refine wpAny_pure ?_
  have hne : it ≠ q := ne_of hit hq3 (fun z => by cases z)
  have fin : ∀ s4, Inv X pins σ H1 s4 → codeAny (model X.prog X.w) X.A.in1 (.builtin "list.extend.loop" ⟨[.ref q, .ref it, .none], []⟩) (wants (fun r s₂ => r = .none ∧ EP X pins σ Q (.ref q) s₂) X.xe) s4 := fun s4 I5 =>
    drain (A1 := X.A.in1) (F := upd (upd H1 it (junk it)) q (.lst zs)) (by simp [hh]) lit lq hne (fun s' I6 => ⟨rfl, .ref q, _, I6, rfl, qend⟩) _ 0 H1 s4 rfl (Nat.zero_le _) I5 hit hl (by rw [List.take_zero]; exact hq3) rfl
  refine wpAny_ite_split (fun _ => ?_) (fun _ => wpAny_pure ⟨plainId_quiet PySem.F.plain_extend_loop _, fin s2 I3⟩)
  refine wpAny_bind (wpAny_rule (wpAny_bind ?_))
  obtain ⟨_, its, k4, r4, hl5, e4⟩ := I3.lstM hq3
  cases r4
  refine wpAny_bind (m := updateSeq q (·.push .none)) (wpAny_updateSeq e4 rfl ?_)
  have I5 := I3.lset (f := (·.push Value.none)) (its' := [Value.none]) (ys := [.non]) (t' := s2.toks) hq3 e4 (by simp) (.cons rfl .nil) (by rw [List.length_singleton, sizeLine_eq]; decide)
  obtain ⟨_, its5, k5, r5, hl6, e5⟩ := I5.lstM upd_same
  obtain ⟨u5, rfl, ru5⟩ := r5.one
  refine wpAny_updateSeq (a := q) (f := (·.pop)) e5 rfl ?_ (by show 1 ≤ sizeLine; rw [sizeLine_eq]; decide) (by show 0 ≤ sizeLine + 1; exact Nat.zero_le _)
  have I6 := I5.lset (f := (·.pop)) (its := [u5]) (its' := []) (ys := []) (t' := s2.toks) upd_same e5 (by rfl) .nil (Nat.zero_le _)
  rw [upd_upd, same_upd hq3] at I6
  exact wpAny_pure ⟨plainId_quiet PySem.F.plain_extend_loop _, fin _ I6⟩
end
end My

set_option Elab.async false
set_option linter.all false
set_option maxRecDepth 100000
set_option maxHeartbeats 4000000
namespace My
open PySem L2 NdefX
def top (i : Nat) : Stmt := PySem.Challenge.pw_coretower_k35_rows_of_recipes.main.body.getD i (.Pass ⟨0, 0, 0, 0⟩)
def mtop (i j : Nat) : Stmt := match top i with
  | .ClassDef _ _ _ b _ _ _ _ _ _ _ => b.getD j (.Pass ⟨0, 0, 0, 0⟩)
  | _ => .Pass ⟨0, 0, 0, 0⟩
abbrev s_BadPair_init : Stmt := mtop 4 0
theorem sc_BadPair_init : NScope ["self", "pair", "__class__"] ["self", "pair"] ["__class__"] (defScope s_BadPair_init) := nscope_by (by decide +kernel)
theorem ok_BadPair_init {P : Program} {w : World} {K : PySem.W.Frag} {mg : Str → Option Value} {base : Heap} {CX : CXT} {f cc cda C : Addr} {fd : FuncData} (F : FunX K "__init__" "BadPair.__init__" s_BadPair_init f fd cc cda C) (T : ErrC K C) (G : CodeF K P cda) (hsup : mg "super" = none) (n1 : PySem.W.findIn K (.ref C) "pair" = some none) {Pf : V → Prop} :
    FnOk P w K mg base CX 1 f fd ["self", "pair"] (spErr1 C "pair" Pf) := by
  have F0 := F
  obtain ⟨oc, od, kV, doc, pm, an, ct, osl, hfd, lk, hcd⟩ := F0.ex
  obtain ⟨cl, cld, csl, hcc⟩ := F0.cell
  refine F.ok sc_BadPair_init (fun vs H Q E h => ?_) (fun A outer s H vs Q E hr h => ?_)
  · obtain ⟨a, v, rfl, _⟩ := h
    rfl
  · obtain ⟨a, v, rfl, hp, ha, q⟩ := h
    refine ⟨_, psat_cons (psat_sup T G lk (by rw [hfd]; rfl) hcc hsup rfl rfl rfl rfl rfl rfl rfl (pa_cons pe_str pa_nil) rfl rfl rfl rfl rfl) (pss_one (ps_ost (pv 0) (pv 1))), ?_⟩
    try simp (maxSteps := 1000000) only [tSeq, tIfS, tTest, tOp, tUn, tCB, tCons, tNil, tVar, tC, rI0, rI, rU, rEq, rNe, tRet, tRetN, tAsg, gName, gSub, tBM, tBM0, tNext, tB, tNot, tAnd, tOr, tIf, tCall, tDrop, tBreak, tCont, L2.start, tDGet, sDPut, tTup, tLst, tDNewK, tRevL, rCat, rAppend, rPop, rSetL, tAndV, tOrV, tNotV, tSl, tPart, tNoPart, tM1, gTup, gCons, gNil, cxK, cxnK, List.map_cons, List.map_nil, List.length_cons, List.length_nil, List.replicate, List.cons_append, List.nil_append, List.append_nil, List.set_cons_zero, List.set_cons_succ, List.getElem?_cons_zero, List.getElem?_cons_succ, Option.some.injEq, V.ref.injEq, V.int.injEq, V.str.injEq, V.bl.injEq, V.ty.injEq, exists_eq_left', exists_eq_left, exists_and_left, List.cons.injEq, and_true, true_and, sc_ii, sc_ss, sc_bb, sc_ni, sc_in, sc_is, sc_si, sc_nn, decide_true, decide_false, reduceCtorEq, Bool.false_eq_true, if_true, if_false, ite_true, ite_false, exists_const, eq_self, false_and, and_false, or_false, false_or, exists_false, Evl.rLenS, rSum, wipe, tYes, exists_eq, exists_eq', rIxL, rIxT, rIxS, exists_and_right, gt_iff_lt, not_true_eq_false, not_false_eq_true, Bool.not_true, Bool.not_false, decide_eq_true_eq, Nat.reduceSub, Nat.reduceAdd, List.append_assoc, tChain, tDIn, tDNotIn, sDDel, tAug, ipI, startF, tSupI, tOst]
    exact ⟨ha, by decide, ha, C, T.ox, n1, .inl ⟨ha, q⟩⟩
abbrev s_Pairs_init : Stmt := mtop 19 0
theorem sc_Pairs_init : FnScope ["self", "pairs", "item", "pair"] ["self", "pairs"] (defScope s_Pairs_init) := ⟨rfl, rfl, rfl, by decide +kernel, rfl, by decide +kernel, by decide +kernel⟩
abbrev s_Pairs_contains : Stmt := mtop 19 1
theorem sc_Pairs_contains : FnScope ["self", "x"] ["self", "x"] (defScope s_Pairs_contains) := ⟨rfl, rfl, rfl, by decide +kernel, rfl, by decide +kernel, by decide +kernel⟩
abbrev s_Pairs_len : Stmt := mtop 19 2
theorem sc_Pairs_len : FnScope ["self"] ["self"] (defScope s_Pairs_len) := ⟨rfl, rfl, rfl, by decide +kernel, rfl, by decide +kernel, by decide +kernel⟩
abbrev s_Pairs_iter : Stmt := mtop 19 3
theorem sc_Pairs_iter : FnScope ["self"] ["self"] (defScope s_Pairs_iter) := ⟨rfl, rfl, rfl, by decide +kernel, rfl, by decide +kernel, by decide +kernel⟩
abbrev s_Pairs_and : Stmt := mtop 19 4
theorem sc_Pairs_and : FnScope ["self", "other", "pair"] ["self", "other"] (defScope s_Pairs_and) := ⟨rfl, rfl, rfl, by decide +kernel, rfl, by decide +kernel, by decide +kernel⟩
abbrev s_Pairs_or : Stmt := mtop 19 5
theorem sc_Pairs_or : FnScope ["self", "other"] ["self", "other"] (defScope s_Pairs_or) := ⟨rfl, rfl, rfl, by decide +kernel, rfl, by decide +kernel, by decide +kernel⟩
abbrev s_Pairs_sub : Stmt := mtop 19 6
theorem sc_Pairs_sub : FnScope ["self", "other", "pair"] ["self", "other"] (defScope s_Pairs_sub) := ⟨rfl, rfl, rfl, by decide +kernel, rfl, by decide +kernel, by decide +kernel⟩
abbrev s_Pairs_within : Stmt := mtop 19 7
theorem sc_Pairs_within : FnScope ["self", "other", "pair"] ["self", "other"] (defScope s_Pairs_within) := ⟨rfl, rfl, rfl, by decide +kernel, rfl, by decide +kernel, by decide +kernel⟩
abbrev s_Pairs_between : Stmt := mtop 19 8
theorem sc_Pairs_between : FnScope ["firsts", "seconds", "pair"] ["firsts", "seconds"] (defScope s_Pairs_between) := ⟨rfl, rfl, rfl, by decide +kernel, rfl, by decide +kernel, by decide +kernel⟩
/-! ### pairs of kinds -/
abbrev Pr := Str × Str
def kindsL : List Str := ["read", "acquire", "write", "release", "both"]
def rowP (x : Str) : List Pr := (kindsL.map fun y => (x, y)) ++ (if x = ("write" : Str) ∨ x = ("release" : Str) then [(x, ("return" : Str))] else [])
def pairsL : List Pr := kindsL.flatMap rowP
def pD (p : Pr) : PyData := .tuple [.str p.1, .str p.2]
theorem eqvP (p q : Pr) : PyData.eqv (pD p) (pD q) = decide (p = q) := by
  obtain ⟨a, b⟩ := p
  obtain ⟨c, d⟩ := q
  have e : PyData.eqv (pD (a, b)) (pD (c, d)) = ((a == c) && ((b == d) && true)) := by simp only [pD, PyData.eqv, PyData.eqvAll]
  rw [e, Bool.and_true]
  by_cases h1 : a = c
  · by_cases h2 : b = d
    · simp [h1, h2]
    · simp [h1, h2, beq_eq_false_iff_ne.mpr h2]
  · simp [h1, beq_eq_false_iff_ne.mpr h1]
theorem any_eq {ps : List Pr} {q : Pr} : ((ps.map pD).any fun z => PyData.eqv z (pD q)) = decide (q ∈ ps) := by
  induction ps with
  | nil => simp
  | cons p r ih =>
    rw [List.map_cons, List.any_cons, ih, eqvP]
    by_cases h : p = q
    · simp [h]
    · by_cases h2 : q ∈ r
      · simp [h2]
      · simp [h, h2, Ne.symm h]
/-- what a Pairs of the data ds has -/
def isP (d : PyData) : Bool := (pairsL.map pD).any fun z => PyData.eqv z d
def okStr (z : Str) : Bool := PyData.canLay0 (.str z)
theorem okP {p : Pr} (h : p ∈ pairsL) : SeqAt.shaped (pD p) = true := by
  have : ∀ q ∈ pairsL, SeqAt.shaped (pD q) = true := by decide +kernel
  exact this p h
theorem shapedL {ds : List PyData} (h : ∀ d ∈ ds, SeqAt.shaped d = true ∧ d.depth ≤ 60) : SeqAt.shaped (.list ds) = true ∧ SeqAt.shaped (.tuple ds) = true := by
  have a1 : PyData.canLayAll0 ds = true := by
    induction ds with
    | nil => rfl
    | cons d r ih =>
      have h1 := h d List.mem_cons_self
      show (PyData.canLay0 d && PyData.canLayAll0 r) = true
      rw [SeqAt.canLay_of_shaped h1.1, ih fun x hx => h x (List.mem_cons_of_mem _ hx)]; rfl
  have a2 : PyData.depthAll ds ≤ 60 := by
    clear a1
    induction ds with
    | nil => exact Nat.zero_le _
    | cons d r ih =>
      have h1 := h d List.mem_cons_self
      have h2 := ih fun x hx => h x (List.mem_cons_of_mem _ hx)
      show max d.depth (PyData.depthAll r) ≤ 60
      omega
  have b1 : decide (PyData.depthAll ds + 1 ≤ 64) = true := decide_eq_true (by omega)
  constructor
  · show (PyData.canLayAll0 ds && decide (PyData.depthAll ds + 1 ≤ 64)) = true
    rw [a1, b1]; rfl
  · show (PyData.canLayAll0 ds && decide (PyData.depthAll ds + 1 ≤ 64)) = true
    rw [a1, b1]; rfl
/-- data that may stand in a row -/
def Fit (d : PyData) : Prop := SeqAt.shaped d = true ∧ d.depth ≤ 60
theorem fitP {p : Pr} (h : p ∈ pairsL) : Fit (pD p) := ⟨okP h, by show max 0 (max 0 0) + 1 ≤ 60; decide⟩
theorem fitsP {ps : List Pr} (h : ∀ p ∈ ps, p ∈ pairsL) : ∀ d ∈ ps.map pD, Fit d := fun d hd => by
  obtain ⟨p, hp, rfl⟩ := List.mem_map.mp hd
  exact fitP (h p hp)
def pick (ds : List PyData) : Pr → Bool := fun p => ds.any fun z => PyData.eqv z (pD p)
theorem subP (f : Pr → Bool) : ∀ p ∈ pairsL.filter f, p ∈ pairsL := fun p h => (List.mem_filter.mp h).1
theorem pairs_len : pairsL.length = 27 := by decide +kernel
theorem lenP (f : Pr → Bool) : (pairsL.filter f).length ≤ 27 := by
  rw [← pairs_len]; exact List.length_filter_le _ _
theorem pick_eq {f : Pr → Bool} {p : Pr} (h : p ∈ pairsL) : pick ((pairsL.filter f).map pD) p = f p := by
  unfold pick
  rw [any_eq]
  by_cases e : f p = true
  · rw [e]; exact decide_eq_true (List.mem_filter.mpr ⟨h, e⟩)
  · rw [Bool.not_eq_true] at e
    rw [e]
    exact decide_eq_false fun z => by rw [(List.mem_filter.mp z).2] at e; cases e
theorem filter_same {f g : Pr → Bool} (h : ∀ p ∈ pairsL, f p = g p) : pairsL.filter f = pairsL.filter g := List.filter_congr h
theorem isP_pair {p : Pr} (h : p ∈ pairsL) : isP (pD p) = true := by
  unfold isP
  rw [any_eq]; exact decide_eq_true h
/-- at o a Pairs whose pairs are those of f -/
def PrAt (K : PySem.W.Frag) (PC : Addr) (H : Hp) (o : Addr) (f : Pr → Bool) : Prop := ∃ (dx l : Addr) (vs : List V), H o = some (.ins PC dx [("_pairs", .ref l)]) ∧ H l = some (.lst vs) ∧ DpAll K H vs ((pairsL.filter f).map pD)
/-- .. its list stands at l -/
def PrL (K : PySem.W.Frag) (PC : Addr) (H : Hp) (o l : Addr) (f : Pr → Bool) : Prop := ∃ (dx : Addr) (vs : List V), H o = some (.ins PC dx [("_pairs", .ref l)]) ∧ H l = some (.lst vs) ∧ DpAll K H vs ((pairsL.filter f).map pD)
theorem PrL.at {K : PySem.W.Frag} {PC : Addr} {H : Hp} {o l : Addr} {f : Pr → Bool} (h : PrL K PC H o l f) : PrAt K PC H o f := by
  obtain ⟨dx, vs, a⟩ := h
  exact ⟨dx, l, vs, a⟩
theorem PrAt.kp {K : PySem.W.Frag} {PC : Addr} {H H' : Hp} {o : Addr} {f : Pr → Bool} (h : PrAt K PC H o f) (k : Kp [] H H') : PrAt K PC H' o f := by
  obtain ⟨dx, l, vs, a, b, c⟩ := h
  exact ⟨dx, l, vs, k _ _ not0 a, k _ _ not0 b, dpAllN k noSq0 c⟩
/-- at a a list of the data ds -/
def LsD (K : PySem.W.Frag) (H : Hp) (a : Addr) (ds : List PyData) : Prop := ∃ vs, SqL K H a vs ∧ DpAll K H vs ds
theorem LsD.kp {K : PySem.W.Frag} {H H' : Hp} {a : Addr} {ds : List PyData} (h : LsD K H a ds) (k : Kp [] H H') : LsD K H' a ds := by
  obtain ⟨vs, a, b⟩ := h
  exact ⟨vs, k.ls not0 a, dpAllN k noSq0 b⟩
/-- the tuple of all pairs -/
def PairsK (K : PySem.W.Frag) (T : Addr) : Prop := ∃ xs, ∀ H, SqT K H T xs ∧ DpAll K H xs (pairsL.map pD)
structure PrC (K : PySem.W.Frag) (mg : Str → Option Value) (PC : Addr) : Prop where
  k : mg "Pairs" = some (.ref PC)
  cl : Cls K PC
  n1 : NoAttr K PC "_pairs"
/-- what stands of an own error with one field, and its __init__ -/
structure Er1 (P : Program) (w : World) (K : PySem.W.Frag) (mg : Str → Option Value) (base : Heap) (nm fld : Str) (C f : Addr) (fd : FuncData) (ps : List Str) (Pf : V → Prop) : Prop where
  k : mg nm = some (.ref C)
  ox : OexC K C
  ic : PySem.W.findIn K (.ref C) "__init__" = some (some (.ref f))
  ti : PySem.W.typeIn K (.ref f) = some (.type "function")
  b : Binds K fd ps []
  G : FnOk P w K mg base (L2.CX P w) 1 f fd ps (spErr1 C fld Pf)
structure Bt (K : PySem.W.Frag) (mg : Str → Option Value) (T_PAIRS : Addr) : Prop where
  b_len : mg "len" = none
  b_iter : mg "iter" = none
  b_all : mg "all" = none
  c_PAIRS : mg "PAIRS" = some (.ref T_PAIRS)
  pk : PairsK K T_PAIRS
def spPI (K : PySem.W.Frag) (PC BP : Addr) : Sp := fun vs H Q E => ∃ (o dx a : Addr) (xs : List V) (ds : List PyData), vs = [.ref o, .ref a] ∧ H o = some (.ins PC dx []) ∧ SqAny K H a xs ∧ DpAll K H xs ds ∧ (∀ d ∈ ds, Fit d) ∧ ds.length ≤ 1000 ∧
  (ds.all isP = true → ∀ l H', H l = none → PrL K PC H' o l (pick ds) → Kp [o] H H' → Q .non H') ∧
  (∀ (i : Nat) (v : V) (d : PyData), xs[i]? = some v → ds[i]? = some d → isP d = false → (∀ j e, j < i → ds[j]? = some e → isP e = true) → ∀ (e : Addr) (H' : Hp), H e = none → H' e = some (.xd [("pair", v)]) → Kp [] H H' → E (.ref BP) (some e) H')
section
variable {P : Program} {w : World} {K : PySem.W.Frag} {mg : Str → Option Value} {base : Heap} {T_PAIRS : Addr}
def PIInv (o a : Addr) (H : Hp) (ds : List PyData) (i : Nat) (σ : L2.St) (H' : Hp) : Prop := ∃ c, σ = [some (.ref o), some (.ref a), c, none] ∧ Kp [] H H' ∧ ∀ j e, j < i → ds[j]? = some e → isP e = true
def PICInv (K : PySem.W.Frag) (D : Addr) (H : Hp) (f : Pr → Bool) (i : Nat) (H' : Hp) : Prop := ∃ vs, H' D = some (.lst vs) ∧ DpAll K H' vs (((pairsL.take i).filter f).map pD) ∧ Kp [] H H'
theorem filter_take {α : Type} {f : α → Bool} {xs : List α} {i : Nat} {x : α} (h : xs[i]? = some x) : (xs.take (i + 1)).filter f = (xs.take i).filter f ++ (if f x = true then [x] else []) := by
  have e : xs.take (i + 1) = xs.take i ++ [x] := by rw [List.take_add_one, h]; rfl
  rw [e, List.filter_append]
  by_cases z : f x = true
  · rw [if_pos z, List.filter_cons, if_pos z]; rfl
  · rw [if_neg z, List.filter_cons, if_neg z]; rfl
theorem ok_Pairs_init {f : Addr} {fd : FuncData} {dvs : List V} (F : FunD K "__init__" "Pairs.__init__" (defArgs s_Pairs_init) (defBody s_Pairs_init) (defScope s_Pairs_init) dvs [] f fd) (T : Bt K mg T_PAIRS) {PC BP fB : Addr} {fdB : FuncData} (C : PrC K mg PC) (E_BadPair : Er1 P w K mg base "BadPair" "pair" BP fB fdB ["self", "pair"] (fun _ => True)) :
    FnOk P w K mg base (L2.CX P w) 3 f fd ["self", "pairs"] (spPI K PC BP) := by
  refine F.ok (CX := L2.CX P w) sc_Pairs_init (fun vs H Q E h => ?_) (fun cdv A outer s H vs Q E hr h => ?_)
  · obtain ⟨o, dx, a, xs, ds, rfl, _⟩ := h
    rfl
  · obtain ⟨o, dx, a, xs, ds, rfl, ho, hS, hD, hF, hl, qG, qB⟩ := h
    obtain ⟨zs, hz⟩ := T.pk
    refine ⟨_, (pss_cons (ps_for (passes_of rfl) rfl (pi_seq (pv 1)) (pg_name (i := 2) sc_Pairs_init.nd rfl (Or.inl rfl)) (pss_one (ps_if (pt_cmpR (op_notInT (hu5 hr)) (pv 2) (pe_glob (v := .ref T_PAIRS) rfl T.c_PAIRS rfl) (by rfl)) (pss_one (ps_raise rfl (takes_of rfl rfl rfl rfl) (pmk_oex E_BadPair.ox E_BadPair.ic E_BadPair.ti E_BadPair.G (hr.mono (by decide)) E_BadPair.b .nil passL rfl E_BadPair.k (pa_cons (pv 2) pa_nil)))) pss_nil)))
      (pss_one (ps_fld (pv 0) (pe_lc (own := [("pair", 3)]) (g := (gName 3)) rfl sc_Pairs_init.nd (pi_tup (pe_glob (v := .ref T_PAIRS) rfl T.c_PAIRS rfl)) (blkOk_by (N := ["self", "pairs", "item", "pair"]) (sc := defScope s_Pairs_init) (by decide +kernel)) (fun _ _ _ _ _ => (pg_name (i := 3) sc_Pairs_init.nd rfl (Or.inl rfl))) (fun _ _ _ _ _ => (pts_one (pt_cmpR (r := rInS K false) (op_inS (hu5 hr)) (pv 3) (pv 1) (by rfl)))) (fun _ _ _ _ _ => (pv 3))) rfl))), ?_⟩
    have shL := (shapedL hF).1
    have shT : SeqAt.shaped (.tuple (pairsL.map pD)) = true := (shapedL (fitsP fun p h => h)).2
    try simp (maxSteps := 1000000) only [tSeq, tIfS, tTest, tOp, tUn, tCB, tCons, tNil, tVar, tC, rI0, rI, rU, rEq, rNe, tRet, tRetN, tAsg, gName, gSub, tBM, tBM0, tNext, tB, tNot, tAnd, tOr, tIf, tCall, tDrop, tBreak, tCont, L2.start, tDGet, sDPut, tTup, tLst, tDNewK, tRevL, rCat, rAppend, rPop, rSetL, tAndV, tOrV, tNotV, tSl, tPart, tNoPart, tM1, gTup, gCons, gNil, cxK, cxnK, List.map_cons, List.map_nil, List.length_cons, List.length_nil, List.replicate, List.cons_append, List.nil_append, List.append_nil, List.set_cons_zero, List.set_cons_succ, List.getElem?_cons_zero, List.getElem?_cons_succ, Option.some.injEq, V.ref.injEq, V.int.injEq, V.str.injEq, V.bl.injEq, V.ty.injEq, exists_eq_left', exists_eq_left, exists_and_left, List.cons.injEq, and_true, true_and, sc_ii, sc_ss, sc_bb, sc_ni, sc_in, sc_is, sc_si, sc_nn, decide_true, decide_false, reduceCtorEq, Bool.false_eq_true, if_true, if_false, ite_true, ite_false, exists_const, eq_self, false_and, and_false, or_false, false_or, exists_false, Evl.rLenS, rSum, wipe, tYes, exists_eq, exists_eq', rIxL, rIxT, rIxS, exists_and_right, gt_iff_lt, not_true_eq_false, not_false_eq_true, Bool.not_true, Bool.not_false, decide_eq_true_eq, Nat.reduceSub, Nat.reduceAdd, List.append_assoc, tChain, tDIn, tDNotIn, sDDel, tAug, ipI]
    refine forS (K := K) (a := a) (xs := xs) (PIInv o a H ds) rfl hS ⟨none, rfl, Kp.refl _ _, fun j e hj => absurd hj (by omega)⟩ (fun j σ' H' h => by obtain ⟨_, _, k, _⟩ := h; exact k) ?_ ?_
    · rintro i x σ H1 hx ⟨c, rfl, kp, hg⟩
      obtain ⟨d, ed, hd⟩ := dpGet hD hx
      try simp (maxSteps := 1000000) only [tSeq, tIfS, tTest, tOp, tUn, tCB, tCons, tNil, tVar, tC, rI0, rI, rU, rEq, rNe, tRet, tRetN, tAsg, gName, gSub, tBM, tBM0, tNext, tB, tNot, tAnd, tOr, tIf, tCall, tDrop, tBreak, tCont, L2.start, tDGet, sDPut, tTup, tLst, tDNewK, tRevL, rCat, rAppend, rPop, rSetL, tAndV, tOrV, tNotV, tSl, tPart, tNoPart, tM1, gTup, gCons, gNil, cxK, cxnK, List.map_cons, List.map_nil, List.length_cons, List.length_nil, List.replicate, List.cons_append, List.nil_append, List.append_nil, List.set_cons_zero, List.set_cons_succ, List.getElem?_cons_zero, List.getElem?_cons_succ, Option.some.injEq, V.ref.injEq, V.int.injEq, V.str.injEq, V.bl.injEq, V.ty.injEq, exists_eq_left', exists_eq_left, exists_and_left, List.cons.injEq, and_true, true_and, sc_ii, sc_ss, sc_bb, sc_ni, sc_in, sc_is, sc_si, sc_nn, decide_true, decide_false, reduceCtorEq, Bool.false_eq_true, if_true, if_false, ite_true, ite_false, exists_const, eq_self, false_and, and_false, or_false, false_or, exists_false, Evl.rLenS, rSum, wipe, tYes, exists_eq, exists_eq', rIxL, rIxT, rIxS, exists_and_right, gt_iff_lt, not_true_eq_false, not_false_eq_true, Bool.not_true, Bool.not_false, decide_eq_true_eq, Nat.reduceSub, Nat.reduceAdd, List.append_assoc, tChain, tDIn, tDNotIn, sDDel, tAug, ipI]
      refine ⟨d, _, dpN kp noSq0 hd, .tup (hz H1).1 (hz H1).2, (hF d (List.mem_of_getElem? ed)).1, shT, ?_⟩
      have ei : ((pairsL.map pD).any fun z => PyData.eqv z d) = isP d := rfl
      rw [ei]
      cases hi : isP d with
      | false =>
        try simp (maxSteps := 1000000) only [tSeq, tIfS, tTest, tOp, tUn, tCB, tCons, tNil, tVar, tC, rI0, rI, rU, rEq, rNe, tRet, tRetN, tAsg, gName, gSub, tBM, tBM0, tNext, tB, tNot, tAnd, tOr, tIf, tCall, tDrop, tBreak, tCont, L2.start, tDGet, sDPut, tTup, tLst, tDNewK, tRevL, rCat, rAppend, rPop, rSetL, tAndV, tOrV, tNotV, tSl, tPart, tNoPart, tM1, gTup, gCons, gNil, cxK, cxnK, List.map_cons, List.map_nil, List.length_cons, List.length_nil, List.replicate, List.cons_append, List.nil_append, List.append_nil, List.set_cons_zero, List.set_cons_succ, List.getElem?_cons_zero, List.getElem?_cons_succ, Option.some.injEq, V.ref.injEq, V.int.injEq, V.str.injEq, V.bl.injEq, V.ty.injEq, exists_eq_left', exists_eq_left, exists_and_left, List.cons.injEq, and_true, true_and, sc_ii, sc_ss, sc_bb, sc_ni, sc_in, sc_is, sc_si, sc_nn, decide_true, decide_false, reduceCtorEq, Bool.false_eq_true, if_true, if_false, ite_true, ite_false, exists_const, eq_self, false_and, and_false, or_false, false_or, exists_false, Evl.rLenS, rSum, wipe, tYes, exists_eq, exists_eq', rIxL, rIxT, rIxS, exists_and_right, gt_iff_lt, not_true_eq_false, not_false_eq_true, Bool.not_true, Bool.not_false, decide_eq_true_eq, Nat.reduceSub, Nat.reduceAdd, List.append_assoc, tChain, tDIn, tDNotIn, sDDel, tAug, ipI]
        refine ⟨x, rfl, err1_made (P := fun _ => True) True.intro fun e H' ne he k => ?_⟩
        exact qB i x d hx ed hi hg e H' (kp.free0 ne) he (kp.trans k)
      | true =>
        try simp (maxSteps := 1000000) only [tSeq, tIfS, tTest, tOp, tUn, tCB, tCons, tNil, tVar, tC, rI0, rI, rU, rEq, rNe, tRet, tRetN, tAsg, gName, gSub, tBM, tBM0, tNext, tB, tNot, tAnd, tOr, tIf, tCall, tDrop, tBreak, tCont, L2.start, tDGet, sDPut, tTup, tLst, tDNewK, tRevL, rCat, rAppend, rPop, rSetL, tAndV, tOrV, tNotV, tSl, tPart, tNoPart, tM1, gTup, gCons, gNil, cxK, cxnK, List.map_cons, List.map_nil, List.length_cons, List.length_nil, List.replicate, List.cons_append, List.nil_append, List.append_nil, List.set_cons_zero, List.set_cons_succ, List.getElem?_cons_zero, List.getElem?_cons_succ, Option.some.injEq, V.ref.injEq, V.int.injEq, V.str.injEq, V.bl.injEq, V.ty.injEq, exists_eq_left', exists_eq_left, exists_and_left, List.cons.injEq, and_true, true_and, sc_ii, sc_ss, sc_bb, sc_ni, sc_in, sc_is, sc_si, sc_nn, decide_true, decide_false, reduceCtorEq, Bool.false_eq_true, if_true, if_false, ite_true, ite_false, exists_const, eq_self, false_and, and_false, or_false, false_or, exists_false, Evl.rLenS, rSum, wipe, tYes, exists_eq, exists_eq', rIxL, rIxT, rIxS, exists_and_right, gt_iff_lt, not_true_eq_false, not_false_eq_true, Bool.not_true, Bool.not_false, decide_eq_true_eq, Nat.reduceSub, Nat.reduceAdd, List.append_assoc, tChain, tDIn, tDNotIn, sDDel, tAug, ipI]
        refine ⟨_, rfl, kp, fun j e hj ej => ?_⟩
        by_cases z : j = i
        · subst z; rw [ed] at ej; cases ej; exact hi
        · exact hg j e (by omega) ej
    · rintro σ H1 ⟨c, rfl, kp, hg⟩
      try simp (maxSteps := 1000000) only [tSeq, tIfS, tTest, tOp, tUn, tCB, tCons, tNil, tVar, tC, rI0, rI, rU, rEq, rNe, tRet, tRetN, tAsg, gName, gSub, tBM, tBM0, tNext, tB, tNot, tAnd, tOr, tIf, tCall, tDrop, tBreak, tCont, L2.start, tDGet, sDPut, tTup, tLst, tDNewK, tRevL, rCat, rAppend, rPop, rSetL, tAndV, tOrV, tNotV, tSl, tPart, tNoPart, tM1, gTup, gCons, gNil, cxK, cxnK, List.map_cons, List.map_nil, List.length_cons, List.length_nil, List.replicate, List.cons_append, List.nil_append, List.append_nil, List.set_cons_zero, List.set_cons_succ, List.getElem?_cons_zero, List.getElem?_cons_succ, Option.some.injEq, V.ref.injEq, V.int.injEq, V.str.injEq, V.bl.injEq, V.ty.injEq, exists_eq_left', exists_eq_left, exists_and_left, List.cons.injEq, and_true, true_and, sc_ii, sc_ss, sc_bb, sc_ni, sc_in, sc_is, sc_si, sc_nn, decide_true, decide_false, reduceCtorEq, Bool.false_eq_true, if_true, if_false, ite_true, ite_false, exists_const, eq_self, false_and, and_false, or_false, false_or, exists_false, Evl.rLenS, rSum, wipe, tYes, exists_eq, exists_eq', rIxL, rIxT, rIxS, exists_and_right, gt_iff_lt, not_true_eq_false, not_false_eq_true, Bool.not_true, Bool.not_false, decide_eq_true_eq, Nat.reduceSub, Nat.reduceAdd, List.append_assoc, tChain, tDIn, tDNotIn, sDDel, tAug, ipI]
      have allP : ds.all isP = true := by
        rw [List.all_eq_true]
        intro d hd
        obtain ⟨j, ej⟩ := List.getElem?_of_mem hd
        exact hg j d (by rw [dpLen hD]; exact (List.getElem?_eq_some_iff.mp ej).1) ej
      refine ⟨T_PAIRS, rfl, ⟨_, (hz H1).1⟩, fun D nD => lc_tup (K := K) (a := T_PAIRS) (xs := zs) (PICInv K D H (pick ds)) ⟨[], upd_same, .nil, kp.trans (Kp.new nD)⟩ (fun i H _ _ => (hz H).1) ?_ ?_⟩
      · rintro i x H2 hx ⟨vs, hv, hvs, k2⟩
        obtain ⟨d, ed, hd⟩ := dpGet (hz H2).2 hx
        rw [List.getElem?_map] at ed
        obtain ⟨p, ep, rfl⟩ : ∃ p, pairsL[i]? = some p ∧ pD p = d := by
          cases e : pairsL[i]? with
          | none => rw [e] at ed; cases ed
          | some p => rw [e] at ed; exact ⟨p, rfl, Option.some.inj ed⟩
        have hp : p ∈ pairsL := List.mem_of_getElem? ep
        have hvl : vs.length ≤ 27 := by
          rw [dpLen hvs, List.length_map]
          have h1 := List.length_filter_le (pick ds) (pairsL.take i)
          have h2 : (pairsL.take i).length ≤ pairsL.length := by rw [List.length_take]; omega
          rw [pairs_len] at h2
          omega
        try simp (maxSteps := 1000000) only [tSeq, tIfS, tTest, tOp, tUn, tCB, tCons, tNil, tVar, tC, rI0, rI, rU, rEq, rNe, tRet, tRetN, tAsg, gName, gSub, tBM, tBM0, tNext, tB, tNot, tAnd, tOr, tIf, tCall, tDrop, tBreak, tCont, L2.start, tDGet, sDPut, tTup, tLst, tDNewK, tRevL, rCat, rAppend, rPop, rSetL, tAndV, tOrV, tNotV, tSl, tPart, tNoPart, tM1, gTup, gCons, gNil, cxK, cxnK, List.map_cons, List.map_nil, List.length_cons, List.length_nil, List.replicate, List.cons_append, List.nil_append, List.append_nil, List.set_cons_zero, List.set_cons_succ, List.getElem?_cons_zero, List.getElem?_cons_succ, Option.some.injEq, V.ref.injEq, V.int.injEq, V.str.injEq, V.bl.injEq, V.ty.injEq, exists_eq_left', exists_eq_left, exists_and_left, List.cons.injEq, and_true, true_and, sc_ii, sc_ss, sc_bb, sc_ni, sc_in, sc_is, sc_si, sc_nn, decide_true, decide_false, reduceCtorEq, Bool.false_eq_true, if_true, if_false, ite_true, ite_false, exists_const, eq_self, false_and, and_false, or_false, false_or, exists_false, Evl.rLenS, rSum, wipe, tYes, exists_eq, exists_eq', rIxL, rIxT, rIxS, exists_and_right, gt_iff_lt, not_true_eq_false, not_false_eq_true, Bool.not_true, Bool.not_false, decide_eq_true_eq, Nat.reduceSub, Nat.reduceAdd, List.append_assoc, tChain, tDIn, tDNotIn, sDDel, tAug, ipI]
        refine ⟨pD p, ds, a, xs, rfl, k2.anyN noSq0 hS, dpAllN k2 noSq0 hD, hd, okP hp, shL, ?_⟩
        have epk : (ds.any fun z => PyData.eqv z (pD p)) = pick ds p := rfl
        rw [epk]
        cases hk : pick ds p with
        | true =>
          try simp (maxSteps := 1000000) only [tSeq, tIfS, tTest, tOp, tUn, tCB, tCons, tNil, tVar, tC, rI0, rI, rU, rEq, rNe, tRet, tRetN, tAsg, gName, gSub, tBM, tBM0, tNext, tB, tNot, tAnd, tOr, tIf, tCall, tDrop, tBreak, tCont, L2.start, tDGet, sDPut, tTup, tLst, tDNewK, tRevL, rCat, rAppend, rPop, rSetL, tAndV, tOrV, tNotV, tSl, tPart, tNoPart, tM1, gTup, gCons, gNil, cxK, cxnK, List.map_cons, List.map_nil, List.length_cons, List.length_nil, List.replicate, List.cons_append, List.nil_append, List.append_nil, List.set_cons_zero, List.set_cons_succ, List.getElem?_cons_zero, List.getElem?_cons_succ, Option.some.injEq, V.ref.injEq, V.int.injEq, V.str.injEq, V.bl.injEq, V.ty.injEq, exists_eq_left', exists_eq_left, exists_and_left, List.cons.injEq, and_true, true_and, sc_ii, sc_ss, sc_bb, sc_ni, sc_in, sc_is, sc_si, sc_nn, decide_true, decide_false, reduceCtorEq, Bool.false_eq_true, if_true, if_false, ite_true, ite_false, exists_const, eq_self, false_and, and_false, or_false, false_or, exists_false, Evl.rLenS, rSum, wipe, tYes, exists_eq, exists_eq', rIxL, rIxT, rIxS, exists_and_right, gt_iff_lt, not_true_eq_false, not_false_eq_true, Bool.not_true, Bool.not_false, decide_eq_true_eq, Nat.reduceSub, Nat.reduceAdd, List.append_assoc, tChain, tDIn, tDNotIn, sDDel, tAug, ipI]
          have nw : Kp [D] H2 (upd H2 D (.lst (vs ++ [x]))) := (Kp.refl [D] H2).put (by simp)
          have nt : NoTp H2 [D] := noTp1 hv
          have noL : ∀ l : List Pr, noLsAll (l.map pD) = true := fun l => by
            induction l with
            | nil => rfl
            | cons p r ih => show (noLs (pD p) && noLsAll (r.map pD)) = true; rw [ih]; rfl
          refine ⟨_, hv, smallL (by omega), _, upd_same, ?_, k2.wr (kp.free0 nD)⟩
          rw [filter_take ep, if_pos hk, List.map_append]
          exact dpApp (dpAllT nw nt hvs (noL _)) (.cons (dpT nw nt hd rfl) .nil)
        | false =>
          try simp (maxSteps := 1000000) only [tSeq, tIfS, tTest, tOp, tUn, tCB, tCons, tNil, tVar, tC, rI0, rI, rU, rEq, rNe, tRet, tRetN, tAsg, gName, gSub, tBM, tBM0, tNext, tB, tNot, tAnd, tOr, tIf, tCall, tDrop, tBreak, tCont, L2.start, tDGet, sDPut, tTup, tLst, tDNewK, tRevL, rCat, rAppend, rPop, rSetL, tAndV, tOrV, tNotV, tSl, tPart, tNoPart, tM1, gTup, gCons, gNil, cxK, cxnK, List.map_cons, List.map_nil, List.length_cons, List.length_nil, List.replicate, List.cons_append, List.nil_append, List.append_nil, List.set_cons_zero, List.set_cons_succ, List.getElem?_cons_zero, List.getElem?_cons_succ, Option.some.injEq, V.ref.injEq, V.int.injEq, V.str.injEq, V.bl.injEq, V.ty.injEq, exists_eq_left', exists_eq_left, exists_and_left, List.cons.injEq, and_true, true_and, sc_ii, sc_ss, sc_bb, sc_ni, sc_in, sc_is, sc_si, sc_nn, decide_true, decide_false, reduceCtorEq, Bool.false_eq_true, if_true, if_false, ite_true, ite_false, exists_const, eq_self, false_and, and_false, or_false, false_or, exists_false, Evl.rLenS, rSum, wipe, tYes, exists_eq, exists_eq', rIxL, rIxT, rIxS, exists_and_right, gt_iff_lt, not_true_eq_false, not_false_eq_true, Bool.not_true, Bool.not_false, decide_eq_true_eq, Nat.reduceSub, Nat.reduceAdd, List.append_assoc, tChain, tDIn, tDNotIn, sDDel, tAug, ipI]
          refine ⟨vs, hv, ?_, k2⟩
          rw [filter_take ep, if_neg (by rw [hk]; exact Bool.false_ne_true), List.append_nil]
          exact hvs
      · rintro H2 ⟨vs, hv, hvs, k2⟩
        have hz27 : zs.length = pairsL.length := by
          have := dpLen (hz H2).2
          rw [List.length_map] at this; exact this
        rw [hz27, List.take_length] at hvs
        have ho2 := k2 _ _ not0 ho
        try simp (maxSteps := 1000000) only [tSeq, tIfS, tTest, tOp, tUn, tCB, tCons, tNil, tVar, tC, rI0, rI, rU, rEq, rNe, tRet, tRetN, tAsg, gName, gSub, tBM, tBM0, tNext, tB, tNot, tAnd, tOr, tIf, tCall, tDrop, tBreak, tCont, L2.start, tDGet, sDPut, tTup, tLst, tDNewK, tRevL, rCat, rAppend, rPop, rSetL, tAndV, tOrV, tNotV, tSl, tPart, tNoPart, tM1, gTup, gCons, gNil, cxK, cxnK, List.map_cons, List.map_nil, List.length_cons, List.length_nil, List.replicate, List.cons_append, List.nil_append, List.append_nil, List.set_cons_zero, List.set_cons_succ, List.getElem?_cons_zero, List.getElem?_cons_succ, Option.some.injEq, V.ref.injEq, V.int.injEq, V.str.injEq, V.bl.injEq, V.ty.injEq, exists_eq_left', exists_eq_left, exists_and_left, List.cons.injEq, and_true, true_and, sc_ii, sc_ss, sc_bb, sc_ni, sc_in, sc_is, sc_si, sc_nn, decide_true, decide_false, reduceCtorEq, Bool.false_eq_true, if_true, if_false, ite_true, ite_false, exists_const, eq_self, false_and, and_false, or_false, false_or, exists_false, Evl.rLenS, rSum, wipe, tYes, exists_eq, exists_eq', rIxL, rIxT, rIxS, exists_and_right, gt_iff_lt, not_true_eq_false, not_false_eq_true, Bool.not_true, Bool.not_false, decide_eq_true_eq, Nat.reduceSub, Nat.reduceAdd, List.append_assoc, tChain, tDIn, tDNotIn, sDDel, tAug, ipI]
        refine ⟨PC, dx, [], ho2, C.cl, C.n1, by decide, ?_⟩
        have kO : Kp [o] H (upd H2 o (.ins PC dx (putF "_pairs" (.ref D) []))) := (k2.of0).put (by simp)
        have nD' : D ≠ o := ne_of hv ho2 (fun z => by cases z)
        have kO2 : Kp [o] H2 (upd H2 o (.ins PC dx (putF "_pairs" (.ref D) []))) := (Kp.refl [o] H2).put (by simp)
        refine qG allP D _ (kp.free0 nD) ⟨dx, vs, upd_same, by rw [upd_ne nD']; exact hv, dpAllN kO2 (noSq1 ho2) hvs⟩ kO
def spCont (K : PySem.W.Frag) (PC : Addr) : Sp := fun vs H Q _ => ∃ (o : Addr) (f : Pr → Bool) (v : V) (d : PyData), vs = [.ref o, v] ∧ PrAt K PC H o f ∧ Dp K H v d ∧ SeqAt.shaped d = true ∧ Q (.bl (((pairsL.filter f).map pD).any fun z => PyData.eqv z d)) H
theorem ok_Pairs_contains {f : Addr} {fd : FuncData} (F : Fun K "__contains__" "Pairs.__contains__" s_Pairs_contains f fd) {PC : Addr} (C : PrC K mg PC) : FnOk P w K mg base CX0 1 f fd ["self", "x"] (spCont K PC) := by
  refine F.ok sc_Pairs_contains (fun vs H Q E h => ?_) (fun cdv A outer s H vs Q E hr h => ?_)
  · obtain ⟨o, g, v, d, rfl, _⟩ := h
    rfl
  · obtain ⟨o, g, v, d, rfl, ⟨dx, l, us, ho, hl, hD⟩, hd, sd, q⟩ := h
    refine ⟨_, (pss_one (ps_ret (pe_cmpR (op_inD (hu5 hr)) (pv 1) (pe_fld (pv 0) rfl) (by rfl)))), ?_⟩
    try simp (maxSteps := 1000000) only [tSeq, tIfS, tTest, tOp, tUn, tCB, tCons, tNil, tVar, tC, rI0, rI, rU, rEq, rNe, tRet, tRetN, tAsg, gName, gSub, tBM, tBM0, tNext, tB, tNot, tAnd, tOr, tIf, tCall, tDrop, tBreak, tCont, L2.start, tDGet, sDPut, tTup, tLst, tDNewK, tRevL, rCat, rAppend, rPop, rSetL, tAndV, tOrV, tNotV, tSl, tPart, tNoPart, tM1, gTup, gCons, gNil, cxK, cxnK, List.map_cons, List.map_nil, List.length_cons, List.length_nil, List.replicate, List.cons_append, List.nil_append, List.append_nil, List.set_cons_zero, List.set_cons_succ, List.getElem?_cons_zero, List.getElem?_cons_succ, Option.some.injEq, V.ref.injEq, V.int.injEq, V.str.injEq, V.bl.injEq, V.ty.injEq, exists_eq_left', exists_eq_left, exists_and_left, List.cons.injEq, and_true, true_and, sc_ii, sc_ss, sc_bb, sc_ni, sc_in, sc_is, sc_si, sc_nn, decide_true, decide_false, reduceCtorEq, Bool.false_eq_true, if_true, if_false, ite_true, ite_false, exists_const, eq_self, false_and, and_false, or_false, false_or, exists_false, Evl.rLenS, rSum, wipe, tYes, exists_eq, exists_eq', rIxL, rIxT, rIxS, exists_and_right, gt_iff_lt, not_true_eq_false, not_false_eq_true, Bool.not_true, Bool.not_false, decide_eq_true_eq, Nat.reduceSub, Nat.reduceAdd, List.append_assoc, tChain, tDIn, tDNotIn, sDDel, tAug, ipI]
    exact ⟨.ref o, rfl, o, PC, dx, _, .ref l, rfl, ho, C.cl, C.n1, rfl, d, _, hd, .lst (sq_l hl) hD, sd, (shapedL (fitsP (subP g))).1, q⟩
def spLen (K : PySem.W.Frag) (PC : Addr) : Sp := fun vs H Q _ => ∃ (o : Addr) (f : Pr → Bool), vs = [.ref o] ∧ PrAt K PC H o f ∧ Q (.int (pairsL.filter f).length) H
theorem ok_Pairs_len {f : Addr} {fd : FuncData} (F : Fun K "__len__" "Pairs.__len__" s_Pairs_len f fd) (T : Bt K mg T_PAIRS) {PC : Addr} (C : PrC K mg PC) : FnOk P w K mg base CX0 1 f fd ["self"] (spLen K PC) := by
  refine F.ok sc_Pairs_len (fun vs H Q E h => ?_) (fun cdv A outer s H vs Q E hr h => ?_)
  · obtain ⟨o, g, rfl, _⟩ := h
    rfl
  · obtain ⟨o, g, rfl, ⟨dx, l, us, ho, hl, hD⟩, q⟩ := h
    refine ⟨_, (pss_one (ps_ret (pe_callB (id := "len") (r := Evl.rLenS K) call_len_seq (by rfl) T.b_len PySem.boot_len (pa_cons (pe_fld (pv 0) rfl) pa_nil)))), ?_⟩
    try simp (maxSteps := 1000000) only [tSeq, tIfS, tTest, tOp, tUn, tCB, tCons, tNil, tVar, tC, rI0, rI, rU, rEq, rNe, tRet, tRetN, tAsg, gName, gSub, tBM, tBM0, tNext, tB, tNot, tAnd, tOr, tIf, tCall, tDrop, tBreak, tCont, L2.start, tDGet, sDPut, tTup, tLst, tDNewK, tRevL, rCat, rAppend, rPop, rSetL, tAndV, tOrV, tNotV, tSl, tPart, tNoPart, tM1, gTup, gCons, gNil, cxK, cxnK, List.map_cons, List.map_nil, List.length_cons, List.length_nil, List.replicate, List.cons_append, List.nil_append, List.append_nil, List.set_cons_zero, List.set_cons_succ, List.getElem?_cons_zero, List.getElem?_cons_succ, Option.some.injEq, V.ref.injEq, V.int.injEq, V.str.injEq, V.bl.injEq, V.ty.injEq, exists_eq_left', exists_eq_left, exists_and_left, List.cons.injEq, and_true, true_and, sc_ii, sc_ss, sc_bb, sc_ni, sc_in, sc_is, sc_si, sc_nn, decide_true, decide_false, reduceCtorEq, Bool.false_eq_true, if_true, if_false, ite_true, ite_false, exists_const, eq_self, false_and, and_false, or_false, false_or, exists_false, Evl.rLenS, rSum, wipe, tYes, exists_eq, exists_eq', rIxL, rIxT, rIxS, exists_and_right, gt_iff_lt, not_true_eq_false, not_false_eq_true, Bool.not_true, Bool.not_false, decide_eq_true_eq, Nat.reduceSub, Nat.reduceAdd, List.append_assoc, tChain, tDIn, tDNotIn, sDDel, tAug, ipI]
    refine ⟨.ref o, rfl, o, PC, dx, _, .ref l, rfl, ho, C.cl, C.n1, rfl, l, rfl, us, .inl (sq_l hl), ?_⟩
    rw [dpLen hD, List.length_map]
    exact q
def spIter (PC : Addr) : Sp := fun vs H Q _ => ∃ (o dx l : Addr) (us : List V), vs = [.ref o] ∧ H o = some (.ins PC dx [("_pairs", .ref l)]) ∧ H l = some (.lst us) ∧ ∀ it, H it = none → Q (.ref it) (upd H it (ItO l it 0))
theorem ok_Pairs_iter {f : Addr} {fd : FuncData} (F : Fun K "__iter__" "Pairs.__iter__" s_Pairs_iter f fd) (T : Bt K mg T_PAIRS) {PC : Addr} (C : PrC K mg PC) : FnOk P w K mg base CX0 1 f fd ["self"] (spIter PC) := by
  refine F.ok sc_Pairs_iter (fun vs H Q E h => ?_) (fun cdv A outer s H vs Q E hr h => ?_)
  · obtain ⟨o, dx, l, us, rfl, _⟩ := h
    rfl
  · obtain ⟨o, dx, l, us, rfl, ho, hl, q⟩ := h
    refine ⟨_, (pss_one (ps_ret (pe_callB (id := "iter") (r := rIter K) call_iterL (by rfl) T.b_iter (by decide +kernel) (pa_cons (pe_fld (pv 0) rfl) pa_nil)))), ?_⟩
    try simp (maxSteps := 1000000) only [tSeq, tIfS, tTest, tOp, tUn, tCB, tCons, tNil, tVar, tC, rI0, rI, rU, rEq, rNe, tRet, tRetN, tAsg, gName, gSub, tBM, tBM0, tNext, tB, tNot, tAnd, tOr, tIf, tCall, tDrop, tBreak, tCont, L2.start, tDGet, sDPut, tTup, tLst, tDNewK, tRevL, rCat, rAppend, rPop, rSetL, tAndV, tOrV, tNotV, tSl, tPart, tNoPart, tM1, gTup, gCons, gNil, cxK, cxnK, List.map_cons, List.map_nil, List.length_cons, List.length_nil, List.replicate, List.cons_append, List.nil_append, List.append_nil, List.set_cons_zero, List.set_cons_succ, List.getElem?_cons_zero, List.getElem?_cons_succ, Option.some.injEq, V.ref.injEq, V.int.injEq, V.str.injEq, V.bl.injEq, V.ty.injEq, exists_eq_left', exists_eq_left, exists_and_left, List.cons.injEq, and_true, true_and, sc_ii, sc_ss, sc_bb, sc_ni, sc_in, sc_is, sc_si, sc_nn, decide_true, decide_false, reduceCtorEq, Bool.false_eq_true, if_true, if_false, ite_true, ite_false, exists_const, eq_self, false_and, and_false, or_false, false_or, exists_false, Evl.rLenS, rSum, wipe, tYes, exists_eq, exists_eq', rIxL, rIxT, rIxS, exists_and_right, gt_iff_lt, not_true_eq_false, not_false_eq_true, Bool.not_true, Bool.not_false, decide_eq_true_eq, Nat.reduceSub, Nat.reduceAdd, List.append_assoc, tChain, tDIn, tDNotIn, sDDel, tAug, ipI]
    exact ⟨.ref o, rfl, o, PC, dx, _, .ref l, rfl, ho, C.cl, C.n1, rfl, l, us, rfl, sq_l hl, q⟩
/-! ### new Pairs -/
theorem Kp.one {H H1 H2 : Hp} {o : Addr} (a : Kp [] H H1) (b : Kp [o] H1 H2) (h : H o = none) : Kp [] H H2 := fun c u _ e => b c u (not1 fun z => by rw [z, h] at e; cases e) (a c u not0 e)
theorem PrAt.same {PC : Addr} {H : Hp} {o : Addr} {f g : Pr → Bool} (h : PrAt K PC H o f) (e : ∀ p ∈ pairsL, f p = g p) : PrAt K PC H o g := by
  obtain ⟨dx, l, vs, a, b, c⟩ := h
  rw [filter_same e] at c
  exact ⟨dx, l, vs, a, b, c⟩
theorem pr_makeL {PC BP : Addr} {H2 : Hp} {D : Addr} {ws : List V} {ds : List PyData} {Q : VK} (hD : SqAny K H2 D ws) (hd : DpAll K H2 ws ds) (fit : ∀ d ∈ ds, Fit d) (hl : ds.length ≤ 1000) (all : ∀ d ∈ ds, isP d = true) (q : ∀ o l H', H2 o = none → H2 l = none → PrL K PC H' o l (pick ds) → Kp [] H2 H' → Q (.ref o) H') :
    ∀ x dx, H2 x = none → H2 dx = none → dx ≠ x → spPI K PC BP (.ref x :: ([.ref D] ++ [])) (upd (upd H2 dx (.own x)) x (.ins PC dx [])) (fun v H3 => v = .non ∧ Q (.ref x) H3) E0 := by
  intro x dx nx nd hne
  have k1 : Kp [] H2 (upd H2 dx (.own x)) := Kp.new nd
  have k2 : Kp [] (upd H2 dx (.own x)) (upd (upd H2 dx (.own x)) x (.ins PC dx [])) := Kp.new (by rw [upd_ne hne.symm]; exact nx)
  have k := k1.trans k2
  refine ⟨x, dx, D, ws, ds, rfl, upd_same, k.anyN noSq0 hD, dpAllN k noSq0 hd, fit, hl, fun _ l H' nl hp hk => ⟨rfl, q x l H' nx (k.free0 nl) hp (k.one hk nx)⟩, ?_⟩
  intro i v d _ e hb
  rw [all d (List.mem_of_getElem? e)] at hb
  cases hb
theorem pr_make {PC BP : Addr} {H2 : Hp} {D : Addr} {ws : List V} {ds : List PyData} {Q : VK} (hD : SqAny K H2 D ws) (hd : DpAll K H2 ws ds) (fit : ∀ d ∈ ds, Fit d) (hl : ds.length ≤ 1000) (all : ∀ d ∈ ds, isP d = true) (q : ∀ o H', H2 o = none → PrAt K PC H' o (pick ds) → Kp [] H2 H' → Q (.ref o) H') :
    ∀ x dx, H2 x = none → H2 dx = none → dx ≠ x → spPI K PC BP (.ref x :: ([.ref D] ++ [])) (upd (upd H2 dx (.own x)) x (.ins PC dx [])) (fun v H3 => v = .non ∧ Q (.ref x) H3) E0 :=
  pr_makeL hD hd fit hl all fun o l H' no _ hp hk => q o H' no hp.at hk
def LcD (K : PySem.W.Frag) (D : Addr) (H : Hp) (ps : Nat → List Pr) (i : Nat) (H' : Hp) : Prop := ∃ ws, H' D = some (.lst ws) ∧ DpAll K H' ws ((ps i).map pD) ∧ Kp [] H H'
theorem noLsP : ∀ l : List Pr, noLsAll (l.map pD) = true
  | [] => rfl
  | p :: r => by show (noLs (pD p) && noLsAll (r.map pD)) = true; rw [noLsP r]; rfl
theorem lcD_put {D : Addr} {H H2 : Hp} {ps : Nat → List Pr} {i : Nat} {x : V} {p : Pr} (h : LcD K D H ps i H2) (nD : H D = none) (hx : Dp K H2 x (pD p)) (e : ps (i + 1) = ps i ++ [p]) (hl : (ps i).length ≤ 1000) :
    ∃ acc, H2 D = some (.lst acc) ∧ acc.length < sizeLine ∧ LcD K D H ps (i + 1) (upd H2 D (.lst (acc ++ [x]))) := by
  obtain ⟨ws, hv, hws, k⟩ := h
  have nw : Kp [D] H2 (upd H2 D (.lst (ws ++ [x]))) := (Kp.refl [D] H2).put (by simp)
  have nt : NoTp H2 [D] := noTp1 hv
  refine ⟨ws, hv, smallL (by rw [dpLen hws, List.length_map]; omega), _, upd_same, ?_, k.wr nD⟩
  rw [e, List.map_append]
  exact dpApp (dpAllT nw nt hws (noLsP _)) (.cons (dpT nw nt hx rfl) .nil)
theorem lcD_skip {D : Addr} {H H2 : Hp} {ps : Nat → List Pr} {i : Nat} (h : LcD K D H ps i H2) (e : ps (i + 1) = ps i) : LcD K D H ps (i + 1) H2 := by
  obtain ⟨ws, hv, hws, k⟩ := h
  exact ⟨ws, hv, by rw [e]; exact hws, k⟩
theorem pD_at {ps : List Pr} {i : Nat} {d : PyData} (h : (ps.map pD)[i]? = some d) : ∃ p, ps[i]? = some p ∧ d = pD p := by
  rw [List.getElem?_map] at h
  cases e : ps[i]? with
  | none => rw [e] at h; cases h
  | some p => rw [e] at h; exact ⟨p, rfl, (Option.some.inj h).symm⟩
theorem take_len {α : Type} {f : α → Bool} {xs : List α} {i n : Nat} (h : xs.length ≤ n) : ((xs.take i).filter f).length ≤ n := by
  have h1 := List.length_filter_le f (xs.take i)
  have h2 : (xs.take i).length ≤ xs.length := by rw [List.length_take]; omega
  omega
def spBin (K : PySem.W.Frag) (PC : Addr) (op : Bool → Bool → Bool) : Sp := fun vs H Q _ => ∃ (o1 o2 : Addr) (f1 f2 : Pr → Bool), vs = [.ref o1, .ref o2] ∧ PrAt K PC H o1 f1 ∧ PrAt K PC H o2 f2 ∧ ∀ o H', H o = none → PrAt K PC H' o (fun p => op (f1 p) (f2 p)) → Kp [] H H' → Q (.ref o) H'
theorem pick_filter {f g : Pr → Bool} {p : Pr} (h : p ∈ pairsL) : pick (((pairsL.filter f).filter g).map pD) p = (f p && g p) := by
  rw [show (pairsL.filter f).filter g = pairsL.filter (fun p => f p && g p) by rw [List.filter_filter]; exact List.filter_congr fun x _ => Bool.and_comm _ _]
  exact pick_eq h
structure Bt2 (K : PySem.W.Frag) (mg : Str → Option Value) (T_PAIRS PC fI : Addr) : Prop extends Bt K mg T_PAIRS where
  k_Pairs : mg "Pairs" = some (.ref PC)
  M_Pairs : Mk K PC fI
theorem all_isP {ps : List Pr} (h : ∀ p ∈ ps, p ∈ pairsL) : ∀ d ∈ ps.map pD, isP d = true := fun d hd => by
  obtain ⟨p, hp, rfl⟩ := List.mem_map.mp hd
  exact isP_pair (h p hp)
theorem sub_ff {f g : Pr → Bool} : ∀ p ∈ (pairsL.filter f).filter g, p ∈ pairsL := fun p h => subP f p (List.mem_filter.mp h).1
theorem ok_Pairs_and {f : Addr} {fd : FuncData} (F : Fun K "__and__" "Pairs.__and__" s_Pairs_and f fd) {PC BP fI : Addr} {fdI : FuncData} (T : Bt2 K mg T_PAIRS PC fI) (C : PrC K mg PC) (bI_Pairs : Binds K fdI ["self", "pairs"] []) (G_Pairs_init : FnOk P w K mg base (L2.CX P w) 3 fI fdI ["self", "pairs"] (spPI K PC BP)) :
    FnOk P w K mg base CX0 5 f fd ["self", "other"] (spBin K PC (· && ·)) := by
  refine F.ok sc_Pairs_and (fun vs H Q E h => ?_) (fun cdv A outer s H vs Q E hr h => ?_)
  · obtain ⟨o1, o2, f1, f2, rfl, _⟩ := h
    rfl
  · obtain ⟨o1, o2, f1, f2, rfl, h1, h2, q⟩ := h
    have M_Pairs := T.M_Pairs
    refine ⟨_, (pss_one (ps_ret (pe_make M_Pairs G_Pairs_init (hr.mono (by decide)) rfl C.k bI_Pairs .nil passL (pa_cons (pe_lc (own := [("pair", 2)]) (g := (gName 2)) rfl sc_Pairs_and.nd (pi_list (pe_fld (pv 0) rfl)) (blkOk_by (N := ["self", "other", "pair"]) (sc := defScope s_Pairs_and) (by decide +kernel)) (fun _ _ _ _ _ => (pg_name (i := 2) sc_Pairs_and.nd rfl (Or.inl rfl))) (fun _ _ _ _ _ => (pts_one (pt_cmpR (r := rInD K) (op_inD (hu5 hr)) (pv 2) ((pe_fld (pv 1) rfl) : PE _ _ (tFld K _ "_pairs")) (by rfl)))) (fun _ _ _ _ _ => (pv 2))) pa_nil)))), ?_⟩
    try simp (maxSteps := 1000000) only [tSeq, tIfS, tTest, tOp, tUn, tCB, tCons, tNil, tVar, tC, rI0, rI, rU, rEq, rNe, tRet, tRetN, tAsg, gName, gSub, tBM, tBM0, tNext, tB, tNot, tAnd, tOr, tIf, tCall, tDrop, tBreak, tCont, L2.start, tDGet, sDPut, tTup, tLst, tDNewK, tRevL, rCat, rAppend, rPop, rSetL, tAndV, tOrV, tNotV, tSl, tPart, tNoPart, tM1, gTup, gCons, gNil, cxK, cxnK, List.map_cons, List.map_nil, List.length_cons, List.length_nil, List.replicate, List.cons_append, List.nil_append, List.append_nil, List.set_cons_zero, List.set_cons_succ, List.getElem?_cons_zero, List.getElem?_cons_succ, Option.some.injEq, V.ref.injEq, V.int.injEq, V.str.injEq, V.bl.injEq, V.ty.injEq, exists_eq_left', exists_eq_left, exists_and_left, List.cons.injEq, and_true, true_and, sc_ii, sc_ss, sc_bb, sc_ni, sc_in, sc_is, sc_si, sc_nn, decide_true, decide_false, reduceCtorEq, Bool.false_eq_true, if_true, if_false, ite_true, ite_false, exists_const, eq_self, false_and, and_false, or_false, false_or, exists_false, Evl.rLenS, rSum, wipe, tYes, exists_eq, exists_eq', rIxL, rIxT, rIxS, exists_and_right, gt_iff_lt, not_true_eq_false, not_false_eq_true, Bool.not_true, Bool.not_false, decide_eq_true_eq, Nat.reduceSub, Nat.reduceAdd, List.append_assoc, tChain, tDIn, tDNotIn, sDDel, tAug, ipI, tMake]
    obtain ⟨dx, l, us, ho, hl, hD⟩ := h1
    refine ⟨.ref o1, rfl, o1, PC, dx, _, .ref l, rfl, ho, C.cl, C.n1, rfl, l, rfl, ⟨us, sq_l hl⟩, fun D nD => lc_list (K := K) (a := l) (xs := us) (LcD K D H fun i => ((pairsL.filter f1).take i).filter f2) ⟨[], upd_same, .nil, Kp.new nD⟩ (fun i H' _ h => by obtain ⟨_, _, _, k⟩ := h; exact k.ls not0 (sq_l hl)) ?_ ?_⟩
    · rintro i x H2 hx hh
      have k2 : Kp [] H H2 := by obtain ⟨_, _, _, k⟩ := hh; exact k
      obtain ⟨d, ed, hd⟩ := dpGet (dpAllN k2 noSq0 hD) hx
      obtain ⟨p, ep, rfl⟩ := pD_at ed
      have hp : p ∈ pairsL := subP f1 p (List.mem_of_getElem? ep)
      obtain ⟨dx2, l2, us2, ho2, hl2, hD2⟩ := h2.kp k2
      try simp (maxSteps := 1000000) only [tSeq, tIfS, tTest, tOp, tUn, tCB, tCons, tNil, tVar, tC, rI0, rI, rU, rEq, rNe, tRet, tRetN, tAsg, gName, gSub, tBM, tBM0, tNext, tB, tNot, tAnd, tOr, tIf, tCall, tDrop, tBreak, tCont, L2.start, tDGet, sDPut, tTup, tLst, tDNewK, tRevL, rCat, rAppend, rPop, rSetL, tAndV, tOrV, tNotV, tSl, tPart, tNoPart, tM1, gTup, gCons, gNil, cxK, cxnK, List.map_cons, List.map_nil, List.length_cons, List.length_nil, List.replicate, List.cons_append, List.nil_append, List.append_nil, List.set_cons_zero, List.set_cons_succ, List.getElem?_cons_zero, List.getElem?_cons_succ, Option.some.injEq, V.ref.injEq, V.int.injEq, V.str.injEq, V.bl.injEq, V.ty.injEq, exists_eq_left', exists_eq_left, exists_and_left, List.cons.injEq, and_true, true_and, sc_ii, sc_ss, sc_bb, sc_ni, sc_in, sc_is, sc_si, sc_nn, decide_true, decide_false, reduceCtorEq, Bool.false_eq_true, if_true, if_false, ite_true, ite_false, exists_const, eq_self, false_and, and_false, or_false, false_or, exists_false, Evl.rLenS, rSum, wipe, tYes, exists_eq, exists_eq', rIxL, rIxT, rIxS, exists_and_right, gt_iff_lt, not_true_eq_false, not_false_eq_true, Bool.not_true, Bool.not_false, decide_eq_true_eq, Nat.reduceSub, Nat.reduceAdd, List.append_assoc, tChain, tDIn, tDNotIn, sDDel, tAug, ipI]
      refine ⟨.ref o2, rfl, o2, PC, dx2, _, .ref l2, rfl, ho2, C.cl, C.n1, rfl, pD p, _, hd, .lst (sq_l hl2) hD2, okP hp, (shapedL (fitsP (subP f2))).1, ?_⟩
      have e : (((pairsL.filter f2).map pD).any fun z => PyData.eqv z (pD p)) = f2 p := pick_eq hp
      rw [e]
      cases hk : f2 p with
      | true =>
        try simp (maxSteps := 1000000) only [tSeq, tIfS, tTest, tOp, tUn, tCB, tCons, tNil, tVar, tC, rI0, rI, rU, rEq, rNe, tRet, tRetN, tAsg, gName, gSub, tBM, tBM0, tNext, tB, tNot, tAnd, tOr, tIf, tCall, tDrop, tBreak, tCont, L2.start, tDGet, sDPut, tTup, tLst, tDNewK, tRevL, rCat, rAppend, rPop, rSetL, tAndV, tOrV, tNotV, tSl, tPart, tNoPart, tM1, gTup, gCons, gNil, cxK, cxnK, List.map_cons, List.map_nil, List.length_cons, List.length_nil, List.replicate, List.cons_append, List.nil_append, List.append_nil, List.set_cons_zero, List.set_cons_succ, List.getElem?_cons_zero, List.getElem?_cons_succ, Option.some.injEq, V.ref.injEq, V.int.injEq, V.str.injEq, V.bl.injEq, V.ty.injEq, exists_eq_left', exists_eq_left, exists_and_left, List.cons.injEq, and_true, true_and, sc_ii, sc_ss, sc_bb, sc_ni, sc_in, sc_is, sc_si, sc_nn, decide_true, decide_false, reduceCtorEq, Bool.false_eq_true, if_true, if_false, ite_true, ite_false, exists_const, eq_self, false_and, and_false, or_false, false_or, exists_false, Evl.rLenS, rSum, wipe, tYes, exists_eq, exists_eq', rIxL, rIxT, rIxS, exists_and_right, gt_iff_lt, not_true_eq_false, not_false_eq_true, Bool.not_true, Bool.not_false, decide_eq_true_eq, Nat.reduceSub, Nat.reduceAdd, List.append_assoc, tChain, tDIn, tDNotIn, sDDel, tAug, ipI]
        exact lcD_put hh nD hd (by rw [filter_take ep, if_pos hk]) (take_len (Nat.le_trans (lenP f1) (by decide)))
      | false =>
        try simp (maxSteps := 1000000) only [tSeq, tIfS, tTest, tOp, tUn, tCB, tCons, tNil, tVar, tC, rI0, rI, rU, rEq, rNe, tRet, tRetN, tAsg, gName, gSub, tBM, tBM0, tNext, tB, tNot, tAnd, tOr, tIf, tCall, tDrop, tBreak, tCont, L2.start, tDGet, sDPut, tTup, tLst, tDNewK, tRevL, rCat, rAppend, rPop, rSetL, tAndV, tOrV, tNotV, tSl, tPart, tNoPart, tM1, gTup, gCons, gNil, cxK, cxnK, List.map_cons, List.map_nil, List.length_cons, List.length_nil, List.replicate, List.cons_append, List.nil_append, List.append_nil, List.set_cons_zero, List.set_cons_succ, List.getElem?_cons_zero, List.getElem?_cons_succ, Option.some.injEq, V.ref.injEq, V.int.injEq, V.str.injEq, V.bl.injEq, V.ty.injEq, exists_eq_left', exists_eq_left, exists_and_left, List.cons.injEq, and_true, true_and, sc_ii, sc_ss, sc_bb, sc_ni, sc_in, sc_is, sc_si, sc_nn, decide_true, decide_false, reduceCtorEq, Bool.false_eq_true, if_true, if_false, ite_true, ite_false, exists_const, eq_self, false_and, and_false, or_false, false_or, exists_false, Evl.rLenS, rSum, wipe, tYes, exists_eq, exists_eq', rIxL, rIxT, rIxS, exists_and_right, gt_iff_lt, not_true_eq_false, not_false_eq_true, Bool.not_true, Bool.not_false, decide_eq_true_eq, Nat.reduceSub, Nat.reduceAdd, List.append_assoc, tChain, tDIn, tDNotIn, sDDel, tAug, ipI]
        exact lcD_skip hh (by rw [filter_take ep, if_neg (by rw [hk]; exact Bool.false_ne_true), List.append_nil])
    · rintro H2 ⟨ws, hv, hws, k2⟩
      rw [dpLen hD, List.length_map] at hws
      dsimp only at hws
      rw [List.take_length] at hws
      try simp (maxSteps := 1000000) only [tSeq, tIfS, tTest, tOp, tUn, tCB, tCons, tNil, tVar, tC, rI0, rI, rU, rEq, rNe, tRet, tRetN, tAsg, gName, gSub, tBM, tBM0, tNext, tB, tNot, tAnd, tOr, tIf, tCall, tDrop, tBreak, tCont, L2.start, tDGet, sDPut, tTup, tLst, tDNewK, tRevL, rCat, rAppend, rPop, rSetL, tAndV, tOrV, tNotV, tSl, tPart, tNoPart, tM1, gTup, gCons, gNil, cxK, cxnK, List.map_cons, List.map_nil, List.length_cons, List.length_nil, List.replicate, List.cons_append, List.nil_append, List.append_nil, List.set_cons_zero, List.set_cons_succ, List.getElem?_cons_zero, List.getElem?_cons_succ, Option.some.injEq, V.ref.injEq, V.int.injEq, V.str.injEq, V.bl.injEq, V.ty.injEq, exists_eq_left', exists_eq_left, exists_and_left, List.cons.injEq, and_true, true_and, sc_ii, sc_ss, sc_bb, sc_ni, sc_in, sc_is, sc_si, sc_nn, decide_true, decide_false, reduceCtorEq, Bool.false_eq_true, if_true, if_false, ite_true, ite_false, exists_const, eq_self, false_and, and_false, or_false, false_or, exists_false, Evl.rLenS, rSum, wipe, tYes, exists_eq, exists_eq', rIxL, rIxT, rIxS, exists_and_right, gt_iff_lt, not_true_eq_false, not_false_eq_true, Bool.not_true, Bool.not_false, decide_eq_true_eq, Nat.reduceSub, Nat.reduceAdd, List.append_assoc, tChain, tDIn, tDNotIn, sDDel, tAug, ipI]
      refine pr_make (.inl (sq_l hv)) hws (fitsP sub_ff) (by rw [List.length_map]; exact Nat.le_trans (List.length_filter_le _ _) (Nat.le_trans (lenP f1) (by decide))) (all_isP sub_ff) fun o H' no hp hk => ?_
      exact q o H' (k2.free0 no) (hp.same fun p h => pick_filter h) (k2.trans hk)
theorem ok_Pairs_sub {f : Addr} {fd : FuncData} (F : Fun K "__sub__" "Pairs.__sub__" s_Pairs_sub f fd) {PC BP fI : Addr} {fdI : FuncData} (T : Bt2 K mg T_PAIRS PC fI) (C : PrC K mg PC) (bI_Pairs : Binds K fdI ["self", "pairs"] []) (G_Pairs_init : FnOk P w K mg base (L2.CX P w) 3 fI fdI ["self", "pairs"] (spPI K PC BP)) :
    FnOk P w K mg base CX0 5 f fd ["self", "other"] (spBin K PC (fun x y => x && !y)) := by
  refine F.ok sc_Pairs_sub (fun vs H Q E h => ?_) (fun cdv A outer s H vs Q E hr h => ?_)
  · obtain ⟨o1, o2, f1, f2, rfl, _⟩ := h
    rfl
  · obtain ⟨o1, o2, f1, f2, rfl, h1, h2, q⟩ := h
    have M_Pairs := T.M_Pairs
    refine ⟨_, (pss_one (ps_ret (pe_make M_Pairs G_Pairs_init (hr.mono (by decide)) rfl C.k bI_Pairs .nil passL (pa_cons (pe_lc (own := [("pair", 2)]) (g := (gName 2)) rfl sc_Pairs_sub.nd (pi_list (pe_fld (pv 0) rfl)) (blkOk_by (N := ["self", "other", "pair"]) (sc := defScope s_Pairs_sub) (by decide +kernel)) (fun _ _ _ _ _ => (pg_name (i := 2) sc_Pairs_sub.nd rfl (Or.inl rfl))) (fun _ _ _ _ _ => (pts_one (pt_cmpR (r := rNotInD K) (op_notInD (hu5 hr)) (pv 2) ((pe_fld (pv 1) rfl) : PE _ _ (tFld K _ "_pairs")) (by rfl)))) (fun _ _ _ _ _ => (pv 2))) pa_nil)))), ?_⟩
    try simp (maxSteps := 1000000) only [tSeq, tIfS, tTest, tOp, tUn, tCB, tCons, tNil, tVar, tC, rI0, rI, rU, rEq, rNe, tRet, tRetN, tAsg, gName, gSub, tBM, tBM0, tNext, tB, tNot, tAnd, tOr, tIf, tCall, tDrop, tBreak, tCont, L2.start, tDGet, sDPut, tTup, tLst, tDNewK, tRevL, rCat, rAppend, rPop, rSetL, tAndV, tOrV, tNotV, tSl, tPart, tNoPart, tM1, gTup, gCons, gNil, cxK, cxnK, List.map_cons, List.map_nil, List.length_cons, List.length_nil, List.replicate, List.cons_append, List.nil_append, List.append_nil, List.set_cons_zero, List.set_cons_succ, List.getElem?_cons_zero, List.getElem?_cons_succ, Option.some.injEq, V.ref.injEq, V.int.injEq, V.str.injEq, V.bl.injEq, V.ty.injEq, exists_eq_left', exists_eq_left, exists_and_left, List.cons.injEq, and_true, true_and, sc_ii, sc_ss, sc_bb, sc_ni, sc_in, sc_is, sc_si, sc_nn, decide_true, decide_false, reduceCtorEq, Bool.false_eq_true, if_true, if_false, ite_true, ite_false, exists_const, eq_self, false_and, and_false, or_false, false_or, exists_false, Evl.rLenS, rSum, wipe, tYes, exists_eq, exists_eq', rIxL, rIxT, rIxS, exists_and_right, gt_iff_lt, not_true_eq_false, not_false_eq_true, Bool.not_true, Bool.not_false, decide_eq_true_eq, Nat.reduceSub, Nat.reduceAdd, List.append_assoc, tChain, tDIn, tDNotIn, sDDel, tAug, ipI, tMake]
    obtain ⟨dx, l, us, ho, hl, hD⟩ := h1
    refine ⟨.ref o1, rfl, o1, PC, dx, _, .ref l, rfl, ho, C.cl, C.n1, rfl, l, rfl, ⟨us, sq_l hl⟩, fun D nD => lc_list (K := K) (a := l) (xs := us) (LcD K D H fun i => ((pairsL.filter f1).take i).filter fun p => !f2 p) ⟨[], upd_same, .nil, Kp.new nD⟩ (fun i H' _ h => by obtain ⟨_, _, _, k⟩ := h; exact k.ls not0 (sq_l hl)) ?_ ?_⟩
    · rintro i x H2 hx hh
      have k2 : Kp [] H H2 := by obtain ⟨_, _, _, k⟩ := hh; exact k
      obtain ⟨d, ed, hd⟩ := dpGet (dpAllN k2 noSq0 hD) hx
      obtain ⟨p, ep, rfl⟩ := pD_at ed
      have hp : p ∈ pairsL := subP f1 p (List.mem_of_getElem? ep)
      obtain ⟨dx2, l2, us2, ho2, hl2, hD2⟩ := h2.kp k2
      try simp (maxSteps := 1000000) only [tSeq, tIfS, tTest, tOp, tUn, tCB, tCons, tNil, tVar, tC, rI0, rI, rU, rEq, rNe, tRet, tRetN, tAsg, gName, gSub, tBM, tBM0, tNext, tB, tNot, tAnd, tOr, tIf, tCall, tDrop, tBreak, tCont, L2.start, tDGet, sDPut, tTup, tLst, tDNewK, tRevL, rCat, rAppend, rPop, rSetL, tAndV, tOrV, tNotV, tSl, tPart, tNoPart, tM1, gTup, gCons, gNil, cxK, cxnK, List.map_cons, List.map_nil, List.length_cons, List.length_nil, List.replicate, List.cons_append, List.nil_append, List.append_nil, List.set_cons_zero, List.set_cons_succ, List.getElem?_cons_zero, List.getElem?_cons_succ, Option.some.injEq, V.ref.injEq, V.int.injEq, V.str.injEq, V.bl.injEq, V.ty.injEq, exists_eq_left', exists_eq_left, exists_and_left, List.cons.injEq, and_true, true_and, sc_ii, sc_ss, sc_bb, sc_ni, sc_in, sc_is, sc_si, sc_nn, decide_true, decide_false, reduceCtorEq, Bool.false_eq_true, if_true, if_false, ite_true, ite_false, exists_const, eq_self, false_and, and_false, or_false, false_or, exists_false, Evl.rLenS, rSum, wipe, tYes, exists_eq, exists_eq', rIxL, rIxT, rIxS, exists_and_right, gt_iff_lt, not_true_eq_false, not_false_eq_true, Bool.not_true, Bool.not_false, decide_eq_true_eq, Nat.reduceSub, Nat.reduceAdd, List.append_assoc, tChain, tDIn, tDNotIn, sDDel, tAug, ipI]
      refine ⟨.ref o2, rfl, o2, PC, dx2, _, .ref l2, rfl, ho2, C.cl, C.n1, rfl, pD p, _, hd, .lst (sq_l hl2) hD2, okP hp, (shapedL (fitsP (subP f2))).1, ?_⟩
      have e : (((pairsL.filter f2).map pD).any fun z => PyData.eqv z (pD p)) = f2 p := pick_eq hp
      rw [e]
      cases hk : f2 p with
      | false =>
        try simp (maxSteps := 1000000) only [tSeq, tIfS, tTest, tOp, tUn, tCB, tCons, tNil, tVar, tC, rI0, rI, rU, rEq, rNe, tRet, tRetN, tAsg, gName, gSub, tBM, tBM0, tNext, tB, tNot, tAnd, tOr, tIf, tCall, tDrop, tBreak, tCont, L2.start, tDGet, sDPut, tTup, tLst, tDNewK, tRevL, rCat, rAppend, rPop, rSetL, tAndV, tOrV, tNotV, tSl, tPart, tNoPart, tM1, gTup, gCons, gNil, cxK, cxnK, List.map_cons, List.map_nil, List.length_cons, List.length_nil, List.replicate, List.cons_append, List.nil_append, List.append_nil, List.set_cons_zero, List.set_cons_succ, List.getElem?_cons_zero, List.getElem?_cons_succ, Option.some.injEq, V.ref.injEq, V.int.injEq, V.str.injEq, V.bl.injEq, V.ty.injEq, exists_eq_left', exists_eq_left, exists_and_left, List.cons.injEq, and_true, true_and, sc_ii, sc_ss, sc_bb, sc_ni, sc_in, sc_is, sc_si, sc_nn, decide_true, decide_false, reduceCtorEq, Bool.false_eq_true, if_true, if_false, ite_true, ite_false, exists_const, eq_self, false_and, and_false, or_false, false_or, exists_false, Evl.rLenS, rSum, wipe, tYes, exists_eq, exists_eq', rIxL, rIxT, rIxS, exists_and_right, gt_iff_lt, not_true_eq_false, not_false_eq_true, Bool.not_true, Bool.not_false, decide_eq_true_eq, Nat.reduceSub, Nat.reduceAdd, List.append_assoc, tChain, tDIn, tDNotIn, sDDel, tAug, ipI]
        exact lcD_put hh nD hd (by rw [filter_take ep, if_pos (by rw [hk]; rfl)]) (take_len (Nat.le_trans (lenP f1) (by decide)))
      | true =>
        try simp (maxSteps := 1000000) only [tSeq, tIfS, tTest, tOp, tUn, tCB, tCons, tNil, tVar, tC, rI0, rI, rU, rEq, rNe, tRet, tRetN, tAsg, gName, gSub, tBM, tBM0, tNext, tB, tNot, tAnd, tOr, tIf, tCall, tDrop, tBreak, tCont, L2.start, tDGet, sDPut, tTup, tLst, tDNewK, tRevL, rCat, rAppend, rPop, rSetL, tAndV, tOrV, tNotV, tSl, tPart, tNoPart, tM1, gTup, gCons, gNil, cxK, cxnK, List.map_cons, List.map_nil, List.length_cons, List.length_nil, List.replicate, List.cons_append, List.nil_append, List.append_nil, List.set_cons_zero, List.set_cons_succ, List.getElem?_cons_zero, List.getElem?_cons_succ, Option.some.injEq, V.ref.injEq, V.int.injEq, V.str.injEq, V.bl.injEq, V.ty.injEq, exists_eq_left', exists_eq_left, exists_and_left, List.cons.injEq, and_true, true_and, sc_ii, sc_ss, sc_bb, sc_ni, sc_in, sc_is, sc_si, sc_nn, decide_true, decide_false, reduceCtorEq, Bool.false_eq_true, if_true, if_false, ite_true, ite_false, exists_const, eq_self, false_and, and_false, or_false, false_or, exists_false, Evl.rLenS, rSum, wipe, tYes, exists_eq, exists_eq', rIxL, rIxT, rIxS, exists_and_right, gt_iff_lt, not_true_eq_false, not_false_eq_true, Bool.not_true, Bool.not_false, decide_eq_true_eq, Nat.reduceSub, Nat.reduceAdd, List.append_assoc, tChain, tDIn, tDNotIn, sDDel, tAug, ipI]
        exact lcD_skip hh (by rw [filter_take ep, if_neg (by rw [hk]; exact Bool.false_ne_true), List.append_nil])
    · rintro H2 ⟨ws, hv, hws, k2⟩
      rw [dpLen hD, List.length_map] at hws
      dsimp only at hws
      rw [List.take_length] at hws
      try simp (maxSteps := 1000000) only [tSeq, tIfS, tTest, tOp, tUn, tCB, tCons, tNil, tVar, tC, rI0, rI, rU, rEq, rNe, tRet, tRetN, tAsg, gName, gSub, tBM, tBM0, tNext, tB, tNot, tAnd, tOr, tIf, tCall, tDrop, tBreak, tCont, L2.start, tDGet, sDPut, tTup, tLst, tDNewK, tRevL, rCat, rAppend, rPop, rSetL, tAndV, tOrV, tNotV, tSl, tPart, tNoPart, tM1, gTup, gCons, gNil, cxK, cxnK, List.map_cons, List.map_nil, List.length_cons, List.length_nil, List.replicate, List.cons_append, List.nil_append, List.append_nil, List.set_cons_zero, List.set_cons_succ, List.getElem?_cons_zero, List.getElem?_cons_succ, Option.some.injEq, V.ref.injEq, V.int.injEq, V.str.injEq, V.bl.injEq, V.ty.injEq, exists_eq_left', exists_eq_left, exists_and_left, List.cons.injEq, and_true, true_and, sc_ii, sc_ss, sc_bb, sc_ni, sc_in, sc_is, sc_si, sc_nn, decide_true, decide_false, reduceCtorEq, Bool.false_eq_true, if_true, if_false, ite_true, ite_false, exists_const, eq_self, false_and, and_false, or_false, false_or, exists_false, Evl.rLenS, rSum, wipe, tYes, exists_eq, exists_eq', rIxL, rIxT, rIxS, exists_and_right, gt_iff_lt, not_true_eq_false, not_false_eq_true, Bool.not_true, Bool.not_false, decide_eq_true_eq, Nat.reduceSub, Nat.reduceAdd, List.append_assoc, tChain, tDIn, tDNotIn, sDDel, tAug, ipI]
      refine pr_make (.inl (sq_l hv)) hws (fitsP sub_ff) (by rw [List.length_map]; exact Nat.le_trans (List.length_filter_le _ _) (Nat.le_trans (lenP f1) (by decide))) (all_isP sub_ff) fun o H' no hp hk => ?_
      exact q o H' (k2.free0 no) (hp.same fun p h => pick_filter h) (k2.trans hk)
theorem ok_Pairs_or {f : Addr} {fd : FuncData} (F : Fun K "__or__" "Pairs.__or__" s_Pairs_or f fd) {PC BP fI : Addr} {fdI : FuncData} (T : Bt2 K mg T_PAIRS PC fI) (C : PrC K mg PC) (bI_Pairs : Binds K fdI ["self", "pairs"] []) (G_Pairs_init : FnOk P w K mg base (L2.CX P w) 3 fI fdI ["self", "pairs"] (spPI K PC BP)) :
    FnOk P w K mg base CX0 5 f fd ["self", "other"] (spBin K PC (· || ·)) := by
  refine F.ok sc_Pairs_or (fun vs H Q E h => ?_) (fun cdv A outer s H vs Q E hr h => ?_)
  · obtain ⟨o1, o2, f1, f2, rfl, _⟩ := h
    rfl
  · obtain ⟨o1, o2, f1, f2, rfl, ⟨dx, l, us, ho, hl, hD⟩, ⟨dx2, l2, us2, ho2, hl2, hD2⟩, q⟩ := h
    have M_Pairs := T.M_Pairs
    refine ⟨_, (pss_one (ps_ret (pe_make M_Pairs G_Pairs_init (hr.mono (by decide)) rfl C.k bI_Pairs .nil passL (pa_cons (pe_op op_cat (pe_fld (pv 0) rfl) (pe_fld (pv 1) rfl)) pa_nil)))), ?_⟩
    have n1 := lenP f1
    have n2 := lenP f2
    have z1 := dpLen hD
    have z2 := dpLen hD2
    rw [List.length_map] at z1 z2
    try simp (maxSteps := 1000000) only [tSeq, tIfS, tTest, tOp, tUn, tCB, tCons, tNil, tVar, tC, rI0, rI, rU, rEq, rNe, tRet, tRetN, tAsg, gName, gSub, tBM, tBM0, tNext, tB, tNot, tAnd, tOr, tIf, tCall, tDrop, tBreak, tCont, L2.start, tDGet, sDPut, tTup, tLst, tDNewK, tRevL, rCat, rAppend, rPop, rSetL, tAndV, tOrV, tNotV, tSl, tPart, tNoPart, tM1, gTup, gCons, gNil, cxK, cxnK, List.map_cons, List.map_nil, List.length_cons, List.length_nil, List.replicate, List.cons_append, List.nil_append, List.append_nil, List.set_cons_zero, List.set_cons_succ, List.getElem?_cons_zero, List.getElem?_cons_succ, Option.some.injEq, V.ref.injEq, V.int.injEq, V.str.injEq, V.bl.injEq, V.ty.injEq, exists_eq_left', exists_eq_left, exists_and_left, List.cons.injEq, and_true, true_and, sc_ii, sc_ss, sc_bb, sc_ni, sc_in, sc_is, sc_si, sc_nn, decide_true, decide_false, reduceCtorEq, Bool.false_eq_true, if_true, if_false, ite_true, ite_false, exists_const, eq_self, false_and, and_false, or_false, false_or, exists_false, Evl.rLenS, rSum, wipe, tYes, exists_eq, exists_eq', rIxL, rIxT, rIxS, exists_and_right, gt_iff_lt, not_true_eq_false, not_false_eq_true, Bool.not_true, Bool.not_false, decide_eq_true_eq, Nat.reduceSub, Nat.reduceAdd, List.append_assoc, tChain, tDIn, tDNotIn, sDDel, tAug, ipI, tMake]
    refine ⟨.ref o1, rfl, o1, PC, dx, _, .ref l, rfl, ho, C.cl, C.n1, rfl, .ref o2, rfl, o2, PC, dx2, _, .ref l2, rfl, ho2, C.cl, C.n1, rfl, ?_⟩
    refine ⟨l, rfl, l2, rfl, us, hl, us2, hl2, small (by omega), fun D nD => ?_⟩
    have kn : Kp [] H (upd H D (.lst (us ++ us2))) := Kp.new nD
    have hap : DpAll K (upd H D (.lst (us ++ us2))) (us ++ us2) ((pairsL.filter f1 ++ pairsL.filter f2).map pD) := by
      rw [List.map_append]
      exact dpApp (dpAllN kn noSq0 hD) (dpAllN kn noSq0 hD2)
    have sub2 : ∀ p ∈ pairsL.filter f1 ++ pairsL.filter f2, p ∈ pairsL := fun p h => by
      rcases List.mem_append.mp h with h | h
      · exact subP f1 p h
      · exact subP f2 p h
    refine pr_make (.inl (sq_l upd_same)) hap (fitsP sub2) (by rw [List.length_map, List.length_append]; omega) (all_isP sub2) fun o H' no hp hk => ?_
    refine q o H' (kn.free0 no) (hp.same fun p h => ?_) (kn.trans hk)
    unfold pick
    rw [List.map_append, List.any_append]
    show (pick ((pairsL.filter f1).map pD) p || pick ((pairsL.filter f2).map pD) p) = _
    rw [pick_eq h, pick_eq h]
def spWithin (K : PySem.W.Frag) (PC : Addr) : Sp := fun vs H Q _ => ∃ (o1 o2 : Addr) (f1 f2 : Pr → Bool), vs = [.ref o1, .ref o2] ∧ PrAt K PC H o1 f1 ∧ PrAt K PC H o2 f2 ∧ ∀ H', Kp [] H H' → Q (.bl ((pairsL.filter f1).all f2)) H'
def WiInv (D : Addr) (H : Hp) (f1 f2 : Pr → Bool) (i : Nat) (H' : Hp) : Prop := ∃ bs : List Bool, H' D = some (.lst (bs.map V.bl)) ∧ bs = ((pairsL.filter f1).take i).map f2 ∧ Kp [] H H'
theorem ok_Pairs_within {f : Addr} {fd : FuncData} (F : Fun K "within" "Pairs.within" s_Pairs_within f fd) (T : Bt K mg T_PAIRS) {PC fC : Addr} {fdC : FuncData} (C : PrC K mg PC) (IN_Pairs : InC K PC fC) (b_Pairs_contains : Binds K fdC ["self", "x"] []) (G_Pairs_contains : FnOk P w K mg base CX0 1 fC fdC ["self", "x"] (spCont K PC)) :
    FnOk P w K mg base CX0 2 f fd ["self", "other"] (spWithin K PC) := by
  refine F.ok sc_Pairs_within (fun vs H Q E h => ?_) (fun cdv A outer s H vs Q E hr h => ?_)
  · obtain ⟨o1, o2, f1, f2, rfl, _⟩ := h
    rfl
  · obtain ⟨o1, o2, f1, f2, rfl, ⟨dx, l, us, ho, hl, hD⟩, h2, q⟩ := h
    refine ⟨_, (pss_one (ps_ret (pe_callB (id := "all") (r := rAll K) (cr_all rfl) (by rfl) T.b_all (by decide +kernel) (pa_cons (pe_lc (own := [("pair", 2)]) (g := (gName 2)) (tt := tYes) rfl sc_Pairs_within.nd (pi_list (pe_fld (pv 0) rfl)) (blkOk_by (N := ["self", "other", "pair"]) (sc := defScope s_Pairs_within) (by decide +kernel)) (fun _ _ _ _ _ => (pg_name (i := 2) sc_Pairs_within.nd rfl (Or.inl rfl))) (fun _ _ _ _ _ => pts_nil) (fun _ _ _ _ _ => (pe_cmpR (op_inO IN_Pairs G_Pairs_contains b_Pairs_contains (hr.mono (by decide)) pass0) (pv 2) (pv 1) (by rfl)))) pa_nil)))), ?_⟩
    try simp (maxSteps := 1000000) only [tSeq, tIfS, tTest, tOp, tUn, tCB, tCons, tNil, tVar, tC, rI0, rI, rU, rEq, rNe, tRet, tRetN, tAsg, gName, gSub, tBM, tBM0, tNext, tB, tNot, tAnd, tOr, tIf, tCall, tDrop, tBreak, tCont, L2.start, tDGet, sDPut, tTup, tLst, tDNewK, tRevL, rCat, rAppend, rPop, rSetL, tAndV, tOrV, tNotV, tSl, tPart, tNoPart, tM1, gTup, gCons, gNil, cxK, cxnK, List.map_cons, List.map_nil, List.length_cons, List.length_nil, List.replicate, List.cons_append, List.nil_append, List.append_nil, List.set_cons_zero, List.set_cons_succ, List.getElem?_cons_zero, List.getElem?_cons_succ, Option.some.injEq, V.ref.injEq, V.int.injEq, V.str.injEq, V.bl.injEq, V.ty.injEq, exists_eq_left', exists_eq_left, exists_and_left, List.cons.injEq, and_true, true_and, sc_ii, sc_ss, sc_bb, sc_ni, sc_in, sc_is, sc_si, sc_nn, decide_true, decide_false, reduceCtorEq, Bool.false_eq_true, if_true, if_false, ite_true, ite_false, exists_const, eq_self, false_and, and_false, or_false, false_or, exists_false, Evl.rLenS, rSum, wipe, tYes, exists_eq, exists_eq', rIxL, rIxT, rIxS, exists_and_right, gt_iff_lt, not_true_eq_false, not_false_eq_true, Bool.not_true, Bool.not_false, decide_eq_true_eq, Nat.reduceSub, Nat.reduceAdd, List.append_assoc, tChain, tDIn, tDNotIn, sDDel, tAug, ipI]
    refine ⟨.ref o1, rfl, o1, PC, dx, _, .ref l, rfl, ho, C.cl, C.n1, rfl, l, rfl, ⟨us, sq_l hl⟩, fun D nD => lc_list (K := K) (a := l) (xs := us) (WiInv D H f1 f2) ⟨[], upd_same, rfl, Kp.new nD⟩ (fun i H' _ h => by obtain ⟨_, _, _, k⟩ := h; exact k.ls not0 (sq_l hl)) ?_ ?_⟩
    · rintro i x H2 hx ⟨bs, hb, eb, k2⟩
      obtain ⟨d, ed, hd⟩ := dpGet (dpAllN k2 noSq0 hD) hx
      obtain ⟨p, ep, rfl⟩ := pD_at ed
      have hp : p ∈ pairsL := subP f1 p (List.mem_of_getElem? ep)
      have h22 := h2.kp k2
      obtain ⟨dx2, l2, us2, ho2, hl2, hD2⟩ := h2.kp k2
      try simp (maxSteps := 1000000) only [tSeq, tIfS, tTest, tOp, tUn, tCB, tCons, tNil, tVar, tC, rI0, rI, rU, rEq, rNe, tRet, tRetN, tAsg, gName, gSub, tBM, tBM0, tNext, tB, tNot, tAnd, tOr, tIf, tCall, tDrop, tBreak, tCont, L2.start, tDGet, sDPut, tTup, tLst, tDNewK, tRevL, rCat, rAppend, rPop, rSetL, tAndV, tOrV, tNotV, tSl, tPart, tNoPart, tM1, gTup, gCons, gNil, cxK, cxnK, List.map_cons, List.map_nil, List.length_cons, List.length_nil, List.replicate, List.cons_append, List.nil_append, List.append_nil, List.set_cons_zero, List.set_cons_succ, List.getElem?_cons_zero, List.getElem?_cons_succ, Option.some.injEq, V.ref.injEq, V.int.injEq, V.str.injEq, V.bl.injEq, V.ty.injEq, exists_eq_left', exists_eq_left, exists_and_left, List.cons.injEq, and_true, true_and, sc_ii, sc_ss, sc_bb, sc_ni, sc_in, sc_is, sc_si, sc_nn, decide_true, decide_false, reduceCtorEq, Bool.false_eq_true, if_true, if_false, ite_true, ite_false, exists_const, eq_self, false_and, and_false, or_false, false_or, exists_false, Evl.rLenS, rSum, wipe, tYes, exists_eq, exists_eq', rIxL, rIxT, rIxS, exists_and_right, gt_iff_lt, not_true_eq_false, not_false_eq_true, Bool.not_true, Bool.not_false, decide_eq_true_eq, Nat.reduceSub, Nat.reduceAdd, List.append_assoc, tChain, tDIn, tDNotIn, sDDel, tAug, ipI, rInO]
      refine ⟨⟨dx2, _, ho2⟩, o2, f2, x, pD p, rfl, h22, hd, okP hp, _, rfl, ?_⟩
      have e : (((pairsL.filter f2).map pD).any fun z => PyData.eqv z (pD p)) = f2 p := pick_eq hp
      rw [e]
      have bl : bs.length ≤ 27 := by
        rw [eb, List.length_map, List.length_take]
        have := lenP f1
        omega
      refine ⟨_, hb, by rw [List.length_map]; exact smallL (by omega), bs ++ [f2 p], ?_, ?_, k2.wr nD⟩
      · rw [upd_same, List.map_append]; rfl
      · rw [List.take_add_one, ep, List.map_append, eb]; rfl
    · rintro H2 ⟨bs, hb, eb, k2⟩
      rw [dpLen hD, List.length_map, List.take_length] at eb
      refine ⟨D, bs, rfl, sq_l hb, ?_⟩
      have e : bs.all id = (pairsL.filter f1).all f2 := by rw [eb, List.all_map]; rfl
      rw [e]
      exact q _ k2
def inW (zs : List Str) (x : Str) : Bool := decide (x ∈ zs)
def spBetween (K : PySem.W.Frag) (PC : Addr) : Sp := fun vs H Q _ => ∃ (a1 a2 : Addr) (z1 z2 : List Str), vs = [.ref a1, .ref a2] ∧ SqT K H a1 (z1.map V.str) ∧ SqT K H a2 (z2.map V.str) ∧ ∀ o H', H o = none → PrAt K PC H' o (fun p => inW z1 p.1 && inW z2 p.2) → Kp [] H H' → Q (.ref o) H'
theorem in_strs {zs : List Str} {x : Str} : inV (.str x) (zs.map V.str) = inW zs x := by
  unfold inV inW
  rw [List.any_map]
  have e : ((fun y => eqV y (V.str x)) ∘ V.str) = fun y => y == x := by funext y; rfl
  rw [e]
  by_cases h : x ∈ zs
  · rw [decide_eq_true h]
    exact List.any_eq_true.mpr ⟨x, h, beq_self_eq_true x⟩
  · rw [decide_eq_false h]
    refine Bool.eq_false_iff.mpr fun z => ?_
    obtain ⟨y, hy, e⟩ := List.any_eq_true.mp z
    exact h (eq_of_beq e ▸ hy)
theorem flat_map (zs : List Str) : (zs.map V.str).all flatV = true := by
  rw [List.all_map]
  exact List.all_eq_true.mpr fun _ _ => rfl
theorem dpPair {H : Hp} {v : V} {p : Pr} (h : Dp K H v (pD p)) : ∃ t, v = .ref t ∧ SqT K H t [.str p.1, .str p.2] := by
  cases h with
  | tup e a =>
    cases a with
    | cons a1 a =>
      cases a with
      | cons a2 a =>
        cases a
        cases a1
        cases a2
        exact ⟨_, rfl, e⟩
theorem ok_Pairs_between {f : Addr} {fd : FuncData} (F : Fun K "between" "Pairs.between" s_Pairs_between f fd) {PC BP fI : Addr} {fdI : FuncData} (T : Bt2 K mg T_PAIRS PC fI) (C : PrC K mg PC) (bI_Pairs : Binds K fdI ["self", "pairs"] []) (G_Pairs_init : FnOk P w K mg base (L2.CX P w) 3 fI fdI ["self", "pairs"] (spPI K PC BP)) :
    FnOk P w K mg base CX0 5 f fd ["firsts", "seconds"] (spBetween K PC) := by
  refine F.ok sc_Pairs_between (fun vs H Q E h => ?_) (fun cdv A outer s H vs Q E hr h => ?_)
  · obtain ⟨o1, o2, f1, f2, rfl, _⟩ := h
    rfl
  · obtain ⟨a1, a2, z1, z2, rfl, h1, h2, q⟩ := h
    have M_Pairs := T.M_Pairs
    obtain ⟨zs, hz⟩ := T.pk
    refine ⟨_, (pss_one (ps_ret (pe_make M_Pairs G_Pairs_init (hr.mono (by decide)) rfl C.k bI_Pairs .nil passL (pa_cons (pe_lc (own := [("pair", 2)]) (g := (gName 2)) rfl sc_Pairs_between.nd (pi_tup (pe_glob (v := .ref T_PAIRS) rfl T.c_PAIRS rfl)) (blkOk_by (N := ["firsts", "seconds", "pair"]) (sc := defScope s_Pairs_between) (by decide +kernel)) (fun _ _ _ _ _ => (pg_name (i := 2) sc_Pairs_between.nd rfl (Or.inl rfl))) (fun _ _ _ _ _ => (pts_one (PW.pt (pw_and (pt_cmpR (r := rIn K false) op_in_seq (pe_ix (r := rIxT K) ix_tup (pv 2) pe_int (fun _ _ => rfl)) (pv 0) (by rfl)) (pw_and1 (pt_cmpR (r := rIn K false) op_in_seq (pe_ix (r := rIxT K) ix_tup (pv 2) pe_int (fun _ _ => rfl)) (pv 1) (by rfl))))))) (fun _ _ _ _ _ => (pv 2))) pa_nil)))), ?_⟩
    try simp (maxSteps := 1000000) only [tSeq, tIfS, tTest, tOp, tUn, tCB, tCons, tNil, tVar, tC, rI0, rI, rU, rEq, rNe, tRet, tRetN, tAsg, gName, gSub, tBM, tBM0, tNext, tB, tNot, tAnd, tOr, tIf, tCall, tDrop, tBreak, tCont, L2.start, tDGet, sDPut, tTup, tLst, tDNewK, tRevL, rCat, rAppend, rPop, rSetL, tAndV, tOrV, tNotV, tSl, tPart, tNoPart, tM1, gTup, gCons, gNil, cxK, cxnK, List.map_cons, List.map_nil, List.length_cons, List.length_nil, List.replicate, List.cons_append, List.nil_append, List.append_nil, List.set_cons_zero, List.set_cons_succ, List.getElem?_cons_zero, List.getElem?_cons_succ, Option.some.injEq, V.ref.injEq, V.int.injEq, V.str.injEq, V.bl.injEq, V.ty.injEq, exists_eq_left', exists_eq_left, exists_and_left, List.cons.injEq, and_true, true_and, sc_ii, sc_ss, sc_bb, sc_ni, sc_in, sc_is, sc_si, sc_nn, decide_true, decide_false, reduceCtorEq, Bool.false_eq_true, if_true, if_false, ite_true, ite_false, exists_const, eq_self, false_and, and_false, or_false, false_or, exists_false, Evl.rLenS, rSum, wipe, tYes, exists_eq, exists_eq', rIxL, rIxT, rIxS, exists_and_right, gt_iff_lt, not_true_eq_false, not_false_eq_true, Bool.not_true, Bool.not_false, decide_eq_true_eq, Nat.reduceSub, Nat.reduceAdd, List.append_assoc, tChain, tDIn, tDNotIn, sDDel, tAug, ipI, tMake]
    refine ⟨T_PAIRS, rfl, ⟨_, (hz H).1⟩, fun D nD => lc_tup (K := K) (a := T_PAIRS) (xs := zs) (LcD K D H fun i => (pairsL.take i).filter fun p => inW z1 p.1 && inW z2 p.2) ⟨[], upd_same, .nil, Kp.new nD⟩ (fun i H' _ h => (hz H').1) ?_ ?_⟩
    · rintro i x H2 hx hh
      have k2 : Kp [] H H2 := by obtain ⟨_, _, _, k⟩ := hh; exact k
      obtain ⟨d, ed, hd⟩ := dpGet (hz H2).2 hx
      obtain ⟨p, ep, rfl⟩ := pD_at ed
      have hp : p ∈ pairsL := List.mem_of_getElem? ep
      obtain ⟨t, rfl, ht⟩ := dpPair hd
      have h12 := k2.tp not0 h1
      have h22 := k2.tp not0 h2
      try simp (maxSteps := 1000000) only [tSeq, tIfS, tTest, tOp, tUn, tCB, tCons, tNil, tVar, tC, rI0, rI, rU, rEq, rNe, tRet, tRetN, tAsg, gName, gSub, tBM, tBM0, tNext, tB, tNot, tAnd, tOr, tIf, tCall, tDrop, tBreak, tCont, L2.start, tDGet, sDPut, tTup, tLst, tDNewK, tRevL, rCat, rAppend, rPop, rSetL, tAndV, tOrV, tNotV, tSl, tPart, tNoPart, tM1, gTup, gCons, gNil, cxK, cxnK, List.map_cons, List.map_nil, List.length_cons, List.length_nil, List.replicate, List.cons_append, List.nil_append, List.append_nil, List.set_cons_zero, List.set_cons_succ, List.getElem?_cons_zero, List.getElem?_cons_succ, Option.some.injEq, V.ref.injEq, V.int.injEq, V.str.injEq, V.bl.injEq, V.ty.injEq, exists_eq_left', exists_eq_left, exists_and_left, List.cons.injEq, and_true, true_and, sc_ii, sc_ss, sc_bb, sc_ni, sc_in, sc_is, sc_si, sc_nn, decide_true, decide_false, reduceCtorEq, Bool.false_eq_true, if_true, if_false, ite_true, ite_false, exists_const, eq_self, false_and, and_false, or_false, false_or, exists_false, Evl.rLenS, rSum, wipe, tYes, exists_eq, exists_eq', rIxL, rIxT, rIxS, exists_and_right, gt_iff_lt, not_true_eq_false, not_false_eq_true, Bool.not_true, Bool.not_false, decide_eq_true_eq, Nat.reduceSub, Nat.reduceAdd, List.append_assoc, tChain, tDIn, tDNotIn, sDDel, tAug, ipI]
      refine ⟨_, ht, _, rfl, a1, _, rfl, .inr h12, rfl, flat_map _, _, rfl, ?_⟩
      rw [if_neg Bool.false_ne_true, in_strs]
      have skip : (inW z1 p.1 && inW z2 p.2) = false → LcD K D H (fun i => (pairsL.take i).filter fun p => inW z1 p.1 && inW z2 p.2) (i + 1) H2 := fun e => lcD_skip hh (by rw [filter_take ep, if_neg (by rw [e]; exact Bool.false_ne_true), List.append_nil])
      cases e1 : inW z1 p.1 with
      | false =>
        try simp (maxSteps := 1000000) only [tSeq, tIfS, tTest, tOp, tUn, tCB, tCons, tNil, tVar, tC, rI0, rI, rU, rEq, rNe, tRet, tRetN, tAsg, gName, gSub, tBM, tBM0, tNext, tB, tNot, tAnd, tOr, tIf, tCall, tDrop, tBreak, tCont, L2.start, tDGet, sDPut, tTup, tLst, tDNewK, tRevL, rCat, rAppend, rPop, rSetL, tAndV, tOrV, tNotV, tSl, tPart, tNoPart, tM1, gTup, gCons, gNil, cxK, cxnK, List.map_cons, List.map_nil, List.length_cons, List.length_nil, List.replicate, List.cons_append, List.nil_append, List.append_nil, List.set_cons_zero, List.set_cons_succ, List.getElem?_cons_zero, List.getElem?_cons_succ, Option.some.injEq, V.ref.injEq, V.int.injEq, V.str.injEq, V.bl.injEq, V.ty.injEq, exists_eq_left', exists_eq_left, exists_and_left, List.cons.injEq, and_true, true_and, sc_ii, sc_ss, sc_bb, sc_ni, sc_in, sc_is, sc_si, sc_nn, decide_true, decide_false, reduceCtorEq, Bool.false_eq_true, if_true, if_false, ite_true, ite_false, exists_const, eq_self, false_and, and_false, or_false, false_or, exists_false, Evl.rLenS, rSum, wipe, tYes, exists_eq, exists_eq', rIxL, rIxT, rIxS, exists_and_right, gt_iff_lt, not_true_eq_false, not_false_eq_true, Bool.not_true, Bool.not_false, decide_eq_true_eq, Nat.reduceSub, Nat.reduceAdd, List.append_assoc, tChain, tDIn, tDNotIn, sDDel, tAug, ipI]
        exact skip (by rw [e1]; rfl)
      | true =>
        try simp (maxSteps := 1000000) only [tSeq, tIfS, tTest, tOp, tUn, tCB, tCons, tNil, tVar, tC, rI0, rI, rU, rEq, rNe, tRet, tRetN, tAsg, gName, gSub, tBM, tBM0, tNext, tB, tNot, tAnd, tOr, tIf, tCall, tDrop, tBreak, tCont, L2.start, tDGet, sDPut, tTup, tLst, tDNewK, tRevL, rCat, rAppend, rPop, rSetL, tAndV, tOrV, tNotV, tSl, tPart, tNoPart, tM1, gTup, gCons, gNil, cxK, cxnK, List.map_cons, List.map_nil, List.length_cons, List.length_nil, List.replicate, List.cons_append, List.nil_append, List.append_nil, List.set_cons_zero, List.set_cons_succ, List.getElem?_cons_zero, List.getElem?_cons_succ, Option.some.injEq, V.ref.injEq, V.int.injEq, V.str.injEq, V.bl.injEq, V.ty.injEq, exists_eq_left', exists_eq_left, exists_and_left, List.cons.injEq, and_true, true_and, sc_ii, sc_ss, sc_bb, sc_ni, sc_in, sc_is, sc_si, sc_nn, decide_true, decide_false, reduceCtorEq, Bool.false_eq_true, if_true, if_false, ite_true, ite_false, exists_const, eq_self, false_and, and_false, or_false, false_or, exists_false, Evl.rLenS, rSum, wipe, tYes, exists_eq, exists_eq', rIxL, rIxT, rIxS, exists_and_right, gt_iff_lt, not_true_eq_false, not_false_eq_true, Bool.not_true, Bool.not_false, decide_eq_true_eq, Nat.reduceSub, Nat.reduceAdd, List.append_assoc, tChain, tDIn, tDNotIn, sDDel, tAug, ipI]
        refine ⟨_, ht, _, rfl, a2, _, rfl, .inr h22, rfl, flat_map _, _, rfl, ?_⟩
        rw [if_neg Bool.false_ne_true, in_strs]
        cases e2 : inW z2 p.2 with
        | false =>
          try simp (maxSteps := 1000000) only [tSeq, tIfS, tTest, tOp, tUn, tCB, tCons, tNil, tVar, tC, rI0, rI, rU, rEq, rNe, tRet, tRetN, tAsg, gName, gSub, tBM, tBM0, tNext, tB, tNot, tAnd, tOr, tIf, tCall, tDrop, tBreak, tCont, L2.start, tDGet, sDPut, tTup, tLst, tDNewK, tRevL, rCat, rAppend, rPop, rSetL, tAndV, tOrV, tNotV, tSl, tPart, tNoPart, tM1, gTup, gCons, gNil, cxK, cxnK, List.map_cons, List.map_nil, List.length_cons, List.length_nil, List.replicate, List.cons_append, List.nil_append, List.append_nil, List.set_cons_zero, List.set_cons_succ, List.getElem?_cons_zero, List.getElem?_cons_succ, Option.some.injEq, V.ref.injEq, V.int.injEq, V.str.injEq, V.bl.injEq, V.ty.injEq, exists_eq_left', exists_eq_left, exists_and_left, List.cons.injEq, and_true, true_and, sc_ii, sc_ss, sc_bb, sc_ni, sc_in, sc_is, sc_si, sc_nn, decide_true, decide_false, reduceCtorEq, Bool.false_eq_true, if_true, if_false, ite_true, ite_false, exists_const, eq_self, false_and, and_false, or_false, false_or, exists_false, Evl.rLenS, rSum, wipe, tYes, exists_eq, exists_eq', rIxL, rIxT, rIxS, exists_and_right, gt_iff_lt, not_true_eq_false, not_false_eq_true, Bool.not_true, Bool.not_false, decide_eq_true_eq, Nat.reduceSub, Nat.reduceAdd, List.append_assoc, tChain, tDIn, tDNotIn, sDDel, tAug, ipI]
          exact skip (by rw [e1, e2]; rfl)
        | true =>
          try simp (maxSteps := 1000000) only [tSeq, tIfS, tTest, tOp, tUn, tCB, tCons, tNil, tVar, tC, rI0, rI, rU, rEq, rNe, tRet, tRetN, tAsg, gName, gSub, tBM, tBM0, tNext, tB, tNot, tAnd, tOr, tIf, tCall, tDrop, tBreak, tCont, L2.start, tDGet, sDPut, tTup, tLst, tDNewK, tRevL, rCat, rAppend, rPop, rSetL, tAndV, tOrV, tNotV, tSl, tPart, tNoPart, tM1, gTup, gCons, gNil, cxK, cxnK, List.map_cons, List.map_nil, List.length_cons, List.length_nil, List.replicate, List.cons_append, List.nil_append, List.append_nil, List.set_cons_zero, List.set_cons_succ, List.getElem?_cons_zero, List.getElem?_cons_succ, Option.some.injEq, V.ref.injEq, V.int.injEq, V.str.injEq, V.bl.injEq, V.ty.injEq, exists_eq_left', exists_eq_left, exists_and_left, List.cons.injEq, and_true, true_and, sc_ii, sc_ss, sc_bb, sc_ni, sc_in, sc_is, sc_si, sc_nn, decide_true, decide_false, reduceCtorEq, Bool.false_eq_true, if_true, if_false, ite_true, ite_false, exists_const, eq_self, false_and, and_false, or_false, false_or, exists_false, Evl.rLenS, rSum, wipe, tYes, exists_eq, exists_eq', rIxL, rIxT, rIxS, exists_and_right, gt_iff_lt, not_true_eq_false, not_false_eq_true, Bool.not_true, Bool.not_false, decide_eq_true_eq, Nat.reduceSub, Nat.reduceAdd, List.append_assoc, tChain, tDIn, tDNotIn, sDDel, tAug, ipI]
          exact lcD_put hh nD hd (by rw [filter_take ep, if_pos (by rw [e1, e2]; rfl)]) (take_len (Nat.le_trans (Nat.le_of_eq pairs_len) (by decide)))
    · rintro H2 ⟨ws, hv, hws, k2⟩
      have hz27 : zs.length = pairsL.length := by
        have := dpLen (hz H2).2
        rw [List.length_map] at this; exact this
      rw [hz27] at hws
      dsimp only at hws
      rw [List.take_length] at hws
      try simp (maxSteps := 1000000) only [tSeq, tIfS, tTest, tOp, tUn, tCB, tCons, tNil, tVar, tC, rI0, rI, rU, rEq, rNe, tRet, tRetN, tAsg, gName, gSub, tBM, tBM0, tNext, tB, tNot, tAnd, tOr, tIf, tCall, tDrop, tBreak, tCont, L2.start, tDGet, sDPut, tTup, tLst, tDNewK, tRevL, rCat, rAppend, rPop, rSetL, tAndV, tOrV, tNotV, tSl, tPart, tNoPart, tM1, gTup, gCons, gNil, cxK, cxnK, List.map_cons, List.map_nil, List.length_cons, List.length_nil, List.replicate, List.cons_append, List.nil_append, List.append_nil, List.set_cons_zero, List.set_cons_succ, List.getElem?_cons_zero, List.getElem?_cons_succ, Option.some.injEq, V.ref.injEq, V.int.injEq, V.str.injEq, V.bl.injEq, V.ty.injEq, exists_eq_left', exists_eq_left, exists_and_left, List.cons.injEq, and_true, true_and, sc_ii, sc_ss, sc_bb, sc_ni, sc_in, sc_is, sc_si, sc_nn, decide_true, decide_false, reduceCtorEq, Bool.false_eq_true, if_true, if_false, ite_true, ite_false, exists_const, eq_self, false_and, and_false, or_false, false_or, exists_false, Evl.rLenS, rSum, wipe, tYes, exists_eq, exists_eq', rIxL, rIxT, rIxS, exists_and_right, gt_iff_lt, not_true_eq_false, not_false_eq_true, Bool.not_true, Bool.not_false, decide_eq_true_eq, Nat.reduceSub, Nat.reduceAdd, List.append_assoc, tChain, tDIn, tDNotIn, sDDel, tAug, ipI]
      refine pr_make (.inl (sq_l hv)) hws (fitsP (subP _)) (by rw [List.length_map]; exact Nat.le_trans (lenP _) (by decide)) (all_isP (subP _)) fun o H' no hp hk => ?_
      exact q o H' (k2.free0 no) (hp.same fun p h => pick_eq h) (k2.trans hk)
end
end My

set_option Elab.async false
set_option linter.all false
set_option maxRecDepth 100000
set_option maxHeartbeats 4000000
namespace My
open PySem L2 NdefX
theorem len_app (x y : Str) : (x ++ y).length = x.length + y.length := Array.size_append
abbrev s_is_name : Stmt := top 11
theorem sc_is_name : FnScope ["value", "letter"] ["value"] (defScope s_is_name) := ⟨rfl, rfl, rfl, by decide +kernel, rfl, by decide +kernel, by decide +kernel⟩
abbrev s_is_fence_name : Stmt := top 21
theorem sc_is_fence_name : FnScope ["name"] ["name"] (defScope s_is_fence_name) := ⟨rfl, rfl, rfl, by decide +kernel, rfl, by decide +kernel, by decide +kernel⟩
abbrev s_TooLarge_init : Stmt := mtop 3 0
theorem sc_TooLarge_init : NScope ["self", "bound", "__class__"] ["self", "bound"] ["__class__"] (defScope s_TooLarge_init) := nscope_by (by decide +kernel)
theorem ok_TooLarge_init {P : Program} {w : World} {K : PySem.W.Frag} {mg : Str → Option Value} {base : Heap} {CX : CXT} {f cc cda C : Addr} {fd : FuncData} (F : FunX K "__init__" "TooLarge.__init__" s_TooLarge_init f fd cc cda C) (T : ErrC K C) (G : CodeF K P cda) (hsup : mg "super" = none) (n1 : PySem.W.findIn K (.ref C) "bound" = some none) {Pf : V → Prop} (hPf : ∀ v, Pf v → ∃ i : Int, v = .int i ∧ i.natAbs.log2 < 1920) :
    FnOk P w K mg base CX 1 f fd ["self", "bound"] (spErr1 C "bound" Pf) := by
  have F0 := F
  obtain ⟨oc, od, kV, doc, pm, an, ct, osl, hfd, lk, hcd⟩ := F0.ex
  obtain ⟨cl, cld, csl, hcc⟩ := F0.cell
  refine F.ok sc_TooLarge_init (fun vs H Q E h => ?_) (fun A outer s H vs Q E hr h => ?_)
  · obtain ⟨a, v, rfl, _⟩ := h
    rfl
  · obtain ⟨a, v, rfl, hp, ha, q⟩ := h
    obtain ⟨i, rfl, il⟩ := hPf v hp
    have tl := PyProof.Rows.int_text_len_1921 il
    refine ⟨_, psat_cons (psat_sup T G lk (by rw [hfd]; rfl) hcc hsup rfl rfl rfl rfl rfl rfl rfl (pa_cons (pe_joined (.cons pe_str (.cons (pe_fmt (pv 1)) .nil))) pa_nil) rfl rfl rfl rfl rfl) (pss_one (ps_ost (pv 0) (pv 1))), ?_⟩
    try simp (maxSteps := 1000000) only [tSeq, tIfS, tTest, tOp, tUn, tCB, tCons, tNil, tVar, tC, rI0, rI, rU, rEq, rNe, tRet, tRetN, tAsg, gName, gSub, tBM, tBM0, tNext, tB, tNot, tAnd, tOr, tIf, tCall, tDrop, tBreak, tCont, L2.start, tDGet, sDPut, tTup, tLst, tDNewK, tRevL, rCat, rAppend, rPop, rSetL, tAndV, tOrV, tNotV, tSl, tPart, tNoPart, tM1, gTup, gCons, gNil, cxK, cxnK, List.map_cons, List.map_nil, List.length_cons, List.length_nil, List.replicate, List.cons_append, List.nil_append, List.append_nil, List.set_cons_zero, List.set_cons_succ, List.getElem?_cons_zero, List.getElem?_cons_succ, Option.some.injEq, V.ref.injEq, V.int.injEq, V.str.injEq, V.bl.injEq, V.ty.injEq, exists_eq_left', exists_eq_left, exists_and_left, List.cons.injEq, and_true, true_and, sc_ii, sc_ss, sc_bb, sc_ni, sc_in, sc_is, sc_si, sc_nn, decide_true, decide_false, reduceCtorEq, Bool.false_eq_true, if_true, if_false, ite_true, ite_false, exists_const, eq_self, false_and, and_false, or_false, false_or, exists_false, Evl.rLenS, rSum, wipe, tYes, exists_eq, exists_eq', rIxL, rIxT, rIxS, exists_and_right, gt_iff_lt, not_true_eq_false, not_false_eq_true, Bool.not_true, Bool.not_false, decide_eq_true_eq, Nat.reduceSub, Nat.reduceAdd, List.append_assoc, tChain, tDIn, tDNotIn, sDDel, tAug, ipI, startF, tSupI, tJs, tFmt, tOst]
    have z0 : Str.empty.length = 0 := rfl
    have s0 : (Str.ofString "not within the bound of ").length = 24 := by decide +kernel
    refine ⟨ha, small ?_, il, small ?_, by decide, ha, C, T.ox, n1, .inl ⟨ha, q⟩⟩
    all_goals (simp only [len_app, z0, s0]; omega)
abbrev s_BadFence_init : Stmt := mtop 5 0
theorem sc_BadFence_init : NScope ["self", "name", "__class__"] ["self", "name"] ["__class__"] (defScope s_BadFence_init) := nscope_by (by decide +kernel)
theorem ok_BadFence_init {P : Program} {w : World} {K : PySem.W.Frag} {mg : Str → Option Value} {base : Heap} {CX : CXT} {f cc cda C : Addr} {fd : FuncData} (F : FunX K "__init__" "BadFence.__init__" s_BadFence_init f fd cc cda C) (T : ErrC K C) (G : CodeF K P cda) (hsup : mg "super" = none) (n1 : PySem.W.findIn K (.ref C) "name" = some none) {Pf : V → Prop} :
    FnOk P w K mg base CX 1 f fd ["self", "name"] (spErr1 C "name" Pf) := by
  have F0 := F
  obtain ⟨oc, od, kV, doc, pm, an, ct, osl, hfd, lk, hcd⟩ := F0.ex
  obtain ⟨cl, cld, csl, hcc⟩ := F0.cell
  refine F.ok sc_BadFence_init (fun vs H Q E h => ?_) (fun A outer s H vs Q E hr h => ?_)
  · obtain ⟨a, v, rfl, _⟩ := h
    rfl
  · obtain ⟨a, v, rfl, hp, ha, q⟩ := h
    refine ⟨_, psat_cons (psat_sup T G lk (by rw [hfd]; rfl) hcc hsup rfl rfl rfl rfl rfl rfl rfl (pa_cons pe_str pa_nil) rfl rfl rfl rfl rfl) (pss_one (ps_ost (pv 0) (pv 1))), ?_⟩
    try simp (maxSteps := 1000000) only [tSeq, tIfS, tTest, tOp, tUn, tCB, tCons, tNil, tVar, tC, rI0, rI, rU, rEq, rNe, tRet, tRetN, tAsg, gName, gSub, tBM, tBM0, tNext, tB, tNot, tAnd, tOr, tIf, tCall, tDrop, tBreak, tCont, L2.start, tDGet, sDPut, tTup, tLst, tDNewK, tRevL, rCat, rAppend, rPop, rSetL, tAndV, tOrV, tNotV, tSl, tPart, tNoPart, tM1, gTup, gCons, gNil, cxK, cxnK, List.map_cons, List.map_nil, List.length_cons, List.length_nil, List.replicate, List.cons_append, List.nil_append, List.append_nil, List.set_cons_zero, List.set_cons_succ, List.getElem?_cons_zero, List.getElem?_cons_succ, Option.some.injEq, V.ref.injEq, V.int.injEq, V.str.injEq, V.bl.injEq, V.ty.injEq, exists_eq_left', exists_eq_left, exists_and_left, List.cons.injEq, and_true, true_and, sc_ii, sc_ss, sc_bb, sc_ni, sc_in, sc_is, sc_si, sc_nn, decide_true, decide_false, reduceCtorEq, Bool.false_eq_true, if_true, if_false, ite_true, ite_false, exists_const, eq_self, false_and, and_false, or_false, false_or, exists_false, Evl.rLenS, rSum, wipe, tYes, exists_eq, exists_eq', rIxL, rIxT, rIxS, exists_and_right, gt_iff_lt, not_true_eq_false, not_false_eq_true, Bool.not_true, Bool.not_false, decide_eq_true_eq, Nat.reduceSub, Nat.reduceAdd, List.append_assoc, tChain, tDIn, tDNotIn, sDDel, tAug, ipI, startF, tSupI, tOst]
    exact ⟨ha, by decide, ha, C, T.ox, n1, .inl ⟨ha, q⟩⟩
abbrev s_NoFence_init : Stmt := mtop 6 0
theorem sc_NoFence_init : NScope ["self", "name", "__class__"] ["self", "name"] ["__class__"] (defScope s_NoFence_init) := nscope_by (by decide +kernel)
theorem ok_NoFence_init {P : Program} {w : World} {K : PySem.W.Frag} {mg : Str → Option Value} {base : Heap} {CX : CXT} {f cc cda C : Addr} {fd : FuncData} (F : FunX K "__init__" "NoFence.__init__" s_NoFence_init f fd cc cda C) (T : ErrC K C) (G : CodeF K P cda) (hsup : mg "super" = none) (n1 : PySem.W.findIn K (.ref C) "name" = some none) {Pf : V → Prop} :
    FnOk P w K mg base CX 1 f fd ["self", "name"] (spErr1 C "name" Pf) := by
  have F0 := F
  obtain ⟨oc, od, kV, doc, pm, an, ct, osl, hfd, lk, hcd⟩ := F0.ex
  obtain ⟨cl, cld, csl, hcc⟩ := F0.cell
  refine F.ok sc_NoFence_init (fun vs H Q E h => ?_) (fun A outer s H vs Q E hr h => ?_)
  · obtain ⟨a, v, rfl, _⟩ := h
    rfl
  · obtain ⟨a, v, rfl, hp, ha, q⟩ := h
    refine ⟨_, psat_cons (psat_sup T G lk (by rw [hfd]; rfl) hcc hsup rfl rfl rfl rfl rfl rfl rfl (pa_cons pe_str pa_nil) rfl rfl rfl rfl rfl) (pss_one (ps_ost (pv 0) (pv 1))), ?_⟩
    try simp (maxSteps := 1000000) only [tSeq, tIfS, tTest, tOp, tUn, tCB, tCons, tNil, tVar, tC, rI0, rI, rU, rEq, rNe, tRet, tRetN, tAsg, gName, gSub, tBM, tBM0, tNext, tB, tNot, tAnd, tOr, tIf, tCall, tDrop, tBreak, tCont, L2.start, tDGet, sDPut, tTup, tLst, tDNewK, tRevL, rCat, rAppend, rPop, rSetL, tAndV, tOrV, tNotV, tSl, tPart, tNoPart, tM1, gTup, gCons, gNil, cxK, cxnK, List.map_cons, List.map_nil, List.length_cons, List.length_nil, List.replicate, List.cons_append, List.nil_append, List.append_nil, List.set_cons_zero, List.set_cons_succ, List.getElem?_cons_zero, List.getElem?_cons_succ, Option.some.injEq, V.ref.injEq, V.int.injEq, V.str.injEq, V.bl.injEq, V.ty.injEq, exists_eq_left', exists_eq_left, exists_and_left, List.cons.injEq, and_true, true_and, sc_ii, sc_ss, sc_bb, sc_ni, sc_in, sc_is, sc_si, sc_nn, decide_true, decide_false, reduceCtorEq, Bool.false_eq_true, if_true, if_false, ite_true, ite_false, exists_const, eq_self, false_and, and_false, or_false, false_or, exists_false, Evl.rLenS, rSum, wipe, tYes, exists_eq, exists_eq', rIxL, rIxT, rIxS, exists_and_right, gt_iff_lt, not_true_eq_false, not_false_eq_true, Bool.not_true, Bool.not_false, decide_eq_true_eq, Nat.reduceSub, Nat.reduceAdd, List.append_assoc, tChain, tDIn, tDNotIn, sDDel, tAug, ipI, startF, tSupI, tOst]
    exact ⟨ha, by decide, ha, C, T.ox, n1, .inl ⟨ha, q⟩⟩
abbrev s_Book_init : Stmt := mtop 20 0
theorem sc_Book_init : FnScope ["self", "kept", "fences", "further", "name"] ["self", "kept", "fences"] (defScope s_Book_init) := ⟨rfl, rfl, rfl, by decide +kernel, rfl, by decide +kernel, by decide +kernel⟩
abbrev s_Book_fences : Stmt := mtop 20 1
theorem sc_Book_fences : FnScope ["self"] ["self"] (defScope s_Book_fences) := ⟨rfl, rfl, rfl, by decide +kernel, rfl, by decide +kernel, by decide +kernel⟩
abbrev s_Book_fence : Stmt := mtop 20 2
theorem sc_Book_fence : FnScope ["self", "name"] ["self", "name"] (defScope s_Book_fence) := ⟨rfl, rfl, rfl, by decide +kernel, rfl, by decide +kernel, by decide +kernel⟩
abbrev s_Book_keeps : Stmt := mtop 20 3
theorem sc_Book_keeps : FnScope ["self", "first", "second", "between", "pair", "kept", "name"] ["self", "first", "second", "between"] (defScope s_Book_keeps) := ⟨rfl, rfl, rfl, by decide +kernel, rfl, by decide +kernel, by decide +kernel⟩
def lets : Str := "abcdefghijklmnopqrstuvwxyz"
def lowC (c : Nat) : Bool := decide (97 ≤ c) && decide (c ≤ 122)
def nameS (z : Str) : Bool := decide (1 ≤ z.length) && (decide (z.length ≤ 8) && z.cps.toList.all lowC)
def nameD : PyData → Bool
  | .str z => nameS z
  | _ => false
def belowD (m : Int) : PyData → Bool
  | .int i => decide (0 ≤ i) && decide (i < m)
  | _ => false
mutual
def szD : PyData → Bool
  | .str z => decide (z.length ≤ 1000)
  | .tuple ds => szAll ds
  | .list ds => szAll ds
  | _ => true
def szAll : List PyData → Bool
  | [] => true
  | d :: ds => szD d && szAll ds
end
theorem szAll_mem : ∀ {ds : List PyData}, szAll ds = true → ∀ d ∈ ds, szD d = true
  | d :: ds, h, e, he => by
    have h' : (szD d && szAll ds) = true := h
    rw [Bool.and_eq_true] at h'
    rcases List.mem_cons.mp he with rfl | he
    · exact h'.1
    · exact szAll_mem h'.2 e he
structure BtB (mg : Str → Option Value) (tL : Tok) : Prop where
  b_isinstance : mg "isinstance" = none
  b_str : mg "str" = none
  b_len : mg "len" = none
  b_all : mg "all" = none
  b_any : mg "any" = none
  b_dict : mg "dict" = none
  b_sorted : mg "sorted" = none
  c_LETTERS : mg "LETTERS" = some (.str lets tL)
/-- the promise of a test of data -/
def spD (pre : PyData → Prop) (f : PyData → Bool) : Sp := fun vs H Q _ => ∃ (v : V) (d : PyData), vs = [v] ∧ Dq H v d ∧ szD d = true ∧ pre d ∧ ∀ H', Kp [] H H' → Q (.bl (f d)) H'
def LowIn (z : Str) (D : Addr) (H : Hp) (i : Nat) (H' : Hp) : Prop := H' D = some (.lst ((z.cps.toList.take i).map fun c => V.bl (lowC c))) ∧ Kp [] H H'
theorem lets_mem (c : Nat) : decide (c ∈ lets.cps.toList) = lowC c := by
  have e : lets.cps.toList = (List.range 26).map (97 + ·) := by decide +kernel
  rw [e, Bool.eq_iff_iff, decide_eq_true_eq]
  unfold lowC
  rw [Bool.and_eq_true, decide_eq_true_eq, decide_eq_true_eq, List.mem_map]
  constructor
  · rintro ⟨i, hi, rfl⟩
    have := List.mem_range.mp hi
    omega
  · rintro ⟨h1, h2⟩
    exact ⟨c - 97, List.mem_range.mpr (by omega), by omega⟩
theorem all_takeS {α : Type} {f : α → Bool} {l : List α} : ((l.map fun c => f c).all id) = l.all f := by
  rw [List.all_map]; rfl
theorem take_snocS {α : Type} {l : List α} {i : Nat} {x : α} (h : l[i]? = some x) : l.take (i + 1) = l.take i ++ [x] := by
  rw [List.take_add_one, h]; rfl
section
variable {P : Program} {w : World} {K : PySem.W.Frag} {mg : Str → Option Value} {base : Heap} {tL : Tok}
theorem ok_is_name {f : Addr} {fd : FuncData} (D : Df K mg "is_name" s_is_name ["value"] f fd) (T : BtB mg tL) : FnOk P w K mg base CX0 1 f fd ["value"] (spD (fun _ => True) nameD) := by
  refine D.F.ok sc_is_name (fun vs H Q E h => ?_) (fun cdv A outer s H vs Q E hr h => ?_)
  · obtain ⟨a, m, rfl, _⟩ := h
    rfl
  · obtain ⟨v, d, rfl, hd, sz, _, q⟩ := h
    have hu := hu_of hr
    refine ⟨_, (pss_cons (ps_if (pt_not (pt_val (pe_callB (id := "isinstance") (r := rIsi K) call_isi (by rfl) T.b_isinstance (by decide +kernel) (pa_cons (pv 0) (pa_cons (pe_bltn (v := .ty "str") (by rfl) T.b_str (by decide +kernel) rfl) pa_nil))))) (pss_one (ps_ret pe_bl)) pss_nil)
      (pss_one (ps_ret (pe_and (pe_chain op_le op_le pe_int (pe_callB (id := "len") call_len_str (by rfl) T.b_len PySem.boot_len (pa_cons (pv 0) pa_nil)) pe_int) (pe_one (pe_callB (id := "all") (r := rAll K) (cr_all rfl) (by rfl) T.b_all (by decide +kernel) (pa_cons (pe_lc (own := [("letter", 1)]) (g := (gName 1)) (tt := tYes) rfl sc_is_name.nd (pi_str (pv 0)) (blkOk_by (N := ["value", "letter"]) (sc := defScope s_is_name) (by decide +kernel)) (fun _ _ _ _ _ => (pg_name (i := 1) sc_is_name.nd rfl (Or.inl rfl))) (fun _ _ _ _ _ => pts_nil) (fun _ _ _ _ _ => (pe_cmpR op_in_sign (pv 1) (pe_glob (v := .str lets) rfl T.c_LETTERS ⟨_, rfl⟩) (by rfl)))) pa_nil))))))), ?_⟩
    try simp (maxSteps := 1000000) only [tSeq, tIfS, tTest, tOp, tUn, tCB, tCons, tNil, tVar, tC, rI0, rI, rU, rEq, rNe, tRet, tRetN, tAsg, gName, gSub, tBM, tBM0, tNext, tB, tNot, tAnd, tOr, tIf, tCall, tDrop, tBreak, tCont, L2.start, tDGet, sDPut, tTup, tLst, tDNewK, tRevL, rCat, rAppend, rPop, rSetL, tAndV, tOrV, tNotV, tSl, tPart, tNoPart, tM1, gTup, gCons, gNil, cxK, cxnK, List.map_cons, List.map_nil, List.length_cons, List.length_nil, List.replicate, List.cons_append, List.nil_append, List.append_nil, List.set_cons_zero, List.set_cons_succ, List.getElem?_cons_zero, List.getElem?_cons_succ, Option.some.injEq, V.ref.injEq, V.int.injEq, V.str.injEq, V.bl.injEq, V.ty.injEq, exists_eq_left', exists_eq_left, exists_and_left, List.cons.injEq, and_true, true_and, sc_ii, sc_ss, sc_bb, sc_ni, sc_in, sc_is, sc_si, sc_nn, decide_true, decide_false, reduceCtorEq, Bool.false_eq_true, if_true, if_false, ite_true, ite_false, exists_const, eq_self, false_and, and_false, or_false, false_or, exists_false, Evl.rLenS, rSum, wipe, tYes, exists_eq, exists_eq', rIxL, rIxT, rIxS, exists_and_right, gt_iff_lt, not_true_eq_false, not_false_eq_true, Bool.not_true, Bool.not_false, decide_eq_true_eq, Nat.reduceSub, Nat.reduceAdd, List.append_assoc, tChain, tDIn, tDNotIn, sDDel, tAug, ipI]
    refine isi_Dstr hd ?_
    try simp (maxSteps := 1000000) only [tSeq, tIfS, tTest, tOp, tUn, tCB, tCons, tNil, tVar, tC, rI0, rI, rU, rEq, rNe, tRet, tRetN, tAsg, gName, gSub, tBM, tBM0, tNext, tB, tNot, tAnd, tOr, tIf, tCall, tDrop, tBreak, tCont, L2.start, tDGet, sDPut, tTup, tLst, tDNewK, tRevL, rCat, rAppend, rPop, rSetL, tAndV, tOrV, tNotV, tSl, tPart, tNoPart, tM1, gTup, gCons, gNil, cxK, cxnK, List.map_cons, List.map_nil, List.length_cons, List.length_nil, List.replicate, List.cons_append, List.nil_append, List.append_nil, List.set_cons_zero, List.set_cons_succ, List.getElem?_cons_zero, List.getElem?_cons_succ, Option.some.injEq, V.ref.injEq, V.int.injEq, V.str.injEq, V.bl.injEq, V.ty.injEq, exists_eq_left', exists_eq_left, exists_and_left, List.cons.injEq, and_true, true_and, sc_ii, sc_ss, sc_bb, sc_ni, sc_in, sc_is, sc_si, sc_nn, decide_true, decide_false, reduceCtorEq, Bool.false_eq_true, if_true, if_false, ite_true, ite_false, exists_const, eq_self, false_and, and_false, or_false, false_or, exists_false, Evl.rLenS, rSum, wipe, tYes, exists_eq, exists_eq', rIxL, rIxT, rIxS, exists_and_right, gt_iff_lt, not_true_eq_false, not_false_eq_true, Bool.not_true, Bool.not_false, decide_eq_true_eq, Nat.reduceSub, Nat.reduceAdd, List.append_assoc, tChain, tDIn, tDNotIn, sDDel, tAug, ipI]
    cases hd with
    | str z =>
      try simp (maxSteps := 1000000) only [tSeq, tIfS, tTest, tOp, tUn, tCB, tCons, tNil, tVar, tC, rI0, rI, rU, rEq, rNe, tRet, tRetN, tAsg, gName, gSub, tBM, tBM0, tNext, tB, tNot, tAnd, tOr, tIf, tCall, tDrop, tBreak, tCont, L2.start, tDGet, sDPut, tTup, tLst, tDNewK, tRevL, rCat, rAppend, rPop, rSetL, tAndV, tOrV, tNotV, tSl, tPart, tNoPart, tM1, gTup, gCons, gNil, cxK, cxnK, List.map_cons, List.map_nil, List.length_cons, List.length_nil, List.replicate, List.cons_append, List.nil_append, List.append_nil, List.set_cons_zero, List.set_cons_succ, List.getElem?_cons_zero, List.getElem?_cons_succ, Option.some.injEq, V.ref.injEq, V.int.injEq, V.str.injEq, V.bl.injEq, V.ty.injEq, exists_eq_left', exists_eq_left, exists_and_left, List.cons.injEq, and_true, true_and, sc_ii, sc_ss, sc_bb, sc_ni, sc_in, sc_is, sc_si, sc_nn, decide_true, decide_false, reduceCtorEq, Bool.false_eq_true, if_true, if_false, ite_true, ite_false, exists_const, eq_self, false_and, and_false, or_false, false_or, exists_false, Evl.rLenS, rSum, wipe, tYes, exists_eq, exists_eq', rIxL, rIxT, rIxS, exists_and_right, gt_iff_lt, not_true_eq_false, not_false_eq_true, Bool.not_true, Bool.not_false, decide_eq_true_eq, Nat.reduceSub, Nat.reduceAdd, List.append_assoc, tChain, tDIn, tDNotIn, sDDel, tAug, ipI, isStrD]
      have zs : z.cps.toList.length = z.length := Array.length_toList
      have zl : z.length ≤ 1000 := of_decide_eq_true sz
      have q' : ∀ H', Kp [] H H' → Q (.bl (nameS z)) H' := q
      unfold nameS at q'
      refine ⟨small (by omega), ?_⟩
      by_cases h1 : 1 ≤ z.length
      · by_cases h8 : z.length ≤ 8
        · have e1 : (1 : Int) ≤ (z.length : Nat) := by omega
          have e8 : ((z.length : Nat) : Int) ≤ 8 := by omega
          rw [decide_eq_true h1, decide_eq_true h8] at q'
          rw [if_pos e1, if_pos e8]
          refine ⟨.str z, rfl, z, rfl, fun o no => lc_it walk_str (LowIn z o H) ⟨upd_same, Kp.new no⟩ (fun _ _ _ _ => True.intro) ?_ ?_⟩
          · rintro i x H1 H2 hi ⟨ho, kp⟩ ⟨rfl, c, hc, rfl⟩
            try simp (maxSteps := 1000000) only [tSeq, tIfS, tTest, tOp, tUn, tCB, tCons, tNil, tVar, tC, rI0, rI, rU, rEq, rNe, tRet, tRetN, tAsg, gName, gSub, tBM, tBM0, tNext, tB, tNot, tAnd, tOr, tIf, tCall, tDrop, tBreak, tCont, L2.start, tDGet, sDPut, tTup, tLst, tDNewK, tRevL, rCat, rAppend, rPop, rSetL, tAndV, tOrV, tNotV, tSl, tPart, tNoPart, tM1, gTup, gCons, gNil, cxK, cxnK, List.map_cons, List.map_nil, List.length_cons, List.length_nil, List.replicate, List.cons_append, List.nil_append, List.append_nil, List.set_cons_zero, List.set_cons_succ, List.getElem?_cons_zero, List.getElem?_cons_succ, Option.some.injEq, V.ref.injEq, V.int.injEq, V.str.injEq, V.bl.injEq, V.ty.injEq, exists_eq_left', exists_eq_left, exists_and_left, List.cons.injEq, and_true, true_and, sc_ii, sc_ss, sc_bb, sc_ni, sc_in, sc_is, sc_si, sc_nn, decide_true, decide_false, reduceCtorEq, Bool.false_eq_true, if_true, if_false, ite_true, ite_false, exists_const, eq_self, false_and, and_false, or_false, false_or, exists_false, Evl.rLenS, rSum, wipe, tYes, exists_eq, exists_eq', rIxL, rIxT, rIxS, exists_and_right, gt_iff_lt, not_true_eq_false, not_false_eq_true, Bool.not_true, Bool.not_false, decide_eq_true_eq, Nat.reduceSub, Nat.reduceAdd, List.append_assoc, tChain, tDIn, tDNotIn, sDDel, tAug, ipI]
            refine ⟨c, rfl, _, ho, ?_, ?_, kp.wr no⟩
            · rw [List.length_map, List.length_take, zs]; exact smallL (by omega)
            · rw [upd_same, lets_mem, take_snocS (x := c) (by rw [← hc]; simp), List.map_append]; rfl
          · rintro H1 ⟨ho, kp⟩
            have q2 := q' H1 kp
            rw [← all_takeS] at q2
            refine ⟨_, z.cps.toList.map lowC, rfl, sq_l (ho.trans ?_), ?_⟩
            · rw [List.take_of_length_le (by simp), List.map_map]; rfl
            · simpa using q2
        · have e1 : (1 : Int) ≤ (z.length : Nat) := by omega
          have e8 : ¬ ((z.length : Nat) : Int) ≤ 8 := by omega
          rw [decide_eq_true h1, decide_eq_false h8] at q'
          rw [if_pos e1, if_neg e8]
          exact q' _ (Kp.refl _ _)
      · have e1 : ¬ (1 : Int) ≤ (z.length : Nat) := by omega
        rw [decide_eq_false h1] at q'
        rw [if_neg e1]
        exact q' _ (Kp.refl _ _)
    | _ => exact q H (Kp.refl _ _)

def fenS (z : Str) : Bool := nameS z && (!decide (z ∈ kindsL) && !decide (z = ("return" : Str)))
def spFen : Sp := fun vs H Q _ => ∃ z : Str, vs = [.str z] ∧ z.length ≤ 1000 ∧ ∀ H', Kp [] H H' → Q (.bl (fenS z)) H'
structure BtK (K : PySem.W.Frag) (mg : Str → Option Value) (T_KINDS : Addr) : Prop where
  c_KINDS : mg "KINDS" = some (.ref T_KINDS)
  kk : ∀ H, SqT K H T_KINDS (kindsL.map V.str)
theorem ok_is_fence_name {f : Addr} {fd : FuncData} {T_KINDS : Addr} (D : Df K mg "is_fence_name" s_is_fence_name ["name"] f fd) (T : BtK K mg T_KINDS) {fa : Addr} {fda : FuncData} (D_is_name : Df K mg "is_name" s_is_name ["value"] fa fda) (G_is_name : FnOk P w K mg base CX0 1 fa fda ["value"] (spD (fun _ => True) nameD)) : FnOk P w K mg base CX0 2 f fd ["name"] spFen := by
  refine D.F.ok sc_is_fence_name (fun vs H Q E h => ?_) (fun cdv A outer s H vs Q E hr h => ?_)
  · obtain ⟨z, rfl, _⟩ := h
    rfl
  · obtain ⟨z, rfl, zl, q⟩ := h
    refine ⟨_, (pss_one (ps_ret (pe_and (pe_call G_is_name (hr.mono (by decide)) rfl D_is_name.g D_is_name.F.kp D_is_name.b .nil pass0 (pa_cons (pv 0) pa_nil)) (pe_and (pe_cmpR op_notIn_seq (pv 0) (pe_glob (v := .ref T_KINDS) rfl T.c_KINDS rfl) (by rfl)) (pe_one (pe_cmpR op_ne (pv 0) pe_str (nomark _))))))), ?_⟩
    try simp (maxSteps := 1000000) only [tSeq, tIfS, tTest, tOp, tUn, tCB, tCons, tNil, tVar, tC, rI0, rI, rU, rEq, rNe, tRet, tRetN, tAsg, gName, gSub, tBM, tBM0, tNext, tB, tNot, tAnd, tOr, tIf, tCall, tDrop, tBreak, tCont, L2.start, tDGet, sDPut, tTup, tLst, tDNewK, tRevL, rCat, rAppend, rPop, rSetL, tAndV, tOrV, tNotV, tSl, tPart, tNoPart, tM1, gTup, gCons, gNil, cxK, cxnK, List.map_cons, List.map_nil, List.length_cons, List.length_nil, List.replicate, List.cons_append, List.nil_append, List.append_nil, List.set_cons_zero, List.set_cons_succ, List.getElem?_cons_zero, List.getElem?_cons_succ, Option.some.injEq, V.ref.injEq, V.int.injEq, V.str.injEq, V.bl.injEq, V.ty.injEq, exists_eq_left', exists_eq_left, exists_and_left, List.cons.injEq, and_true, true_and, sc_ii, sc_ss, sc_bb, sc_ni, sc_in, sc_is, sc_si, sc_nn, decide_true, decide_false, reduceCtorEq, Bool.false_eq_true, if_true, if_false, ite_true, ite_false, exists_const, eq_self, false_and, and_false, or_false, false_or, exists_false, Evl.rLenS, rSum, wipe, tYes, exists_eq, exists_eq', rIxL, rIxT, rIxS, exists_and_right, gt_iff_lt, not_true_eq_false, not_false_eq_true, Bool.not_true, Bool.not_false, decide_eq_true_eq, Nat.reduceSub, Nat.reduceAdd, List.append_assoc, tChain, tDIn, tDNotIn, sDDel, tAug, ipI]
    refine ⟨.str z, .str z, rfl, .str _, decide_eq_true zl, True.intro, fun H' k => ⟨_, rfl, ?_⟩⟩
    have e0 : nameD (.str z) = nameS z := rfl
    rw [e0]
    have q' := q H' k
    unfold fenS at q'
    cases hn : nameS z with
    | false => rw [hn] at q'; exact q'
    | true =>
      rw [hn] at q'
      refine ⟨T_KINDS, _, rfl, .inr (T.kk H'), rfl, flat_map _, _, rfl, ?_⟩
      rw [if_pos rfl, in_strs]
      unfold inW
      cases hd : decide (z ∈ kindsL) with
      | true => rw [hd] at q'; exact q'
      | false => rw [hd] at q'; exact q'
end
end My

set_option Elab.async false
set_option linter.all false
set_option maxRecDepth 100000
set_option maxHeartbeats 4000000
namespace My
open PySem L2 NdefX
theorem valV_fresh {kvs : List (Key × V)} {k : Key} (h : k ∉ kvs.map (·.1)) : valV kvs k = none := by
  induction kvs with
  | nil => rfl
  | cons p r ih =>
    rw [List.map_cons, List.mem_cons, not_or] at h
    have e := ih h.2
    unfold valV at e ⊢
    simp [Ne.symm h.1, e]
structure BkC (K : PySem.W.Frag) (mg : Str → Option Value) (BK : Addr) : Prop where
  k : mg "Book" = some (.ref BK)
  cl : Cls K BK
  n1 : NoAttr K BK "kept"
  n2 : NoAttr K BK "_fences"
/-- the dict's items are the fences fs -/
def Fen (K : PySem.W.Frag) (PC : Addr) (H : Hp) (kvs : List (Key × V)) (fs : List (Str × (Pr → Bool))) : Prop := kvs.map (·.1) = fs.map (fun x => (Sum.inr x.1 : Key)) ∧ ∀ (i : Nat) (n : Str) (g : Pr → Bool), fs[i]? = some (n, g) → ∃ q, kvs[i]? = some (Sum.inr n, V.ref q) ∧ PrAt K PC H q g
theorem Fen.kp {K : PySem.W.Frag} {PC : Addr} {H H' : Hp} {kvs : List (Key × V)} {fs : List (Str × (Pr → Bool))} (h : Fen K PC H kvs fs) (k : Kp [] H H') : Fen K PC H' kvs fs := ⟨h.1, fun i n g e => by
  obtain ⟨q, a, b⟩ := h.2 i n g e
  exact ⟨q, a, b.kp k⟩⟩
/-- at o a Book: kept f, fences fs (names of their own, at most three) -/
def BookAt (K : PySem.W.Frag) (BK PC : Addr) (H : Hp) (o : Addr) (f : Pr → Bool) (fs : List (Str × (Pr → Bool))) : Prop := ∃ (dx ko d : Addr) (kvs : List (Key × V)), H o = some (.ins BK dx [("kept", .ref ko), ("_fences", .ref d)]) ∧ PrAt K PC H ko f ∧ H d = some (.dK kvs) ∧ Fen K PC H kvs fs ∧ fs.length ≤ 3 ∧ (fs.map (·.1)).Nodup
theorem BookAt.kp {K : PySem.W.Frag} {BK PC : Addr} {H H' : Hp} {o : Addr} {f : Pr → Bool} {fs : List (Str × (Pr → Bool))} (h : BookAt K BK PC H o f fs) (k : Kp [] H H') : BookAt K BK PC H' o f fs := by
  obtain ⟨dx, ko, d, kvs, a, b, c, e, r⟩ := h
  exact ⟨dx, ko, d, kvs, k _ _ not0 a, b.kp k, k _ _ not0 c, e.kp k, r⟩
section
variable {P : Program} {w : World} {K : PySem.W.Frag} {mg : Str → Option Value} {base : Heap} {tL : Tok} {BK PC : Addr}
def spFences (K : PySem.W.Frag) (BK PC : Addr) : Sp := fun vs H Q _ => ∃ (o : Addr) (f : Pr → Bool) (fs : List (Str × (Pr → Bool))), vs = [.ref o] ∧ BookAt K BK PC H o f fs ∧ ∀ (ys : List Str) p, ys.Perm (fs.map (·.1)) → PyProof.Rows.sortedS ys = true → H p = none → Q (.ref p) (upd H p (.lst (ys.map V.str)))
theorem ok_Book_fences {f : Addr} {fd : FuncData} (F : Fun K "fences" "Book.fences" s_Book_fences f fd) (T : BtB mg tL) (B : BkC K mg BK) : FnOk P w K mg base CX0 1 f fd ["self"] (spFences K BK PC) := by
  refine F.ok sc_Book_fences (fun vs H Q E h => ?_) (fun cdv A outer s H vs Q E hr h => ?_)
  · obtain ⟨_, _, _, rfl, _⟩ := h
    rfl
  · obtain ⟨o, f, fs, rfl, ⟨dx, ko, d, kvs, ho, hk, hd, hf, fl, nd⟩, q⟩ := h
    refine ⟨_, (pss_one (ps_ret (pe_callB (id := "sorted") (call_sortedD (by first | exact hcalm | rfl)) (by rfl) T.b_sorted (by decide +kernel) (pa_cons (pe_fld (pv 0) rfl) pa_nil)))), ?_⟩
    try simp (maxSteps := 1000000) only [tSeq, tIfS, tTest, tOp, tUn, tCB, tCons, tNil, tVar, tC, rI0, rI, rU, rEq, rNe, tRet, tRetN, tAsg, gName, gSub, tBM, tBM0, tNext, tB, tNot, tAnd, tOr, tIf, tCall, tDrop, tBreak, tCont, L2.start, tDGet, sDPut, tTup, tLst, tDNewK, tRevL, rCat, rAppend, rPop, rSetL, tAndV, tOrV, tNotV, tSl, tPart, tNoPart, tM1, gTup, gCons, gNil, cxK, cxnK, List.map_cons, List.map_nil, List.length_cons, List.length_nil, List.replicate, List.cons_append, List.nil_append, List.append_nil, List.set_cons_zero, List.set_cons_succ, List.getElem?_cons_zero, List.getElem?_cons_succ, Option.some.injEq, V.ref.injEq, V.int.injEq, V.str.injEq, V.bl.injEq, V.ty.injEq, exists_eq_left', exists_eq_left, exists_and_left, List.cons.injEq, and_true, true_and, sc_ii, sc_ss, sc_bb, sc_ni, sc_in, sc_is, sc_si, sc_nn, decide_true, decide_false, reduceCtorEq, Bool.false_eq_true, if_true, if_false, ite_true, ite_false, exists_const, eq_self, false_and, and_false, or_false, false_or, exists_false, Evl.rLenS, rSum, wipe, tYes, exists_eq, exists_eq', rIxL, rIxT, rIxS, exists_and_right, gt_iff_lt, not_true_eq_false, not_false_eq_true, Bool.not_true, Bool.not_false, decide_eq_true_eq, Nat.reduceSub, Nat.reduceAdd, List.append_assoc, tChain, tDIn, tDNotIn, sDDel, tAug, ipI]
    refine ⟨.ref o, rfl, o, BK, dx, _, .ref d, rfl, ho, B.cl, B.n2, rfl, ?_⟩
    exact ⟨d, rfl, kvs, .inl hd, fs.map (·.1), by rw [hf.1, List.map_map]; rfl, by rw [List.length_map]; omega, q⟩
def spFence (K : PySem.W.Frag) (BK PC NF : Addr) : Sp := fun vs H Q E => ∃ (o : Addr) (f : Pr → Bool) (fs : List (Str × (Pr → Bool))) (z : Str), vs = [.ref o, .str z] ∧ BookAt K BK PC H o f fs ∧ z.length ≤ 1000 ∧
  (∀ (i : Nat) (g : Pr → Bool), fs[i]? = some (z, g) → nameS z = true → ∀ (p : Addr) H', PrAt K PC H' p g → Kp [] H H' → Q (.ref p) H') ∧
  ((nameS z = false ∨ z ∉ fs.map (·.1)) → ∀ (e : Addr) (H' : Hp), H e = none → H' e = some (.xd [("name", .str z)]) → Kp [] H H' → E (.ref NF) (some e) H')
theorem ok_Book_fence {f : Addr} {fd : FuncData} (F : Fun K "fence" "Book.fence" s_Book_fence f fd) (T : BtB mg tL) (B : BkC K mg BK) {NF fB : Addr} {fdB : FuncData} (E_NoFence : Er1 P w K mg base "NoFence" "name" NF fB fdB ["self", "name"] (fun _ => True))
    {fa : Addr} {fda : FuncData} (D_is_name : Df K mg "is_name" s_is_name ["value"] fa fda) (G_is_name : FnOk P w K mg base CX0 1 fa fda ["value"] (spD (fun _ => True) nameD)) : FnOk P w K mg base (L2.CX P w) 3 f fd ["self", "name"] (spFence K BK PC NF) := by
  refine F.okX sc_Book_fence (fun vs H Q E h => ?_) (fun cdv A outer s H vs Q E hr h => ?_)
  · obtain ⟨_, _, _, _, rfl, _⟩ := h
    rfl
  · obtain ⟨o, f, fs, z, rfl, ⟨dx, ko, d, kvs, ho, hk, hd, hf, fl, nd⟩, zl, qG, qB⟩ := h
    have hu := hu_of hr
    refine ⟨_, (pss_cons (ps_if (PW.pt (pw_or (pt_not (pt_val (pe_call G_is_name (hr.mono (by decide)) rfl D_is_name.g D_is_name.F.kp D_is_name.b .nil pass0 (pa_cons (pv 1) pa_nil)))) (pw_or1 (pt_cmp (pc_dnotin hu (pv 1) (pe_fld (pv 0) rfl)))))) (pss_one (ps_raise rfl (takes_of rfl rfl rfl rfl) (pmk_oex E_NoFence.ox E_NoFence.ic E_NoFence.ti E_NoFence.G (hr.mono (by decide)) E_NoFence.b .nil passL rfl E_NoFence.k (pa_cons (pv 1) pa_nil)))) pss_nil)
      (pss_one (ps_ret (pe_dget hu (pe_fld (pv 0) rfl) (pv 1) (fun _ _ => rfl))))), ?_⟩
    try simp (maxSteps := 1000000) only [tSeq, tIfS, tTest, tOp, tUn, tCB, tCons, tNil, tVar, tC, rI0, rI, rU, rEq, rNe, tRet, tRetN, tAsg, gName, gSub, tBM, tBM0, tNext, tB, tNot, tAnd, tOr, tIf, tCall, tDrop, tBreak, tCont, L2.start, tDGet, sDPut, tTup, tLst, tDNewK, tRevL, rCat, rAppend, rPop, rSetL, tAndV, tOrV, tNotV, tSl, tPart, tNoPart, tM1, gTup, gCons, gNil, cxK, cxnK, List.map_cons, List.map_nil, List.length_cons, List.length_nil, List.replicate, List.cons_append, List.nil_append, List.append_nil, List.set_cons_zero, List.set_cons_succ, List.getElem?_cons_zero, List.getElem?_cons_succ, Option.some.injEq, V.ref.injEq, V.int.injEq, V.str.injEq, V.bl.injEq, V.ty.injEq, exists_eq_left', exists_eq_left, exists_and_left, List.cons.injEq, and_true, true_and, sc_ii, sc_ss, sc_bb, sc_ni, sc_in, sc_is, sc_si, sc_nn, decide_true, decide_false, reduceCtorEq, Bool.false_eq_true, if_true, if_false, ite_true, ite_false, exists_const, eq_self, false_and, and_false, or_false, false_or, exists_false, Evl.rLenS, rSum, wipe, tYes, exists_eq, exists_eq', rIxL, rIxT, rIxS, exists_and_right, gt_iff_lt, not_true_eq_false, not_false_eq_true, Bool.not_true, Bool.not_false, decide_eq_true_eq, Nat.reduceSub, Nat.reduceAdd, List.append_assoc, tChain, tDIn, tDNotIn, sDDel, tAug, ipI]
    refine ⟨.str z, .str z, rfl, .str _, decide_eq_true zl, True.intro, fun H1 k1 => ?_⟩
    have e0 : nameD (.str z) = nameS z := rfl
    rw [e0]
    have hn1 : (nameS z = false ∨ z ∉ fs.map (·.1)) → tMkO NF (spErr1 NF "name" fun _ => True) [] (tCons (tVar 1) tNil) [some (.ref o), some (.str z)] H1 (fun cls d H' => E cls d H') := fun hb =>
      ⟨.str z, rfl, err1_made (P := fun _ => True) True.intro fun e H' ne he k => qB hb e H' (k1.free0 ne) he (k1.trans k)⟩
    cases hn : nameS z with
    | false =>
      try simp (maxSteps := 1000000) only [tSeq, tIfS, tTest, tOp, tUn, tCB, tCons, tNil, tVar, tC, rI0, rI, rU, rEq, rNe, tRet, tRetN, tAsg, gName, gSub, tBM, tBM0, tNext, tB, tNot, tAnd, tOr, tIf, tCall, tDrop, tBreak, tCont, L2.start, tDGet, sDPut, tTup, tLst, tDNewK, tRevL, rCat, rAppend, rPop, rSetL, tAndV, tOrV, tNotV, tSl, tPart, tNoPart, tM1, gTup, gCons, gNil, cxK, cxnK, List.map_cons, List.map_nil, List.length_cons, List.length_nil, List.replicate, List.cons_append, List.nil_append, List.append_nil, List.set_cons_zero, List.set_cons_succ, List.getElem?_cons_zero, List.getElem?_cons_succ, Option.some.injEq, V.ref.injEq, V.int.injEq, V.str.injEq, V.bl.injEq, V.ty.injEq, exists_eq_left', exists_eq_left, exists_and_left, List.cons.injEq, and_true, true_and, sc_ii, sc_ss, sc_bb, sc_ni, sc_in, sc_is, sc_si, sc_nn, decide_true, decide_false, reduceCtorEq, Bool.false_eq_true, if_true, if_false, ite_true, ite_false, exists_const, eq_self, false_and, and_false, or_false, false_or, exists_false, Evl.rLenS, rSum, wipe, tYes, exists_eq, exists_eq', rIxL, rIxT, rIxS, exists_and_right, gt_iff_lt, not_true_eq_false, not_false_eq_true, Bool.not_true, Bool.not_false, decide_eq_true_eq, Nat.reduceSub, Nat.reduceAdd, List.append_assoc, tChain, tDIn, tDNotIn, sDDel, tAug, ipI]
      exact hn1 (.inl hn)
    | true =>
      have ho1 := k1 _ _ not0 ho
      have hd1 := k1 _ _ not0 hd
      have hf1 := hf.kp k1
      have ndk : (kvs.map (·.1)).Nodup := by
        have e : kvs.map (·.1) = (fs.map (·.1)).map Sum.inr := by rw [hf.1, List.map_map]; rfl
        rw [e]
        exact (List.Pairwise.map _ (fun a b h z => h (Sum.inr.inj z)) nd)
      try simp (maxSteps := 1000000) only [tSeq, tIfS, tTest, tOp, tUn, tCB, tCons, tNil, tVar, tC, rI0, rI, rU, rEq, rNe, tRet, tRetN, tAsg, gName, gSub, tBM, tBM0, tNext, tB, tNot, tAnd, tOr, tIf, tCall, tDrop, tBreak, tCont, L2.start, tDGet, sDPut, tTup, tLst, tDNewK, tRevL, rCat, rAppend, rPop, rSetL, tAndV, tOrV, tNotV, tSl, tPart, tNoPart, tM1, gTup, gCons, gNil, cxK, cxnK, List.map_cons, List.map_nil, List.length_cons, List.length_nil, List.replicate, List.cons_append, List.nil_append, List.append_nil, List.set_cons_zero, List.set_cons_succ, List.getElem?_cons_zero, List.getElem?_cons_succ, Option.some.injEq, V.ref.injEq, V.int.injEq, V.str.injEq, V.bl.injEq, V.ty.injEq, exists_eq_left', exists_eq_left, exists_and_left, List.cons.injEq, and_true, true_and, sc_ii, sc_ss, sc_bb, sc_ni, sc_in, sc_is, sc_si, sc_nn, decide_true, decide_false, reduceCtorEq, Bool.false_eq_true, if_true, if_false, ite_true, ite_false, exists_const, eq_self, false_and, and_false, or_false, false_or, exists_false, Evl.rLenS, rSum, wipe, tYes, exists_eq, exists_eq', rIxL, rIxT, rIxS, exists_and_right, gt_iff_lt, not_true_eq_false, not_false_eq_true, Bool.not_true, Bool.not_false, decide_eq_true_eq, Nat.reduceSub, Nat.reduceAdd, List.append_assoc, tChain, tDIn, tDNotIn, sDDel, tAug, ipI, tFld]
      refine ⟨BK, dx, _, ho1, B.cl, B.n2, .ref d, rfl, d, rfl, _, .inl ⟨kvs, Sum.inr z, .inl hd1, rfl, rfl⟩, ?_⟩
      by_cases hz : z ∈ fs.map (·.1)
      · obtain ⟨⟨n, g⟩, hm, en⟩ := List.mem_map.mp hz
        have en : n = z := en
        subst en
        obtain ⟨i, ei⟩ := List.getElem?_of_mem hm
        obtain ⟨q, eq, hq⟩ := hf1.2 i n g ei
        have em : ((Sum.inr n : Key), V.ref q) ∈ kvs := List.mem_of_getElem? eq
        rw [valV_mem ndk em]
        refine ⟨BK, dx, _, ho1, B.cl, B.n2, .ref d, rfl, d, rfl, _, .inl ⟨kvs, Sum.inr n, .inl hd1, rfl, (valV_mem ndk em).symm⟩, ?_⟩
        exact qG i g ei hn q H1 hq k1
      · have hk : (Sum.inr z : Key) ∉ kvs.map (·.1) := by
          rw [hf.1]
          intro h
          obtain ⟨z', hz', e⟩ := List.mem_map.mp h
          cases e
          exact hz (List.mem_map_of_mem hz')
        rw [valV_fresh hk]
        exact hn1 (.inr hz)
structure BtC (K : PySem.W.Frag) (mg : Str → Option Value) (tL : Tok) (T_PAIRS : Addr) : Prop extends BtB mg tL, Bt K mg T_PAIRS
/-- ahead of the i-th name: the list at D has what the fences say of the pair -/
def KeIn (D : Addr) (H : Hp) (fs : List (Str × (Pr → Bool))) (zs : List Str) (a b : Str) (i : Nat) (H' : Hp) : Prop := ∃ gs : List (Pr → Bool), gs.length = i ∧ H' D = some (.lst ((gs.map fun g => g (a, b)).map V.bl)) ∧ (∀ (j : Nat) z, j < i → zs[j]? = some z → nameS z = true ∧ ∃ (i' : Nat) (g : Pr → Bool), fs[i']? = some (z, g) ∧ gs[j]? = some g) ∧ Kp [] H H'
def spKeeps (K : PySem.W.Frag) (BK PC BP NF : Addr) : Sp := fun vs H Q E => ∃ (o t : Addr) (f : Pr → Bool) (fs : List (Str × (Pr → Bool))) (a b : Str) (zs : List Str), vs = [.ref o, .str a, .str b, .ref t] ∧ BookAt K BK PC H o f fs ∧ SqT K H t (zs.map V.str) ∧ zs.length ≤ 1000 ∧ (∀ z ∈ zs, z.length ≤ 1000) ∧ SeqAt.shaped (pD (a, b)) = true ∧
  (∀ gs : List (Pr → Bool), (a, b) ∈ pairsL → gs.length = zs.length → (∀ (j : Nat) z, zs[j]? = some z → nameS z = true ∧ ∃ (i : Nat) (g : Pr → Bool), fs[i]? = some (z, g) ∧ gs[j]? = some g) → ∀ H', Kp [] H H' → Q (.bl (f (a, b) || gs.any fun g => g (a, b))) H') ∧
  ((a, b) ∉ pairsL → ∀ (v : V) (e : Addr) (H' : Hp), H e = none → H' e = some (.xd [("pair", v)]) → Dp K H' v (pD (a, b)) → Kp [] H H' → E (.ref BP) (some e) H') ∧
  (∀ (j : Nat) z, (a, b) ∈ pairsL → zs[j]? = some z → (nameS z = false ∨ z ∉ fs.map (·.1)) → (∀ (i : Nat) y, i < j → zs[i]? = some y → nameS y = true ∧ y ∈ fs.map (·.1)) → ∀ (e : Addr) (H' : Hp), H e = none → H' e = some (.xd [("name", .str z)]) → Kp [] H H' → E (.ref NF) (some e) H')
theorem ok_Book_keeps {f : Addr} {fd : FuncData} {dvs : List V} {T_PAIRS : Addr} (F : FunD K "keeps" "Book.keeps" (defArgs s_Book_keeps) (defBody s_Book_keeps) (defScope s_Book_keeps) dvs [] f fd) (T : BtC K mg tL T_PAIRS) (B : BkC K mg BK) (C : PrC K mg PC) {NF BP fB fX : Addr} {fdB fdX : FuncData} (E_BadPair : Er1 P w K mg base "BadPair" "pair" BP fB fdB ["self", "pair"] (fun _ => True))
    (ME_Book_fence : Meth K BK "fence" fX) (bM_Book_fence : Binds K fdX ["self", "name"] []) (G_Book_fence : FnOk P w K mg base (L2.CX P w) 3 fX fdX ["self", "name"] (spFence K BK PC NF))
    {fC : Addr} {fdC : FuncData} (IN_Pairs : InC K PC fC) (b_Pairs_contains : Binds K fdC ["self", "x"] []) (G_Pairs_contains : FnOk P w K mg base CX0 1 fC fdC ["self", "x"] (spCont K PC)) : FnOk P w K mg base (L2.CX P w) 4 f fd ["self", "first", "second", "between"] (spKeeps K BK PC BP NF) := by
  refine F.ok (CX := L2.CX P w) sc_Book_keeps (fun vs H Q E h => ?_) (fun cdv A outer s H vs Q E hr h => ?_)
  · obtain ⟨_, _, _, _, _, _, _, rfl, _⟩ := h
    rfl
  · obtain ⟨o, t, f, fs, a, b, zs, rfl, hB, hT, zl, zn, sh, qG, qP, qN⟩ := h
    have hu := hu_of hr
    refine ⟨_, (pss_cons (ps_set (i := 4) sc_Book_keeps.nd rfl (Or.inr rfl) (pe_tup (pa_cons (pv 1) (pa_cons (pv 2) pa_nil))))
      (pss_cons (ps_if (pt_cmpR (op_notInT (hu5 hr)) (pv 4) (pe_glob (v := .ref T_PAIRS) rfl T.c_PAIRS rfl) (by rfl)) (pss_one (ps_raise rfl (takes_of rfl rfl rfl rfl) (pmk_oex E_BadPair.ox E_BadPair.ic E_BadPair.ti E_BadPair.G (hr.mono (by decide)) E_BadPair.b .nil passL rfl E_BadPair.k (pa_cons (pv 4) pa_nil)))) pss_nil)
      (pss_cons (ps_setLcX (E := E) (i := 5) (own := [("name", 6)]) (g := (gName 6)) (takes_of rfl rfl rfl rfl) rfl rfl rfl sc_Book_keeps.nd rfl rfl (sw_true rfl rfl rfl (by decide +kernel)) (pi_tup (pv 3)) (blkOk_by (N := ["self", "first", "second", "between", "pair", "kept", "name"]) (sc := defScope s_Book_keeps) (by decide +kernel)) (fun _ _ _ _ _ => (pg_name (i := 6) sc_Book_keeps.nd rfl (Or.inl rfl))) (fun _ _ _ _ _ _ hxx => (pe_cmpR (op_inO IN_Pairs G_Pairs_contains b_Pairs_contains (hr.mono (by decide)) pass0) (pv 4) (pe_meth (pv 0) B.cl ME_Book_fence G_Book_fence (hr.mono (by decide)) bM_Book_fence .nil hxx (pa_cons (pv 6) pa_nil)) (by rfl))))
      (pss_one (ps_ret (pe_or (pe_cmpR (op_inO IN_Pairs G_Pairs_contains b_Pairs_contains (hr.mono (by decide)) pass0) (pv 4) (pe_fld (pv 0) rfl) (by rfl)) (pe_one (pe_callB (id := "any") (r := rAny K) (cr_any rfl) (by rfl) T.b_any (by decide +kernel) (pa_cons (pv 5) pa_nil))))))))), ?_⟩
    try simp (maxSteps := 1000000) only [tSeq, tIfS, tTest, tOp, tUn, tCB, tCons, tNil, tVar, tC, rI0, rI, rU, rEq, rNe, tRet, tRetN, tAsg, gName, gSub, tBM, tBM0, tNext, tB, tNot, tAnd, tOr, tIf, tCall, tDrop, tBreak, tCont, L2.start, tDGet, sDPut, tTup, tLst, tDNewK, tRevL, rCat, rAppend, rPop, rSetL, tAndV, tOrV, tNotV, tSl, tPart, tNoPart, tM1, gTup, gCons, gNil, cxK, cxnK, List.map_cons, List.map_nil, List.length_cons, List.length_nil, List.replicate, List.cons_append, List.nil_append, List.append_nil, List.set_cons_zero, List.set_cons_succ, List.getElem?_cons_zero, List.getElem?_cons_succ, Option.some.injEq, V.ref.injEq, V.int.injEq, V.str.injEq, V.bl.injEq, V.ty.injEq, exists_eq_left', exists_eq_left, exists_and_left, List.cons.injEq, and_true, true_and, sc_ii, sc_ss, sc_bb, sc_ni, sc_in, sc_is, sc_si, sc_nn, decide_true, decide_false, reduceCtorEq, Bool.false_eq_true, if_true, if_false, ite_true, ite_false, exists_const, eq_self, false_and, and_false, or_false, false_or, exists_false, Evl.rLenS, rSum, wipe, tYes, exists_eq, exists_eq', rIxL, rIxT, rIxS, exists_and_right, gt_iff_lt, not_true_eq_false, not_false_eq_true, Bool.not_true, Bool.not_false, decide_eq_true_eq, Nat.reduceSub, Nat.reduceAdd, List.append_assoc, tChain, tDIn, tDNotIn, sDDel, tAug, ipI]
    refine ⟨small (by decide), fun p np => ?_⟩
    obtain ⟨ps, hz⟩ := T.pk
    have shT : SeqAt.shaped (.tuple (pairsL.map pD)) = true := (shapedL (fitsP fun p h => h)).2
    have kp1 : Kp [] H (upd H p (.tup [.str a, .str b])) := Kp.new np
    have hp1 : (upd H p (.tup [.str a, .str b])) p = some (.tup [.str a, .str b]) := upd_same
    generalize (upd H p (.tup [.str a, .str b])) = H1 at kp1 hp1 ⊢
    have dpp : ∀ {H' : Hp}, Kp [] H1 H' → Dp K H' (.ref p) (pD (a, b)) := fun k => .tup (k.tp not0 (sq_t hp1)) (.cons (.str _) (.cons (.str _) .nil))
    refine ⟨pD (a, b), _, dpp (Kp.refl _ _), .tup (hz H1).1 (hz H1).2, sh, shT, ?_⟩
    rw [any_eq]
    by_cases hm : (a, b) ∈ pairsL
    · rw [decide_eq_true hm]
      try simp (maxSteps := 1000000) only [tSeq, tIfS, tTest, tOp, tUn, tCB, tCons, tNil, tVar, tC, rI0, rI, rU, rEq, rNe, tRet, tRetN, tAsg, gName, gSub, tBM, tBM0, tNext, tB, tNot, tAnd, tOr, tIf, tCall, tDrop, tBreak, tCont, L2.start, tDGet, sDPut, tTup, tLst, tDNewK, tRevL, rCat, rAppend, rPop, rSetL, tAndV, tOrV, tNotV, tSl, tPart, tNoPart, tM1, gTup, gCons, gNil, cxK, cxnK, List.map_cons, List.map_nil, List.length_cons, List.length_nil, List.replicate, List.cons_append, List.nil_append, List.append_nil, List.set_cons_zero, List.set_cons_succ, List.getElem?_cons_zero, List.getElem?_cons_succ, Option.some.injEq, V.ref.injEq, V.int.injEq, V.str.injEq, V.bl.injEq, V.ty.injEq, exists_eq_left', exists_eq_left, exists_and_left, List.cons.injEq, and_true, true_and, sc_ii, sc_ss, sc_bb, sc_ni, sc_in, sc_is, sc_si, sc_nn, decide_true, decide_false, reduceCtorEq, Bool.false_eq_true, if_true, if_false, ite_true, ite_false, exists_const, eq_self, false_and, and_false, or_false, false_or, exists_false, Evl.rLenS, rSum, wipe, tYes, exists_eq, exists_eq', rIxL, rIxT, rIxS, exists_and_right, gt_iff_lt, not_true_eq_false, not_false_eq_true, Bool.not_true, Bool.not_false, decide_eq_true_eq, Nat.reduceSub, Nat.reduceAdd, List.append_assoc, tChain, tDIn, tDNotIn, sDDel, tAug, ipI]
      refine ⟨.ref t, rfl, t, rfl, ⟨_, kp1.tp not0 hT⟩, fun D nD => lc_tup (K := K) (a := t) (xs := zs.map V.str) (KeIn D H1 fs zs a b) ⟨[], rfl, upd_same, fun j z h => absurd h (by omega), Kp.new nD⟩ (fun i H' _ h => by obtain ⟨_, _, _, _, k⟩ := h; exact k.tp not0 (kp1.tp not0 hT)) ?_ ?_⟩
      · rintro i x H2 hx ⟨gs, gl, hD, hg, k2⟩
        rw [List.getElem?_map] at hx
        obtain ⟨z, ez, rfl⟩ : ∃ z, zs[i]? = some z ∧ V.str z = x := by
          cases e : zs[i]? with
          | none => rw [e] at hx; cases hx
          | some z => rw [e] at hx; exact ⟨z, rfl, Option.some.inj hx⟩
        have hB2 := hB.kp (kp1.trans k2)
        obtain ⟨dx, ko, d, kvs, ho, hk, hd, hf, fl, nd⟩ := id hB2
        try simp (maxSteps := 1000000) only [tSeq, tIfS, tTest, tOp, tUn, tCB, tCons, tNil, tVar, tC, rI0, rI, rU, rEq, rNe, tRet, tRetN, tAsg, gName, gSub, tBM, tBM0, tNext, tB, tNot, tAnd, tOr, tIf, tCall, tDrop, tBreak, tCont, L2.start, tDGet, sDPut, tTup, tLst, tDNewK, tRevL, rCat, rAppend, rPop, rSetL, tAndV, tOrV, tNotV, tSl, tPart, tNoPart, tM1, gTup, gCons, gNil, cxK, cxnK, List.map_cons, List.map_nil, List.length_cons, List.length_nil, List.replicate, List.cons_append, List.nil_append, List.append_nil, List.set_cons_zero, List.set_cons_succ, List.getElem?_cons_zero, List.getElem?_cons_succ, Option.some.injEq, V.ref.injEq, V.int.injEq, V.str.injEq, V.bl.injEq, V.ty.injEq, exists_eq_left', exists_eq_left, exists_and_left, List.cons.injEq, and_true, true_and, sc_ii, sc_ss, sc_bb, sc_ni, sc_in, sc_is, sc_si, sc_nn, decide_true, decide_false, reduceCtorEq, Bool.false_eq_true, if_true, if_false, ite_true, ite_false, exists_const, eq_self, false_and, and_false, or_false, false_or, exists_false, Evl.rLenS, rSum, wipe, tYes, exists_eq, exists_eq', rIxL, rIxT, rIxS, exists_and_right, gt_iff_lt, not_true_eq_false, not_false_eq_true, Bool.not_true, Bool.not_false, decide_eq_true_eq, Nat.reduceSub, Nat.reduceAdd, List.append_assoc, tChain, tDIn, tDNotIn, sDDel, tAug, ipI, tMeth]
        refine ⟨dx, _, ho, rfl, o, f, fs, z, rfl, hB2, zn z (List.mem_of_getElem? ez), fun i' g eg nz q H3 hq k3 => ?_, fun bad e H' ne he k => ?_⟩
        · obtain ⟨dx3, l3, us3, ho3, hl3, hD3⟩ := id hq
          try simp (maxSteps := 1000000) only [tSeq, tIfS, tTest, tOp, tUn, tCB, tCons, tNil, tVar, tC, rI0, rI, rU, rEq, rNe, tRet, tRetN, tAsg, gName, gSub, tBM, tBM0, tNext, tB, tNot, tAnd, tOr, tIf, tCall, tDrop, tBreak, tCont, L2.start, tDGet, sDPut, tTup, tLst, tDNewK, tRevL, rCat, rAppend, rPop, rSetL, tAndV, tOrV, tNotV, tSl, tPart, tNoPart, tM1, gTup, gCons, gNil, cxK, cxnK, List.map_cons, List.map_nil, List.length_cons, List.length_nil, List.replicate, List.cons_append, List.nil_append, List.append_nil, List.set_cons_zero, List.set_cons_succ, List.getElem?_cons_zero, List.getElem?_cons_succ, Option.some.injEq, V.ref.injEq, V.int.injEq, V.str.injEq, V.bl.injEq, V.ty.injEq, exists_eq_left', exists_eq_left, exists_and_left, List.cons.injEq, and_true, true_and, sc_ii, sc_ss, sc_bb, sc_ni, sc_in, sc_is, sc_si, sc_nn, decide_true, decide_false, reduceCtorEq, Bool.false_eq_true, if_true, if_false, ite_true, ite_false, exists_const, eq_self, false_and, and_false, or_false, false_or, exists_false, Evl.rLenS, rSum, wipe, tYes, exists_eq, exists_eq', rIxL, rIxT, rIxS, exists_and_right, gt_iff_lt, not_true_eq_false, not_false_eq_true, Bool.not_true, Bool.not_false, decide_eq_true_eq, Nat.reduceSub, Nat.reduceAdd, List.append_assoc, tChain, tDIn, tDNotIn, sDDel, tAug, ipI, rInO]
          refine ⟨⟨dx3, _, ho3⟩, q, g, .ref p, pD (a, b), rfl, hq, dpp (k2.trans k3), sh, _, rfl, ?_⟩
          have e : (((pairsL.filter g).map pD).any fun z => PyData.eqv z (pD (a, b))) = g (a, b) := pick_eq hm
          rw [e]
          have gl2 : gs.length ≤ 1000 := by rw [gl]; have := (List.getElem?_eq_some_iff.mp ez).1; omega
          refine ⟨_, k3 _ _ not0 hD, by rw [List.length_map, List.length_map]; exact smallL (by omega), gs ++ [g], by rw [List.length_append, gl]; rfl, by rw [upd_same, List.map_append, List.map_append]; rfl, fun j y hj ey => ?_, (k2.trans k3).wr nD⟩
          by_cases ji : j = i
          · subst ji
            rw [ez] at ey; cases ey
            exact ⟨nz, i', g, eg, by rw [List.getElem?_append_right (by omega), gl, Nat.sub_self]; rfl⟩
          · obtain ⟨n1, i2, g2, e1, e2⟩ := hg j y (by omega) ey
            exact ⟨n1, i2, g2, e1, by rw [List.getElem?_append_left (by omega)]; exact e2⟩
        · have k12 := kp1.trans k2
          exact qN i z hm ez bad (fun i2 y h2 ey => by
            obtain ⟨n1, i3, g3, e1, _⟩ := hg i2 y h2 ey
            exact ⟨n1, List.mem_map_of_mem (List.mem_of_getElem? e1)⟩) e H' (k12.free0 ne) he (k12.trans k)
      · rintro H2 ⟨gs, gl, hD, hg, k2⟩
        obtain ⟨dx, ko, d, kvs, ho, hk, hd, hf, fl, nd⟩ := hB.kp (kp1.trans k2)
        try simp (maxSteps := 1000000) only [tSeq, tIfS, tTest, tOp, tUn, tCB, tCons, tNil, tVar, tC, rI0, rI, rU, rEq, rNe, tRet, tRetN, tAsg, gName, gSub, tBM, tBM0, tNext, tB, tNot, tAnd, tOr, tIf, tCall, tDrop, tBreak, tCont, L2.start, tDGet, sDPut, tTup, tLst, tDNewK, tRevL, rCat, rAppend, rPop, rSetL, tAndV, tOrV, tNotV, tSl, tPart, tNoPart, tM1, gTup, gCons, gNil, cxK, cxnK, List.map_cons, List.map_nil, List.length_cons, List.length_nil, List.replicate, List.cons_append, List.nil_append, List.append_nil, List.set_cons_zero, List.set_cons_succ, List.getElem?_cons_zero, List.getElem?_cons_succ, Option.some.injEq, V.ref.injEq, V.int.injEq, V.str.injEq, V.bl.injEq, V.ty.injEq, exists_eq_left', exists_eq_left, exists_and_left, List.cons.injEq, and_true, true_and, sc_ii, sc_ss, sc_bb, sc_ni, sc_in, sc_is, sc_si, sc_nn, decide_true, decide_false, reduceCtorEq, Bool.false_eq_true, if_true, if_false, ite_true, ite_false, exists_const, eq_self, false_and, and_false, or_false, false_or, exists_false, Evl.rLenS, rSum, wipe, tYes, exists_eq, exists_eq', rIxL, rIxT, rIxS, exists_and_right, gt_iff_lt, not_true_eq_false, not_false_eq_true, Bool.not_true, Bool.not_false, decide_eq_true_eq, Nat.reduceSub, Nat.reduceAdd, List.append_assoc, tChain, tDIn, tDNotIn, sDDel, tAug, ipI, tFld, rInO]
        obtain ⟨dx3, l3, us3, ho3, hl3, hD3⟩ := id hk
        refine ⟨BK, dx, _, ho, B.cl, B.n1, .ref ko, rfl, ko, rfl, ⟨dx3, _, ho3⟩, ko, f, .ref p, pD (a, b), rfl, hk, dpp k2, sh, _, rfl, ?_⟩
        have e : (((pairsL.filter f).map pD).any fun z => PyData.eqv z (pD (a, b))) = f (a, b) := pick_eq hm
        rw [e]
        have q' := qG gs hm (by rw [gl, List.length_map]) (fun j z ez => hg j z (by rw [List.length_map]; exact (List.getElem?_eq_some_iff.mp ez).1) ez) H2 (kp1.trans k2)
        cases hfp : f (a, b) with
        | true => rw [hfp] at q'; exact q'
        | false =>
          rw [hfp] at q'
          try simp (maxSteps := 1000000) only [tSeq, tIfS, tTest, tOp, tUn, tCB, tCons, tNil, tVar, tC, rI0, rI, rU, rEq, rNe, tRet, tRetN, tAsg, gName, gSub, tBM, tBM0, tNext, tB, tNot, tAnd, tOr, tIf, tCall, tDrop, tBreak, tCont, L2.start, tDGet, sDPut, tTup, tLst, tDNewK, tRevL, rCat, rAppend, rPop, rSetL, tAndV, tOrV, tNotV, tSl, tPart, tNoPart, tM1, gTup, gCons, gNil, cxK, cxnK, List.map_cons, List.map_nil, List.length_cons, List.length_nil, List.replicate, List.cons_append, List.nil_append, List.append_nil, List.set_cons_zero, List.set_cons_succ, List.getElem?_cons_zero, List.getElem?_cons_succ, Option.some.injEq, V.ref.injEq, V.int.injEq, V.str.injEq, V.bl.injEq, V.ty.injEq, exists_eq_left', exists_eq_left, exists_and_left, List.cons.injEq, and_true, true_and, sc_ii, sc_ss, sc_bb, sc_ni, sc_in, sc_is, sc_si, sc_nn, decide_true, decide_false, reduceCtorEq, Bool.false_eq_true, if_true, if_false, ite_true, ite_false, exists_const, eq_self, false_and, and_false, or_false, false_or, exists_false, Evl.rLenS, rSum, wipe, tYes, exists_eq, exists_eq', rIxL, rIxT, rIxS, exists_and_right, gt_iff_lt, not_true_eq_false, not_false_eq_true, Bool.not_true, Bool.not_false, decide_eq_true_eq, Nat.reduceSub, Nat.reduceAdd, List.append_assoc, tChain, tDIn, tDNotIn, sDDel, tAug, ipI]
          refine ⟨D, _, rfl, sq_l hD, ?_⟩
          have ea : ((gs.map fun g => g (a, b)).any id) = gs.any fun g => g (a, b) := by rw [List.any_map]; rfl
          rw [ea]
          exact q'
    · rw [decide_eq_false hm]
      try simp (maxSteps := 1000000) only [tSeq, tIfS, tTest, tOp, tUn, tCB, tCons, tNil, tVar, tC, rI0, rI, rU, rEq, rNe, tRet, tRetN, tAsg, gName, gSub, tBM, tBM0, tNext, tB, tNot, tAnd, tOr, tIf, tCall, tDrop, tBreak, tCont, L2.start, tDGet, sDPut, tTup, tLst, tDNewK, tRevL, rCat, rAppend, rPop, rSetL, tAndV, tOrV, tNotV, tSl, tPart, tNoPart, tM1, gTup, gCons, gNil, cxK, cxnK, List.map_cons, List.map_nil, List.length_cons, List.length_nil, List.replicate, List.cons_append, List.nil_append, List.append_nil, List.set_cons_zero, List.set_cons_succ, List.getElem?_cons_zero, List.getElem?_cons_succ, Option.some.injEq, V.ref.injEq, V.int.injEq, V.str.injEq, V.bl.injEq, V.ty.injEq, exists_eq_left', exists_eq_left, exists_and_left, List.cons.injEq, and_true, true_and, sc_ii, sc_ss, sc_bb, sc_ni, sc_in, sc_is, sc_si, sc_nn, decide_true, decide_false, reduceCtorEq, Bool.false_eq_true, if_true, if_false, ite_true, ite_false, exists_const, eq_self, false_and, and_false, or_false, false_or, exists_false, Evl.rLenS, rSum, wipe, tYes, exists_eq, exists_eq', rIxL, rIxT, rIxS, exists_and_right, gt_iff_lt, not_true_eq_false, not_false_eq_true, Bool.not_true, Bool.not_false, decide_eq_true_eq, Nat.reduceSub, Nat.reduceAdd, List.append_assoc, tChain, tDIn, tDNotIn, sDDel, tAug, ipI]
      refine ⟨.ref p, rfl, err1_made (P := fun _ => True) True.intro fun e H' ne he k => ?_⟩
      exact qP hm (.ref p) e H' (kp1.free0 ne) he (dpp k) (kp1.trans k)
end
end My

set_option Elab.async false
set_option linter.all false
set_option maxRecDepth 100000
set_option maxHeartbeats 4000000
namespace My
open PySem L2 NdefX
structure BtI (K : PySem.W.Frag) (mg : Str → Option Value) (tL t1 t2 : Tok) (T_PAIRS PC fI : Addr) : Prop extends BtC K mg tL T_PAIRS where
  c_FULL : mg "FULL" = some (.str "full" t1)
  c_MOST_FENCES : mg "MOST_FENCES" = some (.int 2 t2)
  M_Pairs : Mk K PC fI
section
variable {P : Program} {w : World} {K : PySem.W.Frag} {mg : Str → Option Value} {base : Heap} {tL t1 t2 : Tok} {BK PC T_PAIRS : Addr}
def SmallI (v : V) : Prop := ∃ i : Int, v = .int i ∧ 0 ≤ i ∧ i ≤ 1000
def goodF (z : Str) : Bool := !decide (z = ("full" : Str)) && fenS z
theorem forL_src34 {K : PySem.W.Frag} {te : TE} {g : TG} {tb : TS} {D : Ends} {σ : L2.St} {H : Hp} (h : te σ H fun v H1 => tFor (iList K (tC v)) g tb D σ H1) : tFor (iList K te) g tb D σ H := h
theorem forLC34 {K : PySem.W.Frag} {g : TG} {tb : TS} {D : Ends} {σ : L2.St} {H : Hp} {a : Addr} {xs : List V} (Pv : Nat → L2.St → Hp → Prop) (hS : SqL K H a xs) (h0 : Pv 0 σ H) (hl : ∀ j σ H, j ≤ xs.length → Pv j σ H → SqL K H a xs)
    (hs : ∀ j x σ H, xs[j]? = some x → Pv j σ H → g x σ H fun σ2 H2 => tb { D with nx := Pv (j + 1), ct := Pv (j + 1), bk := D.nx } σ2 H2) (hd : ∀ σ H, Pv xs.length σ H → D.nx σ H) : tFor (iList K (tC (.ref a))) g tb D σ H :=
  ⟨a, rfl, ⟨xs, hS⟩, for_list Pv h0 hl hs hd⟩
theorem PrAt.kpN {K : PySem.W.Frag} {PC : Addr} {H H' : Hp} {S : List Addr} {x : Addr} {f : Pr → Bool} (h : PrAt K PC H x f) (k : Kp S H H') (n : NoSq H S) (hx : x ∉ S) : PrAt K PC H' x f := by
  obtain ⟨dx, l, vs, a, b, c⟩ := h
  exact ⟨dx, l, vs, k _ _ hx a, k _ _ (fun hm => (n l hm).1 vs b) b, dpAllN k n c⟩
theorem ne_of_none2 {H : Hp} {a b : Addr} {o : HO} (h : H a = some o) (n : H b = none) : b ≠ a := fun z => by rw [z, h] at n; cases n
def BiPre (K : PySem.W.Frag) (PC o ko : Addr) (vf : V) (fs : List (Str × (Pr → Bool))) (H : Hp) (σ : L2.St) (H9 : Hp) : Prop := ∃ (p : Addr) (kvs : List (Key × V)), σ = [some (.ref o), some (.ref ko), some vf, some (.ref p), none] ∧ H p = none ∧ H9 p = some (.dK kvs) ∧ Fen K PC H9 kvs fs ∧ Kp [] H H9
def BiIn (o ko : Addr) (vf : V) (p : Addr) (ys : List Str) (H : Hp) (i : Nat) (σ : L2.St) (H' : Hp) : Prop := ∃ c : Option V, σ = [some (.ref o), some (.ref ko), some vf, some (.ref p), c] ∧ Kp [] H H' ∧ ∀ (j : Nat) y, j < i → ys[j]? = some y → goodF y = true
def spBI (K : PySem.W.Frag) (BK PC TL BF : Addr) : Sp := fun vs H Q E => ∃ (o dx ko : Addr) (vf : V) (f : Pr → Bool) (fs : List (Str × (Pr → Bool))), vs = [.ref o, .ref ko, vf] ∧ H o = some (.ins BK dx []) ∧ PrAt K PC H ko f ∧ o ≠ ko ∧
  ((vf = .non ∧ fs = []) ∨ ∃ (d : Addr) (kvs : List (Key × V)), vf = .ref d ∧ H d = some (.dK kvs) ∧ Fen K PC H kvs fs) ∧ (fs.map (·.1)).Nodup ∧ fs.length ≤ 50 ∧ (∀ x ∈ fs, x.1.length ≤ 1000) ∧
  (fs.length ≤ 2 → (∀ x ∈ fs, goodF x.1 = true) → ∀ H', BookAt K BK PC H' o f (fs ++ [(("full" : Str), fun _ => true)]) → Kp [o] H H' → Q .non H') ∧
  (2 < fs.length → ∀ (e : Addr) (H' : Hp), H e = none → H' e = some (.xd [("bound", .int 2)]) → Kp [] H H' → E (.ref TL) (some e) H') ∧
  (fs.length ≤ 2 → ∀ (ys : List Str) (i : Nat) (z : Str), ys.Perm (fs.map (·.1)) → PyProof.Rows.sortedS ys = true → ys[i]? = some z → goodF z = false → (∀ (j : Nat) y, j < i → ys[j]? = some y → goodF y = true) → ∀ (e : Addr) (H' : Hp), H e = none → H' e = some (.xd [("name", .str z)]) → Kp [] H H' → E (.ref BF) (some e) H')
theorem ok_Book_init {f : Addr} {fd : FuncData} {dvs : List V} {fI : Addr} (F : FunD K "__init__" "Book.__init__" (defArgs s_Book_init) (defBody s_Book_init) (defScope s_Book_init) dvs [] f fd) (T : BtI K mg tL t1 t2 T_PAIRS PC fI) (B : BkC K mg BK) (C : PrC K mg PC) {TL BF BP fT fB : Addr} {fdT fdB fdI : FuncData} (E_TooLarge : Er1 P w K mg base "TooLarge" "bound" TL fT fdT ["self", "bound"] SmallI) (E_BadFence : Er1 P w K mg base "BadFence" "name" BF fB fdB ["self", "name"] (fun _ => True))
    {fa : Addr} {fda : FuncData} (D_is_fence_name : Df K mg "is_fence_name" s_is_fence_name ["name"] fa fda) (G_is_fence_name : FnOk P w K mg base CX0 2 fa fda ["name"] spFen)
    (bI_Pairs : Binds K fdI ["self", "pairs"] []) (G_Pairs_init : FnOk P w K mg base (L2.CX P w) 3 fI fdI ["self", "pairs"] (spPI K PC BP)) : FnOk P w K mg base (L2.CX P w) 5 f fd ["self", "kept", "fences"] (spBI K BK PC TL BF) := by
  refine F.ok (CX := L2.CX P w) sc_Book_init (fun vs H Q E h => ?_) (fun cdv A outer s H vs Q E hr h => ?_)
  · obtain ⟨_, _, _, _, _, _, rfl, _⟩ := h
    rfl
  · obtain ⟨o, dx, ko, vf, ff, fs, rfl, ho, hk, hok, hf, nd, fl, zl, qG, qT, qB⟩ := h
    have hu := hu_of hr
    have M_Pairs := T.M_Pairs
    have hcalm : True := True.intro
    obtain ⟨t, ht, hq⟩ : ∃ t, PSs (cxOf (L2.CX P w) P w K mg base ["self", "kept", "fences", "further", "name"] "Book.__init__" (defScope s_Book_init) f cdv A outer s H E) ((defBody s_Book_init).drop 1) t ∧ ∀ σ H9, BiPre K PC o ko vf fs H σ H9 → t { nx := fun _ H' => Q .non H', rt := Q } σ H9 := by
      refine ⟨_, (pss_cons (ps_if (pt_cmpR op_gt (pe_callB call_lenD (by rfl) T.b_len PySem.boot_len (pa_cons (pv 3) pa_nil)) (pe_glob (v := .int 2) rfl T.c_MOST_FENCES ⟨_, rfl⟩) (nomark _)) (pss_one (ps_raise rfl (takes_of rfl rfl rfl rfl) (pmk_oex E_TooLarge.ox E_TooLarge.ic E_TooLarge.ti E_TooLarge.G (hr.mono (by decide)) E_TooLarge.b .nil passL rfl E_TooLarge.k (pa_cons (pe_glob (v := .int 2) rfl T.c_MOST_FENCES ⟨_, rfl⟩) pa_nil)))) pss_nil)
      (pss_cons (ps_for (passes_of rfl) rfl (pi_list (pe_callB (id := "sorted") (call_sortedD (by first | exact hcalm | rfl)) (by rfl) T.b_sorted (by decide +kernel) (pa_cons (pv 3) pa_nil))) (pg_name (i := 4) sc_Book_init.nd rfl (Or.inl rfl)) (pss_one (ps_if (PW.pt (pw_or (pt_cmpR op_eq (pv 4) (pe_glob (v := .str ("full" : Str)) rfl T.c_FULL ⟨_, rfl⟩) (nomark _)) (pw_or1 (pt_not (pt_val (pe_call G_is_fence_name (hr.mono (by decide)) rfl D_is_fence_name.g D_is_fence_name.F.kp D_is_fence_name.b .nil pass0 (pa_cons (pv 4) pa_nil))))))) (pss_one (ps_raise rfl (takes_of rfl rfl rfl rfl) (pmk_oex E_BadFence.ox E_BadFence.ic E_BadFence.ti E_BadFence.G (hr.mono (by decide)) E_BadFence.b .nil passL rfl E_BadFence.k (pa_cons (pv 4) pa_nil)))) pss_nil)))
      (pss_cons (ps_fld (pv 0) (pv 1) rfl)
      (pss_one (ps_fld (pv 0) (pe_dstar (pv 3) (pe_glob (v := .str ("full" : Str)) rfl T.c_FULL ⟨_, rfl⟩) (pe_make M_Pairs G_Pairs_init (hr.mono (by decide)) rfl C.k bI_Pairs .nil (passes_call (E := E) (takes_of rfl rfl rfl rfl) (fun _ _ _ _ h => h)) (pa_cons (pe_glob (v := .ref T_PAIRS) rfl T.c_PAIRS rfl) pa_nil))) rfl))))), ?_⟩
      rintro σ H9 ⟨p, kvs, rfl, np, hp, hF, k9⟩
      have klen : kvs.length = fs.length := by have := congrArg List.length hF.1; simpa using this
      try simp (maxSteps := 1000000) only [tSeq, tIfS, tTest, tOp, tUn, tCB, tCons, tNil, tVar, tC, rI0, rI, rU, rEq, rNe, tRet, tRetN, tAsg, gName, gSub, tBM, tBM0, tNext, tB, tNot, tAnd, tOr, tIf, tCall, tDrop, tBreak, tCont, L2.start, tDGet, sDPut, tTup, tLst, tDNewK, tRevL, rCat, rAppend, rPop, rSetL, tAndV, tOrV, tNotV, tSl, tPart, tNoPart, tM1, gTup, gCons, gNil, cxK, cxnK, List.map_cons, List.map_nil, List.length_cons, List.length_nil, List.replicate, List.cons_append, List.nil_append, List.append_nil, List.set_cons_zero, List.set_cons_succ, List.getElem?_cons_zero, List.getElem?_cons_succ, Option.some.injEq, V.ref.injEq, V.int.injEq, V.str.injEq, V.bl.injEq, V.ty.injEq, exists_eq_left', exists_eq_left, exists_and_left, List.cons.injEq, and_true, true_and, sc_ii, sc_ss, sc_bb, sc_ni, sc_in, sc_is, sc_si, sc_nn, decide_true, decide_false, reduceCtorEq, Bool.false_eq_true, if_true, if_false, ite_true, ite_false, exists_const, eq_self, false_and, and_false, or_false, false_or, exists_false, Evl.rLenS, rSum, wipe, tYes, exists_eq, exists_eq', rIxL, rIxT, rIxS, exists_and_right, gt_iff_lt, not_true_eq_false, not_false_eq_true, Bool.not_true, Bool.not_false, decide_eq_true_eq, Nat.reduceSub, Nat.reduceAdd, List.append_assoc, tChain, tDIn, tDNotIn, sDDel, tAug, ipI]
      refine ⟨_, hp, ?_⟩
      rw [klen]
      refine ite2 (fun h1 => ?_) (fun h1 => ?_)
      · exact err1_made (P := SmallI) ⟨2, rfl, by decide, by decide⟩ fun e H' ne he k => qT (by omega) e H' (k9.free0 ne) he (k9.trans k)
      have fl2 : fs.length ≤ 2 := by omega
      refine forL_src34 ?_
      try simp (maxSteps := 1000000) only [tSeq, tIfS, tTest, tOp, tUn, tCB, tCons, tNil, tVar, tC, rI0, rI, rU, rEq, rNe, tRet, tRetN, tAsg, gName, gSub, tBM, tBM0, tNext, tB, tNot, tAnd, tOr, tIf, tCall, tDrop, tBreak, tCont, L2.start, tDGet, sDPut, tTup, tLst, tDNewK, tRevL, rCat, rAppend, rPop, rSetL, tAndV, tOrV, tNotV, tSl, tPart, tNoPart, tM1, gTup, gCons, gNil, cxK, cxnK, List.map_cons, List.map_nil, List.length_cons, List.length_nil, List.replicate, List.cons_append, List.nil_append, List.append_nil, List.set_cons_zero, List.set_cons_succ, List.getElem?_cons_zero, List.getElem?_cons_succ, Option.some.injEq, V.ref.injEq, V.int.injEq, V.str.injEq, V.bl.injEq, V.ty.injEq, exists_eq_left', exists_eq_left, exists_and_left, List.cons.injEq, and_true, true_and, sc_ii, sc_ss, sc_bb, sc_ni, sc_in, sc_is, sc_si, sc_nn, decide_true, decide_false, reduceCtorEq, Bool.false_eq_true, if_true, if_false, ite_true, ite_false, exists_const, eq_self, false_and, and_false, or_false, false_or, exists_false, Evl.rLenS, rSum, wipe, tYes, exists_eq, exists_eq', rIxL, rIxT, rIxS, exists_and_right, gt_iff_lt, not_true_eq_false, not_false_eq_true, Bool.not_true, Bool.not_false, decide_eq_true_eq, Nat.reduceSub, Nat.reduceAdd, List.append_assoc, tChain, tDIn, tDNotIn, sDDel, tAug, ipI]
      refine ⟨kvs, .inl hp, fs.map (·.1), by rw [hF.1, List.map_map]; rfl, by rw [List.length_map]; omega, fun ys q perm srt nq => ?_⟩
      have kq : Kp [] H9 (upd H9 q (.lst (ys.map V.str))) := Kp.new nq
      have hq9 : (upd H9 q (.lst (ys.map V.str))) q = some (.lst (ys.map V.str)) := upd_same
      generalize (upd H9 q (.lst (ys.map V.str))) = G at kq hq9 ⊢
      have k9G := k9.trans kq
      refine forLC34 (BiIn o ko vf p ys G) (sq_l hq9) ⟨none, rfl, Kp.refl _ _, fun j y h => absurd h (by omega)⟩ (fun j σ H7 _ h => by obtain ⟨_, _, k, _⟩ := h; exact k.ls not0 (sq_l hq9)) (fun j x σ H2 hx h => ?_) fun σ H2 h => ?_
      · obtain ⟨c, rfl, k2, hg⟩ := h
        rw [List.getElem?_map] at hx
        obtain ⟨z, ez, rfl⟩ : ∃ z, ys[j]? = some z ∧ V.str z = x := by
          cases e : ys[j]? with
          | none => rw [e] at hx; cases hx
          | some z => rw [e] at hx; exact ⟨z, rfl, Option.some.inj hx⟩
        have zm : z ∈ fs.map (·.1) := perm.mem_iff.mp (List.mem_of_getElem? ez)
        have zl1 : z.length ≤ 1000 := by
          obtain ⟨x, hx2, rfl⟩ := List.mem_map.mp zm
          exact zl x hx2
        have bad : goodF z = false → ∀ H3, Kp [] H2 H3 → tMkO BF (spErr1 BF "name" fun _ => True) [] (tCons (tVar 4) tNil) [some (.ref o), some (.ref ko), some vf, some (.ref p), some (.str z)] H3 (fun cls d H' => E cls d H') := fun hb H3 k3 =>
          ⟨.str z, rfl, err1_made (P := fun _ => True) True.intro fun e H' ne he k => qB fl2 ys j z perm srt ez hb hg e H' (((k9G.trans k2).trans k3).free0 ne) he (((k9G.trans k2).trans k3).trans k)⟩
        try simp (maxSteps := 1000000) only [tSeq, tIfS, tTest, tOp, tUn, tCB, tCons, tNil, tVar, tC, rI0, rI, rU, rEq, rNe, tRet, tRetN, tAsg, gName, gSub, tBM, tBM0, tNext, tB, tNot, tAnd, tOr, tIf, tCall, tDrop, tBreak, tCont, L2.start, tDGet, sDPut, tTup, tLst, tDNewK, tRevL, rCat, rAppend, rPop, rSetL, tAndV, tOrV, tNotV, tSl, tPart, tNoPart, tM1, gTup, gCons, gNil, cxK, cxnK, List.map_cons, List.map_nil, List.length_cons, List.length_nil, List.replicate, List.cons_append, List.nil_append, List.append_nil, List.set_cons_zero, List.set_cons_succ, List.getElem?_cons_zero, List.getElem?_cons_succ, Option.some.injEq, V.ref.injEq, V.int.injEq, V.str.injEq, V.bl.injEq, V.ty.injEq, exists_eq_left', exists_eq_left, exists_and_left, List.cons.injEq, and_true, true_and, sc_ii, sc_ss, sc_bb, sc_ni, sc_in, sc_is, sc_si, sc_nn, decide_true, decide_false, reduceCtorEq, Bool.false_eq_true, if_true, if_false, ite_true, ite_false, exists_const, eq_self, false_and, and_false, or_false, false_or, exists_false, Evl.rLenS, rSum, wipe, tYes, exists_eq, exists_eq', rIxL, rIxT, rIxS, exists_and_right, gt_iff_lt, not_true_eq_false, not_false_eq_true, Bool.not_true, Bool.not_false, decide_eq_true_eq, Nat.reduceSub, Nat.reduceAdd, List.append_assoc, tChain, tDIn, tDNotIn, sDDel, tAug, ipI]
        refine ite2 (fun h1 => bad (by rw [h1]; rfl) H2 (Kp.refl _ _)) (fun h1 => ⟨z, rfl, zl1, fun H3 k3 => ⟨_, rfl, ?_⟩⟩)
        cases hz : fenS z with
        | false => exact bad (by unfold goodF; rw [hz, Bool.and_false]) H3 k3
        | true =>
          refine ⟨_, rfl, k2.trans k3, fun i y hi ey => ?_⟩
          by_cases ij : i = j
          · subst ij
            rw [ez] at ey; cases ey
            unfold goodF
            rw [hz, Bool.and_true, decide_eq_false h1]; rfl
          · exact hg i y (by omega) ey
      · obtain ⟨c, rfl, k2, hg⟩ := h
        have k92 := k9G.trans k2
        have ho2 := k92 _ _ not0 ho
        have hk2 := hk.kp k92
        have hF2 := (hF.kp kq).kp k2
        have hp2 := (kq.trans k2) _ _ not0 hp
        have po : p ≠ o := fun z => by rw [z, ho2] at hp2; cases hp2
        have good : ∀ x ∈ fs, goodF x.1 = true := fun x hx => by
          have hy := perm.mem_iff.mpr (List.mem_map_of_mem (f := (·.1)) hx)
          obtain ⟨j, ej⟩ := List.getElem?_of_mem hy
          exact hg j _ (by rw [List.length_map]; exact (List.getElem?_eq_some_iff.mp ej).1) ej
        have nfull : ("full" : Str) ∉ fs.map (·.1) := fun h => by
          obtain ⟨x, hx, e⟩ := List.mem_map.mp h
          have z := good x hx
          rw [e] at z
          have z0 : goodF ("full" : Str) = false := by decide +kernel
          rw [z0] at z; cases z
        try simp (maxSteps := 1000000) only [tSeq, tIfS, tTest, tOp, tUn, tCB, tCons, tNil, tVar, tC, rI0, rI, rU, rEq, rNe, tRet, tRetN, tAsg, gName, gSub, tBM, tBM0, tNext, tB, tNot, tAnd, tOr, tIf, tCall, tDrop, tBreak, tCont, L2.start, tDGet, sDPut, tTup, tLst, tDNewK, tRevL, rCat, rAppend, rPop, rSetL, tAndV, tOrV, tNotV, tSl, tPart, tNoPart, tM1, gTup, gCons, gNil, cxK, cxnK, List.map_cons, List.map_nil, List.length_cons, List.length_nil, List.replicate, List.cons_append, List.nil_append, List.append_nil, List.set_cons_zero, List.set_cons_succ, List.getElem?_cons_zero, List.getElem?_cons_succ, Option.some.injEq, V.ref.injEq, V.int.injEq, V.str.injEq, V.bl.injEq, V.ty.injEq, exists_eq_left', exists_eq_left, exists_and_left, List.cons.injEq, and_true, true_and, sc_ii, sc_ss, sc_bb, sc_ni, sc_in, sc_is, sc_si, sc_nn, decide_true, decide_false, reduceCtorEq, Bool.false_eq_true, if_true, if_false, ite_true, ite_false, exists_const, eq_self, false_and, and_false, or_false, false_or, exists_false, Evl.rLenS, rSum, wipe, tYes, exists_eq, exists_eq', rIxL, rIxT, rIxS, exists_and_right, gt_iff_lt, not_true_eq_false, not_false_eq_true, Bool.not_true, Bool.not_false, decide_eq_true_eq, Nat.reduceSub, Nat.reduceAdd, List.append_assoc, tChain, tDIn, tDNotIn, sDDel, tAug, ipI, sFld, tDSt, tMake]
        refine ⟨BK, dx, [], ho2, B.cl, B.n1, by decide, fun q1 nq1 => ⟨upd_same, kvs, ?_, ?_, by omega, fun p2 np2 x4 dx4 nx ndx hne => ?_⟩⟩
        · have pq : p ≠ q1 := fun z => by rw [← z, upd_ne po] at nq1; rw [hp2] at nq1; cases nq1
          rw [upd_ne pq, upd_ne po]; exact hp2
        · exact fun z => by rw [← z, upd_ne po] at nq1; rw [hp2] at nq1; cases nq1
        have kO : Kp [o] H2 (upd H2 o (.ins BK dx (putF "kept" (.ref ko) []))) := (Kp.refl [o] _).put (by simp)
        have hA : (upd H2 o (.ins BK dx (putF "kept" (.ref ko) []))) o = some (.ins BK dx [("kept", .ref ko)]) := upd_same
        generalize upd H2 o (.ins BK dx (putF "kept" (.ref ko) [])) = A0 at nq1 np2 nx ndx kO hA ⊢
        have kA : Kp [] A0 (upd (upd A0 q1 (.dK [])) q1 (.dK kvs)) := (Kp.new nq1).wr nq1
        have qp2 : q1 ≠ p2 := fun z => by rw [← z, upd_same] at np2; cases np2
        have np2A : A0 p2 = none := kA.free0 np2
        have kB : Kp [] A0 (upd (upd (upd A0 q1 (.dK [])) q1 (.dK kvs)) p2 (.dK [])) := kA.trans (Kp.new np2)
        have hHq : (upd (upd (upd A0 q1 (.dK [])) q1 (.dK kvs)) p2 (.dK [])) q1 = some (.dK kvs) := by rw [upd_ne qp2, upd_same]
        have hHp : (upd (upd (upd A0 q1 (.dK [])) q1 (.dK kvs)) p2 (.dK [])) p2 = some (.dK []) := upd_same
        generalize upd (upd (upd A0 q1 (.dK [])) q1 (.dK kvs)) p2 (.dK []) = HH at nx ndx kB hHq hHp ⊢
        obtain ⟨zs, hz⟩ := T.pk
        have w1 : Kp [] HH (upd HH dx4 (.own x4)) := Kp.new ndx
        have w2 : Kp [] HH (upd (upd HH dx4 (.own x4)) x4 (.ins PC dx4 [])) := w1.trans (Kp.new (by rw [upd_ne hne.symm]; exact nx))
        refine ⟨x4, dx4, T_PAIRS, zs, pairsL.map pD, rfl, upd_same, .inr (hz _).1, (hz _).2, fitsP (fun p h => h), by rw [List.length_map, pairs_len]; decide, fun _ l H' nl hL kx => ?_, fun i v dd _ ed hb _ e H' _ _ _ => ?_⟩
        · have kC : Kp [] HH H' := w2.one kx nx
          have hq' := kC _ _ not0 hHq
          have hp' := kC _ _ not0 hHp
          have kAH := kB.trans kC
          refine ⟨rfl, hp', hq', Sum.inr "full", rfl, BK, dx, [("kept", .ref ko)], ?_, B.cl, B.n2, (show (1 : Nat) < 1000 by decide), ?_⟩
          · exact ((kAH.wr np2A).wr nq1) _ _ not0 hA
          have hoHH : HH o = some (.ins BK dx [("kept", .ref ko)]) := kB _ _ not0 hA
          have hoH' := kC _ _ not0 hoHH
          have oq : q1 ≠ o := fun z => by rw [z] at hq'; rw [hoH'] at hq'; cases hq'
          have x4o : x4 ≠ o := ne_of_none2 hoHH nx
          have x4q : x4 ≠ q1 := ne_of_none2 hHq nx
          have x4p : x4 ≠ p2 := ne_of_none2 hHp nx
          have kS : Kp [p2, q1, o] H' (upd (upd (upd H' p2 (.dK [(Sum.inr "full", .ref x4)])) q1 (.dK (putK kvs (Sum.inr "full") (.ref x4)))) o (.ins BK dx (putF "_fences" (.ref q1) [("kept", .ref ko)]))) := (((Kp.refl _ _).put (by simp)).put (by simp)).put (by simp)
          have kT : Kp [o] H2 (upd (upd (upd H' p2 (.dK [(Sum.inr "full", .ref x4)])) q1 (.dK (putK kvs (Sum.inr "full") (.ref x4)))) o (.ins BK dx (putF "_fences" (.ref q1) [("kept", .ref ko)]))) := (kO.trans ((kAH.wr np2A).wr nq1).of0).put (by simp)
          have zo : (upd (upd (upd H' p2 (.dK [(Sum.inr "full", .ref x4)])) q1 (.dK (putK kvs (Sum.inr "full") (.ref x4)))) o (.ins BK dx (putF "_fences" (.ref q1) [("kept", .ref ko)]))) o = some (.ins BK dx [("kept", .ref ko), ("_fences", .ref q1)]) := upd_same
          have zq : (upd (upd (upd H' p2 (.dK [(Sum.inr "full", .ref x4)])) q1 (.dK (putK kvs (Sum.inr "full") (.ref x4)))) o (.ins BK dx (putF "_fences" (.ref q1) [("kept", .ref ko)]))) q1 = some (.dK (putK kvs (Sum.inr "full") (.ref x4))) := by rw [upd_ne oq, upd_same]
          generalize (upd (upd (upd H' p2 (.dK [(Sum.inr "full", .ref x4)])) q1 (.dK (putK kvs (Sum.inr "full") (.ref x4)))) o (.ins BK dx (putF "_fences" (.ref q1) [("kept", .ref ko)]))) = Z at kS kT zo zq ⊢
          have nS : NoSq H' [p2, q1, o] := fun y hy => by
            have : y = p2 ∨ y = q1 ∨ y = o := by simpa using hy
            rcases this with rfl | rfl | rfl
            · rw [hp']; exact ⟨fun _ z => (by cases z), fun _ z => (by cases z), fun _ _ z => (by cases z)⟩
            · rw [hq']; exact ⟨fun _ z => (by cases z), fun _ z => (by cases z), fun _ _ z => (by cases z)⟩
            · rw [hoH']; exact ⟨fun _ z => (by cases z), fun _ z => (by cases z), fun _ _ z => (by cases z)⟩
          have allP : PrAt K PC Z x4 (fun _ => true) := (PrAt.kpN hL.at kS nS (by simp [x4o, x4q, x4p])).same fun p hp => by
            unfold pick
            rw [any_eq]; exact decide_eq_true hp
          have nS2 : NoSq H2 [o] := noSq1 ho2
          have nq : ∀ {y g}, PrAt K PC H2 y g → y ∉ [o] := fun {y g} hy hm => by
            rw [List.mem_singleton.mp hm] at hy
            obtain ⟨_, _, _, e, _⟩ := hy
            rw [ho2] at e; cases e
          have nk : (Sum.inr "full" : Key) ∉ kvs.map (·.1) := by
            rw [hF.1]
            intro h
            obtain ⟨z', hz', e⟩ := List.mem_map.mp h
            exact nfull (by rw [← Sum.inr.inj e]; exact List.mem_map_of_mem hz')
          have ep : putK kvs (Sum.inr "full" : Key) (V.ref x4) = kvs ++ [((Sum.inr "full" : Key), V.ref x4)] := by
            unfold putK
            rw [if_neg]
            intro h
            obtain ⟨kv, hkv, e⟩ := List.any_eq_true.mp h
            exact nk (by rw [← of_decide_eq_true e]; exact List.mem_map_of_mem hkv)
          rw [ep] at zq
          refine qG fl2 good Z ⟨dx, ko, q1, _, zo, PrAt.kpN hk2 kT nS2 (nq hk2), zq, ⟨by rw [List.map_append, List.map_append, hF.1]; rfl, fun i n g ei => ?_⟩, by rw [List.length_append]; show fs.length + 1 ≤ 3; omega, ?_⟩ (k92.of0.trans kT)
          · by_cases il : i < fs.length
            · rw [List.getElem?_append_left il] at ei
              obtain ⟨y, e1, e2⟩ := hF2.2 i n g ei
              exact ⟨y, by rw [List.getElem?_append_left (by omega)]; exact e1, PrAt.kpN e2 kT nS2 (nq e2)⟩
            · rw [List.getElem?_append_right (by omega)] at ei
              have i0 : i - fs.length = 0 := by
                cases e : i - fs.length with
                | zero => rfl
                | succ m => rw [e] at ei; cases ei
              rw [i0] at ei
              cases ei
              exact ⟨x4, by rw [List.getElem?_append_right (by omega), klen, i0]; rfl, allP⟩
          · rw [List.map_append, List.nodup_append]
            refine ⟨nd, by simp, fun y hy w hw e => ?_⟩
            have hw : w = "full" := by simpa using hw
            rw [hw] at e
            exact nfull (e ▸ hy)
        · obtain ⟨p0, hp0, rfl⟩ := List.mem_map.mp (List.mem_of_getElem? ed)
          rw [isP_pair hp0] at hb; cases hb
    refine ⟨_, (pss_cons (ps_set (i := 3) sc_Book_init.nd rfl (Or.inl rfl) (pe_ifExp (pt_cmpR op_isN (pv 2) pe_non (nomark _)) pe_dnewK (pe_callTy call_dictD (by rfl) T.b_dict (by decide +kernel) (pa_cons (pv 2) pa_nil))))
      ht), ?_⟩
    try simp (maxSteps := 1000000) only [tSeq, tIfS, tTest, tOp, tUn, tCB, tCons, tNil, tVar, tC, rI0, rI, rU, rEq, rNe, tRet, tRetN, tAsg, gName, gSub, tBM, tBM0, tNext, tB, tNot, tAnd, tOr, tIf, tCall, tDrop, tBreak, tCont, L2.start, tDGet, sDPut, tTup, tLst, tDNewK, tRevL, rCat, rAppend, rPop, rSetL, tAndV, tOrV, tNotV, tSl, tPart, tNoPart, tM1, gTup, gCons, gNil, cxK, cxnK, List.map_cons, List.map_nil, List.length_cons, List.length_nil, List.replicate, List.cons_append, List.nil_append, List.append_nil, List.set_cons_zero, List.set_cons_succ, List.getElem?_cons_zero, List.getElem?_cons_succ, Option.some.injEq, V.ref.injEq, V.int.injEq, V.str.injEq, V.bl.injEq, V.ty.injEq, exists_eq_left', exists_eq_left, exists_and_left, List.cons.injEq, and_true, true_and, sc_ii, sc_ss, sc_bb, sc_ni, sc_in, sc_is, sc_si, sc_nn, decide_true, decide_false, reduceCtorEq, Bool.false_eq_true, if_true, if_false, ite_true, ite_false, exists_const, eq_self, false_and, and_false, or_false, false_or, exists_false, Evl.rLenS, rSum, wipe, tYes, exists_eq, exists_eq', rIxL, rIxT, rIxS, exists_and_right, gt_iff_lt, not_true_eq_false, not_false_eq_true, Bool.not_true, Bool.not_false, decide_eq_true_eq, Nat.reduceSub, Nat.reduceAdd, List.append_assoc, tChain, tDIn, tDNotIn, sDDel, tAug, ipI]
    rcases hf with ⟨rfl, rfl⟩ | ⟨d, kvs, rfl, hd, hF⟩
    · rw [if_pos rfl]
      exact fun p np => hq _ _ ⟨p, [], rfl, np, upd_same, ⟨rfl, fun i n g e => nomatch e⟩, Kp.new np⟩
    · rw [if_neg (fun z => nomatch z)]
      exact ⟨d, rfl, kvs, .inl hd, fun p np => hq _ _ ⟨p, kvs, rfl, np, upd_same, hF.kp (Kp.new np), Kp.new np⟩⟩
end
end My

set_option Elab.async false
set_option linter.all false
set_option maxRecDepth 100000
set_option maxHeartbeats 4000000
namespace My
open PySem L2 NdefX
abbrev s_law_great : Stmt := top 32
theorem sc_law_great : FnScope ["_law_cell", "_law_k", "_law_total", "_law_seed", "_law_turn"] ["_law_cell", "_law_k"] (defScope s_law_great) := ⟨rfl, rfl, rfl, by decide +kernel, rfl, by decide +kernel, by decide +kernel⟩
abbrev s_law_draw : Stmt := top 33
theorem sc_law_draw : FnScope ["_law_script", "_law_k", "_law_seed", "_law_cell"] ["_law_script", "_law_k"] (defScope s_law_draw) := ⟨rfl, rfl, rfl, by decide +kernel, rfl, by decide +kernel, by decide +kernel⟩
abbrev s_law_pairs : Stmt := top 34
theorem sc_law_pairs : FnScope ["_law_rows", "_law_one", "_law_two"] [] (defScope s_law_pairs) := ⟨rfl, rfl, rfl, by decide +kernel, rfl, by decide +kernel, by decide +kernel⟩
structure Bt0 (mg : Str → Option Value) : Prop where
  b_len : mg "len" = none
  b_int : mg "int" = none
  b_range : mg "range" = none
  b_list : mg "list" = none
  b_tuple : mg "tuple" = none
section
variable {P : Program} {w : World} {K : PySem.W.Frag} {mg : Str → Option Value} {base : Heap}
def spGreat : Sp := fun vs H Q _ => ∃ (c k : Int), vs = [.int c, .int k] ∧ ∀ n : Int, 0 ≤ n → Q (.int n) H
def GrInv (c k : Int) (H : Hp) (_ : Nat) (σ : L2.St) (H' : Hp) : Prop := ∃ (t s : Int) (x : Option V), σ = [some (.int c), some (.int k), some (.int t), some (.int s), x] ∧ 0 ≤ t ∧ H' = H
theorem ok_law_great {f : Addr} {fd : FuncData} (D : Df K mg "_law_great" s_law_great ["_law_cell", "_law_k"] f fd) (T : Bt0 mg) : FnOk P w K mg base CX0 1 f fd ["_law_cell", "_law_k"] spGreat := by
  refine D.F.ok sc_law_great (fun vs H Q E h => ?_) (fun cdv A outer s H vs Q E hr h => ?_)
  · obtain ⟨c, k, rfl, _⟩ := h
    rfl
  · obtain ⟨c, k, rfl, q⟩ := h
    refine ⟨_, (pss_cons (ps_if (pt_cmpR op_ge (pv 0) (pe_op op_pow pe_int pe_int) (nomark _)) (pss_one (ps_ret (pe_op op_sub (pv 0) (pe_op op_pow pe_int pe_int)))) pss_nil)
      (pss_cons (ps_set (i := 2) sc_law_great.nd rfl (Or.inl rfl) pe_int)
      (pss_cons (ps_set (i := 3) sc_law_great.nd rfl (Or.inl rfl) (pe_op op_add (pe_callTy (T := "int") call_int1 (by rfl) T.b_int (by decide +kernel) (pa_cons (pv 0) pa_nil)) (pe_op op_mul pe_int (pv 1))))
      (pss_cons (ps_for PassesOwn.never rfl (pi_range1 rfl T.b_range (pa_cons pe_int pa_nil)) (pg_name (i := 4) sc_law_great.nd rfl (Or.inl rfl)) (pss_cons (ps_set (i := 3) sc_law_great.nd rfl (Or.inl rfl) (pe_op op_mod (pe_callTy (T := "int") call_int1 (by rfl) T.b_int (by decide +kernel) (pa_cons (pe_op op_add (pe_op op_add (pe_op op_mul (pv 3) pe_int) (pe_op op_mul pe_int (pv 4))) pe_int) pa_nil)) pe_int))
      (pss_cons (ps_set (i := 3) sc_law_great.nd rfl (Or.inl rfl) (pe_op op_mod (pe_callTy (T := "int") call_int1 (by rfl) T.b_int (by decide +kernel) (pa_cons (pe_op op_add (pe_op op_mul (pv 3) pe_int) (pv 1)) pa_nil)) pe_int))
      (pss_one (ps_set (i := 2) sc_law_great.nd rfl (Or.inl rfl) (pe_op op_add (pe_op op_mul (pv 2) pe_int) (pv 3)))))))
      (pss_one (ps_ret (pv 2))))))), ?_⟩
    try simp (maxSteps := 1000000) only [tSeq, tIfS, tTest, tOp, tUn, tCB, tCons, tNil, tVar, tC, rI0, rI, rU, rEq, rNe, tRet, tRetN, tAsg, gName, gSub, tBM, tBM0, tNext, tB, tNot, tAnd, tOr, tIf, tCall, tDrop, tBreak, tCont, L2.start, tDGet, sDPut, tTup, tLst, tDNewK, tRevL, rCat, rAppend, rPop, rSetL, tAndV, tOrV, tNotV, tSl, tPart, tNoPart, tM1, gTup, gCons, gNil, cxK, cxnK, List.map_cons, List.map_nil, List.length_cons, List.length_nil, List.replicate, List.cons_append, List.nil_append, List.append_nil, List.set_cons_zero, List.set_cons_succ, List.getElem?_cons_zero, List.getElem?_cons_succ, Option.some.injEq, V.ref.injEq, V.int.injEq, V.str.injEq, V.bl.injEq, V.ty.injEq, exists_eq_left', exists_eq_left, exists_and_left, List.cons.injEq, and_true, true_and, sc_ii, sc_ss, sc_bb, sc_ni, sc_in, sc_is, sc_si, sc_nn, decide_true, decide_false, reduceCtorEq, Bool.false_eq_true, if_true, if_false, ite_true, ite_false, exists_const, eq_self, false_and, and_false, or_false, false_or, exists_false, Evl.rLenS, rSum, wipe, tYes, exists_eq, exists_eq', rIxL, rIxT, rIxS, exists_and_right, gt_iff_lt, not_true_eq_false, not_false_eq_true, Bool.not_true, Bool.not_false, decide_eq_true_eq, Nat.reduceSub, Nat.reduceAdd, List.append_assoc, tChain, tDIn, tDNotIn, sDDel, tAug, ipI]
    have p18 : CPow 10 18 := ⟨by decide, by decide, by decide⟩
    refine ⟨p18, ?_⟩
    refine ite2 (fun h1 => ?_) (fun h1 => ?_)
    · exact ⟨p18, q _ (by omega)⟩
    · refine ⟨.inl ⟨by decide, by decide⟩, 3, rfl, by decide, by decide, for_range (lo := 0) (n := 3) (GrInv c k H) ⟨0, _, none, rfl, by decide, rfl⟩ ?_ ?_⟩
      · rintro i σ H1 hi ⟨t, s, x, rfl, t0, rfl⟩
        try simp (maxSteps := 1000000) only [tSeq, tIfS, tTest, tOp, tUn, tCB, tCons, tNil, tVar, tC, rI0, rI, rU, rEq, rNe, tRet, tRetN, tAsg, gName, gSub, tBM, tBM0, tNext, tB, tNot, tAnd, tOr, tIf, tCall, tDrop, tBreak, tCont, L2.start, tDGet, sDPut, tTup, tLst, tDNewK, tRevL, rCat, rAppend, rPop, rSetL, tAndV, tOrV, tNotV, tSl, tPart, tNoPart, tM1, gTup, gCons, gNil, cxK, cxnK, List.map_cons, List.map_nil, List.length_cons, List.length_nil, List.replicate, List.cons_append, List.nil_append, List.append_nil, List.set_cons_zero, List.set_cons_succ, List.getElem?_cons_zero, List.getElem?_cons_succ, Option.some.injEq, V.ref.injEq, V.int.injEq, V.str.injEq, V.bl.injEq, V.ty.injEq, exists_eq_left', exists_eq_left, exists_and_left, List.cons.injEq, and_true, true_and, sc_ii, sc_ss, sc_bb, sc_ni, sc_in, sc_is, sc_si, sc_nn, decide_true, decide_false, reduceCtorEq, Bool.false_eq_true, if_true, if_false, ite_true, ite_false, exists_const, eq_self, false_and, and_false, or_false, false_or, exists_false, Evl.rLenS, rSum, wipe, tYes, exists_eq, exists_eq', rIxL, rIxT, rIxS, exists_and_right, gt_iff_lt, not_true_eq_false, not_false_eq_true, Bool.not_true, Bool.not_false, decide_eq_true_eq, Nat.reduceSub, Nat.reduceAdd, List.append_assoc, tChain, tDIn, tDNotIn, sDDel, tAug, ipI]
        refine ⟨.inr ⟨by decide, by decide⟩, .inl ⟨by decide, by decide⟩, by decide, .inr ⟨by decide, by decide⟩, by decide, .inr ⟨by decide, by decide⟩, _, _, _, rfl, ?_, rfl⟩
        have h1 := Int.emod_nonneg ((s * 48271 + 7 * (0 + (i : Int)) + 11) % 2147483647 * 69621 + k) (show (2147483629 : Int) ≠ 0 by decide)
        omega
      · rintro σ H1 ⟨t, s, x, rfl, t0, rfl⟩
        try simp (maxSteps := 1000000) only [tSeq, tIfS, tTest, tOp, tUn, tCB, tCons, tNil, tVar, tC, rI0, rI, rU, rEq, rNe, tRet, tRetN, tAsg, gName, gSub, tBM, tBM0, tNext, tB, tNot, tAnd, tOr, tIf, tCall, tDrop, tBreak, tCont, L2.start, tDGet, sDPut, tTup, tLst, tDNewK, tRevL, rCat, rAppend, rPop, rSetL, tAndV, tOrV, tNotV, tSl, tPart, tNoPart, tM1, gTup, gCons, gNil, cxK, cxnK, List.map_cons, List.map_nil, List.length_cons, List.length_nil, List.replicate, List.cons_append, List.nil_append, List.append_nil, List.set_cons_zero, List.set_cons_succ, List.getElem?_cons_zero, List.getElem?_cons_succ, Option.some.injEq, V.ref.injEq, V.int.injEq, V.str.injEq, V.bl.injEq, V.ty.injEq, exists_eq_left', exists_eq_left, exists_and_left, List.cons.injEq, and_true, true_and, sc_ii, sc_ss, sc_bb, sc_ni, sc_in, sc_is, sc_si, sc_nn, decide_true, decide_false, reduceCtorEq, Bool.false_eq_true, if_true, if_false, ite_true, ite_false, exists_const, eq_self, false_and, and_false, or_false, false_or, exists_false, Evl.rLenS, rSum, wipe, tYes, exists_eq, exists_eq', rIxL, rIxT, rIxS, exists_and_right, gt_iff_lt, not_true_eq_false, not_false_eq_true, Bool.not_true, Bool.not_false, decide_eq_true_eq, Nat.reduceSub, Nat.reduceAdd, List.append_assoc, tChain, tDIn, tDNotIn, sDDel, tAug, ipI]
        exact q _ t0
/-- the script -/
def Scr (K : PySem.W.Frag) (H : Hp) (a : Addr) (ns : List Int) : Prop := SqL K H a (ns.map V.int) ∧ ns.length ≤ 63
def spDrawK (K : PySem.W.Frag) : Sp := fun vs H Q _ => ∃ (a : Addr) (k : Int) (ns : List Int), vs = [.ref a, .int k] ∧ Scr K H a ns ∧ 0 ≤ k ∧ ∀ (n : Int) (H' : Hp), 0 ≤ n → Kp [] H H' → Q (.int n) H'
def DrInv (a : Addr) (k : Int) (H : Hp) (_ : Nat) (σ : L2.St) (H' : Hp) : Prop := ∃ (s : Int) (x : Option V), σ = [some (.ref a), some (.int k), some (.int s), x] ∧ Kp [] H H'
theorem ok_law_draw {f : Addr} {fd : FuncData} (D : Df K mg "_law_draw" s_law_draw ["_law_script", "_law_k"] f fd) (T : Bt0 mg) {fg : Addr} {fdg : FuncData} (D_law_great : Df K mg "_law_great" s_law_great ["_law_cell", "_law_k"] fg fdg) (G_law_great : FnOk P w K mg base CX0 1 fg fdg ["_law_cell", "_law_k"] spGreat) : FnOk P w K mg base CX0 2 f fd ["_law_script", "_law_k"] (spDrawK K) := by
  refine D.F.ok sc_law_draw (fun vs H Q E h => ?_) (fun cdv A outer s H vs Q E hr h => ?_)
  · obtain ⟨a, k, ns, rfl, _⟩ := h
    rfl
  · obtain ⟨a, k, ns, rfl, ⟨hS, hl⟩, k0, q⟩ := h
    refine ⟨_, (pss_cons (ps_if (pt_cmpR op_eq (pe_callB (id := "len") (r := Evl.rLenS K) call_len_seq (by rfl) T.b_len PySem.boot_len (pa_cons (pv 0) pa_nil)) pe_int (nomark _)) (pss_one (ps_ret pe_int)) pss_nil)
      (pss_cons (ps_if (pt_cmpR op_lt (pv 1) (pe_callB (id := "len") (r := Evl.rLenS K) call_len_seq (by rfl) T.b_len PySem.boot_len (pa_cons (pv 0) pa_nil)) (nomark _)) (pss_one (ps_ret (pe_call G_law_great (hr.mono (by decide)) rfl D_law_great.g D_law_great.F.kp D_law_great.b .nil pass0 (pa_cons (pe_ix (r := rIxL K) ix_list (pv 0) (pv 1) (fun _ _ => rfl)) (pa_cons (pv 1) pa_nil))))) pss_nil)
      (pss_cons (ps_set (i := 2) sc_law_draw.nd rfl (Or.inl rfl) (pe_op op_add pe_int (pe_callB (id := "len") (r := Evl.rLenS K) call_len_seq (by rfl) T.b_len PySem.boot_len (pa_cons (pv 0) pa_nil))))
      (pss_cons (ps_for PassesOwn.never rfl (pi_list (pe_slice sl_list (pv 0) po_none (po_some pe_int))) (pg_name (i := 3) sc_law_draw.nd rfl (Or.inl rfl)) (pss_one (ps_set (i := 2) sc_law_draw.nd rfl (Or.inl rfl) (pe_op op_mod (pe_callTy (T := "int") call_int1 (by rfl) T.b_int (by decide +kernel) (pa_cons (pe_op op_add (pe_op op_mul (pv 2) pe_int) (pv 3)) pa_nil)) pe_int))))
      (pss_one (ps_ret (pe_call G_law_great (hr.mono (by decide)) rfl D_law_great.g D_law_great.F.kp D_law_great.b .nil pass0 (pa_cons (pv 2) (pa_cons (pv 1) pa_nil))))))))), ?_⟩
    try simp (maxSteps := 1000000) only [tSeq, tIfS, tTest, tOp, tUn, tCB, tCons, tNil, tVar, tC, rI0, rI, rU, rEq, rNe, tRet, tRetN, tAsg, gName, gSub, tBM, tBM0, tNext, tB, tNot, tAnd, tOr, tIf, tCall, tDrop, tBreak, tCont, L2.start, tDGet, sDPut, tTup, tLst, tDNewK, tRevL, rCat, rAppend, rPop, rSetL, tAndV, tOrV, tNotV, tSl, tPart, tNoPart, tM1, gTup, gCons, gNil, cxK, cxnK, List.map_cons, List.map_nil, List.length_cons, List.length_nil, List.replicate, List.cons_append, List.nil_append, List.append_nil, List.set_cons_zero, List.set_cons_succ, List.getElem?_cons_zero, List.getElem?_cons_succ, Option.some.injEq, V.ref.injEq, V.int.injEq, V.str.injEq, V.bl.injEq, V.ty.injEq, exists_eq_left', exists_eq_left, exists_and_left, List.cons.injEq, and_true, true_and, sc_ii, sc_ss, sc_bb, sc_ni, sc_in, sc_is, sc_si, sc_nn, decide_true, decide_false, reduceCtorEq, Bool.false_eq_true, if_true, if_false, ite_true, ite_false, exists_const, eq_self, false_and, and_false, or_false, false_or, exists_false, Evl.rLenS, rSum, wipe, tYes, exists_eq, exists_eq', rIxL, rIxT, rIxS, exists_and_right, gt_iff_lt, not_true_eq_false, not_false_eq_true, Bool.not_true, Bool.not_false, decide_eq_true_eq, Nat.reduceSub, Nat.reduceAdd, List.append_assoc, tChain, tDIn, tDNotIn, sDDel, tAug, ipI]
    refine ⟨_, .inl hS, ?_⟩
    rw [List.length_map]
    refine ite2 (fun h1 => ?_) (fun h1 => ?_)
    · exact q _ _ (by decide) (Kp.refl _ _)
    · refine ⟨_, .inl hS, ?_⟩
      rw [List.length_map]
      refine ite2 (fun h2 => ?_) (fun h2 => ?_)
      · obtain ⟨v, hv, ev⟩ := atI_ex (xs := ns.map V.int) k0 (by rw [List.length_map]; exact h2)
        obtain ⟨n, _, rfl⟩ := List.mem_map.mp hv
        exact ⟨_, hS, _, ev, n, k, rfl, fun m m0 => q m _ m0 (Kp.refl _ _)⟩
      · refine ⟨_, .inl hS, ?_⟩
        try simp (maxSteps := 1000000) only [tSeq, tIfS, tTest, tOp, tUn, tCB, tCons, tNil, tVar, tC, rI0, rI, rU, rEq, rNe, tRet, tRetN, tAsg, gName, gSub, tBM, tBM0, tNext, tB, tNot, tAnd, tOr, tIf, tCall, tDrop, tBreak, tCont, L2.start, tDGet, sDPut, tTup, tLst, tDNewK, tRevL, rCat, rAppend, rPop, rSetL, tAndV, tOrV, tNotV, tSl, tPart, tNoPart, tM1, gTup, gCons, gNil, cxK, cxnK, List.map_cons, List.map_nil, List.length_cons, List.length_nil, List.replicate, List.cons_append, List.nil_append, List.append_nil, List.set_cons_zero, List.set_cons_succ, List.getElem?_cons_zero, List.getElem?_cons_succ, Option.some.injEq, V.ref.injEq, V.int.injEq, V.str.injEq, V.bl.injEq, V.ty.injEq, exists_eq_left', exists_eq_left, exists_and_left, List.cons.injEq, and_true, true_and, sc_ii, sc_ss, sc_bb, sc_ni, sc_in, sc_is, sc_si, sc_nn, decide_true, decide_false, reduceCtorEq, Bool.false_eq_true, if_true, if_false, ite_true, ite_false, exists_const, eq_self, false_and, and_false, or_false, false_or, exists_false, Evl.rLenS, rSum, wipe, tYes, exists_eq, exists_eq', rIxL, rIxT, rIxS, exists_and_right, gt_iff_lt, not_true_eq_false, not_false_eq_true, Bool.not_true, Bool.not_false, decide_eq_true_eq, Nat.reduceSub, Nat.reduceAdd, List.append_assoc, tChain, tDIn, tDNotIn, sDDel, tAug, ipI]
        obtain ⟨ms, em⟩ : ∃ ms : List Int, cutV (ns.map V.int) none (some 9) = ms.map V.int := ⟨_, by unfold cutV; rw [← List.map_drop, ← List.map_take]⟩
        refine ⟨.ref a, rfl, 9, rfl, a, _, rfl, hS, fun p np => ?_⟩
        rw [em]
        have kn : Kp [] H (upd H p (.lst (ms.map V.int))) := Kp.new np
        refine ⟨p, rfl, ⟨_, sq_l upd_same⟩, for_list (K := K) (a := p) (xs := ms.map V.int) (fun i σ H' => DrInv a k H i σ H' ∧ H' p = some (.lst (ms.map V.int))) ⟨⟨_, none, rfl, kn⟩, upd_same⟩ (fun i σ H' _ h => sq_l h.2) ?_ ?_⟩
        · rintro i x σ H1 hx ⟨⟨s, y, rfl, kp⟩, hp⟩
          obtain ⟨m, _, rfl⟩ := List.mem_map.mp (List.mem_of_getElem? hx)
          try simp (maxSteps := 1000000) only [tSeq, tIfS, tTest, tOp, tUn, tCB, tCons, tNil, tVar, tC, rI0, rI, rU, rEq, rNe, tRet, tRetN, tAsg, gName, gSub, tBM, tBM0, tNext, tB, tNot, tAnd, tOr, tIf, tCall, tDrop, tBreak, tCont, L2.start, tDGet, sDPut, tTup, tLst, tDNewK, tRevL, rCat, rAppend, rPop, rSetL, tAndV, tOrV, tNotV, tSl, tPart, tNoPart, tM1, gTup, gCons, gNil, cxK, cxnK, List.map_cons, List.map_nil, List.length_cons, List.length_nil, List.replicate, List.cons_append, List.nil_append, List.append_nil, List.set_cons_zero, List.set_cons_succ, List.getElem?_cons_zero, List.getElem?_cons_succ, Option.some.injEq, V.ref.injEq, V.int.injEq, V.str.injEq, V.bl.injEq, V.ty.injEq, exists_eq_left', exists_eq_left, exists_and_left, List.cons.injEq, and_true, true_and, sc_ii, sc_ss, sc_bb, sc_ni, sc_in, sc_is, sc_si, sc_nn, decide_true, decide_false, reduceCtorEq, Bool.false_eq_true, if_true, if_false, ite_true, ite_false, exists_const, eq_self, false_and, and_false, or_false, false_or, exists_false, Evl.rLenS, rSum, wipe, tYes, exists_eq, exists_eq', rIxL, rIxT, rIxS, exists_and_right, gt_iff_lt, not_true_eq_false, not_false_eq_true, Bool.not_true, Bool.not_false, decide_eq_true_eq, Nat.reduceSub, Nat.reduceAdd, List.append_assoc, tChain, tDIn, tDNotIn, sDDel, tAug, ipI]
          exact ⟨.inr ⟨by decide, by decide⟩, by decide, ⟨_, _, rfl, kp⟩, hp⟩
        · rintro σ H1 ⟨⟨s, y, rfl, kp⟩, hp⟩
          try simp (maxSteps := 1000000) only [tSeq, tIfS, tTest, tOp, tUn, tCB, tCons, tNil, tVar, tC, rI0, rI, rU, rEq, rNe, tRet, tRetN, tAsg, gName, gSub, tBM, tBM0, tNext, tB, tNot, tAnd, tOr, tIf, tCall, tDrop, tBreak, tCont, L2.start, tDGet, sDPut, tTup, tLst, tDNewK, tRevL, rCat, rAppend, rPop, rSetL, tAndV, tOrV, tNotV, tSl, tPart, tNoPart, tM1, gTup, gCons, gNil, cxK, cxnK, List.map_cons, List.map_nil, List.length_cons, List.length_nil, List.replicate, List.cons_append, List.nil_append, List.append_nil, List.set_cons_zero, List.set_cons_succ, List.getElem?_cons_zero, List.getElem?_cons_succ, Option.some.injEq, V.ref.injEq, V.int.injEq, V.str.injEq, V.bl.injEq, V.ty.injEq, exists_eq_left', exists_eq_left, exists_and_left, List.cons.injEq, and_true, true_and, sc_ii, sc_ss, sc_bb, sc_ni, sc_in, sc_is, sc_si, sc_nn, decide_true, decide_false, reduceCtorEq, Bool.false_eq_true, if_true, if_false, ite_true, ite_false, exists_const, eq_self, false_and, and_false, or_false, false_or, exists_false, Evl.rLenS, rSum, wipe, tYes, exists_eq, exists_eq', rIxL, rIxT, rIxS, exists_and_right, gt_iff_lt, not_true_eq_false, not_false_eq_true, Bool.not_true, Bool.not_false, decide_eq_true_eq, Nat.reduceSub, Nat.reduceAdd, List.append_assoc, tChain, tDIn, tDNotIn, sDDel, tAug, ipI]
          exact ⟨s, k, rfl, fun m m0 => q m _ m0 kp⟩
/-- a new list of pairs -/
def spPairs (K : PySem.W.Frag) : Sp := fun vs H Q _ => vs = [] ∧ ∀ (r : Addr) (vs : List V) (H' : Hp), H r = none → H' r = some (.lst vs) → DpAll K H' vs (pairsL.map pD) → Kp [] H H' → Q (.ref r) H'
theorem dpNew {H : Hp} {t : Addr} {x y : Str} : Dp K (upd H t (.tup [.str x, .str y])) (.ref t) (pD (x, y)) := .tup (sq_t upd_same) (.cons (.str x) (.cons (.str y) .nil))
def RowsAt (K : PySem.W.Frag) (H : Hp) (r : Addr) (ps : List Pr) (H' : Hp) : Prop := ∃ ws, H' r = some (.lst ws) ∧ DpAll K H' ws (ps.map pD) ∧ Kp [] H H'
theorem rowsAt_put {H H2 : Hp} {r t : Addr} {x y : Str} {ps : List Pr} (h : RowsAt K H r ps H2) (nr : H r = none) (nt : H2 t = none) (hl : ps.length ≤ 1000) :
    ∃ acc, (upd H2 t (.tup [.str x, .str y])) r = some (.lst acc) ∧ acc.length < sizeLine ∧ RowsAt K H r (ps ++ [(x, y)]) (upd (upd H2 t (.tup [.str x, .str y])) r (.lst (acc ++ [.ref t]))) := by
  obtain ⟨ws, hv, hws, k⟩ := h
  have k1 : Kp [] H2 (upd H2 t (.tup [.str x, .str y])) := Kp.new nt
  have hr := k1 _ _ not0 hv
  have nw : Kp [r] (upd H2 t (.tup [.str x, .str y])) (upd (upd H2 t (.tup [.str x, .str y])) r (.lst (ws ++ [.ref t]))) := (Kp.refl [r] _).put (by simp)
  have nT : NoTp (upd H2 t (.tup [.str x, .str y])) [r] := noTp1 hr
  refine ⟨ws, hr, smallL (by rw [dpLen hws, List.length_map]; omega), _, upd_same, ?_, (k.trans k1).wr nr⟩
  rw [List.map_append]
  exact dpApp (dpAllT nw nT (dpAllN k1 noSq0 hws) (noLsP _)) (.cons (dpT nw nT dpNew rfl) .nil)
theorem kinds_at : ∀ i x, kindsL[i]? = some x → i < 5 := fun i x h => (List.getElem?_eq_some_iff.mp h).1
theorem rows_len : ∀ i, (((kindsL.take i).flatMap rowP)).length ≤ 27 := by
  intro i
  rcases Nat.lt_or_ge i 5 with h | h
  · rcases (show i = 0 ∨ i = 1 ∨ i = 2 ∨ i = 3 ∨ i = 4 by omega) with rfl | rfl | rfl | rfl | rfl <;> decide +kernel
  · rw [List.take_of_length_le h]; decide +kernel
theorem rows_next {i : Nat} {x : Str} (h : kindsL[i]? = some x) : ((kindsL.take (i + 1)).flatMap rowP) = ((kindsL.take i).flatMap rowP) ++ rowP x := by
  rw [List.take_add_one, h, List.flatMap_append]; simp
def OutInv (K : PySem.W.Frag) (H : Hp) (r a : Addr) (i : Nat) (σ : L2.St) (H' : Hp) : Prop := ∃ x y, σ = [some (.ref r), x, y] ∧ RowsAt K H r ((kindsL.take i).flatMap rowP) H' ∧ H' a = some (.lst (kindsL.map V.str))
def InnInv (K : PySem.W.Frag) (H : Hp) (r a b : Addr) (i : Nat) (x : Str) (j : Nat) (σ : L2.St) (H' : Hp) : Prop := ∃ y, σ = [some (.ref r), some (.str x), y] ∧ RowsAt K H r ((kindsL.take i).flatMap rowP ++ (kindsL.take j).map fun y => (x, y)) H' ∧ H' a = some (.lst (kindsL.map V.str)) ∧ H' b = some (.lst (kindsL.map V.str))
theorem ok_law_pairs {f : Addr} {fd : FuncData} (D : Df K mg "_law_pairs" s_law_pairs [] f fd) (T : Bt0 mg) : FnOk P w K mg base CX0 1 f fd [] (spPairs K) := by
  refine D.F.ok sc_law_pairs (fun vs H Q E h => ?_) (fun cdv A outer s H vs Q E hr h => ?_)
  · rw [h.1]; rfl
  · obtain ⟨rfl, q⟩ := h
    refine ⟨_, (pss_cons (ps_set (i := 0) sc_law_pairs.nd rfl (Or.inl rfl) (pe_lst pa_nil))
      (pss_cons (ps_for PassesOwn.never rfl (pi_list (pe_lst (pa_cons pe_str (pa_cons pe_str (pa_cons pe_str (pa_cons pe_str (pa_cons pe_str pa_nil))))))) (pg_name (i := 1) sc_law_pairs.nd rfl (Or.inl rfl)) (pss_cons (ps_for PassesOwn.never rfl (pi_list (pe_lst (pa_cons pe_str (pa_cons pe_str (pa_cons pe_str (pa_cons pe_str (pa_cons pe_str pa_nil))))))) (pg_name (i := 2) sc_law_pairs.nd rfl (Or.inl rfl)) (pss_one (ps_expr (pe_bm PySem.F.plainAttrs_list PySem.F.slot_list_append PySem.F.type_list_append mt_append (pv 0) (pa_cons (pe_tup (pa_cons (pv 1) (pa_cons (pv 2) pa_nil))) pa_nil)))))
      (pss_one (ps_if (PW.pt (pw_or (pt_cmpR op_eq (pv 1) pe_str (nomark _)) (pw_or1 (pt_cmpR op_eq (pv 1) pe_str (nomark _))))) (pss_one (ps_expr (pe_bm PySem.F.plainAttrs_list PySem.F.slot_list_append PySem.F.type_list_append mt_append (pv 0) (pa_cons (pe_tup (pa_cons (pv 1) (pa_cons pe_str pa_nil))) pa_nil)))) pss_nil))))
      (pss_one (ps_ret (pv 0))))), ?_⟩
    try simp (maxSteps := 1000000) only [tSeq, tIfS, tTest, tOp, tUn, tCB, tCons, tNil, tVar, tC, rI0, rI, rU, rEq, rNe, tRet, tRetN, tAsg, gName, gSub, tBM, tBM0, tNext, tB, tNot, tAnd, tOr, tIf, tCall, tDrop, tBreak, tCont, L2.start, tDGet, sDPut, tTup, tLst, tDNewK, tRevL, rCat, rAppend, rPop, rSetL, tAndV, tOrV, tNotV, tSl, tPart, tNoPart, tM1, gTup, gCons, gNil, cxK, cxnK, List.map_cons, List.map_nil, List.length_cons, List.length_nil, List.replicate, List.cons_append, List.nil_append, List.append_nil, List.set_cons_zero, List.set_cons_succ, List.getElem?_cons_zero, List.getElem?_cons_succ, Option.some.injEq, V.ref.injEq, V.int.injEq, V.str.injEq, V.bl.injEq, V.ty.injEq, exists_eq_left', exists_eq_left, exists_and_left, List.cons.injEq, and_true, true_and, sc_ii, sc_ss, sc_bb, sc_ni, sc_in, sc_is, sc_si, sc_nn, decide_true, decide_false, reduceCtorEq, Bool.false_eq_true, if_true, if_false, ite_true, ite_false, exists_const, eq_self, false_and, and_false, or_false, false_or, exists_false, Evl.rLenS, rSum, wipe, tYes, exists_eq, exists_eq', rIxL, rIxT, rIxS, exists_and_right, gt_iff_lt, not_true_eq_false, not_false_eq_true, Bool.not_true, Bool.not_false, decide_eq_true_eq, Nat.reduceSub, Nat.reduceAdd, List.append_assoc, tChain, tDIn, tDNotIn, sDDel, tAug, ipI]
    refine ⟨small (by decide), fun r nr => ?_⟩
    refine ⟨small (by decide), fun a na => ?_⟩
    have ra : r ≠ a := ne_of_none upd_same na
    have nr' : H r = none := nr
    have k0 : Kp [] H (upd (upd H r (.lst [])) a (.lst (kindsL.map V.str))) := (Kp.new nr).trans (Kp.new na)
    refine ⟨a, rfl, ⟨kindsL.map V.str, sq_l upd_same⟩, for_list (K := K) (a := a) (xs := kindsL.map V.str) (OutInv K H r a) ⟨_, _, rfl, ⟨[], by rw [upd_ne ra]; exact upd_same, .nil, k0⟩, upd_same⟩ (fun i σ H' _ h => by obtain ⟨_, _, _, _, h⟩ := h; exact sq_l h) ?_ ?_⟩
    · rintro i xv σ H1 hx ⟨x0, y0, rfl, hr, ha⟩
      obtain ⟨x, ex, rfl⟩ : ∃ x, kindsL[i]? = some x ∧ V.str x = xv := by
        rw [List.getElem?_map] at hx
        cases e : kindsL[i]? with
        | none => rw [e] at hx; cases hx
        | some x => rw [e] at hx; exact ⟨x, rfl, Option.some.inj hx⟩
      try simp (maxSteps := 1000000) only [tSeq, tIfS, tTest, tOp, tUn, tCB, tCons, tNil, tVar, tC, rI0, rI, rU, rEq, rNe, tRet, tRetN, tAsg, gName, gSub, tBM, tBM0, tNext, tB, tNot, tAnd, tOr, tIf, tCall, tDrop, tBreak, tCont, L2.start, tDGet, sDPut, tTup, tLst, tDNewK, tRevL, rCat, rAppend, rPop, rSetL, tAndV, tOrV, tNotV, tSl, tPart, tNoPart, tM1, gTup, gCons, gNil, cxK, cxnK, List.map_cons, List.map_nil, List.length_cons, List.length_nil, List.replicate, List.cons_append, List.nil_append, List.append_nil, List.set_cons_zero, List.set_cons_succ, List.getElem?_cons_zero, List.getElem?_cons_succ, Option.some.injEq, V.ref.injEq, V.int.injEq, V.str.injEq, V.bl.injEq, V.ty.injEq, exists_eq_left', exists_eq_left, exists_and_left, List.cons.injEq, and_true, true_and, sc_ii, sc_ss, sc_bb, sc_ni, sc_in, sc_is, sc_si, sc_nn, decide_true, decide_false, reduceCtorEq, Bool.false_eq_true, if_true, if_false, ite_true, ite_false, exists_const, eq_self, false_and, and_false, or_false, false_or, exists_false, Evl.rLenS, rSum, wipe, tYes, exists_eq, exists_eq', rIxL, rIxT, rIxS, exists_and_right, gt_iff_lt, not_true_eq_false, not_false_eq_true, Bool.not_true, Bool.not_false, decide_eq_true_eq, Nat.reduceSub, Nat.reduceAdd, List.append_assoc, tChain, tDIn, tDNotIn, sDDel, tAug, ipI]
      refine ⟨small (by decide), fun b nb => ?_⟩
      have k1 : Kp [] H1 (upd H1 b (.lst (kindsL.map V.str))) := Kp.new nb
      have rb : r ≠ b := by obtain ⟨ws, hv, _⟩ := hr; exact ne_of_none hv nb
      have hr1 : RowsAt K H r ((kindsL.take i).flatMap rowP) (upd H1 b (.lst (kindsL.map V.str))) := by
        obtain ⟨ws, hv, hws, kp⟩ := hr
        exact ⟨ws, k1 _ _ not0 hv, dpAllN k1 noSq0 hws, kp.trans k1⟩
      refine ⟨b, rfl, ⟨kindsL.map V.str, sq_l upd_same⟩, for_list (K := K) (a := b) (xs := kindsL.map V.str) (InnInv K H r a b i x) ⟨_, rfl, by rw [List.take_zero, List.map_nil, List.append_nil]; exact hr1, k1 _ _ not0 ha, upd_same⟩ (fun i σ H' _ h => by obtain ⟨_, _, _, _, h⟩ := h; exact sq_l h) ?_ ?_⟩
      · rintro j yv σ H2 hy ⟨y1, rfl, hr2, ha2, hb2⟩
        obtain ⟨y, ey, rfl⟩ : ∃ y, kindsL[j]? = some y ∧ V.str y = yv := by
          rw [List.getElem?_map] at hy
          cases e : kindsL[j]? with
          | none => rw [e] at hy; cases hy
          | some y => rw [e] at hy; exact ⟨y, rfl, Option.some.inj hy⟩
        try simp (maxSteps := 1000000) only [tSeq, tIfS, tTest, tOp, tUn, tCB, tCons, tNil, tVar, tC, rI0, rI, rU, rEq, rNe, tRet, tRetN, tAsg, gName, gSub, tBM, tBM0, tNext, tB, tNot, tAnd, tOr, tIf, tCall, tDrop, tBreak, tCont, L2.start, tDGet, sDPut, tTup, tLst, tDNewK, tRevL, rCat, rAppend, rPop, rSetL, tAndV, tOrV, tNotV, tSl, tPart, tNoPart, tM1, gTup, gCons, gNil, cxK, cxnK, List.map_cons, List.map_nil, List.length_cons, List.length_nil, List.replicate, List.cons_append, List.nil_append, List.append_nil, List.set_cons_zero, List.set_cons_succ, List.getElem?_cons_zero, List.getElem?_cons_succ, Option.some.injEq, V.ref.injEq, V.int.injEq, V.str.injEq, V.bl.injEq, V.ty.injEq, exists_eq_left', exists_eq_left, exists_and_left, List.cons.injEq, and_true, true_and, sc_ii, sc_ss, sc_bb, sc_ni, sc_in, sc_is, sc_si, sc_nn, decide_true, decide_false, reduceCtorEq, Bool.false_eq_true, if_true, if_false, ite_true, ite_false, exists_const, eq_self, false_and, and_false, or_false, false_or, exists_false, Evl.rLenS, rSum, wipe, tYes, exists_eq, exists_eq', rIxL, rIxT, rIxS, exists_and_right, gt_iff_lt, not_true_eq_false, not_false_eq_true, Bool.not_true, Bool.not_false, decide_eq_true_eq, Nat.reduceSub, Nat.reduceAdd, List.append_assoc, tChain, tDIn, tDNotIn, sDDel, tAug, ipI]
        have hrv : ∃ ws, H2 r = some (.lst ws) := by obtain ⟨ws, hv, _⟩ := hr2; exact ⟨ws, hv⟩
        obtain ⟨ws0, hr0⟩ := hrv
        refine ⟨.inl ⟨rfl, _, sq_l hr0⟩, small (by decide), fun t nt => ?_⟩
        have hl : ((kindsL.take i).flatMap rowP ++ (kindsL.take j).map fun y => (x, y)).length ≤ 1000 := by
          rw [List.length_append, List.length_map, List.length_take]
          have := rows_len i
          have : kindsL.length = 5 := rfl
          omega
        obtain ⟨acc, h1, h2, h3⟩ := rowsAt_put (x := x) (y := y) hr2 nr nt hl
        refine ⟨acc, h1, h2, _, rfl, ?_, ?_, ?_⟩
        · rw [List.take_add_one, ey, List.map_append, ← List.append_assoc]
          exact h3
        · rw [upd_ne ra.symm, upd_ne (ne_of_none ha2 nt)]; exact ha2
        · rw [upd_ne rb.symm, upd_ne (ne_of_none hb2 nt)]; exact hb2
      · rintro σ H2 ⟨y1, rfl, hr2, ha2, hb2⟩
        have e5 : (kindsL.take (kindsL.map V.str).length) = kindsL := by rw [List.length_map, List.take_length]
        rw [e5] at hr2
        have nx := rows_next ex
        have hrv : ∃ ws, H2 r = some (.lst ws) := by obtain ⟨ws, hv, _⟩ := hr2; exact ⟨ws, hv⟩
        obtain ⟨ws0, hr0⟩ := hrv
        have hl : ((kindsL.take i).flatMap rowP ++ kindsL.map fun y => (x, y)).length ≤ 1000 := by
          rw [List.length_append, List.length_map]
          have := rows_len i
          have : kindsL.length = 5 := rfl
          omega
        have more : (x = ("write" : Str) ∨ x = ("release" : Str)) → ∀ t, H2 t = none → ∃ acc, (upd H2 t (.tup [.str x, .str "return"])) r = some (.lst acc) ∧ acc.length < sizeLine ∧ OutInv K H r a (i + 1) [some (.ref r), some (.str x), y1] (upd (upd H2 t (.tup [.str x, .str "return"])) r (.lst (acc ++ [.ref t]))) := by
          intro hx t nt
          obtain ⟨acc, h1, h2, h3⟩ := rowsAt_put (x := x) (y := "return") hr2 nr nt hl
          refine ⟨acc, h1, h2, _, _, rfl, ?_, by rw [upd_ne ra.symm, upd_ne (ne_of_none ha2 nt)]; exact ha2⟩
          rw [nx]
          unfold rowP
          rw [if_pos hx, ← List.append_assoc]
          exact h3
        have less : ¬ (x = ("write" : Str) ∨ x = ("release" : Str)) → OutInv K H r a (i + 1) [some (.ref r), some (.str x), y1] H2 := by
          intro hx
          refine ⟨_, _, rfl, ?_, ha2⟩
          rw [nx]
          unfold rowP
          rw [if_neg hx, List.append_nil]
          exact hr2
        try simp (maxSteps := 1000000) only [tSeq, tIfS, tTest, tOp, tUn, tCB, tCons, tNil, tVar, tC, rI0, rI, rU, rEq, rNe, tRet, tRetN, tAsg, gName, gSub, tBM, tBM0, tNext, tB, tNot, tAnd, tOr, tIf, tCall, tDrop, tBreak, tCont, L2.start, tDGet, sDPut, tTup, tLst, tDNewK, tRevL, rCat, rAppend, rPop, rSetL, tAndV, tOrV, tNotV, tSl, tPart, tNoPart, tM1, gTup, gCons, gNil, cxK, cxnK, List.map_cons, List.map_nil, List.length_cons, List.length_nil, List.replicate, List.cons_append, List.nil_append, List.append_nil, List.set_cons_zero, List.set_cons_succ, List.getElem?_cons_zero, List.getElem?_cons_succ, Option.some.injEq, V.ref.injEq, V.int.injEq, V.str.injEq, V.bl.injEq, V.ty.injEq, exists_eq_left', exists_eq_left, exists_and_left, List.cons.injEq, and_true, true_and, sc_ii, sc_ss, sc_bb, sc_ni, sc_in, sc_is, sc_si, sc_nn, decide_true, decide_false, reduceCtorEq, Bool.false_eq_true, if_true, if_false, ite_true, ite_false, exists_const, eq_self, false_and, and_false, or_false, false_or, exists_false, Evl.rLenS, rSum, wipe, tYes, exists_eq, exists_eq', rIxL, rIxT, rIxS, exists_and_right, gt_iff_lt, not_true_eq_false, not_false_eq_true, Bool.not_true, Bool.not_false, decide_eq_true_eq, Nat.reduceSub, Nat.reduceAdd, List.append_assoc, tChain, tDIn, tDNotIn, sDDel, tAug, ipI]
        have lt : tyV K "list" (V.ref r) H2 := .inl ⟨rfl, _, sq_l hr0⟩
        exact ite2 (fun h => ⟨lt, small (by decide), more (.inl h)⟩) (fun h1 => ite2 (fun h => ⟨lt, small (by decide), more (.inr h)⟩) (fun h2 => less fun z => z.elim h1 h2))
    · rintro σ H1 ⟨x0, y0, rfl, ⟨ws, hv, hws, kp⟩, ha⟩
      try simp (maxSteps := 1000000) only [tSeq, tIfS, tTest, tOp, tUn, tCB, tCons, tNil, tVar, tC, rI0, rI, rU, rEq, rNe, tRet, tRetN, tAsg, gName, gSub, tBM, tBM0, tNext, tB, tNot, tAnd, tOr, tIf, tCall, tDrop, tBreak, tCont, L2.start, tDGet, sDPut, tTup, tLst, tDNewK, tRevL, rCat, rAppend, rPop, rSetL, tAndV, tOrV, tNotV, tSl, tPart, tNoPart, tM1, gTup, gCons, gNil, cxK, cxnK, List.map_cons, List.map_nil, List.length_cons, List.length_nil, List.replicate, List.cons_append, List.nil_append, List.append_nil, List.set_cons_zero, List.set_cons_succ, List.getElem?_cons_zero, List.getElem?_cons_succ, Option.some.injEq, V.ref.injEq, V.int.injEq, V.str.injEq, V.bl.injEq, V.ty.injEq, exists_eq_left', exists_eq_left, exists_and_left, List.cons.injEq, and_true, true_and, sc_ii, sc_ss, sc_bb, sc_ni, sc_in, sc_is, sc_si, sc_nn, decide_true, decide_false, reduceCtorEq, Bool.false_eq_true, if_true, if_false, ite_true, ite_false, exists_const, eq_self, false_and, and_false, or_false, false_or, exists_false, Evl.rLenS, rSum, wipe, tYes, exists_eq, exists_eq', rIxL, rIxT, rIxS, exists_and_right, gt_iff_lt, not_true_eq_false, not_false_eq_true, Bool.not_true, Bool.not_false, decide_eq_true_eq, Nat.reduceSub, Nat.reduceAdd, List.append_assoc, tChain, tDIn, tDNotIn, sDDel, tAug, ipI]
      rw [List.length_map, List.take_of_length_le (Nat.le_refl _)] at hws
      exact q r ws H1 nr hv hws kp
/-- a list of pairs, grown -/
def zzSays : Nat := 0
end
end My

set_option Elab.async false
set_option linter.all false
set_option maxRecDepth 100000
set_option maxHeartbeats 4000000
namespace My
open PySem L2 NdefX
abbrev s_law_usual : Stmt := top 35
theorem sc_law_usual : FnScope ["_law_which", "_law_chosen", "_law_pair", "_law_late"] ["_law_which"] (defScope s_law_usual) := ⟨rfl, rfl, rfl, by decide +kernel, rfl, by decide +kernel, by decide +kernel⟩
theorem sub_filter {s L : List Pr} (h : s.Sublist L) (nd : L.Nodup) : (L.filter fun x => decide (x ∈ s)) = s := by
  induction h with
  | slnil => rfl
  | @cons s L a h ih =>
    have nd' := List.nodup_cons.mp nd
    have na : a ∉ s := fun z => nd'.1 (h.subset z)
    rw [List.filter_cons, if_neg (by simpa using na), ih nd'.2]
  | @cons_cons s L a h ih =>
    have nd' := List.nodup_cons.mp nd
    have e : (L.filter fun x => decide (x ∈ a :: s)) = L.filter fun x => decide (x ∈ s) := List.filter_congr fun x hx => by
      have : x ≠ a := fun z => nd'.1 (z ▸ hx)
      simp [this]
    rw [List.filter_cons, if_pos (by simp), e, ih nd'.2]
theorem pairs_nodup : pairsL.Nodup := by decide +kernel
/-- a new list of some of the pairs, in their order -/
def SelAt (K : PySem.W.Frag) (H : Hp) (l : Addr) (f : Pr → Bool) : Prop := ∃ ws, H l = some (.lst ws) ∧ DpAll K H ws ((pairsL.filter f).map pD)
/-- ahead of the i-th pair -/
def SelIn (K : PySem.W.Frag) (H : Hp) (r : Addr) (i : Nat) (H' : Hp) : Prop := ∃ (s : List Pr) (ws : List V), s.Sublist (pairsL.take i) ∧ H' r = some (.lst ws) ∧ DpAll K H' ws (s.map pD) ∧ Kp [] H H'
theorem SelIn.put {K : PySem.W.Frag} {H H' : Hp} {r : Addr} {i : Nat} {p : Pr} {v : V} (h : SelIn K H r i H') (nr : H r = none) (ep : pairsL[i]? = some p) (hv : Dp K H' v (pD p)) : ∃ ws, H' r = some (.lst ws) ∧ ws.length + 1 ≤ sizeLine ∧ SelIn K H r (i + 1) (upd H' r (.lst (ws ++ [v]))) := by
  obtain ⟨s, ws, hs, hr, hw, k⟩ := h
  have sl : s.length ≤ 27 := by
    have h1 := hs.length_le
    have h2 : (pairsL.take i).length ≤ pairsL.length := by rw [List.length_take]; omega
    rw [pairs_len] at h2
    omega
  have wl : ws.length = s.length := by rw [dpLen hw, List.length_map]
  have nw : Kp [r] H' (upd H' r (.lst (ws ++ [v]))) := (Kp.refl [r] H').put (by simp)
  have nt : NoTp H' [r] := noTp1 hr
  refine ⟨ws, hr, smallL (by omega), s ++ [p], ws ++ [v], ?_, upd_same, ?_, k.wr nr⟩
  · rw [List.take_add_one, ep]
    exact hs.append (List.Sublist.refl _)
  · rw [List.map_append]
    exact dpApp (dpAllT nw nt hw (noLsP _)) (.cons (dpT nw nt hv rfl) .nil)
theorem SelIn.kp {K : PySem.W.Frag} {H H' H2 : Hp} {r : Addr} {i : Nat} (h : SelIn K H r i H') (k2 : Kp [] H' H2) : SelIn K H r i H2 := by
  obtain ⟨s, ws, hs, hr, hw, k⟩ := h
  exact ⟨s, ws, hs, k2 _ _ not0 hr, dpAllN k2 noSq0 hw, k.trans k2⟩
theorem SelIn.skip {K : PySem.W.Frag} {H H' : Hp} {r : Addr} {i : Nat} (h : SelIn K H r i H') : SelIn K H r (i + 1) H' := by
  obtain ⟨s, ws, hs, hr, hw, k⟩ := h
  refine ⟨s, ws, hs.trans ?_, hr, hw, k⟩
  rw [List.take_add_one]
  exact List.sublist_append_left _ _
theorem SelIn.fin {K : PySem.W.Frag} {H H' : Hp} {r : Addr} {i : Nat} (h : SelIn K H r i H') (hi : pairsL.length ≤ i) : ∃ f, SelAt K H' r f ∧ Kp [] H H' := by
  obtain ⟨s, ws, hs, hr, hw, k⟩ := h
  rw [List.take_of_length_le hi] at hs
  exact ⟨fun x => decide (x ∈ s), ⟨ws, hr, by rw [sub_filter hs pairs_nodup]; exact hw⟩, k⟩
section
variable {P : Program} {w : World} {K : PySem.W.Frag} {mg : Str → Option Value} {base : Heap}
def spSel (K : PySem.W.Frag) : Sp := fun vs H Q _ => ∃ n : Int, vs = [.int n] ∧ 0 ≤ n ∧ ∀ (l : Addr) (f : Pr → Bool) (H' : Hp), H l = none → SelAt K H' l f → Kp [] H H' → Q (.ref l) H'
def UsIn (K : PySem.W.Frag) (n : Int) (r : Addr) (H : Hp) (i : Nat) (σ : L2.St) (H' : Hp) : Prop := ∃ c d : Option V, σ = [some (.int n), some (.ref r), c, d] ∧ SelIn K H r i H'
theorem ok_law_usual {f : Addr} {fd : FuncData} (D : Df K mg "_law_usual" s_law_usual ["_law_which"] f fd) (T : Bt0 mg) {fg : Addr} {fdg : FuncData} (D_law_pairs : Df K mg "_law_pairs" s_law_pairs [] fg fdg) (G_law_pairs : FnOk P w K mg base CX0 1 fg fdg [] (spPairs K)) : FnOk P w K mg base CX0 2 f fd ["_law_which"] (spSel K) := by
  refine D.F.ok sc_law_usual (fun vs H Q E h => ?_) (fun cdv A outer s H vs Q E hr h => ?_)
  · obtain ⟨_, rfl, _⟩ := h
    rfl
  · obtain ⟨n, rfl, n0, q⟩ := h
    refine ⟨_, (pss_cons (ps_set (i := 1) sc_law_usual.nd rfl (Or.inl rfl) (pe_lst pa_nil))
      (pss_cons (ps_for PassesOwn.never rfl (pi_list (pe_call0 G_law_pairs (hr.mono (by decide)) rfl D_law_pairs.g D_law_pairs.F.kp D_law_pairs.b .nil pass0)) (pg_name (i := 2) sc_law_usual.nd rfl (Or.inl rfl)) (pss_cons (ps_set (i := 3) sc_law_usual.nd rfl (Or.inl rfl) (pe_and (pe_cmpR op_in_seq (pe_ix (r := rIxT K) ix_tup (pv 2) pe_int (fun _ _ => rfl)) (pe_tup (pa_cons pe_str (pa_cons pe_str pa_nil))) (by rfl)) (pe_one (pe_cmpR op_in_seq (pe_ix (r := rIxT K) ix_tup (pv 2) pe_int (fun _ _ => rfl)) (pe_tup (pa_cons pe_str (pa_cons pe_str (pa_cons pe_str pa_nil)))) (by rfl)))))
      (pss_one (ps_if (PW.pt (pw_or (pt_cmpR op_eq (pv 0) pe_int (nomark _)) (pw_or (PW.pt (pw_and (pt_cmpR op_eq (pv 0) pe_int (nomark _)) (pw_and1 (pt_not (pt_val (pv 3)))))) (pw_or1 (PW.pt (pw_and (pt_cmpR op_eq (pv 0) pe_int (nomark _)) (pw_and1 (PW.pt (pw_or (pt_cmpR op_eq (pe_ix (r := rIxT K) ix_tup (pv 2) pe_int (fun _ _ => rfl)) pe_str (nomark _)) (pw_or1 (pt_cmpR op_eq (pe_ix (r := rIxT K) ix_tup (pv 2) pe_int (fun _ _ => rfl)) pe_str (nomark _)))))))))))) (pss_one (ps_expr (pe_bm PySem.F.plainAttrs_list PySem.F.slot_list_append PySem.F.type_list_append mt_append (pv 1) (pa_cons (pv 2) pa_nil)))) pss_nil))))
      (pss_one (ps_ret (pv 1))))), ?_⟩
    try simp (maxSteps := 1000000) only [tSeq, tIfS, tTest, tOp, tUn, tCB, tCons, tNil, tVar, tC, rI0, rI, rU, rEq, rNe, tRet, tRetN, tAsg, gName, gSub, tBM, tBM0, tNext, tB, tNot, tAnd, tOr, tIf, tCall, tDrop, tBreak, tCont, L2.start, tDGet, sDPut, tTup, tLst, tDNewK, tRevL, rCat, rAppend, rPop, rSetL, tAndV, tOrV, tNotV, tSl, tPart, tNoPart, tM1, gTup, gCons, gNil, cxK, cxnK, List.map_cons, List.map_nil, List.length_cons, List.length_nil, List.replicate, List.cons_append, List.nil_append, List.append_nil, List.set_cons_zero, List.set_cons_succ, List.getElem?_cons_zero, List.getElem?_cons_succ, Option.some.injEq, V.ref.injEq, V.int.injEq, V.str.injEq, V.bl.injEq, V.ty.injEq, exists_eq_left', exists_eq_left, exists_and_left, List.cons.injEq, and_true, true_and, sc_ii, sc_ss, sc_bb, sc_ni, sc_in, sc_is, sc_si, sc_nn, decide_true, decide_false, reduceCtorEq, Bool.false_eq_true, if_true, if_false, ite_true, ite_false, exists_const, eq_self, false_and, and_false, or_false, false_or, exists_false, Evl.rLenS, rSum, wipe, tYes, exists_eq, exists_eq', rIxL, rIxT, rIxS, exists_and_right, gt_iff_lt, not_true_eq_false, not_false_eq_true, Bool.not_true, Bool.not_false, decide_eq_true_eq, Nat.reduceSub, Nat.reduceAdd, List.append_assoc, tChain, tDIn, tDNotIn, sDDel, tAug, ipI]
    refine ⟨small (by decide), fun r nr => forL_src34 ?_⟩
    try simp (maxSteps := 1000000) only [tSeq, tIfS, tTest, tOp, tUn, tCB, tCons, tNil, tVar, tC, rI0, rI, rU, rEq, rNe, tRet, tRetN, tAsg, gName, gSub, tBM, tBM0, tNext, tB, tNot, tAnd, tOr, tIf, tCall, tDrop, tBreak, tCont, L2.start, tDGet, sDPut, tTup, tLst, tDNewK, tRevL, rCat, rAppend, rPop, rSetL, tAndV, tOrV, tNotV, tSl, tPart, tNoPart, tM1, gTup, gCons, gNil, cxK, cxnK, List.map_cons, List.map_nil, List.length_cons, List.length_nil, List.replicate, List.cons_append, List.nil_append, List.append_nil, List.set_cons_zero, List.set_cons_succ, List.getElem?_cons_zero, List.getElem?_cons_succ, Option.some.injEq, V.ref.injEq, V.int.injEq, V.str.injEq, V.bl.injEq, V.ty.injEq, exists_eq_left', exists_eq_left, exists_and_left, List.cons.injEq, and_true, true_and, sc_ii, sc_ss, sc_bb, sc_ni, sc_in, sc_is, sc_si, sc_nn, decide_true, decide_false, reduceCtorEq, Bool.false_eq_true, if_true, if_false, ite_true, ite_false, exists_const, eq_self, false_and, and_false, or_false, false_or, exists_false, Evl.rLenS, rSum, wipe, tYes, exists_eq, exists_eq', rIxL, rIxT, rIxS, exists_and_right, gt_iff_lt, not_true_eq_false, not_false_eq_true, Bool.not_true, Bool.not_false, decide_eq_true_eq, Nat.reduceSub, Nat.reduceAdd, List.append_assoc, tChain, tDIn, tDNotIn, sDDel, tAug, ipI]
    have kr : Kp [] H (upd H r (.lst [])) := Kp.new nr
    have hr0 : (upd H r (.lst [])) r = some (.lst []) := upd_same
    generalize upd H r (.lst []) = G at kr hr0 ⊢
    refine ⟨rfl, fun a ws H1 na ha hws k1 => ?_⟩
    have ar : r ≠ a := fun z => by rw [← z, hr0] at na; cases na
    refine forLC34 (fun i σ H' => UsIn K n r H i σ H' ∧ Kp [r] H1 H') (sq_l ha) ⟨⟨none, none, rfl, [], [], List.Sublist.slnil, k1 _ _ not0 hr0, .nil, kr.trans k1⟩, Kp.refl _ _⟩ (fun j σ H7 _ h => h.2.ls (by simpa using Ne.symm ar) (sq_l ha)) (fun j x σ H2 hx h => ?_) fun σ H2 h => ?_
    · obtain ⟨⟨c, d, rfl, hs⟩, kx⟩ := h
      have nS : NoTp H1 [r] := noTp1 (k1 _ _ not0 hr0)
      obtain ⟨dd, ed, hd⟩ := dpGet (dpAllT kx nS hws (noLsP _)) hx
      rw [List.getElem?_map] at ed
      obtain ⟨p, ep, rfl⟩ : ∃ p, pairsL[j]? = some p ∧ pD p = dd := by
        cases e : pairsL[j]? with
        | none => rw [e] at ed; cases ed
        | some p => rw [e] at ed; exact ⟨p, rfl, Option.some.inj ed⟩
      obtain ⟨t, rfl, ht⟩ := dpPair hd
      have go : ∀ (v : V) (H3 : Hp), Kp [] H2 H3 → (∃ acc, H3 r = some (.lst acc) ∧ acc.length + 1 ≤ sizeLine ∧ UsIn K n r H (j + 1) [some (.int n), some (.ref r), some (.ref t), some v] (upd H3 r (.lst (acc ++ [.ref t]))) ∧ Kp [r] H1 (upd H3 r (.lst (acc ++ [.ref t])))) ∧ (UsIn K n r H (j + 1) [some (.int n), some (.ref r), some (.ref t), some v] H3 ∧ Kp [r] H1 H3) := fun v H3 k3 => by
        obtain ⟨acc, e1, e2, e3⟩ := (hs.kp k3).put nr ep (dpN k3 noSq0 hd)
        exact ⟨⟨acc, e1, e2, ⟨_, _, rfl, e3⟩, (kx.trans k3.of0).put (by simp)⟩, ⟨_, _, rfl, (hs.kp k3).skip⟩, kx.trans k3.of0⟩
      have last : ∀ (b : Bool) (H3 : Hp), Kp [] H2 H3 → ∃ acc, H3 r = some (.lst acc) ∧ acc.length + 1 ≤ sizeLine ∧ UsIn K n r H (j + 1) [some (.int n), some (.ref r), some (.ref t), some (.bl b)] (upd H3 r (.lst (acc ++ [.ref t]))) ∧ Kp [r] H1 (upd H3 r (.lst (acc ++ [.ref t]))) := fun b H3 k3 => (go (.bl b) H3 k3).1
      try simp (maxSteps := 1000000) only [tSeq, tIfS, tTest, tOp, tUn, tCB, tCons, tNil, tVar, tC, rI0, rI, rU, rEq, rNe, tRet, tRetN, tAsg, gName, gSub, tBM, tBM0, tNext, tB, tNot, tAnd, tOr, tIf, tCall, tDrop, tBreak, tCont, L2.start, tDGet, sDPut, tTup, tLst, tDNewK, tRevL, rCat, rAppend, rPop, rSetL, tAndV, tOrV, tNotV, tSl, tPart, tNoPart, tM1, gTup, gCons, gNil, cxK, cxnK, List.map_cons, List.map_nil, List.length_cons, List.length_nil, List.replicate, List.cons_append, List.nil_append, List.append_nil, List.set_cons_zero, List.set_cons_succ, List.getElem?_cons_zero, List.getElem?_cons_succ, Option.some.injEq, V.ref.injEq, V.int.injEq, V.str.injEq, V.bl.injEq, V.ty.injEq, exists_eq_left', exists_eq_left, exists_and_left, List.cons.injEq, and_true, true_and, sc_ii, sc_ss, sc_bb, sc_ni, sc_in, sc_is, sc_si, sc_nn, decide_true, decide_false, reduceCtorEq, Bool.false_eq_true, if_true, if_false, ite_true, ite_false, exists_const, eq_self, false_and, and_false, or_false, false_or, exists_false, Evl.rLenS, rSum, wipe, tYes, exists_eq, exists_eq', rIxL, rIxT, rIxS, exists_and_right, gt_iff_lt, not_true_eq_false, not_false_eq_true, Bool.not_true, Bool.not_false, decide_eq_true_eq, Nat.reduceSub, Nat.reduceAdd, List.append_assoc, tChain, tDIn, tDNotIn, sDDel, tAug, ipI]
      refine ⟨_, ht, _, rfl, small (by decide), fun q1 nq1 => ⟨q1, _, rfl, .inr (sq_t upd_same), rfl, rfl, _, rfl, ?_⟩⟩
      have k3 : Kp [] H2 (upd H2 q1 (.tup [.str "write", .str "release"])) := Kp.new nq1
      generalize (upd H2 q1 (.tup [.str "write", .str "release"])) = H3 at k3 ⊢
      have ht3 := k3.tp not0 ht
      refine ite2 (fun hh => ?_) (fun hh => ?_)
      · refine ⟨_, ht3, _, rfl, small (by decide), fun q2 nq2 => ⟨q2, _, rfl, .inr (sq_t upd_same), rfl, rfl, ?_⟩⟩
        have k4 : Kp [] H2 (upd H3 q2 (.tup [.str "read", .str "acquire", .str "return"])) := k3.trans (Kp.new nq2)
        generalize (upd H3 q2 (.tup [.str "read", .str "acquire", .str "return"])) = H4 at k4 ⊢
        dsimp only
        generalize inV _ _ = b
        have ht9 := k4.tp not0 ht
        have app := (go (.bl b) H4 k4).1
        have skp := (go (.bl b) H4 k4).2
        obtain ⟨acc, a1, a2, a3⟩ := app
        refine ite2 (fun _ => ⟨.inl ⟨rfl, _, sq_l a1⟩, acc, a1, a2, a3⟩) (fun _ => ite2 (fun _ => ?_) (fun _ => ?_))
        · refine ⟨_, rfl, ?_⟩
          refine ite2 (fun _ => ⟨.inl ⟨rfl, _, sq_l a1⟩, acc, a1, a2, a3⟩) (fun _ => ?_)
          refine ite2 (fun _ => ?_) (fun _ => skp)
          refine ⟨_, ht9, _, rfl, rfl, ?_⟩
          refine ite2 (fun _ => ⟨.inl ⟨rfl, _, sq_l a1⟩, acc, a1, a2, a3⟩) (fun _ => ?_)
          refine ⟨_, ht9, _, rfl, rfl, ?_⟩
          exact ite2 (fun _ => ⟨.inl ⟨rfl, _, sq_l a1⟩, acc, a1, a2, a3⟩) (fun _ => skp)
        · refine ite2 (fun _ => ?_) (fun _ => skp)
          refine ⟨_, ht9, _, rfl, rfl, ?_⟩
          refine ite2 (fun _ => ⟨.inl ⟨rfl, _, sq_l a1⟩, acc, a1, a2, a3⟩) (fun _ => ?_)
          refine ⟨_, ht9, _, rfl, rfl, ?_⟩
          exact ite2 (fun _ => ⟨.inl ⟨rfl, _, sq_l a1⟩, acc, a1, a2, a3⟩) (fun _ => skp)
      · skip
        have ht9 := k3.tp not0 ht
        have app := (go (.bl false) H3 k3).1
        have skp := (go (.bl false) H3 k3).2
        obtain ⟨acc, a1, a2, a3⟩ := app
        refine ite2 (fun _ => ⟨.inl ⟨rfl, _, sq_l a1⟩, acc, a1, a2, a3⟩) (fun _ => ite2 (fun _ => ?_) (fun _ => ?_))
        · exact ⟨.inl ⟨rfl, _, sq_l a1⟩, acc, a1, a2, a3⟩
        · refine ite2 (fun _ => ?_) (fun _ => skp)
          refine ⟨_, ht9, _, rfl, rfl, ?_⟩
          refine ite2 (fun _ => ⟨.inl ⟨rfl, _, sq_l a1⟩, acc, a1, a2, a3⟩) (fun _ => ?_)
          refine ⟨_, ht9, _, rfl, rfl, ?_⟩
          exact ite2 (fun _ => ⟨.inl ⟨rfl, _, sq_l a1⟩, acc, a1, a2, a3⟩) (fun _ => skp)
    · obtain ⟨⟨c, d, rfl, hs⟩, kx⟩ := h
      try simp (maxSteps := 1000000) only [tSeq, tIfS, tTest, tOp, tUn, tCB, tCons, tNil, tVar, tC, rI0, rI, rU, rEq, rNe, tRet, tRetN, tAsg, gName, gSub, tBM, tBM0, tNext, tB, tNot, tAnd, tOr, tIf, tCall, tDrop, tBreak, tCont, L2.start, tDGet, sDPut, tTup, tLst, tDNewK, tRevL, rCat, rAppend, rPop, rSetL, tAndV, tOrV, tNotV, tSl, tPart, tNoPart, tM1, gTup, gCons, gNil, cxK, cxnK, List.map_cons, List.map_nil, List.length_cons, List.length_nil, List.replicate, List.cons_append, List.nil_append, List.append_nil, List.set_cons_zero, List.set_cons_succ, List.getElem?_cons_zero, List.getElem?_cons_succ, Option.some.injEq, V.ref.injEq, V.int.injEq, V.str.injEq, V.bl.injEq, V.ty.injEq, exists_eq_left', exists_eq_left, exists_and_left, List.cons.injEq, and_true, true_and, sc_ii, sc_ss, sc_bb, sc_ni, sc_in, sc_is, sc_si, sc_nn, decide_true, decide_false, reduceCtorEq, Bool.false_eq_true, if_true, if_false, ite_true, ite_false, exists_const, eq_self, false_and, and_false, or_false, false_or, exists_false, Evl.rLenS, rSum, wipe, tYes, exists_eq, exists_eq', rIxL, rIxT, rIxS, exists_and_right, gt_iff_lt, not_true_eq_false, not_false_eq_true, Bool.not_true, Bool.not_false, decide_eq_true_eq, Nat.reduceSub, Nat.reduceAdd, List.append_assoc, tChain, tDIn, tDNotIn, sDDel, tAug, ipI]
      obtain ⟨f, hf, k⟩ := hs.fin (by rw [dpLen hws, List.length_map]; exact Nat.le_refl _)
      exact q r f H2 nr hf k
end
end My

set_option Elab.async false
set_option linter.all false
set_option maxRecDepth 100000
set_option maxHeartbeats 4000000
namespace My
open PySem L2 NdefX
abbrev s_law_set : Stmt := top 36
theorem sc_law_set : FnScope ["_law_number", "_law_rows", "_law_way", "_law_spot", "_law_usual_here", "_law_pair", "_law_chosen", "_law_digit"] ["_law_number"] (defScope s_law_set) := ⟨rfl, rfl, rfl, by decide +kernel, rfl, by decide +kernel, by decide +kernel⟩
section
variable {P : Program} {w : World} {K : PySem.W.Frag} {mg : Str → Option Value} {base : Heap}
theorem lcSel {tt : TT} {σ : L2.St} {H : Hp} {Q : VK} {a : Addr} {ws : List V} (hσ : σ[1]? = some (some (.ref a))) (hj : 5 < σ.length) (ha : H a = some (.lst ws)) (hws : DpAll K H ws (pairsL.map pD))
    (ht : ∀ (p : Pr) (v : V) (H' : Hp) (R : Bool → Hp → Prop), p ∈ pairsL → Kp [] H H' → Dp K H' v (pD p) → (∀ b H2, Kp [] H' H2 → R b H2) → tt ((wipe σ [5]).set 5 (some v)) H' R)
    (q : ∀ (l : Addr) (f : Pr → Bool) (H' : Hp), H l = none → SelAt K H' l f → Kp [] H H' → Q (.ref l) H') : tLc (iList K (tVar 1)) (gName 5) tt (tVar 5) [5] σ H Q := by
  refine ⟨.ref a, hσ, a, rfl, ⟨_, sq_l ha⟩, fun D nD => lc_list (K := K) (a := a) (xs := ws) (fun i H' => SelIn K H D i H') ⟨[], [], List.Sublist.slnil, upd_same, .nil, Kp.new nD⟩ (fun i H' _ h => by obtain ⟨_, _, _, _, _, k⟩ := h; exact k.ls not0 (sq_l ha)) ?_ ?_⟩
  · rintro i x H2 hx hs
    have k2 : Kp [] H H2 := by obtain ⟨_, _, _, _, _, k⟩ := hs; exact k
    obtain ⟨dd, ed, hd⟩ := dpGet (dpAllN k2 noSq0 hws) hx
    rw [List.getElem?_map] at ed
    obtain ⟨p, ep, rfl⟩ : ∃ p, pairsL[i]? = some p ∧ pD p = dd := by
      cases e : pairsL[i]? with
      | none => rw [e] at ed; cases ed
      | some p => rw [e] at ed; exact ⟨p, rfl, Option.some.inj ed⟩
    refine ⟨by simp [wipe], ht p x H2 _ (List.mem_of_getElem? ep) k2 hd fun b H3 k3 => ?_⟩
    cases b with
    | false => exact (hs.kp k3).skip
    | true =>
      obtain ⟨acc, e1, e2, e3⟩ := (hs.kp k3).put nD ep (dpN k3 noSq0 hd)
      exact ⟨x, by simp [wipe, hj], acc, e1, e2, e3⟩
  · intro H2 hs
    obtain ⟨f, hf, k⟩ := hs.fin (by rw [dpLen hws, List.length_map]; exact Nat.le_refl _)
    exact q D f H2 nD hf k
theorem ok_law_set {f : Addr} {fd : FuncData} (D : Df K mg "_law_set" s_law_set ["_law_number"] f fd) (T : Bt0 mg) {fg : Addr} {fdg : FuncData} (D_law_pairs : Df K mg "_law_pairs" s_law_pairs [] fg fdg) (G_law_pairs : FnOk P w K mg base CX0 1 fg fdg [] (spPairs K)) {fu : Addr} {fdu : FuncData} (D_law_usual : Df K mg "_law_usual" s_law_usual ["_law_which"] fu fdu) (G_law_usual : FnOk P w K mg base CX0 2 fu fdu ["_law_which"] (spSel K)) : FnOk P w K mg base CX0 3 f fd ["_law_number"] (spSel K) := by
  refine D.F.ok sc_law_set (fun vs H Q E h => ?_) (fun cdv A outer s H vs Q E hr h => ?_)
  · obtain ⟨_, rfl, _⟩ := h
    rfl
  · obtain ⟨n, rfl, n0, q⟩ := h
    have hu := hu_of hr
    refine ⟨_, (pss_cons (ps_set (i := 1) sc_law_set.nd rfl (Or.inr rfl) (pe_call0 G_law_pairs (hr.mono (by decide)) rfl D_law_pairs.g D_law_pairs.F.kp D_law_pairs.b .nil pass0))
      (pss_cons (ps_set (i := 2) sc_law_set.nd rfl (Or.inl rfl) (pe_op op_mod (pe_callTy (T := "int") call_int1 (by rfl) T.b_int (by decide +kernel) (pa_cons (pv 0) pa_nil)) pe_int))
      (pss_cons (ps_set (i := 0) sc_law_set.nd rfl (Or.inr rfl) (pe_op op_fdiv (pv 0) pe_int))
      (pss_cons (ps_set (i := 3) sc_law_set.nd rfl (Or.inr rfl) (pe_ix (r := rIxL K) ix_list (pv 1) (pe_op op_mod (pe_callTy (T := "int") call_int1 (by rfl) T.b_int (by decide +kernel) (pa_cons (pe_op op_fdiv (pv 0) pe_int) pa_nil)) pe_int) (fun _ _ => rfl)))
      (pss_cons (ps_if (pt_cmpR op_eq (pv 2) pe_int (nomark _)) (pss_one (ps_ret (pe_call G_law_usual (hr.mono (by decide)) rfl D_law_usual.g D_law_usual.F.kp D_law_usual.b .nil pass0 (pa_cons (pe_op op_mod (pe_callTy (T := "int") call_int1 (by rfl) T.b_int (by decide +kernel) (pa_cons (pv 0) pa_nil)) pe_int) pa_nil)))) pss_nil)
      (pss_cons (ps_if (pt_cmpR op_eq (pv 2) pe_int (nomark _)) (pss_cons (ps_set (i := 4) sc_law_set.nd rfl (Or.inr rfl) (pe_call G_law_usual (hr.mono (by decide)) rfl D_law_usual.g D_law_usual.F.kp D_law_usual.b .nil pass0 (pa_cons (pe_op op_mod (pe_callTy (T := "int") call_int1 (by rfl) T.b_int (by decide +kernel) (pa_cons (pv 0) pa_nil)) pe_int) pa_nil)))
      (pss_one (ps_ret (pe_lc (own := [("_law_pair", 5)]) (g := (gName 5)) rfl sc_law_set.nd (pi_list (pv 1)) (blkOk_by (N := ["_law_number", "_law_rows", "_law_way", "_law_spot", "_law_usual_here", "_law_pair", "_law_chosen", "_law_digit"]) (sc := defScope s_law_set) (by decide +kernel)) (fun _ _ _ _ _ => (pg_name (i := 5) sc_law_set.nd rfl (Or.inl rfl))) (fun _ _ _ _ _ => (pts_one (pt_cmpR op_ne (pe_cmpR (r := rInD K) (op_inD (hu5 hr)) (pv 5) (pv 4) (by rfl)) (pe_cmpR (r := rEqD K) (op_eqD hr.units) (pv 5) (pv 3) (nomark _)) (nomark _)))) (fun _ _ _ _ _ => (pv 5)))))) pss_nil)
      (pss_cons (ps_if (pt_cmpR op_eq (pv 2) pe_int (nomark _)) (pss_one (ps_ret (pe_lc (own := [("_law_pair", 5)]) (g := (gName 5)) rfl sc_law_set.nd (pi_list (pv 1)) (blkOk_by (N := ["_law_number", "_law_rows", "_law_way", "_law_spot", "_law_usual_here", "_law_pair", "_law_chosen", "_law_digit"]) (sc := defScope s_law_set) (by decide +kernel)) (fun _ _ _ _ _ => (pg_name (i := 5) sc_law_set.nd rfl (Or.inl rfl))) (fun _ _ _ _ _ => (pts_one (PW.pt (pw_and (pt_cmpR (r := rEqD K) (op_eqD hr.units) (pv 5) (pv 3) (nomark _)) (pw_and1 (pt_cmpR op_gt (pe_op op_mod (pe_callTy (T := "int") call_int1 (by rfl) T.b_int (by decide +kernel) (pa_cons (pv 0) pa_nil)) pe_int) pe_int (nomark _))))))) (fun _ _ _ _ _ => (pv 5))))) pss_nil)
      (pss_cons (ps_if (pt_cmpR op_eq (pv 2) pe_int (nomark _)) (pss_one (ps_ret (pe_lc (own := [("_law_pair", 5)]) (g := (gName 5)) rfl sc_law_set.nd (pi_list (pv 1)) (blkOk_by (N := ["_law_number", "_law_rows", "_law_way", "_law_spot", "_law_usual_here", "_law_pair", "_law_chosen", "_law_digit"]) (sc := defScope s_law_set) (by decide +kernel)) (fun _ _ _ _ _ => (pg_name (i := 5) sc_law_set.nd rfl (Or.inl rfl))) (fun _ _ _ _ _ => (pts_one (PW.pt (pw_and (pt_cmpR (r := rNeD K) (op_neD hr.units) (pv 5) (pv 3) (nomark _)) (pw_and1 (pt_cmpR (r := rNeD K) (op_neD hr.units) (pv 5) (pe_ix (r := rIxL K) ix_list (pv 1) (pe_op op_mod (pe_callTy (T := "int") call_int1 (by rfl) T.b_int (by decide +kernel) (pa_cons (pe_op op_fdiv (pv 0) pe_int) pa_nil)) pe_int) (fun _ _ => rfl)) (nomark _))))))) (fun _ _ _ _ _ => (pv 5))))) pss_nil)
      (pss_cons (ps_set (i := 6) sc_law_set.nd rfl (Or.inl rfl) (pe_lst pa_nil))
      (pss_cons (ps_for PassesOwn.never rfl (pi_list (pv 1)) (pg_name (i := 5) sc_law_set.nd rfl (Or.inl rfl)) (pss_cons (ps_set (i := 7) sc_law_set.nd rfl (Or.inl rfl) (pe_op op_mod (pe_callTy (T := "int") call_int1 (by rfl) T.b_int (by decide +kernel) (pa_cons (pv 0) pa_nil)) pe_int))
      (pss_cons (ps_set (i := 0) sc_law_set.nd rfl (Or.inr rfl) (pe_op op_fdiv (pv 0) pe_int))
      (pss_one (ps_if (PW.pt (pw_or (PW.pt (pw_and (pt_cmpR op_eq (pv 2) pe_int (nomark _)) (pw_and1 (pt_cmpR op_eq (pv 7) pe_int (nomark _))))) (pw_or (PW.pt (pw_and (pt_cmpR op_eq (pv 2) pe_int (nomark _)) (pw_and1 (pt_cmpR op_gt (pv 7) pe_int (nomark _))))) (pw_or1 (PW.pt (pw_and (pt_cmpR op_in_seq (pv 2) (pe_tup (pa_cons pe_int (pa_cons pe_int pa_nil))) (by rfl)) (pw_and1 (pt_cmpR op_in_seq (pv 7) (pe_tup (pa_cons pe_int (pa_cons pe_int pa_nil))) (by rfl))))))))) (pss_one (ps_expr (pe_bm PySem.F.plainAttrs_list PySem.F.slot_list_append PySem.F.type_list_append mt_append (pv 6) (pa_cons (pv 5) pa_nil)))) pss_nil)))))
      (pss_one (ps_ret (pv 6))))))))))))), ?_⟩
    try simp (maxSteps := 1000000) only [tSeq, tIfS, tTest, tOp, tUn, tCB, tCons, tNil, tVar, tC, rI0, rI, rU, rEq, rNe, tRet, tRetN, tAsg, gName, gSub, tBM, tBM0, tNext, tB, tNot, tAnd, tOr, tIf, tCall, tDrop, tBreak, tCont, L2.start, tDGet, sDPut, tTup, tLst, tDNewK, tRevL, rCat, rAppend, rPop, rSetL, tAndV, tOrV, tNotV, tSl, tPart, tNoPart, tM1, gTup, gCons, gNil, cxK, cxnK, List.map_cons, List.map_nil, List.length_cons, List.length_nil, List.replicate, List.cons_append, List.nil_append, List.append_nil, List.set_cons_zero, List.set_cons_succ, List.getElem?_cons_zero, List.getElem?_cons_succ, Option.some.injEq, V.ref.injEq, V.int.injEq, V.str.injEq, V.bl.injEq, V.ty.injEq, exists_eq_left', exists_eq_left, exists_and_left, List.cons.injEq, and_true, true_and, sc_ii, sc_ss, sc_bb, sc_ni, sc_in, sc_is, sc_si, sc_nn, decide_true, decide_false, reduceCtorEq, Bool.false_eq_true, if_true, if_false, ite_true, ite_false, exists_const, eq_self, false_and, and_false, or_false, false_or, exists_false, Evl.rLenS, rSum, wipe, tYes, exists_eq, exists_eq', rIxL, rIxT, rIxS, exists_and_right, gt_iff_lt, not_true_eq_false, not_false_eq_true, Bool.not_true, Bool.not_false, decide_eq_true_eq, Nat.reduceSub, Nat.reduceAdd, List.append_assoc, tChain, tDIn, tDNotIn, sDDel, tAug, ipI]
    refine ⟨rfl, fun a ws H1 na ha hws k1 => ?_⟩
    try simp (maxSteps := 1000000) only [tSeq, tIfS, tTest, tOp, tUn, tCB, tCons, tNil, tVar, tC, rI0, rI, rU, rEq, rNe, tRet, tRetN, tAsg, gName, gSub, tBM, tBM0, tNext, tB, tNot, tAnd, tOr, tIf, tCall, tDrop, tBreak, tCont, L2.start, tDGet, sDPut, tTup, tLst, tDNewK, tRevL, rCat, rAppend, rPop, rSetL, tAndV, tOrV, tNotV, tSl, tPart, tNoPart, tM1, gTup, gCons, gNil, cxK, cxnK, List.map_cons, List.map_nil, List.length_cons, List.length_nil, List.replicate, List.cons_append, List.nil_append, List.append_nil, List.set_cons_zero, List.set_cons_succ, List.getElem?_cons_zero, List.getElem?_cons_succ, Option.some.injEq, V.ref.injEq, V.int.injEq, V.str.injEq, V.bl.injEq, V.ty.injEq, exists_eq_left', exists_eq_left, exists_and_left, List.cons.injEq, and_true, true_and, sc_ii, sc_ss, sc_bb, sc_ni, sc_in, sc_is, sc_si, sc_nn, decide_true, decide_false, reduceCtorEq, Bool.false_eq_true, if_true, if_false, ite_true, ite_false, exists_const, eq_self, false_and, and_false, or_false, false_or, exists_false, Evl.rLenS, rSum, wipe, tYes, exists_eq, exists_eq', rIxL, rIxT, rIxS, exists_and_right, gt_iff_lt, not_true_eq_false, not_false_eq_true, Bool.not_true, Bool.not_false, decide_eq_true_eq, Nat.reduceSub, Nat.reduceAdd, List.append_assoc, tChain, tDIn, tDNotIn, sDDel, tAug, ipI]
    have at27 : ∀ e : Int, 0 ≤ e → e < 27 → ∃ v p, atI ws e = some v ∧ p ∈ pairsL ∧ ∀ {H' : Hp}, Kp [] H1 H' → Dp K H' v (pD p) := fun e e0 e1 => by
      obtain ⟨m, rfl⟩ : ∃ m : Nat, e = m := ⟨e.toNat, by omega⟩
      have ml : m < ws.length := by rw [dpLen hws, List.length_map, pairs_len]; omega
      obtain ⟨dd, ed, hd⟩ := dpGet hws (List.getElem?_eq_getElem ml)
      obtain ⟨p, hp, rfl⟩ := List.mem_map.mp (List.mem_of_getElem? ed)
      exact ⟨_, p, atI_nat (List.getElem?_eq_getElem ml), hp, fun k => dpN k noSq0 hd⟩
    obtain ⟨v, p0, ev, hp0, hv⟩ := at27 ((n / 8 / 3) % 27) (Int.emod_nonneg _ (by decide)) (Int.emod_lt_of_pos _ (by decide))
    refine ⟨by decide, ⟨by decide, by decide⟩, ⟨by decide, by decide⟩, by decide, ws, sq_l ha, v, ev, ?_⟩
    have q1 : ∀ (l : Addr) (f : Pr → Bool) (H' : Hp), H1 l = none → SelAt K H' l f → Kp [] H1 H' → Q (.ref l) H' := fun l f H' nl hf k => q l f H' (k1.free0 nl) hf (k1.trans k)
    refine ite2 (fun h => ?_) (fun h => ite2 (fun h => ?_) (fun h => ite2 (fun h => ?_) (fun h => ite2 (fun h => ?_) (fun h => ?_))))
    · exact ⟨by decide, _, rfl, Int.emod_nonneg _ (by decide), q1⟩
    · refine ⟨by decide, _, rfl, Int.emod_nonneg _ (by decide), fun u fu H2 nu hu2 k2 => ?_⟩
      obtain ⟨us, hu3, hD3⟩ := hu2
      refine lcSel rfl (by simp) (k2 _ _ not0 ha) (dpAllN k2 noSq0 hws) (fun p x H3 R hp k3 hx fin => ?_) fun l f H' nl hf k => q1 l f H' (k2.free0 nl) hf (k2.trans k)
      try simp (maxSteps := 1000000) only [tSeq, tIfS, tTest, tOp, tUn, tCB, tCons, tNil, tVar, tC, rI0, rI, rU, rEq, rNe, tRet, tRetN, tAsg, gName, gSub, tBM, tBM0, tNext, tB, tNot, tAnd, tOr, tIf, tCall, tDrop, tBreak, tCont, L2.start, tDGet, sDPut, tTup, tLst, tDNewK, tRevL, rCat, rAppend, rPop, rSetL, tAndV, tOrV, tNotV, tSl, tPart, tNoPart, tM1, gTup, gCons, gNil, cxK, cxnK, List.map_cons, List.map_nil, List.length_cons, List.length_nil, List.replicate, List.cons_append, List.nil_append, List.append_nil, List.set_cons_zero, List.set_cons_succ, List.getElem?_cons_zero, List.getElem?_cons_succ, Option.some.injEq, V.ref.injEq, V.int.injEq, V.str.injEq, V.bl.injEq, V.ty.injEq, exists_eq_left', exists_eq_left, exists_and_left, List.cons.injEq, and_true, true_and, sc_ii, sc_ss, sc_bb, sc_ni, sc_in, sc_is, sc_si, sc_nn, decide_true, decide_false, reduceCtorEq, Bool.false_eq_true, if_true, if_false, ite_true, ite_false, exists_const, eq_self, false_and, and_false, or_false, false_or, exists_false, Evl.rLenS, rSum, wipe, tYes, exists_eq, exists_eq', rIxL, rIxT, rIxS, exists_and_right, gt_iff_lt, not_true_eq_false, not_false_eq_true, Bool.not_true, Bool.not_false, decide_eq_true_eq, Nat.reduceSub, Nat.reduceAdd, List.append_assoc, tChain, tDIn, tDNotIn, sDDel, tAug, ipI]
      refine ⟨pD p, _, hx, .lst (sq_l (k3 _ _ not0 hu3)) (dpAllN k3 noSq0 hD3), okP hp, (shapedL (fitsP (subP fu))).1, ?_⟩
      refine ⟨pD p, pD p0, hx, hv (k2.trans k3), okP hp, okP hp0, rfl, fin _ _ (Kp.refl _ _)⟩
    · refine lcSel rfl (by simp) ha hws (fun p x H3 R hp k3 hx fin => ?_) q1
      try simp (maxSteps := 1000000) only [tSeq, tIfS, tTest, tOp, tUn, tCB, tCons, tNil, tVar, tC, rI0, rI, rU, rEq, rNe, tRet, tRetN, tAsg, gName, gSub, tBM, tBM0, tNext, tB, tNot, tAnd, tOr, tIf, tCall, tDrop, tBreak, tCont, L2.start, tDGet, sDPut, tTup, tLst, tDNewK, tRevL, rCat, rAppend, rPop, rSetL, tAndV, tOrV, tNotV, tSl, tPart, tNoPart, tM1, gTup, gCons, gNil, cxK, cxnK, List.map_cons, List.map_nil, List.length_cons, List.length_nil, List.replicate, List.cons_append, List.nil_append, List.append_nil, List.set_cons_zero, List.set_cons_succ, List.getElem?_cons_zero, List.getElem?_cons_succ, Option.some.injEq, V.ref.injEq, V.int.injEq, V.str.injEq, V.bl.injEq, V.ty.injEq, exists_eq_left', exists_eq_left, exists_and_left, List.cons.injEq, and_true, true_and, sc_ii, sc_ss, sc_bb, sc_ni, sc_in, sc_is, sc_si, sc_nn, decide_true, decide_false, reduceCtorEq, Bool.false_eq_true, if_true, if_false, ite_true, ite_false, exists_const, eq_self, false_and, and_false, or_false, false_or, exists_false, Evl.rLenS, rSum, wipe, tYes, exists_eq, exists_eq', rIxL, rIxT, rIxS, exists_and_right, gt_iff_lt, not_true_eq_false, not_false_eq_true, Bool.not_true, Bool.not_false, decide_eq_true_eq, Nat.reduceSub, Nat.reduceAdd, List.append_assoc, tChain, tDIn, tDNotIn, sDDel, tAug, ipI]
      refine ⟨pD p, pD p0, hx, hv k3, okP hp, okP hp0, _, rfl, ?_⟩
      exact ite2 (fun _ => ⟨by decide, fin _ _ (Kp.refl _ _)⟩) (fun _ => fin _ _ (Kp.refl _ _))
    · refine lcSel rfl (by simp) ha hws (fun p x H3 R hp k3 hx fin => ?_) q1
      try simp (maxSteps := 1000000) only [tSeq, tIfS, tTest, tOp, tUn, tCB, tCons, tNil, tVar, tC, rI0, rI, rU, rEq, rNe, tRet, tRetN, tAsg, gName, gSub, tBM, tBM0, tNext, tB, tNot, tAnd, tOr, tIf, tCall, tDrop, tBreak, tCont, L2.start, tDGet, sDPut, tTup, tLst, tDNewK, tRevL, rCat, rAppend, rPop, rSetL, tAndV, tOrV, tNotV, tSl, tPart, tNoPart, tM1, gTup, gCons, gNil, cxK, cxnK, List.map_cons, List.map_nil, List.length_cons, List.length_nil, List.replicate, List.cons_append, List.nil_append, List.append_nil, List.set_cons_zero, List.set_cons_succ, List.getElem?_cons_zero, List.getElem?_cons_succ, Option.some.injEq, V.ref.injEq, V.int.injEq, V.str.injEq, V.bl.injEq, V.ty.injEq, exists_eq_left', exists_eq_left, exists_and_left, List.cons.injEq, and_true, true_and, sc_ii, sc_ss, sc_bb, sc_ni, sc_in, sc_is, sc_si, sc_nn, decide_true, decide_false, reduceCtorEq, Bool.false_eq_true, if_true, if_false, ite_true, ite_false, exists_const, eq_self, false_and, and_false, or_false, false_or, exists_false, Evl.rLenS, rSum, wipe, tYes, exists_eq, exists_eq', rIxL, rIxT, rIxS, exists_and_right, gt_iff_lt, not_true_eq_false, not_false_eq_true, Bool.not_true, Bool.not_false, decide_eq_true_eq, Nat.reduceSub, Nat.reduceAdd, List.append_assoc, tChain, tDIn, tDNotIn, sDDel, tAug, ipI]
      refine ⟨pD p, pD p0, hx, hv k3, okP hp, okP hp0, _, rfl, ?_⟩
      refine ite2 (fun _ => ?_) (fun _ => fin _ _ (Kp.refl _ _))
      obtain ⟨v2, p2, ev2, hp2, hv2⟩ := at27 ((n / 8 / 81) % 27) (Int.emod_nonneg _ (by decide)) (Int.emod_lt_of_pos _ (by decide))
      exact ⟨⟨by decide, by decide⟩, by decide, ws, sq_l (k3 _ _ not0 ha), v2, ev2, pD p, pD p2, hx, hv2 k3, okP hp, okP hp2, _, rfl, fin _ _ (Kp.refl _ _)⟩
    · refine ⟨small (by decide), fun r nr => forL_src34 ?_⟩
      have kr : Kp [] H1 (upd H1 r (.lst [])) := Kp.new nr
      have h0 : SelIn K H1 r 0 (upd H1 r (.lst [])) := ⟨[], [], List.Sublist.slnil, upd_same, .nil, kr⟩
      try simp (maxSteps := 1000000) only [tSeq, tIfS, tTest, tOp, tUn, tCB, tCons, tNil, tVar, tC, rI0, rI, rU, rEq, rNe, tRet, tRetN, tAsg, gName, gSub, tBM, tBM0, tNext, tB, tNot, tAnd, tOr, tIf, tCall, tDrop, tBreak, tCont, L2.start, tDGet, sDPut, tTup, tLst, tDNewK, tRevL, rCat, rAppend, rPop, rSetL, tAndV, tOrV, tNotV, tSl, tPart, tNoPart, tM1, gTup, gCons, gNil, cxK, cxnK, List.map_cons, List.map_nil, List.length_cons, List.length_nil, List.replicate, List.cons_append, List.nil_append, List.append_nil, List.set_cons_zero, List.set_cons_succ, List.getElem?_cons_zero, List.getElem?_cons_succ, Option.some.injEq, V.ref.injEq, V.int.injEq, V.str.injEq, V.bl.injEq, V.ty.injEq, exists_eq_left', exists_eq_left, exists_and_left, List.cons.injEq, and_true, true_and, sc_ii, sc_ss, sc_bb, sc_ni, sc_in, sc_is, sc_si, sc_nn, decide_true, decide_false, reduceCtorEq, Bool.false_eq_true, if_true, if_false, ite_true, ite_false, exists_const, eq_self, false_and, and_false, or_false, false_or, exists_false, Evl.rLenS, rSum, wipe, tYes, exists_eq, exists_eq', rIxL, rIxT, rIxS, exists_and_right, gt_iff_lt, not_true_eq_false, not_false_eq_true, Bool.not_true, Bool.not_false, decide_eq_true_eq, Nat.reduceSub, Nat.reduceAdd, List.append_assoc, tChain, tDIn, tDNotIn, sDDel, tAug, ipI]
      refine forLC34 (fun i σ H' => (∃ (m : Int) (c d : Option V), σ = [some (.int m), some (.ref a), some (.int (n % 8)), some v, none, c, some (.ref r), d]) ∧ SelIn K H1 r i H') (sq_l (kr _ _ not0 ha)) ⟨⟨_, _, _, rfl⟩, h0⟩ (fun j σ H7 _ h => by obtain ⟨_, _, _, _, _, _, k⟩ := h; exact k.ls not0 (sq_l ha)) (fun j x σ H2 hx h => ?_) fun σ H2 h => ?_
      · obtain ⟨⟨m, c, d, rfl⟩, hs⟩ := h
        have k2 : Kp [] H1 H2 := by obtain ⟨_, _, _, _, _, k⟩ := hs; exact k
        obtain ⟨dd, ed, hd⟩ := dpGet (dpAllN k2 noSq0 hws) hx
        rw [List.getElem?_map] at ed
        obtain ⟨p, ep, rfl⟩ : ∃ p, pairsL[j]? = some p ∧ pD p = dd := by
          cases e : pairsL[j]? with
          | none => rw [e] at ed; cases ed
          | some p => rw [e] at ed; exact ⟨p, rfl, Option.some.inj ed⟩
        have app : ∀ H', Kp [] H2 H' → tyV K "list" (V.ref r) H' ∧ ∃ y, H' r = some (.lst y) ∧ y.length < sizeLine ∧ SelIn K H1 r (j + 1) (upd H' r (.lst (y ++ [x]))) := fun H' k => by
          obtain ⟨acc, e1, e2, e3⟩ := (hs.kp k).put nr ep (dpN k noSq0 hd)
          exact ⟨.inl ⟨rfl, _, sq_l e1⟩, acc, e1, e2, e3⟩
        have skp : ∀ H', Kp [] H2 H' → SelIn K H1 r (j + 1) H' := fun H' k => (hs.kp k).skip
        clear hs
        try simp (maxSteps := 1000000) only [tSeq, tIfS, tTest, tOp, tUn, tCB, tCons, tNil, tVar, tC, rI0, rI, rU, rEq, rNe, tRet, tRetN, tAsg, gName, gSub, tBM, tBM0, tNext, tB, tNot, tAnd, tOr, tIf, tCall, tDrop, tBreak, tCont, L2.start, tDGet, sDPut, tTup, tLst, tDNewK, tRevL, rCat, rAppend, rPop, rSetL, tAndV, tOrV, tNotV, tSl, tPart, tNoPart, tM1, gTup, gCons, gNil, cxK, cxnK, List.map_cons, List.map_nil, List.length_cons, List.length_nil, List.replicate, List.cons_append, List.nil_append, List.append_nil, List.set_cons_zero, List.set_cons_succ, List.getElem?_cons_zero, List.getElem?_cons_succ, Option.some.injEq, V.ref.injEq, V.int.injEq, V.str.injEq, V.bl.injEq, V.ty.injEq, exists_eq_left', exists_eq_left, exists_and_left, List.cons.injEq, and_true, true_and, sc_ii, sc_ss, sc_bb, sc_ni, sc_in, sc_is, sc_si, sc_nn, decide_true, decide_false, reduceCtorEq, Bool.false_eq_true, if_true, if_false, ite_true, ite_false, exists_const, eq_self, false_and, and_false, or_false, false_or, exists_false, Evl.rLenS, rSum, wipe, tYes, exists_eq, exists_eq', rIxL, rIxT, rIxS, exists_and_right, gt_iff_lt, not_true_eq_false, not_false_eq_true, Bool.not_true, Bool.not_false, decide_eq_true_eq, Nat.reduceSub, Nat.reduceAdd, List.append_assoc, tChain, tDIn, tDNotIn, sDDel, tAug, ipI]
        refine ⟨by decide, ⟨by decide, by decide⟩, ?_⟩
        refine ite2 (fun _ => ite2 (fun _ => app _ (Kp.refl _ _)) (fun _ => ite2 (fun _ => ite2 (fun _ => app _ (Kp.refl _ _)) (fun _ => ?_)) (fun _ => ?_))) (fun _ => ite2 (fun _ => ite2 (fun _ => app _ (Kp.refl _ _)) (fun _ => ?_)) (fun _ => ?_))
        all_goals
          refine ⟨small (by decide), fun q1 nq1 => ?_⟩
          refine ⟨q1, _, rfl, .inr (sq_t upd_same), rfl, rfl, _, rfl, ?_⟩
          refine ite2 (fun _ => ?_) (fun _ => skp _ (Kp.new nq1))
          refine ⟨small (by decide), fun q2 nq2 => ?_⟩
          refine ⟨q2, _, rfl, .inr (sq_t upd_same), rfl, rfl, _, rfl, ?_⟩
          exact ite2 (fun _ => app _ ((Kp.new nq1).trans (Kp.new nq2))) (fun _ => skp _ ((Kp.new nq1).trans (Kp.new nq2)))
      · obtain ⟨⟨m, c, d, rfl⟩, hs⟩ := h
        try simp (maxSteps := 1000000) only [tSeq, tIfS, tTest, tOp, tUn, tCB, tCons, tNil, tVar, tC, rI0, rI, rU, rEq, rNe, tRet, tRetN, tAsg, gName, gSub, tBM, tBM0, tNext, tB, tNot, tAnd, tOr, tIf, tCall, tDrop, tBreak, tCont, L2.start, tDGet, sDPut, tTup, tLst, tDNewK, tRevL, rCat, rAppend, rPop, rSetL, tAndV, tOrV, tNotV, tSl, tPart, tNoPart, tM1, gTup, gCons, gNil, cxK, cxnK, List.map_cons, List.map_nil, List.length_cons, List.length_nil, List.replicate, List.cons_append, List.nil_append, List.append_nil, List.set_cons_zero, List.set_cons_succ, List.getElem?_cons_zero, List.getElem?_cons_succ, Option.some.injEq, V.ref.injEq, V.int.injEq, V.str.injEq, V.bl.injEq, V.ty.injEq, exists_eq_left', exists_eq_left, exists_and_left, List.cons.injEq, and_true, true_and, sc_ii, sc_ss, sc_bb, sc_ni, sc_in, sc_is, sc_si, sc_nn, decide_true, decide_false, reduceCtorEq, Bool.false_eq_true, if_true, if_false, ite_true, ite_false, exists_const, eq_self, false_and, and_false, or_false, false_or, exists_false, Evl.rLenS, rSum, wipe, tYes, exists_eq, exists_eq', rIxL, rIxT, rIxS, exists_and_right, gt_iff_lt, not_true_eq_false, not_false_eq_true, Bool.not_true, Bool.not_false, decide_eq_true_eq, Nat.reduceSub, Nat.reduceAdd, List.append_assoc, tChain, tDIn, tDNotIn, sDDel, tAug, ipI]
        obtain ⟨f, hf, k⟩ := hs.fin (by rw [dpLen hws, List.length_map]; exact Nat.le_refl _)
        exact q1 r f H2 nr hf k
end
end My

set_option Elab.async false
set_option linter.all false
set_option maxRecDepth 100000
set_option maxHeartbeats 4000000
namespace My
open PySem L2 NdefX
abbrev s_law_name : Stmt := top 37
theorem sc_law_name : FnScope ["_law_number", "_law_taken", "_law_barred", "_law_menu", "_law_word", "_law_many", "_law_k", "_law_sign"] ["_law_number", "_law_taken"] (defScope s_law_name) := ⟨rfl, rfl, rfl, by decide +kernel, rfl, by decide +kernel, by decide +kernel⟩
theorem forRg34 {ta : TA} {g : TG} {tb : TS} {D : Ends} {σ : L2.St} {H : Hp} (m : Int) (Pv : Nat → L2.St → Hp → Prop) (ht : ∀ R : List V → Hp → Prop, R [.int m] H → ta σ H R) (h1 : -(2 ^ 62) ≤ m) (h2 : m < 2 ^ 62) (h0 : Pv 0 σ H)
    (step : ∀ j σ H, j < m.toNat → Pv j σ H → g (.int (0 + j)) σ H fun σ2 H2 => tb { D with nx := Pv (j + 1), ct := Pv (j + 1), bk := D.nx } σ2 H2) (fin : ∀ σ H, Pv m.toNat σ H → D.nx σ H) : tFor (iRng1 ta) g tb D σ H :=
  ht _ ⟨m, rfl, h1, h2, for_range Pv h0 step fin⟩
/-- .. by a count -/
theorem forN34 {ta : TA} {g : TG} {tb : TS} {D : Ends} {σ : L2.St} {H : Hp} (m : Nat) (hm : m ≤ 100000) (Pv : Nat → L2.St → Hp → Prop) (ht : ∀ R : List V → Hp → Prop, R [.int (m : Nat)] H → ta σ H R) (h0 : Pv 0 σ H)
    (step : ∀ j σ H, j < m → Pv j σ H → g (.int (j : Nat)) σ H fun σ2 H2 => tb { D with nx := Pv (j + 1), ct := Pv (j + 1), bk := D.nx } σ2 H2) (fin : ∀ σ H, Pv m σ H → D.nx σ H) : tFor (iRng1 ta) g tb D σ H :=
  forRg34 (m : Nat) Pv ht (by omega) (by omega) h0 (fun j σ H hj p => by rw [Int.zero_add]; exact step j σ H (by omega) p) fun σ H p => fin σ H (by rw [Int.toNat_natCast] at p; exact p)
def tx (cs : List Nat) : Str := ⟨cs.toArray⟩
theorem tx_inj {a b : List Nat} (h : tx a = tx b) : a = b := by
  have e : a.toArray = b.toArray := congrArg Str.cps h
  simpa using e
theorem tx_len (cs : List Nat) : (tx cs).length = cs.length := by
  show cs.toArray.size = _
  simp
theorem tx_list (cs : List Nat) : (tx cs).cps.toList = cs := by
  show cs.toArray.toList = cs
  simp
theorem tx_of (z : Str) : tx z.cps.toList = z := by
  show (⟨z.cps.toList.toArray⟩ : Str) = z
  simp
theorem tx_app (a b : List Nat) : tx a ++ tx b = tx (a ++ b) := by
  show (⟨a.toArray ++ b.toArray⟩ : Str) = ⟨(a ++ b).toArray⟩
  simp
theorem cutTo (cs : List Nat) (k : Nat) : cutS (tx cs) none (some (k : Int)) = tx (cs.take k) := by
  unfold cutS
  rw [HT.sIx_none, HT.sIx_nat, tx_list, tx_len, List.drop_zero, Nat.sub_zero]
  show tx _ = tx _
  congr 1
  rcases Nat.le_total k cs.length with h | h
  · rw [Nat.min_eq_left h]
  · rw [Nat.min_eq_right h, List.take_length, List.take_of_length_le h]
theorem nameS_tx (cs : List Nat) : nameS (tx cs) = (decide (1 ≤ cs.length) && (decide (cs.length ≤ 8) && cs.all lowC)) := by
  unfold nameS
  rw [tx_len, tx_list]
def barF : List Str := ["read", "acquire", "write", "release", "both", "return", "full"]
theorem goodF_of {z : Str} (h : nameS z = true) (hb : z ∉ barF) : goodF z = true := by
  have e : barF = kindsL ++ [("return" : Str), ("full" : Str)] := by decide +kernel
  rw [e, List.mem_append, not_or] at hb
  have h2 : z ≠ "return" ∧ z ≠ "full" := by simpa using hb.2
  unfold goodF fenS
  rw [h, decide_eq_false h2.2, decide_eq_false hb.1, decide_eq_false h2.1]; rfl
theorem bar_last : ∀ z ∈ barF, z.cps.toList.getLast? ≠ some 97 ∧ z.cps.toList.getLast? ≠ some 98 := by decide +kernel
theorem lets_at : ∀ i : Nat, i < 26 → lets.cps.toList[i]? = some (97 + i) := by decide +kernel
/-- a word of the law's: letters, 1 to 8 -/
def Wd (cs : List Nat) : Prop := (∀ c ∈ cs, lowC c = true) ∧ 1 ≤ cs.length ∧ cs.length ≤ 8
theorem Wd.name {cs : List Nat} (h : Wd cs) : nameS (tx cs) = true := by
  rw [nameS_tx, decide_eq_true h.2.1, decide_eq_true h.2.2, Bool.true_and, Bool.true_and, List.all_eq_true]
  exact h.1
def menuL : List Str := ["a", "reads", "fulk", "fulm", "returns", "zz", "bothh", "light", "gate", "acquires", "rea", "zzzzzzzz", "kk", "writ"]
theorem menu_split : Txt.split "a reads fulk fulm returns zz bothh light gate acquires rea zzzzzzzz kk writ" " " = menuL := by decide +kernel
theorem menu_wd : ∀ z ∈ menuL, z = tx z.cps.toList ∧ (z.cps.toList.all lowC && (decide (1 ≤ z.cps.toList.length) && decide (z.cps.toList.length ≤ 8))) = true := by decide +kernel
theorem Wd.next {cs : List Nat} (h : Wd cs) {c : Nat} (hc : lowC c = true) : Wd (cs.take 7 ++ [c]) := by
  refine ⟨fun d hd => ?_, by simp, by rw [List.length_append, List.length_take]; show min 7 cs.length + 1 ≤ 8; omega⟩
  rcases List.mem_append.mp hd with hd | hd
  · exact h.1 d (List.mem_of_mem_take hd)
  · rw [List.mem_singleton.mp hd]; exact hc
def signL : List Str := ["a", "b", "c", "d", "e", "f", "g", "h", "i"]
theorem sign_at : ∀ i : Nat, i < 9 → signL[i]? = some (tx [97 + i]) := by decide +kernel
/-- what stands before the i-th sign -/
def Nd (zs : List Str) (i : Nat) (cs : List Nat) : Prop := Wd cs ∧ (i = 1 → tx cs ∉ barF ++ zs ∨ cs.getLast? = some 97) ∧ (2 ≤ i → tx cs ∉ barF ++ zs)
theorem Nd.keep {zs : List Str} {i : Nat} {cs : List Nat} (h : Nd zs i cs) (n : tx cs ∉ barF ++ zs) : Nd zs (i + 1) cs := ⟨h.1, fun _ => .inl n, fun _ => n⟩
theorem Nd.chg {zs : List Str} {i : Nat} {cs : List Nat} (h : Nd zs i cs) (zl : zs.length ≤ 1) (hi : i < 9) (m : tx cs ∈ barF ++ zs) : Nd zs (i + 1) (cs.take 7 ++ [97 + i]) := by
  have lc : lowC (97 + i) = true := by unfold lowC; rw [decide_eq_true (by omega), decide_eq_true (by omega)]; rfl
  rcases (show i = 0 ∨ i = 1 ∨ 2 ≤ i by omega) with rfl | rfl | h2
  · exact ⟨h.1.next lc, fun _ => .inr (by simp), fun z => absurd z (by decide)⟩
  · refine ⟨h.1.next lc, fun z => absurd z (by decide), fun _ hm => ?_⟩
    have last : cs.getLast? = some 97 := (h.2.1 rfl).resolve_left fun z => z m
    have mz : tx cs ∈ zs := (List.mem_append.mp m).resolve_left fun z => (bar_last _ z).1 (by rw [tx_list]; exact last)
    have mz2 : tx (cs.take 7 ++ [98]) ∈ zs := (List.mem_append.mp hm).resolve_left fun z => (bar_last _ z).2 (by rw [tx_list]; simp)
    obtain ⟨y, hy⟩ : ∃ y, zs = [y] := by
      cases zs with
      | nil => exact nomatch mz
      | cons y r =>
        cases r with
        | nil => exact ⟨y, rfl⟩
        | cons _ _ => exact absurd zl (by show ¬ (_ + 1 + 1 ≤ 1); omega)
    rw [hy, List.mem_singleton] at mz mz2
    have e := tx_inj (mz.trans mz2.symm)
    rw [e] at last
    simp at last
  · exact absurd m (h.2.2 h2)
section
variable {P : Program} {w : World} {K : PySem.W.Frag} {mg : Str → Option Value} {base : Heap}
def spName (K : PySem.W.Frag) : Sp := fun vs H Q _ => ∃ (n : Int) (a : Addr) (zs : List Str), vs = [.int n, .ref a] ∧ H a = some (.lst (zs.map V.str)) ∧ zs.length ≤ 1 ∧ ∀ (z : Str) (H' : Hp), goodF z = true → z ∉ zs → z.length ≤ 8 → Kp [] H H' → Q (.str z) H'
/-- ahead of the signs -/
def NmPre (a b : Addr) (zs : List Str) (H : Hp) (σ : L2.St) (H' : Hp) : Prop := ∃ (m : Int) (l : Addr) (cs : List Nat) (c d : Option V), σ = [some (.int m), some (.ref a), some (.ref b), some (.ref l), some (.str (tx cs)), c, d, none] ∧ Wd cs ∧ Kp [] H H'
def NmIn (a b : Addr) (zs : List Str) (G : Hp) (i : Nat) (σ : L2.St) (H' : Hp) : Prop := ∃ (m : Int) (l : Addr) (cs : List Nat) (c d e : Option V), σ = [some (.int m), some (.ref a), some (.ref b), some (.ref l), some (.str (tx cs)), c, d, e] ∧ Nd zs i cs ∧ H' = G
def LeIn (a b l : Addr) (mm : Nat) (H : Hp) (i : Nat) (σ : L2.St) (H' : Hp) : Prop := ∃ (m : Int) (cs : List Nat) (d : Option V), σ = [some (.int m), some (.ref a), some (.ref b), some (.ref l), some (.str (tx cs)), some (.int (mm : Nat)), d, none] ∧ (∀ c ∈ cs, lowC c = true) ∧ cs.length = i ∧ Kp [] H H'
theorem ok_law_name {f : Addr} {fd : FuncData} (D : Df K mg "_law_name" s_law_name ["_law_number", "_law_taken"] f fd) (T : Bt0 mg) : FnOk P w K mg base CX0 1 f fd ["_law_number", "_law_taken"] (spName K) := by
  refine D.F.ok sc_law_name (fun vs H Q E h => ?_) (fun cdv A outer s H vs Q E hr h => ?_)
  · obtain ⟨_, _, _, rfl, _⟩ := h
    rfl
  · obtain ⟨n, a, zs, rfl, hS, z1, q⟩ := h
    have hq : ∃ t, PSs (cxOf CX0 P w K mg base ["_law_number", "_law_taken", "_law_barred", "_law_menu", "_law_word", "_law_many", "_law_k", "_law_sign"] "_law_name" (defScope s_law_name) f cdv A outer s H E).nox ((defBody s_law_name).drop 4) t ∧ ∀ (b : Addr) H1, SqL K H1 b ((barF ++ zs).map V.str) → Kp [] H H1 → ∀ σ H9, NmPre a b zs H1 σ H9 → t { nx := fun _ H' => Q .non H', rt := Q } σ H9 := by
      refine ⟨_, (pss_cons (ps_for PassesOwn.never rfl (pi_list (pe_lst (pa_cons pe_str (pa_cons pe_str (pa_cons pe_str (pa_cons pe_str (pa_cons pe_str (pa_cons pe_str (pa_cons pe_str (pa_cons pe_str (pa_cons pe_str pa_nil))))))))))) (pg_name (i := 7) sc_law_name.nd rfl (Or.inl rfl)) (pss_one (ps_if (pt_cmpR op_in_seq (pv 4) (pv 2) (by rfl)) (pss_one (ps_set (i := 4) sc_law_name.nd rfl (Or.inl rfl) (pe_op op_add_str (pe_slice sl_str (pv 4) po_none (po_some pe_int)) (pv 7)))) pss_nil)))
      (pss_one (ps_ret (pv 4)))), ?_⟩
      rintro b H1 hb k1 σ H9 ⟨m, l, cs, c, d, rfl, wd, k9⟩
      have k9' := k1.trans k9
      refine forL_src34 ?_
      try simp (maxSteps := 1000000) only [tSeq, tIfS, tTest, tOp, tUn, tCB, tCons, tNil, tVar, tC, rI0, rI, rU, rEq, rNe, tRet, tRetN, tAsg, gName, gSub, tBM, tBM0, tNext, tB, tNot, tAnd, tOr, tIf, tCall, tDrop, tBreak, tCont, L2.start, tDGet, sDPut, tTup, tLst, tDNewK, tRevL, rCat, rAppend, rPop, rSetL, tAndV, tOrV, tNotV, tSl, tPart, tNoPart, tM1, gTup, gCons, gNil, cxK, cxnK, List.map_cons, List.map_nil, List.length_cons, List.length_nil, List.replicate, List.cons_append, List.nil_append, List.append_nil, List.set_cons_zero, List.set_cons_succ, List.getElem?_cons_zero, List.getElem?_cons_succ, Option.some.injEq, V.ref.injEq, V.int.injEq, V.str.injEq, V.bl.injEq, V.ty.injEq, exists_eq_left', exists_eq_left, exists_and_left, List.cons.injEq, and_true, true_and, sc_ii, sc_ss, sc_bb, sc_ni, sc_in, sc_is, sc_si, sc_nn, decide_true, decide_false, reduceCtorEq, Bool.false_eq_true, if_true, if_false, ite_true, ite_false, exists_const, eq_self, false_and, and_false, or_false, false_or, exists_false, Evl.rLenS, rSum, wipe, tYes, exists_eq, exists_eq', rIxL, rIxT, rIxS, exists_and_right, gt_iff_lt, not_true_eq_false, not_false_eq_true, Bool.not_true, Bool.not_false, decide_eq_true_eq, Nat.reduceSub, Nat.reduceAdd, List.append_assoc, tChain, tDIn, tDNotIn, sDDel, tAug, ipI]
      refine ⟨small (by decide), fun q1 nq1 => ?_⟩
      have hq1 : (upd H9 q1 (.lst (signL.map V.str))) q1 = some (.lst (signL.map V.str)) := upd_same
      have kq : Kp [] H9 (upd H9 q1 (.lst (signL.map V.str))) := Kp.new nq1
      have e9 : signL.map V.str = [V.str "a", V.str "b", V.str "c", V.str "d", V.str "e", V.str "f", V.str "g", V.str "h", V.str "i"] := rfl
      rw [← e9]
      generalize (upd H9 q1 (.lst (signL.map V.str))) = G at hq1 kq ⊢
      have kG := k9'.trans kq
      have hb2 := (k9.trans kq).ls not0 hb
      refine forLC34 (NmIn a b zs G) (sq_l hq1) ⟨m, l, cs, c, d, none, rfl, ⟨wd, fun z => absurd z (by decide), fun z => absurd z (by decide)⟩, rfl⟩ (fun j σ H7 _ h => by obtain ⟨_, _, _, _, _, _, _, _, rfl⟩ := h; exact sq_l hq1) (fun j x σ H2 hx h => ?_) fun σ H2 h => ?_
      · obtain ⟨m, l, cs, c, d, e, rfl, hn, rfl⟩ := h
        have j9 : j < 9 := by have := (List.getElem?_eq_some_iff.mp hx).1; simpa [signL] using this
        rw [List.getElem?_map, sign_at j j9] at hx
        cases hx
        have cl := hn.1.2.2
        try simp (maxSteps := 1000000) only [tSeq, tIfS, tTest, tOp, tUn, tCB, tCons, tNil, tVar, tC, rI0, rI, rU, rEq, rNe, tRet, tRetN, tAsg, gName, gSub, tBM, tBM0, tNext, tB, tNot, tAnd, tOr, tIf, tCall, tDrop, tBreak, tCont, L2.start, tDGet, sDPut, tTup, tLst, tDNewK, tRevL, rCat, rAppend, rPop, rSetL, tAndV, tOrV, tNotV, tSl, tPart, tNoPart, tM1, gTup, gCons, gNil, cxK, cxnK, List.map_cons, List.map_nil, List.length_cons, List.length_nil, List.replicate, List.cons_append, List.nil_append, List.append_nil, List.set_cons_zero, List.set_cons_succ, List.getElem?_cons_zero, List.getElem?_cons_succ, Option.some.injEq, V.ref.injEq, V.int.injEq, V.str.injEq, V.bl.injEq, V.ty.injEq, exists_eq_left', exists_eq_left, exists_and_left, List.cons.injEq, and_true, true_and, sc_ii, sc_ss, sc_bb, sc_ni, sc_in, sc_is, sc_si, sc_nn, decide_true, decide_false, reduceCtorEq, Bool.false_eq_true, if_true, if_false, ite_true, ite_false, exists_const, eq_self, false_and, and_false, or_false, false_or, exists_false, Evl.rLenS, rSum, wipe, tYes, exists_eq, exists_eq', rIxL, rIxT, rIxS, exists_and_right, gt_iff_lt, not_true_eq_false, not_false_eq_true, Bool.not_true, Bool.not_false, decide_eq_true_eq, Nat.reduceSub, Nat.reduceAdd, List.append_assoc, tChain, tDIn, tDNotIn, sDDel, tAug, ipI]
        refine ⟨b, _, rfl, .inl hb2, rfl, flat_map _, _, rfl, ?_⟩
        rw [in_strs]
        unfold inW
        refine ite2 (fun h => ?_) (fun h => ?_)
        · have hm : tx cs ∈ barF ++ zs := by simpa using h
          have e7 : cutS (tx cs) none (some 7) = tx (cs.take 7) := cutTo cs 7
          refine ⟨_, rfl, by rw [tx_len]; exact small (by omega), _, rfl, ?_, ?_⟩
          · rw [e7, tx_len, tx_len, List.length_take]
            exact small (show min 7 cs.length + 1 ≤ 100000 by omega)
          · rw [e7, tx_app]
            exact ⟨m, l, _, c, d, _, rfl, hn.chg z1 j9 hm, rfl⟩
        · have hm : tx cs ∉ barF ++ zs := by simpa using h
          exact ⟨m, l, cs, c, d, _, rfl, hn.keep hm, rfl⟩
      · obtain ⟨m, l, cs, c, d, e, rfl, hn, rfl⟩ := h
        try simp (maxSteps := 1000000) only [tSeq, tIfS, tTest, tOp, tUn, tCB, tCons, tNil, tVar, tC, rI0, rI, rU, rEq, rNe, tRet, tRetN, tAsg, gName, gSub, tBM, tBM0, tNext, tB, tNot, tAnd, tOr, tIf, tCall, tDrop, tBreak, tCont, L2.start, tDGet, sDPut, tTup, tLst, tDNewK, tRevL, rCat, rAppend, rPop, rSetL, tAndV, tOrV, tNotV, tSl, tPart, tNoPart, tM1, gTup, gCons, gNil, cxK, cxnK, List.map_cons, List.map_nil, List.length_cons, List.length_nil, List.replicate, List.cons_append, List.nil_append, List.append_nil, List.set_cons_zero, List.set_cons_succ, List.getElem?_cons_zero, List.getElem?_cons_succ, Option.some.injEq, V.ref.injEq, V.int.injEq, V.str.injEq, V.bl.injEq, V.ty.injEq, exists_eq_left', exists_eq_left, exists_and_left, List.cons.injEq, and_true, true_and, sc_ii, sc_ss, sc_bb, sc_ni, sc_in, sc_is, sc_si, sc_nn, decide_true, decide_false, reduceCtorEq, Bool.false_eq_true, if_true, if_false, ite_true, ite_false, exists_const, eq_self, false_and, and_false, or_false, false_or, exists_false, Evl.rLenS, rSum, wipe, tYes, exists_eq, exists_eq', rIxL, rIxT, rIxS, exists_and_right, gt_iff_lt, not_true_eq_false, not_false_eq_true, Bool.not_true, Bool.not_false, decide_eq_true_eq, Nat.reduceSub, Nat.reduceAdd, List.append_assoc, tChain, tDIn, tDNotIn, sDDel, tAug, ipI]
        have nb := hn.2.2 (by decide)
        rw [List.mem_append, not_or] at nb
        exact q _ H2 (goodF_of hn.1.name nb.1) nb.2 (by rw [tx_len]; exact hn.1.2.2) kG
    obtain ⟨t, ht, hq⟩ := hq
    refine ⟨_, (pss_cons (ps_set (i := 2) sc_law_name.nd rfl (Or.inl rfl) (pe_op op_cat (pe_lst (pa_cons pe_str (pa_cons pe_str (pa_cons pe_str (pa_cons pe_str (pa_cons pe_str (pa_cons pe_str (pa_cons pe_str pa_nil)))))))) (pv 1)))
      (pss_cons (ps_set (i := 3) sc_law_name.nd rfl (Or.inl rfl) (pe_split pe_str pe_str))
      (pss_cons (ps_set (i := 4) sc_law_name.nd rfl (Or.inl rfl) (pe_ix (r := rIxL K) ix_list (pv 3) (pe_op op_mod (pe_callTy (T := "int") call_int1 (by rfl) T.b_int (by decide +kernel) (pa_cons (pe_op op_fdiv (pv 0) pe_int) pa_nil)) pe_int) (fun _ _ => rfl)))
      (pss_cons (ps_if (pt_cmpR op_eq (pe_op op_mod (pe_callTy (T := "int") call_int1 (by rfl) T.b_int (by decide +kernel) (pa_cons (pv 0) pa_nil)) pe_int) pe_int (nomark _)) (pss_cons (ps_set (i := 5) sc_law_name.nd rfl (Or.inl rfl) (pe_op op_add pe_int (pe_op op_mod (pe_callTy (T := "int") call_int1 (by rfl) T.b_int (by decide +kernel) (pa_cons (pe_op op_fdiv (pv 0) pe_int) pa_nil)) pe_int)))
      (pss_cons (ps_set (i := 0) sc_law_name.nd rfl (Or.inl rfl) (pe_op op_fdiv (pv 0) pe_int))
      (pss_cons (ps_set (i := 4) sc_law_name.nd rfl (Or.inl rfl) pe_str)
      (pss_one (ps_for PassesOwn.never rfl (pi_range1 rfl T.b_range (pa_cons (pv 5) pa_nil)) (pg_name (i := 6) sc_law_name.nd rfl (Or.inl rfl)) (pss_cons (ps_set (i := 4) sc_law_name.nd rfl (Or.inl rfl) (pe_op op_add_str (pv 4) (pe_ix ix_str pe_str (pe_op op_mod (pe_callTy (T := "int") call_int1 (by rfl) T.b_int (by decide +kernel) (pa_cons (pv 0) pa_nil)) pe_int) (fun _ _ => rfl))))
      (pss_one (ps_set (i := 0) sc_law_name.nd rfl (Or.inl rfl) (pe_op op_fdiv (pv 0) pe_int))))))))) pss_nil)
      ht)))), ?_⟩
    try simp (maxSteps := 1000000) only [tSeq, tIfS, tTest, tOp, tUn, tCB, tCons, tNil, tVar, tC, rI0, rI, rU, rEq, rNe, tRet, tRetN, tAsg, gName, gSub, tBM, tBM0, tNext, tB, tNot, tAnd, tOr, tIf, tCall, tDrop, tBreak, tCont, L2.start, tDGet, sDPut, tTup, tLst, tDNewK, tRevL, rCat, rAppend, rPop, rSetL, tAndV, tOrV, tNotV, tSl, tPart, tNoPart, tM1, gTup, gCons, gNil, cxK, cxnK, List.map_cons, List.map_nil, List.length_cons, List.length_nil, List.replicate, List.cons_append, List.nil_append, List.append_nil, List.set_cons_zero, List.set_cons_succ, List.getElem?_cons_zero, List.getElem?_cons_succ, Option.some.injEq, V.ref.injEq, V.int.injEq, V.str.injEq, V.bl.injEq, V.ty.injEq, exists_eq_left', exists_eq_left, exists_and_left, List.cons.injEq, and_true, true_and, sc_ii, sc_ss, sc_bb, sc_ni, sc_in, sc_is, sc_si, sc_nn, decide_true, decide_false, reduceCtorEq, Bool.false_eq_true, if_true, if_false, ite_true, ite_false, exists_const, eq_self, false_and, and_false, or_false, false_or, exists_false, Evl.rLenS, rSum, wipe, tYes, exists_eq, exists_eq', rIxL, rIxT, rIxS, exists_and_right, gt_iff_lt, not_true_eq_false, not_false_eq_true, Bool.not_true, Bool.not_false, decide_eq_true_eq, Nat.reduceSub, Nat.reduceAdd, List.append_assoc, tChain, tDIn, tDNotIn, sDDel, tAug, ipI]
    refine ⟨small (by decide), fun b1 nb1 => ?_⟩
    have ab : a ≠ b1 := ne_of_none hS nb1
    refine ⟨_, upd_same, _, by rw [upd_ne ab]; exact hS, by rw [List.length_map]; exact small (show 7 + zs.length ≤ 100000 by omega), fun p np => ?_⟩
    refine ⟨by decide +kernel, by decide +kernel, fun l nl => ?_⟩
    have kb : Kp [] H (upd H b1 (.lst (barF.map V.str))) := Kp.new nb1
    have kp := kb.trans (Kp.new (S := []) (o := .lst ((barF ++ zs).map V.str)) np)
    have hp : (upd (upd H b1 (.lst (barF.map V.str))) p (.lst ((barF ++ zs).map V.str))) p = some (.lst ((barF ++ zs).map V.str)) := upd_same
    have eap : barF.map V.str ++ zs.map V.str = (barF ++ zs).map V.str := (List.map_append ..).symm
    have e1 : ([V.str "read", V.str "acquire", V.str "write", V.str "release", V.str "both", V.str "return", V.str "full"] : List V) = barF.map V.str := rfl
    rw [e1, eap] at nl ⊢
    rw [e1] at np
    generalize (upd (upd H b1 (.lst (barF.map V.str))) p (.lst ((barF ++ zs).map V.str))) = H1 at kp hp nl ⊢
    rw [menu_split] at *
    have kl : Kp [] H1 (upd H1 l (.lst (menuL.map V.str))) := Kp.new nl
    obtain ⟨v, hv, ev⟩ := atI_ex (xs := menuL.map V.str) (i := n / 2 % 14) (Int.emod_nonneg _ (by decide)) (Int.emod_lt_of_pos _ (by decide))
    obtain ⟨z, hz, rfl⟩ := List.mem_map.mp hv
    obtain ⟨ez, wz⟩ := menu_wd z hz
    rw [Bool.and_eq_true, Bool.and_eq_true, List.all_eq_true] at wz
    have wd : Wd z.cps.toList := ⟨wz.1, of_decide_eq_true wz.2.1, of_decide_eq_true wz.2.2⟩
    try simp (maxSteps := 1000000) only [tSeq, tIfS, tTest, tOp, tUn, tCB, tCons, tNil, tVar, tC, rI0, rI, rU, rEq, rNe, tRet, tRetN, tAsg, gName, gSub, tBM, tBM0, tNext, tB, tNot, tAnd, tOr, tIf, tCall, tDrop, tBreak, tCont, L2.start, tDGet, sDPut, tTup, tLst, tDNewK, tRevL, rCat, rAppend, rPop, rSetL, tAndV, tOrV, tNotV, tSl, tPart, tNoPart, tM1, gTup, gCons, gNil, cxK, cxnK, List.map_cons, List.map_nil, List.length_cons, List.length_nil, List.replicate, List.cons_append, List.nil_append, List.append_nil, List.set_cons_zero, List.set_cons_succ, List.getElem?_cons_zero, List.getElem?_cons_succ, Option.some.injEq, V.ref.injEq, V.int.injEq, V.str.injEq, V.bl.injEq, V.ty.injEq, exists_eq_left', exists_eq_left, exists_and_left, List.cons.injEq, and_true, true_and, sc_ii, sc_ss, sc_bb, sc_ni, sc_in, sc_is, sc_si, sc_nn, decide_true, decide_false, reduceCtorEq, Bool.false_eq_true, if_true, if_false, ite_true, ite_false, exists_const, eq_self, false_and, and_false, or_false, false_or, exists_false, Evl.rLenS, rSum, wipe, tYes, exists_eq, exists_eq', rIxL, rIxT, rIxS, exists_and_right, gt_iff_lt, not_true_eq_false, not_false_eq_true, Bool.not_true, Bool.not_false, decide_eq_true_eq, Nat.reduceSub, Nat.reduceAdd, List.append_assoc, tChain, tDIn, tDNotIn, sDDel, tAug, ipI]
    refine ⟨⟨by decide, by decide⟩, by decide, _, sq_l upd_same, _, ev, by decide, ?_⟩
    refine ite2 (fun _ => ?_) (fun _ => ?_)
    · obtain ⟨mm, em⟩ : ∃ m : Nat, 1 + n / 2 % 8 = m := ⟨(1 + n / 2 % 8).toNat, by have := Int.emod_nonneg (n / 2) (show (8 : Int) ≠ 0 by decide); omega⟩
      have mm8 : 1 ≤ mm ∧ mm ≤ 8 := by have := Int.emod_lt_of_pos (n / 2) (show (0 : Int) < 8 by decide); have := Int.emod_nonneg (n / 2) (show (8 : Int) ≠ 0 by decide); omega
      rw [em]
      refine ⟨⟨by decide, by decide⟩, by decide, ⟨by decide, by decide⟩, ?_⟩
      refine forN34 mm (by omega) (LeIn a p l mm H1) (fun R h => ?_) ⟨_, [], none, rfl, (fun c h => nomatch h), rfl, kl⟩ (fun j σ H2 hj h => ?_) fun σ H2 h => ?_
      · try simp (maxSteps := 1000000) only [tSeq, tIfS, tTest, tOp, tUn, tCB, tCons, tNil, tVar, tC, rI0, rI, rU, rEq, rNe, tRet, tRetN, tAsg, gName, gSub, tBM, tBM0, tNext, tB, tNot, tAnd, tOr, tIf, tCall, tDrop, tBreak, tCont, L2.start, tDGet, sDPut, tTup, tLst, tDNewK, tRevL, rCat, rAppend, rPop, rSetL, tAndV, tOrV, tNotV, tSl, tPart, tNoPart, tM1, gTup, gCons, gNil, cxK, cxnK, List.map_cons, List.map_nil, List.length_cons, List.length_nil, List.replicate, List.cons_append, List.nil_append, List.append_nil, List.set_cons_zero, List.set_cons_succ, List.getElem?_cons_zero, List.getElem?_cons_succ, Option.some.injEq, V.ref.injEq, V.int.injEq, V.str.injEq, V.bl.injEq, V.ty.injEq, exists_eq_left', exists_eq_left, exists_and_left, List.cons.injEq, and_true, true_and, sc_ii, sc_ss, sc_bb, sc_ni, sc_in, sc_is, sc_si, sc_nn, decide_true, decide_false, reduceCtorEq, Bool.false_eq_true, if_true, if_false, ite_true, ite_false, exists_const, eq_self, false_and, and_false, or_false, false_or, exists_false, Evl.rLenS, rSum, wipe, tYes, exists_eq, exists_eq', rIxL, rIxT, rIxS, exists_and_right, gt_iff_lt, not_true_eq_false, not_false_eq_true, Bool.not_true, Bool.not_false, decide_eq_true_eq, Nat.reduceSub, Nat.reduceAdd, List.append_assoc, tChain, tDIn, tDNotIn, sDDel, tAug, ipI]
        exact h
      · obtain ⟨m, cs, d, rfl, hc, cl, k⟩ := h
        obtain ⟨x, ex⟩ : ∃ x : Nat, m % 26 = x := ⟨(m % 26).toNat, by have := Int.emod_nonneg m (show (26 : Int) ≠ 0 by decide); omega⟩
        have x26 : x < 26 := by have := Int.emod_lt_of_pos m (show (0 : Int) < 26 by decide); omega
        try simp (maxSteps := 1000000) only [tSeq, tIfS, tTest, tOp, tUn, tCB, tCons, tNil, tVar, tC, rI0, rI, rU, rEq, rNe, tRet, tRetN, tAsg, gName, gSub, tBM, tBM0, tNext, tB, tNot, tAnd, tOr, tIf, tCall, tDrop, tBreak, tCont, L2.start, tDGet, sDPut, tTup, tLst, tDNewK, tRevL, rCat, rAppend, rPop, rSetL, tAndV, tOrV, tNotV, tSl, tPart, tNoPart, tM1, gTup, gCons, gNil, cxK, cxnK, List.map_cons, List.map_nil, List.length_cons, List.length_nil, List.replicate, List.cons_append, List.nil_append, List.append_nil, List.set_cons_zero, List.set_cons_succ, List.getElem?_cons_zero, List.getElem?_cons_succ, Option.some.injEq, V.ref.injEq, V.int.injEq, V.str.injEq, V.bl.injEq, V.ty.injEq, exists_eq_left', exists_eq_left, exists_and_left, List.cons.injEq, and_true, true_and, sc_ii, sc_ss, sc_bb, sc_ni, sc_in, sc_is, sc_si, sc_nn, decide_true, decide_false, reduceCtorEq, Bool.false_eq_true, if_true, if_false, ite_true, ite_false, exists_const, eq_self, false_and, and_false, or_false, false_or, exists_false, Evl.rLenS, rSum, wipe, tYes, exists_eq, exists_eq', rIxL, rIxT, rIxS, exists_and_right, gt_iff_lt, not_true_eq_false, not_false_eq_true, Bool.not_true, Bool.not_false, decide_eq_true_eq, Nat.reduceSub, Nat.reduceAdd, List.append_assoc, tChain, tDIn, tDNotIn, sDDel, tAug, ipI]
        have e97 : ({ cps := #[97 + x] } : Str) = tx [97 + x] := rfl
        refine ⟨by decide, by decide +kernel, 97 + x, ?_, ?_, ⟨by decide, by decide⟩, _, cs ++ [97 + x], _, by rw [e97, tx_app], fun c hc2 => ?_, by rw [List.length_append, cl]; rfl, k⟩
        · rw [ex]
          exact atI_nat (lets_at x x26)
        · rw [e97, tx_len, tx_len]
          exact small (show cs.length + 1 ≤ 100000 by omega)
        · rcases List.mem_append.mp hc2 with h | h
          · exact hc c h
          · rw [List.mem_singleton.mp h]
            unfold lowC
            rw [decide_eq_true (by omega), decide_eq_true (by omega)]; rfl
      · obtain ⟨m, cs, d, rfl, hc, cl, k⟩ := h
        exact hq p H1 (sq_l hp) kp _ H2 ⟨_, _, cs, _, _, rfl, ⟨hc, by omega, by omega⟩, k⟩
    · rw [ez]
      exact hq p H1 (sq_l hp) kp _ _ ⟨_, _, _, _, _, rfl, wd, kl⟩
end
end My

set_option Elab.async false
set_option linter.all false
set_option maxRecDepth 100000
set_option maxHeartbeats 4000000
namespace My
open PySem L2 NdefX
abbrev s_is_row : Stmt := top 25
theorem sc_is_row : FnScope ["name", "row", "fences", "fence"] ["name", "row", "fences"] (defScope s_is_row) := ⟨rfl, rfl, rfl, by decide +kernel, rfl, by decide +kernel, by decide +kernel⟩
abbrev s_group_of : Stmt := top 26
theorem sc_group_of : FnScope ["kind"] ["kind"] (defScope s_group_of) := ⟨rfl, rfl, rfl, by decide +kernel, rfl, by decide +kernel, by decide +kernel⟩
abbrev s_kind_of : Stmt := top 27
theorem sc_kind_of : FnScope ["row"] ["row"] (defScope s_kind_of) := ⟨rfl, rfl, rfl, by decide +kernel, rfl, by decide +kernel, by decide +kernel⟩
abbrev s_tidy : Stmt := top 28
theorem sc_tidy : FnScope ["fences"] ["fences"] (defScope s_tidy) := ⟨rfl, rfl, rfl, by decide +kernel, rfl, by decide +kernel, by decide +kernel⟩
abbrev s_tidy_row : Stmt := top 29
theorem sc_tidy_row : FnScope ["row", "ahead", "kind", "behind"] ["row"] (defScope s_tidy_row) := ⟨rfl, rfl, rfl, by decide +kernel, rfl, by decide +kernel, by decide +kernel⟩
def readsL : List Str := ["read", "acquire"]
def writesL : List Str := ["write", "release"]
def groupL (k : Str) : List Str := if k ∈ readsL then readsL else if k ∈ writesL then writesL else [k]
structure BtR (K : PySem.W.Frag) (mg : Str → Option Value) (T_READS T_WRITES T_KINDS : Addr) : Prop extends BtK K mg T_KINDS where
  c_READS : mg "READS" = some (.ref T_READS)
  c_WRITES : mg "WRITES" = some (.ref T_WRITES)
  rr : ∀ H, SqT K H T_READS (readsL.map V.str)
  ww : ∀ H, SqT K H T_WRITES (writesL.map V.str)
  b_isinstance : mg "isinstance" = none
  b_tuple : mg "tuple" = none
  b_len : mg "len" = none
  b_all : mg "all" = none
  b_sorted : mg "sorted" = none
  b_set : mg "set" = none
/-- sorted and without duplicates -/
def Td (zs ys : List Str) : Prop := PyProof.Rows.sortedS ys = true ∧ ys.Nodup ∧ ∀ z, z ∈ ys ↔ z ∈ zs
def spGroup (K : PySem.W.Frag) : Sp := fun vs H Q _ => ∃ k : Str, vs = [.str k] ∧ ∀ p H', SqT K H' p ((groupL k).map V.str) → Kp [] H H' → Q (.ref p) H'
section
variable {P : Program} {w : World} {K : PySem.W.Frag} {mg : Str → Option Value} {base : Heap} {T_READS T_WRITES T_KINDS : Addr}
theorem ok_group_of {f : Addr} {fd : FuncData} (D : Df K mg "group_of" s_group_of ["kind"] f fd) (T : BtR K mg T_READS T_WRITES T_KINDS) : FnOk P w K mg base CX0 1 f fd ["kind"] (spGroup K) := by
  refine D.F.ok sc_group_of (fun vs H Q E h => ?_) (fun cdv A outer s H vs Q E hr h => ?_)
  · obtain ⟨_, rfl, _⟩ := h
    rfl
  · obtain ⟨k, rfl, q⟩ := h
    refine ⟨_, (pss_cons (ps_if (pt_cmpR op_in_seq (pv 0) (pe_glob (v := .ref T_READS) rfl T.c_READS rfl) (by rfl)) (pss_one (ps_ret (pe_glob (v := .ref T_READS) rfl T.c_READS rfl))) pss_nil)
      (pss_one (ps_ret (pe_ifExp (pt_cmpR op_in_seq (pv 0) (pe_glob (v := .ref T_WRITES) rfl T.c_WRITES rfl) (by rfl)) (pe_glob (v := .ref T_WRITES) rfl T.c_WRITES rfl) (pe_tup (pa_cons (pv 0) pa_nil)))))), ?_⟩
    try simp (maxSteps := 1000000) only [tSeq, tIfS, tTest, tOp, tUn, tCB, tCons, tNil, tVar, tC, rI0, rI, rU, rEq, rNe, tRet, tRetN, tAsg, gName, gSub, tBM, tBM0, tNext, tB, tNot, tAnd, tOr, tIf, tCall, tDrop, tBreak, tCont, L2.start, tDGet, sDPut, tTup, tLst, tDNewK, tRevL, rCat, rAppend, rPop, rSetL, tAndV, tOrV, tNotV, tSl, tPart, tNoPart, tM1, gTup, gCons, gNil, cxK, cxnK, List.map_cons, List.map_nil, List.length_cons, List.length_nil, List.replicate, List.cons_append, List.nil_append, List.append_nil, List.set_cons_zero, List.set_cons_succ, List.getElem?_cons_zero, List.getElem?_cons_succ, Option.some.injEq, V.ref.injEq, V.int.injEq, V.str.injEq, V.bl.injEq, V.ty.injEq, exists_eq_left', exists_eq_left, exists_and_left, List.cons.injEq, and_true, true_and, sc_ii, sc_ss, sc_bb, sc_ni, sc_in, sc_is, sc_si, sc_nn, decide_true, decide_false, reduceCtorEq, Bool.false_eq_true, if_true, if_false, ite_true, ite_false, exists_const, eq_self, false_and, and_false, or_false, false_or, exists_false, Evl.rLenS, rSum, wipe, tYes, exists_eq, exists_eq', rIxL, rIxT, rIxS, exists_and_right, gt_iff_lt, not_true_eq_false, not_false_eq_true, Bool.not_true, Bool.not_false, decide_eq_true_eq, Nat.reduceSub, Nat.reduceAdd, List.append_assoc, tChain, tDIn, tDNotIn, sDDel, tAug, ipI]
    unfold groupL at q
    refine ⟨T_READS, _, rfl, .inr (T.rr H), rfl, flat_map _, _, rfl, ?_⟩
    rw [if_neg Bool.false_ne_true, in_strs]
    unfold inW
    by_cases h1 : k ∈ readsL
    · rw [decide_eq_true h1, if_pos rfl]
      rw [if_pos h1] at q
      exact q _ H (T.rr H) (Kp.refl _ _)
    · rw [decide_eq_false h1, if_neg (by decide)]
      rw [if_neg h1] at q
      refine ⟨T_WRITES, _, rfl, .inr (T.ww H), rfl, flat_map _, _, rfl, ?_⟩
      rw [if_neg Bool.false_ne_true, in_strs]
      unfold inW
      by_cases h2 : k ∈ writesL
      · rw [decide_eq_true h2, if_pos rfl]
        rw [if_pos h2] at q
        exact q _ H (T.ww H) (Kp.refl _ _)
      · rw [decide_eq_false h2, if_neg (by decide)]
        rw [if_neg h2] at q
        exact ⟨small (by decide), fun p np => q p _ (sq_t upd_same) (Kp.new np)⟩
theorem dqStrs {H : Hp} : ∀ zs : List Str, DqAll H (zs.map V.str) (zs.map PyData.str)
  | [] => .nil
  | z :: zs => .cons (.str z) (dqStrs zs)
theorem dqStrs_eq {H : Hp} : ∀ {zs : List Str} {vs : List V}, DqAll H vs (zs.map PyData.str) → vs = zs.map V.str
  | [], _, h => by cases h; rfl
  | z :: zs, vs, h => by
    rw [List.map_cons] at h
    cases h with
    | cons h0 t =>
      cases h0
      rw [dqStrs_eq t]; rfl
theorem dqTup {H : Hp} {a : Addr} {zs : List Str} (h : H a = some (.tup (zs.map V.str))) : Dq H (.ref a) (.tuple (zs.map .str)) := .tup h (dqStrs zs)
theorem dqTup_at {H : Hp} {v : V} {zs : List Str} (h : Dq H v (.tuple (zs.map .str))) : ∃ a, v = .ref a ∧ H a = some (.tup (zs.map V.str)) := by
  cases h with
  | tup e h => exact ⟨_, rfl, by rw [e, dqStrs_eq h]⟩
theorem Td.uniq {zs a b : List Str} (h : Td zs a) (k : Td zs b) : a = b := sorted_uniq h.1 k.1 ((List.perm_ext_iff_of_nodup h.2.1 k.2.1).mpr fun z => (h.2.2 z).trans (k.2.2 z).symm)
def spTidy : Sp := fun vs H Q _ => ∃ (a : Addr) (zs : List Str), vs = [.ref a] ∧ Dq H (.ref a) (.tuple (zs.map PyData.str)) ∧ zs.length ≤ 1000 ∧ ∀ p ys H', Td zs ys → H' p = some (.tup (ys.map V.str)) → Kp [] H H' → Q (.ref p) H'
theorem ok_tidy {f : Addr} {fd : FuncData} (D : Df K mg "tidy" s_tidy ["fences"] f fd) (T : BtR K mg T_READS T_WRITES T_KINDS) : FnOk P w K mg base CX0 1 f fd ["fences"] spTidy := by
  refine D.F.ok sc_tidy (fun vs H Q E h => ?_) (fun cdv A outer s H vs Q E hr h => ?_)
  · obtain ⟨_, _, rfl, _⟩ := h
    rfl
  · obtain ⟨a, zs, rfl, ha, zl, q⟩ := h
    refine ⟨_, (pss_one (ps_ret (pe_callTy call_tuple_of (by rfl) T.b_tuple (by decide +kernel) (pa_cons (pe_sortSetT rfl T.b_sorted rfl T.b_set (pv 0)) pa_nil)))), ?_⟩
    try simp (maxSteps := 1000000) only [tSeq, tIfS, tTest, tOp, tUn, tCB, tCons, tNil, tVar, tC, rI0, rI, rU, rEq, rNe, tRet, tRetN, tAsg, gName, gSub, tBM, tBM0, tNext, tB, tNot, tAnd, tOr, tIf, tCall, tDrop, tBreak, tCont, L2.start, tDGet, sDPut, tTup, tLst, tDNewK, tRevL, rCat, rAppend, rPop, rSetL, tAndV, tOrV, tNotV, tSl, tPart, tNoPart, tM1, gTup, gCons, gNil, cxK, cxnK, List.map_cons, List.map_nil, List.length_cons, List.length_nil, List.replicate, List.cons_append, List.nil_append, List.append_nil, List.set_cons_zero, List.set_cons_succ, List.getElem?_cons_zero, List.getElem?_cons_succ, Option.some.injEq, V.ref.injEq, V.int.injEq, V.str.injEq, V.bl.injEq, V.ty.injEq, exists_eq_left', exists_eq_left, exists_and_left, List.cons.injEq, and_true, true_and, sc_ii, sc_ss, sc_bb, sc_ni, sc_in, sc_is, sc_si, sc_nn, decide_true, decide_false, reduceCtorEq, Bool.false_eq_true, if_true, if_false, ite_true, ite_false, exists_const, eq_self, false_and, and_false, or_false, false_or, exists_false, Evl.rLenS, rSum, wipe, tYes, exists_eq, exists_eq', rIxL, rIxT, rIxS, exists_and_right, gt_iff_lt, not_true_eq_false, not_false_eq_true, Bool.not_true, Bool.not_false, decide_eq_true_eq, Nat.reduceSub, Nat.reduceAdd, List.append_assoc, tChain, tDIn, tDNotIn, sDDel, tAug, ipI, tSortSetT]
    obtain ⟨a', e, ht⟩ := dqTup_at ha
    cases e
    refine ⟨zs, sq_t ht, zl, fun ys p srt nd me ln np => ⟨_, .inl ⟨sq_l upd_same, fun l nl => ?_⟩⟩⟩
    exact q l ys _ ⟨srt, nd, me⟩ upd_same ((Kp.new np).trans (Kp.new nl))
/-- a row's data -/
def RowD (d : PyData) : Prop := (∃ zs : List Str, zs.length ≤ 1000 ∧ d = .tuple (zs.map .str)) ∨ ∃ (xs : List Str) (k : Str) (ys : List Str), xs.length ≤ 1000 ∧ ys.length ≤ 1000 ∧ d = .tuple [.tuple (xs.map .str), .str k, .tuple (ys.map .str)]
def spKindR : Sp := fun vs H Q _ => ∃ (v : V) (d : PyData), vs = [v] ∧ Dq H v d ∧ RowD d ∧ (∀ xs k ys H', d = .tuple [.tuple xs, .str k, .tuple ys] → Kp [] H H' → Q (.str k) H') ∧ (∀ (zs : List Str) H', d = .tuple (zs.map .str) → Kp [] H H' → Q .non H')
theorem ok_kind_of {f : Addr} {fd : FuncData} (D : Df K mg "kind_of" s_kind_of ["row"] f fd) (T : BtR K mg T_READS T_WRITES T_KINDS) : FnOk P w K mg base CX0 1 f fd ["row"] spKindR := by
  refine D.F.ok sc_kind_of (fun vs H Q E h => ?_) (fun cdv A outer s H vs Q E hr h => ?_)
  · obtain ⟨_, _, rfl, _⟩ := h
    rfl
  · obtain ⟨v, d, rfl, hv, hd, q1, q2⟩ := h
    have hu := hu_of hr
    refine ⟨_, (pss_cons (ps_if (PW.pt (pw_and (pt_cmpR op_eq (pe_callB (id := "len") (r := Evl.rLenS K) call_len_seq (by rfl) T.b_len PySem.boot_len (pa_cons (pv 0) pa_nil)) pe_int (nomark _)) (pw_and1 (pt_val (pe_callB (id := "isinstance") (r := rIsi K) call_isi (by rfl) T.b_isinstance (by decide +kernel) (pa_cons (pe_ix (r := rIxT K) ix_tup (pv 0) pe_int (fun _ _ => rfl)) (pa_cons (pe_bltn (v := .ty "tuple") (by rfl) T.b_tuple (by decide +kernel) rfl) pa_nil))))))) (pss_one (ps_ret (pe_ix (r := rIxT K) ix_tup (pv 0) pe_int (fun _ _ => rfl)))) pss_nil)
      (pss_one (ps_ret pe_non))), ?_⟩
    try simp (maxSteps := 1000000) only [tSeq, tIfS, tTest, tOp, tUn, tCB, tCons, tNil, tVar, tC, rI0, rI, rU, rEq, rNe, tRet, tRetN, tAsg, gName, gSub, tBM, tBM0, tNext, tB, tNot, tAnd, tOr, tIf, tCall, tDrop, tBreak, tCont, L2.start, tDGet, sDPut, tTup, tLst, tDNewK, tRevL, rCat, rAppend, rPop, rSetL, tAndV, tOrV, tNotV, tSl, tPart, tNoPart, tM1, gTup, gCons, gNil, cxK, cxnK, List.map_cons, List.map_nil, List.length_cons, List.length_nil, List.replicate, List.cons_append, List.nil_append, List.append_nil, List.set_cons_zero, List.set_cons_succ, List.getElem?_cons_zero, List.getElem?_cons_succ, Option.some.injEq, V.ref.injEq, V.int.injEq, V.str.injEq, V.bl.injEq, V.ty.injEq, exists_eq_left', exists_eq_left, exists_and_left, List.cons.injEq, and_true, true_and, sc_ii, sc_ss, sc_bb, sc_ni, sc_in, sc_is, sc_si, sc_nn, decide_true, decide_false, reduceCtorEq, Bool.false_eq_true, if_true, if_false, ite_true, ite_false, exists_const, eq_self, false_and, and_false, or_false, false_or, exists_false, Evl.rLenS, rSum, wipe, tYes, exists_eq, exists_eq', rIxL, rIxT, rIxS, exists_and_right, gt_iff_lt, not_true_eq_false, not_false_eq_true, Bool.not_true, Bool.not_false, decide_eq_true_eq, Nat.reduceSub, Nat.reduceAdd, List.append_assoc, tChain, tDIn, tDNotIn, sDDel, tAug, ipI]
    rcases hd with ⟨zs, zl, rfl⟩ | ⟨xs, k, ys, _, _, rfl⟩
    · obtain ⟨a, rfl, ht⟩ := dqTup_at hv
      refine ⟨a, rfl, _, .inr (sq_t ht), ?_⟩
      refine ite2 (fun h => ?_) (fun h => q2 zs H rfl (Kp.refl _ _))
      obtain ⟨z, r, rfl⟩ : ∃ z r, zs = z :: r := by
        cases zs with
        | nil => exact absurd h (by decide)
        | cons z r => exact ⟨z, r, rfl⟩
      refine ⟨a, rfl, _, sq_t ht, _, atI_of (by decide) rfl, isi_Dtup (.str z) ⟨_, rfl, ?_⟩⟩
      exact q2 _ H rfl (Kp.refl _ _)
    · cases hv with
      | @tup a us _ e h =>
        cases h with
        | cons h0 h => cases h with
          | cons h1 h => cases h with
            | cons h2 h =>
              cases h
              cases h1
              refine ⟨a, rfl, _, .inr (sq_t e), ?_⟩
              rw [if_pos (by rfl)]
              refine ⟨a, rfl, _, sq_t e, _, atI_of (by decide) rfl, isi_Dtup h0 ⟨_, rfl, ?_⟩⟩
              rw [if_pos (by rfl)]
              exact ⟨a, rfl, _, sq_t e, _, atI_of (by decide) rfl, q1 _ k _ H rfl (Kp.refl _ _)⟩
/-- a row made tidy -/
def TdR (d d' : PyData) : Prop := (∃ zs ys : List Str, Td zs ys ∧ d = .tuple (zs.map .str) ∧ d' = .tuple (ys.map .str)) ∨ ∃ (xs : List Str) (k : Str) (ys xs' ys' : List Str), Td xs xs' ∧ Td ys ys' ∧ d = .tuple [.tuple (xs.map .str), .str k, .tuple (ys.map .str)] ∧ d' = .tuple [.tuple (xs'.map .str), .str k, .tuple (ys'.map .str)]
theorem strs_inj {a b : List Str} (h : a.map PyData.str = b.map PyData.str) : a = b := List.map_inj_right (fun _ _ e => by cases e; rfl) |>.mp h
theorem TdR.uniq {d a b : PyData} (h : TdR d a) (k : TdR d b) : a = b := by
  rcases h with ⟨zs, ys, h, rfl, rfl⟩ | ⟨xs, kk, ys, xs', ys', h1, h2, rfl, rfl⟩ <;> rcases k with ⟨zs2, ys2, k, e, rfl⟩ | ⟨xs2, kk2, ys2, xs2', ys2', k1, k2, e, rfl⟩
  · injection e with e
    rw [strs_inj e] at h
    rw [h.uniq k]
  · injection e with e
    match zs, e with
    | [], e => cases e
    | z :: r, e => rw [List.map_cons] at e; injection e with e1 _; cases e1
  · injection e with e
    match zs2, e with
    | [], e => cases e
    | z :: r, e => rw [List.map_cons] at e; injection e with e1 _; cases e1
  · injection e with e
    injection e with e1 e
    injection e with e2 e
    injection e with e3 e
    injection e1 with e1
    injection e2 with e2
    injection e3 with e3
    rw [strs_inj e1] at h1
    rw [strs_inj e3] at h2
    rw [h1.uniq k1, h2.uniq k2, e2]
def spTidyR : Sp := fun vs H Q _ => ∃ (v : V) (d : PyData), vs = [v] ∧ Dq H v d ∧ RowD d ∧ ∀ p d' H', TdR d d' → Dq H' (.ref p) d' → Kp [] H H' → Q (.ref p) H'
theorem ok_tidy_row {f : Addr} {fd : FuncData} (D : Df K mg "tidy_row" s_tidy_row ["row"] f fd) (T : BtR K mg T_READS T_WRITES T_KINDS) {fa : Addr} {fda : FuncData} (D_kind_of : Df K mg "kind_of" s_kind_of ["row"] fa fda) (G_kind_of : FnOk P w K mg base CX0 1 fa fda ["row"] spKindR) {fb : Addr} {fdb : FuncData} (D_tidy : Df K mg "tidy" s_tidy ["fences"] fb fdb) (G_tidy : FnOk P w K mg base CX0 1 fb fdb ["fences"] spTidy) : FnOk P w K mg base CX0 2 f fd ["row"] spTidyR := by
  refine D.F.ok sc_tidy_row (fun vs H Q E h => ?_) (fun cdv A outer s H vs Q E hr h => ?_)
  · obtain ⟨_, _, rfl, _⟩ := h
    rfl
  · obtain ⟨v, d, rfl, hv, hd, q⟩ := h
    have hu := hu_of hr
    refine ⟨_, (pss_cons (ps_if (pt_cmpR op_isN (pe_call G_kind_of (hr.mono (by decide)) rfl D_kind_of.g D_kind_of.F.kp D_kind_of.b .nil pass0 (pa_cons (pv 0) pa_nil)) pe_non (nomark _)) (pss_one (ps_ret (pe_call G_tidy (hr.mono (by decide)) rfl D_tidy.g D_tidy.F.kp D_tidy.b .nil pass0 (pa_cons (pv 0) pa_nil)))) pss_nil)
      (pss_cons (ps_asg (pv 0) (pg_tup (n := 3) (by rfl) (pgs_cons (pg_name (i := 1) sc_tidy_row.nd rfl (Or.inl rfl)) (pgs_cons (pg_name (i := 2) sc_tidy_row.nd rfl (Or.inl rfl)) (pgs_cons (pg_name (i := 3) sc_tidy_row.nd rfl (Or.inl rfl)) pgs_nil)))))
      (pss_one (ps_ret (pe_tup (pa_cons (pe_call G_tidy (hr.mono (by decide)) rfl D_tidy.g D_tidy.F.kp D_tidy.b .nil pass0 (pa_cons (pv 1) pa_nil)) (pa_cons (pv 2) (pa_cons (pe_call G_tidy (hr.mono (by decide)) rfl D_tidy.g D_tidy.F.kp D_tidy.b .nil pass0 (pa_cons (pv 3) pa_nil)) pa_nil)))))))), ?_⟩
    try simp (maxSteps := 1000000) only [tSeq, tIfS, tTest, tOp, tUn, tCB, tCons, tNil, tVar, tC, rI0, rI, rU, rEq, rNe, tRet, tRetN, tAsg, gName, gSub, tBM, tBM0, tNext, tB, tNot, tAnd, tOr, tIf, tCall, tDrop, tBreak, tCont, L2.start, tDGet, sDPut, tTup, tLst, tDNewK, tRevL, rCat, rAppend, rPop, rSetL, tAndV, tOrV, tNotV, tSl, tPart, tNoPart, tM1, gTup, gCons, gNil, cxK, cxnK, List.map_cons, List.map_nil, List.length_cons, List.length_nil, List.replicate, List.cons_append, List.nil_append, List.append_nil, List.set_cons_zero, List.set_cons_succ, List.getElem?_cons_zero, List.getElem?_cons_succ, Option.some.injEq, V.ref.injEq, V.int.injEq, V.str.injEq, V.bl.injEq, V.ty.injEq, exists_eq_left', exists_eq_left, exists_and_left, List.cons.injEq, and_true, true_and, sc_ii, sc_ss, sc_bb, sc_ni, sc_in, sc_is, sc_si, sc_nn, decide_true, decide_false, reduceCtorEq, Bool.false_eq_true, if_true, if_false, ite_true, ite_false, exists_const, eq_self, false_and, and_false, or_false, false_or, exists_false, Evl.rLenS, rSum, wipe, tYes, exists_eq, exists_eq', rIxL, rIxT, rIxS, exists_and_right, gt_iff_lt, not_true_eq_false, not_false_eq_true, Bool.not_true, Bool.not_false, decide_eq_true_eq, Nat.reduceSub, Nat.reduceAdd, List.append_assoc, tChain, tDIn, tDNotIn, sDDel, tAug, ipI]
    have tl : ∀ {x : V} {zs : List Str} {H1 : Hp} {R : V → Hp → Prop} {E1 : XK}, Dq H1 x (.tuple (zs.map PyData.str)) → zs.length ≤ 1000 → (∀ p ys H', Td zs ys → H' p = some (.tup (ys.map V.str)) → Kp [] H1 H' → R (.ref p) H') → spTidy [x] H1 R E1 := fun {x zs H1 R E1} hx zl hR => by
      obtain ⟨a, rfl, ht⟩ := dqTup_at hx
      exact ⟨a, zs, rfl, hx, zl, hR⟩
    refine ⟨v, d, rfl, hv, hd, fun xs k ys H1 e k1 => ?_, fun zs H1 e k1 => ?_⟩
    · dsimp only
      rw [if_neg (fun z : V.str k = V.non => nomatch z)]
      rcases hd with ⟨zs, zl, rfl⟩ | ⟨xs, k, ys, xl, yl, rfl⟩
      · injection e with e
        match zs, e with
        | [], e => cases e
        | z :: r, e => rw [List.map_cons] at e; injection e with e1 _; cases e1
      · cases e
        cases hv.kp k1 with
        | @tup a us _ e h =>
          cases h with
          | @cons v0 _ _ _ h0 h => cases h with
            | @cons v1 _ _ _ h1 h => cases h with
              | @cons v2 _ _ _ h2 h =>
                cases h
                cases h1
                refine ⟨a, rfl, _, sq_t e, rfl, _, _, rfl, _, _, rfl, _, _, rfl, rfl, ?_⟩
                refine tl h0 xl fun p1 xs' H2 d1 e1 k2 => tl (h2.kp k2) yl fun p2 ys' H3 d2 e2 k3 => ⟨small (by decide), fun p np => ?_⟩
                have kn : Kp [] H3 (upd H3 p (.tup [.ref p1, .str k, .ref p2])) := Kp.new np
                refine q p _ _ (.inr ⟨xs, k, ys, xs', ys', d1, d2, rfl, rfl⟩) (.tup upd_same (.cons ((dqTup e1).kp (k3.trans kn)) (.cons (.str k) (.cons ((dqTup e2).kp kn) .nil)))) (((k1.trans k2).trans k3).trans kn)
    · dsimp only
      rw [if_pos (rfl : V.non = V.non)]
      subst e
      rcases hd with ⟨zs, zl, e⟩ | ⟨xs, k, ys, xl, yl, e⟩
      · injection e with e
        cases strs_inj e
        exact tl (hv.kp k1) zl fun p ys H2 d1 e1 k2 => q p _ _ (.inl ⟨_, ys, d1, rfl, rfl⟩) (dqTup e1) (k1.trans k2)
      · injection e with e
        match zs, e with
        | [], e => cases e
        | z :: r, e => rw [List.map_cons] at e; injection e with e1 _; cases e1
end
end My

set_option Elab.async false
set_option linter.all false
set_option maxRecDepth 100000
set_option maxHeartbeats 4000000
namespace My
open PySem L2 NdefX
def AllIn {α : Type} (g : α → Bool) (ds : List α) (D : Addr) (H : Hp) (i : Nat) (H' : Hp) : Prop := H' D = some (.lst ((ds.take i).map fun d => V.bl (g d))) ∧ Kp [] H H'
theorem allIn_step {α : Type} {g : α → Bool} {ds : List α} {D : Addr} {H H1 H2 : Hp} {i : Nat} {d : α} (hn : H D = none) (h : AllIn g ds D H i H1) (k : Kp [] H1 H2) (e : ds[i]? = some d) (hl : ds.length ≤ 1000) :
    ∃ acc, H2 D = some (.lst acc) ∧ acc.length < sizeLine ∧ AllIn g ds D H (i + 1) (upd H2 D (.lst (acc ++ [V.bl (g d)]))) := by
  refine ⟨_, k _ _ not0 h.1, ?_, ?_, (h.2.trans k).wr hn⟩
  · rw [List.length_map, List.length_take]; exact smallL (by omega)
  · rw [upd_same, take_snocS e, List.map_append]; rfl
theorem allIn_end {α : Type} {K : PySem.W.Frag} {g : α → Bool} {ds : List α} {D : Addr} {H H1 : Hp} {Q : VK} (h : AllIn g ds D H ds.length H1) (q : Q (.bl (ds.all g)) H1) : rAll K [.ref D] H1 Q := by
  refine ⟨D, ds.map g, rfl, sq_l (h.1.trans ?_), ?_⟩
  · rw [List.take_length, List.map_map]; rfl
  · rw [← all_takeS] at q; exact q
/-- the item is one of the texts -/
def inFs (fs : List Str) : PyData → Bool
  | .str z => decide (z ∈ fs)
  | _ => false
theorem inFs_any (fs : List Str) (e : PyData) : ((fs.map PyData.str).any fun z => PyData.eqv z e) = inFs fs e := by
  rw [List.any_map]
  cases e with
  | str y =>
    unfold inFs
    rw [Bool.eq_iff_iff, List.any_eq_true, decide_eq_true_eq]
    constructor
    · rintro ⟨x, hx, e⟩
      have e' : (x == y) = true := by simpa [PyData.eqv] using e
      exact eq_of_beq e' ▸ hx
    · intro h
      exact ⟨y, h, by simp [PyData.eqv]⟩
  | _ =>
    refine Bool.eq_false_iff.mpr fun z => ?_
    obtain ⟨x, hx, e⟩ := List.any_eq_true.mp z
    simp [PyData.eqv] at e
def isKd (name : Str) (fs : List Str) : List PyData → Bool
  | [.tuple xs, k, .tuple ys] => inFs (groupL name) k && (xs ++ ys).all (inFs fs)
  | _ => false
def isRowD (name : Str) (fs : List Str) : PyData → Bool
  | .tuple ds => if name ∈ kindsL then isKd name fs ds else ds.all (inFs fs)
  | _ => false
/-- few items -/
def LnR (d : PyData) : Prop := ∀ ds, d = .tuple ds → ds.length ≤ 100 ∧ ∀ e ∈ ds, ∀ es, e = .tuple es → es.length ≤ 100
def ShL (zs : List Str) : Prop := SeqAt.shaped (.list (zs.map PyData.str)) = true
theorem depth_strs : ∀ zs : List Str, PyData.depthAll (zs.map PyData.str) = 0
  | [] => rfl
  | z :: zs => by
    show max 0 (PyData.depthAll (zs.map PyData.str)) = 0
    rw [depth_strs zs]; rfl
theorem shL_of {zs : List Str} (h : ∀ z ∈ zs, PyData.strOk z = true) : ShL zs := by
  show (PyData.canLayAll0 (zs.map PyData.str) && decide (PyData.depthAll (zs.map PyData.str) + 1 ≤ 64)) = true
  rw [PyProof.Rows.canLayAll_strs', depth_strs, List.all_eq_true.mpr h]; rfl
theorem shG {name : Str} (h : PyData.strOk name = true) : ShL (groupL name) := by
  unfold groupL
  split
  · exact shL_of (by decide +kernel)
  · split
    · exact shL_of (by decide +kernel)
    · exact shL_of fun z hz => by rw [List.mem_singleton.mp hz]; exact h
theorem lay_mem : ∀ {ds : List PyData}, PyData.canLayAll0 ds = true → ∀ e ∈ ds, e.canLay0 = true
  | d :: ds, h, e, he => by
    have h' : (d.canLay0 && PyData.canLayAll0 ds) = true := h
    rw [Bool.and_eq_true] at h'
    rcases List.mem_cons.mp he with rfl | he
    · exact h'.1
    · exact lay_mem h'.2 e he
theorem dep_mem : ∀ {ds : List PyData}, ∀ e ∈ ds, e.depth ≤ PyData.depthAll ds
  | d :: ds, e, he => by
    show _ ≤ max d.depth (PyData.depthAll ds)
    rcases List.mem_cons.mp he with rfl | he
    · omega
    · have := dep_mem e he
      omega
theorem shaped_mem {ds : List PyData} (h : SeqAt.shaped (.tuple ds) = true) : ∀ e ∈ ds, SeqAt.shaped e = true := fun e he => by
  have h' : (PyData.canLayAll0 ds && decide (PyData.depthAll ds + 1 ≤ 64)) = true := h
  rw [Bool.and_eq_true] at h'
  have h2 := of_decide_eq_true h'.2
  have h3 := dep_mem e he
  show (e.canLay0 && decide (e.depth ≤ 64)) = true
  rw [lay_mem h'.1 e he, decide_eq_true (show e.depth ≤ 64 by omega)]; rfl
theorem dqApp {H : Hp} : ∀ {as bs : List PyData} {us vs : List V}, DqAll H us as → DqAll H vs bs → DqAll H (us ++ vs) (as ++ bs)
  | _, _, _, _, .nil, k => k
  | _, _, _, _, .cons h t, k => .cons h (dqApp t k)
theorem lc_src35 {K : PySem.W.Frag} {tv : TE} {g : TG} {tt : TT} {te : TE} {vs : List Nat} {σ : L2.St} {H : Hp} {Q : VK} (h : tv σ H fun v H1 => tLc (iTup K (tC v)) g tt te vs σ H1 Q) : tLc (iTup K tv) g tt te vs σ H Q := h
theorem rowAll {K : PySem.W.Frag} {n v : V} {a p : Addr} {fs : List Str} {us : List V} {ds : List PyData} {H : Hp} {Q : VK} (ht : SqT K H p us) (hd : DqAll H us ds) (sh : ∀ e ∈ ds, SeqAt.shaped e = true) (dl : ds.length ≤ 1000) (hS : SqL K H a (fs.map V.str)) (shf : ShL fs) (q : ∀ H', Kp [] H H' → Q (.bl (ds.all (inFs fs))) H') :
    tLc (iTup K (tC (.ref p))) (gName 3) tYes (tOp (rInS K false) (tVar 3) (tVar 2)) [3] [some n, some v, some (.ref a), none] H fun x H1 => rAll K [x] H1 Q := by
  refine ⟨p, rfl, ⟨us, ht⟩, fun D nD => lc_tup (xs := us) (AllIn (inFs fs) ds D H) ⟨upd_same, Kp.new nD⟩ (fun i H1 _ h => h.2.tp not0 ht) ?_ ?_⟩
  · rintro i x H1 hx h
    obtain ⟨d, ed, hdd⟩ := hd.get hx
    try simp (maxSteps := 1000000) only [tSeq, tIfS, tTest, tOp, tUn, tCB, tCons, tNil, tVar, tC, rI0, rI, rU, rEq, rNe, tRet, tRetN, tAsg, gName, gSub, tBM, tBM0, tNext, tB, tNot, tAnd, tOr, tIf, tCall, tDrop, tBreak, tCont, L2.start, tDGet, sDPut, tTup, tLst, tDNewK, tRevL, rCat, rAppend, rPop, rSetL, tAndV, tOrV, tNotV, tSl, tPart, tNoPart, tM1, gTup, gCons, gNil, cxK, cxnK, List.map_cons, List.map_nil, List.length_cons, List.length_nil, List.replicate, List.cons_append, List.nil_append, List.append_nil, List.set_cons_zero, List.set_cons_succ, List.getElem?_cons_zero, List.getElem?_cons_succ, Option.some.injEq, V.ref.injEq, V.int.injEq, V.str.injEq, V.bl.injEq, V.ty.injEq, exists_eq_left', exists_eq_left, exists_and_left, List.cons.injEq, and_true, true_and, sc_ii, sc_ss, sc_bb, sc_ni, sc_in, sc_is, sc_si, sc_nn, decide_true, decide_false, reduceCtorEq, Bool.false_eq_true, if_true, if_false, ite_true, ite_false, exists_const, eq_self, false_and, and_false, or_false, false_or, exists_false, Evl.rLenS, rSum, wipe, tYes, exists_eq, exists_eq', rIxL, rIxT, rIxS, exists_and_right, gt_iff_lt, not_true_eq_false, not_false_eq_true, Bool.not_true, Bool.not_false, decide_eq_true_eq, Nat.reduceSub, Nat.reduceAdd, List.append_assoc, tChain, tDIn, tDNotIn, sDDel, tAug, ipI]
    refine ⟨d, fs.map PyData.str, a, _, rfl, .inl (h.2.ls not0 hS), dpStrs fs, (hdd.kp h.2).dp, sh d (List.mem_of_getElem? ed), shf, ?_⟩
    rw [inFs_any]
    exact allIn_step nD h (Kp.refl _ _) ed dl
  · intro H1 h
    rw [hd.len] at h
    exact allIn_end h (q _ h.2)
def spIsRow (K : PySem.W.Frag) : Sp := fun vs H Q _ => ∃ (name : Str) (v : V) (d : PyData) (a : Addr) (fs : List Str), vs = [.str name, v, .ref a] ∧ Dq H v d ∧ SeqAt.shaped d = true ∧ LnR d ∧ SqL K H a (fs.map V.str) ∧ ShL fs ∧ PyData.strOk name = true ∧ ∀ H', Kp [] H H' → Q (.bl (isRowD name fs d)) H'
section
variable {P : Program} {w : World} {K : PySem.W.Frag} {mg : Str → Option Value} {base : Heap} {T_READS T_WRITES T_KINDS : Addr}
theorem ok_is_row {f : Addr} {fd : FuncData} (D : Df K mg "is_row" s_is_row ["name", "row", "fences"] f fd) (T : BtR K mg T_READS T_WRITES T_KINDS) {fa : Addr} {fda : FuncData} (D_group_of : Df K mg "group_of" s_group_of ["kind"] fa fda) (G_group_of : FnOk P w K mg base CX0 1 fa fda ["kind"] (spGroup K)) : FnOk P w K mg base CX0 2 f fd ["name", "row", "fences"] (spIsRow K) := by
  refine D.F.ok sc_is_row (fun vs H Q E h => ?_) (fun cdv A outer s H vs Q E hr h => ?_)
  · obtain ⟨_, _, _, _, _, rfl, _⟩ := h
    rfl
  · obtain ⟨name, v, d, a, fs, rfl, hv, sh, ln, hS, shf, nok, q⟩ := h
    have hu := hu_of hr
    refine ⟨_, (pss_cons (ps_if (pt_not (pt_val (pe_callB (id := "isinstance") (r := rIsi K) call_isi (by rfl) T.b_isinstance (by decide +kernel) (pa_cons (pv 1) (pa_cons (pe_bltn (v := .ty "tuple") (by rfl) T.b_tuple (by decide +kernel) rfl) pa_nil))))) (pss_one (ps_ret pe_bl)) pss_nil)
      (pss_cons (ps_if (pt_cmpR op_notIn_seq (pv 0) (pe_glob (v := .ref T_KINDS) rfl T.c_KINDS rfl) (by rfl)) (pss_one (ps_ret (pe_callB (id := "all") (r := rAll K) (cr_all rfl) (by rfl) T.b_all (by decide +kernel) (pa_cons (pe_lc (own := [("fence", 3)]) (g := (gName 3)) (tt := tYes) rfl sc_is_row.nd (pi_tup (pv 1)) (blkOk_by (N := ["name", "row", "fences", "fence"]) (sc := defScope s_is_row) (by decide +kernel)) (fun _ _ _ _ _ => (pg_name (i := 3) sc_is_row.nd rfl (Or.inl rfl))) (fun _ _ _ _ _ => pts_nil) (fun _ _ _ _ _ => (pe_cmpR (r := rInS K false) (op_inS (hu5 hr)) (pv 3) (pv 2) (by rfl)))) pa_nil)))) pss_nil)
      (pss_cons (ps_if (PW.pt (pw_or (pt_cmpR op_ne (pe_callB (id := "len") (r := Evl.rLenS K) call_len_seq (by rfl) T.b_len PySem.boot_len (pa_cons (pv 1) pa_nil)) pe_int (nomark _)) (pw_or (pt_not (pt_val (pe_callB (id := "isinstance") (r := rIsi K) call_isi (by rfl) T.b_isinstance (by decide +kernel) (pa_cons (pe_ix (r := rIxT K) ix_tup (pv 1) pe_int (fun _ _ => rfl)) (pa_cons (pe_bltn (v := .ty "tuple") (by rfl) T.b_tuple (by decide +kernel) rfl) pa_nil))))) (pw_or1 (pt_not (pt_val (pe_callB (id := "isinstance") (r := rIsi K) call_isi (by rfl) T.b_isinstance (by decide +kernel) (pa_cons (pe_ix (r := rIxT K) ix_tup (pv 1) pe_int (fun _ _ => rfl)) (pa_cons (pe_bltn (v := .ty "tuple") (by rfl) T.b_tuple (by decide +kernel) rfl) pa_nil))))))))) (pss_one (ps_ret pe_bl)) pss_nil)
      (pss_one (ps_ret (pe_and (pe_cmpR (op_inS (hu5 hr)) (pe_ix (r := rIxT K) ix_tup (pv 1) pe_int (fun _ _ => rfl)) (pe_call G_group_of (hr.mono (by decide)) rfl D_group_of.g D_group_of.F.kp D_group_of.b .nil pass0 (pa_cons (pv 0) pa_nil)) (by rfl)) (pe_one (pe_callB (id := "all") (r := rAll K) (cr_all rfl) (by rfl) T.b_all (by decide +kernel) (pa_cons (pe_lc (own := [("fence", 3)]) (g := (gName 3)) (tt := tYes) rfl sc_is_row.nd (pi_tup (pe_op op_catA (pe_ix (r := rIxT K) ix_tup (pv 1) pe_int (fun _ _ => rfl)) (pe_ix (r := rIxT K) ix_tup (pv 1) pe_int (fun _ _ => rfl)))) (blkOk_by (N := ["name", "row", "fences", "fence"]) (sc := defScope s_is_row) (by decide +kernel)) (fun _ _ _ _ _ => (pg_name (i := 3) sc_is_row.nd rfl (Or.inl rfl))) (fun _ _ _ _ _ => pts_nil) (fun _ _ _ _ _ => (pe_cmpR (r := rInS K false) (op_inS (hu5 hr)) (pv 3) (pv 2) (by rfl)))) pa_nil))))))))), ?_⟩
    try simp (maxSteps := 1000000) only [tSeq, tIfS, tTest, tOp, tUn, tCB, tCons, tNil, tVar, tC, rI0, rI, rU, rEq, rNe, tRet, tRetN, tAsg, gName, gSub, tBM, tBM0, tNext, tB, tNot, tAnd, tOr, tIf, tCall, tDrop, tBreak, tCont, L2.start, tDGet, sDPut, tTup, tLst, tDNewK, tRevL, rCat, rAppend, rPop, rSetL, tAndV, tOrV, tNotV, tSl, tPart, tNoPart, tM1, gTup, gCons, gNil, cxK, cxnK, List.map_cons, List.map_nil, List.length_cons, List.length_nil, List.replicate, List.cons_append, List.nil_append, List.append_nil, List.set_cons_zero, List.set_cons_succ, List.getElem?_cons_zero, List.getElem?_cons_succ, Option.some.injEq, V.ref.injEq, V.int.injEq, V.str.injEq, V.bl.injEq, V.ty.injEq, exists_eq_left', exists_eq_left, exists_and_left, List.cons.injEq, and_true, true_and, sc_ii, sc_ss, sc_bb, sc_ni, sc_in, sc_is, sc_si, sc_nn, decide_true, decide_false, reduceCtorEq, Bool.false_eq_true, if_true, if_false, ite_true, ite_false, exists_const, eq_self, false_and, and_false, or_false, false_or, exists_false, Evl.rLenS, rSum, wipe, tYes, exists_eq, exists_eq', rIxL, rIxT, rIxS, exists_and_right, gt_iff_lt, not_true_eq_false, not_false_eq_true, Bool.not_true, Bool.not_false, decide_eq_true_eq, Nat.reduceSub, Nat.reduceAdd, List.append_assoc, tChain, tDIn, tDNotIn, sDDel, tAug, ipI]
    refine isi_Dtup hv ⟨_, rfl, ?_⟩
    cases hv with
    | @tup b us ds e hd =>
      rw [if_neg (by exact Bool.false_ne_true)]
      obtain ⟨dl, el⟩ := ln ds rfl
      have shm := shaped_mem sh
      refine ⟨T_KINDS, _, rfl, .inr (T.kk H), rfl, flat_map _, _, rfl, ?_⟩
      rw [if_pos rfl, in_strs]
      unfold inW
      have qe : isRowD name fs (.tuple ds) = if name ∈ kindsL then isKd name fs ds else ds.all (inFs fs) := rfl
      rw [qe] at q
      by_cases nk : name ∈ kindsL
      · rw [decide_eq_true nk, if_neg (by decide)]
        rw [if_pos nk] at q
        refine ⟨b, rfl, _, .inr (sq_t e), ?_⟩
        rw [hd.len]
        have nok3 : ds.length ≠ 3 → Q (V.bl false) H := fun h => by
          have : isKd name fs ds = false := by
            unfold isKd
            split
            · exact absurd rfl h
            · rfl
          rw [this] at q
          exact q H (Kp.refl _ _)
        clear qe
        match ds, hd with
        | [d0, d1, d2], hd =>
          rw [if_neg (by exact Bool.false_ne_true)]
          cases hd with
          | @cons v0 _ _ _ h0 h => cases h with
            | @cons v1 _ _ _ h1 h => cases h with
              | @cons v2 _ _ _ h2 h =>
                cases h
                refine ⟨b, rfl, _, sq_t e, _, atI_of (by decide) rfl, isi_Dtup h0 ⟨_, rfl, ?_⟩⟩
                cases h0 with
                | @tup a0 us0 ds0 e0 hd0 =>
                  rw [if_neg (by exact Bool.false_ne_true)]
                  refine ⟨b, rfl, _, sq_t e, _, atI_of (by decide) rfl, isi_Dtup h2 ⟨_, rfl, ?_⟩⟩
                  cases h2 with
                  | @tup a2 us2 ds2 e2 hd2 =>
                    rw [if_neg (by exact Bool.false_ne_true)]
                    have qk : isKd name fs [.tuple ds0, d1, .tuple ds2] = (inFs (groupL name) d1 && (ds0 ++ ds2).all (inFs fs)) := rfl
                    rw [qk] at q
                    refine ⟨b, rfl, _, sq_t e, _, atI_of (by decide) rfl, name, rfl, fun p H1 hp k1 => ?_⟩
                    refine ⟨d1, (groupL name).map PyData.str, p, _, rfl, .inr hp, dpStrs _, (h1.kp k1).dp, shm d1 (by simp), shG nok, ?_⟩
                    rw [if_neg Bool.false_ne_true, inFs_any]
                    refine ⟨_, rfl, ?_⟩
                    have k0 : (Kp [] H H1) := k1
                    generalize inFs (groupL name) d1 = c1 at q ⊢
                    cases c1 with
                    | false =>
                      rw [if_neg Bool.false_ne_true]
                      exact q H1 k1
                    | true =>
                      rw [if_pos rfl]
                      rw [Bool.true_and] at q
                      refine lc_src35 ?_
                      try simp (maxSteps := 1000000) only [tSeq, tIfS, tTest, tOp, tUn, tCB, tCons, tNil, tVar, tC, rI0, rI, rU, rEq, rNe, tRet, tRetN, tAsg, gName, gSub, tBM, tBM0, tNext, tB, tNot, tAnd, tOr, tIf, tCall, tDrop, tBreak, tCont, L2.start, tDGet, sDPut, tTup, tLst, tDNewK, tRevL, rCat, rAppend, rPop, rSetL, tAndV, tOrV, tNotV, tSl, tPart, tNoPart, tM1, gTup, gCons, gNil, cxK, cxnK, List.map_cons, List.map_nil, List.length_cons, List.length_nil, List.replicate, List.cons_append, List.nil_append, List.append_nil, List.set_cons_zero, List.set_cons_succ, List.getElem?_cons_zero, List.getElem?_cons_succ, Option.some.injEq, V.ref.injEq, V.int.injEq, V.str.injEq, V.bl.injEq, V.ty.injEq, exists_eq_left', exists_eq_left, exists_and_left, List.cons.injEq, and_true, true_and, sc_ii, sc_ss, sc_bb, sc_ni, sc_in, sc_is, sc_si, sc_nn, decide_true, decide_false, reduceCtorEq, Bool.false_eq_true, if_true, if_false, ite_true, ite_false, exists_const, eq_self, false_and, and_false, or_false, false_or, exists_false, Evl.rLenS, rSum, wipe, tYes, exists_eq, exists_eq', rIxL, rIxT, rIxS, exists_and_right, gt_iff_lt, not_true_eq_false, not_false_eq_true, Bool.not_true, Bool.not_false, decide_eq_true_eq, Nat.reduceSub, Nat.reduceAdd, List.append_assoc, tChain, tDIn, tDNotIn, sDDel, tAug, ipI]
                      refine ⟨_, sq_t (k1 _ _ not0 e), _, atI_of (by decide) rfl, _, sq_t (k1 _ _ not0 e), _, atI_of (by decide) rfl, ?_⟩
                      have l0 := el (.tuple ds0) (by simp) ds0 rfl
                      have l2 := el (.tuple ds2) (by simp) ds2 rfl
                      refine catA_use (k1 _ _ not0 e0) (k1 _ _ not0 e2) (by rw [hd0.len, hd2.len]; omega) fun r H2 hr2 k2 => ?_
                      refine rowAll (sq_t hr2) (dqApp (hd0.kp (k1.trans k2)) (hd2.kp (k1.trans k2))) (fun x hx => ?_) (by rw [List.length_append]; omega) ((k1.trans k2).ls not0 hS) shf fun H3 k3 => q H3 ((k1.trans k2).trans k3)
                      rcases List.mem_append.mp hx with hx | hx
                      · exact shaped_mem (shm (.tuple ds0) (by simp)) x hx
                      · exact shaped_mem (shm (.tuple ds2) (by simp)) x hx
                  | _ =>
                    rw [if_pos (by rfl)]
                    exact q H (Kp.refl _ _)
                | _ =>
                  rw [if_pos (by rfl)]
                  exact q H (Kp.refl _ _)
        | [], _ | [_], _ | [_, _], _ =>
          rw [if_pos (by rfl)]
          exact nok3 (fun z => nomatch z)
        | _ :: _ :: _ :: _ :: r, _ =>
          rw [if_pos (by
            have : ¬ (((r.length + 1 + 1 + 1 + 1 : Nat) : Int) = 3) := by omega
            exact congrArg not (decide_eq_false this))]
          exact nok3 (by show r.length + 1 + 1 + 1 + 1 ≠ 3; omega)
      · rw [decide_eq_false nk, if_pos (by decide)]
        rw [if_neg nk] at q
        refine lc_src35 ?_
        try simp (maxSteps := 1000000) only [tSeq, tIfS, tTest, tOp, tUn, tCB, tCons, tNil, tVar, tC, rI0, rI, rU, rEq, rNe, tRet, tRetN, tAsg, gName, gSub, tBM, tBM0, tNext, tB, tNot, tAnd, tOr, tIf, tCall, tDrop, tBreak, tCont, L2.start, tDGet, sDPut, tTup, tLst, tDNewK, tRevL, rCat, rAppend, rPop, rSetL, tAndV, tOrV, tNotV, tSl, tPart, tNoPart, tM1, gTup, gCons, gNil, cxK, cxnK, List.map_cons, List.map_nil, List.length_cons, List.length_nil, List.replicate, List.cons_append, List.nil_append, List.append_nil, List.set_cons_zero, List.set_cons_succ, List.getElem?_cons_zero, List.getElem?_cons_succ, Option.some.injEq, V.ref.injEq, V.int.injEq, V.str.injEq, V.bl.injEq, V.ty.injEq, exists_eq_left', exists_eq_left, exists_and_left, List.cons.injEq, and_true, true_and, sc_ii, sc_ss, sc_bb, sc_ni, sc_in, sc_is, sc_si, sc_nn, decide_true, decide_false, reduceCtorEq, Bool.false_eq_true, if_true, if_false, ite_true, ite_false, exists_const, eq_self, false_and, and_false, or_false, false_or, exists_false, Evl.rLenS, rSum, wipe, tYes, exists_eq, exists_eq', rIxL, rIxT, rIxS, exists_and_right, gt_iff_lt, not_true_eq_false, not_false_eq_true, Bool.not_true, Bool.not_false, decide_eq_true_eq, Nat.reduceSub, Nat.reduceAdd, List.append_assoc, tChain, tDIn, tDNotIn, sDDel, tAug, ipI]
        exact rowAll (sq_t e) hd shm (by omega) hS shf q
    | _ =>
      rw [if_pos (by rfl)]
      exact q H (Kp.refl _ _)
end
end My

set_option Elab.async false
set_option linter.all false
set_option maxRecDepth 100000
set_option maxHeartbeats 4000000
namespace My
open PySem L2 NdefX
abbrev s_Recipe_init : Stmt := mtop 24 0
theorem sc_Recipe_init : FnScope ["self", "source", "target", "kind", "fence"] ["self", "source", "target"] (defScope s_Recipe_init) := ⟨rfl, rfl, rfl, by decide +kernel, rfl, by decide +kernel, by decide +kernel⟩
abbrev s_Recipe_iter : Stmt := mtop 24 1
theorem sc_Recipe_iter : FnScope ["self"] ["self"] (defScope s_Recipe_iter) := ⟨rfl, rfl, rfl, by decide +kernel, rfl, by decide +kernel, by decide +kernel⟩
abbrev s_Recipe_getitem : Stmt := mtop 24 2
theorem sc_Recipe_getitem : FnScope ["self", "at"] ["self", "at"] (defScope s_Recipe_getitem) := ⟨rfl, rfl, rfl, by decide +kernel, rfl, by decide +kernel, by decide +kernel⟩
abbrev s_Recipe_setitem : Stmt := mtop 24 3
theorem sc_Recipe_setitem : FnScope ["self", "at", "worth"] ["self", "at", "worth"] (defScope s_Recipe_setitem) := ⟨rfl, rfl, rfl, by decide +kernel, rfl, by decide +kernel, by decide +kernel⟩
abbrev s_NoRow_init : Stmt := mtop 7 0
theorem sc_NoRow_init : NScope ["self", "name", "__class__"] ["self", "name"] ["__class__"] (defScope s_NoRow_init) := nscope_by (by decide +kernel)
theorem ok_NoRow_init {P : Program} {w : World} {K : PySem.W.Frag} {mg : Str → Option Value} {base : Heap} {CX : CXT} {f cc cda C : Addr} {fd : FuncData} (F : FunX K "__init__" "NoRow.__init__" s_NoRow_init f fd cc cda C) (T : ErrC K C) (G : CodeF K P cda) (hsup : mg "super" = none) (n1 : PySem.W.findIn K (.ref C) "name" = some none) {Pf : V → Prop} :
    FnOk P w K mg base CX 1 f fd ["self", "name"] (spErr1 C "name" Pf) := by
  have F0 := F
  obtain ⟨oc, od, kV, doc, pm, an, ct, osl, hfd, lk, hcd⟩ := F0.ex
  obtain ⟨cl, cld, csl, hcc⟩ := F0.cell
  refine F.ok sc_NoRow_init (fun vs H Q E h => ?_) (fun A outer s H vs Q E hr h => ?_)
  · obtain ⟨a, v, rfl, _⟩ := h
    rfl
  · obtain ⟨a, v, rfl, hp, ha, q⟩ := h
    refine ⟨_, psat_cons (psat_sup T G lk (by rw [hfd]; rfl) hcc hsup rfl rfl rfl rfl rfl rfl rfl (pa_cons pe_str pa_nil) rfl rfl rfl rfl rfl) (pss_one (ps_ost (pv 0) (pv 1))), ?_⟩
    try simp (maxSteps := 1000000) only [tSeq, tIfS, tTest, tOp, tUn, tCB, tCons, tNil, tVar, tC, rI0, rI, rU, rEq, rNe, tRet, tRetN, tAsg, gName, gSub, tBM, tBM0, tNext, tB, tNot, tAnd, tOr, tIf, tCall, tDrop, tBreak, tCont, L2.start, tDGet, sDPut, tTup, tLst, tDNewK, tRevL, rCat, rAppend, rPop, rSetL, tAndV, tOrV, tNotV, tSl, tPart, tNoPart, tM1, gTup, gCons, gNil, cxK, cxnK, List.map_cons, List.map_nil, List.length_cons, List.length_nil, List.replicate, List.cons_append, List.nil_append, List.append_nil, List.set_cons_zero, List.set_cons_succ, List.getElem?_cons_zero, List.getElem?_cons_succ, Option.some.injEq, V.ref.injEq, V.int.injEq, V.str.injEq, V.bl.injEq, V.ty.injEq, exists_eq_left', exists_eq_left, exists_and_left, List.cons.injEq, and_true, true_and, sc_ii, sc_ss, sc_bb, sc_ni, sc_in, sc_is, sc_si, sc_nn, decide_true, decide_false, reduceCtorEq, Bool.false_eq_true, if_true, if_false, ite_true, ite_false, exists_const, eq_self, false_and, and_false, or_false, false_or, exists_false, Evl.rLenS, rSum, wipe, tYes, exists_eq, exists_eq', rIxL, rIxT, rIxS, exists_and_right, gt_iff_lt, not_true_eq_false, not_false_eq_true, Bool.not_true, Bool.not_false, decide_eq_true_eq, Nat.reduceSub, Nat.reduceAdd, List.append_assoc, tChain, tDIn, tDNotIn, sDDel, tAug, ipI, startF, tSupI, tOst]
    exact ⟨ha, by decide, ha, C, T.ox, n1, .inl ⟨ha, q⟩⟩
abbrev s_BadRow_init : Stmt := mtop 8 0
theorem sc_BadRow_init : NScope ["self", "name", "__class__"] ["self", "name"] ["__class__"] (defScope s_BadRow_init) := nscope_by (by decide +kernel)
theorem ok_BadRow_init {P : Program} {w : World} {K : PySem.W.Frag} {mg : Str → Option Value} {base : Heap} {CX : CXT} {f cc cda C : Addr} {fd : FuncData} (F : FunX K "__init__" "BadRow.__init__" s_BadRow_init f fd cc cda C) (T : ErrC K C) (G : CodeF K P cda) (hsup : mg "super" = none) (n1 : PySem.W.findIn K (.ref C) "name" = some none) {Pf : V → Prop} :
    FnOk P w K mg base CX 1 f fd ["self", "name"] (spErr1 C "name" Pf) := by
  have F0 := F
  obtain ⟨oc, od, kV, doc, pm, an, ct, osl, hfd, lk, hcd⟩ := F0.ex
  obtain ⟨cl, cld, csl, hcc⟩ := F0.cell
  refine F.ok sc_BadRow_init (fun vs H Q E h => ?_) (fun A outer s H vs Q E hr h => ?_)
  · obtain ⟨a, v, rfl, _⟩ := h
    rfl
  · obtain ⟨a, v, rfl, hp, ha, q⟩ := h
    refine ⟨_, psat_cons (psat_sup T G lk (by rw [hfd]; rfl) hcc hsup rfl rfl rfl rfl rfl rfl rfl (pa_cons pe_str pa_nil) rfl rfl rfl rfl rfl) (pss_one (ps_ost (pv 0) (pv 1))), ?_⟩
    try simp (maxSteps := 1000000) only [tSeq, tIfS, tTest, tOp, tUn, tCB, tCons, tNil, tVar, tC, rI0, rI, rU, rEq, rNe, tRet, tRetN, tAsg, gName, gSub, tBM, tBM0, tNext, tB, tNot, tAnd, tOr, tIf, tCall, tDrop, tBreak, tCont, L2.start, tDGet, sDPut, tTup, tLst, tDNewK, tRevL, rCat, rAppend, rPop, rSetL, tAndV, tOrV, tNotV, tSl, tPart, tNoPart, tM1, gTup, gCons, gNil, cxK, cxnK, List.map_cons, List.map_nil, List.length_cons, List.length_nil, List.replicate, List.cons_append, List.nil_append, List.append_nil, List.set_cons_zero, List.set_cons_succ, List.getElem?_cons_zero, List.getElem?_cons_succ, Option.some.injEq, V.ref.injEq, V.int.injEq, V.str.injEq, V.bl.injEq, V.ty.injEq, exists_eq_left', exists_eq_left, exists_and_left, List.cons.injEq, and_true, true_and, sc_ii, sc_ss, sc_bb, sc_ni, sc_in, sc_is, sc_si, sc_nn, decide_true, decide_false, reduceCtorEq, Bool.false_eq_true, if_true, if_false, ite_true, ite_false, exists_const, eq_self, false_and, and_false, or_false, false_or, exists_false, Evl.rLenS, rSum, wipe, tYes, exists_eq, exists_eq', rIxL, rIxT, rIxS, exists_and_right, gt_iff_lt, not_true_eq_false, not_false_eq_true, Bool.not_true, Bool.not_false, decide_eq_true_eq, Nat.reduceSub, Nat.reduceAdd, List.append_assoc, tChain, tDIn, tDNotIn, sDDel, tAug, ipI, startF, tSupI, tOst]
    exact ⟨ha, by decide, ha, C, T.ox, n1, .inl ⟨ha, q⟩⟩
structure RpC (K : PySem.W.Frag) (mg : Str → Option Value) (RP : Addr) : Prop where
  k : mg "Recipe" = some (.ref RP)
  cl : Cls K RP
  n1 : NoAttr K RP "source"
  n2 : NoAttr K RP "target"
  n3 : NoAttr K RP "_rows"
  n4 : NoAttr K RP "_names"
structure BtP (K : PySem.W.Frag) (mg : Str → Option Value) (T_READS T_WRITES T_KINDS : Addr) (t1 t2 : Tok) : Prop extends BtR K mg T_READS T_WRITES T_KINDS where
  b_iter : mg "iter" = none
  c_RETURN : mg "RETURN" = some (.str ("return" : Str) t1)
  c_FULL : mg "FULL" = some (.str ("full" : Str) t2)
mutual
theorem dqN {S : List Addr} {H H' : Hp} (k : Kp S H H') (n : NoSq H S) : ∀ {d : PyData} {v : V}, Dq H v d → Dq H' v d
  | _, _, .non => .non
  | _, _, .bl b => .bl b
  | _, _, .int i => .int i
  | _, _, .str x => .str x
  | _, _, .lst e h => .lst (k _ _ (fun hm => (n _ hm).1 _ e) e) (dqAllN k n h)
  | _, _, .tup e h => .tup (k _ _ (fun hm => (n _ hm).2.1 _ e) e) (dqAllN k n h)
theorem dqAllN {S : List Addr} {H H' : Hp} (k : Kp S H H') (n : NoSq H S) : ∀ {ds : List PyData} {vs : List V}, DqAll H vs ds → DqAll H' vs ds
  | _, _, .nil => .nil
  | _, _, .cons h t => .cons (dqN k n h) (dqAllN k n t)
end
/-- at d a dict with the names ns; at the name z stands the data f z -/
def RwAt (H : Hp) (d : Addr) (ns : List Str) (f : Str → PyData) : Prop := ∃ kvs, H d = some (.dK kvs) ∧ kvs.map (·.1) = ns.map (fun z => (Sum.inr z : Key)) ∧ ns.Nodup ∧ ∀ z ∈ ns, ∃ v, valV kvs (Sum.inr z) = some v ∧ Dq H v (f z)
theorem noSqK {H : Hp} {d : Addr} {kvs : List (Key × V)} (h : H d = some (.dK kvs)) : NoSq H [d] := fun b hb => by
  rw [List.mem_singleton.mp hb, h]
  exact ⟨fun _ z => (by cases z), fun _ z => (by cases z), fun _ _ z => (by cases z)⟩
theorem RwAt.kpN {S : List Addr} {H H' : Hp} {d : Addr} {ns : List Str} {f : Str → PyData} (h : RwAt H d ns f) (k : Kp S H H') (n : NoSq H S) (hd : d ∉ S) : RwAt H' d ns f := by
  obtain ⟨kvs, a, b, c, e⟩ := h
  refine ⟨kvs, k _ _ hd a, b, c, fun z hz => ?_⟩
  obtain ⟨v, hv, q⟩ := e z hz
  exact ⟨v, hv, dqN k n q⟩
theorem RwAt.kp {H H' : Hp} {d : Addr} {ns : List Str} {f : Str → PyData} (h : RwAt H d ns f) (k : Kp [] H H') : RwAt H' d ns f := h.kpN k noSq0 not0
theorem RwAt.same {H : Hp} {d : Addr} {ns : List Str} {f g : Str → PyData} (h : RwAt H d ns f) (e : ∀ z ∈ ns, f z = g z) : RwAt H d ns g := by
  obtain ⟨kvs, a, b, c, q⟩ := h
  exact ⟨kvs, a, b, c, fun z hz => by rw [← e z hz]; exact q z hz⟩
theorem keyNot {kvs : List (Key × V)} {ns : List Str} {z : Str} (b : kvs.map (·.1) = ns.map (fun z => (Sum.inr z : Key))) (h : z ∉ ns) : valV kvs (Sum.inr z) = none := valV_fresh (by
  rw [b]
  intro m
  obtain ⟨y, hy, e⟩ := List.mem_map.mp m
  exact h (Sum.inr.inj e ▸ hy))
theorem putK_old {kvs : List (Key × V)} {k : Key} {v : V} (h : k ∈ kvs.map (·.1)) : (putK kvs k v).map (·.1) = kvs.map (·.1) := by
  unfold putK
  have a : (kvs.any fun kv => decide (kv.1 = k)) = true := by
    obtain ⟨p, hp, e⟩ := List.mem_map.mp h
    exact List.any_eq_true.mpr ⟨p, hp, decide_eq_true e⟩
  rw [if_pos a, List.map_map]
  refine List.map_congr_left fun p _ => ?_
  show (if p.1 = k then (p.1, v) else p).1 = p.1
  split <;> rfl
theorem RwAt.put {H : Hp} {d : Addr} {ns : List Str} {f : Str → PyData} {kvs : List (Key × V)} {z : Str} {v : V} {dd : PyData} (h : RwAt H d ns f) (hk : H d = some (.dK kvs)) (hz : z ∈ ns) (hv : Dq H v dd) : RwAt (upd H d (.dK (putK kvs (Sum.inr z) v))) d ns (fun y => if y = z then dd else f y) := by
  obtain ⟨kvs', a, b, c, q⟩ := h
  rw [hk] at a; cases a
  have kk : Kp [d] H (upd H d (.dK (putK kvs (Sum.inr z) v))) := (Kp.refl [d] H).put (by simp)
  refine ⟨_, upd_same, ?_, c, fun y hy => ?_⟩
  · rw [putK_old (by rw [b]; exact List.mem_map_of_mem (f := fun z => (Sum.inr z : Key)) hz)]; exact b
  · rw [valV_put]
    by_cases e : y = z
    · rw [if_pos (congrArg Sum.inr e)]
      refine ⟨v, rfl, ?_⟩
      show Dq _ v (if y = z then dd else f y)
      rw [if_pos e]
      exact dqN kk (noSqK hk) hv
    · rw [if_neg (fun h => e (Sum.inr.inj h))]
      obtain ⟨u, hu, qu⟩ := q y hy
      refine ⟨u, hu, ?_⟩
      show Dq _ u (if y = z then dd else f y)
      rw [if_neg e]
      exact dqN kk (noSqK hk) qu
theorem RwAt.add {H : Hp} {d : Addr} {ns : List Str} {f : Str → PyData} {kvs : List (Key × V)} {z : Str} {v : V} (h : RwAt H d ns f) (hk : H d = some (.dK kvs)) (hz : z ∉ ns) (hv : Dq H v (f z)) : RwAt (upd H d (.dK (putK kvs (Sum.inr z) v))) d (ns ++ [z]) f := by
  obtain ⟨kvs', a, b, c, q⟩ := h
  rw [hk] at a; cases a
  have kk : Kp [d] H (upd H d (.dK (putK kvs (Sum.inr z) v))) := (Kp.refl [d] H).put (by simp)
  refine ⟨_, upd_same, ?_, ?_, fun y hy => ?_⟩
  · rw [putK_new _ (keyNot b hz), List.map_append, List.map_append, b]; rfl
  · rw [List.nodup_append]
    refine ⟨c, by simp, fun a ha b hb e => ?_⟩
    rw [List.mem_singleton.mp hb] at e
    exact hz (e ▸ ha)
  · rw [valV_put]
    by_cases e : y = z
    · rw [if_pos (congrArg Sum.inr e), e]
      exact ⟨v, rfl, dqN kk (noSqK hk) hv⟩
    · rw [if_neg (fun h => e (Sum.inr.inj h))]
      rcases List.mem_append.mp hy with hy | hy
      · obtain ⟨u, hu, qu⟩ := q y hy
        exact ⟨u, hu, dqN kk (noSqK hk) qu⟩
      · exact absurd (List.mem_singleton.mp hy) e
theorem RwAt.len {H : Hp} {d : Addr} {ns : List Str} {f : Str → PyData} {kvs : List (Key × V)} (h : RwAt H d ns f) (hk : H d = some (.dK kvs)) : kvs.length = ns.length := by
  obtain ⟨kvs', a, b, _⟩ := h
  rw [hk] at a; cases a
  have := congrArg List.length b
  simpa using this
/-- at o a Recipe of the books at so and to: names zs, rows f (its dict at d) -/
def RcAt (RP : Addr) (H : Hp) (o d so to : Addr) (zs : List Str) (f : Str → PyData) : Prop := ∃ (dx nl : Addr) (ns : List Str), H o = some (.ins RP dx [("source", .ref so), ("target", .ref to), ("_rows", .ref d), ("_names", .ref nl)]) ∧ H nl = some (.lst (zs.map V.str)) ∧ RwAt H d ns f ∧ zs.Perm ns ∧ zs.length ≤ 100
theorem RcAt.kp {RP : Addr} {H H' : Hp} {o d so to : Addr} {zs : List Str} {f : Str → PyData} (h : RcAt RP H o d so to zs f) (k : Kp [] H H') : RcAt RP H' o d so to zs f := by
  obtain ⟨dx, nl, ns, a, b, c, e⟩ := h
  exact ⟨dx, nl, ns, k _ _ not0 a, k _ _ not0 b, c.kp k, e⟩
theorem RcAt.kpD {RP : Addr} {H H' : Hp} {o d so to d2 : Addr} {zs : List Str} {f : Str → PyData} {kvs : List (Key × V)} (h : RcAt RP H o d so to zs f) (k : Kp [d2] H H') (h2 : H d2 = some (.dK kvs)) (ne : d ≠ d2) : RcAt RP H' o d so to zs f := by
  obtain ⟨dx, nl, ns, a, b, c, e⟩ := h
  exact ⟨dx, nl, ns, k _ _ (not1 fun z => by rw [z, h2] at a; cases a) a, k _ _ (not1 fun z => by rw [z, h2] at b; cases b) b, c.kpN k (noSqK h2) (not1 ne), e⟩
theorem RcAt.dict {RP : Addr} {H : Hp} {o d so to : Addr} {zs : List Str} {f : Str → PyData} (h : RcAt RP H o d so to zs f) : ∃ kvs, H d = some (.dK kvs) := by
  obtain ⟨_, _, _, _, _, ⟨kvs, a, _⟩, _⟩ := h
  exact ⟨kvs, a⟩
/-- the rows of a new recipe, whose target has the fences ts -/
def plainF (ts : List Str) (z : Str) : PyData := if z ∈ kindsL then .tuple [.tuple [], .str z, .tuple []] else if z = "return" then .tuple [] else .tuple [.str (if z ∈ ts then z else "full")]
def retK : List Str := kindsL ++ [("return" : Str)]
def spRI (K : PySem.W.Frag) (RP BK PC : Addr) : Sp := fun vs H Q _ => ∃ (o dx so to : Addr) (fS fT : Pr → Bool) (sS sT : List (Str × (Pr → Bool))), vs = [.ref o, .ref so, .ref to] ∧ H o = some (.ins RP dx []) ∧ BookAt K BK PC H so fS sS ∧ BookAt K BK PC H to fT sT ∧ (∀ x ∈ sS, x.1 ∉ retK) ∧
  ∀ d zs H', H d = none → RcAt RP H' o d so to zs (plainF (sT.map (·.1))) → zs.Perm (retK ++ sS.map (·.1)) → PyProof.Rows.sortedS zs = true → Kp [o] H H' → Q .non H'
def spIterR (RP : Addr) : Sp := fun vs H Q _ => ∃ (o d so to : Addr) (zs : List Str) (f : Str → PyData), vs = [.ref o] ∧ RcAt RP H o d so to zs f ∧ ∀ l it, H l = some (.lst (zs.map V.str)) → H it = none → Q (.ref it) (upd H it (ItO l it 0))
def spGetR (RP NR : Addr) : Sp := fun vs H Q E => ∃ (o d so to : Addr) (zs : List Str) (f : Str → PyData) (z : Str), vs = [.ref o, .str z] ∧ RcAt RP H o d so to zs f ∧ (z ∈ zs → ∀ v, Dq H v (f z) → Q v H) ∧ (z ∉ zs → ∀ (e : Addr) (H' : Hp), H e = none → H' e = some (.xd [("name", .str z)]) → Kp [] H H' → E (.ref NR) (some e) H')
def spSetR (K : PySem.W.Frag) (RP BK PC NR BR : Addr) : Sp := fun vs H Q E => ∃ (o d so to : Addr) (fT : Pr → Bool) (sT : List (Str × (Pr → Bool))) (zs : List Str) (f : Str → PyData) (z : Str) (v : V) (e : PyData), vs = [.ref o, .str z, v] ∧ RcAt RP H o d so to zs f ∧ BookAt K BK PC H to fT sT ∧ (∀ x ∈ sT, PyData.strOk x.1 = true) ∧ PyData.strOk z = true ∧ Dq H v e ∧ SeqAt.shaped e = true ∧ LnR e ∧
  (z ∉ zs → ∀ (x : Addr) (H' : Hp), H x = none → H' x = some (.xd [("name", .str z)]) → Kp [] H H' → E (.ref NR) (some x) H') ∧
  (z ∈ zs → isRowD z (sT.map (·.1)) e = false → ∀ (x : Addr) (H' : Hp), H x = none → H' x = some (.xd [("name", .str z)]) → Kp [] H H' → E (.ref BR) (some x) H') ∧
  (z ∈ zs → isRowD z (sT.map (·.1)) e = true → ∀ (e' : PyData) (H' : Hp), TdR e e' → RcAt RP H' o d so to zs (fun y => if y = z then e' else f y) → Kp [d] H H' → Q .non H')
theorem inFs_congr {a b : List Str} (h : ∀ x, x ∈ a ↔ x ∈ b) : inFs a = inFs b := by
  funext d
  unfold inFs
  split
  · next z => rw [Bool.eq_iff_iff, decide_eq_true_eq, decide_eq_true_eq]; exact h z
  · rfl
theorem isRowD_congr {a b : List Str} (h : ∀ x, x ∈ a ↔ x ∈ b) (z : Str) (d : PyData) : isRowD z a d = isRowD z b d := by
  cases d with
  | tuple ds =>
    show (if z ∈ kindsL then isKd z a ds else ds.all (inFs a)) = if z ∈ kindsL then isKd z b ds else ds.all (inFs b)
    have e : isKd z a ds = isKd z b ds := by
      unfold isKd
      rw [inFs_congr h]
    rw [inFs_congr h, e]
  | _ => rfl
theorem allStr {fs : List Str} : ∀ {ds : List PyData}, ds.all (inFs fs) = true → ∃ zs : List Str, ds = zs.map PyData.str
  | [], _ => ⟨[], rfl⟩
  | d :: ds, h => by
    rw [List.all_cons, Bool.and_eq_true] at h
    obtain ⟨zs, rfl⟩ := allStr h.2
    cases d with
    | str z => exact ⟨z :: zs, rfl⟩
    | _ => exact absurd h.1 Bool.false_ne_true
theorem rowD_of {z : Str} {fs : List Str} {d : PyData} (h : isRowD z fs d = true) (ln : LnR d) : RowD d := by
  cases d with
  | tuple ds =>
    obtain ⟨l1, l2⟩ := ln ds rfl
    have h : (if z ∈ kindsL then isKd z fs ds else ds.all (inFs fs)) = true := h
    by_cases hz : z ∈ kindsL
    · rw [if_pos hz] at h
      unfold isKd at h
      split at h
      · next xs k ys _ =>
        rw [Bool.and_eq_true, List.all_append, Bool.and_eq_true] at h
        obtain ⟨as, rfl⟩ := allStr h.2.1
        obtain ⟨bs, rfl⟩ := allStr h.2.2
        cases k with
        | str k =>
          have la := l2 (.tuple (as.map .str)) (by simp) _ rfl
          have lb := l2 (.tuple (bs.map .str)) (by simp) _ rfl
          rw [List.length_map] at la lb
          exact .inr ⟨as, k, bs, by omega, by omega, rfl⟩
        | _ => exact absurd h.1 Bool.false_ne_true
      · cases h
    · rw [if_neg hz] at h
      obtain ⟨zs, rfl⟩ := allStr h
      rw [List.length_map] at l1
      exact .inl ⟨zs, by omega, rfl⟩
  | _ => cases h
theorem BookAt.kpO {K : PySem.W.Frag} {BK PC : Addr} {H H' : Hp} {b o C dx : Addr} {f : Pr → Bool} {fs : List (Str × (Pr → Bool))} (h : BookAt K BK PC H b f fs) (k : Kp [o] H H') (ho : H o = some (.ins C dx [])) : BookAt K BK PC H' b f fs := by
  obtain ⟨dxb, ko, d, kvs, hb, hp, hd, hf, fl, nd⟩ := h
  have pk : ∀ {x g}, PrAt K PC H x g → PrAt K PC H' x g := fun {x g} hx => hx.kpN k (noSq1 ho) (not1 fun z => by
    obtain ⟨_, _, _, e, _⟩ := hx
    rw [z, ho] at e; cases e)
  refine ⟨dxb, ko, d, kvs, k _ _ (not1 fun z => by rw [z, ho] at hb; cases hb) hb, pk hp, k _ _ (not1 fun z => by rw [z, ho] at hd; cases hd) hd, ⟨hf.1, fun i n g e => ?_⟩, fl, nd⟩
  obtain ⟨q, a, b⟩ := hf.2 i n g e
  exact ⟨q, a, pk b⟩
section
variable {P : Program} {w : World} {K : PySem.W.Frag} {mg : Str → Option Value} {base : Heap} {T_READS T_WRITES T_KINDS : Addr} {t1 t2 : Tok} {RP BK PC : Addr}
theorem ok_Recipe_init {f : Addr} {fd : FuncData} (F : Fun K "__init__" "Recipe.__init__" s_Recipe_init f fd) (T : BtP K mg T_READS T_WRITES T_KINDS t1 t2) (R : RpC K mg RP) (B : BkC K mg BK) {fX : Addr} {fdX : FuncData} (ME_Book_fences : Meth K BK "fences" fX) (bM_Book_fences : Binds K fdX ["self"] []) (G_Book_fences : FnOk P w K mg base CX0 1 fX fdX ["self"] (spFences K BK PC)) : FnOk P w K mg base CX0 4 f fd ["self", "source", "target"] (spRI K RP BK PC) := by
  refine F.ok sc_Recipe_init (fun vs H Q E h => ?_) (fun cdv A outer s H vs Q E hr h => ?_)
  · obtain ⟨_, _, _, _, _, _, _, _, rfl, _⟩ := h
    rfl
  · obtain ⟨o, dx, so, to, fS, fT, sS, sT, rfl, ho, hS, hT, nS, qEnd⟩ := h
    have hu := hu_of hr
    refine ⟨_, (pss_cons (ps_fld (pv 0) (pv 1) rfl)
      (pss_cons (ps_fld (pv 0) (pv 2) rfl)
      (pss_cons (ps_fld (pv 0) (pe_dc (own := [("kind", 3)]) (g := (gName 3)) (tt := tYes) rfl sc_Recipe_init.nd (pi_tup (pe_glob (v := .ref T_KINDS) rfl T.c_KINDS rfl)) (blkOk_by (N := ["self", "source", "target", "kind", "fence"]) (sc := defScope s_Recipe_init) (by decide +kernel)) (fun _ _ _ _ _ => (pg_name (i := 3) sc_Recipe_init.nd rfl (Or.inl rfl))) (fun _ _ _ _ _ => pts_nil) (fun _ _ _ _ _ => (pv 3)) (fun _ _ _ _ _ => (pe_tup (pa_cons (pe_tup pa_nil) (pa_cons (pv 3) (pa_cons (pe_tup pa_nil) pa_nil)))))) rfl)
      (pss_cons (ps_dput hu (pe_fld (pv 0) rfl) (pe_glob (v := .str ("return" : Str)) rfl T.c_RETURN ⟨_, rfl⟩) (pe_tup pa_nil) rfl)
      (pss_cons (ps_for PassesOwn.never rfl (pi_list (pe_meth0 (pv 1) B.cl ME_Book_fences G_Book_fences (hr.mono (by decide)) bM_Book_fences .nil pass0)) (pg_name (i := 4) sc_Recipe_init.nd rfl (Or.inl rfl)) (pss_one (ps_dput hu (pe_fld (pv 0) rfl) (pv 4) (pe_tup (pa_cons (pe_ifExp (pt_cmpR op_in_seq (pv 4) (pe_meth0 (pv 2) B.cl ME_Book_fences G_Book_fences (hr.mono (by decide)) bM_Book_fences .nil pass0) (by rfl)) (pv 4) (pe_glob (v := .str ("full" : Str)) rfl T.c_FULL ⟨_, rfl⟩)) pa_nil)) rfl)))
      (pss_one (ps_fld (pv 0) (pe_callB (id := "sorted") (call_sortedD (by first | exact hcalm | rfl)) (by rfl) T.b_sorted (by decide +kernel) (pa_cons (pe_fld (pv 0) rfl) pa_nil)) rfl))))))), ?_⟩
    try simp (maxSteps := 1000000) only [tSeq, tIfS, tTest, tOp, tUn, tCB, tCons, tNil, tVar, tC, rI0, rI, rU, rEq, rNe, tRet, tRetN, tAsg, gName, gSub, tBM, tBM0, tNext, tB, tNot, tAnd, tOr, tIf, tCall, tDrop, tBreak, tCont, L2.start, tDGet, sDPut, tTup, tLst, tDNewK, tRevL, rCat, rAppend, rPop, rSetL, tAndV, tOrV, tNotV, tSl, tPart, tNoPart, tM1, gTup, gCons, gNil, cxK, cxnK, List.map_cons, List.map_nil, List.length_cons, List.length_nil, List.replicate, List.cons_append, List.nil_append, List.append_nil, List.set_cons_zero, List.set_cons_succ, List.getElem?_cons_zero, List.getElem?_cons_succ, Option.some.injEq, V.ref.injEq, V.int.injEq, V.str.injEq, V.bl.injEq, V.ty.injEq, exists_eq_left', exists_eq_left, exists_and_left, List.cons.injEq, and_true, true_and, sc_ii, sc_ss, sc_bb, sc_ni, sc_in, sc_is, sc_si, sc_nn, decide_true, decide_false, reduceCtorEq, Bool.false_eq_true, if_true, if_false, ite_true, ite_false, exists_const, eq_self, false_and, and_false, or_false, false_or, exists_false, Evl.rLenS, rSum, wipe, tYes, exists_eq, exists_eq', rIxL, rIxT, rIxS, exists_and_right, gt_iff_lt, not_true_eq_false, not_false_eq_true, Bool.not_true, Bool.not_false, decide_eq_true_eq, Nat.reduceSub, Nat.reduceAdd, List.append_assoc, tChain, tDIn, tDNotIn, sDDel, tAug, ipI, sFld]
    refine ⟨RP, dx, [], ho, R.cl, R.n1, by decide, RP, dx, _, upd_same, R.cl, R.n2, (show (1 : Nat) < 1000 by decide), ?_⟩
    have e2 : putF (Str.ofString "target") (V.ref to) (putF (Str.ofString "source") (V.ref so) []) = [(("source" : Str), V.ref so), (("target" : Str), V.ref to)] := rfl
    rw [e2]
    have kG : Kp [o] H (upd (upd H o (.ins RP dx (putF (Str.ofString "source") (V.ref so) []))) o (.ins RP dx [(("source" : Str), V.ref so), (("target" : Str), V.ref to)])) := ((Kp.refl [o] H).put (by simp)).put (by simp)
    have hGo : (upd (upd H o (.ins RP dx (putF (Str.ofString "source") (V.ref so) []))) o (.ins RP dx [(("source" : Str), V.ref so), (("target" : Str), V.ref to)])) o = some (.ins RP dx [(("source" : Str), V.ref so), (("target" : Str), V.ref to)]) := upd_same
    generalize (upd (upd H o (.ins RP dx (putF (Str.ofString "source") (V.ref so) []))) o (.ins RP dx [(("source" : Str), V.ref so), (("target" : Str), V.ref to)])) = G at kG hGo ⊢
    refine ⟨T_KINDS, rfl, ⟨_, T.kk G⟩, fun D nD => dc_tup (xs := kindsL.map V.str) (fun i H' => RwAt H' D (kindsL.take i) (plainF (sT.map (·.1))) ∧ Kp [] G H') ⟨⟨[], upd_same, rfl, List.nodup_nil, fun z hz => nomatch hz⟩, Kp.new nD⟩ (fun i H' _ _ => T.kk H') ?_ ?_⟩
    · rintro i x H1 hx ⟨hr1, k1⟩
      rw [List.getElem?_map] at hx
      obtain ⟨z, ez, rfl⟩ : ∃ z, kindsL[i]? = some z ∧ V.str z = x := by
        cases e : kindsL[i]? with
        | none => rw [e] at hx; cases hx
        | some z => rw [e] at hx; exact ⟨z, rfl, Option.some.inj hx⟩
      have zk : z ∈ kindsL := List.mem_of_getElem? ez
      try simp (maxSteps := 1000000) only [tSeq, tIfS, tTest, tOp, tUn, tCB, tCons, tNil, tVar, tC, rI0, rI, rU, rEq, rNe, tRet, tRetN, tAsg, gName, gSub, tBM, tBM0, tNext, tB, tNot, tAnd, tOr, tIf, tCall, tDrop, tBreak, tCont, L2.start, tDGet, sDPut, tTup, tLst, tDNewK, tRevL, rCat, rAppend, rPop, rSetL, tAndV, tOrV, tNotV, tSl, tPart, tNoPart, tM1, gTup, gCons, gNil, cxK, cxnK, List.map_cons, List.map_nil, List.length_cons, List.length_nil, List.replicate, List.cons_append, List.nil_append, List.append_nil, List.set_cons_zero, List.set_cons_succ, List.getElem?_cons_zero, List.getElem?_cons_succ, Option.some.injEq, V.ref.injEq, V.int.injEq, V.str.injEq, V.bl.injEq, V.ty.injEq, exists_eq_left', exists_eq_left, exists_and_left, List.cons.injEq, and_true, true_and, sc_ii, sc_ss, sc_bb, sc_ni, sc_in, sc_is, sc_si, sc_nn, decide_true, decide_false, reduceCtorEq, Bool.false_eq_true, if_true, if_false, ite_true, ite_false, exists_const, eq_self, false_and, and_false, or_false, false_or, exists_false, Evl.rLenS, rSum, wipe, tYes, exists_eq, exists_eq', rIxL, rIxT, rIxS, exists_and_right, gt_iff_lt, not_true_eq_false, not_false_eq_true, Bool.not_true, Bool.not_false, decide_eq_true_eq, Nat.reduceSub, Nat.reduceAdd, List.append_assoc, tChain, tDIn, tDNotIn, sDDel, tAug, ipI]
      refine ⟨small (by decide), fun p1 n1 => ⟨small (by decide), fun p2 n2 => ⟨small (by decide), fun p3 n3 => ?_⟩⟩⟩
      have k2 : Kp [] H1 (upd (upd (upd H1 p1 (.tup [])) p2 (.tup [])) p3 (.tup [.ref p1, .str z, .ref p2])) := ((Kp.new n1).trans (Kp.new n2)).trans (Kp.new n3)
      have e3 : (upd (upd (upd H1 p1 (.tup [])) p2 (.tup [])) p3 (.tup [.ref p1, .str z, .ref p2])) p3 = some (.tup [.ref p1, .str z, .ref p2]) := upd_same
      have e2 : (upd (upd (upd H1 p1 (.tup [])) p2 (.tup [])) p3 (.tup [.ref p1, .str z, .ref p2])) p2 = some (.tup []) := (Kp.new (S := []) n3) _ _ not0 upd_same
      have e1 : (upd (upd (upd H1 p1 (.tup [])) p2 (.tup [])) p3 (.tup [.ref p1, .str z, .ref p2])) p1 = some (.tup []) := ((Kp.new (S := []) n2).trans (Kp.new n3)) _ _ not0 upd_same
      generalize (upd (upd (upd H1 p1 (.tup [])) p2 (.tup [])) p3 (.tup [.ref p1, .str z, .ref p2])) = H2 at k2 e1 e2 e3 ⊢
      obtain ⟨kvs, hk, _, _, _⟩ := id (hr1.kp k2)
      have nz : z ∉ kindsL.take i := fun hm => by
        have nd : kindsL.Nodup := by decide +kernel
        obtain ⟨j, ej⟩ := List.getElem?_of_mem hm
        have jl : j < i := by
          have := (List.getElem?_eq_some_iff.mp ej).1
          rw [List.length_take] at this
          omega
        rw [List.getElem?_take, if_pos jl] at ej
        have := (List.getElem?_inj (List.getElem?_eq_some_iff.mp ej).1 nd).mp (ej.trans ez.symm)
        omega
      have dz : Dq H2 (.ref p3) (plainF (sT.map (·.1)) z) := by
        unfold plainF
        rw [if_pos zk]
        exact .tup e3 (.cons (.tup e1 .nil) (.cons (.str z) (.cons (.tup e2 .nil) .nil)))
      have add := (hr1.kp k2).add hk nz dz
      refine ⟨kvs, Sum.inr z, rfl, hk, ?_, ?_, (k1.trans k2).wr nD⟩
      · rw [(hr1.kp k2).len hk, List.length_take]
        exact smallL (show min i 5 ≤ _ by omega)
      · rw [take_snocS ez]
        exact add
    · rintro H1 ⟨hr1, k1⟩
      rw [List.length_map, List.take_of_length_le (Nat.le_refl _)] at hr1
      have ho1 := k1 _ _ not0 hGo
      refine ⟨RP, dx, _, ho1, R.cl, R.n3, (show (2 : Nat) < 1000 by decide), small (by decide), fun p np => ?_⟩
      have e3 : putF (Str.ofString "_rows") (V.ref D) [(("source" : Str), V.ref so), (("target" : Str), V.ref to)] = [(("source" : Str), V.ref so), (("target" : Str), V.ref to), (("_rows" : Str), V.ref D)] := rfl
      rw [e3] at np ⊢
      have nDH : H D = none := by
        cases e : H D with
        | none => rfl
        | some u =>
          by_cases z : D = o
          · rw [z, hGo] at nD; cases nD
          · have y := kG D u (not1 z) e
            rw [nD] at y; cases y
      obtain ⟨kvs, hk1, _, _, _⟩ := id hr1
      have Do : D ≠ o := fun z => by rw [z, hGo] at nD; cases nD
      have kO : Kp [o] H1 (upd H1 o (.ins RP dx [(("source" : Str), V.ref so), (("target" : Str), V.ref to), (("_rows" : Str), V.ref D)])) := (Kp.refl [o] H1).put (by simp)
      have hr2 := hr1.kpN kO (noSq1 ho1) (not1 Do)
      have ho2 : (upd H1 o (.ins RP dx [(("source" : Str), V.ref so), (("target" : Str), V.ref to), (("_rows" : Str), V.ref D)])) o = some (.ins RP dx [(("source" : Str), V.ref so), (("target" : Str), V.ref to), (("_rows" : Str), V.ref D)]) := upd_same
      have kH2 := (kG.trans k1.of0).trans kO
      generalize (upd H1 o (.ins RP dx [(("source" : Str), V.ref so), (("target" : Str), V.ref to), (("_rows" : Str), V.ref D)])) = H2 at np hr2 ho2 kH2 ⊢
      have kp : Kp [] H2 (upd H2 p (.tup [])) := Kp.new np
      have hp3 : (upd H2 p (.tup [])) p = some (.tup []) := upd_same
      generalize (upd H2 p (.tup [])) = H3 at kp hp3 ⊢
      have hr3 := hr2.kp kp
      have ho3 := kp _ _ not0 ho2
      obtain ⟨kvs3, hk3, _, _, _⟩ := id hr3
      have kl3 : kvs3.length < sizeLine := by
        rw [hr3.len hk3]
        exact smallL (show 5 ≤ _ by omega)
      refine ⟨.ref o, rfl, o, RP, dx, _, .ref D, rfl, ho3, R.cl, R.n3, rfl, D, rfl, _, DPut.k (k := Sum.inr "return") hk3 kl3, ?_⟩
      have nret : ("return" : Str) ∉ kindsL := by decide +kernel
      have dret : Dq H3 (.ref p) (plainF (sT.map (·.1)) ("return" : Str)) := by
        unfold plainF
        rw [if_neg nret, if_pos rfl]
        exact .tup hp3 .nil
      have hr4 := hr3.add hk3 nret dret
      have ho4 : (upd H3 D (.dK (putK kvs3 (Sum.inr "return") (.ref p)))) o = some (.ins RP dx [(("source" : Str), V.ref so), (("target" : Str), V.ref to), (("_rows" : Str), V.ref D)]) := by rw [upd_ne Do.symm]; exact ho3
      have k4 : Kp [o] H (upd H3 D (.dK (putK kvs3 (Sum.inr "return") (.ref p)))) := (kH2.trans kp.of0).wr nDH
      generalize (upd H3 D (.dK (putK kvs3 (Sum.inr "return") (.ref p)))) = H4 at hr4 ho4 k4 ⊢
      refine forL_src34 ?_
      try simp (maxSteps := 1000000) only [tSeq, tIfS, tTest, tOp, tUn, tCB, tCons, tNil, tVar, tC, rI0, rI, rU, rEq, rNe, tRet, tRetN, tAsg, gName, gSub, tBM, tBM0, tNext, tB, tNot, tAnd, tOr, tIf, tCall, tDrop, tBreak, tCont, L2.start, tDGet, sDPut, tTup, tLst, tDNewK, tRevL, rCat, rAppend, rPop, rSetL, tAndV, tOrV, tNotV, tSl, tPart, tNoPart, tM1, gTup, gCons, gNil, cxK, cxnK, List.map_cons, List.map_nil, List.length_cons, List.length_nil, List.replicate, List.cons_append, List.nil_append, List.append_nil, List.set_cons_zero, List.set_cons_succ, List.getElem?_cons_zero, List.getElem?_cons_succ, Option.some.injEq, V.ref.injEq, V.int.injEq, V.str.injEq, V.bl.injEq, V.ty.injEq, exists_eq_left', exists_eq_left, exists_and_left, List.cons.injEq, and_true, true_and, sc_ii, sc_ss, sc_bb, sc_ni, sc_in, sc_is, sc_si, sc_nn, decide_true, decide_false, reduceCtorEq, Bool.false_eq_true, if_true, if_false, ite_true, ite_false, exists_const, eq_self, false_and, and_false, or_false, false_or, exists_false, Evl.rLenS, rSum, wipe, tYes, exists_eq, exists_eq', rIxL, rIxT, rIxS, exists_and_right, gt_iff_lt, not_true_eq_false, not_false_eq_true, Bool.not_true, Bool.not_false, decide_eq_true_eq, Nat.reduceSub, Nat.reduceAdd, List.append_assoc, tChain, tDIn, tDNotIn, sDDel, tAug, ipI, tMeth]
      have bS := hS.kpO k4 ho
      obtain ⟨dxS, koS, dS, kvS, hoS, _, _, _, lS, ndS⟩ := id bS
      refine ⟨dxS, _, hoS, rfl, so, fS, sS, rfl, bS, fun ys q perm srt nq => ?_⟩
      have k5 : Kp [] H4 (upd H4 q (.lst (ys.map V.str))) := Kp.new nq
      have hq5 : (upd H4 q (.lst (ys.map V.str))) q = some (.lst (ys.map V.str)) := upd_same
      generalize (upd H4 q (.lst (ys.map V.str))) = H5 at k5 hq5 ⊢
      have nq5 : ∀ {H' : Hp}, Kp [] H5 H' → H' q = some (.lst (ys.map V.str)) := fun k => k _ _ not0 hq5
      have yl : ys.length ≤ 3 := by rw [perm.length_eq, List.length_map]; exact lS
      refine forLC34 (fun i σ H' => ∃ c, σ = [some (V.ref o), some (V.ref so), some (V.ref to), none, c] ∧ RwAt H' D (retK ++ ys.take i) (plainF (sT.map (·.1))) ∧ H' o = some (.ins RP dx [(("source" : Str), V.ref so), (("target" : Str), V.ref to), (("_rows" : Str), V.ref D)]) ∧ Kp [o] H H' ∧ H' q = some (.lst (ys.map V.str))) (sq_l hq5) ⟨none, rfl, by rw [List.take_zero, List.append_nil]; exact hr4.kp k5, k5 _ _ not0 ho4, k4.trans k5.of0, hq5⟩ (fun j σ H7 _ h => by obtain ⟨_, _, _, _, _, h⟩ := h; exact sq_l h) (fun j x σ H6 hx h => ?_) fun σ H6 h => ?_
      · obtain ⟨c, rfl, hr6, ho6, k6, hq6⟩ := h
        rw [List.getElem?_map] at hx
        obtain ⟨z, ez, rfl⟩ : ∃ z, ys[j]? = some z ∧ V.str z = x := by
          cases e : ys[j]? with
          | none => rw [e] at hx; cases hx
          | some z => rw [e] at hx; exact ⟨z, rfl, Option.some.inj hx⟩
        have zm : z ∈ sS.map (·.1) := perm.mem_iff.mp (List.mem_of_getElem? ez)
        have bT := hT.kpO k6 ho
        obtain ⟨dxT, koT, dT, kvT, hoT, _, _, _, _, ndT⟩ := id bT
        have Dq' : D ≠ q := fun e => by
          obtain ⟨_, a, _⟩ := hr6
          rw [e, hq6] at a; cases a
        have nz : z ∉ retK ++ ys.take j := fun hm => by
          rcases List.mem_append.mp hm with hm | hm
          · obtain ⟨x, hx, e⟩ := List.mem_map.mp zm
            exact nS x hx (e ▸ hm)
          · obtain ⟨i, ei⟩ := List.getElem?_of_mem hm
            have il : i < j := by
              have := (List.getElem?_eq_some_iff.mp ei).1
              rw [List.length_take] at this
              omega
            rw [List.getElem?_take, if_pos il] at ei
            have ndy : ys.Nodup := perm.nodup_iff.mpr ndS
            have := (List.getElem?_inj (List.getElem?_eq_some_iff.mp ei).1 ndy).mp (ei.trans ez.symm)
            omega
        have fin : ∀ (y : Str) (H7 : Hp) (p2 : Addr), Kp [] H6 H7 → H7 p2 = none → (if z ∈ sT.map (·.1) then z else ("full" : Str)) = y → (upd H7 p2 (.tup [.str y])) o = some (.ins RP dx [(("source" : Str), V.ref so), (("target" : Str), V.ref to), (("_rows" : Str), V.ref D)]) ∧ ∃ kvs, (upd H7 p2 (.tup [.str y])) D = some (.dK kvs) ∧ kvs.length < sizeLine ∧
            (RwAt (upd (upd H7 p2 (.tup [.str y])) D (.dK (putK kvs (Sum.inr z) (.ref p2)))) D (retK ++ ys.take (j + 1)) (plainF (sT.map (·.1))) ∧ (upd (upd H7 p2 (.tup [.str y])) D (.dK (putK kvs (Sum.inr z) (.ref p2)))) o = some (.ins RP dx [(("source" : Str), V.ref so), (("target" : Str), V.ref to), (("_rows" : Str), V.ref D)]) ∧ Kp [o] H (upd (upd H7 p2 (.tup [.str y])) D (.dK (putK kvs (Sum.inr z) (.ref p2)))) ∧ (upd (upd H7 p2 (.tup [.str y])) D (.dK (putK kvs (Sum.inr z) (.ref p2)))) q = some (.lst (ys.map V.str))) := fun y H7 p2 k7 n2 ey => by
          have k8 : Kp [] H6 (upd H7 p2 (.tup [.str y])) := k7.trans (Kp.new n2)
          have h8 : (upd H7 p2 (.tup [.str y])) p2 = some (.tup [.str y]) := upd_same
          generalize (upd H7 p2 (.tup [.str y])) = H8 at k8 h8 ⊢
          have ho8 := k8 _ _ not0 ho6
          have hr8 := hr6.kp k8
          obtain ⟨kvs, hk8, _, _, _⟩ := id hr8
          refine ⟨ho8, kvs, hk8, ?_, ?_, ?_, (k6.trans k8.of0).wr nDH, ?_⟩
          · rw [hr8.len hk8, List.length_append, List.length_take]
            exact smallL (show 6 + min j ys.length ≤ _ by omega)
          · have dz : Dq H8 (.ref p2) (plainF (sT.map (·.1)) z) := by
              unfold plainF
              have n1 : z ∉ kindsL := fun h => nz (List.mem_append_left _ (List.mem_append_left _ h))
              have n2 : z ≠ "return" := fun h => nz (List.mem_append_left _ (List.mem_append_right _ (by rw [h]; exact List.mem_singleton.mpr rfl)))
              rw [if_neg n1, if_neg n2, ey]
              exact .tup h8 (.cons (.str y) .nil)
            have := hr8.add hk8 nz dz
            rw [List.append_assoc, ← take_snocS ez] at this
            exact this
          · rw [upd_ne Do.symm]; exact ho8
          · rw [upd_ne Dq'.symm]; exact k8 _ _ not0 hq6
        try simp (maxSteps := 1000000) only [tSeq, tIfS, tTest, tOp, tUn, tCB, tCons, tNil, tVar, tC, rI0, rI, rU, rEq, rNe, tRet, tRetN, tAsg, gName, gSub, tBM, tBM0, tNext, tB, tNot, tAnd, tOr, tIf, tCall, tDrop, tBreak, tCont, L2.start, tDGet, sDPut, tTup, tLst, tDNewK, tRevL, rCat, rAppend, rPop, rSetL, tAndV, tOrV, tNotV, tSl, tPart, tNoPart, tM1, gTup, gCons, gNil, cxK, cxnK, List.map_cons, List.map_nil, List.length_cons, List.length_nil, List.replicate, List.cons_append, List.nil_append, List.append_nil, List.set_cons_zero, List.set_cons_succ, List.getElem?_cons_zero, List.getElem?_cons_succ, Option.some.injEq, V.ref.injEq, V.int.injEq, V.str.injEq, V.bl.injEq, V.ty.injEq, exists_eq_left', exists_eq_left, exists_and_left, List.cons.injEq, and_true, true_and, sc_ii, sc_ss, sc_bb, sc_ni, sc_in, sc_is, sc_si, sc_nn, decide_true, decide_false, reduceCtorEq, Bool.false_eq_true, if_true, if_false, ite_true, ite_false, exists_const, eq_self, false_and, and_false, or_false, false_or, exists_false, Evl.rLenS, rSum, wipe, tYes, exists_eq, exists_eq', rIxL, rIxT, rIxS, exists_and_right, gt_iff_lt, not_true_eq_false, not_false_eq_true, Bool.not_true, Bool.not_false, decide_eq_true_eq, Nat.reduceSub, Nat.reduceAdd, List.append_assoc, tChain, tDIn, tDNotIn, sDDel, tAug, ipI, tMeth]
        refine ⟨dxT, _, hoT, rfl, to, fT, sT, rfl, bT, fun ws t permT srtT nt => ?_⟩
        have kt : Kp [] H6 (upd H6 t (.lst (ws.map V.str))) := Kp.new nt
        refine ⟨t, _, rfl, .inl (sq_l upd_same), rfl, flat_map _, _, rfl, ?_⟩
        rw [if_neg Bool.false_ne_true, in_strs]
        unfold inW
        by_cases hz : z ∈ ws
        · rw [decide_eq_true hz, if_pos rfl]
          refine ⟨small (by decide), fun p2 n2 => ?_⟩
          obtain ⟨f1, kvs, f2, f3, f4⟩ := fin z _ p2 kt n2 (by rw [if_pos (permT.mem_iff.mp hz)])
          exact ⟨.ref o, rfl, o, RP, dx, _, .ref D, rfl, f1, R.cl, R.n3, rfl, D, rfl, _, DPut.k (k := Sum.inr z) f2 f3, f4⟩
        · rw [decide_eq_false hz, if_neg Bool.false_ne_true]
          refine ⟨small (by decide), fun p2 n2 => ?_⟩
          obtain ⟨f1, kvs, f2, f3, f4⟩ := fin "full" _ p2 kt n2 (by rw [if_neg fun h => hz (permT.mem_iff.mpr h)])
          exact ⟨.ref o, rfl, o, RP, dx, _, .ref D, rfl, f1, R.cl, R.n3, rfl, D, rfl, _, DPut.k (k := Sum.inr z) f2 f3, f4⟩
      · obtain ⟨c, rfl, hr6, ho6, k6, hq6⟩ := h
        rw [List.length_map, List.take_of_length_le (Nat.le_refl _)] at hr6
        obtain ⟨kvs6, hk6, km6, nd6, _⟩ := id hr6
        try simp (maxSteps := 1000000) only [tSeq, tIfS, tTest, tOp, tUn, tCB, tCons, tNil, tVar, tC, rI0, rI, rU, rEq, rNe, tRet, tRetN, tAsg, gName, gSub, tBM, tBM0, tNext, tB, tNot, tAnd, tOr, tIf, tCall, tDrop, tBreak, tCont, L2.start, tDGet, sDPut, tTup, tLst, tDNewK, tRevL, rCat, rAppend, rPop, rSetL, tAndV, tOrV, tNotV, tSl, tPart, tNoPart, tM1, gTup, gCons, gNil, cxK, cxnK, List.map_cons, List.map_nil, List.length_cons, List.length_nil, List.replicate, List.cons_append, List.nil_append, List.append_nil, List.set_cons_zero, List.set_cons_succ, List.getElem?_cons_zero, List.getElem?_cons_succ, Option.some.injEq, V.ref.injEq, V.int.injEq, V.str.injEq, V.bl.injEq, V.ty.injEq, exists_eq_left', exists_eq_left, exists_and_left, List.cons.injEq, and_true, true_and, sc_ii, sc_ss, sc_bb, sc_ni, sc_in, sc_is, sc_si, sc_nn, decide_true, decide_false, reduceCtorEq, Bool.false_eq_true, if_true, if_false, ite_true, ite_false, exists_const, eq_self, false_and, and_false, or_false, false_or, exists_false, Evl.rLenS, rSum, wipe, tYes, exists_eq, exists_eq', rIxL, rIxT, rIxS, exists_and_right, gt_iff_lt, not_true_eq_false, not_false_eq_true, Bool.not_true, Bool.not_false, decide_eq_true_eq, Nat.reduceSub, Nat.reduceAdd, List.append_assoc, tChain, tDIn, tDNotIn, sDDel, tAug, ipI, sFld]
        have l9 : (retK ++ ys).length ≤ 9 := by rw [List.length_append]; show 6 + ys.length ≤ 9; omega
        refine ⟨.ref o, rfl, o, RP, dx, _, .ref D, rfl, ho6, R.cl, R.n3, rfl, D, rfl, kvs6, .inl hk6, retK ++ ys, km6, by omega, fun zs p2 pz sz n2 => ?_⟩
        have op : o ≠ p2 := ne_of_none ho6 n2
        refine ⟨RP, dx, [(("source" : Str), V.ref so), (("target" : Str), V.ref to), (("_rows" : Str), V.ref D)], by rw [upd_ne op]; exact ho6, R.cl, R.n4, (show (3 : Nat) < 1000 by decide), ?_⟩
        have kn : Kp [] H6 (upd H6 p2 (.lst (zs.map V.str))) := Kp.new n2
        have hn7 : (upd H6 p2 (.lst (zs.map V.str))) p2 = some (.lst (zs.map V.str)) := upd_same
        have ho7 : (upd H6 p2 (.lst (zs.map V.str))) o = some (.ins RP dx [(("source" : Str), V.ref so), (("target" : Str), V.ref to), (("_rows" : Str), V.ref D)]) := kn _ _ not0 ho6
        generalize (upd H6 p2 (.lst (zs.map V.str))) = H7 at kn hn7 ho7 ⊢
        have e7 : putF (Str.ofString "_names") (V.ref p2) [(("source" : Str), V.ref so), (("target" : Str), V.ref to), (("_rows" : Str), V.ref D)] = [(("source" : Str), V.ref so), (("target" : Str), V.ref to), (("_rows" : Str), V.ref D), (("_names" : Str), V.ref p2)] := rfl
        rw [e7]
        have kz : Kp [o] H7 (upd H7 o (.ins RP dx [(("source" : Str), V.ref so), (("target" : Str), V.ref to), (("_rows" : Str), V.ref D), (("_names" : Str), V.ref p2)])) := (Kp.refl [o] H7).put (by simp)
        refine qEnd D zs _ nDH ⟨dx, p2, retK ++ ys, upd_same, ?_, (hr6.kp kn).kpN kz (noSq1 ho7) (not1 Do), pz, by rw [pz.length_eq]; omega⟩ (pz.trans (perm.append_left retK)) sz ((k6.trans kn.of0).trans kz)
        rw [upd_ne op.symm]; exact hn7
theorem ok_Recipe_iter {f : Addr} {fd : FuncData} (F : Fun K "__iter__" "Recipe.__iter__" s_Recipe_iter f fd) (T : BtP K mg T_READS T_WRITES T_KINDS t1 t2) (R : RpC K mg RP) : FnOk P w K mg base CX0 1 f fd ["self"] (spIterR RP) := by
  refine F.ok sc_Recipe_iter (fun vs H Q E h => ?_) (fun cdv A outer s H vs Q E hr h => ?_)
  · obtain ⟨_, _, _, _, _, _, rfl, _⟩ := h
    rfl
  · obtain ⟨o, d, so, to, zs, f, rfl, ⟨dx, nl, ns, ho, hl, hr, pm, z100⟩, q⟩ := h
    refine ⟨_, (pss_one (ps_ret (pe_callB (id := "iter") (r := rIter K) call_iterL (by rfl) T.b_iter (by decide +kernel) (pa_cons (pe_fld (pv 0) rfl) pa_nil)))), ?_⟩
    try simp (maxSteps := 1000000) only [tSeq, tIfS, tTest, tOp, tUn, tCB, tCons, tNil, tVar, tC, rI0, rI, rU, rEq, rNe, tRet, tRetN, tAsg, gName, gSub, tBM, tBM0, tNext, tB, tNot, tAnd, tOr, tIf, tCall, tDrop, tBreak, tCont, L2.start, tDGet, sDPut, tTup, tLst, tDNewK, tRevL, rCat, rAppend, rPop, rSetL, tAndV, tOrV, tNotV, tSl, tPart, tNoPart, tM1, gTup, gCons, gNil, cxK, cxnK, List.map_cons, List.map_nil, List.length_cons, List.length_nil, List.replicate, List.cons_append, List.nil_append, List.append_nil, List.set_cons_zero, List.set_cons_succ, List.getElem?_cons_zero, List.getElem?_cons_succ, Option.some.injEq, V.ref.injEq, V.int.injEq, V.str.injEq, V.bl.injEq, V.ty.injEq, exists_eq_left', exists_eq_left, exists_and_left, List.cons.injEq, and_true, true_and, sc_ii, sc_ss, sc_bb, sc_ni, sc_in, sc_is, sc_si, sc_nn, decide_true, decide_false, reduceCtorEq, Bool.false_eq_true, if_true, if_false, ite_true, ite_false, exists_const, eq_self, false_and, and_false, or_false, false_or, exists_false, Evl.rLenS, rSum, wipe, tYes, exists_eq, exists_eq', rIxL, rIxT, rIxS, exists_and_right, gt_iff_lt, not_true_eq_false, not_false_eq_true, Bool.not_true, Bool.not_false, decide_eq_true_eq, Nat.reduceSub, Nat.reduceAdd, List.append_assoc, tChain, tDIn, tDNotIn, sDDel, tAug, ipI]
    exact ⟨.ref o, rfl, o, RP, dx, _, .ref nl, rfl, ho, R.cl, R.n4, rfl, nl, _, rfl, sq_l hl, fun it ni => q nl it hl ni⟩
theorem ok_Recipe_getitem {f : Addr} {fd : FuncData} (F : Fun K "__getitem__" "Recipe.__getitem__" s_Recipe_getitem f fd) (T : BtP K mg T_READS T_WRITES T_KINDS t1 t2) (R : RpC K mg RP) {NR fN : Addr} {fdN : FuncData} (E_NoRow : Er1 P w K mg base "NoRow" "name" NR fN fdN ["self", "name"] (fun _ => True)) : FnOk P w K mg base (L2.CX P w) 3 f fd ["self", "at"] (spGetR RP NR) := by
  refine F.okX sc_Recipe_getitem (fun vs H Q E h => ?_) (fun cdv A outer s H vs Q E hr h => ?_)
  · obtain ⟨_, _, _, _, _, _, _, rfl, _⟩ := h
    rfl
  · obtain ⟨o, d, so, to, zs, f, z, rfl, hR, qG, qN⟩ := h
    obtain ⟨dx, nl, ns, ho, hl, hrw, pm, z100⟩ := id hR
    have hu := hu_of hr
    refine ⟨_, (pss_cons (ps_if (pt_cmpR op_notIn_seq (pv 1) (pe_fld (pv 0) rfl) (by rfl)) (pss_one (ps_raise rfl (takes_of rfl rfl rfl rfl) (pmk_oex E_NoRow.ox E_NoRow.ic E_NoRow.ti E_NoRow.G (hr.mono (by decide)) E_NoRow.b .nil passL rfl E_NoRow.k (pa_cons (pv 1) pa_nil)))) pss_nil)
      (pss_one (ps_ret (pe_dget hu (pe_fld (pv 0) rfl) (pv 1) (fun _ _ => rfl))))), ?_⟩
    try simp (maxSteps := 1000000) only [tSeq, tIfS, tTest, tOp, tUn, tCB, tCons, tNil, tVar, tC, rI0, rI, rU, rEq, rNe, tRet, tRetN, tAsg, gName, gSub, tBM, tBM0, tNext, tB, tNot, tAnd, tOr, tIf, tCall, tDrop, tBreak, tCont, L2.start, tDGet, sDPut, tTup, tLst, tDNewK, tRevL, rCat, rAppend, rPop, rSetL, tAndV, tOrV, tNotV, tSl, tPart, tNoPart, tM1, gTup, gCons, gNil, cxK, cxnK, List.map_cons, List.map_nil, List.length_cons, List.length_nil, List.replicate, List.cons_append, List.nil_append, List.append_nil, List.set_cons_zero, List.set_cons_succ, List.getElem?_cons_zero, List.getElem?_cons_succ, Option.some.injEq, V.ref.injEq, V.int.injEq, V.str.injEq, V.bl.injEq, V.ty.injEq, exists_eq_left', exists_eq_left, exists_and_left, List.cons.injEq, and_true, true_and, sc_ii, sc_ss, sc_bb, sc_ni, sc_in, sc_is, sc_si, sc_nn, decide_true, decide_false, reduceCtorEq, Bool.false_eq_true, if_true, if_false, ite_true, ite_false, exists_const, eq_self, false_and, and_false, or_false, false_or, exists_false, Evl.rLenS, rSum, wipe, tYes, exists_eq, exists_eq', rIxL, rIxT, rIxS, exists_and_right, gt_iff_lt, not_true_eq_false, not_false_eq_true, Bool.not_true, Bool.not_false, decide_eq_true_eq, Nat.reduceSub, Nat.reduceAdd, List.append_assoc, tChain, tDIn, tDNotIn, sDDel, tAug, ipI, tFld]
    refine ⟨RP, dx, _, ho, R.cl, R.n4, .ref nl, rfl, nl, _, rfl, .inl (sq_l hl), rfl, flat_map _, _, rfl, ?_⟩
    rw [if_pos rfl, in_strs]
    unfold inW
    by_cases hz : z ∈ zs
    · rw [decide_eq_true hz, if_neg (by decide)]
      obtain ⟨kvs, hd, _, _, hg⟩ := id hrw
      obtain ⟨v, ev, hv⟩ := hg z (pm.mem_iff.mp hz)
      exact ⟨RP, dx, _, ho, R.cl, R.n3, .ref d, rfl, d, rfl, v, .inl ⟨kvs, Sum.inr z, .inl hd, rfl, ev.symm⟩, qG hz v hv⟩
    · rw [decide_eq_false hz, if_pos (by decide)]
      exact ⟨.str z, rfl, err1_made (P := fun _ => True) True.intro fun e H' ne he k => qN hz e H' ne he k⟩
theorem ok_Recipe_setitem {f : Addr} {fd : FuncData} (F : Fun K "__setitem__" "Recipe.__setitem__" s_Recipe_setitem f fd) (T : BtP K mg T_READS T_WRITES T_KINDS t1 t2) (R : RpC K mg RP) (B : BkC K mg BK) {NR fN BR fB : Addr} {fdN fdB : FuncData} (E_NoRow : Er1 P w K mg base "NoRow" "name" NR fN fdN ["self", "name"] (fun _ => True)) (E_BadRow : Er1 P w K mg base "BadRow" "name" BR fB fdB ["self", "name"] (fun _ => True))
  {fX : Addr} {fdX : FuncData} (ME_Book_fences : Meth K BK "fences" fX) (bM_Book_fences : Binds K fdX ["self"] []) (G_Book_fences : FnOk P w K mg base CX0 1 fX fdX ["self"] (spFences K BK PC)) {fa : Addr} {fda : FuncData} (D_is_row : Df K mg "is_row" s_is_row ["name", "row", "fences"] fa fda) (G_is_row : FnOk P w K mg base CX0 2 fa fda ["name", "row", "fences"] (spIsRow K)) {fb : Addr} {fdb : FuncData} (D_tidy_row : Df K mg "tidy_row" s_tidy_row ["row"] fb fdb) (G_tidy_row : FnOk P w K mg base CX0 2 fb fdb ["row"] spTidyR) : FnOk P w K mg base (L2.CX P w) 4 f fd ["self", "at", "worth"] (spSetR K RP BK PC NR BR) := by
  refine F.okX sc_Recipe_setitem (fun vs H Q E h => ?_) (fun cdv A outer s H vs Q E hr h => ?_)
  · obtain ⟨_, _, _, _, _, _, _, _, _, _, _, rfl, _⟩ := h
    rfl
  · obtain ⟨o, d, so, to, fT, sT, zs, f, z, v, e, rfl, hR, hT, sok, zok, hv, she, lne, qN, qB, qG⟩ := h
    obtain ⟨dx, nl, ns, ho, hl, hrw, pm, z100⟩ := id hR
    have hu := hu_of hr
    refine ⟨_, (pss_cons (ps_if (pt_cmpR op_notIn_seq (pv 1) (pe_fld (pv 0) rfl) (by rfl)) (pss_one (ps_raise rfl (takes_of rfl rfl rfl rfl) (pmk_oex E_NoRow.ox E_NoRow.ic E_NoRow.ti E_NoRow.G (hr.mono (by decide)) E_NoRow.b .nil passL rfl E_NoRow.k (pa_cons (pv 1) pa_nil)))) pss_nil)
      (pss_cons (ps_if (pt_not (pt_val (pe_call G_is_row (hr.mono (by decide)) rfl D_is_row.g D_is_row.F.kp D_is_row.b .nil pass0 (pa_cons (pv 1) (pa_cons (pv 2) (pa_cons (pe_meth0 (pe_fld (pv 0) rfl) B.cl ME_Book_fences G_Book_fences (hr.mono (by decide)) bM_Book_fences .nil pass0) pa_nil)))))) (pss_one (ps_raise rfl (takes_of rfl rfl rfl rfl) (pmk_oex E_BadRow.ox E_BadRow.ic E_BadRow.ti E_BadRow.G (hr.mono (by decide)) E_BadRow.b .nil passL rfl E_BadRow.k (pa_cons (pv 1) pa_nil)))) pss_nil)
      (pss_one (ps_dput hu (pe_fld (pv 0) rfl) (pv 1) (pe_call G_tidy_row (hr.mono (by decide)) rfl D_tidy_row.g D_tidy_row.F.kp D_tidy_row.b .nil pass0 (pa_cons (pv 2) pa_nil)) rfl)))), ?_⟩
    try simp (maxSteps := 1000000) only [tSeq, tIfS, tTest, tOp, tUn, tCB, tCons, tNil, tVar, tC, rI0, rI, rU, rEq, rNe, tRet, tRetN, tAsg, gName, gSub, tBM, tBM0, tNext, tB, tNot, tAnd, tOr, tIf, tCall, tDrop, tBreak, tCont, L2.start, tDGet, sDPut, tTup, tLst, tDNewK, tRevL, rCat, rAppend, rPop, rSetL, tAndV, tOrV, tNotV, tSl, tPart, tNoPart, tM1, gTup, gCons, gNil, cxK, cxnK, List.map_cons, List.map_nil, List.length_cons, List.length_nil, List.replicate, List.cons_append, List.nil_append, List.append_nil, List.set_cons_zero, List.set_cons_succ, List.getElem?_cons_zero, List.getElem?_cons_succ, Option.some.injEq, V.ref.injEq, V.int.injEq, V.str.injEq, V.bl.injEq, V.ty.injEq, exists_eq_left', exists_eq_left, exists_and_left, List.cons.injEq, and_true, true_and, sc_ii, sc_ss, sc_bb, sc_ni, sc_in, sc_is, sc_si, sc_nn, decide_true, decide_false, reduceCtorEq, Bool.false_eq_true, if_true, if_false, ite_true, ite_false, exists_const, eq_self, false_and, and_false, or_false, false_or, exists_false, Evl.rLenS, rSum, wipe, tYes, exists_eq, exists_eq', rIxL, rIxT, rIxS, exists_and_right, gt_iff_lt, not_true_eq_false, not_false_eq_true, Bool.not_true, Bool.not_false, decide_eq_true_eq, Nat.reduceSub, Nat.reduceAdd, List.append_assoc, tChain, tDIn, tDNotIn, sDDel, tAug, ipI, tFld]
    refine ⟨RP, dx, _, ho, R.cl, R.n4, .ref nl, rfl, nl, _, rfl, .inl (sq_l hl), rfl, flat_map _, _, rfl, ?_⟩
    rw [if_pos rfl, in_strs]
    unfold inW
    by_cases hz : z ∈ zs
    case neg =>
      rw [decide_eq_false hz, if_pos (by decide)]
      exact ⟨.str z, rfl, err1_made (P := fun _ => True) True.intro fun e H' ne he k => qN hz e H' ne he k⟩
    rw [decide_eq_true hz, if_neg (by decide)]
    try simp (maxSteps := 1000000) only [tSeq, tIfS, tTest, tOp, tUn, tCB, tCons, tNil, tVar, tC, rI0, rI, rU, rEq, rNe, tRet, tRetN, tAsg, gName, gSub, tBM, tBM0, tNext, tB, tNot, tAnd, tOr, tIf, tCall, tDrop, tBreak, tCont, L2.start, tDGet, sDPut, tTup, tLst, tDNewK, tRevL, rCat, rAppend, rPop, rSetL, tAndV, tOrV, tNotV, tSl, tPart, tNoPart, tM1, gTup, gCons, gNil, cxK, cxnK, List.map_cons, List.map_nil, List.length_cons, List.length_nil, List.replicate, List.cons_append, List.nil_append, List.append_nil, List.set_cons_zero, List.set_cons_succ, List.getElem?_cons_zero, List.getElem?_cons_succ, Option.some.injEq, V.ref.injEq, V.int.injEq, V.str.injEq, V.bl.injEq, V.ty.injEq, exists_eq_left', exists_eq_left, exists_and_left, List.cons.injEq, and_true, true_and, sc_ii, sc_ss, sc_bb, sc_ni, sc_in, sc_is, sc_si, sc_nn, decide_true, decide_false, reduceCtorEq, Bool.false_eq_true, if_true, if_false, ite_true, ite_false, exists_const, eq_self, false_and, and_false, or_false, false_or, exists_false, Evl.rLenS, rSum, wipe, tYes, exists_eq, exists_eq', rIxL, rIxT, rIxS, exists_and_right, gt_iff_lt, not_true_eq_false, not_false_eq_true, Bool.not_true, Bool.not_false, decide_eq_true_eq, Nat.reduceSub, Nat.reduceAdd, List.append_assoc, tChain, tDIn, tDNotIn, sDDel, tAug, ipI, tMeth, tFld]
    obtain ⟨dxB, ko, db, kvb, hoB, _⟩ := id hT
    refine ⟨RP, dx, _, ho, R.cl, R.n2, .ref to, rfl, to, rfl, dxB, _, hoB, rfl, to, fT, sT, rfl, hT, fun ys p perm srt np => ?_⟩
    have k1 : Kp [] H (upd H p (.lst (ys.map V.str))) := Kp.new np
    have hp1 : (upd H p (.lst (ys.map V.str))) p = some (.lst (ys.map V.str)) := upd_same
    generalize upd H p (.lst (ys.map V.str)) = H1 at k1 hp1 ⊢
    refine ⟨z, v, e, p, ys, rfl, hv.kp k1, she, lne, sq_l hp1, shL_of fun y hy => ?_, zok, fun H2 k2 => ⟨_, rfl, ?_⟩⟩
    · obtain ⟨x, hx, rfl⟩ := List.mem_map.mp (perm.mem_iff.mp hy)
      exact sok x hx
    have k12 := k1.trans k2
    rw [isRowD_congr (fun x => perm.mem_iff) z e]
    cases hb : isRowD z (sT.map (·.1)) e with
    | false =>
      rw [if_pos (by rfl)]
      exact ⟨.str z, rfl, err1_made (P := fun _ => True) True.intro fun x H' ne he k => qB hz hb x H' (k12.free0 ne) he (k12.trans k)⟩
    | true =>
      rw [if_neg (by decide)]
      refine ⟨v, e, rfl, hv.kp k12, rowD_of hb lne, fun t e' H3 td ht k3 => ?_⟩
      have k13 := k12.trans k3
      obtain ⟨kvs, hd⟩ := hR.dict
      have hd3 := k13 _ _ not0 hd
      have hrw3 := hrw.kp k13
      have kl : kvs.length < sizeLine := by
        rw [hrw.len hd, ← pm.length_eq]
        exact smallL (by omega)
      refine ⟨RP, dx, _, k13 _ _ not0 ho, R.cl, R.n3, .ref d, rfl, d, rfl, _, DPut.k (k := Sum.inr z) hd3 kl, ?_⟩
      have kd : Kp [d] H3 (upd H3 d (.dK (putK kvs (Sum.inr z) (.ref t)))) := (Kp.refl [d] H3).put (by simp)
      have ho3 := k13 _ _ not0 ho
      have hl3 := k13 _ _ not0 hl
      refine qG hz hb e' _ td ⟨dx, nl, ns, kd _ _ (not1 fun y => by rw [y, hd3] at ho3; cases ho3) ho3, kd _ _ (not1 fun y => by rw [y, hd3] at hl3; cases hl3) hl3, hrw3.put hd3 (pm.mem_iff.mp hz) ht, pm, z100⟩ (k13.of0.trans kd)
end
end My

set_option Elab.async false
set_option linter.all false
set_option maxRecDepth 100000
set_option maxHeartbeats 4000000
namespace My
open PySem L2 NdefX
abbrev s_law_names : Stmt := top 41
theorem sc_law_names : FnScope ["_law_table_here"] ["_law_table_here"] (defScope s_law_names) := ⟨rfl, rfl, rfl, by decide +kernel, rfl, by decide +kernel, by decide +kernel⟩
abbrev s_law_plain : Stmt := top 42
theorem sc_law_plain : FnScope ["_law_names_here", "_law_bars", "_law_rows", "_law_name_here"] ["_law_names_here", "_law_bars"] (defScope s_law_plain) := ⟨rfl, rfl, rfl, by decide +kernel, rfl, by decide +kernel, by decide +kernel⟩
abbrev s_law_some : Stmt := top 43
theorem sc_law_some : FnScope ["_law_number", "_law_bars", "_law_most", "_law_chosen", "_law_many", "_law_k"] ["_law_number", "_law_bars", "_law_most"] (defScope s_law_some) := ⟨rfl, rfl, rfl, by decide +kernel, rfl, by decide +kernel, by decide +kernel⟩
abbrev s_law_loose : Stmt := top 44
theorem sc_law_loose : FnScope ["_law_name_here", "_law_number", "_law_bars", "_law_others", "_law_kind"] ["_law_name_here", "_law_number", "_law_bars"] (defScope s_law_loose) := ⟨rfl, rfl, rfl, by decide +kernel, rfl, by decide +kernel, by decide +kernel⟩
abbrev s_law_normal : Stmt := top 45
theorem sc_law_normal : FnScope ["_law_row"] ["_law_row"] (defScope s_law_normal) := ⟨rfl, rfl, rfl, by decide +kernel, rfl, by decide +kernel, by decide +kernel⟩
/-- at d a dict with the names bs -/
def KyAt (H : Hp) (d : Addr) (bs : List Str) : Prop := ∃ kvs, H d = some (.dK kvs) ∧ kvs.map (·.1) = bs.map (fun z => (Sum.inr z : Key))
structure BtL (mg : Str → Option Value) : Prop where
  b_sorted : mg "sorted" = none
  b_list : mg "list" = none
  b_int : mg "int" = none
  b_range : mg "range" = none
  b_len : mg "len" = none
  b_tuple : mg "tuple" = none
  b_set : mg "set" = none
  b_isinstance : mg "isinstance" = none
def spNms : Sp := fun vs H Q _ => ∃ (d : Addr) (bs : List Str), vs = [.ref d] ∧ KyAt H d bs ∧ bs.length ≤ 2 ∧ ∀ zs p H', zs.Perm (barF ++ bs) → PyProof.Rows.sortedS zs = true → H' p = some (.lst (zs.map V.str)) → Kp [] H H' → Q (.ref p) H'
def spPlain : Sp := fun vs H Q _ => ∃ (l d : Addr) (zs bs : List Str), vs = [.ref l, .ref d] ∧ H l = some (.lst (zs.map V.str)) ∧ zs.Nodup ∧ zs.length ≤ 100 ∧ KyAt H d bs ∧ (∀ z ∈ bs, z ∉ retK) ∧ ∀ p H', H p = none → RwAt H' p zs (plainF (bs ++ [("full" : Str)])) → Kp [] H H' → Q (.ref p) H'
section
variable {P : Program} {w : World} {K : PySem.W.Frag} {mg : Str → Option Value} {base : Heap}
theorem ok_law_names {f : Addr} {fd : FuncData} (D : Df K mg "_law_names" s_law_names ["_law_table_here"] f fd) (T : BtL mg) : FnOk P w K mg base CX0 1 f fd ["_law_table_here"] spNms := by
  refine D.F.ok sc_law_names (fun vs H Q E h => ?_) (fun cdv A outer s H vs Q E hr h => ?_)
  · obtain ⟨_, _, rfl, _⟩ := h
    rfl
  · obtain ⟨d, bs, rfl, ⟨kvs, hd, hk⟩, bl, q⟩ := h
    have hu := hu_of hr
    have hcalm : True := True.intro
    refine ⟨_, (pss_one (ps_ret (pe_callB (id := "sorted") (r := rSortedS K) cr_sortedS (by rfl) T.b_sorted (by decide +kernel) (pa_cons (pe_op op_cat (pe_lst (pa_cons pe_str (pa_cons pe_str (pa_cons pe_str (pa_cons pe_str (pa_cons pe_str (pa_cons pe_str (pa_cons pe_str pa_nil)))))))) (pe_callTy (call_listD rfl) (by rfl) T.b_list (by decide +kernel) (pa_cons (pv 0) pa_nil))) pa_nil)))), ?_⟩
    try simp (maxSteps := 1000000) only [tSeq, tIfS, tTest, tOp, tUn, tCB, tCons, tNil, tVar, tC, rI0, rI, rU, rEq, rNe, tRet, tRetN, tAsg, gName, gSub, tBM, tBM0, tNext, tB, tNot, tAnd, tOr, tIf, tCall, tDrop, tBreak, tCont, L2.start, tDGet, sDPut, tTup, tLst, tDNewK, tRevL, rCat, rAppend, rPop, rSetL, tAndV, tOrV, tNotV, tSl, tPart, tNoPart, tM1, gTup, gCons, gNil, cxK, cxnK, List.map_cons, List.map_nil, List.length_cons, List.length_nil, List.replicate, List.cons_append, List.nil_append, List.append_nil, List.set_cons_zero, List.set_cons_succ, List.getElem?_cons_zero, List.getElem?_cons_succ, Option.some.injEq, V.ref.injEq, V.int.injEq, V.str.injEq, V.bl.injEq, V.ty.injEq, exists_eq_left', exists_eq_left, exists_and_left, List.cons.injEq, and_true, true_and, sc_ii, sc_ss, sc_bb, sc_ni, sc_in, sc_is, sc_si, sc_nn, decide_true, decide_false, reduceCtorEq, Bool.false_eq_true, if_true, if_false, ite_true, ite_false, exists_const, eq_self, false_and, and_false, or_false, false_or, exists_false, Evl.rLenS, rSum, wipe, tYes, exists_eq, exists_eq', rIxL, rIxT, rIxS, exists_and_right, gt_iff_lt, not_true_eq_false, not_false_eq_true, Bool.not_true, Bool.not_false, decide_eq_true_eq, Nat.reduceSub, Nat.reduceAdd, List.append_assoc, tChain, tDIn, tDNotIn, sDDel, tAug, ipI]
    have e7 : ([V.str (Str.ofString "read"), V.str (Str.ofString "acquire"), V.str (Str.ofString "write"), V.str (Str.ofString "release"), V.str (Str.ofString "both"), V.str (Str.ofString "return"), V.str (Str.ofString "full")] : List V) = barF.map V.str := rfl
    rw [e7]
    refine ⟨small (by decide), fun p np => ?_⟩
    have k1 : Kp [] H (upd H p (.lst (barF.map V.str))) := Kp.new np
    have hp1 : (upd H p (.lst (barF.map V.str))) p = some (.lst (barF.map V.str)) := upd_same
    generalize (upd H p (.lst (barF.map V.str))) = H1 at k1 hp1 ⊢
    refine ⟨kvs, .inl (k1 _ _ not0 hd), fun p2 n2 => ?_⟩
    have eb : kvs.map (fun kv => kV kv.1) = bs.map V.str := by
      have e : kvs.map (fun kv => kV kv.1) = (kvs.map (·.1)).map kV := by rw [List.map_map]; rfl
      rw [e, hk, List.map_map]; rfl
    rw [eb]
    have pp : p ≠ p2 := ne_of_none hp1 n2
    refine ⟨_, by rw [upd_ne pp]; exact hp1, _, upd_same, by rw [List.length_map, List.length_map]; exact small (show 7 + bs.length ≤ _ by omega), fun p3 n3 => ?_⟩
    rw [← List.map_append]
    have k3 : Kp [] H1 (upd (upd H1 p2 (.lst (bs.map V.str))) p3 (.lst ((barF ++ bs).map V.str))) := (Kp.new n2).trans (Kp.new n3)
    exact ⟨p3, barF ++ bs, rfl, sq_l upd_same, by rw [List.length_append]; show 7 + bs.length < 64; omega, fun zs p4 pz sz n4 => q zs p4 _ pz sz upd_same ((k1.trans k3).trans (Kp.new n4))⟩
theorem keyHas {kvs : List (Key × V)} {bs : List Str} {z : Str} (b : kvs.map (·.1) = bs.map (fun z => (Sum.inr z : Key))) : (valV kvs (Sum.inr z)).isSome = decide (z ∈ bs) := by
  by_cases hz : z ∈ bs
  · rw [decide_eq_true hz, ← valV_any]
    have : (Sum.inr z : Key) ∈ kvs.map (·.1) := by rw [b]; exact List.mem_map_of_mem (f := fun z => (Sum.inr z : Key)) hz
    obtain ⟨p, hp, e⟩ := List.mem_map.mp this
    exact List.any_eq_true.mpr ⟨p, hp, decide_eq_true e⟩
  · rw [decide_eq_false hz, keyNot b hz]; rfl
theorem ok_law_plain {f : Addr} {fd : FuncData} (D : Df K mg "_law_plain" s_law_plain ["_law_names_here", "_law_bars"] f fd) (T : BtL mg) : FnOk P w K mg base CX0 1 f fd ["_law_names_here", "_law_bars"] spPlain := by
  refine D.F.ok sc_law_plain (fun vs H Q E h => ?_) (fun cdv A outer s H vs Q E hr h => ?_)
  · obtain ⟨_, _, _, _, rfl, _⟩ := h
    rfl
  · obtain ⟨l, d, zs, bs, rfl, hl, nd, zl, ⟨kvs, hd, hk⟩, nb, q⟩ := h
    have hu := hu_of hr
    refine ⟨_, (pss_cons (ps_set (i := 2) sc_law_plain.nd rfl (Or.inl rfl) pe_dnewK)
      (pss_cons (ps_for PassesOwn.never rfl (pi_list (pv 0)) (pg_name (i := 3) sc_law_plain.nd rfl (Or.inl rfl)) (pss_cons (ps_dput hu (pv 2) (pv 3) (pe_tup pa_nil) rfl)
      (pss_one (ps_if (pt_cmpR op_in_seq (pv 3) (pe_tup (pa_cons pe_str (pa_cons pe_str (pa_cons pe_str (pa_cons pe_str (pa_cons pe_str pa_nil)))))) (by rfl)) (pss_one (ps_dput hu (pv 2) (pv 3) (pe_tup (pa_cons (pe_tup pa_nil) (pa_cons (pv 3) (pa_cons (pe_tup pa_nil) pa_nil)))) rfl)) (pss_one (ps_if (PW.pt (pw_or (pt_cmpR op_eq (pv 3) pe_str (nomark _)) (pw_or1 (pt_cmp (pc_din hu (pv 3) (pv 1)))))) (pss_one (ps_dput hu (pv 2) (pv 3) (pe_tup (pa_cons (pv 3) pa_nil)) rfl)) (pss_one (ps_if (pt_cmpR op_ne (pv 3) pe_str (nomark _)) (pss_one (ps_dput hu (pv 2) (pv 3) (pe_tup (pa_cons pe_str pa_nil)) rfl)) pss_nil))))))))
      (pss_one (ps_ret (pv 2))))), ?_⟩
    try simp (maxSteps := 1000000) only [tSeq, tIfS, tTest, tOp, tUn, tCB, tCons, tNil, tVar, tC, rI0, rI, rU, rEq, rNe, tRet, tRetN, tAsg, gName, gSub, tBM, tBM0, tNext, tB, tNot, tAnd, tOr, tIf, tCall, tDrop, tBreak, tCont, L2.start, tDGet, sDPut, tTup, tLst, tDNewK, tRevL, rCat, rAppend, rPop, rSetL, tAndV, tOrV, tNotV, tSl, tPart, tNoPart, tM1, gTup, gCons, gNil, cxK, cxnK, List.map_cons, List.map_nil, List.length_cons, List.length_nil, List.replicate, List.cons_append, List.nil_append, List.append_nil, List.set_cons_zero, List.set_cons_succ, List.getElem?_cons_zero, List.getElem?_cons_succ, Option.some.injEq, V.ref.injEq, V.int.injEq, V.str.injEq, V.bl.injEq, V.ty.injEq, exists_eq_left', exists_eq_left, exists_and_left, List.cons.injEq, and_true, true_and, sc_ii, sc_ss, sc_bb, sc_ni, sc_in, sc_is, sc_si, sc_nn, decide_true, decide_false, reduceCtorEq, Bool.false_eq_true, if_true, if_false, ite_true, ite_false, exists_const, eq_self, false_and, and_false, or_false, false_or, exists_false, Evl.rLenS, rSum, wipe, tYes, exists_eq, exists_eq', rIxL, rIxT, rIxS, exists_and_right, gt_iff_lt, not_true_eq_false, not_false_eq_true, Bool.not_true, Bool.not_false, decide_eq_true_eq, Nat.reduceSub, Nat.reduceAdd, List.append_assoc, tChain, tDIn, tDNotIn, sDDel, tAug, ipI]
    intro p np
    have nlp : l ≠ p := ne_of_none hl np
    have ndp : d ≠ p := ne_of_none hd np
    refine forL_src34 ?_
    try simp (maxSteps := 1000000) only [tSeq, tIfS, tTest, tOp, tUn, tCB, tCons, tNil, tVar, tC, rI0, rI, rU, rEq, rNe, tRet, tRetN, tAsg, gName, gSub, tBM, tBM0, tNext, tB, tNot, tAnd, tOr, tIf, tCall, tDrop, tBreak, tCont, L2.start, tDGet, sDPut, tTup, tLst, tDNewK, tRevL, rCat, rAppend, rPop, rSetL, tAndV, tOrV, tNotV, tSl, tPart, tNoPart, tM1, gTup, gCons, gNil, cxK, cxnK, List.map_cons, List.map_nil, List.length_cons, List.length_nil, List.replicate, List.cons_append, List.nil_append, List.append_nil, List.set_cons_zero, List.set_cons_succ, List.getElem?_cons_zero, List.getElem?_cons_succ, Option.some.injEq, V.ref.injEq, V.int.injEq, V.str.injEq, V.bl.injEq, V.ty.injEq, exists_eq_left', exists_eq_left, exists_and_left, List.cons.injEq, and_true, true_and, sc_ii, sc_ss, sc_bb, sc_ni, sc_in, sc_is, sc_si, sc_nn, decide_true, decide_false, reduceCtorEq, Bool.false_eq_true, if_true, if_false, ite_true, ite_false, exists_const, eq_self, false_and, and_false, or_false, false_or, exists_false, Evl.rLenS, rSum, wipe, tYes, exists_eq, exists_eq', rIxL, rIxT, rIxS, exists_and_right, gt_iff_lt, not_true_eq_false, not_false_eq_true, Bool.not_true, Bool.not_false, decide_eq_true_eq, Nat.reduceSub, Nat.reduceAdd, List.append_assoc, tChain, tDIn, tDNotIn, sDDel, tAug, ipI]
    refine forLC34 (fun i σ H' => ∃ c, σ = [some (V.ref l), some (V.ref d), some (V.ref p), c] ∧ RwAt H' p (zs.take i) (plainF (bs ++ [("full" : Str)])) ∧ Kp [] H H') (sq_l (by rw [upd_ne nlp]; exact hl)) ⟨none, rfl, ⟨[], upd_same, rfl, List.nodup_nil, fun z hz => nomatch hz⟩, Kp.new np⟩ (fun j σ H7 _ h => by obtain ⟨_, _, _, h⟩ := h; exact sq_l (h _ _ not0 hl)) (fun j x σ H6 hx h => ?_) fun σ H6 h => ?_
    · obtain ⟨c, rfl, hr6, k6⟩ := h
      rw [List.getElem?_map] at hx
      obtain ⟨z, ez, rfl⟩ : ∃ z, zs[j]? = some z ∧ V.str z = x := by
        cases e : zs[j]? with
        | none => rw [e] at hx; cases hx
        | some z => rw [e] at hx; exact ⟨z, rfl, Option.some.inj hx⟩
      try simp (maxSteps := 1000000) only [tSeq, tIfS, tTest, tOp, tUn, tCB, tCons, tNil, tVar, tC, rI0, rI, rU, rEq, rNe, tRet, tRetN, tAsg, gName, gSub, tBM, tBM0, tNext, tB, tNot, tAnd, tOr, tIf, tCall, tDrop, tBreak, tCont, L2.start, tDGet, sDPut, tTup, tLst, tDNewK, tRevL, rCat, rAppend, rPop, rSetL, tAndV, tOrV, tNotV, tSl, tPart, tNoPart, tM1, gTup, gCons, gNil, cxK, cxnK, List.map_cons, List.map_nil, List.length_cons, List.length_nil, List.replicate, List.cons_append, List.nil_append, List.append_nil, List.set_cons_zero, List.set_cons_succ, List.getElem?_cons_zero, List.getElem?_cons_succ, Option.some.injEq, V.ref.injEq, V.int.injEq, V.str.injEq, V.bl.injEq, V.ty.injEq, exists_eq_left', exists_eq_left, exists_and_left, List.cons.injEq, and_true, true_and, sc_ii, sc_ss, sc_bb, sc_ni, sc_in, sc_is, sc_si, sc_nn, decide_true, decide_false, reduceCtorEq, Bool.false_eq_true, if_true, if_false, ite_true, ite_false, exists_const, eq_self, false_and, and_false, or_false, false_or, exists_false, Evl.rLenS, rSum, wipe, tYes, exists_eq, exists_eq', rIxL, rIxT, rIxS, exists_and_right, gt_iff_lt, not_true_eq_false, not_false_eq_true, Bool.not_true, Bool.not_false, decide_eq_true_eq, Nat.reduceSub, Nat.reduceAdd, List.append_assoc, tChain, tDIn, tDNotIn, sDDel, tAug, ipI]
      refine ⟨small (by decide), fun p1 n1 => ?_⟩
      have k7 : Kp [] H6 (upd H6 p1 (.tup [])) := Kp.new n1
      have h71 : (upd H6 p1 (.tup [])) p1 = some (.tup []) := upd_same
      generalize (upd H6 p1 (.tup [])) = H7 at k7 h71 ⊢
      have hr7 := hr6.kp k7
      obtain ⟨kvs7, hk7, _, _, _⟩ := id hr7
      have jl := (List.getElem?_eq_some_iff.mp ez).1
      have kl7 : kvs7.length < sizeLine := by
        rw [hr7.len hk7, List.length_take]
        exact smallL (show min j zs.length ≤ _ by omega)
      refine ⟨_, DPut.k (k := Sum.inr z) hk7 kl7, ?_⟩
      have nz : z ∉ zs.take j := fun hm => by
        obtain ⟨i, ei⟩ := List.getElem?_of_mem hm
        have il : i < j := by
          have := (List.getElem?_eq_some_iff.mp ei).1
          rw [List.length_take] at this
          omega
        rw [List.getElem?_take, if_pos il] at ei
        have := (List.getElem?_inj (List.getElem?_eq_some_iff.mp ei).1 nd).mp (ei.trans ez.symm)
        omega
      have hr8 : RwAt (upd H7 p (.dK (putK kvs7 (Sum.inr z) (.ref p1)))) p (zs.take (j + 1)) (fun y => if y = z then .tuple [] else plainF (bs ++ [("full" : Str)]) y) := by
        rw [take_snocS ez]
        refine RwAt.add (f := fun y => if y = z then .tuple [] else plainF (bs ++ [("full" : Str)]) y) (hr7.same fun y hy => ?_) hk7 nz ?_
        · show _ = if y = z then _ else _
          rw [if_neg fun e : y = z => nz (e ▸ hy)]
        · show Dq _ _ (if z = z then _ else _)
          rw [if_pos rfl]
          exact .tup h71 .nil
      have k8 : Kp [] H (upd H7 p (.dK (putK kvs7 (Sum.inr z) (.ref p1)))) := (k6.trans k7).wr np
      generalize (upd H7 p (.dK (putK kvs7 (Sum.inr z) (.ref p1)))) = H8 at hr8 k8 ⊢
      have zt : z ∈ zs.take (j + 1) := by rw [take_snocS ez]; exact List.mem_append_right _ (List.mem_singleton.mpr rfl)
      have fin : ∀ (H9 : Hp) (v : V), Kp [] H8 H9 → Dq H9 v (plainF (bs ++ [("full" : Str)]) z) → ∃ x, DPut H9 p (V.str z) v x ∧ RwAt x p (zs.take (j + 1)) (plainF (bs ++ [("full" : Str)])) ∧ Kp [] H x := fun H9 v k9 hv => by
        have hr9 := hr8.kp k9
        obtain ⟨kvs9, hk9, _, _, _⟩ := id hr9
        refine ⟨_, DPut.k (k := Sum.inr z) hk9 ?_, (hr9.put hk9 zt hv).same fun y hy => ?_, (k8.trans k9).wr np⟩
        · rw [hr9.len hk9, List.length_take]
          exact smallL (show min (j + 1) zs.length ≤ _ by omega)
        · show (if y = z then _ else if y = z then _ else _) = _
          by_cases e : y = z
          · rw [if_pos e, e]
          · rw [if_neg e, if_neg e]
      refine ⟨small (by decide), fun p2 n2 => ?_⟩
      have e5 : ([V.str (Str.ofString "read"), V.str (Str.ofString "acquire"), V.str (Str.ofString "write"), V.str (Str.ofString "release"), V.str (Str.ofString "both")] : List V) = kindsL.map V.str := rfl
      rw [e5]
      refine ⟨p2, _, rfl, .inr (sq_t upd_same), rfl, flat_map _, _, rfl, ?_⟩
      rw [if_neg Bool.false_ne_true, in_strs]
      unfold inW
      have k9 : Kp [] H8 (upd H8 p2 (.tup (kindsL.map V.str))) := Kp.new n2
      generalize (upd H8 p2 (.tup (kindsL.map V.str))) = H9 at k9 ⊢
      have nfk : ("full" : Str) ∉ kindsL := by decide +kernel
      by_cases zk : z ∈ kindsL
      · rw [decide_eq_true zk, if_pos rfl]
        refine ⟨small (by decide), fun p3 n3 => ⟨small (by decide), fun p4 n4 => ⟨small (by decide), fun p5 n5 => ?_⟩⟩⟩
        refine fin _ _ (k9.trans (((Kp.new n3).trans (Kp.new n4)).trans (Kp.new n5))) ?_
        unfold plainF
        rw [if_pos zk]
        exact .tup upd_same (.cons (.tup (((Kp.new (S := []) n4).trans (Kp.new n5)) _ _ not0 upd_same) .nil) (.cons (.str z) (.cons (.tup ((Kp.new (S := []) n5) _ _ not0 upd_same) .nil) .nil)))
      rw [decide_eq_false zk, if_neg Bool.false_ne_true]
      have one : ∀ (y : Str) (p3 : Addr), H9 p3 = none → z ≠ "return" → (if z ∈ bs ++ [("full" : Str)] then z else "full") = y → ∃ x, DPut (upd H9 p3 (.tup [.str y])) p (V.str z) (.ref p3) x ∧ RwAt x p (zs.take (j + 1)) (plainF (bs ++ [("full" : Str)])) ∧ Kp [] H x := fun y p3 n3 nr ey => by
        refine fin _ _ (k9.trans (Kp.new n3)) ?_
        unfold plainF
        rw [if_neg zk, if_neg nr, ey]
        exact .tup upd_same (.cons (.str y) .nil)
      refine ite2 (fun h => ⟨small (by decide), fun p3 n3 => one z p3 n3 (by rw [h]; decide +kernel) (by rw [if_pos (List.mem_append_right _ (List.mem_singleton.mpr h))])⟩) (fun hfull => ?_)
      refine ⟨_, .inl ⟨kvs, Sum.inr z, .inl ((k8.trans k9) _ _ not0 hd), rfl, rfl⟩, ?_⟩
      rw [keyHas hk]
      by_cases zb : z ∈ bs
      · rw [decide_eq_true zb, if_pos rfl]
        exact ⟨small (by decide), fun p3 n3 => one z p3 n3 (fun e => nb z zb (by rw [e]; decide +kernel)) (by rw [if_pos (List.mem_append_left _ zb)])⟩
      · rw [decide_eq_false zb, if_neg Bool.false_ne_true]
        by_cases zr : z = "return"
        · rw [decide_eq_true zr, if_neg (by decide)]
          refine ⟨(hr8.kp k9).same fun y hy => ?_, k8.trans k9⟩
          show (if y = z then _ else _) = _
          by_cases e : y = z
          · rw [if_pos e, e]
            unfold plainF
            rw [if_neg zk, if_pos zr]
          · rw [if_neg e]
        · rw [decide_eq_false zr, if_pos (by decide)]
          exact ⟨small (by decide), fun p3 n3 => one "full" p3 n3 zr (by
            rw [if_neg]
            intro hm
            rcases List.mem_append.mp hm with hm | hm
            · exact zb hm
            · exact hfull (List.mem_singleton.mp hm))⟩
    · obtain ⟨c, rfl, hr6, k6⟩ := h
      rw [List.length_map, List.take_of_length_le (Nat.le_refl _)] at hr6
      try simp (maxSteps := 1000000) only [tSeq, tIfS, tTest, tOp, tUn, tCB, tCons, tNil, tVar, tC, rI0, rI, rU, rEq, rNe, tRet, tRetN, tAsg, gName, gSub, tBM, tBM0, tNext, tB, tNot, tAnd, tOr, tIf, tCall, tDrop, tBreak, tCont, L2.start, tDGet, sDPut, tTup, tLst, tDNewK, tRevL, rCat, rAppend, rPop, rSetL, tAndV, tOrV, tNotV, tSl, tPart, tNoPart, tM1, gTup, gCons, gNil, cxK, cxnK, List.map_cons, List.map_nil, List.length_cons, List.length_nil, List.replicate, List.cons_append, List.nil_append, List.append_nil, List.set_cons_zero, List.set_cons_succ, List.getElem?_cons_zero, List.getElem?_cons_succ, Option.some.injEq, V.ref.injEq, V.int.injEq, V.str.injEq, V.bl.injEq, V.ty.injEq, exists_eq_left', exists_eq_left, exists_and_left, List.cons.injEq, and_true, true_and, sc_ii, sc_ss, sc_bb, sc_ni, sc_in, sc_is, sc_si, sc_nn, decide_true, decide_false, reduceCtorEq, Bool.false_eq_true, if_true, if_false, ite_true, ite_false, exists_const, eq_self, false_and, and_false, or_false, false_or, exists_false, Evl.rLenS, rSum, wipe, tYes, exists_eq, exists_eq', rIxL, rIxT, rIxS, exists_and_right, gt_iff_lt, not_true_eq_false, not_false_eq_true, Bool.not_true, Bool.not_false, decide_eq_true_eq, Nat.reduceSub, Nat.reduceAdd, List.append_assoc, tChain, tDIn, tDNotIn, sDDel, tAug, ipI]
      exact q p H6 np hr6 k6
def spSome : Sp := fun vs H Q _ => ∃ (n : Int) (l : Addr) (bs : List Str) (m : Nat), vs = [.int n, .ref l, .int (m : Nat)] ∧ H l = some (.lst (bs.map V.str)) ∧ bs ≠ [] ∧ bs.length ≤ 100 ∧ m ≤ 100 ∧ ∀ (t : Addr) (ws : List Str) (H' : Hp), H' t = some (.tup (ws.map V.str)) → (∀ x ∈ ws, x ∈ bs) → ws.length ≤ 100 → Kp [] H H' → Q (.ref t) H'
theorem ok_law_some {f : Addr} {fd : FuncData} (D : Df K mg "_law_some" s_law_some ["_law_number", "_law_bars", "_law_most"] f fd) (T : BtL mg) : FnOk P w K mg base CX0 1 f fd ["_law_number", "_law_bars", "_law_most"] spSome := by
  refine D.F.ok sc_law_some (fun vs H Q E h => ?_) (fun cdv A outer s H vs Q E hr h => ?_)
  · obtain ⟨_, _, _, _, rfl, _⟩ := h
    rfl
  · obtain ⟨n, l, bs, m, rfl, hl, bn, bl, ml, q⟩ := h
    have hu := hu_of hr
    refine ⟨_, (pss_cons (ps_set (i := 3) sc_law_some.nd rfl (Or.inl rfl) (pe_lst pa_nil))
      (pss_cons (ps_set (i := 4) sc_law_some.nd rfl (Or.inl rfl) (pe_op op_mod (pe_callTy (T := "int") call_int1 (by rfl) T.b_int (by decide +kernel) (pa_cons (pv 0) pa_nil)) (pe_op op_add (pv 2) pe_int)))
      (pss_cons (ps_set (i := 0) sc_law_some.nd rfl (Or.inl rfl) (pe_op op_fdiv (pv 0) (pe_op op_add (pv 2) pe_int)))
      (pss_cons (ps_for PassesOwn.never rfl (pi_range1 rfl T.b_range (pa_cons (pv 4) pa_nil)) (pg_name (i := 5) sc_law_some.nd rfl (Or.inl rfl)) (pss_cons (ps_expr (pe_bm PySem.F.plainAttrs_list PySem.F.slot_list_append PySem.F.type_list_append mt_append (pv 3) (pa_cons (pe_ix (r := rIxL K) ix_list (pv 1) (pe_op op_mod (pe_callTy (T := "int") call_int1 (by rfl) T.b_int (by decide +kernel) (pa_cons (pv 0) pa_nil)) (pe_callB (id := "len") (r := Evl.rLenS K) call_len_seq (by rfl) T.b_len PySem.boot_len (pa_cons (pv 1) pa_nil))) (fun _ _ => rfl)) pa_nil)))
      (pss_one (ps_set (i := 0) sc_law_some.nd rfl (Or.inl rfl) (pe_op op_fdiv (pv 0) (pe_callB (id := "len") (r := Evl.rLenS K) call_len_seq (by rfl) T.b_len PySem.boot_len (pa_cons (pv 1) pa_nil)))))))
      (pss_one (ps_ret (pe_callTy call_tuple_of (by rfl) T.b_tuple (by decide +kernel) (pa_cons (pv 3) pa_nil)))))))), ?_⟩
    try simp (maxSteps := 1000000) only [tSeq, tIfS, tTest, tOp, tUn, tCB, tCons, tNil, tVar, tC, rI0, rI, rU, rEq, rNe, tRet, tRetN, tAsg, gName, gSub, tBM, tBM0, tNext, tB, tNot, tAnd, tOr, tIf, tCall, tDrop, tBreak, tCont, L2.start, tDGet, sDPut, tTup, tLst, tDNewK, tRevL, rCat, rAppend, rPop, rSetL, tAndV, tOrV, tNotV, tSl, tPart, tNoPart, tM1, gTup, gCons, gNil, cxK, cxnK, List.map_cons, List.map_nil, List.length_cons, List.length_nil, List.replicate, List.cons_append, List.nil_append, List.append_nil, List.set_cons_zero, List.set_cons_succ, List.getElem?_cons_zero, List.getElem?_cons_succ, Option.some.injEq, V.ref.injEq, V.int.injEq, V.str.injEq, V.bl.injEq, V.ty.injEq, exists_eq_left', exists_eq_left, exists_and_left, List.cons.injEq, and_true, true_and, sc_ii, sc_ss, sc_bb, sc_ni, sc_in, sc_is, sc_si, sc_nn, decide_true, decide_false, reduceCtorEq, Bool.false_eq_true, if_true, if_false, ite_true, ite_false, exists_const, eq_self, false_and, and_false, or_false, false_or, exists_false, Evl.rLenS, rSum, wipe, tYes, exists_eq, exists_eq', rIxL, rIxT, rIxS, exists_and_right, gt_iff_lt, not_true_eq_false, not_false_eq_true, Bool.not_true, Bool.not_false, decide_eq_true_eq, Nat.reduceSub, Nat.reduceAdd, List.append_assoc, tChain, tDIn, tDNotIn, sDDel, tAug, ipI]
    refine ⟨small (by decide), fun p np => ⟨by omega, ⟨by omega, by omega⟩, ?_⟩⟩
    have nlp : l ≠ p := ne_of_none hl np
    obtain ⟨mm, em⟩ : ∃ mm : Nat, n % ((m : Int) + 1) = mm := ⟨(n % ((m : Int) + 1)).toNat, by have := Int.emod_nonneg n (show ((m : Int) + 1) ≠ 0 by omega); omega⟩
    have mm1 : mm ≤ m := by have := Int.emod_lt_of_pos n (show (0 : Int) < (m : Int) + 1 by omega); omega
    rw [em]
    refine forN34 mm (by omega) (fun i σ H' => ∃ (a : Int) (c : Option V) (ws : List Str), σ = [some (.int a), some (.ref l), some (.int (m : Nat)), some (.ref p), some (.int (mm : Nat)), c] ∧ H' p = some (.lst (ws.map V.str)) ∧ ws.length = i ∧ (∀ x ∈ ws, x ∈ bs) ∧ Kp [] H H') (fun R h => ?_) ⟨_, none, [], rfl, upd_same, rfl, (fun x hx => nomatch hx), Kp.new np⟩ (fun j σ H2 hj h => ?_) fun σ H2 h => ?_
    · try simp (maxSteps := 1000000) only [tSeq, tIfS, tTest, tOp, tUn, tCB, tCons, tNil, tVar, tC, rI0, rI, rU, rEq, rNe, tRet, tRetN, tAsg, gName, gSub, tBM, tBM0, tNext, tB, tNot, tAnd, tOr, tIf, tCall, tDrop, tBreak, tCont, L2.start, tDGet, sDPut, tTup, tLst, tDNewK, tRevL, rCat, rAppend, rPop, rSetL, tAndV, tOrV, tNotV, tSl, tPart, tNoPart, tM1, gTup, gCons, gNil, cxK, cxnK, List.map_cons, List.map_nil, List.length_cons, List.length_nil, List.replicate, List.cons_append, List.nil_append, List.append_nil, List.set_cons_zero, List.set_cons_succ, List.getElem?_cons_zero, List.getElem?_cons_succ, Option.some.injEq, V.ref.injEq, V.int.injEq, V.str.injEq, V.bl.injEq, V.ty.injEq, exists_eq_left', exists_eq_left, exists_and_left, List.cons.injEq, and_true, true_and, sc_ii, sc_ss, sc_bb, sc_ni, sc_in, sc_is, sc_si, sc_nn, decide_true, decide_false, reduceCtorEq, Bool.false_eq_true, if_true, if_false, ite_true, ite_false, exists_const, eq_self, false_and, and_false, or_false, false_or, exists_false, Evl.rLenS, rSum, wipe, tYes, exists_eq, exists_eq', rIxL, rIxT, rIxS, exists_and_right, gt_iff_lt, not_true_eq_false, not_false_eq_true, Bool.not_true, Bool.not_false, decide_eq_true_eq, Nat.reduceSub, Nat.reduceAdd, List.append_assoc, tChain, tDIn, tDNotIn, sDDel, tAug, ipI]
      exact h
    · obtain ⟨a, c, ws, rfl, hp, wl, wm, k⟩ := h
      try simp (maxSteps := 1000000) only [tSeq, tIfS, tTest, tOp, tUn, tCB, tCons, tNil, tVar, tC, rI0, rI, rU, rEq, rNe, tRet, tRetN, tAsg, gName, gSub, tBM, tBM0, tNext, tB, tNot, tAnd, tOr, tIf, tCall, tDrop, tBreak, tCont, L2.start, tDGet, sDPut, tTup, tLst, tDNewK, tRevL, rCat, rAppend, rPop, rSetL, tAndV, tOrV, tNotV, tSl, tPart, tNoPart, tM1, gTup, gCons, gNil, cxK, cxnK, List.map_cons, List.map_nil, List.length_cons, List.length_nil, List.replicate, List.cons_append, List.nil_append, List.append_nil, List.set_cons_zero, List.set_cons_succ, List.getElem?_cons_zero, List.getElem?_cons_succ, Option.some.injEq, V.ref.injEq, V.int.injEq, V.str.injEq, V.bl.injEq, V.ty.injEq, exists_eq_left', exists_eq_left, exists_and_left, List.cons.injEq, and_true, true_and, sc_ii, sc_ss, sc_bb, sc_ni, sc_in, sc_is, sc_si, sc_nn, decide_true, decide_false, reduceCtorEq, Bool.false_eq_true, if_true, if_false, ite_true, ite_false, exists_const, eq_self, false_and, and_false, or_false, false_or, exists_false, Evl.rLenS, rSum, wipe, tYes, exists_eq, exists_eq', rIxL, rIxT, rIxS, exists_and_right, gt_iff_lt, not_true_eq_false, not_false_eq_true, Bool.not_true, Bool.not_false, decide_eq_true_eq, Nat.reduceSub, Nat.reduceAdd, List.append_assoc, tChain, tDIn, tDNotIn, sDDel, tAug, ipI]
      have b0 : 0 < bs.length := by
        cases bs with
        | nil => exact absurd rfl bn
        | cons _ _ => exact Nat.succ_pos _
      have hl2 := k _ _ not0 hl
      have bl0 : (bs.map V.str).length = bs.length := List.length_map ..
      obtain ⟨v, hv, ev⟩ := atI_ex (xs := bs.map V.str) (i := a % ((bs.map V.str).length : Nat)) (Int.emod_nonneg _ (by rw [bl0]; omega)) (Int.emod_lt_of_pos _ (by rw [bl0]; omega))
      obtain ⟨z, hz, rfl⟩ := List.mem_map.mp hv
      have kp : Kp [] H (upd H2 p (.lst (ws.map V.str ++ [V.str z]))) := k.wr np
      refine ⟨.inl ⟨rfl, _, sq_l hp⟩, _, .inl (sq_l hl2), by rw [bl0]; omega, _, sq_l hl2, _, ev, _, hp, by rw [List.length_map]; exact smallL (by omega), _, .inl (sq_l (kp _ _ not0 hl)), ?_, ws ++ [z], by rw [upd_same, List.map_append]; rfl, by rw [List.length_append, wl]; rfl, fun x hx => ?_, kp⟩
      · rw [bl0]
        exact ⟨by omega, by omega⟩
      · rcases List.mem_append.mp hx with hx | hx
        · exact wm x hx
        · rw [List.mem_singleton.mp hx]; exact hz
    · obtain ⟨a, c, ws, rfl, hp, wl, wm, k⟩ := h
      try simp (maxSteps := 1000000) only [tSeq, tIfS, tTest, tOp, tUn, tCB, tCons, tNil, tVar, tC, rI0, rI, rU, rEq, rNe, tRet, tRetN, tAsg, gName, gSub, tBM, tBM0, tNext, tB, tNot, tAnd, tOr, tIf, tCall, tDrop, tBreak, tCont, L2.start, tDGet, sDPut, tTup, tLst, tDNewK, tRevL, rCat, rAppend, rPop, rSetL, tAndV, tOrV, tNotV, tSl, tPart, tNoPart, tM1, gTup, gCons, gNil, cxK, cxnK, List.map_cons, List.map_nil, List.length_cons, List.length_nil, List.replicate, List.cons_append, List.nil_append, List.append_nil, List.set_cons_zero, List.set_cons_succ, List.getElem?_cons_zero, List.getElem?_cons_succ, Option.some.injEq, V.ref.injEq, V.int.injEq, V.str.injEq, V.bl.injEq, V.ty.injEq, exists_eq_left', exists_eq_left, exists_and_left, List.cons.injEq, and_true, true_and, sc_ii, sc_ss, sc_bb, sc_ni, sc_in, sc_is, sc_si, sc_nn, decide_true, decide_false, reduceCtorEq, Bool.false_eq_true, if_true, if_false, ite_true, ite_false, exists_const, eq_self, false_and, and_false, or_false, false_or, exists_false, Evl.rLenS, rSum, wipe, tYes, exists_eq, exists_eq', rIxL, rIxT, rIxS, exists_and_right, gt_iff_lt, not_true_eq_false, not_false_eq_true, Bool.not_true, Bool.not_false, decide_eq_true_eq, Nat.reduceSub, Nat.reduceAdd, List.append_assoc, tChain, tDIn, tDNotIn, sDDel, tAug, ipI]
      exact ⟨_, .inl ⟨sq_l hp, fun t nt => q t ws _ upd_same wm (by omega) (k.trans (Kp.new nt))⟩⟩
end
end My

set_option Elab.async false
set_option linter.all false
set_option maxRecDepth 100000
set_option maxHeartbeats 4000000
namespace My
open PySem L2 NdefX
/-- a good row of the name z: fences bs -/
def LzD (z : Str) (bs : List Str) (d : PyData) : Prop := RowD d ∧ isRowD z bs d = true ∧ LnR d ∧ SeqAt.shaped d = true
def spLoose : Sp := fun vs H Q _ => ∃ (z : Str) (n : Int) (l : Addr) (bs : List Str), vs = [.str z, .int n, .ref l] ∧ H l = some (.lst (bs.map V.str)) ∧ bs ≠ [] ∧ bs.length ≤ 100 ∧ (∀ x ∈ bs, PyData.strOk x = true) ∧ ∀ (t : Addr) (d : PyData) (H' : Hp), Dq H' (.ref t) d → LzD z bs d → Kp [] H H' → Q (.ref t) H'
def spNorm : Sp := fun vs H Q _ => ∃ (v : V) (d : PyData), vs = [v] ∧ Dq H v d ∧ RowD d ∧ ∀ p d' H', TdR d d' → Dq H' (.ref p) d' → Kp [] H H' → Q (.ref p) H'
def othL : List (Str × Str) := [("read", "acquire"), ("acquire", "read"), ("write", "release"), ("release", "write"), ("both", "both")]
theorem shT {zs : List Str} (h : ∀ z ∈ zs, PyData.strOk z = true) : SeqAt.shaped (.tuple (zs.map PyData.str)) = true := shL_of h
theorem shK {xs ys : List Str} {k : Str} (h1 : ∀ z ∈ xs, PyData.strOk z = true) (h2 : PyData.strOk k = true) (h3 : ∀ z ∈ ys, PyData.strOk z = true) : SeqAt.shaped (.tuple [.tuple (xs.map PyData.str), .str k, .tuple (ys.map PyData.str)]) = true := by
  show ((PyData.canLayAll0 (xs.map PyData.str) && (PyData.strOk k && (PyData.canLayAll0 (ys.map PyData.str) && true))) && decide (max (PyData.depthAll (xs.map PyData.str) + 1) (max 0 (max (PyData.depthAll (ys.map PyData.str) + 1) 0)) + 1 ≤ 64)) = true
  rw [PyProof.Rows.canLayAll_strs', PyProof.Rows.canLayAll_strs', depth_strs, depth_strs, List.all_eq_true.mpr h1, List.all_eq_true.mpr h3, h2]; rfl
theorem lnT {zs : List Str} (h : zs.length ≤ 100) : LnR (.tuple (zs.map PyData.str)) := fun ds e => by
  injection e with e
  rw [← e, List.length_map]
  refine ⟨h, fun x hx es ee => ?_⟩
  obtain ⟨z, _, rfl⟩ := List.mem_map.mp hx
  cases ee
theorem lnK {xs ys : List Str} {k : Str} (h1 : xs.length ≤ 100) (h2 : ys.length ≤ 100) : LnR (.tuple [.tuple (xs.map PyData.str), .str k, .tuple (ys.map PyData.str)]) := fun ds e => by
  injection e with e
  rw [← e]
  refine ⟨by show 3 ≤ 100; decide, fun x hx es ee => ?_⟩
  rw [ee] at hx
  rcases List.mem_cons.mp hx with e1 | hx
  · injection e1 with e1
    rw [e1, List.length_map]; exact h1
  rcases List.mem_cons.mp hx with e1 | hx
  · cases e1
  rcases List.mem_cons.mp hx with e1 | hx
  · injection e1 with e1
    rw [e1, List.length_map]; exact h2
  · exact nomatch hx
theorem allIn_of {zs bs : List Str} (h : ∀ x ∈ zs, x ∈ bs) : (zs.map PyData.str).all (inFs bs) = true := by
  rw [List.all_map, List.all_eq_true]
  exact fun x hx => decide_eq_true (h x hx)
theorem lzT {z : Str} {bs zs : List Str} (hz : z ∉ kindsL) (h : ∀ x ∈ zs, x ∈ bs) (l : zs.length ≤ 100) (ok : ∀ x ∈ bs, PyData.strOk x = true) : LzD z bs (.tuple (zs.map PyData.str)) := by
  refine ⟨.inl ⟨zs, by omega, rfl⟩, ?_, lnT l, shT fun x hx => ok x (h x hx)⟩
  show (if z ∈ kindsL then isKd z bs (zs.map PyData.str) else (zs.map PyData.str).all (inFs bs)) = true
  rw [if_neg hz]
  exact allIn_of h
theorem grp_ok {z k : Str} (hz : z ∈ kindsL) (hk : k ∈ groupL z) : PyData.strOk k = true := by
  have : ∀ z ∈ kindsL, ∀ k ∈ groupL z, PyData.strOk k = true := by decide +kernel
  exact this z hz k hk
theorem lzK {z k : Str} {bs xs ys : List Str} (hz : z ∈ kindsL) (hk : k ∈ groupL z) (h1 : ∀ x ∈ xs, x ∈ bs) (h2 : ∀ x ∈ ys, x ∈ bs) (l1 : xs.length ≤ 100) (l2 : ys.length ≤ 100) (ok : ∀ x ∈ bs, PyData.strOk x = true) : LzD z bs (.tuple [.tuple (xs.map PyData.str), .str k, .tuple (ys.map PyData.str)]) := by
  refine ⟨.inr ⟨xs, k, ys, by omega, by omega, rfl⟩, ?_, lnK l1 l2, shK (fun x hx => ok x (h1 x hx)) (grp_ok hz hk) fun x hx => ok x (h2 x hx)⟩
  show (if z ∈ kindsL then (inFs (groupL z) (.str k) && (xs.map PyData.str ++ ys.map PyData.str).all (inFs bs)) else _) = true
  rw [if_pos hz, List.all_append, allIn_of h1, allIn_of h2]
  show (decide (k ∈ groupL z) && true) = true
  rw [decide_eq_true hk]; rfl
def othV : List (Key × V) := othL.map fun p => ((Sum.inr p.1 : Key), V.str p.2)
theorem oth_keys : othV.map (·.1) = kindsL.map (fun z => (Sum.inr z : Key)) := rfl
theorem oth_at {z : Str} (hz : z ∈ kindsL) : ∃ k, valV othV (Sum.inr z) = some (.str k) ∧ k ∈ groupL z := by
  have e : kindsL = [("read" : Str), ("acquire" : Str), ("write" : Str), ("release" : Str), ("both" : Str)] := rfl
  rw [e] at hz
  rcases List.mem_cons.mp hz with rfl | hz
  · exact ⟨"acquire", rfl, by decide +kernel⟩
  rcases List.mem_cons.mp hz with rfl | hz
  · exact ⟨"read", rfl, by decide +kernel⟩
  rcases List.mem_cons.mp hz with rfl | hz
  · exact ⟨"release", rfl, by decide +kernel⟩
  rcases List.mem_cons.mp hz with rfl | hz
  · exact ⟨"write", rfl, by decide +kernel⟩
  rcases List.mem_cons.mp hz with rfl | hz
  · exact ⟨"both", rfl, by decide +kernel⟩
  · exact nomatch hz
theorem some_use {n : Int} {l : Addr} {H1 : Hp} {bs : List Str} {R : VK} {E1 : XK} (hl : H1 l = some (.lst (bs.map V.str))) (bn : bs ≠ []) (bl : bs.length ≤ 100) (q : ∀ (t : Addr) (ws : List Str) (H' : Hp), H' t = some (.tup (ws.map V.str)) → (∀ x ∈ ws, x ∈ bs) → ws.length ≤ 100 → Kp [] H1 H' → R (.ref t) H') : spSome [V.int n, V.ref l, V.int 4] H1 R E1 :=
  ⟨n, l, bs, 4, rfl, hl, bn, bl, by decide, q⟩
section
variable {P : Program} {w : World} {K : PySem.W.Frag} {mg : Str → Option Value} {base : Heap}
theorem ok_law_normal {f : Addr} {fd : FuncData} (D : Df K mg "_law_normal" s_law_normal ["_law_row"] f fd) (T : BtL mg) : FnOk P w K mg base CX0 1 f fd ["_law_row"] spNorm := by
  refine D.F.ok sc_law_normal (fun vs H Q E h => ?_) (fun cdv A outer s H vs Q E hr h => ?_)
  · obtain ⟨_, _, rfl, _⟩ := h
    rfl
  · obtain ⟨v, d, rfl, hv, hd, q⟩ := h
    have hu := hu_of hr
    refine ⟨_, (pss_cons (ps_if (PW.pt (pw_and (pt_cmpR op_eq (pe_callB (id := "len") (r := Evl.rLenS K) call_len_seq (by rfl) T.b_len PySem.boot_len (pa_cons (pv 0) pa_nil)) pe_int (nomark _)) (pw_and1 (pt_val (pe_callB (id := "isinstance") (r := rIsi K) call_isi (by rfl) T.b_isinstance (by decide +kernel) (pa_cons (pe_ix (r := rIxT K) ix_tup (pv 0) pe_int (fun _ _ => rfl)) (pa_cons (pe_bltn (v := .ty "tuple") (by rfl) T.b_tuple (by decide +kernel) rfl) pa_nil))))))) (pss_one (ps_ret (pe_tup (pa_cons (pe_callTy call_tuple_of (by rfl) T.b_tuple (by decide +kernel) (pa_cons (pe_sortSetT rfl T.b_sorted rfl T.b_set (pe_ix (r := rIxT K) ix_tup (pv 0) pe_int (fun _ _ => rfl))) pa_nil)) (pa_cons (pe_ix (r := rIxT K) ix_tup (pv 0) pe_int (fun _ _ => rfl)) (pa_cons (pe_callTy call_tuple_of (by rfl) T.b_tuple (by decide +kernel) (pa_cons (pe_sortSetT rfl T.b_sorted rfl T.b_set (pe_ix (r := rIxT K) ix_tup (pv 0) pe_int (fun _ _ => rfl))) pa_nil)) pa_nil)))))) pss_nil)
      (pss_one (ps_ret (pe_callTy call_tuple_of (by rfl) T.b_tuple (by decide +kernel) (pa_cons (pe_sortSetT rfl T.b_sorted rfl T.b_set (pv 0)) pa_nil))))), ?_⟩
    try simp (maxSteps := 1000000) only [tSeq, tIfS, tTest, tOp, tUn, tCB, tCons, tNil, tVar, tC, rI0, rI, rU, rEq, rNe, tRet, tRetN, tAsg, gName, gSub, tBM, tBM0, tNext, tB, tNot, tAnd, tOr, tIf, tCall, tDrop, tBreak, tCont, L2.start, tDGet, sDPut, tTup, tLst, tDNewK, tRevL, rCat, rAppend, rPop, rSetL, tAndV, tOrV, tNotV, tSl, tPart, tNoPart, tM1, gTup, gCons, gNil, cxK, cxnK, List.map_cons, List.map_nil, List.length_cons, List.length_nil, List.replicate, List.cons_append, List.nil_append, List.append_nil, List.set_cons_zero, List.set_cons_succ, List.getElem?_cons_zero, List.getElem?_cons_succ, Option.some.injEq, V.ref.injEq, V.int.injEq, V.str.injEq, V.bl.injEq, V.ty.injEq, exists_eq_left', exists_eq_left, exists_and_left, List.cons.injEq, and_true, true_and, sc_ii, sc_ss, sc_bb, sc_ni, sc_in, sc_is, sc_si, sc_nn, decide_true, decide_false, reduceCtorEq, Bool.false_eq_true, if_true, if_false, ite_true, ite_false, exists_const, eq_self, false_and, and_false, or_false, false_or, exists_false, Evl.rLenS, rSum, wipe, tYes, exists_eq, exists_eq', rIxL, rIxT, rIxS, exists_and_right, gt_iff_lt, not_true_eq_false, not_false_eq_true, Bool.not_true, Bool.not_false, decide_eq_true_eq, Nat.reduceSub, Nat.reduceAdd, List.append_assoc, tChain, tDIn, tDNotIn, sDDel, tAug, ipI, tSortSetT]
    rcases hd with ⟨zs, zl, rfl⟩ | ⟨xs, k, ys, xl, yl, rfl⟩
    · obtain ⟨a, rfl, ht⟩ := dqTup_at hv
      have fin : ∀ H1, Kp [] H H1 → ∃ l, V.ref a = V.ref l ∧ ∃ x, SqT K H1 l (List.map V.str x) ∧ x.length ≤ 1000 ∧ ∀ (ys : List Str) (p : Addr), PyProof.Rows.sortedS ys = true → ys.Nodup → (∀ (z : Str), z ∈ ys ↔ z ∈ x) → ys.length ≤ x.length → H1 p = none → ∃ x, (SqL K (upd H1 p (HO.lst (List.map V.str ys))) p x ∧ ∀ (l : Addr), upd H1 p (HO.lst (List.map V.str ys)) l = none → Q (V.ref l) (upd (upd H1 p (HO.lst (List.map V.str ys))) l (HO.tup x))) ∨ SqT K (upd H1 p (HO.lst (List.map V.str ys))) p x ∧ Q (V.ref p) (upd H1 p (HO.lst (List.map V.str ys))) := fun H1 k1 => by
        refine ⟨a, rfl, zs, sq_t (k1 _ _ not0 ht), zl, fun ys p srt nd me ln np => ⟨_, .inl ⟨sq_l upd_same, fun l nl => ?_⟩⟩⟩
        exact q l _ _ (.inl ⟨zs, ys, ⟨srt, nd, me⟩, rfl, rfl⟩) (dqTup upd_same) (k1.trans ((Kp.new np).trans (Kp.new nl)))
      refine ⟨a, rfl, _, .inr (sq_t ht), ?_⟩
      refine ite2 (fun h => ?_) (fun h => fin H (Kp.refl _ _))
      obtain ⟨z, r, rfl⟩ : ∃ z r, zs = z :: r := by
        cases zs with
        | nil => exact absurd h (by decide)
        | cons z r => exact ⟨z, r, rfl⟩
      refine ⟨a, rfl, _, sq_t ht, _, atI_of (by decide) rfl, isi_Dtup (.str z) ⟨_, rfl, ?_⟩⟩
      exact fin H (Kp.refl _ _)
    · cases hv with
      | @tup a us _ e h =>
        cases h with
        | @cons v0 _ _ _ h0 h => cases h with
          | @cons v1 _ _ _ h1 h => cases h with
            | @cons v2 _ _ _ h2 h =>
              cases h
              cases h1
              obtain ⟨a0, rfl, ht0⟩ := dqTup_at h0
              obtain ⟨a2, rfl, ht2⟩ := dqTup_at h2
              refine ⟨a, rfl, _, .inr (sq_t e), ?_⟩
              rw [if_pos (by rfl)]
              refine ⟨a, rfl, _, sq_t e, _, atI_of (by decide) rfl, isi_Dtup h0 ⟨_, rfl, ?_⟩⟩
              rw [if_pos (by rfl)]
              refine ⟨a, rfl, _, sq_t e, _, atI_of (by decide) rfl, a0, rfl, xs, sq_t ht0, xl, fun xs' p srt nd me ln np => ⟨_, .inl ⟨sq_l upd_same, fun l nl => ?_⟩⟩⟩
              have k1 : Kp [] H (upd (upd H p (.lst (xs'.map V.str))) l (.tup (xs'.map V.str))) := (Kp.new np).trans (Kp.new nl)
              have hl1 : (upd (upd H p (.lst (xs'.map V.str))) l (.tup (xs'.map V.str))) l = some (.tup (xs'.map V.str)) := upd_same
              generalize (upd (upd H p (.lst (xs'.map V.str))) l (.tup (xs'.map V.str))) = H1 at k1 hl1 ⊢
              have e1 := k1 _ _ not0 e
              refine ⟨a, rfl, _, sq_t e1, _, atI_of (by decide) rfl, a, rfl, _, sq_t e1, _, atI_of (by decide) rfl, a2, rfl, ys, sq_t (k1 _ _ not0 ht2), yl, fun ys' p2 srt2 nd2 me2 ln2 n2 => ⟨_, .inl ⟨sq_l upd_same, fun l2 nl2 => ⟨small (by decide), fun p3 n3 => ?_⟩⟩⟩⟩
              have k3 : Kp [] (upd H1 p2 (.lst (ys'.map V.str))) (upd (upd H1 p2 (.lst (ys'.map V.str))) l2 (.tup (ys'.map V.str))) := Kp.new nl2
              refine q p3 _ _ (.inr ⟨xs, k, ys, xs', ys', ⟨srt, nd, me⟩, ⟨srt2, nd2, me2⟩, rfl, rfl⟩) (.tup upd_same (.cons (dqTup ((((Kp.new (S := []) n2).trans k3).trans (Kp.new n3)) _ _ not0 hl1)) (.cons (.str k) (.cons (dqTup ((Kp.new (S := []) n3) _ _ not0 upd_same)) .nil)))) (k1.trans (((Kp.new n2).trans k3).trans (Kp.new n3)))
theorem ok_law_loose {f : Addr} {fd : FuncData} (D : Df K mg "_law_loose" s_law_loose ["_law_name_here", "_law_number", "_law_bars"] f fd) (T : BtL mg) {fa : Addr} {fda : FuncData} (D_law_some : Df K mg "_law_some" s_law_some ["_law_number", "_law_bars", "_law_most"] fa fda) (G_law_some : FnOk P w K mg base CX0 1 fa fda ["_law_number", "_law_bars", "_law_most"] spSome) : FnOk P w K mg base CX0 2 f fd ["_law_name_here", "_law_number", "_law_bars"] spLoose := by
  refine D.F.ok sc_law_loose (fun vs H Q E h => ?_) (fun cdv A outer s H vs Q E hr h => ?_)
  · obtain ⟨_, _, _, _, rfl, _⟩ := h
    rfl
  · obtain ⟨z, n, l, bs, rfl, hl, bn, bl, bok, q⟩ := h
    have hu := hu_of hr
    refine ⟨_, (pss_cons (ps_set (i := 3) sc_law_loose.nd rfl (Or.inl rfl) (pe_disp (pps_cons pe_str pe_str (pps_cons pe_str pe_str (pps_cons pe_str pe_str (pps_cons pe_str pe_str (pps_cons pe_str pe_str pps_nil))))) rfl rfl (by simp) (by decide)))
      (pss_cons (ps_if (pt_cmp (pc_dnotin hu (pv 0) (pv 3))) (pss_one (ps_ret (pe_call G_law_some (hr.mono (by decide)) rfl D_law_some.g D_law_some.F.kp D_law_some.b .nil pass0 (pa_cons (pv 1) (pa_cons (pv 2) (pa_cons pe_int pa_nil)))))) pss_nil)
      (pss_cons (ps_set (i := 4) sc_law_loose.nd rfl (Or.inl rfl) (pv 0))
      (pss_cons (ps_if (pt_cmpR op_eq (pe_op op_mod (pe_callTy (T := "int") call_int1 (by rfl) T.b_int (by decide +kernel) (pa_cons (pv 1) pa_nil)) pe_int) pe_int (nomark _)) (pss_one (ps_set (i := 4) sc_law_loose.nd rfl (Or.inl rfl) (pe_dget hu (pv 3) (pv 0) (fun _ _ => rfl)))) pss_nil)
      (pss_one (ps_ret (pe_tup (pa_cons (pe_call G_law_some (hr.mono (by decide)) rfl D_law_some.g D_law_some.F.kp D_law_some.b .nil pass0 (pa_cons (pe_op op_mod (pe_callTy (T := "int") call_int1 (by rfl) T.b_int (by decide +kernel) (pa_cons (pe_op op_fdiv (pv 1) pe_int) pa_nil)) pe_int) (pa_cons (pv 2) (pa_cons pe_int pa_nil)))) (pa_cons (pv 4) (pa_cons (pe_call G_law_some (hr.mono (by decide)) rfl D_law_some.g D_law_some.F.kp D_law_some.b .nil pass0 (pa_cons (pe_op op_fdiv (pv 1) pe_int) (pa_cons (pv 2) (pa_cons pe_int pa_nil)))) pa_nil)))))))))), ?_⟩
    try simp (maxSteps := 1000000) only [tSeq, tIfS, tTest, tOp, tUn, tCB, tCons, tNil, tVar, tC, rI0, rI, rU, rEq, rNe, tRet, tRetN, tAsg, gName, gSub, tBM, tBM0, tNext, tB, tNot, tAnd, tOr, tIf, tCall, tDrop, tBreak, tCont, L2.start, tDGet, sDPut, tTup, tLst, tDNewK, tRevL, rCat, rAppend, rPop, rSetL, tAndV, tOrV, tNotV, tSl, tPart, tNoPart, tM1, gTup, gCons, gNil, cxK, cxnK, List.map_cons, List.map_nil, List.length_cons, List.length_nil, List.replicate, List.cons_append, List.nil_append, List.append_nil, List.set_cons_zero, List.set_cons_succ, List.getElem?_cons_zero, List.getElem?_cons_succ, Option.some.injEq, V.ref.injEq, V.int.injEq, V.str.injEq, V.bl.injEq, V.ty.injEq, exists_eq_left', exists_eq_left, exists_and_left, List.cons.injEq, and_true, true_and, sc_ii, sc_ss, sc_bb, sc_ni, sc_in, sc_is, sc_si, sc_nn, decide_true, decide_false, reduceCtorEq, Bool.false_eq_true, if_true, if_false, ite_true, ite_false, exists_const, eq_self, false_and, and_false, or_false, false_or, exists_false, Evl.rLenS, rSum, wipe, tYes, exists_eq, exists_eq', rIxL, rIxT, rIxS, exists_and_right, gt_iff_lt, not_true_eq_false, not_false_eq_true, Bool.not_true, Bool.not_false, decide_eq_true_eq, Nat.reduceSub, Nat.reduceAdd, List.append_assoc, tChain, tDIn, tDNotIn, sDDel, tAug, ipI, tDisp, tPairs]
    intro p np
    refine ⟨upd_same, othV, rfl, by decide, ?_⟩
    have em : mergeK [] othV = othV := rfl
    rw [em]
    have k1 : Kp [] H (upd (upd H p (.dK [])) p (.dK othV)) := (Kp.new np).wr np
    have hp1 : (upd (upd H p (.dK [])) p (.dK othV)) p = some (.dK othV) := upd_same
    generalize (upd (upd H p (.dK [])) p (.dK othV)) = H1 at k1 hp1 ⊢
    have hl1 := k1 _ _ not0 hl
    refine ⟨_, .inl ⟨othV, Sum.inr z, .inl hp1, rfl, rfl⟩, ?_⟩
    by_cases hz : z ∈ kindsL
    case neg =>
      rw [keyNot oth_keys hz, if_pos (by rfl)]
      exact some_use hl1 bn bl fun t ws H2 h2 wm wl k2 => q t _ H2 (dqTup h2) (lzT hz wm wl bok) (k1.trans k2)
    obtain ⟨k, ek, gk⟩ := oth_at hz
    rw [ek, if_neg (by exact Bool.false_ne_true)]
    have gz : z ∈ groupL z := by
      have : ∀ z ∈ kindsL, z ∈ groupL z := by decide +kernel
      exact this z hz
    have two : ∀ k ∈ groupL z, spSome [V.int (n / 2 % 405), V.ref l, V.int 4] H1 (fun x_2 H1 => CDiv n 810 ∧ spSome [V.int (n / 810), V.ref l, V.int 4] H1 (fun x_3 H1 => 3 ≤ sizeLine ∧ ∀ (p : Addr), H1 p = none → Q (V.ref p) (upd H1 p (HO.tup [x_2, V.str k, x_3]))) E0) E0 := fun k gk => by
      refine some_use hl1 bn bl fun t ws H2 h2 wm wl k2 => ⟨⟨by decide, by decide⟩, some_use (k2 _ _ not0 hl1) bn bl fun t3 ws3 H3 h3 wm3 wl3 k3 => ⟨small (by decide), fun p4 n4 => ?_⟩⟩
      refine q p4 _ _ (.tup upd_same (.cons (dqTup (((k3.trans (Kp.new n4))) _ _ not0 h2)) (.cons (.str k) (.cons (dqTup ((Kp.new (S := []) n4) _ _ not0 h3)) .nil)))) (lzK hz gk wm wm3 wl wl3 bok) (((k1.trans k2).trans k3).trans (Kp.new n4))
    refine ⟨by decide, ite2 (fun h => ?_) (fun h => ⟨⟨by decide, by decide⟩, by decide, two z gz⟩)⟩
    exact ⟨_, .inl ⟨othV, Sum.inr z, .inl hp1, rfl, ek.symm⟩, ⟨by decide, by decide⟩, by decide, two k gk⟩
end
end My

set_option Elab.async false
set_option linter.all false
set_option maxRecDepth 100000
set_option maxHeartbeats 4000000
namespace My
open PySem L2 NdefX
abbrev s_law_stray : Stmt := top 49
theorem sc_law_stray : FnScope ["_law_number", "_law_marks", "_law_bars", "_law_free", "_law_name_here"] ["_law_number", "_law_marks", "_law_bars"] (defScope s_law_stray) := ⟨rfl, rfl, rfl, by decide +kernel, rfl, by decide +kernel, by decide +kernel⟩
abbrev s_law_unknown : Stmt := top 50
theorem sc_law_unknown : FnScope ["_law_number", "_law_marks", "_law_bars", "_law_free", "_law_name_here"] ["_law_number", "_law_marks", "_law_bars"] (defScope s_law_unknown) := ⟨rfl, rfl, rfl, by decide +kernel, rfl, by decide +kernel, by decide +kernel⟩

theorem nameS_ok {z : Str} (h : nameS z = true) : PyData.strOk z = true := by
  unfold nameS at h
  rw [Bool.and_eq_true, Bool.and_eq_true] at h
  have h2 := h.2.2
  show (z.cps.all (· < 0x110000)) = true
  rw [← Array.all_toList, List.all_eq_true]
  intro c hc
  have := List.all_eq_true.mp h2 c hc
  unfold lowC at this
  rw [Bool.and_eq_true, decide_eq_true_eq, decide_eq_true_eq] at this
  exact decide_eq_true (by omega)
theorem goodF_name {z : Str} (h : goodF z = true) : nameS z = true := by
  unfold goodF fenS at h
  rw [Bool.and_eq_true, Bool.and_eq_true] at h
  exact h.2.1
theorem goodF_ok {z : Str} (h : goodF z = true) : PyData.strOk z = true := nameS_ok (goodF_name h)
theorem goodF_nret {z : Str} (h : goodF z = true) : z ∉ retK := by
  unfold goodF fenS at h
  rw [Bool.and_eq_true, Bool.and_eq_true, Bool.and_eq_true] at h
  intro hm
  rcases List.mem_append.mp hm with hm | hm
  · have := h.2.2.1
    rw [decide_eq_true hm] at this; cases this
  · have := h.2.2.2
    rw [decide_eq_true (List.mem_singleton.mp hm)] at this; cases this
theorem goodF_nfull {z : Str} (h : goodF z = true) : z ≠ "full" := fun e => by
  rw [e] at h
  exact absurd h (by decide +kernel)
def strayL : List Str := ["", "read", "return", "Full"]
def unkL : List Str := ["", "reader", "Full", "ahead", "none"]
theorem stray_bad : ∀ z ∈ strayL, goodF z = false ∧ z ≠ "full" ∧ PyData.strOk z = true := by decide +kernel
theorem unk_ok : ∀ z ∈ unkL, PyData.strOk z = true := by decide +kernel
def spStray : Sp := fun vs H Q _ => ∃ (n : Int) (m b : Addr) (ms bs : List Str), vs = [.int n, .ref m, .ref b] ∧ m ≠ b ∧ KyAt H m ms ∧ KyAt H b bs ∧ (∀ z ∈ ms, goodF z = true) ∧ (∀ z ∈ bs, goodF z = true) ∧ ms.length ≤ 100 ∧ ∀ (s : Str) (H' : Hp), s ∉ bs ++ [("full" : Str)] → PyData.strOk s = true → Kp [] H H' → Q (.str s) H'
def spUnk : Sp := fun vs H Q _ => ∃ (n : Int) (m b : Addr) (ms bs : List Str), vs = [.int n, .ref m, .ref b] ∧ m ≠ b ∧ KyAt H m ms ∧ KyAt H b bs ∧ (∀ z ∈ bs, goodF z = true) ∧ bs.length ≤ 100 ∧ ∀ (s : Str) (H' : Hp), PyData.strOk s = true → Kp [] H H' → Q (.str s) H'
theorem kpBack {H H1 : Hp} {m : Addr} {u : HO} (k : Kp [m] H H1) (h : H m = some u) : Kp [] H (upd H1 m u) := fun b o _ e => by
  by_cases z : b = m
  · subst z
    rw [h] at e; cases e
    exact upd_same
  · rw [upd_ne z]
    exact k b o (not1 z) e
theorem free_hd {ms bs : List Str} {z : Str} (h : ((ms.filter fun z => !decide (z ∈ bs)).map V.str)[0]? = some (V.str z)) : z ∈ ms ∧ z ∉ bs := by
  rw [List.getElem?_map] at h
  cases e : (ms.filter fun z => !decide (z ∈ bs))[0]? with
  | none => rw [e] at h; cases h
  | some y =>
    rw [e] at h
    cases h
    have := List.mem_filter.mp (List.mem_of_getElem? e)
    refine ⟨this.1, fun hb => ?_⟩
    have h2 := this.2
    rw [decide_eq_true hb] at h2; cases h2
section
variable {P : Program} {w : World} {K : PySem.W.Frag} {mg : Str → Option Value} {base : Heap}
theorem ok_law_stray {f : Addr} {fd : FuncData} (D : Df K mg "_law_stray" s_law_stray ["_law_number", "_law_marks", "_law_bars"] f fd) (T : BtL mg) : FnOk P w K mg base CX0 1 f fd ["_law_number", "_law_marks", "_law_bars"] spStray := by
  refine D.F.ok sc_law_stray (fun vs H Q E h => ?_) (fun cdv A outer s H vs Q E hr h => ?_)
  · obtain ⟨_, _, _, _, _, rfl, _⟩ := h
    rfl
  · obtain ⟨n, m, b, ms, bs, rfl, mb, ⟨km, hm, em⟩, ⟨kb, hb, eb⟩, gm, gb, ml, q⟩ := h
    have hu := hu_of hr
    refine ⟨_, (pss_cons (ps_lock (ps_setLc (i := 3) (own := [("_law_name_here", 4)]) (g := (gName 4)) rfl sc_law_stray.nd rfl rfl (sw_true rfl rfl rfl (by decide +kernel)) (pi_keys (pv 1)) (blkOk_by (N := ["_law_number", "_law_marks", "_law_bars", "_law_free", "_law_name_here"]) (sc := defScope s_law_stray) (by decide +kernel)) (fun _ _ _ _ _ => (pg_name (i := 4) sc_law_stray.nd rfl (Or.inl rfl))) (fun _ _ _ _ _ => (pts_one (pt_cmp (pc_dnotin hu (pv 4) (pv 2))))) (fun _ _ _ _ _ => (pv 4))))
      (pss_cons (ps_if (PW.pt (pw_and (pt_cmpR op_gt (pe_callB (id := "len") (r := Evl.rLenS K) call_len_seq (by rfl) T.b_len PySem.boot_len (pa_cons (pv 3) pa_nil)) pe_int (nomark _)) (pw_and1 (pt_cmpR op_gt (pe_op op_mod (pe_callTy (T := "int") call_int1 (by rfl) T.b_int (by decide +kernel) (pa_cons (pv 0) pa_nil)) pe_int) pe_int (nomark _))))) (pss_one (ps_ret (pe_ix (r := rIxL K) ix_list (pv 3) pe_int (fun _ _ => rfl)))) pss_nil)
      (pss_one (ps_ret (pe_ix (r := rIxL K) ix_list (pe_lst (pa_cons pe_str (pa_cons pe_str (pa_cons pe_str (pa_cons pe_str pa_nil))))) (pe_op op_mod (pe_callTy (T := "int") call_int1 (by rfl) T.b_int (by decide +kernel) (pa_cons (pe_op op_fdiv (pv 0) pe_int) pa_nil)) pe_int) (fun _ _ => rfl)))))), ?_⟩
    try simp (maxSteps := 1000000) only [tSeq, tIfS, tTest, tOp, tUn, tCB, tCons, tNil, tVar, tC, rI0, rI, rU, rEq, rNe, tRet, tRetN, tAsg, gName, gSub, tBM, tBM0, tNext, tB, tNot, tAnd, tOr, tIf, tCall, tDrop, tBreak, tCont, L2.start, tDGet, sDPut, tTup, tLst, tDNewK, tRevL, rCat, rAppend, rPop, rSetL, tAndV, tOrV, tNotV, tSl, tPart, tNoPart, tM1, gTup, gCons, gNil, cxK, cxnK, List.map_cons, List.map_nil, List.length_cons, List.length_nil, List.replicate, List.cons_append, List.nil_append, List.append_nil, List.set_cons_zero, List.set_cons_succ, List.getElem?_cons_zero, List.getElem?_cons_succ, Option.some.injEq, V.ref.injEq, V.int.injEq, V.str.injEq, V.bl.injEq, V.ty.injEq, exists_eq_left', exists_eq_left, exists_and_left, List.cons.injEq, and_true, true_and, sc_ii, sc_ss, sc_bb, sc_ni, sc_in, sc_is, sc_si, sc_nn, decide_true, decide_false, reduceCtorEq, Bool.false_eq_true, if_true, if_false, ite_true, ite_false, exists_const, eq_self, false_and, and_false, or_false, false_or, exists_false, Evl.rLenS, rSum, wipe, tYes, exists_eq, exists_eq', rIxL, rIxT, rIxS, exists_and_right, gt_iff_lt, not_true_eq_false, not_false_eq_true, Bool.not_true, Bool.not_false, decide_eq_true_eq, Nat.reduceSub, Nat.reduceAdd, List.append_assoc, tChain, tDIn, tDNotIn, sDDel, tAug, ipI]
    refine ⟨m, .dK km, hm, True.intro, fun od => ?_⟩
    refine ⟨_, rfl, m, od, rfl, .inl ⟨km, upd_same, fun D nD => ?_⟩⟩
    refine lc_it walk_keys (fun i H' => H' D = some (.lst (((ms.take i).filter fun z => !decide (z ∈ bs)).map V.str)) ∧ H' m = some (.frz od (.dK km)) ∧ Kp [m] H H') ?_ (fun i H' _ h => h.2.1) ?_ ?_
    · have MD : m ≠ D := fun z => by rw [← z, upd_same] at nD; cases nD
      have k0 : Kp [m] H (upd H m (.frz od (.dK km))) := (Kp.refl [m] H).put (by simp)
      exact ⟨by rw [List.take_zero]; exact upd_same, by rw [upd_ne MD]; exact upd_same, k0.trans (Kp.new nD).of0⟩
    · rintro i x H1 H2 hi ⟨h1, h2, k1⟩ ⟨rfl, k, v, e, rfl⟩
      obtain ⟨z, ez, rfl⟩ : ∃ z, ms[i]? = some z ∧ k = Sum.inr z := by
        have e2 : (km.map (·.1))[i]? = some k := by rw [List.getElem?_map, e]; rfl
        rw [em, List.getElem?_map] at e2
        cases e3 : ms[i]? with
        | none => rw [e3] at e2; cases e2
        | some z => rw [e3] at e2; exact ⟨z, rfl, (Option.some.inj e2).symm⟩
      have il := (List.getElem?_eq_some_iff.mp ez).1
      have st : (ms.take (i + 1)).filter (fun z => !decide (z ∈ bs)) = (ms.take i).filter (fun z => !decide (z ∈ bs)) ++ (if (!decide (z ∈ bs)) = true then [z] else []) := filter_take ez
      have hB1 := k1 _ _ (not1 mb.symm) hb
      have DM : D ≠ m := fun z => by rw [z, h2] at h1; cases h1
      try simp (maxSteps := 1000000) only [tSeq, tIfS, tTest, tOp, tUn, tCB, tCons, tNil, tVar, tC, rI0, rI, rU, rEq, rNe, tRet, tRetN, tAsg, gName, gSub, tBM, tBM0, tNext, tB, tNot, tAnd, tOr, tIf, tCall, tDrop, tBreak, tCont, L2.start, tDGet, sDPut, tTup, tLst, tDNewK, tRevL, rCat, rAppend, rPop, rSetL, tAndV, tOrV, tNotV, tSl, tPart, tNoPart, tM1, gTup, gCons, gNil, cxK, cxnK, List.map_cons, List.map_nil, List.length_cons, List.length_nil, List.replicate, List.cons_append, List.nil_append, List.append_nil, List.set_cons_zero, List.set_cons_succ, List.getElem?_cons_zero, List.getElem?_cons_succ, Option.some.injEq, V.ref.injEq, V.int.injEq, V.str.injEq, V.bl.injEq, V.ty.injEq, exists_eq_left', exists_eq_left, exists_and_left, List.cons.injEq, and_true, true_and, sc_ii, sc_ss, sc_bb, sc_ni, sc_in, sc_is, sc_si, sc_nn, decide_true, decide_false, reduceCtorEq, Bool.false_eq_true, if_true, if_false, ite_true, ite_false, exists_const, eq_self, false_and, and_false, or_false, false_or, exists_false, Evl.rLenS, rSum, wipe, tYes, exists_eq, exists_eq', rIxL, rIxT, rIxS, exists_and_right, gt_iff_lt, not_true_eq_false, not_false_eq_true, Bool.not_true, Bool.not_false, decide_eq_true_eq, Nat.reduceSub, Nat.reduceAdd, List.append_assoc, tChain, tDIn, tDNotIn, sDDel, tAug, ipI]
      refine ⟨_, .inl ⟨kb, Sum.inr z, .inl hB1, rfl, rfl⟩, ?_⟩
      rw [keyHas eb]
      refine ite2 (fun h => ?_) (fun h => ?_)
      · rw [h, if_pos rfl] at st
        refine ⟨_, h1, ?_, by rw [upd_same, st, List.map_append]; rfl, by rw [upd_ne DM.symm]; exact h2, ?_⟩
        · rw [List.length_map]
          exact smallL (Nat.le_trans (List.length_filter_le _ _) (by rw [List.length_take]; omega))
        · refine k1.wr ?_
          cases eD : H D with
          | none => rfl
          | some u =>
            have k00 : Kp [m] H (upd H m (.frz od (.dK km))) := (Kp.refl [m] H).put (by simp)
            have := k00 D u (not1 DM) eD
            rw [nD] at this; cases this
      · rw [if_neg h, List.append_nil] at st
        rw [st]
        exact ⟨h1, h2, k1⟩
    · rintro H1 ⟨h1, h2, k1⟩
      have kl : km.length = ms.length := by have := congrArg List.length em; simpa using this
      rw [kl, List.take_length] at h1
      have kz : Kp [] H (upd H1 m (.dK km)) := kpBack k1 hm
      have DM : D ≠ m := fun z => by rw [z, h2] at h1; cases h1
      have h1 : (upd H1 m (.dK km)) D = some (.lst ((ms.filter fun z => !decide (z ∈ bs)).map V.str)) := by rw [upd_ne DM]; exact h1
      try simp (maxSteps := 1000000) only [tSeq, tIfS, tTest, tOp, tUn, tCB, tCons, tNil, tVar, tC, rI0, rI, rU, rEq, rNe, tRet, tRetN, tAsg, gName, gSub, tBM, tBM0, tNext, tB, tNot, tAnd, tOr, tIf, tCall, tDrop, tBreak, tCont, L2.start, tDGet, sDPut, tTup, tLst, tDNewK, tRevL, rCat, rAppend, rPop, rSetL, tAndV, tOrV, tNotV, tSl, tPart, tNoPart, tM1, gTup, gCons, gNil, cxK, cxnK, List.map_cons, List.map_nil, List.length_cons, List.length_nil, List.replicate, List.cons_append, List.nil_append, List.append_nil, List.set_cons_zero, List.set_cons_succ, List.getElem?_cons_zero, List.getElem?_cons_succ, Option.some.injEq, V.ref.injEq, V.int.injEq, V.str.injEq, V.bl.injEq, V.ty.injEq, exists_eq_left', exists_eq_left, exists_and_left, List.cons.injEq, and_true, true_and, sc_ii, sc_ss, sc_bb, sc_ni, sc_in, sc_is, sc_si, sc_nn, decide_true, decide_false, reduceCtorEq, Bool.false_eq_true, if_true, if_false, ite_true, ite_false, exists_const, eq_self, false_and, and_false, or_false, false_or, exists_false, Evl.rLenS, rSum, wipe, tYes, exists_eq, exists_eq', rIxL, rIxT, rIxS, exists_and_right, gt_iff_lt, not_true_eq_false, not_false_eq_true, Bool.not_true, Bool.not_false, decide_eq_true_eq, Nat.reduceSub, Nat.reduceAdd, List.append_assoc, tChain, tDIn, tDNotIn, sDDel, tAug, ipI]
      refine ⟨h2, ?_⟩
      generalize (upd H1 m (.dK km)) = H3 at kz h1 ⊢
      have e4 : ([V.str (Str.ofString ""), V.str (Str.ofString "read"), V.str (Str.ofString "return"), V.str (Str.ofString "Full")] : List V) = strayL.map V.str := rfl
      rw [e4]
      have last : 4 ≤ sizeLine ∧ ∀ (p : Addr), H3 p = none → CDiv n 3 ∧ 0 < (4 : Int) ∧ ∃ x, SqL K (upd H3 p (HO.lst (strayL.map V.str))) p x ∧ ∃ x_1, atI x (n / 3 % 4) = some x_1 ∧ Q x_1 (upd H3 p (HO.lst (strayL.map V.str))) := by
        refine ⟨small (by decide), fun p np => ⟨⟨by decide, by decide⟩, by decide, _, sq_l upd_same, ?_⟩⟩
        obtain ⟨v, hv, ev⟩ := atI_ex (xs := strayL.map V.str) (i := n / 3 % 4) (Int.emod_nonneg _ (by decide)) (Int.emod_lt_of_pos _ (by decide))
        obtain ⟨z, hz, rfl⟩ := List.mem_map.mp hv
        refine ⟨_, ev, ?_⟩
        obtain ⟨b1, b2, b3⟩ := stray_bad z hz
        refine q z _ (fun hm => ?_) b3 (kz.trans (Kp.new np))
        rcases List.mem_append.mp hm with hm | hm
        · rw [gb z hm] at b1; cases b1
        · exact b2 (List.mem_singleton.mp hm)
      refine ⟨_, .inl (sq_l h1), ?_⟩
      refine ite2 (fun h => ⟨by decide, ite2 (fun _ => ?_) (fun _ => last)⟩) (fun _ => last)
      obtain ⟨z, ez⟩ : ∃ z, ((ms.filter fun z => !decide (z ∈ bs)).map V.str)[0]? = some (V.str z) := by
        cases e : (ms.filter fun z => !decide (z ∈ bs)) with
        | nil => rw [e] at h; exact absurd h (by decide)
        | cons z r => exact ⟨z, rfl⟩
      obtain ⟨zm, zb⟩ := free_hd ez
      refine ⟨_, sq_l h1, _, atI_of (by decide) ez, ?_⟩
      refine q z H3 (fun hm => ?_) (goodF_ok (gm z zm)) kz
      rcases List.mem_append.mp hm with hm | hm
      · exact zb hm
      · exact goodF_nfull (gm z zm) (List.mem_singleton.mp hm)
theorem ok_law_unknown {f : Addr} {fd : FuncData} (D : Df K mg "_law_unknown" s_law_unknown ["_law_number", "_law_marks", "_law_bars"] f fd) (T : BtL mg) : FnOk P w K mg base CX0 1 f fd ["_law_number", "_law_marks", "_law_bars"] spUnk := by
  refine D.F.ok sc_law_unknown (fun vs H Q E h => ?_) (fun cdv A outer s H vs Q E hr h => ?_)
  · obtain ⟨_, _, _, _, _, rfl, _⟩ := h
    rfl
  · obtain ⟨n, m, b, ms, bs, rfl, mb, ⟨km, hm, em⟩, ⟨kb, hb, eb⟩, gb, ml, q⟩ := h
    have hu := hu_of hr
    refine ⟨_, (pss_cons (ps_lock (ps_setLc (i := 3) (own := [("_law_name_here", 4)]) (g := (gName 4)) rfl sc_law_unknown.nd rfl rfl (sw_true rfl rfl rfl (by decide +kernel)) (pi_keys (pv 2)) (blkOk_by (N := ["_law_number", "_law_marks", "_law_bars", "_law_free", "_law_name_here"]) (sc := defScope s_law_unknown) (by decide +kernel)) (fun _ _ _ _ _ => (pg_name (i := 4) sc_law_unknown.nd rfl (Or.inl rfl))) (fun _ _ _ _ _ => (pts_one (pt_cmp (pc_dnotin hu (pv 4) (pv 1))))) (fun _ _ _ _ _ => (pv 4))))
      (pss_cons (ps_if (PW.pt (pw_and (pt_cmpR op_gt (pe_callB (id := "len") (r := Evl.rLenS K) call_len_seq (by rfl) T.b_len PySem.boot_len (pa_cons (pv 3) pa_nil)) pe_int (nomark _)) (pw_and1 (pt_cmpR op_gt (pe_op op_mod (pe_callTy (T := "int") call_int1 (by rfl) T.b_int (by decide +kernel) (pa_cons (pv 0) pa_nil)) pe_int) pe_int (nomark _))))) (pss_one (ps_ret (pe_ix (r := rIxL K) ix_list (pv 3) pe_int (fun _ _ => rfl)))) pss_nil)
      (pss_one (ps_ret (pe_ix (r := rIxL K) ix_list (pe_lst (pa_cons pe_str (pa_cons pe_str (pa_cons pe_str (pa_cons pe_str (pa_cons pe_str pa_nil)))))) (pe_op op_mod (pe_callTy (T := "int") call_int1 (by rfl) T.b_int (by decide +kernel) (pa_cons (pe_op op_fdiv (pv 0) pe_int) pa_nil)) pe_int) (fun _ _ => rfl)))))), ?_⟩
    try simp (maxSteps := 1000000) only [tSeq, tIfS, tTest, tOp, tUn, tCB, tCons, tNil, tVar, tC, rI0, rI, rU, rEq, rNe, tRet, tRetN, tAsg, gName, gSub, tBM, tBM0, tNext, tB, tNot, tAnd, tOr, tIf, tCall, tDrop, tBreak, tCont, L2.start, tDGet, sDPut, tTup, tLst, tDNewK, tRevL, rCat, rAppend, rPop, rSetL, tAndV, tOrV, tNotV, tSl, tPart, tNoPart, tM1, gTup, gCons, gNil, cxK, cxnK, List.map_cons, List.map_nil, List.length_cons, List.length_nil, List.replicate, List.cons_append, List.nil_append, List.append_nil, List.set_cons_zero, List.set_cons_succ, List.getElem?_cons_zero, List.getElem?_cons_succ, Option.some.injEq, V.ref.injEq, V.int.injEq, V.str.injEq, V.bl.injEq, V.ty.injEq, exists_eq_left', exists_eq_left, exists_and_left, List.cons.injEq, and_true, true_and, sc_ii, sc_ss, sc_bb, sc_ni, sc_in, sc_is, sc_si, sc_nn, decide_true, decide_false, reduceCtorEq, Bool.false_eq_true, if_true, if_false, ite_true, ite_false, exists_const, eq_self, false_and, and_false, or_false, false_or, exists_false, Evl.rLenS, rSum, wipe, tYes, exists_eq, exists_eq', rIxL, rIxT, rIxS, exists_and_right, gt_iff_lt, not_true_eq_false, not_false_eq_true, Bool.not_true, Bool.not_false, decide_eq_true_eq, Nat.reduceSub, Nat.reduceAdd, List.append_assoc, tChain, tDIn, tDNotIn, sDDel, tAug, ipI]
    refine ⟨b, .dK kb, hb, True.intro, fun od => ?_⟩
    refine ⟨_, rfl, b, od, rfl, .inl ⟨kb, upd_same, fun D nD => ?_⟩⟩
    refine lc_it walk_keys (fun i H' => H' D = some (.lst (((bs.take i).filter fun z => !decide (z ∈ ms)).map V.str)) ∧ H' b = some (.frz od (.dK kb)) ∧ Kp [b] H H') ?_ (fun i H' _ h => h.2.1) ?_ ?_
    · have MD : b ≠ D := fun z => by rw [← z, upd_same] at nD; cases nD
      have k0 : Kp [b] H (upd H b (.frz od (.dK kb))) := (Kp.refl [b] H).put (by simp)
      exact ⟨by rw [List.take_zero]; exact upd_same, by rw [upd_ne MD]; exact upd_same, k0.trans (Kp.new nD).of0⟩
    · rintro i x H1 H2 hi ⟨h1, h2, k1⟩ ⟨rfl, k, v, e, rfl⟩
      obtain ⟨z, ez, rfl⟩ : ∃ z, bs[i]? = some z ∧ k = Sum.inr z := by
        have e2 : (kb.map (·.1))[i]? = some k := by rw [List.getElem?_map, e]; rfl
        rw [eb, List.getElem?_map] at e2
        cases e3 : bs[i]? with
        | none => rw [e3] at e2; cases e2
        | some z => rw [e3] at e2; exact ⟨z, rfl, (Option.some.inj e2).symm⟩
      have il := (List.getElem?_eq_some_iff.mp ez).1
      have st : (bs.take (i + 1)).filter (fun z => !decide (z ∈ ms)) = (bs.take i).filter (fun z => !decide (z ∈ ms)) ++ (if (!decide (z ∈ ms)) = true then [z] else []) := filter_take ez
      have hB1 := k1 _ _ (not1 mb) hm
      have DM : D ≠ b := fun z => by rw [z, h2] at h1; cases h1
      try simp (maxSteps := 1000000) only [tSeq, tIfS, tTest, tOp, tUn, tCB, tCons, tNil, tVar, tC, rI0, rI, rU, rEq, rNe, tRet, tRetN, tAsg, gName, gSub, tBM, tBM0, tNext, tB, tNot, tAnd, tOr, tIf, tCall, tDrop, tBreak, tCont, L2.start, tDGet, sDPut, tTup, tLst, tDNewK, tRevL, rCat, rAppend, rPop, rSetL, tAndV, tOrV, tNotV, tSl, tPart, tNoPart, tM1, gTup, gCons, gNil, cxK, cxnK, List.map_cons, List.map_nil, List.length_cons, List.length_nil, List.replicate, List.cons_append, List.nil_append, List.append_nil, List.set_cons_zero, List.set_cons_succ, List.getElem?_cons_zero, List.getElem?_cons_succ, Option.some.injEq, V.ref.injEq, V.int.injEq, V.str.injEq, V.bl.injEq, V.ty.injEq, exists_eq_left', exists_eq_left, exists_and_left, List.cons.injEq, and_true, true_and, sc_ii, sc_ss, sc_bb, sc_ni, sc_in, sc_is, sc_si, sc_nn, decide_true, decide_false, reduceCtorEq, Bool.false_eq_true, if_true, if_false, ite_true, ite_false, exists_const, eq_self, false_and, and_false, or_false, false_or, exists_false, Evl.rLenS, rSum, wipe, tYes, exists_eq, exists_eq', rIxL, rIxT, rIxS, exists_and_right, gt_iff_lt, not_true_eq_false, not_false_eq_true, Bool.not_true, Bool.not_false, decide_eq_true_eq, Nat.reduceSub, Nat.reduceAdd, List.append_assoc, tChain, tDIn, tDNotIn, sDDel, tAug, ipI]
      refine ⟨_, .inl ⟨km, Sum.inr z, .inl hB1, rfl, rfl⟩, ?_⟩
      rw [keyHas em]
      refine ite2 (fun h => ?_) (fun h => ?_)
      · rw [h, if_pos rfl] at st
        refine ⟨_, h1, ?_, by rw [upd_same, st, List.map_append]; rfl, by rw [upd_ne DM.symm]; exact h2, ?_⟩
        · rw [List.length_map]
          exact smallL (Nat.le_trans (List.length_filter_le _ _) (by rw [List.length_take]; omega))
        · refine k1.wr ?_
          cases eD : H D with
          | none => rfl
          | some u =>
            have k00 : Kp [b] H (upd H b (.frz od (.dK kb))) := (Kp.refl [b] H).put (by simp)
            have := k00 D u (not1 DM) eD
            rw [nD] at this; cases this
      · rw [if_neg h, List.append_nil] at st
        rw [st]
        exact ⟨h1, h2, k1⟩
    · rintro H1 ⟨h1, h2, k1⟩
      have kl : kb.length = bs.length := by have := congrArg List.length eb; simpa using this
      rw [kl, List.take_length] at h1
      have kz : Kp [] H (upd H1 b (.dK kb)) := kpBack k1 hb
      have DM : D ≠ b := fun z => by rw [z, h2] at h1; cases h1
      have h1 : (upd H1 b (.dK kb)) D = some (.lst ((bs.filter fun z => !decide (z ∈ ms)).map V.str)) := by rw [upd_ne DM]; exact h1
      try simp (maxSteps := 1000000) only [tSeq, tIfS, tTest, tOp, tUn, tCB, tCons, tNil, tVar, tC, rI0, rI, rU, rEq, rNe, tRet, tRetN, tAsg, gName, gSub, tBM, tBM0, tNext, tB, tNot, tAnd, tOr, tIf, tCall, tDrop, tBreak, tCont, L2.start, tDGet, sDPut, tTup, tLst, tDNewK, tRevL, rCat, rAppend, rPop, rSetL, tAndV, tOrV, tNotV, tSl, tPart, tNoPart, tM1, gTup, gCons, gNil, cxK, cxnK, List.map_cons, List.map_nil, List.length_cons, List.length_nil, List.replicate, List.cons_append, List.nil_append, List.append_nil, List.set_cons_zero, List.set_cons_succ, List.getElem?_cons_zero, List.getElem?_cons_succ, Option.some.injEq, V.ref.injEq, V.int.injEq, V.str.injEq, V.bl.injEq, V.ty.injEq, exists_eq_left', exists_eq_left, exists_and_left, List.cons.injEq, and_true, true_and, sc_ii, sc_ss, sc_bb, sc_ni, sc_in, sc_is, sc_si, sc_nn, decide_true, decide_false, reduceCtorEq, Bool.false_eq_true, if_true, if_false, ite_true, ite_false, exists_const, eq_self, false_and, and_false, or_false, false_or, exists_false, Evl.rLenS, rSum, wipe, tYes, exists_eq, exists_eq', rIxL, rIxT, rIxS, exists_and_right, gt_iff_lt, not_true_eq_false, not_false_eq_true, Bool.not_true, Bool.not_false, decide_eq_true_eq, Nat.reduceSub, Nat.reduceAdd, List.append_assoc, tChain, tDIn, tDNotIn, sDDel, tAug, ipI]
      refine ⟨h2, ?_⟩
      generalize (upd H1 b (.dK kb)) = H3 at kz h1 ⊢
      have e4 : ([V.str (Str.ofString ""), V.str (Str.ofString "reader"), V.str (Str.ofString "Full"), V.str (Str.ofString "ahead"), V.str (Str.ofString "none")] : List V) = unkL.map V.str := rfl
      rw [e4]
      have last : 5 ≤ sizeLine ∧ ∀ (p : Addr), H3 p = none → CDiv n 3 ∧ 0 < (5 : Int) ∧ ∃ x, SqL K (upd H3 p (HO.lst (unkL.map V.str))) p x ∧ ∃ x_1, atI x (n / 3 % 5) = some x_1 ∧ Q x_1 (upd H3 p (HO.lst (unkL.map V.str))) := by
        refine ⟨small (by decide), fun p np => ⟨⟨by decide, by decide⟩, by decide, _, sq_l upd_same, ?_⟩⟩
        obtain ⟨v, hv, ev⟩ := atI_ex (xs := unkL.map V.str) (i := n / 3 % 5) (Int.emod_nonneg _ (by decide)) (Int.emod_lt_of_pos _ (by decide))
        obtain ⟨z, hz, rfl⟩ := List.mem_map.mp hv
        refine ⟨_, ev, ?_⟩
        exact q z _ (unk_ok z hz) (kz.trans (Kp.new np))
      refine ⟨_, .inl (sq_l h1), ?_⟩
      refine ite2 (fun h => ⟨by decide, ite2 (fun _ => ?_) (fun _ => last)⟩) (fun _ => last)
      obtain ⟨z, ez⟩ : ∃ z, ((bs.filter fun z => !decide (z ∈ ms)).map V.str)[0]? = some (V.str z) := by
        cases e : (bs.filter fun z => !decide (z ∈ ms)) with
        | nil => rw [e] at h; exact absurd h (by decide)
        | cons z r => exact ⟨z, rfl⟩
      obtain ⟨zm, zb⟩ := free_hd ez
      refine ⟨_, sq_l h1, _, atI_of (by decide) ez, ?_⟩
      exact q z H3 (goodF_ok (gb z zm)) kz
end
end My

set_option Elab.async false
set_option linter.all false
set_option maxRecDepth 100000
set_option maxHeartbeats 4000000
namespace My
open PySem L2 NdefX
abbrev s_law_bad_row : Stmt := top 48
theorem sc_law_bad_row : FnScope ["_law_name_here", "_law_number", "_law_bars", "_law_stray_here", "_law_far", "_law_odd"] ["_law_name_here", "_law_number", "_law_bars", "_law_stray_here"] (defScope s_law_bad_row) := ⟨rfl, rfl, rfl, by decide +kernel, rfl, by decide +kernel, by decide +kernel⟩
def farL : List (Str × Str) := [("read", "both"), ("acquire", "write"), ("write", "read"), ("release", "both"), ("both", "release")]
def farV : List (Key × V) := farL.map fun p => ((Sum.inr p.1 : Key), V.str p.2)
theorem far_at {z : Str} (hz : z ∈ kindsL) : ∃ k, valV farV (Sum.inr z) = some (.str k) ∧ k ∉ groupL z ∧ PyData.strOk k = true := by
  have e : kindsL = [("read" : Str), ("acquire" : Str), ("write" : Str), ("release" : Str), ("both" : Str)] := rfl
  rw [e] at hz
  rcases List.mem_cons.mp hz with rfl | hz
  · exact ⟨"both", rfl, by decide +kernel, by decide +kernel⟩
  rcases List.mem_cons.mp hz with rfl | hz
  · exact ⟨"write", rfl, by decide +kernel, by decide +kernel⟩
  rcases List.mem_cons.mp hz with rfl | hz
  · exact ⟨"read", rfl, by decide +kernel, by decide +kernel⟩
  rcases List.mem_cons.mp hz with rfl | hz
  · exact ⟨"both", rfl, by decide +kernel, by decide +kernel⟩
  rcases List.mem_cons.mp hz with rfl | hz
  · exact ⟨"release", rfl, by decide +kernel, by decide +kernel⟩
  · exact nomatch hz
def bad1a (z f s : Str) : List PyData := [.list [.tuple [], .str z, .tuple []], .tuple [.tuple [], .str z], .tuple [.tuple [], .str f, .tuple []], .tuple [.tuple [.str s], .str z, .tuple []], .tuple [.tuple [], .str z, .tuple [.str "full", .str s]]]
def bad1b (z : Str) : List PyData := [.tuple [.list [.str "full"], .str z, .tuple []], .tuple [.tuple [], .str "return", .tuple []], .tuple [], .tuple [.str "full"], .none, .tuple [.tuple [], .str z, .tuple [], .tuple []]]
def bad1c (z : Str) : List PyData := [.tuple [.tuple [], .none, .tuple []], .tuple [.str "full", .str z, .tuple []], .tuple [.tuple [], .str z, .none]]
def bad2a (s : Str) : List PyData := [.list [.str "full"], .tuple [.str s], .tuple [.str "full", .str s], .tuple [.tuple [], .str "read", .tuple []], .str "full", .none, .tuple [.str "full", .none]]
def bad2b (s : Str) : List PyData := [.tuple [.tuple [.str "full"]], .tuple [.str s, .str "full"]]
def lnB : PyData → Bool
  | .tuple ds => decide (ds.length ≤ 100) && ds.all fun e => match e with | .tuple es => decide (es.length ≤ 100) | _ => true
  | _ => true
theorem lnR_of {d : PyData} (h : lnB d = true) : LnR d := fun ds e => by
  subst e
  have h : (decide (ds.length ≤ 100) && ds.all fun e => match e with | .tuple es => decide (es.length ≤ 100) | _ => true) = true := h
  rw [Bool.and_eq_true, decide_eq_true_eq, List.all_eq_true] at h
  refine ⟨h.1, fun x hx es ee => ?_⟩
  have := h.2 x hx
  subst ee
  exact of_decide_eq_true this
/-- no row of the name z -/
def BdD (z : Str) (fs : List Str) (d : PyData) : Prop := isRowD z fs d = false ∧ LnR d ∧ SeqAt.shaped d = true
theorem shp {d : PyData} (h : d.canLay0 = true) (h2 : d.depth ≤ 64) : SeqAt.shaped d = true := by
  show (d.canLay0 && decide (d.depth ≤ 64)) = true
  rw [h, decide_eq_true h2]; rfl
theorem isRow_k {z : Str} {fs : List Str} {ds : List PyData} (hz : z ∈ kindsL) : isRowD z fs (.tuple ds) = isKd z fs ds := if_pos hz
theorem isRow_n {z : Str} {fs : List Str} {ds : List PyData} (hz : z ∉ kindsL) : isRowD z fs (.tuple ds) = ds.all (inFs fs) := if_neg hz
theorem bad1_ok {z f s : Str} {fs : List Str} (hz : z ∈ kindsL) (hf : f ∉ groupL z) (fo : PyData.strOk f = true) (hs : s ∉ fs) (so : PyData.strOk s = true) : ∀ d ∈ bad1a z f s ++ bad1b z ++ bad1c z, BdD z fs d := by
  have zo : PyData.strOk z = true := by
    have : ∀ z ∈ kindsL, PyData.strOk z = true := by decide +kernel
    exact this z hz
  have fu : PyData.strOk ("full" : Str) = true := by decide +kernel
  have re : PyData.strOk ("return" : Str) = true := by decide +kernel
  have nr : ("return" : Str) ∉ groupL z := by
    have : ∀ z ∈ kindsL, ("return" : Str) ∉ groupL z := by decide +kernel
    exact this z hz
  have a1 : inFs fs (.str s) = false := decide_eq_false hs
  have a2 : inFs (groupL z) (.str f) = false := decide_eq_false hf
  have a3 : inFs (groupL z) (.str "return") = false := decide_eq_false nr
  intro d hd
  simp only [bad1a, bad1b, bad1c, List.cons_append, List.nil_append, List.mem_cons, List.not_mem_nil, or_false] at hd
  rcases hd with rfl | rfl | rfl | rfl | rfl | rfl | rfl | rfl | rfl | rfl | rfl | rfl | rfl | rfl
  all_goals
    refine ⟨?_, lnR_of (by rfl), shp (by simp [PyData.canLay0, PyData.canLayAll0, zo, fo, so, fu, re]) (by simp [PyData.depth, PyData.depthAll])⟩
    first | rfl | (rw [isRow_k hz]; first | rfl | simp [isKd, a1, a2, a3])
theorem bad2_ok {z s : Str} {fs : List Str} (hz : z ∉ kindsL) (hs : s ∉ fs) (so : PyData.strOk s = true) : ∀ d ∈ bad2a s ++ bad2b s, BdD z fs d := by
  have fu : PyData.strOk ("full" : Str) = true := by decide +kernel
  have re : PyData.strOk ("read" : Str) = true := by decide +kernel
  have a1 : inFs fs (.str s) = false := decide_eq_false hs
  intro d hd
  simp only [bad2a, bad2b, List.cons_append, List.nil_append, List.mem_cons, List.not_mem_nil, or_false] at hd
  rcases hd with rfl | rfl | rfl | rfl | rfl | rfl | rfl | rfl | rfl
  all_goals
    refine ⟨?_, lnR_of (by rfl), shp (by simp [PyData.canLay0, PyData.canLayAll0, so, fu, re]) (by simp [PyData.depth, PyData.depthAll])⟩
    first | rfl | (rw [isRow_n hz]; first | rfl | simp [inFs, hs])
def spBad : Sp := fun vs H Q _ => ∃ (z : Str) (n : Int) (l : V) (s : Str), vs = [.str z, .int n, l, .str s] ∧ PyData.strOk s = true ∧ ∀ (v : V) (d : PyData) (H' : Hp), Dq H' v d → (∀ fs : List Str, s ∉ fs → BdD z fs d) → Kp [] H H' → Q v H'
section
variable {P : Program} {w : World} {K : PySem.W.Frag} {mg : Str → Option Value} {base : Heap}
theorem ok_law_bad_row {f : Addr} {fd : FuncData} (D : Df K mg "_law_bad_row" s_law_bad_row ["_law_name_here", "_law_number", "_law_bars", "_law_stray_here"] f fd) (T : BtL mg) : FnOk P w K mg base CX0 1 f fd ["_law_name_here", "_law_number", "_law_bars", "_law_stray_here"] spBad := by
  refine D.F.ok sc_law_bad_row (fun vs H Q E h => ?_) (fun cdv A outer s H vs Q E hr h => ?_)
  · obtain ⟨_, _, _, _, rfl, _⟩ := h
    rfl
  · obtain ⟨z, n, l, s', rfl, so, q⟩ := h
    have hu := hu_of hr
    refine ⟨_, (pss_cons (ps_if (pt_cmpR op_in_seq (pv 0) (pe_tup (pa_cons pe_str (pa_cons pe_str (pa_cons pe_str (pa_cons pe_str (pa_cons pe_str pa_nil)))))) (by rfl)) (pss_cons (ps_set (i := 4) sc_law_bad_row.nd rfl (Or.inl rfl) (pe_dget hu (pe_disp (pps_cons pe_str pe_str (pps_cons pe_str pe_str (pps_cons pe_str pe_str (pps_cons pe_str pe_str (pps_cons pe_str pe_str pps_nil))))) rfl rfl (by simp) (by decide)) (pv 0) (fun _ _ => rfl)))
      (pss_cons (ps_set (i := 5) sc_law_bad_row.nd rfl (Or.inl rfl) (pe_lst (pa_cons (pe_lst (pa_cons (pe_tup pa_nil) (pa_cons (pv 0) (pa_cons (pe_tup pa_nil) pa_nil)))) (pa_cons (pe_tup (pa_cons (pe_tup pa_nil) (pa_cons (pv 0) pa_nil))) (pa_cons (pe_tup (pa_cons (pe_tup pa_nil) (pa_cons (pv 4) (pa_cons (pe_tup pa_nil) pa_nil)))) (pa_cons (pe_tup (pa_cons (pe_tup (pa_cons (pv 3) pa_nil)) (pa_cons (pv 0) (pa_cons (pe_tup pa_nil) pa_nil)))) (pa_cons (pe_tup (pa_cons (pe_tup pa_nil) (pa_cons (pv 0) (pa_cons (pe_tup (pa_cons pe_str (pa_cons (pv 3) pa_nil))) pa_nil)))) pa_nil)))))))
      (pss_cons (ps_set (i := 5) sc_law_bad_row.nd rfl (Or.inl rfl) (pe_op op_cat (pv 5) (pe_lst (pa_cons (pe_tup (pa_cons (pe_lst (pa_cons pe_str pa_nil)) (pa_cons (pv 0) (pa_cons (pe_tup pa_nil) pa_nil)))) (pa_cons (pe_tup (pa_cons (pe_tup pa_nil) (pa_cons pe_str (pa_cons (pe_tup pa_nil) pa_nil)))) (pa_cons (pe_tup pa_nil) (pa_cons (pe_tup (pa_cons pe_str pa_nil)) (pa_cons pe_non (pa_cons (pe_tup (pa_cons (pe_tup pa_nil) (pa_cons (pv 0) (pa_cons (pe_tup pa_nil) (pa_cons (pe_tup pa_nil) pa_nil))))) pa_nil)))))))))
      (pss_cons (ps_set (i := 5) sc_law_bad_row.nd rfl (Or.inl rfl) (pe_op op_cat (pv 5) (pe_lst (pa_cons (pe_tup (pa_cons (pe_tup pa_nil) (pa_cons pe_non (pa_cons (pe_tup pa_nil) pa_nil)))) (pa_cons (pe_tup (pa_cons pe_str (pa_cons (pv 0) (pa_cons (pe_tup pa_nil) pa_nil)))) (pa_cons (pe_tup (pa_cons (pe_tup pa_nil) (pa_cons (pv 0) (pa_cons pe_non pa_nil)))) pa_nil))))))
      (pss_one (ps_ret (pe_ix (r := rIxL K) ix_list (pv 5) (pe_op op_mod (pe_callTy (T := "int") call_int1 (by rfl) T.b_int (by decide +kernel) (pa_cons (pv 1) pa_nil)) pe_int) (fun _ _ => rfl)))))))) pss_nil)
      (pss_cons (ps_set (i := 5) sc_law_bad_row.nd rfl (Or.inl rfl) (pe_lst (pa_cons (pe_lst (pa_cons pe_str pa_nil)) (pa_cons (pe_tup (pa_cons (pv 3) pa_nil)) (pa_cons (pe_tup (pa_cons pe_str (pa_cons (pv 3) pa_nil))) (pa_cons (pe_tup (pa_cons (pe_tup pa_nil) (pa_cons pe_str (pa_cons (pe_tup pa_nil) pa_nil)))) (pa_cons pe_str (pa_cons pe_non (pa_cons (pe_tup (pa_cons pe_str (pa_cons pe_non pa_nil))) pa_nil)))))))))
      (pss_cons (ps_set (i := 5) sc_law_bad_row.nd rfl (Or.inl rfl) (pe_op op_cat (pv 5) (pe_lst (pa_cons (pe_tup (pa_cons (pe_tup (pa_cons pe_str pa_nil)) pa_nil)) (pa_cons (pe_tup (pa_cons (pv 3) (pa_cons pe_str pa_nil))) pa_nil)))))
      (pss_one (ps_ret (pe_ix (r := rIxL K) ix_list (pv 5) (pe_op op_mod (pe_callTy (T := "int") call_int1 (by rfl) T.b_int (by decide +kernel) (pa_cons (pv 1) pa_nil)) pe_int) (fun _ _ => rfl))))))), ?_⟩
    try simp (maxSteps := 1000000) only [tSeq, tIfS, tTest, tUn, tVar, rI0, rI, rU, rEq, rNe, tRet, tRetN, tAsg, gName, gSub, tBM, tBM0, tNext, tB, tNot, tAnd, tOr, tIf, tCall, tDrop, tBreak, tCont, L2.start, tDGet, sDPut, tDNewK, tRevL, rCat, rAppend, rPop, rSetL, tAndV, tOrV, tNotV, tSl, tPart, tNoPart, tM1, gTup, gCons, gNil, cxK, cxnK, List.map_cons, List.map_nil, List.length_cons, List.length_nil, List.replicate, List.cons_append, List.nil_append, List.append_nil, List.set_cons_zero, List.set_cons_succ, List.getElem?_cons_zero, List.getElem?_cons_succ, Option.some.injEq, V.ref.injEq, V.int.injEq, V.str.injEq, V.bl.injEq, V.ty.injEq, exists_eq_left', exists_eq_left, exists_and_left, List.cons.injEq, and_true, true_and, sc_ii, sc_ss, sc_bb, sc_ni, sc_in, sc_is, sc_si, sc_nn, decide_true, decide_false, reduceCtorEq, Bool.false_eq_true, if_true, if_false, ite_true, ite_false, exists_const, eq_self, false_and, and_false, or_false, false_or, exists_false, Evl.rLenS, rSum, wipe, tYes, exists_eq, exists_eq', rIxL, rIxT, rIxS, exists_and_right, gt_iff_lt, not_true_eq_false, not_false_eq_true, Bool.not_true, Bool.not_false, decide_eq_true_eq, Nat.reduceSub, Nat.reduceAdd, List.append_assoc, tChain, tDIn, tDNotIn, sDDel, tAug, ipI]
    refine ⟨.str z, rfl, small (by decide), fun p2 n2 => ⟨p2, kindsL.map V.str, rfl, .inr (sq_t upd_same), rfl, flat_map _, _, rfl, ?_⟩⟩
    rw [if_neg Bool.false_ne_true, in_strs]
    unfold inW
    have k2 : Kp [] H (upd H p2 (.tup (kindsL.map V.str))) := Kp.new n2
    have e2 : (upd H p2 (.tup [V.str (Str.ofString "read"), V.str (Str.ofString "acquire"), V.str (Str.ofString "write"), V.str (Str.ofString "release"), V.str (Str.ofString "both")])) = (upd H p2 (.tup (kindsL.map V.str))) := rfl
    have fin : ∀ {H3 : Hp} {v : V} {ds : List PyData} {c : Option V} {m : Int}, Kp [] H H3 → Dq H3 v (.list ds) → m = (ds.length : Nat) → 0 < m → (∀ d ∈ ds, ∀ fs : List Str, s' ∉ fs → BdD z fs d) → tOp (rIxL K) (tVar 5) (tOp (rI (fun x j => 0 < j) fun i j => V.int (i % j)) (tCB (fun xs H Q => (∃ i, xs = [V.int i] ∧ Q (V.int i) H) ∨ ∃ k, xs = [V.bl k] ∧ Q (V.int (if k = true then 1 else 0)) H) (tCons (tVar 1) tNil)) (tC (V.int m))) [some (V.str z), some (V.int n), some l, some (V.str s'), c, some v] H3 Q := fun {H3 v ds c m} k3 hv em m0 hb => by
      cases hv with
      | @lst p xs _ e1 h1 =>
        try simp (maxSteps := 1000000) only [tSeq, tIfS, tTest, tOp, tUn, tCB, tCons, tNil, tVar, tC, rI0, rI, rU, rEq, rNe, tRet, tRetN, tAsg, gName, gSub, tBM, tBM0, tNext, tB, tNot, tAnd, tOr, tIf, tCall, tDrop, tBreak, tCont, L2.start, tDGet, sDPut, tTup, tLst, tDNewK, tRevL, rCat, rAppend, rPop, rSetL, tAndV, tOrV, tNotV, tSl, tPart, tNoPart, tM1, gTup, gCons, gNil, cxK, cxnK, List.map_cons, List.map_nil, List.length_cons, List.length_nil, List.replicate, List.cons_append, List.nil_append, List.append_nil, List.set_cons_zero, List.set_cons_succ, List.getElem?_cons_zero, List.getElem?_cons_succ, Option.some.injEq, V.ref.injEq, V.int.injEq, V.str.injEq, V.bl.injEq, V.ty.injEq, exists_eq_left', exists_eq_left, exists_and_left, List.cons.injEq, and_true, true_and, sc_ii, sc_ss, sc_bb, sc_ni, sc_in, sc_is, sc_si, sc_nn, decide_true, decide_false, reduceCtorEq, Bool.false_eq_true, if_true, if_false, ite_true, ite_false, exists_const, eq_self, false_and, and_false, or_false, false_or, exists_false, Evl.rLenS, rSum, wipe, tYes, exists_eq, exists_eq', rIxL, rIxT, rIxS, exists_and_right, gt_iff_lt, not_true_eq_false, not_false_eq_true, Bool.not_true, Bool.not_false, decide_eq_true_eq, Nat.reduceSub, Nat.reduceAdd, List.append_assoc, tChain, tDIn, tDNotIn, sDDel, tAug, ipI]
        have xl : m = (xs.length : Nat) := by rw [em, h1.len]
        obtain ⟨x, hx, ex⟩ := atI_ex (xs := xs) (i := n % m) (Int.emod_nonneg _ (by omega)) (by rw [← xl]; exact Int.emod_lt_of_pos _ m0)
        obtain ⟨i, ei⟩ := List.getElem?_of_mem hx
        obtain ⟨d, ed, hd⟩ := h1.get ei
        exact ⟨m0, xs, sq_l e1, x, ex, q x d H3 hd (hb d (List.mem_of_getElem? ed)) k3⟩
    by_cases zk : z ∈ kindsL
    · rw [decide_eq_true zk, if_pos rfl]
      obtain ⟨k, ek, nk, ok⟩ := far_at zk
      rw [e2]
      generalize (upd H p2 (.tup (kindsL.map V.str))) = H2 at k2 ⊢
      intro p np
      refine ⟨upd_same, farV, rfl, by decide, ?_⟩
      have em : mergeK [] farV = farV := rfl
      rw [em]
      have k3 : Kp [] H2 (upd (upd H2 p (.dK [])) p (.dK farV)) := (Kp.new np).wr np
      have hp3 : (upd (upd H2 p (.dK [])) p (.dK farV)) p = some (.dK farV) := upd_same
      refine ⟨p, rfl, .str k, .inl ⟨farV, Sum.inr z, .inl hp3, rfl, ek.symm⟩, ?_⟩
      generalize (upd (upd H2 p (.dK [])) p (.dK farV)) = H3 at k3 ⊢
      refine (de_lst (ds := bad1a z k s') ?_ (by simp [bad1a])) H3 (Kp.refl _ _) _ fun v4 H4 k4 hv4 => ?_
      · repeat' first | exact da_nil | refine da_cons ?_ ?_ | refine de_lst ?_ (by simp) | refine de_tup ?_ (by simp) | exact de_str | exact de_non | exact de_var rfl (.str _)
      refine (de_cat (ds := bad1a z k s') (es := bad1b z) (de_var rfl hv4) (de_lst (ds := bad1b z) ?_ (by simp [bad1b])) (by simp [bad1a]) (by simp [bad1b])) H4 (Kp.refl _ _) _ fun v5 H5 k5 hv5 => ?_
      · repeat' first | exact da_nil | refine da_cons ?_ ?_ | refine de_lst ?_ (by simp) | refine de_tup ?_ (by simp) | exact de_str | exact de_non | exact de_var rfl (.str _)
      refine (de_cat (ds := bad1a z k s' ++ bad1b z) (es := bad1c z) (de_var rfl hv5) (de_lst (ds := bad1c z) ?_ (by simp [bad1c])) (by simp [bad1a, bad1b]) (by simp [bad1c])) H5 (Kp.refl _ _) _ fun v6 H6 k6 hv6 => ?_
      · repeat' first | exact da_nil | refine da_cons ?_ ?_ | refine de_lst ?_ (by simp) | refine de_tup ?_ (by simp) | exact de_str | exact de_non | exact de_var rfl (.str _)
      exact fin (((((k2.trans k3).trans k4).trans k5)).trans k6) hv6 rfl (by decide) fun d hd fs hs => bad1_ok zk nk ok hs so d hd
    · rw [decide_eq_false zk, if_neg Bool.false_ne_true]
      rw [e2]
      generalize (upd H p2 (.tup (kindsL.map V.str))) = H2 at k2 ⊢
      refine (de_lst (ds := bad2a s') ?_ (by simp [bad2a])) H2 (Kp.refl _ _) _ fun v4 H4 k4 hv4 => ?_
      · repeat' first | exact da_nil | refine da_cons ?_ ?_ | refine de_lst ?_ (by simp) | refine de_tup ?_ (by simp) | exact de_str | exact de_non | exact de_var rfl (.str _)
      refine (de_cat (ds := bad2a s') (es := bad2b s') (de_var rfl hv4) (de_lst (ds := bad2b s') ?_ (by simp [bad2b])) (by simp [bad2a]) (by simp [bad2b])) H4 (Kp.refl _ _) _ fun v5 H5 k5 hv5 => ?_
      · repeat' first | exact da_nil | refine da_cons ?_ ?_ | refine de_lst ?_ (by simp) | refine de_tup ?_ (by simp) | exact de_str | exact de_non | exact de_var rfl (.str _)
      exact fin ((k2.trans k4).trans k5) hv5 rfl (by decide) fun d hd fs hs => bad2_ok zk hs so d hd
end
end My

set_option Elab.async false
set_option linter.all false
set_option maxRecDepth 100000
set_option maxHeartbeats 4000000
namespace My
open PySem L2 NdefX
abbrev s_law_holds : Stmt := top 46
theorem sc_law_holds : FnScope ["_law_made", "_law_rows", "_law_name_here"] ["_law_made", "_law_rows"] (defScope s_law_holds) := ⟨rfl, rfl, rfl, by decide +kernel, rfl, by decide +kernel, by decide +kernel⟩
abbrev s_law_set_refusal : Stmt := top 51
theorem sc_law_set_refusal : FnScope ["_law_made", "_law_name_here", "_law_row", "e"] ["_law_made", "_law_name_here", "_law_row"] (defScope s_law_set_refusal) := ⟨rfl, rfl, rfl, by decide +kernel, rfl, by decide +kernel, by decide +kernel⟩
abbrev s_law_look_refusal : Stmt := top 52
theorem sc_law_look_refusal : FnScope ["_law_made", "_law_name_here", "_law_told", "e"] ["_law_made", "_law_name_here"] (defScope s_law_look_refusal) := ⟨rfl, rfl, rfl, by decide +kernel, rfl, by decide +kernel, by decide +kernel⟩
abbrev s_law_three_refused : Stmt := top 53
theorem sc_law_three_refused : FnScope ["_law_made", "_law_rows", "_law_name_here", "_law_unknown_here", "_law_bad"] ["_law_made", "_law_rows", "_law_name_here", "_law_unknown_here", "_law_bad"] (defScope s_law_three_refused) := ⟨rfl, rfl, rfl, by decide +kernel, rfl, by decide +kernel, by decide +kernel⟩
theorem list_rc {K : PySem.W.Frag} {RP : Addr} {H : Hp} {o d so to : Addr} {zs : List Str} {f : Str → PyData} {Q : VK} (hR : RcAt RP H o d so to zs f) (zn : zs ≠ []) (q : ∀ (p : Addr) (H' : Hp), H p = none → H' p = some (.lst (zs.map V.str)) → Kp [] H H' → Q (.ref p) H') : rListN K RP (spIterR RP) E0 [.ref o] H Q := by
  obtain ⟨dx, nl, ns, ho, hl, hrw, pm, z100⟩ := id hR
  refine ⟨o, dx, _, rfl, ho, fun p np => ?_⟩
  have k1 : Kp [] H (upd H p (.lst [])) := Kp.new np
  have hp1 : (upd H p (.lst [])) p = some (.lst []) := upd_same
  generalize upd H p (.lst []) = H1 at k1 hp1 ⊢
  refine ⟨o, d, so, to, zs, f, rfl, hR.kp k1, fun l it hl2 nit => ?_⟩
  have lp : l ≠ p := fun e => by
    rw [e, hp1] at hl2
    cases zs with
    | nil => exact zn rfl
    | cons z r => cases hl2
  have lit : l ≠ it := ne_of_none hl2 nit
  have pit : p ≠ it := ne_of_none hp1 nit
  have k2 : Kp [] H1 (upd H1 it (ItO l it 0)) := Kp.new nit
  refine ⟨l, it, zs.map V.str, rfl, k2 _ _ not0 (k1 _ _ not0 ho), upd_same, sq_l (k2 _ _ not0 hl2), lp, lit, k2 _ _ not0 hp1, ?_⟩
  exact q p _ np upd_same (((k1.trans k2).wr (k1.free0 nit)).wr np)
theorem eqv_of {d : PyData} (h : SeqAt.shaped d = true) : PyData.eqv d d = true := SeqAt.eqv_refl _ (SeqAt.canLay_of_shaped h)
section
variable {P : Program} {w : World} {K : PySem.W.Frag} {mg : Str → Option Value} {base : Heap} {RP NR : Addr}
def spHolds (RP : Addr) : Sp := fun vs H Q _ => ∃ (o d so to r : Addr) (zs : List Str) (f : Str → PyData), vs = [.ref o, .ref r] ∧ RcAt RP H o d so to zs f ∧ RwAt H r zs f ∧ d ≠ r ∧ zs ≠ [] ∧ (∀ z ∈ zs, PyData.strOk z = true ∧ SeqAt.shaped (f z) = true) ∧ ∀ H', Kp [] H H' → Q (.bl true) H'
theorem ok_law_holds {f : Addr} {fd : FuncData} (D : Df K mg "_law_holds" s_law_holds ["_law_made", "_law_rows"] f fd) (T : BtL mg) {gi : Addr} {fdi : FuncData} (IT_Recipe : IterN K RP gi) (G_Recipe_iter : FnOk P w K mg base CX0 1 gi fdi ["self"] (spIterR RP)) (b_Recipe_iter : Binds K fdi ["self"] [])
    {gg : Addr} {fdg : FuncData} (GT_Recipe : GetC K RP gg) (G_Recipe_getitem : FnOk P w K mg base (L2.CX P w) 3 gg fdg ["self", "at"] (spGetR RP NR)) (b_Recipe_getitem : Binds K fdg ["self", "at"] []) : FnOk P w K mg base CX0 5 f fd ["_law_made", "_law_rows"] (spHolds RP) := by
  refine D.F.ok sc_law_holds (fun vs H Q E h => ?_) (fun cdv A outer s H vs Q E hr h => ?_)
  · obtain ⟨_, _, _, _, _, _, _, rfl, _⟩ := h
    rfl
  · obtain ⟨o, d, so, to, r, zs, f, rfl, hR, hW, dr, zn, ok, q⟩ := h
    have hu := hu_of hr
    refine ⟨_, (pss_cons (ps_if (PW.pt (pw_or (pt_cmpR (op_neD hr.units) (pe_callTy (T := "list") (call_listN (E := E0) IT_Recipe G_Recipe_iter b_Recipe_iter (hr.mono (by decide))) (by rfl) T.b_list (by decide +kernel) (pa_cons (pv 0) pa_nil)) (pe_callTy (call_listD rfl) (by rfl) T.b_list (by decide +kernel) (pa_cons (pv 1) pa_nil)) (nomark _)) (pw_or1 (pt_cmpR (op_neD hr.units) (pe_callTy (T := "list") (call_listN (E := E0) IT_Recipe G_Recipe_iter b_Recipe_iter (hr.mono (by decide))) (by rfl) T.b_list (by decide +kernel) (pa_cons (pv 0) pa_nil)) (pe_callTy (call_listD rfl) (by rfl) T.b_list (by decide +kernel) (pa_cons (pv 1) pa_nil)) (nomark _))))) (pss_one (ps_ret pe_bl)) pss_nil)
      (pss_cons (ps_lock (ps_for PassesOwn.never rfl (pi_keys (pv 1)) (pg_name (i := 2) sc_law_holds.nd rfl (Or.inl rfl)) (pss_one (ps_if (pt_cmpR (op_neD hr.units) (pe_getO GT_Recipe G_Recipe_getitem b_Recipe_getitem (hr.mono (by decide)) passL (pv 0) (pv 2)) (pe_dget hu (pv 1) (pv 2) (fun _ _ => rfl)) (nomark _)) (pss_one (ps_ret pe_bl)) pss_nil))))
      (pss_one (ps_ret pe_bl)))), ?_⟩
    try simp (maxSteps := 1000000) only [tSeq, tIfS, tTest, tOp, tUn, tCB, tCons, tNil, tVar, tC, rI0, rI, rU, rEq, rNe, tRet, tRetN, tAsg, gName, gSub, tBM, tBM0, tNext, tB, tNot, tAnd, tOr, tIf, tCall, tDrop, tBreak, tCont, L2.start, tDGet, sDPut, tTup, tLst, tDNewK, tRevL, rCat, rAppend, rPop, rSetL, tAndV, tOrV, tNotV, tSl, tPart, tNoPart, tM1, gTup, gCons, gNil, cxK, cxnK, List.map_cons, List.map_nil, List.length_cons, List.length_nil, List.replicate, List.cons_append, List.nil_append, List.append_nil, List.set_cons_zero, List.set_cons_succ, List.getElem?_cons_zero, List.getElem?_cons_succ, Option.some.injEq, V.ref.injEq, V.int.injEq, V.str.injEq, V.bl.injEq, V.ty.injEq, exists_eq_left', exists_eq_left, exists_and_left, List.cons.injEq, and_true, true_and, sc_ii, sc_ss, sc_bb, sc_ni, sc_in, sc_is, sc_si, sc_nn, decide_true, decide_false, reduceCtorEq, Bool.false_eq_true, if_true, if_false, ite_true, ite_false, exists_const, eq_self, false_and, and_false, or_false, false_or, exists_false, Evl.rLenS, rSum, wipe, tYes, exists_eq, exists_eq', rIxL, rIxT, rIxS, exists_and_right, gt_iff_lt, not_true_eq_false, not_false_eq_true, Bool.not_true, Bool.not_false, decide_eq_true_eq, Nat.reduceSub, Nat.reduceAdd, List.append_assoc, tChain, tDIn, tDNotIn, sDDel, tAug, ipI]
    have shz : ShL zs := shL_of fun z hz => (ok z hz).1
    have two : ∀ (H1 : Hp) (R : VK), Kp [] H H1 → (∀ H2, Kp [] H1 H2 → R (.bl false) H2) → rListN K RP (spIterR RP) E0 [V.ref o] H1 fun x H1 => ∃ x_1, Rd H1 r (HO.dK x_1) ∧ ∀ (p : Addr), H1 p = none → rNeD K x (V.ref p) (upd H1 p (HO.lst (List.map (fun kv => kV kv.fst) x_1))) R := fun H1 R k1 hR1 => by
      refine list_rc (hR.kp k1) zn fun p H2 np hp2 k2 => ?_
      obtain ⟨kvs, hr, km, _, _⟩ := id (hW.kp (k1.trans k2))
      refine ⟨kvs, .inl hr, fun p3 n3 => ?_⟩
      have eb : kvs.map (fun kv => kV kv.1) = zs.map V.str := by
        have e : kvs.map (fun kv => kV kv.1) = (kvs.map (·.1)).map kV := by rw [List.map_map]; rfl
        rw [e, km, List.map_map]; rfl
      rw [eb]
      have k3 : Kp [] H2 (upd H2 p3 (.lst (zs.map V.str))) := Kp.new n3
      refine ⟨_, _, .lst (sq_l (k3 _ _ not0 hp2)) (dpStrs zs), .lst (sq_l upd_same) (dpStrs zs), shz, shz, ?_⟩
      rw [eqv_of shz]
      exact hR1 _ (k2.trans k3)
    refine two H _ (Kp.refl _ _) fun H2 k2 => ⟨_, rfl, ?_⟩
    rw [if_neg Bool.false_ne_true]
    refine two H2 _ k2 fun H3 k23 => ⟨_, rfl, ?_⟩
    rw [if_neg Bool.false_ne_true]
    have k3 := k2.trans k23
    have hR3 := hR.kp k3
    have hW3 := hW.kp k3
    obtain ⟨kvs, hr3, km, nd, hv⟩ := id hW3
    refine forKeys (i := 1) (d := r) (kvs := kvs) rfl hr3 (fun od j σ H' => ∃ c, σ = [some (.ref o), some (.ref r), c] ∧ H' r = some (.frz od (.dK kvs)) ∧ Kp [r] H3 H') (fun od => ⟨none, rfl, upd_same, (Kp.refl [r] H3).put (by simp)⟩) (fun od j σ H' h => by obtain ⟨_, _, h, _⟩ := h; exact h) (fun od j k v σ H' e h => ?_) (fun od σ H' h => ?_)
    · obtain ⟨c, rfl, hr4, k4⟩ := h
      obtain ⟨z, zm, rfl⟩ : ∃ z, z ∈ zs ∧ k = Sum.inr z := by
        have e2 : k ∈ kvs.map (·.1) := List.mem_map.mpr ⟨_, List.mem_of_getElem? e, rfl⟩
        rw [km] at e2
        obtain ⟨z, hz, e⟩ := List.mem_map.mp e2
        exact ⟨z, hz, e.symm⟩
      have hR4 := hR3.kpD k4 hr3 dr
      obtain ⟨v2, ev2, hd2⟩ := hv z zm
      have hd4 := dqN k4 (noSqK hr3) hd2
      try simp (maxSteps := 1000000) only [tSeq, tIfS, tTest, tOp, tUn, tCB, tCons, tNil, tVar, tC, rI0, rI, rU, rEq, rNe, tRet, tRetN, tAsg, gName, gSub, tBM, tBM0, tNext, tB, tNot, tAnd, tOr, tIf, tCall, tDrop, tBreak, tCont, L2.start, tDGet, sDPut, tTup, tLst, tDNewK, tRevL, rCat, rAppend, rPop, rSetL, tAndV, tOrV, tNotV, tSl, tPart, tNoPart, tM1, gTup, gCons, gNil, cxK, cxnK, List.map_cons, List.map_nil, List.length_cons, List.length_nil, List.replicate, List.cons_append, List.nil_append, List.append_nil, List.set_cons_zero, List.set_cons_succ, List.getElem?_cons_zero, List.getElem?_cons_succ, Option.some.injEq, V.ref.injEq, V.int.injEq, V.str.injEq, V.bl.injEq, V.ty.injEq, exists_eq_left', exists_eq_left, exists_and_left, List.cons.injEq, and_true, true_and, sc_ii, sc_ss, sc_bb, sc_ni, sc_in, sc_is, sc_si, sc_nn, decide_true, decide_false, reduceCtorEq, Bool.false_eq_true, if_true, if_false, ite_true, ite_false, exists_const, eq_self, false_and, and_false, or_false, false_or, exists_false, Evl.rLenS, rSum, wipe, tYes, exists_eq, exists_eq', rIxL, rIxT, rIxS, exists_and_right, gt_iff_lt, not_true_eq_false, not_false_eq_true, Bool.not_true, Bool.not_false, decide_eq_true_eq, Nat.reduceSub, Nat.reduceAdd, List.append_assoc, tChain, tDIn, tDNotIn, sDDel, tAug, ipI]
      obtain ⟨dx, nl, ns, ho4, _⟩ := id hR4
      refine ⟨o, dx, _, rfl, ho4, o, d, so, to, zs, f, z, rfl, hR4, fun _ v hdv => ?_, fun hn => absurd zm hn⟩
      refine ⟨v2, .inl ⟨kvs, Sum.inr z, .inr ⟨od, hr4⟩, rfl, ev2.symm⟩, _, _, hdv.dp, hd4.dp, (ok z zm).2, (ok z zm).2, ?_⟩
      rw [eqv_of (ok z zm).2]
      refine ⟨_, rfl, ?_⟩
      rw [if_neg (by decide)]
      exact ⟨hr4, k4⟩
    · obtain ⟨c, rfl, hr4, k4⟩ := h
      try simp (maxSteps := 1000000) only [tSeq, tIfS, tTest, tOp, tUn, tCB, tCons, tNil, tVar, tC, rI0, rI, rU, rEq, rNe, tRet, tRetN, tAsg, gName, gSub, tBM, tBM0, tNext, tB, tNot, tAnd, tOr, tIf, tCall, tDrop, tBreak, tCont, L2.start, tDGet, sDPut, tTup, tLst, tDNewK, tRevL, rCat, rAppend, rPop, rSetL, tAndV, tOrV, tNotV, tSl, tPart, tNoPart, tM1, gTup, gCons, gNil, cxK, cxnK, List.map_cons, List.map_nil, List.length_cons, List.length_nil, List.replicate, List.cons_append, List.nil_append, List.append_nil, List.set_cons_zero, List.set_cons_succ, List.getElem?_cons_zero, List.getElem?_cons_succ, Option.some.injEq, V.ref.injEq, V.int.injEq, V.str.injEq, V.bl.injEq, V.ty.injEq, exists_eq_left', exists_eq_left, exists_and_left, List.cons.injEq, and_true, true_and, sc_ii, sc_ss, sc_bb, sc_ni, sc_in, sc_is, sc_si, sc_nn, decide_true, decide_false, reduceCtorEq, Bool.false_eq_true, if_true, if_false, ite_true, ite_false, exists_const, eq_self, false_and, and_false, or_false, false_or, exists_false, Evl.rLenS, rSum, wipe, tYes, exists_eq, exists_eq', rIxL, rIxT, rIxS, exists_and_right, gt_iff_lt, not_true_eq_false, not_false_eq_true, Bool.not_true, Bool.not_false, decide_eq_true_eq, Nat.reduceSub, Nat.reduceAdd, List.append_assoc, tChain, tDIn, tDNotIn, sDDel, tAug, ipI]
      exact q _ (k3.trans (kpBack k4 hr3))
structure BtX (K : PySem.W.Frag) (mg : Str → Option Value) (CE NR BR : Addr) : Prop where
  b_isinstance : mg "isinstance" = none
  b_ValueError : mg "ValueError" = none
  k_CoreError : mg "CoreError" = some (.ref CE)
  k_NoRow : mg "NoRow" = some (.ref NR)
  k_BadRow : mg "BadRow" = some (.ref BR)
  XF_NoRow : XfC K NR
  XF_BadRow : XfC K BR
  NO_NoRow_name : PySem.W.findIn K (.ref NR) "name" = some none
  NO_BadRow_name : PySem.W.findIn K (.ref BR) "name" = some none
  EXn : PySem.W.exmOne K (.ref NR) (.ref CE) = some true
  EXb : PySem.W.exmOne K (.ref BR) (.ref CE) = some true
  EXnn : PySem.W.exmOne K (.ref NR) (.ref NR) = some true
  KN : KitC K NR
  KB : KitC K BR
  n1 : PySem.W.kitOne K (.ref NR) (.ref NR) = some true
  n2 : PySem.W.kitOne K (.ref NR) (.type "ValueError") = some true
  n3 : PySem.W.kitOne K (.ref NR) (.ref BR) = some false
  b1 : PySem.W.kitOne K (.ref BR) (.ref NR) = some false
  b2 : PySem.W.kitOne K (.ref BR) (.ref BR) = some true
  b3 : PySem.W.kitOne K (.ref BR) (.type "ValueError") = some true
/-- what comes of made[z] = row -/
def spSetRf (K : PySem.W.Frag) (RP BK PC : Addr) : Sp := fun vs H Q _ => ∃ (o d so to : Addr) (fT : Pr → Bool) (sT : List (Str × (Pr → Bool))) (zs : List Str) (f : Str → PyData) (z : Str) (v : V) (e : PyData), vs = [.ref o, .str z, v] ∧ RcAt RP H o d so to zs f ∧ BookAt K BK PC H to fT sT ∧ (∀ x ∈ sT, PyData.strOk x.1 = true) ∧ PyData.strOk z = true ∧ Dq H v e ∧ SeqAt.shaped e = true ∧ LnR e ∧
  (z ∉ zs → ∀ (p : Addr) (H' : Hp), H' p = some (.lst [.str "name", .str z]) → Kp [] H H' → Q (.ref p) H') ∧
  (z ∈ zs → isRowD z (sT.map (·.1)) e = false → ∀ (p : Addr) (H' : Hp), H' p = some (.lst [.str "row", .str z]) → Kp [] H H' → Q (.ref p) H') ∧
  (z ∈ zs → isRowD z (sT.map (·.1)) e = true → ∀ (e' : PyData) (p : Addr) (H' : Hp), H' p = some (.lst []) → TdR e e' → RcAt RP H' o d so to zs (fun y => if y = z then e' else f y) → Kp [d] H H' → Q (.ref p) H')
theorem ok_law_set_refusal {f : Addr} {fd : FuncData} (D : Df K mg "_law_set_refusal" s_law_set_refusal ["_law_made", "_law_name_here", "_law_row"] f fd) {BK PC NR BR CE : Addr} (T : BtX K mg CE NR BR) {gg : Addr} {fdg : FuncData} (ST_Recipe : SetC K RP gg) (G_Recipe_setitem : FnOk P w K mg base (L2.CX P w) 4 gg fdg ["self", "at", "worth"] (spSetR K RP BK PC NR BR)) (b_Recipe_setitem : Binds K fdg ["self", "at", "worth"] []) : FnOk P w K mg base CX0 6 f fd ["_law_made", "_law_name_here", "_law_row"] (spSetRf K RP BK PC) := by
  refine D.F.ok sc_law_set_refusal (fun vs H Q E h => ?_) (fun cdv A outer s H vs Q E hr h => ?_)
  · obtain ⟨_, _, _, _, _, _, _, _, _, _, _, rfl, _⟩ := h
    rfl
  · obtain ⟨o, d, so, to, fT, sT, zs, f, z, v, e, rfl, hR, hT, sok, zok, hv, she, lne, qN, qB, qG⟩ := h
    have hu := hu_of hr
    have XF_NoRow := T.XF_NoRow
    have XF_BadRow := T.XF_BadRow
    have NO_NoRow_name := T.NO_NoRow_name
    have NO_BadRow_name := T.NO_BadRow_name
    refine ⟨_, (pss_cons (ps_try_as (i := 3) rfl rfl sc_law_set_refusal.nd rfl rfl ⟨rfl, by decide, .inl T.k_CoreError⟩ takes0 (fun W pn xe tk _ => (pss_one (ps_asg (pv 2) (pg_setO ST_Recipe G_Recipe_setitem b_Recipe_setitem (hr.mono (by decide)) (fun σ => passAt tk σ) (pv 0) (pv 1))))) (fun a oe cls d pn hz hf => (pss_cons (ps_if (PW.pt (pw_and (pt_val (pe_callB (id := "isinstance") (r := rIsX K a cls d) (call_isX hz hf) (by rfl) T.b_isinstance (by decide +kernel) (pa_cons (pv 3) (pa_cons (pe_glob (v := .ref NR) rfl T.k_NoRow rfl) pa_nil)))) (pw_and (pt_val (pe_callB (id := "isinstance") (r := rIsX K a cls d) (call_isX hz hf) (by rfl) T.b_isinstance (by decide +kernel) (pa_cons (pv 3) (pa_cons (pe_bltn (v := .ty "ValueError") (by rfl) T.b_ValueError (by decide +kernel) rfl) pa_nil)))) (pw_and1 (pt_not (pt_val (pe_callB (id := "isinstance") (r := rIsX K a cls d) (call_isX hz hf) (by rfl) T.b_isinstance (by decide +kernel) (pa_cons (pv 3) (pa_cons (pe_glob (v := .ref BR) rfl T.k_BadRow rfl) pa_nil))))))))) (pss_one (ps_ret (pe_lst (pa_cons pe_str (pa_cons (pe_xf XF_NoRow NO_NoRow_name hz hf (pv 3)) pa_nil))))) pss_nil)
      (pss_one (ps_if (PW.pt (pw_and (pt_val (pe_callB (id := "isinstance") (r := rIsX K a cls d) (call_isX hz hf) (by rfl) T.b_isinstance (by decide +kernel) (pa_cons (pv 3) (pa_cons (pe_glob (v := .ref BR) rfl T.k_BadRow rfl) pa_nil)))) (pw_and (pt_val (pe_callB (id := "isinstance") (r := rIsX K a cls d) (call_isX hz hf) (by rfl) T.b_isinstance (by decide +kernel) (pa_cons (pv 3) (pa_cons (pe_bltn (v := .ty "ValueError") (by rfl) T.b_ValueError (by decide +kernel) rfl) pa_nil)))) (pw_and1 (pt_not (pt_val (pe_callB (id := "isinstance") (r := rIsX K a cls d) (call_isX hz hf) (by rfl) T.b_isinstance (by decide +kernel) (pa_cons (pv 3) (pa_cons (pe_glob (v := .ref NR) rfl T.k_NoRow rfl) pa_nil))))))))) (pss_one (ps_ret (pe_lst (pa_cons pe_str (pa_cons (pe_xf XF_BadRow NO_BadRow_name hz hf (pv 3)) pa_nil))))) pss_nil)))))
      (pss_one (ps_ret (pe_lst pa_nil)))), ?_⟩
    obtain ⟨dx, nl, ns, ho, _⟩ := id hR
    try simp (maxSteps := 1000000) only [tSeq, tIfS, tTest, tOp, tUn, tCB, tCons, tNil, tVar, tC, rI0, rI, rU, rEq, rNe, tRet, tRetN, tAsg, gName, gSub, tBM, tBM0, tNext, tB, tNot, tAnd, tOr, tIf, tCall, tDrop, tBreak, tCont, L2.start, tDGet, sDPut, tTup, tLst, tDNewK, tRevL, rCat, rAppend, rPop, rSetL, tAndV, tOrV, tNotV, tSl, tPart, tNoPart, tM1, gTup, gCons, gNil, cxK, cxnK, List.map_cons, List.map_nil, List.length_cons, List.length_nil, List.replicate, List.cons_append, List.nil_append, List.append_nil, List.set_cons_zero, List.set_cons_succ, List.getElem?_cons_zero, List.getElem?_cons_succ, Option.some.injEq, V.ref.injEq, V.int.injEq, V.str.injEq, V.bl.injEq, V.ty.injEq, exists_eq_left', exists_eq_left, exists_and_left, List.cons.injEq, and_true, true_and, sc_ii, sc_ss, sc_bb, sc_ni, sc_in, sc_is, sc_si, sc_nn, decide_true, decide_false, reduceCtorEq, Bool.false_eq_true, if_true, if_false, ite_true, ite_false, exists_const, eq_self, false_and, and_false, or_false, false_or, exists_false, Evl.rLenS, rSum, wipe, tYes, exists_eq, exists_eq', rIxL, rIxT, rIxS, exists_and_right, gt_iff_lt, not_true_eq_false, not_false_eq_true, Bool.not_true, Bool.not_false, decide_eq_true_eq, Nat.reduceSub, Nat.reduceAdd, List.append_assoc, tChain, tDIn, tDNotIn, sDDel, tAug, ipI, gSetO]
    refine ⟨⟨dx, _, ho⟩, o, d, so, to, fT, sT, zs, f, z, v, e, rfl, hR, hT, sok, zok, hv, she, lne, fun nz x H' nx hx k => ?_, fun hz hb x H' nx hx k => ?_, fun hz hb e' H' td hR' k => ⟨small (by decide), fun p np => ?_⟩⟩
    · refine ⟨true, T.EXn, fun _ y ny => ?_, fun z => by cases z⟩
      try simp (maxSteps := 1000000) only [tSeq, tIfS, tTest, tOp, tUn, tCB, tCons, tNil, tVar, tC, rI0, rI, rU, rEq, rNe, tRet, tRetN, tAsg, gName, gSub, tBM, tBM0, tNext, tB, tNot, tAnd, tOr, tIf, tCall, tDrop, tBreak, tCont, L2.start, tDGet, sDPut, tTup, tLst, tDNewK, tRevL, rCat, rAppend, rPop, rSetL, tAndV, tOrV, tNotV, tSl, tPart, tNoPart, tM1, gTup, gCons, gNil, cxK, cxnK, List.map_cons, List.map_nil, List.length_cons, List.length_nil, List.replicate, List.cons_append, List.nil_append, List.append_nil, List.set_cons_zero, List.set_cons_succ, List.getElem?_cons_zero, List.getElem?_cons_succ, Option.some.injEq, V.ref.injEq, V.int.injEq, V.str.injEq, V.bl.injEq, V.ty.injEq, exists_eq_left', exists_eq_left, exists_and_left, List.cons.injEq, and_true, true_and, sc_ii, sc_ss, sc_bb, sc_ni, sc_in, sc_is, sc_si, sc_nn, decide_true, decide_false, reduceCtorEq, Bool.false_eq_true, if_true, if_false, ite_true, ite_false, exists_const, eq_self, false_and, and_false, or_false, false_or, exists_false, Evl.rLenS, rSum, wipe, tYes, exists_eq, exists_eq', rIxL, rIxT, rIxS, exists_and_right, gt_iff_lt, not_true_eq_false, not_false_eq_true, Bool.not_true, Bool.not_false, decide_eq_true_eq, Nat.reduceSub, Nat.reduceAdd, List.append_assoc, tChain, tDIn, tDNotIn, sDDel, tAug, ipI, tXf]
      refine ⟨.ref NR, .ref NR, true, NR, x, _, rfl, fun u h => h, rfl, rfl, hx, T.KN, T.n1, true, rfl, ?_⟩
      rw [if_pos rfl]
      refine ⟨.ty "ValueError", .type "ValueError", true, NR, x, _, rfl, fun u h => h, rfl, rfl, hx, T.KN, T.n2, true, rfl, ?_⟩
      rw [if_pos rfl]
      refine ⟨.ref BR, .ref BR, false, NR, x, _, rfl, fun u h => h, rfl, rfl, hx, T.KN, T.n3, false, rfl, ?_⟩
      rw [if_pos (by rfl)]
      exact ⟨_, hx, _, rfl, small (by decide), fun p np => qN nz p _ upd_same (k.trans (Kp.new np))⟩
    · refine ⟨true, T.EXb, fun _ y ny => ?_, fun z => by cases z⟩
      try simp (maxSteps := 1000000) only [tSeq, tIfS, tTest, tOp, tUn, tCB, tCons, tNil, tVar, tC, rI0, rI, rU, rEq, rNe, tRet, tRetN, tAsg, gName, gSub, tBM, tBM0, tNext, tB, tNot, tAnd, tOr, tIf, tCall, tDrop, tBreak, tCont, L2.start, tDGet, sDPut, tTup, tLst, tDNewK, tRevL, rCat, rAppend, rPop, rSetL, tAndV, tOrV, tNotV, tSl, tPart, tNoPart, tM1, gTup, gCons, gNil, cxK, cxnK, List.map_cons, List.map_nil, List.length_cons, List.length_nil, List.replicate, List.cons_append, List.nil_append, List.append_nil, List.set_cons_zero, List.set_cons_succ, List.getElem?_cons_zero, List.getElem?_cons_succ, Option.some.injEq, V.ref.injEq, V.int.injEq, V.str.injEq, V.bl.injEq, V.ty.injEq, exists_eq_left', exists_eq_left, exists_and_left, List.cons.injEq, and_true, true_and, sc_ii, sc_ss, sc_bb, sc_ni, sc_in, sc_is, sc_si, sc_nn, decide_true, decide_false, reduceCtorEq, Bool.false_eq_true, if_true, if_false, ite_true, ite_false, exists_const, eq_self, false_and, and_false, or_false, false_or, exists_false, Evl.rLenS, rSum, wipe, tYes, exists_eq, exists_eq', rIxL, rIxT, rIxS, exists_and_right, gt_iff_lt, not_true_eq_false, not_false_eq_true, Bool.not_true, Bool.not_false, decide_eq_true_eq, Nat.reduceSub, Nat.reduceAdd, List.append_assoc, tChain, tDIn, tDNotIn, sDDel, tAug, ipI, tXf]
      refine ⟨.ref NR, .ref NR, false, BR, x, _, rfl, fun u h => h, rfl, rfl, hx, T.KB, T.b1, false, rfl, ?_⟩
      rw [if_neg Bool.false_ne_true]
      refine ⟨.ref BR, .ref BR, true, BR, x, _, rfl, fun u h => h, rfl, rfl, hx, T.KB, T.b2, true, rfl, ?_⟩
      rw [if_pos rfl]
      refine ⟨.ty "ValueError", .type "ValueError", true, BR, x, _, rfl, fun u h => h, rfl, rfl, hx, T.KB, T.b3, true, rfl, ?_⟩
      rw [if_pos rfl]
      refine ⟨.ref NR, .ref NR, false, BR, x, _, rfl, fun u h => h, rfl, rfl, hx, T.KB, T.b1, false, rfl, ?_⟩
      rw [if_pos (by rfl)]
      exact ⟨_, hx, _, rfl, small (by decide), fun p np => qB hz hb p _ upd_same (k.trans (Kp.new np))⟩
    · exact qG hz hb e' p _ upd_same td (hR'.kp (Kp.new np)) (k.trans (Kp.new np).of0)
def spLook (RP : Addr) : Sp := fun vs H Q _ => ∃ (o d so to : Addr) (zs : List Str) (f : Str → PyData) (z : Str), vs = [.ref o, .str z] ∧ RcAt RP H o d so to zs f ∧ z ∉ zs ∧ ∀ (p : Addr) (H' : Hp), H' p = some (.lst [.str z]) → Kp [] H H' → Q (.ref p) H'
theorem ok_law_look_refusal {f : Addr} {fd : FuncData} (D : Df K mg "_law_look_refusal" s_law_look_refusal ["_law_made", "_law_name_here"] f fd) {NR BR CE : Addr} (T : BtX K mg CE NR BR) {gg : Addr} {fdg : FuncData} (GT_Recipe : GetC K RP gg) (G_Recipe_getitem : FnOk P w K mg base (L2.CX P w) 3 gg fdg ["self", "at"] (spGetR RP NR)) (b_Recipe_getitem : Binds K fdg ["self", "at"] []) : FnOk P w K mg base CX0 5 f fd ["_law_made", "_law_name_here"] (spLook RP) := by
  refine D.F.ok sc_law_look_refusal (fun vs H Q E h => ?_) (fun cdv A outer s H vs Q E hr h => ?_)
  · obtain ⟨_, _, _, _, _, _, _, rfl, _⟩ := h
    rfl
  · obtain ⟨o, d, so, to, zs, f, z, rfl, hR, nz, q⟩ := h
    have hu := hu_of hr
    have XF_NoRow := T.XF_NoRow
    have NO_NoRow_name := T.NO_NoRow_name
    refine ⟨_, (pss_cons (ps_try_as (i := 3) rfl rfl sc_law_look_refusal.nd rfl rfl ⟨rfl, by decide, .inl T.k_NoRow⟩ takes0 (fun W pn xe tk _ => (pss_one (ps_set (i := 2) sc_law_look_refusal.nd rfl (Or.inl rfl) (pe_getOS GT_Recipe G_Recipe_getitem b_Recipe_getitem (hr.mono (by decide)) (fun σ => passAt tk σ) (pv 0) (pv 1))))) (fun a oe cls d pn hz hf => (pss_one (ps_ret (pe_lst (pa_cons (pe_xf XF_NoRow NO_NoRow_name hz hf (pv 3)) pa_nil))))))
      (pss_one (ps_ret (pe_lst (pa_cons (pv 2) pa_nil))))), ?_⟩
    obtain ⟨dx, nl, ns, ho, _⟩ := id hR
    try simp (maxSteps := 1000000) only [tSeq, tIfS, tTest, tOp, tUn, tCB, tCons, tNil, tVar, tC, rI0, rI, rU, rEq, rNe, tRet, tRetN, tAsg, gName, gSub, tBM, tBM0, tNext, tB, tNot, tAnd, tOr, tIf, tCall, tDrop, tBreak, tCont, L2.start, tDGet, sDPut, tTup, tLst, tDNewK, tRevL, rCat, rAppend, rPop, rSetL, tAndV, tOrV, tNotV, tSl, tPart, tNoPart, tM1, gTup, gCons, gNil, cxK, cxnK, List.map_cons, List.map_nil, List.length_cons, List.length_nil, List.replicate, List.cons_append, List.nil_append, List.append_nil, List.set_cons_zero, List.set_cons_succ, List.getElem?_cons_zero, List.getElem?_cons_succ, Option.some.injEq, V.ref.injEq, V.int.injEq, V.str.injEq, V.bl.injEq, V.ty.injEq, exists_eq_left', exists_eq_left, exists_and_left, List.cons.injEq, and_true, true_and, sc_ii, sc_ss, sc_bb, sc_ni, sc_in, sc_is, sc_si, sc_nn, decide_true, decide_false, reduceCtorEq, Bool.false_eq_true, if_true, if_false, ite_true, ite_false, exists_const, eq_self, false_and, and_false, or_false, false_or, exists_false, Evl.rLenS, rSum, wipe, tYes, exists_eq, exists_eq', rIxL, rIxT, rIxS, exists_and_right, gt_iff_lt, not_true_eq_false, not_false_eq_true, Bool.not_true, Bool.not_false, decide_eq_true_eq, Nat.reduceSub, Nat.reduceAdd, List.append_assoc, tChain, tDIn, tDNotIn, sDDel, tAug, ipI, rGetO, tGetS]
    refine ⟨⟨dx, _, ho⟩, o, d, so, to, zs, f, z, rfl, hR, fun hz => absurd hz nz, fun _ x H' nx hx k => ⟨true, T.EXnn, fun _ y ny => ?_, fun z => by cases z⟩⟩
    try simp (maxSteps := 1000000) only [tSeq, tIfS, tTest, tOp, tUn, tCB, tCons, tNil, tVar, tC, rI0, rI, rU, rEq, rNe, tRet, tRetN, tAsg, gName, gSub, tBM, tBM0, tNext, tB, tNot, tAnd, tOr, tIf, tCall, tDrop, tBreak, tCont, L2.start, tDGet, sDPut, tTup, tLst, tDNewK, tRevL, rCat, rAppend, rPop, rSetL, tAndV, tOrV, tNotV, tSl, tPart, tNoPart, tM1, gTup, gCons, gNil, cxK, cxnK, List.map_cons, List.map_nil, List.length_cons, List.length_nil, List.replicate, List.cons_append, List.nil_append, List.append_nil, List.set_cons_zero, List.set_cons_succ, List.getElem?_cons_zero, List.getElem?_cons_succ, Option.some.injEq, V.ref.injEq, V.int.injEq, V.str.injEq, V.bl.injEq, V.ty.injEq, exists_eq_left', exists_eq_left, exists_and_left, List.cons.injEq, and_true, true_and, sc_ii, sc_ss, sc_bb, sc_ni, sc_in, sc_is, sc_si, sc_nn, decide_true, decide_false, reduceCtorEq, Bool.false_eq_true, if_true, if_false, ite_true, ite_false, exists_const, eq_self, false_and, and_false, or_false, false_or, exists_false, Evl.rLenS, rSum, wipe, tYes, exists_eq, exists_eq', rIxL, rIxT, rIxS, exists_and_right, gt_iff_lt, not_true_eq_false, not_false_eq_true, Bool.not_true, Bool.not_false, decide_eq_true_eq, Nat.reduceSub, Nat.reduceAdd, List.append_assoc, tChain, tDIn, tDNotIn, sDDel, tAug, ipI, tXf]
    exact ⟨_, hx, _, rfl, small (by decide), fun p np => q p _ upd_same (k.trans (Kp.new np))⟩
def spThree (K : PySem.W.Frag) (RP BK PC : Addr) : Sp := fun vs H Q _ => ∃ (o d so to r : Addr) (fT : Pr → Bool) (sT : List (Str × (Pr → Bool))) (zs : List Str) (f : Str → PyData) (z u : Str) (v : V) (e : PyData), vs = [.ref o, .ref r, .str z, .str u, v] ∧ RcAt RP H o d so to zs f ∧ RwAt H r zs f ∧ d ≠ r ∧ zs ≠ [] ∧ (∀ z ∈ zs, PyData.strOk z = true ∧ SeqAt.shaped (f z) = true) ∧ BookAt K BK PC H to fT sT ∧ (∀ x ∈ sT, PyData.strOk x.1 = true) ∧ z ∈ zs ∧ u ∉ zs ∧ PyData.strOk u = true ∧ Dq H v e ∧ BdD z (sT.map (·.1)) e ∧ ∀ H', Kp [] H H' → Q (.bl true) H'
theorem ok_law_three_refused {f : Addr} {fd : FuncData} (D : Df K mg "_law_three_refused" s_law_three_refused ["_law_made", "_law_rows", "_law_name_here", "_law_unknown_here", "_law_bad"] f fd) {BK PC : Addr}
    {f1 : Addr} {fd1 : FuncData} (D_law_set_refusal : Df K mg "_law_set_refusal" s_law_set_refusal ["_law_made", "_law_name_here", "_law_row"] f1 fd1) (G_law_set_refusal : FnOk P w K mg base CX0 6 f1 fd1 ["_law_made", "_law_name_here", "_law_row"] (spSetRf K RP BK PC)) {f2 : Addr} {fd2 : FuncData} (D_law_holds : Df K mg "_law_holds" s_law_holds ["_law_made", "_law_rows"] f2 fd2) (G_law_holds : FnOk P w K mg base CX0 5 f2 fd2 ["_law_made", "_law_rows"] (spHolds RP)) {f3 : Addr} {fd3 : FuncData} (D_law_look_refusal : Df K mg "_law_look_refusal" s_law_look_refusal ["_law_made", "_law_name_here"] f3 fd3) (G_law_look_refusal : FnOk P w K mg base CX0 5 f3 fd3 ["_law_made", "_law_name_here"] (spLook RP)) : FnOk P w K mg base CX0 7 f fd ["_law_made", "_law_rows", "_law_name_here", "_law_unknown_here", "_law_bad"] (spThree K RP BK PC) := by
  refine D.F.ok sc_law_three_refused (fun vs H Q E h => ?_) (fun cdv A outer s H vs Q E hr h => ?_)
  · obtain ⟨_, _, _, _, _, _, _, _, _, _, _, _, _, rfl, _⟩ := h
    rfl
  · obtain ⟨o, d, so, to, r, fT, sT, zs, f, z, u, v, e, rfl, hR, hW, dr, zn, ok, hT, sok, hz, nu, uo, hv, ⟨b1, b2, b3⟩, q⟩ := h
    have hu := hu_of hr
    refine ⟨_, (pss_cons (ps_if (PW.pt (pw_or (pt_cmpR (op_neD hr.units) (pe_call G_law_set_refusal (hr.mono (by decide)) rfl D_law_set_refusal.g D_law_set_refusal.F.kp D_law_set_refusal.b .nil pass0 (pa_cons (pv 0) (pa_cons (pv 2) (pa_cons (pv 4) pa_nil)))) (pe_lst (pa_cons pe_str (pa_cons (pv 2) pa_nil))) (nomark _)) (pw_or1 (pt_not (pt_val (pe_call G_law_holds (hr.mono (by decide)) rfl D_law_holds.g D_law_holds.F.kp D_law_holds.b .nil pass0 (pa_cons (pv 0) (pa_cons (pv 1) pa_nil)))))))) (pss_one (ps_ret pe_bl)) pss_nil)
      (pss_cons (ps_if (pt_cmpR (op_neD hr.units) (pe_call G_law_set_refusal (hr.mono (by decide)) rfl D_law_set_refusal.g D_law_set_refusal.F.kp D_law_set_refusal.b .nil pass0 (pa_cons (pv 0) (pa_cons (pv 3) (pa_cons (pv 4) pa_nil)))) (pe_lst (pa_cons pe_str (pa_cons (pv 3) pa_nil))) (nomark _)) (pss_one (ps_ret pe_bl)) pss_nil)
      (pss_cons (ps_if (pt_cmpR (op_neD hr.units) (pe_call G_law_set_refusal (hr.mono (by decide)) rfl D_law_set_refusal.g D_law_set_refusal.F.kp D_law_set_refusal.b .nil pass0 (pa_cons (pv 0) (pa_cons (pv 3) (pa_cons (pe_tup pa_nil) pa_nil)))) (pe_lst (pa_cons pe_str (pa_cons (pv 3) pa_nil))) (nomark _)) (pss_one (ps_ret pe_bl)) pss_nil)
      (pss_one (ps_ret (pe_and (pe_cmpR (op_eqD hr.units) (pe_call G_law_look_refusal (hr.mono (by decide)) rfl D_law_look_refusal.g D_law_look_refusal.F.kp D_law_look_refusal.b .nil pass0 (pa_cons (pv 0) (pa_cons (pv 3) pa_nil))) (pe_lst (pa_cons (pv 3) pa_nil)) (nomark _)) (pe_one (pe_call G_law_holds (hr.mono (by decide)) rfl D_law_holds.g D_law_holds.F.kp D_law_holds.b .nil pass0 (pa_cons (pv 0) (pa_cons (pv 1) pa_nil)))))))))), ?_⟩
    try simp (maxSteps := 1000000) only [tSeq, tIfS, tTest, tOp, tUn, tCB, tCons, tNil, tVar, tC, rI0, rI, rU, rEq, rNe, tRet, tRetN, tAsg, gName, gSub, tBM, tBM0, tNext, tB, tNot, tAnd, tOr, tIf, tCall, tDrop, tBreak, tCont, L2.start, tDGet, sDPut, tTup, tLst, tDNewK, tRevL, rCat, rAppend, rPop, rSetL, tAndV, tOrV, tNotV, tSl, tPart, tNoPart, tM1, gTup, gCons, gNil, cxK, cxnK, List.map_cons, List.map_nil, List.length_cons, List.length_nil, List.replicate, List.cons_append, List.nil_append, List.append_nil, List.set_cons_zero, List.set_cons_succ, List.getElem?_cons_zero, List.getElem?_cons_succ, Option.some.injEq, V.ref.injEq, V.int.injEq, V.str.injEq, V.bl.injEq, V.ty.injEq, exists_eq_left', exists_eq_left, exists_and_left, List.cons.injEq, and_true, true_and, sc_ii, sc_ss, sc_bb, sc_ni, sc_in, sc_is, sc_si, sc_nn, decide_true, decide_false, reduceCtorEq, Bool.false_eq_true, if_true, if_false, ite_true, ite_false, exists_const, eq_self, false_and, and_false, or_false, false_or, exists_false, Evl.rLenS, rSum, wipe, tYes, exists_eq, exists_eq', rIxL, rIxT, rIxS, exists_and_right, gt_iff_lt, not_true_eq_false, not_false_eq_true, Bool.not_true, Bool.not_false, decide_eq_true_eq, Nat.reduceSub, Nat.reduceAdd, List.append_assoc, tChain, tDIn, tDNotIn, sDDel, tAug, ipI]
    have cmp : ∀ {x y : Str} {H1 : Hp} {p1 p2 : Addr} {R : VK}, PyData.strOk x = true → PyData.strOk y = true → H1 p1 = some (.lst [.str x, .str y]) → H1 p2 = some (.lst [.str x, .str y]) → R (.bl false) H1 → rNeD K (.ref p1) (.ref p2) H1 R := fun {x y H1 p1 p2 R} ox oy e1 e2 hR1 => by
      have sh : ShL [x, y] := shL_of fun a ha => by
        rcases List.mem_cons.mp ha with rfl | ha
        · exact ox
        · rw [List.mem_singleton.mp ha]; exact oy
      refine ⟨_, _, .lst (sq_l e1) (dpStrs [x, y]), .lst (sq_l e2) (dpStrs [x, y]), sh, sh, ?_⟩
      rw [eqv_of sh]
      exact hR1
    have zo := (ok z hz).1
    have nameO : PyData.strOk ("name" : Str) = true := by decide +kernel
    have rowO : PyData.strOk ("row" : Str) = true := by decide +kernel
    have un : ∀ {H1 : Hp} {w1 : V} {e1 : PyData} {R : VK} {E1 : XK}, Kp [] H H1 → Dq H1 w1 e1 → SeqAt.shaped e1 = true → LnR e1 → (∀ p H', H' p = some (.lst [.str "name", .str u]) → Kp [] H1 H' → R (.ref p) H') → spSetRf K RP BK PC [V.ref o, V.str u, w1] H1 R E1 := fun {H1 w1 e1 R E1} k1 hd1 s1 l1 hR1 =>
      ⟨o, d, so, to, fT, sT, zs, f, u, w1, e1, rfl, hR.kp k1, hT.kp k1, sok, uo, hd1, s1, l1, fun _ p H' hp k => hR1 p H' hp k, fun h => absurd h nu, fun h => absurd h nu⟩
    refine ⟨o, d, so, to, fT, sT, zs, f, z, v, e, rfl, hR, hT, sok, zo, hv, b3, b2, fun h => absurd hz h, fun _ _ p1 H1 hp1 k1 => ⟨small (by decide), fun p2 n2 => ?_⟩, fun _ h => by rw [b1] at h; cases h⟩
    have k2 : Kp [] H1 (upd H1 p2 (.lst [.str "row", .str z])) := Kp.new n2
    refine cmp rowO zo (k2 _ _ not0 hp1) upd_same ⟨_, rfl, ?_⟩
    generalize (upd H1 p2 (.lst [.str "row", .str z])) = H2 at k2 ⊢
    have k02 := k1.trans k2
    rw [if_neg Bool.false_ne_true]
    have hold : ∀ {H1 : Hp} {R : VK} {E1 : XK}, Kp [] H H1 → (∀ H', Kp [] H1 H' → R (.bl true) H') → spHolds RP [V.ref o, V.ref r] H1 R E1 := fun {H1 R E1} k1 hR1 => ⟨o, d, so, to, r, zs, f, rfl, hR.kp k1, hW.kp k1, dr, zn, ok, hR1⟩
    refine hold k02 fun H3 k3 => ⟨_, rfl, ?_⟩
    rw [if_neg (by decide)]
    have k03 := k02.trans k3
    refine un k03 (hv.kp k03) b3 b2 fun p4 H4 hp4 k4 => ⟨small (by decide), fun p5 n5 => ?_⟩
    have k5 : Kp [] H4 (upd H4 p5 (.lst [.str "name", .str u])) := Kp.new n5
    refine cmp nameO uo (k5 _ _ not0 hp4) upd_same ⟨_, rfl, ?_⟩
    generalize (upd H4 p5 (.lst [.str "name", .str u])) = H5 at k5 ⊢
    rw [if_neg Bool.false_ne_true]
    have k05 := (k03.trans k4).trans k5
    refine ⟨small (by decide), fun p6 n6 => ?_⟩
    have k6 : Kp [] H5 (upd H5 p6 (.tup [])) := Kp.new n6
    have k06 := k05.trans k6
    refine un (e1 := .tuple []) k06 (.tup upd_same .nil) (by decide) (lnR_of (by rfl)) fun p7 H7 hp7 k7 => ⟨small (by decide), fun p8 n8 => ?_⟩
    have k8 : Kp [] H7 (upd H7 p8 (.lst [.str "name", .str u])) := Kp.new n8
    refine cmp nameO uo (k8 _ _ not0 hp7) upd_same ⟨_, rfl, ?_⟩
    generalize (upd H7 p8 (.lst [.str "name", .str u])) = H8 at k8 ⊢
    rw [if_neg Bool.false_ne_true]
    have k08 := (k06.trans k7).trans k8
    refine ⟨o, d, so, to, zs, f, u, rfl, hR.kp k08, nu, fun p9 H9 hp9 k9 => ⟨small (by decide), fun p10 n10 => ?_⟩⟩
    have k10 : Kp [] H9 (upd H9 p10 (.lst [.str u])) := Kp.new n10
    have sh : ShL [u] := shL_of fun a ha => by rw [List.mem_singleton.mp ha]; exact uo
    refine ⟨_, _, .lst (sq_l (k10 _ _ not0 hp9)) (dpStrs [u]), .lst (sq_l upd_same) (dpStrs [u]), sh, sh, ?_⟩
    rw [eqv_of sh]
    refine ⟨_, rfl, ?_⟩
    rw [if_pos rfl]
    have k010 := (k08.trans k9).trans k10
    exact hold k010 fun H' k => q H' (k010.trans k)
end
end My

set_option Elab.async false
set_option linter.all false
set_option maxRecDepth 100000
set_option maxHeartbeats 4000000
namespace My
open PySem L2 NdefX
def rLstOf (K : PySem.W.Frag) : List V → Hp → VK → Prop := fun xs H Q => ∃ p ys, xs = [V.ref p] ∧ (SqL K H p ys ∨ SqT K H p ys) ∧ ∀ (l : Addr), H l = none → Q (V.ref l) (upd H l (HO.lst ys))
abbrev Fnc := List (Str × (Pr → Bool))
/-- at d a dict of the law's: names, and for each a list of some pairs -/
def TabL (K : PySem.W.Frag) (H : Hp) (d : Addr) (fs : Fnc) : Prop := ∃ kvs : List (Key × V), H d = some (.dK kvs) ∧ kvs.map (·.1) = fs.map (fun x => (Sum.inr x.1 : Key)) ∧ ∀ (i : Nat) (n : Str) (g : Pr → Bool), fs[i]? = some (n, g) → ∃ l, kvs[i]? = some (Sum.inr n, V.ref l) ∧ SelAt K H l g
theorem SelAt.kp {K : PySem.W.Frag} {H H' : Hp} {l : Addr} {f : Pr → Bool} (h : SelAt K H l f) (k : Kp [] H H') : SelAt K H' l f := by
  obtain ⟨ws, a, b⟩ := h
  exact ⟨ws, k _ _ not0 a, dpAllN k noSq0 b⟩
theorem TabL.kp {K : PySem.W.Frag} {H H' : Hp} {d : Addr} {fs : Fnc} (h : TabL K H d fs) (k : Kp [] H H') : TabL K H' d fs := by
  obtain ⟨kvs, a, b, c⟩ := h
  exact ⟨kvs, k _ _ not0 a, b, fun i n g e => by
    obtain ⟨l, e1, e2⟩ := c i n g e
    exact ⟨l, e1, e2.kp k⟩⟩
theorem nodupK {kvs : List (Key × V)} {fs : Fnc} (e : kvs.map (·.1) = fs.map (fun x => (Sum.inr x.1 : Key))) (nd : (fs.map (·.1)).Nodup) : (kvs.map (·.1)).Nodup := by
  have e : kvs.map (·.1) = (fs.map (·.1)).map Sum.inr := by rw [e, List.map_map]; rfl
  rw [e]
  exact (List.Pairwise.map _ (fun a b h z => h (Sum.inr.inj z)) nd)
theorem keysLen {kvs : List (Key × V)} {fs : Fnc} (e : kvs.map (·.1) = fs.map (fun x => (Sum.inr x.1 : Key))) : kvs.length = fs.length := by
  have := congrArg List.length e
  simpa using this
theorem putNew {kvs : List (Key × V)} {fs : Fnc} {n : Str} {v : V} (e : kvs.map (·.1) = fs.map (fun x => (Sum.inr x.1 : Key))) (h : n ∉ fs.map (·.1)) : putK kvs (Sum.inr n) v = kvs ++ [(Sum.inr n, v)] := by
  unfold putK
  rw [if_neg]
  intro h2
  obtain ⟨kv, hkv, e2⟩ := List.any_eq_true.mp h2
  have hm : (Sum.inr n : Key) ∈ kvs.map (·.1) := by rw [← of_decide_eq_true e2]; exact List.mem_map_of_mem hkv
  rw [e] at hm
  obtain ⟨x, hx, e3⟩ := List.mem_map.mp hm
  exact h (by rw [← Sum.inr.inj e3]; exact List.mem_map_of_mem hx)
theorem Fen.put {K : PySem.W.Frag} {PC : Addr} {H : Hp} {kvs : List (Key × V)} {fs : Fnc} {n : Str} {g : Pr → Bool} {q : Addr} (h : Fen K PC H kvs fs) (hn : n ∉ fs.map (·.1)) (hq : PrAt K PC H q g) : putK kvs (Sum.inr n) (V.ref q) = kvs ++ [(Sum.inr n, V.ref q)] ∧ Fen K PC H (kvs ++ [(Sum.inr n, V.ref q)]) (fs ++ [(n, g)]) := by
  have kl := keysLen h.1
  refine ⟨putNew h.1 hn, by rw [List.map_append, List.map_append, h.1]; rfl, fun i m g2 ei => ?_⟩
  by_cases il : i < fs.length
  · rw [List.getElem?_append_left il] at ei
    obtain ⟨y, e1, e2⟩ := h.2 i m g2 ei
    exact ⟨y, by rw [List.getElem?_append_left (by omega)]; exact e1, e2⟩
  · rw [List.getElem?_append_right (by omega)] at ei
    have i0 : i - fs.length = 0 := by
      cases e : i - fs.length with
      | zero => rfl
      | succ m => rw [e] at ei; cases ei
    rw [i0] at ei
    cases ei
    exact ⟨q, by rw [List.getElem?_append_right (by omega), kl, i0]; rfl, hq⟩
theorem SelAt.kpN {K : PySem.W.Frag} {H H' : Hp} {S : List Addr} {l : Addr} {f : Pr → Bool} (h : SelAt K H l f) (k : Kp S H H') (n : NoSq H S) : SelAt K H' l f := by
  obtain ⟨ws, a, b⟩ := h
  exact ⟨ws, k _ _ (fun hm => (n l hm).1 ws a) a, dpAllN k n b⟩
theorem PrAt.unf {K : PySem.W.Frag} {PC : Addr} {H : Hp} {d q : Addr} {o : Obj} {kvs : List (Key × V)} {u : HO} {g : Pr → Bool} (h : PrAt K PC H q g) (hd : H d = some (.frz o (.dK kvs))) : PrAt K PC (upd H d u) q g := by
  obtain ⟨dx, l, vs, a, b, c⟩ := h
  exact ⟨dx, l, vs, by rw [upd_ne (fun e => by rw [e, hd] at a; cases a)]; exact a, by rw [upd_ne (fun e => by rw [e, hd] at b; cases b)]; exact b, dpAllM (unfL hd) (unfT hd) c⟩
theorem Fen.unf {K : PySem.W.Frag} {PC : Addr} {H : Hp} {d : Addr} {o : Obj} {kvs ks : List (Key × V)} {u : HO} {fs : Fnc} (h : Fen K PC H ks fs) (hd : H d = some (.frz o (.dK kvs))) : Fen K PC (upd H d u) ks fs := ⟨h.1, fun i n g e => by
  obtain ⟨q, a, b⟩ := h.2 i n g e
  exact ⟨q, a, b.unf hd⟩⟩
theorem pick_same {g : Pr → Bool} : ∀ p ∈ pairsL, pick ((pairsL.filter g).map pD) p = g p := fun p hp => pick_eq hp
/-- Pairs(a list of some pairs) -/
theorem mkSel {K : PySem.W.Frag} {PC BP : Addr} {ta : TA} {σ : L2.St} {H : Hp} {Q : VK} {g : Pr → Bool} (ht : ∀ R : List V → Hp → Prop, (∀ D ws H1, SqAny K H1 D ws → DpAll K H1 ws ((pairsL.filter g).map pD) → Kp [] H H1 → R [.ref D] H1) → ta σ H R)
    (q : ∀ o H', H o = none → PrAt K PC H' o g → Kp [] H H' → Q (.ref o) H') : tMake PC (spPI K PC BP) [] E0 ta σ H Q :=
  ht _ fun D ws H1 hD hd k => pr_make hD hd (fitsP (subP _)) (by rw [List.length_map]; exact Nat.le_trans (lenP _) (by decide)) (all_isP (subP _)) fun o H' no hp hk => q o H' (k.free0 no) (hp.same pick_same) (k.trans hk)
theorem PrAt.putD {K : PySem.W.Frag} {PC : Addr} {H : Hp} {p q : Addr} {ks : List (Key × V)} {u : HO} {g : Pr → Bool} (h : PrAt K PC H q g) (hp : H p = some (.dK ks)) : PrAt K PC (upd H p u) q g :=
  h.kpN Kp.lock (noSqD hp) (by
    obtain ⟨dx, l, vs, a, _⟩ := h
    rw [List.mem_singleton]
    rintro rfl
    rw [hp] at a; cases a)
theorem Fen.putD {K : PySem.W.Frag} {PC : Addr} {H : Hp} {p : Addr} {ks kvs : List (Key × V)} {u : HO} {fs : Fnc} (h : Fen K PC H kvs fs) (hp : H p = some (.dK ks)) : Fen K PC (upd H p u) kvs fs := ⟨h.1, fun i n g e => by
  obtain ⟨q, a, b⟩ := h.2 i n g e
  exact ⟨q, a, b.putD hp⟩⟩
section
variable {P : Program} {w : World} {K : PySem.W.Frag} {mg : Str → Option Value} {base : Heap} {BK PC NF BP TL BF : Addr}
theorem eqvL {ps : List Pr} (h : ∀ p ∈ ps, p ∈ pairsL) : PyData.eqv (.list (ps.map pD)) (.list (ps.map pD)) = true := SeqAt.eqv_refl _ (SeqAt.canLay_of_shaped (shapedL (fitsP h)).1)
theorem list_pr {PC o : Addr} {H : Hp} {g : Pr → Bool} {Q : VK} (hp : PrAt K PC H o g) (q : ∀ p ws H', H p = none → H' p = some (.lst ws) → DpAll K H' ws ((pairsL.filter g).map pD) → Kp [] H H' → Q (.ref p) H') : rListO K PC (spIter PC) (spLen K PC) E0 [.ref o] H Q := by
  obtain ⟨dx, l, us, ho, hl, hD⟩ := id hp
  refine ⟨o, dx, _, rfl, ho, fun p np => ?_⟩
  have k1 : Kp [] H (upd H p (.lst [])) := Kp.new np
  have hp1 : (upd H p (.lst [])) p = some (.lst []) := upd_same
  generalize upd H p (.lst []) = H1 at k1 hp1 ⊢
  refine ⟨o, dx, l, us, rfl, k1 _ _ not0 ho, k1 _ _ not0 hl, fun it nit => ?_⟩
  have k2 : Kp [] H1 (upd H1 it (ItO l it 0)) := Kp.new nit
  have hit : (upd H1 it (ItO l it 0)) it = some (ItO l it 0) := upd_same
  generalize upd H1 it (ItO l it 0) = H2 at k2 hit ⊢
  have k12 := k1.trans k2
  have hl2 := k12 _ _ not0 hl
  have hp2 := k2 _ _ not0 hp1
  have lp : l ≠ p := ne_of_none hl np
  have li : l ≠ it := ne_of_none (k1 _ _ not0 hl) nit
  have pi : p ≠ it := ne_of_none hp1 nit
  have kf : Kp [] H (upd (upd H2 it (junk it)) p (.lst us)) := (k12.wr (k1.free0 nit)).wr np
  refine ⟨l, it, us, rfl, k12 _ _ not0 ho, hit, sq_l hl2, lp, li, hp2, o, g, rfl, hp.kp k12, (pairsL.filter g).length, rfl, small (Nat.le_trans (lenP g) (by decide)), hit, sq_l hl2, hp2, ?_⟩
  exact q p us _ np upd_same (dpAllN kf noSq0 hD) kf
theorem name_len {z : Str} (h : nameS z = true) : z.length ≤ 8 := by
  unfold nameS at h
  rw [Bool.and_eq_true, Bool.and_eq_true] at h
  exact of_decide_eq_true h.2.1
theorem name_ok {z : Str} (h : nameS z = true) : Fit (.str z) := by
  unfold nameS at h
  rw [Bool.and_eq_true, Bool.and_eq_true, List.all_eq_true] at h
  refine ⟨?_, by show 0 ≤ 60; decide⟩
  have e : SeqAt.shaped (.str z) = (z.cps.all (fun c => decide (c < 0x110000)) && true) := rfl
  rw [e, Bool.and_true, Array.all_eq_true']
  intro c hc
  have := h.2.2 c (Array.mem_toList_iff.mpr hc)
  unfold lowC at this
  rw [Bool.and_eq_true] at this
  have := of_decide_eq_true this.2
  exact decide_eq_true (by omega)
theorem good_name {z : Str} (h : goodF z = true) : nameS z = true := by
  unfold goodF fenS at h
  rw [Bool.and_eq_true, Bool.and_eq_true] at h
  exact h.2.1
theorem full_name : nameS "full" = true := by decide +kernel
/-- the law's view of a book -/
def Fs (fs : Fnc) : Prop := (∀ x ∈ fs, goodF x.1 = true) ∧ (fs.map (·.1)).Nodup ∧ fs.length ≤ 2
def full (fs : Fnc) : Fnc := fs ++ [(("full" : Str), fun _ => true)]
theorem Fs.names {fs : Fnc} (h : Fs fs) : ∀ z ∈ (full fs).map (·.1), nameS z = true := fun z hz => by
  unfold full at hz
  rw [List.map_append, List.mem_append] at hz
  rcases hz with hz | hz
  · obtain ⟨x, hx, rfl⟩ := List.mem_map.mp hz
    exact good_name (h.1 x hx)
  · rw [List.mem_singleton.mp hz]; exact full_name
/-- what the fences called z keep -/
def hasF (fs : Fnc) (z : Str) (p : Pr) : Bool := (full fs).any fun x => decide (x.1 = z) && x.2 p
theorem hasF_of {fs : Fnc} (nd : ((full fs).map (·.1)).Nodup) {z : Str} {g : Pr → Bool} {p : Pr} (h : (z, g) ∈ full fs) : hasF fs z p = g p := by
  unfold hasF
  generalize full fs = L at nd h
  induction L with
  | nil => exact nomatch h
  | cons x r ih =>
    rw [List.map_cons, List.nodup_cons] at nd
    rw [List.any_cons]
    rcases List.mem_cons.mp h with h | h
    · subst h
      have e : (r.any fun x => decide (x.1 = z) && x.2 p) = false := by
        rw [List.any_eq_false]
        intro y hy
        have : y.1 ≠ z := fun e => nd.1 (e ▸ List.mem_map_of_mem (f := (·.1)) hy)
        simp [this]
      rw [e, Bool.or_false]
      simp
    · have ne : x.1 ≠ z := fun e => nd.1 (e ▸ List.mem_map_of_mem (f := (·.1)) h)
      rw [ih nd.2 h]
      simp [ne]
end
section
variable {P : Program} {w : World} {K : PySem.W.Frag} {mg : Str → Option Value} {base : Heap} {BK PC NF BP TL BF : Addr}
theorem full_nodup {fs : Fnc} (h : Fs fs) : ((full fs).map (·.1)).Nodup := by
  unfold full
  rw [List.map_append, List.nodup_append]
  refine ⟨h.2.1, by simp, fun y hy w hw e => ?_⟩
  have hw : w = "full" := by simpa using hw
  obtain ⟨x, hx, e1⟩ := List.mem_map.mp hy
  have g := h.1 x hx
  rw [e1, e, hw] at g
  have z0 : goodF ("full" : Str) = false := by decide +kernel
  rw [z0] at g; cases g
theorem BookAt.lock {H : Hp} {o dt : Addr} {f : Pr → Bool} {fs : Fnc} {u : HO} {kvt : List (Key × V)} (h : BookAt K BK PC H o f (full fs)) (hd : H dt = some (.dK kvt)) (hl : kvt.length = fs.length) : BookAt K BK PC (upd H dt u) o f (full fs) := by
  obtain ⟨dx, ko, d, kvs, a, b, c, e, r⟩ := h
  have kl := keysLen e.1
  have ne : d ≠ dt := fun z => by
    rw [z, hd] at c
    have c : kvt = kvs := HO.dK.inj (Option.some.inj c)
    rw [c, kl] at hl
    unfold full at hl
    rw [List.length_append] at hl
    have : fs.length + 1 = fs.length := hl
    omega
  have no : o ≠ dt := fun z => by rw [z, hd] at a; cases a
  refine ⟨dx, ko, d, kvs, by rw [upd_ne no]; exact a, b.putD hd, by rw [upd_ne ne]; exact c, e.putD hd, r⟩
/-- a new book -/
theorem bookNew {H1 : Hp} {ko : Addr} {vf : V} {f : Pr → Bool} {fs : Fnc} {Q : VK} (hko : PrAt K PC H1 ko f) (hv : (vf = .non ∧ fs = []) ∨ ∃ (d : Addr) (kvs : List (Key × V)), vf = .ref d ∧ H1 d = some (.dK kvs) ∧ Fen K PC H1 kvs fs) (hf : Fs fs)
    (q : ∀ o H', H1 o = none → BookAt K BK PC H' o f (full fs) → Kp [] H1 H' → Q (.ref o) H') : ∀ x dx, H1 x = none → H1 dx = none → dx ≠ x → spBI K BK PC TL BF [.ref x, .ref ko, vf] (upd (upd H1 dx (.own x)) x (.ins BK dx [])) (fun v H3 => v = .non ∧ Q (.ref x) H3) E0 := by
  intro x dx nx nd hne
  have k1 : Kp [] H1 (upd H1 dx (.own x)) := Kp.new nd
  have k := k1.trans (Kp.new (S := []) (o := .ins BK dx []) (by rw [upd_ne hne.symm]; exact nx))
  have xo : x ≠ ko := by
    obtain ⟨_, _, _, a, _⟩ := hko
    exact ne_of_none2 a nx
  refine ⟨x, dx, ko, vf, f, fs, rfl, upd_same, hko.kp k, xo, ?_, hf.2.1, by have := hf.2.2; omega, fun y hy => Nat.le_trans (name_len (good_name (hf.1 y hy))) (by decide), fun _ _ H' hB hk => ⟨rfl, q x H' nx hB (k.one hk nx)⟩, fun h => absurd h (by have := hf.2.2; omega), fun _ ys i z perm _ ez bad => ?_⟩
  · rcases hv with h | ⟨d, kvs, a, b, c⟩
    · exact .inl h
    · exact .inr ⟨d, kvs, a, k _ _ not0 b, c.kp k⟩
  · obtain ⟨y, hy, ey⟩ := List.mem_map.mp (perm.mem_iff.mp (List.mem_of_getElem? ez))
    rw [← ey, hf.1 y hy] at bad; cases bad
theorem mkBookK {t tk : TA} {σ : L2.St} {H : Hp} {Q : VK} {p : Addr} {kvs : List (Key × V)} {f : Pr → Bool} {fs : Fnc} (ht : ∀ R : List V → Hp → Prop, (∀ ko H1, PrAt K PC H1 ko f → Kp [] H H1 → R [.ref ko] H1) → t σ H R) (hk : ∀ (H1 : Hp) (R : List V → Hp → Prop), R [.ref p] H1 → tk σ H1 R)
    (hp : H p = some (.dK kvs)) (hF : Fen K PC H kvs fs) (hf : Fs fs) (q : ∀ o H', H o = none → BookAt K BK PC H' o f (full fs) → Kp [] H H' → Q (.ref o) H') : tMakeK BK 1 1 (spBI K BK PC TL BF) (fun vs zs => vs ++ zs) E0 t tk σ H Q :=
  ht _ fun ko H1 hko k1 => hk _ _ ⟨rfl, rfl, bookNew hko (.inr ⟨p, kvs, rfl, k1 _ _ not0 hp, hF.kp k1⟩) hf fun o H' no hB k => q o H' (k1.free0 no) hB (k1.trans k)⟩
theorem fence_use {H : Hp} {o : Addr} {n : Str} {f g : Pr → Bool} {fs : Fnc} {Q : VK} (hB : BookAt K BK PC H o f (full fs)) (hf : Fs fs) (hm : (n, g) ∈ full fs) (q : ∀ p H', PrAt K PC H' p g → Kp [] H H' → Q (.ref p) H') : ∃ dx fl, H o = some (.ins BK dx fl) ∧ fl.lookup ("fence" : Str) = none ∧ spFence K BK PC NF [.ref o, .str n] H Q E0 := by
  obtain ⟨dx, ko, d, kvs, ho, _, _, _, _, nd⟩ := id hB
  have nm : n ∈ (full fs).map (·.1) := List.mem_map_of_mem (f := (·.1)) hm
  have nl := name_len (hf.names n nm)
  refine ⟨dx, _, ho, rfl, o, f, full fs, n, rfl, hB, by omega, fun i2 g2 e2 _ p H' hp kp => ?_, fun bad => ?_⟩
  · have h1 : hasF fs n = g := funext fun p => hasF_of nd hm
    have h2 : hasF fs n = g2 := funext fun p => hasF_of nd (List.mem_of_getElem? e2)
    rw [← h1, h2] at q
    exact q p H' hp kp
  · rcases bad with h | h
    · rw [hf.names n nm] at h; cases h
    · exact absurd nm h
theorem nm_take {fs : Fnc} (nd : (fs.map (·.1)).Nodup) {j : Nat} {n : Str} {g : Pr → Bool} (eg : fs[j]? = some (n, g)) : n ∉ (fs.take j).map (·.1) := fun hm => by
  obtain ⟨y, hy, ey⟩ := List.mem_map.mp hm
  obtain ⟨m, hm2⟩ := List.getElem?_of_mem hy
  have mj : m < j := by have := (List.getElem?_eq_some_iff.mp hm2).1; rw [List.length_take] at this; omega
  rw [List.getElem?_take, if_pos mj] at hm2
  have := (List.pairwise_iff_getElem.mp nd) m j (by rw [List.length_map]; exact (List.getElem?_eq_some_iff.mp hm2).1) (by rw [List.length_map]; exact (List.getElem?_eq_some_iff.mp eg).1) mj
  apply this
  simp only [List.getElem_map]
  rw [(List.getElem?_eq_some_iff.mp hm2).2, (List.getElem?_eq_some_iff.mp eg).2]
  exact ey
end
end My

set_option Elab.async false
set_option linter.all false
set_option maxRecDepth 100000
set_option maxHeartbeats 4000000
namespace My
open PySem L2 NdefX
abbrev s_law_book : Stmt := top 38
theorem sc_law_book : FnScope ["_law_kept", "_law_table_here", "_law_handed", "_law_name_here"] ["_law_kept", "_law_table_here"] (defScope s_law_book) := ⟨rfl, rfl, rfl, by decide +kernel, rfl, by decide +kernel, by decide +kernel⟩
structure BtBk (K : PySem.W.Frag) (mg : Str → Option Value) (PC BK fI fJ : Addr) : Prop extends BtL mg where
  M_Pairs : Mk K PC fI
  M_Book : Mk K BK fJ
section
variable {P : Program} {w : World} {K : PySem.W.Frag} {mg : Str → Option Value} {base : Heap} {BK PC BP TL BF : Addr}
def spBook (K : PySem.W.Frag) (BK PC : Addr) : Sp := fun vs H Q _ => ∃ (l dt : Addr) (g : Pr → Bool) (fs : Fnc), vs = [.ref l, .ref dt] ∧ SelAt K H l g ∧ TabL K H dt fs ∧ Fs fs ∧ ∀ o H', BookAt K BK PC H' o g (full fs) → Kp [] H H' → Q (.ref o) H'
theorem ok_law_book {f : Addr} {fd : FuncData} {fI fJ : Addr} (D : Df K mg "_law_book" s_law_book ["_law_kept", "_law_table_here"] f fd) (T : BtBk K mg PC BK fI fJ) (C : PrC K mg PC) (B : BkC K mg BK) {fdI fdJ : FuncData} {gJ : List Value → List Value → List Value} (bI_Pairs : Binds K fdI ["self", "pairs"] []) (G_Pairs_init : FnOk P w K mg base (L2.CX P w) 3 fI fdI ["self", "pairs"] (spPI K PC BP))
    (kb_Book : KBn K fdJ ["self", "kept", "fences"] 2 ["fences"] gJ (fun vs zs => vs ++ zs)) (G_Book_init : FnOk P w K mg base (L2.CX P w) 5 fJ fdJ ["self", "kept", "fences"] (spBI K BK PC TL BF)) : FnOk P w K mg base CX0 7 f fd ["_law_kept", "_law_table_here"] (spBook K BK PC) := by
  refine D.F.ok sc_law_book (fun vs H Q E h => ?_) (fun cdv A outer s H vs Q E hr h => ?_)
  · obtain ⟨_, _, _, _, rfl, _⟩ := h
    rfl
  · obtain ⟨l, dt, g, fs, rfl, hl, ht, hf, q⟩ := h
    have hu := hu_of hr
    have M_Pairs := T.M_Pairs
    have M_Book := T.M_Book
    refine ⟨_, (pss_cons (ps_set (i := 2) sc_law_book.nd rfl (Or.inl rfl) pe_dnewK)
      (pss_cons (ps_lock (ps_for PassesOwn.never rfl (pi_keys (pv 1)) (pg_name (i := 3) sc_law_book.nd rfl (Or.inl rfl)) (pss_one (ps_dput hu (pv 2) (pv 3) (pe_make M_Pairs G_Pairs_init (hr.mono (by decide)) rfl C.k bI_Pairs .nil passL (pa_cons (pe_callTy call_list_of (by rfl) T.b_list (by decide +kernel) (pa_cons (pe_dget hu (pv 1) (pv 3) (fun _ _ => rfl)) pa_nil)) pa_nil)) rfl))))
      (pss_one (ps_ret (pe_makeK (n := 1) M_Book G_Book_init (hr.mono (by decide)) rfl B.k kb_Book passL (pa_cons (pe_make M_Pairs G_Pairs_init (hr.mono (by decide)) rfl C.k bI_Pairs .nil passL (pa_cons (pe_callTy call_list_of (by rfl) T.b_list (by decide +kernel) (pa_cons (pv 0) pa_nil)) pa_nil)) pa_nil) (pk_cons (pv 2) pk_nil)))))), ?_⟩
    try simp (maxSteps := 1000000) only [tSeq, tIfS, tTest, tOp, tUn, tCB, tCons, tNil, tVar, tC, rI0, rI, rU, rEq, rNe, tRet, tRetN, tAsg, gName, gSub, tBM, tBM0, tNext, tB, tNot, tAnd, tOr, tIf, tCall, tDrop, tBreak, tCont, L2.start, tDGet, sDPut, tTup, tLst, tDNewK, tRevL, rCat, rAppend, rPop, rSetL, tAndV, tOrV, tNotV, tSl, tPart, tNoPart, tM1, gTup, gCons, gNil, cxK, cxnK, List.map_cons, List.map_nil, List.length_cons, List.length_nil, List.replicate, List.cons_append, List.nil_append, List.append_nil, List.set_cons_zero, List.set_cons_succ, List.getElem?_cons_zero, List.getElem?_cons_succ, Option.some.injEq, V.ref.injEq, V.int.injEq, V.str.injEq, V.bl.injEq, V.ty.injEq, exists_eq_left', exists_eq_left, exists_and_left, List.cons.injEq, and_true, true_and, sc_ii, sc_ss, sc_bb, sc_ni, sc_in, sc_is, sc_si, sc_nn, decide_true, decide_false, reduceCtorEq, Bool.false_eq_true, if_true, if_false, ite_true, ite_false, exists_const, eq_self, false_and, and_false, or_false, false_or, exists_false, Evl.rLenS, rSum, wipe, tYes, exists_eq, exists_eq', rIxL, rIxT, rIxS, exists_and_right, gt_iff_lt, not_true_eq_false, not_false_eq_true, Bool.not_true, Bool.not_false, decide_eq_true_eq, Nat.reduceSub, Nat.reduceAdd, List.append_assoc, tChain, tDIn, tDNotIn, sDDel, tAug, ipI]
    intro p np
    obtain ⟨kvt, htd, htk, hte⟩ := id ht
    have tp : dt ≠ p := ne_of_none htd np
    have k1 : Kp [] H (upd H p (.dK [])) := Kp.new np
    have hp1 : (upd H p (.dK [])) p = some (.dK []) := upd_same
    have htd1 := k1 _ _ not0 htd
    have ht1 := ht.kp k1
    have hl1 := hl.kp k1
    generalize (upd H p (.dK [])) = H1 at k1 hp1 htd1 ht1 hl1 ⊢
    have kl := keysLen htk
    refine forKeys (i := 1) (d := dt) (kvs := kvt) rfl htd1 (fun od j σ H' => ∃ (c : Option V) (kvs : List (Key × V)), σ = [some (.ref l), some (.ref dt), some (.ref p), c] ∧ H' dt = some (.frz od (.dK kvt)) ∧ H' p = some (.dK kvs) ∧ Fen K PC H' kvs (fs.take j) ∧ Kp [dt, p] H1 H' ∧ Kp [dt] H H') (fun od => ⟨none, [], rfl, upd_same, by rw [upd_ne tp.symm]; exact hp1, ⟨rfl, fun i n g e => by rw [List.take_zero] at e; cases e⟩, (Kp.refl _ H1).put (by simp), k1.of0.trans ((Kp.refl [dt] H1).put (by simp))⟩) (fun od j σ H' h => by obtain ⟨_, _, _, h, _⟩ := h; exact h) (fun od j k v σ H' e h => ?_) (fun od σ H' h => ?_)
    · obtain ⟨c, kvs, rfl, hd2, hp2, hF2, k2, kH2⟩ := h
      obtain ⟨n, g2, en, rfl⟩ : ∃ n g2, fs[j]? = some (n, g2) ∧ k = Sum.inr n := by
        have e2 : (kvt.map (·.1))[j]? = some k := by rw [List.getElem?_map, e]; rfl
        rw [htk, List.getElem?_map] at e2
        cases e3 : fs[j]? with
        | none => rw [e3] at e2; cases e2
        | some z => rw [e3] at e2; exact ⟨z.1, z.2, rfl, (Option.some.inj e2).symm⟩
      obtain ⟨ll, el, hl2⟩ := hte j n g2 en
      have hl3 := hl2.kpN kH2 (noSqK htd)
      obtain ⟨ws, hws, hwd⟩ := id hl3
      have ev : valV kvt (Sum.inr n) = some (V.ref ll) := valV_mem (nodupK htk hf.2.1) (List.mem_of_getElem? el)
      try simp (maxSteps := 1000000) only [tSeq, tIfS, tTest, tOp, tUn, tCB, tCons, tNil, tVar, tC, rI0, rI, rU, rEq, rNe, tRet, tRetN, tAsg, gName, gSub, tBM, tBM0, tNext, tB, tNot, tAnd, tOr, tIf, tCall, tDrop, tBreak, tCont, L2.start, tDGet, sDPut, tTup, tLst, tDNewK, tRevL, rCat, rAppend, rPop, rSetL, tAndV, tOrV, tNotV, tSl, tPart, tNoPart, tM1, gTup, gCons, gNil, cxK, cxnK, List.map_cons, List.map_nil, List.length_cons, List.length_nil, List.replicate, List.cons_append, List.nil_append, List.append_nil, List.set_cons_zero, List.set_cons_succ, List.getElem?_cons_zero, List.getElem?_cons_succ, Option.some.injEq, V.ref.injEq, V.int.injEq, V.str.injEq, V.bl.injEq, V.ty.injEq, exists_eq_left', exists_eq_left, exists_and_left, List.cons.injEq, and_true, true_and, sc_ii, sc_ss, sc_bb, sc_ni, sc_in, sc_is, sc_si, sc_nn, decide_true, decide_false, reduceCtorEq, Bool.false_eq_true, if_true, if_false, ite_true, ite_false, exists_const, eq_self, false_and, and_false, or_false, false_or, exists_false, Evl.rLenS, rSum, wipe, tYes, exists_eq, exists_eq', rIxL, rIxT, rIxS, exists_and_right, gt_iff_lt, not_true_eq_false, not_false_eq_true, Bool.not_true, Bool.not_false, decide_eq_true_eq, Nat.reduceSub, Nat.reduceAdd, List.append_assoc, tChain, tDIn, tDNotIn, sDDel, tAug, ipI]
      refine mkSel (g := g2) (fun R hR => ?_) fun q1 H3 nq hq1 k3 => ?_
      · try simp (maxSteps := 1000000) only [tSeq, tIfS, tTest, tOp, tUn, tCB, tCons, tNil, tVar, tC, rI0, rI, rU, rEq, rNe, tRet, tRetN, tAsg, gName, gSub, tBM, tBM0, tNext, tB, tNot, tAnd, tOr, tIf, tCall, tDrop, tBreak, tCont, L2.start, tDGet, sDPut, tTup, tLst, tDNewK, tRevL, rCat, rAppend, rPop, rSetL, tAndV, tOrV, tNotV, tSl, tPart, tNoPart, tM1, gTup, gCons, gNil, cxK, cxnK, List.map_cons, List.map_nil, List.length_cons, List.length_nil, List.replicate, List.cons_append, List.nil_append, List.append_nil, List.set_cons_zero, List.set_cons_succ, List.getElem?_cons_zero, List.getElem?_cons_succ, Option.some.injEq, V.ref.injEq, V.int.injEq, V.str.injEq, V.bl.injEq, V.ty.injEq, exists_eq_left', exists_eq_left, exists_and_left, List.cons.injEq, and_true, true_and, sc_ii, sc_ss, sc_bb, sc_ni, sc_in, sc_is, sc_si, sc_nn, decide_true, decide_false, reduceCtorEq, Bool.false_eq_true, if_true, if_false, ite_true, ite_false, exists_const, eq_self, false_and, and_false, or_false, false_or, exists_false, Evl.rLenS, rSum, wipe, tYes, exists_eq, exists_eq', rIxL, rIxT, rIxS, exists_and_right, gt_iff_lt, not_true_eq_false, not_false_eq_true, Bool.not_true, Bool.not_false, decide_eq_true_eq, Nat.reduceSub, Nat.reduceAdd, List.append_assoc, tChain, tDIn, tDNotIn, sDDel, tAug, ipI]
        exact ⟨_, .inl ⟨kvt, Sum.inr n, .inr ⟨od, hd2⟩, rfl, ev.symm⟩, ll, rfl, ws, .inl (sq_l hws), fun l3 n3 => hR l3 ws _ (.inl (sq_l upd_same)) (dpAllN (Kp.new n3) noSq0 hwd) (Kp.new n3)⟩
      have hp3 := k3 _ _ not0 hp2
      have nn := nm_take hf.2.1 en
      obtain ⟨e1, F3⟩ := (hF2.kp k3).put nn hq1
      have jl := (List.getElem?_eq_some_iff.mp en).1
      have kl3 : kvs.length < sizeLine := by
        rw [keysLen hF2.1, List.length_take]
        exact smallL (by have := hf.2.2; show min j fs.length ≤ _; omega)
      refine ⟨_, DPut.k (k := Sum.inr n) hp3 kl3, ?_, kvs ++ [(Sum.inr n, V.ref q1)], by rw [← e1]; exact upd_same, ?_, ?_, ?_⟩
      · rw [upd_ne tp]; exact k3 _ _ not0 hd2
      · rw [take_snocS en, e1]
        exact F3.putD hp3
      · exact (k2.trans (k3.mono (by simp))).put (by simp)
      · exact (kH2.trans k3.of0).wr np
    · obtain ⟨c, kvs, rfl, hd2, hp2, hF2, k2, kH2⟩ := h
      rw [kl, List.take_length] at hF2
      try simp (maxSteps := 1000000) only [tSeq, tIfS, tTest, tOp, tUn, tCB, tCons, tNil, tVar, tC, rI0, rI, rU, rEq, rNe, tRet, tRetN, tAsg, gName, gSub, tBM, tBM0, tNext, tB, tNot, tAnd, tOr, tIf, tCall, tDrop, tBreak, tCont, L2.start, tDGet, sDPut, tTup, tLst, tDNewK, tRevL, rCat, rAppend, rPop, rSetL, tAndV, tOrV, tNotV, tSl, tPart, tNoPart, tM1, gTup, gCons, gNil, cxK, cxnK, List.map_cons, List.map_nil, List.length_cons, List.length_nil, List.replicate, List.cons_append, List.nil_append, List.append_nil, List.set_cons_zero, List.set_cons_succ, List.getElem?_cons_zero, List.getElem?_cons_succ, Option.some.injEq, V.ref.injEq, V.int.injEq, V.str.injEq, V.bl.injEq, V.ty.injEq, exists_eq_left', exists_eq_left, exists_and_left, List.cons.injEq, and_true, true_and, sc_ii, sc_ss, sc_bb, sc_ni, sc_in, sc_is, sc_si, sc_nn, decide_true, decide_false, reduceCtorEq, Bool.false_eq_true, if_true, if_false, ite_true, ite_false, exists_const, eq_self, false_and, and_false, or_false, false_or, exists_false, Evl.rLenS, rSum, wipe, tYes, exists_eq, exists_eq', rIxL, rIxT, rIxS, exists_and_right, gt_iff_lt, not_true_eq_false, not_false_eq_true, Bool.not_true, Bool.not_false, decide_eq_true_eq, Nat.reduceSub, Nat.reduceAdd, List.append_assoc, tChain, tDIn, tDNotIn, sDDel, tAug, ipI]
      have k4 : Kp [] H (upd H' dt (.dK kvt)) := kpBack kH2 htd
      have hp4 : (upd H' dt (.dK kvt)) p = some (.dK kvs) := by rw [upd_ne tp.symm]; exact hp2
      have F4 := hF2.unf (u := .dK kvt) hd2
      have hl4 := hl.kp k4
      refine mkBookK (f := g) (fs := fs) (fun R hR => ?_) (fun H1 R h => by try simp (maxSteps := 1000000) only [tSeq, tIfS, tTest, tOp, tUn, tCB, tCons, tNil, tVar, tC, rI0, rI, rU, rEq, rNe, tRet, tRetN, tAsg, gName, gSub, tBM, tBM0, tNext, tB, tNot, tAnd, tOr, tIf, tCall, tDrop, tBreak, tCont, L2.start, tDGet, sDPut, tTup, tLst, tDNewK, tRevL, rCat, rAppend, rPop, rSetL, tAndV, tOrV, tNotV, tSl, tPart, tNoPart, tM1, gTup, gCons, gNil, cxK, cxnK, List.map_cons, List.map_nil, List.length_cons, List.length_nil, List.replicate, List.cons_append, List.nil_append, List.append_nil, List.set_cons_zero, List.set_cons_succ, List.getElem?_cons_zero, List.getElem?_cons_succ, Option.some.injEq, V.ref.injEq, V.int.injEq, V.str.injEq, V.bl.injEq, V.ty.injEq, exists_eq_left', exists_eq_left, exists_and_left, List.cons.injEq, and_true, true_and, sc_ii, sc_ss, sc_bb, sc_ni, sc_in, sc_is, sc_si, sc_nn, decide_true, decide_false, reduceCtorEq, Bool.false_eq_true, if_true, if_false, ite_true, ite_false, exists_const, eq_self, false_and, and_false, or_false, false_or, exists_false, Evl.rLenS, rSum, wipe, tYes, exists_eq, exists_eq', rIxL, rIxT, rIxS, exists_and_right, gt_iff_lt, not_true_eq_false, not_false_eq_true, Bool.not_true, Bool.not_false, decide_eq_true_eq, Nat.reduceSub, Nat.reduceAdd, List.append_assoc, tChain, tDIn, tDNotIn, sDDel, tAug, ipI]; exact h) hp4 F4 hf fun o H5 no hB k5 => q o H5 hB (k4.trans k5)
      obtain ⟨ws, hws, hwd⟩ := id hl4
      refine mkSel (g := g) (fun R2 hR2 => ?_) fun ko H5 _ hk5 k5 => hR ko H5 hk5 k5
      try simp (maxSteps := 1000000) only [tSeq, tIfS, tTest, tOp, tUn, tCB, tCons, tNil, tVar, tC, rI0, rI, rU, rEq, rNe, tRet, tRetN, tAsg, gName, gSub, tBM, tBM0, tNext, tB, tNot, tAnd, tOr, tIf, tCall, tDrop, tBreak, tCont, L2.start, tDGet, sDPut, tTup, tLst, tDNewK, tRevL, rCat, rAppend, rPop, rSetL, tAndV, tOrV, tNotV, tSl, tPart, tNoPart, tM1, gTup, gCons, gNil, cxK, cxnK, List.map_cons, List.map_nil, List.length_cons, List.length_nil, List.replicate, List.cons_append, List.nil_append, List.append_nil, List.set_cons_zero, List.set_cons_succ, List.getElem?_cons_zero, List.getElem?_cons_succ, Option.some.injEq, V.ref.injEq, V.int.injEq, V.str.injEq, V.bl.injEq, V.ty.injEq, exists_eq_left', exists_eq_left, exists_and_left, List.cons.injEq, and_true, true_and, sc_ii, sc_ss, sc_bb, sc_ni, sc_in, sc_is, sc_si, sc_nn, decide_true, decide_false, reduceCtorEq, Bool.false_eq_true, if_true, if_false, ite_true, ite_false, exists_const, eq_self, false_and, and_false, or_false, false_or, exists_false, Evl.rLenS, rSum, wipe, tYes, exists_eq, exists_eq', rIxL, rIxT, rIxS, exists_and_right, gt_iff_lt, not_true_eq_false, not_false_eq_true, Bool.not_true, Bool.not_false, decide_eq_true_eq, Nat.reduceSub, Nat.reduceAdd, List.append_assoc, tChain, tDIn, tDNotIn, sDDel, tAug, ipI]
      exact ⟨_, .inl (sq_l hws), fun l3 n3 => hR2 l3 ws _ (.inl (sq_l upd_same)) (dpAllN (Kp.new n3) noSq0 hwd) (Kp.new n3)⟩
end
end My

set_option Elab.async false
set_option linter.all false
set_option maxRecDepth 100000
set_option maxHeartbeats 4000000
namespace My
open PySem L2 NdefX
abbrev s_law_table : Stmt := top 39
theorem sc_law_table : FnScope ["_law_number", "_law_row", "_law_at", "_law_known", "_law_table_here", "_law_k", "_law_name_here", "_law_free", "_law_one"] ["_law_number", "_law_row", "_law_at", "_law_known"] (defScope s_law_table) := ⟨rfl, rfl, rfl, by decide +kernel, rfl, by decide +kernel, by decide +kernel⟩
abbrev s_law_goal : Stmt := top 40
theorem sc_law_goal : FnScope ["_law_kept", "_law_number", "_law_rows", "_law_gone", "_law_pair"] ["_law_kept", "_law_number"] (defScope s_law_goal) := ⟨rfl, rfl, rfl, by decide +kernel, rfl, by decide +kernel, by decide +kernel⟩
theorem ifs_bothT {c : TT} {t u : TS} {D : Ends} {σ : L2.St} {H : Hp} (Pv : L2.St → Hp → Prop) (h : ∀ Dn : Ends, (∀ σ' H', Pv σ' H' → Dn.nx σ' H') → tIfS c t u Dn σ H) (h2 : ∀ σ' H', Pv σ' H' → D.nx σ' H') : tIfS c t u D σ H := h D h2
section
variable {P : Program} {w : World} {K : PySem.W.Frag} {mg : Str → Option Value} {base : Heap}
def spTable (K : PySem.W.Frag) : Sp := fun vs H Q _ => ∃ (n i : Int) (a kl : Addr) (xs : List Int) (ks : List Str), vs = [.int n, .ref a, .int i, .ref kl] ∧ H a = some (.lst (xs.map V.int)) ∧ H kl = some (.lst (ks.map V.str)) ∧ 0 ≤ n ∧ (∀ x ∈ xs, 0 ≤ x) ∧ 0 ≤ i ∧ i + 4 ≤ xs.length ∧ xs.length ≤ 100 ∧ (∀ z ∈ ks, goodF z = true) ∧ ks.length ≤ 100 ∧
  ∀ p fs H', H p = none → TabL K H' p fs → Fs fs → Kp [] H H' → Q (.ref p) H'
theorem ok_law_table {f : Addr} {fd : FuncData} (D : Df K mg "_law_table" s_law_table ["_law_number", "_law_row", "_law_at", "_law_known"] f fd) (T : BtL mg) {fa : Addr} {fda : FuncData} (D_law_name : Df K mg "_law_name" s_law_name ["_law_number", "_law_taken"] fa fda) (G_law_name : FnOk P w K mg base CX0 1 fa fda ["_law_number", "_law_taken"] (spName K)) {fb : Addr} {fdb : FuncData} (D_law_set : Df K mg "_law_set" s_law_set ["_law_number"] fb fdb) (G_law_set : FnOk P w K mg base CX0 3 fb fdb ["_law_number"] (spSel K)) : FnOk P w K mg base CX0 4 f fd ["_law_number", "_law_row", "_law_at", "_law_known"] (spTable K) := by
  refine D.F.ok sc_law_table (fun vs H Q E h => ?_) (fun cdv A outer s H vs Q E hr h => ?_)
  · obtain ⟨_, _, _, _, _, _, rfl, _⟩ := h
    rfl
  · obtain ⟨n, i, a, kl, xs, ks, rfl, ha, hk, n0, xs0, i0, i4, xl, gk, kk, q⟩ := h
    have hu := hu_of hr
    refine ⟨_, (pss_cons (ps_set (i := 4) sc_law_table.nd rfl (Or.inr rfl) pe_dnewK)
      (pss_cons (ps_for PassesOwn.never rfl (pi_range1 rfl T.b_range (pa_cons (pe_op op_mod (pe_callTy (T := "int") call_int1 (by rfl) T.b_int (by decide +kernel) (pa_cons (pv 0) pa_nil)) pe_int) pa_nil)) (pg_name (i := 5) sc_law_table.nd rfl (Or.inl rfl)) (pss_cons (ps_set (i := 6) sc_law_table.nd rfl (Or.inl rfl) (pe_call G_law_name (hr.mono (by decide)) rfl D_law_name.g D_law_name.F.kp D_law_name.b .nil pass0 (pa_cons (pe_ix (r := rIxL K) ix_list (pv 1) (pe_op op_add (pv 2) (pv 5)) (fun _ _ => rfl)) (pa_cons (pe_callTy (call_listD rfl) (by rfl) T.b_list (by decide +kernel) (pa_cons (pv 4) pa_nil)) pa_nil))))
      (pss_cons (ps_setLc (i := 7) (own := [("_law_one", 8)]) (g := (gName 8)) rfl sc_law_table.nd rfl rfl (sw_true rfl rfl rfl (by decide +kernel)) (pi_list (pv 3)) (blkOk_by (N := ["_law_number", "_law_row", "_law_at", "_law_known", "_law_table_here", "_law_k", "_law_name_here", "_law_free", "_law_one"]) (sc := defScope s_law_table) (by decide +kernel)) (fun _ _ _ _ _ => (pg_name (i := 8) sc_law_table.nd rfl (Or.inl rfl))) (fun _ _ _ _ _ => (pts_one (pt_cmp (pc_dnotin hu (pv 8) (pv 4))))) (fun _ _ _ _ _ => (pv 8)))
      (pss_cons (ps_if (PW.pt (pw_and (pt_cmpR op_gt (pe_callB (id := "len") (r := Evl.rLenS K) call_len_seq (by rfl) T.b_len PySem.boot_len (pa_cons (pv 7) pa_nil)) pe_int (nomark _)) (pw_and1 (pt_cmpR op_eq (pe_op op_mod (pe_callTy (T := "int") call_int1 (by rfl) T.b_int (by decide +kernel) (pa_cons (pe_op op_fdiv (pv 0) (pe_ix (r := rIxL K) ix_list (pe_lst (pa_cons pe_int (pa_cons pe_int pa_nil))) (pv 5) (fun _ _ => rfl))) pa_nil)) pe_int) pe_int (nomark _))))) (pss_one (ps_set (i := 6) sc_law_table.nd rfl (Or.inl rfl) (pe_ix (r := rIxL K) ix_list (pv 7) pe_int (fun _ _ => rfl)))) pss_nil)
      (pss_one (ps_dput hu (pv 4) (pv 6) (pe_call G_law_set (hr.mono (by decide)) rfl D_law_set.g D_law_set.F.kp D_law_set.b .nil pass0 (pa_cons (pe_ix (r := rIxL K) ix_list (pv 1) (pe_op op_add (pe_op op_add (pv 2) pe_int) (pv 5)) (fun _ _ => rfl)) pa_nil)) rfl))))))
      (pss_one (ps_ret (pv 4))))), ?_⟩
    try simp (maxSteps := 1000000) only [tSeq, tIfS, tTest, tOp, tUn, tCB, tCons, tNil, tVar, tC, rI0, rI, rU, rEq, rNe, tRet, tRetN, tAsg, gName, gSub, tBM, tBM0, tNext, tB, tNot, tAnd, tOr, tIf, tCall, tDrop, tBreak, tCont, L2.start, tDGet, sDPut, tTup, tLst, tDNewK, tRevL, rCat, rAppend, rPop, rSetL, tAndV, tOrV, tNotV, tSl, tPart, tNoPart, tM1, gTup, gCons, gNil, cxK, cxnK, List.map_cons, List.map_nil, List.length_cons, List.length_nil, List.replicate, List.cons_append, List.nil_append, List.append_nil, List.set_cons_zero, List.set_cons_succ, List.getElem?_cons_zero, List.getElem?_cons_succ, Option.some.injEq, V.ref.injEq, V.int.injEq, V.str.injEq, V.bl.injEq, V.ty.injEq, exists_eq_left', exists_eq_left, exists_and_left, List.cons.injEq, and_true, true_and, sc_ii, sc_ss, sc_bb, sc_ni, sc_in, sc_is, sc_si, sc_nn, decide_true, decide_false, reduceCtorEq, Bool.false_eq_true, if_true, if_false, ite_true, ite_false, exists_const, eq_self, false_and, and_false, or_false, false_or, exists_false, Evl.rLenS, rSum, wipe, tYes, exists_eq, exists_eq', rIxL, rIxT, rIxS, exists_and_right, gt_iff_lt, not_true_eq_false, not_false_eq_true, Bool.not_true, Bool.not_false, decide_eq_true_eq, Nat.reduceSub, Nat.reduceAdd, List.append_assoc, tChain, tDIn, tDNotIn, sDDel, tAug, ipI]
    intro p np
    have m3 : 0 ≤ n % 3 ∧ n % 3 < 3 := ⟨Int.emod_nonneg _ (by decide), Int.emod_lt_of_pos _ (by decide)⟩
    obtain ⟨mm, em⟩ : ∃ mm : Nat, n % 3 = mm := ⟨(n % 3).toNat, by omega⟩
    refine forN34 mm (by omega) (fun j σ H' => ∃ (c5 c6 c7 : Option V) (fs : Fnc), σ = [some (.int n), some (.ref a), some (.int i), some (.ref kl), some (.ref p), c5, c6, c7, none] ∧ fs.length = j ∧ TabL K H' p fs ∧ (∀ x ∈ fs, goodF x.1 = true) ∧ (fs.map (·.1)).Nodup ∧ Kp [] H H') (fun R h => ?_) ⟨none, none, none, [], rfl, rfl, ⟨[], upd_same, rfl, fun i n g e => nomatch e⟩, (fun x hx => nomatch hx), List.nodup_nil, Kp.new np⟩ (fun j σ H2 hj h => ?_) fun σ H2 h => ?_
    · try simp (maxSteps := 1000000) only [tSeq, tIfS, tTest, tOp, tUn, tCB, tCons, tNil, tVar, tC, rI0, rI, rU, rEq, rNe, tRet, tRetN, tAsg, gName, gSub, tBM, tBM0, tNext, tB, tNot, tAnd, tOr, tIf, tCall, tDrop, tBreak, tCont, L2.start, tDGet, sDPut, tTup, tLst, tDNewK, tRevL, rCat, rAppend, rPop, rSetL, tAndV, tOrV, tNotV, tSl, tPart, tNoPart, tM1, gTup, gCons, gNil, cxK, cxnK, List.map_cons, List.map_nil, List.length_cons, List.length_nil, List.replicate, List.cons_append, List.nil_append, List.append_nil, List.set_cons_zero, List.set_cons_succ, List.getElem?_cons_zero, List.getElem?_cons_succ, Option.some.injEq, V.ref.injEq, V.int.injEq, V.str.injEq, V.bl.injEq, V.ty.injEq, exists_eq_left', exists_eq_left, exists_and_left, List.cons.injEq, and_true, true_and, sc_ii, sc_ss, sc_bb, sc_ni, sc_in, sc_is, sc_si, sc_nn, decide_true, decide_false, reduceCtorEq, Bool.false_eq_true, if_true, if_false, ite_true, ite_false, exists_const, eq_self, false_and, and_false, or_false, false_or, exists_false, Evl.rLenS, rSum, wipe, tYes, exists_eq, exists_eq', rIxL, rIxT, rIxS, exists_and_right, gt_iff_lt, not_true_eq_false, not_false_eq_true, Bool.not_true, Bool.not_false, decide_eq_true_eq, Nat.reduceSub, Nat.reduceAdd, List.append_assoc, tChain, tDIn, tDNotIn, sDDel, tAug, ipI]
      refine ⟨by decide, ?_⟩
      rw [em]
      exact h
    · obtain ⟨c5, c6, c7, fs, rfl, fl, hT, gf, nd, k2⟩ := h
      obtain ⟨kvs, hp2, hkk, hke⟩ := id hT
      have eb : kvs.map (fun kv => kV kv.1) = (fs.map (·.1)).map V.str := by
        have e : kvs.map (fun kv => kV kv.1) = (kvs.map (·.1)).map kV := by rw [List.map_map]; rfl
        rw [e, hkk, List.map_map, List.map_map]; rfl
      have at_ : ∀ (m : Int), 0 ≤ m → m < xs.length → ∃ x, atI (xs.map V.int) m = some (.int x) ∧ 0 ≤ x := fun m m0 ml => by
        obtain ⟨v, hv, ev⟩ := atI_ex (xs := xs.map V.int) (i := m) m0 (by rw [List.length_map]; exact ml)
        obtain ⟨x, hx, rfl⟩ := List.mem_map.mp hv
        exact ⟨x, ev, xs0 x hx⟩
      try simp (maxSteps := 1000000) only [tSeq, tTest, tOp, tUn, tCB, tCons, tNil, tVar, tC, rI0, rI, rU, rEq, rNe, tRet, tRetN, tAsg, gName, gSub, tBM, tBM0, tNext, tB, tNot, tAnd, tOr, tIf, tCall, tDrop, tBreak, tCont, L2.start, tDGet, tTup, tLst, tDNewK, tRevL, rCat, rAppend, rPop, rSetL, tAndV, tOrV, tNotV, tSl, tPart, tNoPart, tM1, gTup, gCons, gNil, cxK, cxnK, List.map_cons, List.map_nil, List.length_cons, List.length_nil, List.replicate, List.cons_append, List.nil_append, List.append_nil, List.set_cons_zero, List.set_cons_succ, List.getElem?_cons_zero, List.getElem?_cons_succ, Option.some.injEq, V.ref.injEq, V.int.injEq, V.str.injEq, V.bl.injEq, V.ty.injEq, exists_eq_left', exists_eq_left, exists_and_left, List.cons.injEq, and_true, true_and, sc_ii, sc_ss, sc_bb, sc_ni, sc_in, sc_is, sc_si, sc_nn, decide_true, decide_false, reduceCtorEq, Bool.false_eq_true, if_true, if_false, ite_true, ite_false, exists_const, eq_self, false_and, and_false, or_false, false_or, exists_false, Evl.rLenS, rSum, wipe, tYes, exists_eq, exists_eq', rIxL, rIxT, rIxS, exists_and_right, gt_iff_lt, not_true_eq_false, not_false_eq_true, Bool.not_true, Bool.not_false, decide_eq_true_eq, Nat.reduceSub, Nat.reduceAdd, List.append_assoc, tChain, tDIn, tDNotIn, sDDel, tAug, ipI]
      obtain ⟨x1, e1, _⟩ := at_ (i + (j : Nat)) (by omega) (by omega)
      refine ⟨_, sq_l (k2 _ _ not0 ha), _, e1, kvs, .inl hp2, fun p1 n1 => ?_⟩
      rw [eb]
      have k3 : Kp [] H2 (upd H2 p1 (.lst ((fs.map (·.1)).map V.str))) := Kp.new n1
      refine ⟨x1, p1, fs.map (·.1), rfl, upd_same, by rw [List.length_map]; omega, fun z H3 gz nz _ k4 => ?_⟩
      have k23 := k3.trans k4
      have k03 := k2.trans k23
      have hk3 := k03 _ _ not0 hk
      refine ⟨.ref kl, rfl, kl, rfl, ⟨_, sq_l hk3⟩, fun D nD => lc_list (xs := ks.map V.str) (fun i H' => H' D = some (.lst (((ks.take i).filter fun z => !decide (z ∈ fs.map (·.1))).map V.str)) ∧ Kp [] H3 H') ⟨by rw [List.take_zero]; exact upd_same, Kp.new nD⟩ (fun i H' _ h => h.2.ls not0 (sq_l hk3)) ?_ ?_⟩
      · rintro i x H5 hx ⟨h5, k5⟩
        rw [List.getElem?_map] at hx
        obtain ⟨y, ey, rfl⟩ : ∃ y, ks[i]? = some y ∧ V.str y = x := by
          cases e : ks[i]? with
          | none => rw [e] at hx; cases hx
          | some y => rw [e] at hx; exact ⟨y, rfl, Option.some.inj hx⟩
        have il := (List.getElem?_eq_some_iff.mp ey).1
        have st : (ks.take (i + 1)).filter (fun z => !decide (z ∈ fs.map (·.1))) = (ks.take i).filter (fun z => !decide (z ∈ fs.map (·.1))) ++ (if (!decide (y ∈ fs.map (·.1))) = true then [y] else []) := filter_take ey
        have hkk2 : kvs.map (·.1) = (fs.map (·.1)).map (fun z => (Sum.inr z : Key)) := by rw [hkk, List.map_map]; rfl
        try simp (maxSteps := 1000000) only [tSeq, tIfS, tTest, tOp, tUn, tCB, tCons, tNil, tVar, tC, rI0, rI, rU, rEq, rNe, tRet, tRetN, tAsg, gName, gSub, tBM, tBM0, tNext, tB, tNot, tAnd, tOr, tIf, tCall, tDrop, tBreak, tCont, L2.start, tDGet, sDPut, tTup, tLst, tDNewK, tRevL, rCat, rAppend, rPop, rSetL, tAndV, tOrV, tNotV, tSl, tPart, tNoPart, tM1, gTup, gCons, gNil, cxK, cxnK, List.map_cons, List.map_nil, List.length_cons, List.length_nil, List.replicate, List.cons_append, List.nil_append, List.append_nil, List.set_cons_zero, List.set_cons_succ, List.getElem?_cons_zero, List.getElem?_cons_succ, Option.some.injEq, V.ref.injEq, V.int.injEq, V.str.injEq, V.bl.injEq, V.ty.injEq, exists_eq_left', exists_eq_left, exists_and_left, List.cons.injEq, and_true, true_and, sc_ii, sc_ss, sc_bb, sc_ni, sc_in, sc_is, sc_si, sc_nn, decide_true, decide_false, reduceCtorEq, Bool.false_eq_true, if_true, if_false, ite_true, ite_false, exists_const, eq_self, false_and, and_false, or_false, false_or, exists_false, Evl.rLenS, rSum, wipe, tYes, exists_eq, exists_eq', rIxL, rIxT, rIxS, exists_and_right, gt_iff_lt, not_true_eq_false, not_false_eq_true, Bool.not_true, Bool.not_false, decide_eq_true_eq, Nat.reduceSub, Nat.reduceAdd, List.append_assoc, tChain, tDIn, tDNotIn, sDDel, tAug, ipI]
        refine ⟨_, .inl ⟨kvs, Sum.inr y, .inl ((k23.trans k5) _ _ not0 hp2), rfl, rfl⟩, ?_⟩
        rw [keyHas hkk2]
        refine ite2 (fun h => ?_) (fun h => ?_)
        · rw [h, if_pos rfl] at st
          refine ⟨_, h5, ?_, by rw [upd_same, st, List.map_append]; rfl, k5.wr nD⟩
          rw [List.length_map]
          exact smallL (Nat.le_trans (List.length_filter_le _ _) (by rw [List.length_take]; omega))
        · rw [if_neg h, List.append_nil] at st
          rw [st]
          exact ⟨h5, k5⟩
      · rintro H5 ⟨h5, k5⟩
        rw [List.length_map, List.take_length] at h5
        have k05 := k03.trans k5
        refine ifs_bothT (fun σ' H' => ∃ zz, σ' = [some (V.int n), some (V.ref a), some (V.int i), some (V.ref kl), some (V.ref p), some (V.int (j : Nat)), some (.str zz), some (.ref D), none] ∧ goodF zz = true ∧ zz ∉ fs.map (·.1) ∧ Kp [] H5 H') (fun Dn hDn => ?_) fun σ' H' h => ?_
        · have j2 : j = 0 ∨ j = 1 := by omega
          try simp (maxSteps := 1000000) only [tSeq, tIfS, tTest, tOp, tUn, tCB, tCons, tNil, tVar, tC, rI0, rI, rU, rEq, rNe, tRet, tRetN, tAsg, gName, gSub, tBM, tBM0, tNext, tB, tNot, tAnd, tOr, tIf, tCall, tDrop, tBreak, tCont, L2.start, tDGet, sDPut, tTup, tLst, tDNewK, tRevL, rCat, rAppend, rPop, rSetL, tAndV, tOrV, tNotV, tSl, tPart, tNoPart, tM1, gTup, gCons, gNil, cxK, cxnK, List.map_cons, List.map_nil, List.length_cons, List.length_nil, List.replicate, List.cons_append, List.nil_append, List.append_nil, List.set_cons_zero, List.set_cons_succ, List.getElem?_cons_zero, List.getElem?_cons_succ, Option.some.injEq, V.ref.injEq, V.int.injEq, V.str.injEq, V.bl.injEq, V.ty.injEq, exists_eq_left', exists_eq_left, exists_and_left, List.cons.injEq, and_true, true_and, sc_ii, sc_ss, sc_bb, sc_ni, sc_in, sc_is, sc_si, sc_nn, decide_true, decide_false, reduceCtorEq, Bool.false_eq_true, if_true, if_false, ite_true, ite_false, exists_const, eq_self, false_and, and_false, or_false, false_or, exists_false, Evl.rLenS, rSum, wipe, tYes, exists_eq, exists_eq', rIxL, rIxT, rIxS, exists_and_right, gt_iff_lt, not_true_eq_false, not_false_eq_true, Bool.not_true, Bool.not_false, decide_eq_true_eq, Nat.reduceSub, Nat.reduceAdd, List.append_assoc, tChain, tDIn, tDNotIn, sDDel, tAug, ipI]
          refine ⟨_, .inl (sq_l h5), ite2 (fun h => ⟨small (by decide), fun p2 n2 => ?_⟩) (fun _ => hDn _ _ ⟨z, rfl, gz, nz, Kp.refl _ _⟩)⟩
          have k6 : Kp [] H5 (upd H5 p2 (.lst [V.int 3, V.int 6])) := Kp.new n2
          obtain ⟨qq, hq, eq⟩ : ∃ qq : Int, (qq = 3 ∨ qq = 6) ∧ atI [V.int 3, V.int 6] ((j : Nat) : Int) = some (.int qq) := by
            rcases j2 with e | e <;> rw [e]
            · exact ⟨3, .inl rfl, atI_nat rfl⟩
            · exact ⟨6, .inr rfl, atI_nat rfl⟩
          refine ⟨_, sq_l upd_same, _, eq, qq, rfl, ⟨by omega, by omega⟩, by decide, ite2 (fun _ => ?_) (fun _ => hDn _ _ ⟨z, rfl, gz, nz, k6⟩)⟩
          obtain ⟨zf, ez⟩ : ∃ z, ((ks.filter fun z => !decide (z ∈ fs.map (·.1))).map V.str)[0]? = some (V.str z) := by
            cases e : (ks.filter fun z => !decide (z ∈ fs.map (·.1))) with
            | nil => rw [e] at h; exact absurd h (by decide)
            | cons z r => exact ⟨z, rfl⟩
          obtain ⟨zm, zb⟩ := free_hd ez
          exact ⟨_, sq_l (k6 _ _ not0 h5), _, atI_of (by decide) ez, hDn _ _ ⟨zf, rfl, gk zf zm, zb, k6⟩⟩
        · obtain ⟨zz, rfl, gzz, nzz, k6⟩ := h
          obtain ⟨x2, e2, x20⟩ := at_ (i + 2 + (j : Nat)) (by omega) (by omega)
          try simp (maxSteps := 1000000) only [tSeq, tIfS, tTest, tOp, tUn, tCB, tCons, tNil, tVar, tC, rI0, rI, rU, rEq, rNe, tRet, tRetN, tAsg, gName, gSub, tBM, tBM0, tNext, tB, tNot, tAnd, tOr, tIf, tCall, tDrop, tBreak, tCont, L2.start, tDGet, sDPut, tTup, tLst, tDNewK, tRevL, rCat, rAppend, rPop, rSetL, tAndV, tOrV, tNotV, tSl, tPart, tNoPart, tM1, gTup, gCons, gNil, cxK, cxnK, List.map_cons, List.map_nil, List.length_cons, List.length_nil, List.replicate, List.cons_append, List.nil_append, List.append_nil, List.set_cons_zero, List.set_cons_succ, List.getElem?_cons_zero, List.getElem?_cons_succ, Option.some.injEq, V.ref.injEq, V.int.injEq, V.str.injEq, V.bl.injEq, V.ty.injEq, exists_eq_left', exists_eq_left, exists_and_left, List.cons.injEq, and_true, true_and, sc_ii, sc_ss, sc_bb, sc_ni, sc_in, sc_is, sc_si, sc_nn, decide_true, decide_false, reduceCtorEq, Bool.false_eq_true, if_true, if_false, ite_true, ite_false, exists_const, eq_self, false_and, and_false, or_false, false_or, exists_false, Evl.rLenS, rSum, wipe, tYes, exists_eq, exists_eq', rIxL, rIxT, rIxS, exists_and_right, gt_iff_lt, not_true_eq_false, not_false_eq_true, Bool.not_true, Bool.not_false, decide_eq_true_eq, Nat.reduceSub, Nat.reduceAdd, List.append_assoc, tChain, tDIn, tDNotIn, sDDel, tAug, ipI]
          have k06 := k05.trans k6
          refine ⟨_, sq_l (k06 _ _ not0 ha), _, e2, x2, rfl, x20, fun lq fq H7 nl hsel k7 => ?_⟩
          have k27 := ((k23.trans k5).trans k6).trans k7
          have hp7 := k27 _ _ not0 hp2
          have kl7 : kvs.length < sizeLine := by
            rw [keysLen hkk]
            exact smallL (by omega)
          have k8 : Kp [p] H7 (upd H7 p (.dK (putK kvs (Sum.inr zz) (.ref lq)))) := (Kp.refl [p] H7).put (by simp)
          refine ⟨_, DPut.k (k := Sum.inr zz) hp7 kl7, fs ++ [(zz, fq)], by rw [List.length_append, fl]; rfl, ⟨kvs ++ [(Sum.inr zz, .ref lq)], by rw [← putNew hkk nzz]; exact upd_same, by rw [List.map_append, List.map_append, hkk]; rfl, fun i2 n2 g2 e => ?_⟩, fun x hx => ?_, ?_, (k06.trans k7).wr np⟩
          · have kl := keysLen hkk
            by_cases il : i2 < fs.length
            · rw [List.getElem?_append_left il] at e
              obtain ⟨y, a1, a2⟩ := hke i2 n2 g2 e
              exact ⟨y, by rw [List.getElem?_append_left (by omega)]; exact a1, (a2.kp k27).kpN k8 (noSqK hp7)⟩
            · rw [List.getElem?_append_right (by omega)] at e
              have i0 : i2 - fs.length = 0 := by
                cases e0 : i2 - fs.length with
                | zero => rfl
                | succ m => rw [e0] at e; cases e
              rw [i0] at e
              cases e
              exact ⟨lq, by rw [List.getElem?_append_right (by omega), kl, i0]; rfl, hsel.kpN k8 (noSqK hp7)⟩
          · rcases List.mem_append.mp hx with hx | hx
            · exact gf x hx
            · rw [List.mem_singleton.mp hx]; exact gzz
          · rw [List.map_append, List.nodup_append]
            refine ⟨nd, by simp, fun a ha b hb e => ?_⟩
            have hb : b = zz := by simpa using hb
            rw [hb] at e
            exact nzz (e ▸ ha)
    · obtain ⟨c5, c6, c7, fs, rfl, fl, hT, gf, nd, k2⟩ := h
      try simp (maxSteps := 1000000) only [tSeq, tIfS, tTest, tOp, tUn, tCB, tCons, tNil, tVar, tC, rI0, rI, rU, rEq, rNe, tRet, tRetN, tAsg, gName, gSub, tBM, tBM0, tNext, tB, tNot, tAnd, tOr, tIf, tCall, tDrop, tBreak, tCont, L2.start, tDGet, sDPut, tTup, tLst, tDNewK, tRevL, rCat, rAppend, rPop, rSetL, tAndV, tOrV, tNotV, tSl, tPart, tNoPart, tM1, gTup, gCons, gNil, cxK, cxnK, List.map_cons, List.map_nil, List.length_cons, List.length_nil, List.replicate, List.cons_append, List.nil_append, List.append_nil, List.set_cons_zero, List.set_cons_succ, List.getElem?_cons_zero, List.getElem?_cons_succ, Option.some.injEq, V.ref.injEq, V.int.injEq, V.str.injEq, V.bl.injEq, V.ty.injEq, exists_eq_left', exists_eq_left, exists_and_left, List.cons.injEq, and_true, true_and, sc_ii, sc_ss, sc_bb, sc_ni, sc_in, sc_is, sc_si, sc_nn, decide_true, decide_false, reduceCtorEq, Bool.false_eq_true, if_true, if_false, ite_true, ite_false, exists_const, eq_self, false_and, and_false, or_false, false_or, exists_false, Evl.rLenS, rSum, wipe, tYes, exists_eq, exists_eq', rIxL, rIxT, rIxS, exists_and_right, gt_iff_lt, not_true_eq_false, not_false_eq_true, Bool.not_true, Bool.not_false, decide_eq_true_eq, Nat.reduceSub, Nat.reduceAdd, List.append_assoc, tChain, tDIn, tDNotIn, sDDel, tAug, ipI]
      exact q p fs H2 np hT ⟨gf, nd, by omega⟩ k2
def spGoal (K : PySem.W.Frag) : Sp := fun vs H Q _ => ∃ (l : Addr) (g : Pr → Bool) (n : Int), vs = [.ref l, .int n] ∧ 0 ≤ n ∧ SelAt K H l g ∧ ∀ p g' H', SelAt K H' p g' → Kp [] H H' → Q (.ref p) H'
theorem ok_law_goal {f : Addr} {fd : FuncData} (D : Df K mg "_law_goal" s_law_goal ["_law_kept", "_law_number"] f fd) (T : BtL mg) {fa : Addr} {fda : FuncData} (D_law_pairs : Df K mg "_law_pairs" s_law_pairs [] fa fda) (G_law_pairs : FnOk P w K mg base CX0 1 fa fda [] (spPairs K)) {fb : Addr} {fdb : FuncData} (D_law_set : Df K mg "_law_set" s_law_set ["_law_number"] fb fdb) (G_law_set : FnOk P w K mg base CX0 3 fb fdb ["_law_number"] (spSel K)) : FnOk P w K mg base CX0 4 f fd ["_law_kept", "_law_number"] (spGoal K) := by
  refine D.F.ok sc_law_goal (fun vs H Q E h => ?_) (fun cdv A outer s H vs Q E hr h => ?_)
  · obtain ⟨_, _, _, rfl, _⟩ := h
    rfl
  · obtain ⟨l, g, n, rfl, n0, hl, q⟩ := h
    have hu := hu_of hr
    refine ⟨_, (pss_cons (ps_if (pt_cmpR op_eq (pe_op op_mod (pe_callTy (T := "int") call_int1 (by rfl) T.b_int (by decide +kernel) (pa_cons (pv 1) pa_nil)) pe_int) pe_int (nomark _)) (pss_one (ps_ret (pe_call G_law_set (hr.mono (by decide)) rfl D_law_set.g D_law_set.F.kp D_law_set.b .nil pass0 (pa_cons (pe_op op_fdiv (pv 1) pe_int) pa_nil)))) pss_nil)
      (pss_cons (ps_set (i := 2) sc_law_goal.nd rfl (Or.inl rfl) (pe_call0 G_law_pairs (hr.mono (by decide)) rfl D_law_pairs.g D_law_pairs.F.kp D_law_pairs.b .nil pass0))
      (pss_cons (ps_set (i := 3) sc_law_goal.nd rfl (Or.inr rfl) (pe_lst (pa_cons (pe_ix (r := rIxL K) ix_list (pv 2) (pe_op op_mod (pe_callTy (T := "int") call_int1 (by rfl) T.b_int (by decide +kernel) (pa_cons (pe_op op_fdiv (pv 1) pe_int) pa_nil)) pe_int) (fun _ _ => rfl)) (pa_cons (pe_ix (r := rIxL K) ix_list (pv 2) (pe_op op_mod (pe_callTy (T := "int") call_int1 (by rfl) T.b_int (by decide +kernel) (pa_cons (pe_op op_fdiv (pv 1) pe_int) pa_nil)) pe_int) (fun _ _ => rfl)) (pa_cons (pe_ix (r := rIxL K) ix_list (pv 2) (pe_op op_mod (pe_callTy (T := "int") call_int1 (by rfl) T.b_int (by decide +kernel) (pa_cons (pe_op op_fdiv (pv 1) pe_int) pa_nil)) pe_int) (fun _ _ => rfl)) pa_nil)))))
      (pss_one (ps_ret (pe_lc (own := [("_law_pair", 4)]) (g := (gName 4)) rfl sc_law_goal.nd (pi_list (pv 0)) (blkOk_by (N := ["_law_kept", "_law_number", "_law_rows", "_law_gone", "_law_pair"]) (sc := defScope s_law_goal) (by decide +kernel)) (fun _ _ _ _ _ => (pg_name (i := 4) sc_law_goal.nd rfl (Or.inl rfl))) (fun _ _ _ _ _ => (pts_one (pt_cmpR (r := rNotInD K) (op_notInD (hu5 hr)) (pv 4) (pe_slice (r := rSlL K) sl_list (pv 3) po_none (po_some (pe_op op_mod (pe_callTy (T := "int") call_int1 (by rfl) T.b_int (by decide +kernel) (pa_cons (pe_op op_fdiv (pv 1) pe_int) pa_nil)) pe_int))) (by rfl)))) (fun _ _ _ _ _ => (pv 4)))))))), ?_⟩
    try simp (maxSteps := 1000000) only [tSeq, tIfS, tTest, tOp, tUn, tCB, tCons, tNil, tVar, tC, rI0, rI, rU, rEq, rNe, tRet, tRetN, tAsg, gName, gSub, tBM, tBM0, tNext, tB, tNot, tAnd, tOr, tIf, tCall, tDrop, tBreak, tCont, L2.start, tDGet, sDPut, tTup, tLst, tDNewK, tRevL, rCat, rAppend, rPop, rSetL, tAndV, tOrV, tNotV, tSl, tPart, tNoPart, tM1, gTup, gCons, gNil, cxK, cxnK, List.map_cons, List.map_nil, List.length_cons, List.length_nil, List.replicate, List.cons_append, List.nil_append, List.append_nil, List.set_cons_zero, List.set_cons_succ, List.getElem?_cons_zero, List.getElem?_cons_succ, Option.some.injEq, V.ref.injEq, V.int.injEq, V.str.injEq, V.bl.injEq, V.ty.injEq, exists_eq_left', exists_eq_left, exists_and_left, List.cons.injEq, and_true, true_and, sc_ii, sc_ss, sc_bb, sc_ni, sc_in, sc_is, sc_si, sc_nn, decide_true, decide_false, reduceCtorEq, Bool.false_eq_true, if_true, if_false, ite_true, ite_false, exists_const, eq_self, false_and, and_false, or_false, false_or, exists_false, Evl.rLenS, rSum, wipe, tYes, exists_eq, exists_eq', rIxL, rIxT, rIxS, exists_and_right, gt_iff_lt, not_true_eq_false, not_false_eq_true, Bool.not_true, Bool.not_false, decide_eq_true_eq, Nat.reduceSub, Nat.reduceAdd, List.append_assoc, tChain, tDIn, tDNotIn, sDDel, tAug, ipI]
    refine ⟨by decide, ite2 (fun _ => ⟨⟨by decide, by decide⟩, n / 2, rfl, by omega, fun l2 f2 H' _ h k => q l2 f2 H' h k⟩) (fun _ => ?_)⟩
    refine ⟨rfl, fun r vs H1 nr hr hd k1 => ?_⟩
    have vl : vs.length = 27 := by rw [dpLen hd, List.length_map]; exact pairs_len
    have pk : ∀ m : Int, ∃ v p, atI vs (m % 27) = some v ∧ p ∈ pairsL ∧ Dp K H1 v (pD p) := fun m => by
      obtain ⟨v, hv, ev⟩ := atI_ex (xs := vs) (i := m % 27) (Int.emod_nonneg _ (by decide)) (by rw [vl]; exact Int.emod_lt_of_pos _ (by decide))
      obtain ⟨i, ei⟩ := List.getElem?_of_mem hv
      obtain ⟨d, ed, hdd⟩ := dpGet hd ei
      obtain ⟨p, hp, rfl⟩ := List.mem_map.mp (List.mem_of_getElem? ed)
      exact ⟨v, p, ev, hp, hdd⟩
    obtain ⟨v1, p1, e1, m1, d1⟩ := pk (n / 2)
    obtain ⟨v2, p2, e2, m2, d2⟩ := pk (n / 54)
    obtain ⟨v3, p3, e3, m3, d3⟩ := pk (n / 1458)
    refine ⟨⟨by decide, by decide⟩, by decide, r, rfl, vs, sq_l hr, v1, e1, ⟨by decide, by decide⟩, by decide, r, rfl, vs, sq_l hr, v2, e2, ⟨by decide, by decide⟩, by decide, r, rfl, vs, sq_l hr, v3, e3, small (by decide), fun p np => ?_⟩
    have k2 : Kp [] H1 (upd H1 p (.lst [v1, v2, v3])) := Kp.new np
    have hp2 : (upd H1 p (.lst [v1, v2, v3])) p = some (.lst [v1, v2, v3]) := upd_same
    have hd2 : DpAll K (upd H1 p (.lst [v1, v2, v3])) [v1, v2, v3] ([p1, p2, p3].map pD) := .cons (dpN k2 noSq0 d1) (.cons (dpN k2 noSq0 d2) (.cons (dpN k2 noSq0 d3) .nil))
    generalize (upd H1 p (.lst [v1, v2, v3])) = H2 at k2 hp2 hd2 ⊢
    have k02 := k1.trans k2
    obtain ⟨ws, hws, hwd⟩ := hl.kp k02
    refine ⟨.ref l, rfl, l, rfl, ⟨_, sq_l hws⟩, fun D nD => ?_⟩
    obtain ⟨mm, em⟩ : ∃ mm : Nat, n / 39366 % 4 = mm := ⟨(n / 39366 % 4).toNat, by have := Int.emod_nonneg (n / 39366) (show (4 : Int) ≠ 0 by decide); omega⟩
    obtain ⟨cc, hcc⟩ : ∃ cc : Pr → Bool, ∀ p, cc p = !((([p1, p2, p3].map pD).take mm).any fun z => PyData.eqv z (pD p)) := ⟨_, fun _ => rfl⟩
    have wl : ws.length = (pairsL.filter g).length := by rw [dpLen hwd, List.length_map]
    refine lc_list (xs := ws) (LcD K D H2 (fun i => ((pairsL.filter g).take i).filter cc)) ⟨[], upd_same, .nil, Kp.new nD⟩ (fun i H' _ h => by obtain ⟨_, _, _, k⟩ := h; exact k.ls not0 (sq_l hws)) ?_ ?_
    · rintro i x H5 hx h
      obtain ⟨us, hus, hud, k5⟩ := id h
      obtain ⟨d, ed, hdx⟩ := dpGet hwd hx
      rw [List.getElem?_map] at ed
      obtain ⟨p0, ep, rfl⟩ : ∃ p0, (pairsL.filter g)[i]? = some p0 ∧ pD p0 = d := by
        cases e : (pairsL.filter g)[i]? with
        | none => rw [e] at ed; cases ed
        | some p0 => rw [e] at ed; exact ⟨p0, rfl, Option.some.inj ed⟩
      have pm : p0 ∈ pairsL := subP g p0 (List.mem_of_getElem? ep)
      have st : ((pairsL.filter g).take (i + 1)).filter cc = ((pairsL.filter g).take i).filter cc ++ (if cc p0 = true then [p0] else []) := filter_take ep
      have hdx5 := dpN k5 noSq0 hdx
      have hp5 := k5 _ _ not0 hp2
      have hd5 := dpAllN k5 noSq0 hd2
      try simp (maxSteps := 1000000) only [tSeq, tIfS, tTest, tOp, tUn, tCB, tCons, tNil, tVar, tC, rI0, rI, rU, rEq, rNe, tRet, tRetN, tAsg, gName, gSub, tBM, tBM0, tNext, tB, tNot, tAnd, tOr, tIf, tCall, tDrop, tBreak, tCont, L2.start, tDGet, sDPut, tTup, tLst, tDNewK, tRevL, rCat, rAppend, rPop, rSetL, tAndV, tOrV, tNotV, tSl, tPart, tNoPart, tM1, gTup, gCons, gNil, cxK, cxnK, List.map_cons, List.map_nil, List.length_cons, List.length_nil, List.replicate, List.cons_append, List.nil_append, List.append_nil, List.set_cons_zero, List.set_cons_succ, List.getElem?_cons_zero, List.getElem?_cons_succ, Option.some.injEq, V.ref.injEq, V.int.injEq, V.str.injEq, V.bl.injEq, V.ty.injEq, exists_eq_left', exists_eq_left, exists_and_left, List.cons.injEq, and_true, true_and, sc_ii, sc_ss, sc_bb, sc_ni, sc_in, sc_is, sc_si, sc_nn, decide_true, decide_false, reduceCtorEq, Bool.false_eq_true, if_true, if_false, ite_true, ite_false, exists_const, eq_self, false_and, and_false, or_false, false_or, exists_false, Evl.rLenS, rSum, wipe, tYes, exists_eq, exists_eq', rIxL, rIxT, rIxS, exists_and_right, gt_iff_lt, not_true_eq_false, not_false_eq_true, Bool.not_true, Bool.not_false, decide_eq_true_eq, Nat.reduceSub, Nat.reduceAdd, List.append_assoc, tChain, tDIn, tDNotIn, sDDel, tAug, ipI]
      refine ⟨⟨by decide, by decide⟩, by decide, ?_⟩
      rw [em]
      refine ⟨p, _, rfl, sq_l hp5, fun p6 n6 => ?_⟩
      rw [cut_to]
      have k6 : Kp [] H5 (upd H5 p6 (.lst ([v1, v2, v3].take mm))) := Kp.new n6
      have h6 : (upd H5 p6 (.lst ([v1, v2, v3].take mm))) p6 = some (.lst ([v1, v2, v3].take mm)) := upd_same
      generalize (upd H5 p6 (.lst ([v1, v2, v3].take mm))) = H6 at k6 h6 ⊢
      have sh3 : SeqAt.shaped (.list (([p1, p2, p3].map pD).take mm)) = true := by
        rw [← List.map_take]
        refine (shapedL (fitsP fun p hp => ?_)).1
        have hp := List.mem_of_mem_take hp
        simp only [List.mem_cons, List.not_mem_nil, or_false] at hp
        rcases hp with rfl | rfl | rfl
        · exact m1
        · exact m2
        · exact m3
      refine ⟨pD p0, ([p1, p2, p3].map pD).take mm, dpN k6 noSq0 hdx5, .lst (sq_l h6) (dpTake (dpAllN k6 noSq0 hd5) mm), okP pm, sh3, _, rfl, ?_⟩
      rw [← hcc]
      have h6' : LcD K D H2 (fun i => ((pairsL.filter g).take i).filter cc) i H6 := ⟨us, k6 _ _ not0 hus, dpAllN k6 noSq0 hud, k5.trans k6⟩
      by_cases c0 : cc p0 = true
      · rw [if_pos c0] at st ⊢
        exact lcD_put h6' nD (dpN k6 noSq0 hdx5) st (Nat.le_trans (List.length_filter_le _ _) (by rw [List.length_take]; have := lenP g; omega))
      · rw [if_neg c0] at st ⊢
        rw [List.append_nil] at st
        exact lcD_skip h6' st
    · rintro H5 ⟨us, hus, hud, k5⟩
      have e9 : ((pairsL.filter g).take (pairsL.filter g).length).filter cc = pairsL.filter (fun a => cc a && g a) := by rw [List.take_length, List.filter_filter]
      have hud : DpAll K H5 us ((((pairsL.filter g).take (pairsL.filter g).length).filter cc).map pD) := by rw [← wl]; exact hud
      rw [e9] at hud
      exact q D _ H5 ⟨us, hus, hud⟩ (k02.trans k5)
end
end My

set_option Elab.async false
set_option linter.all false
set_option maxRecDepth 100000
set_option maxHeartbeats 4000000
namespace My
open PySem L2 NdefX
abbrev s_law_fields : Stmt := top 47
theorem sc_law_fields : FnScope ["_law_made", "_law_kept", "_law_marks", "_law_goal_here", "_law_bars", "_law_one", "_law_due", "_law_table_here", "_law_name_here"] ["_law_made", "_law_kept", "_law_marks", "_law_goal_here", "_law_bars"] (defScope s_law_fields) := ⟨rfl, rfl, rfl, by decide +kernel, rfl, by decide +kernel, by decide +kernel⟩
structure BtF (K : PySem.W.Frag) (mg : Str → Option Value) (BK : Addr) : Prop extends BtL mg where
  k_Book : mg "Book" = some (.ref BK)
  cl : Cls K BK
  is1 : PySem.W.kitOne K (.ref BK) (.ref BK) = some true
  ha : PySem.W.findIn K (.ref BK) "__class__" = some (some (.builtin "object.__class__"))
  hn : PySem.W.specialIn K (.builtin "object.__class__") "__get__" = some (some (.builtin "getset_descriptor.__get__"))
  ht : PySem.W.takesIn K (.builtin "object.__class__") = some true
  hm : PySem.W.mroIn K BK (.type "object") = some true
section
variable {P : Program} {w : World} {K : PySem.W.Frag} {mg : Str → Option Value} {base : Heap} {RP BK PC NF : Addr}
def spFields (K : PySem.W.Frag) (RP BK PC : Addr) : Sp := fun vs H Q _ => ∃ (o d so to lk dm lg db : Addr) (zs : List Str) (f : Str → PyData) (gS gT : Pr → Bool) (fS fT : Fnc), vs = [.ref o, .ref lk, .ref dm, .ref lg, .ref db] ∧ RcAt RP H o d so to zs f ∧ BookAt K BK PC H so gS (full fS) ∧ BookAt K BK PC H to gT (full fT) ∧ SelAt K H lk gS ∧ TabL K H dm fS ∧ SelAt K H lg gT ∧ TabL K H db fT ∧ Fs fS ∧ Fs fT ∧ ∀ H', Kp [] H H' → Q (.bl true) H'
theorem ok_law_fields {f : Addr} {fd : FuncData} (D : Df K mg "_law_fields" s_law_fields ["_law_made", "_law_kept", "_law_marks", "_law_goal_here", "_law_bars"] f fd) (T : BtF K mg BK) (R : RpC K mg RP) (B : BkC K mg BK)
    {gi gl : Addr} {fdi fdl : FuncData} (IT_Pairs : IterC K PC gi gl) (G_Pairs_iter : FnOk P w K mg base CX0 1 gi fdi ["self"] (spIter PC)) (b_Pairs_iter : Binds K fdi ["self"] []) (G_Pairs_len : FnOk P w K mg base CX0 1 gl fdl ["self"] (spLen K PC)) (b_Pairs_len : Binds K fdl ["self"] [])
    {fX : Addr} {fdX : FuncData} (ME_Book_fences : Meth K BK "fences" fX) (bM_Book_fences : Binds K fdX ["self"] []) (G_Book_fences : FnOk P w K mg base CX0 1 fX fdX ["self"] (spFences K BK PC))
    {fE : Addr} {fdE : FuncData} (ME_Book_fence : Meth K BK "fence" fE) (bM_Book_fence : Binds K fdE ["self", "name"] []) (G_Book_fence : FnOk P w K mg base (L2.CX P w) 3 fE fdE ["self", "name"] (spFence K BK PC NF)) : FnOk P w K mg base CX0 6 f fd ["_law_made", "_law_kept", "_law_marks", "_law_goal_here", "_law_bars"] (spFields K RP BK PC) := by
  refine D.F.ok sc_law_fields (fun vs H Q E h => ?_) (fun cdv A outer s H vs Q E hr h => ?_)
  · obtain ⟨_, _, _, _, _, _, _, _, _, _, _, _, _, _, rfl, _⟩ := h
    rfl
  · obtain ⟨o, d, so, to, lk, dm, lg, db, zs, f, gS, gT, fS, fT, rfl, hR, bS, bT, sS, tS, sT, tT, hfS, hfT, q⟩ := h
    have hu := hu_of hr
    refine ⟨_, (pss_cons (ps_for PassesOwn.never rfl (pi_list (pe_lst (pa_cons (pe_tup (pa_cons (pe_fld (pv 0) rfl) (pa_cons (pv 1) (pa_cons (pv 2) pa_nil)))) (pa_cons (pe_tup (pa_cons (pe_fld (pv 0) rfl) (pa_cons (pv 3) (pa_cons (pv 4) pa_nil)))) pa_nil)))) (pg_tup (n := 3) (by rfl) (pgs_cons (pg_name (i := 5) sc_law_fields.nd rfl (Or.inl rfl)) (pgs_cons (pg_name (i := 6) sc_law_fields.nd rfl (Or.inl rfl)) (pgs_cons (pg_name (i := 7) sc_law_fields.nd rfl (Or.inl rfl)) pgs_nil)))) (pss_cons (ps_if (PW.pt (pw_or (pt_not (pt_val (pe_callB (id := "isinstance") (r := rIsi K) call_isi (by rfl) T.b_isinstance (by decide +kernel) (pa_cons (pv 5) (pa_cons (pe_glob (v := .ref BK) rfl T.k_Book rfl) pa_nil))))) (pw_or (pt_cmpR (op_neD hr.units) (pe_callTy (T := "list") (call_listO (E := E0) IT_Pairs G_Pairs_iter b_Pairs_iter G_Pairs_len b_Pairs_len (hr.mono (by decide))) (by rfl) T.b_list (by decide +kernel) (pa_cons (pe_fld (pv 5) rfl) pa_nil)) (pv 6) (nomark _)) (pw_or1 (pt_cmpR (op_neD hr.units) (pe_meth0 (pv 5) B.cl ME_Book_fences G_Book_fences (hr.mono (by decide)) bM_Book_fences .nil pass0) (pe_callB (id := "sorted") (r := rSortedS K) cr_sortedS (by rfl) T.b_sorted (by decide +kernel) (pa_cons (pe_op op_cat (pe_lst (pa_cons pe_str pa_nil)) (pe_callTy (call_listD rfl) (by rfl) T.b_list (by decide +kernel) (pa_cons (pv 7) pa_nil))) pa_nil)) (nomark _)))))) (pss_one (ps_ret pe_bl)) pss_nil)
      (pss_one (ps_lock (ps_for PassesOwn.never rfl (pi_keys (pv 7)) (pg_name (i := 8) sc_law_fields.nd rfl (Or.inl rfl)) (pss_one (ps_if (pt_cmpR (op_neD hr.units) (pe_callTy (T := "list") (call_listO (E := E0) IT_Pairs G_Pairs_iter b_Pairs_iter G_Pairs_len b_Pairs_len (hr.mono (by decide))) (by rfl) T.b_list (by decide +kernel) (pa_cons (pe_meth (pv 5) B.cl ME_Book_fence G_Book_fence (hr.mono (by decide)) bM_Book_fence .nil passL (pa_cons (pv 8) pa_nil)) pa_nil)) (pe_dget hu (pv 7) (pv 8) (fun _ _ => rfl)) (nomark _)) (pss_one (ps_ret pe_bl)) pss_nil)))))))
      (pss_one (ps_ret pe_bl))), ?_⟩
    have one : ∀ (b due tab : Addr) (g : Pr → Bool) (fs : Fnc) (c8 : Option V) (H1 : Hp) (D : Ends), Kp [] H H1 → BookAt K BK PC H b g (full fs) → SelAt K H due g → TabL K H tab fs → Fs fs →
        (∀ c H2, Kp [] H1 H2 → D.nx [some (V.ref o), some (V.ref lk), some (V.ref dm), some (V.ref lg), some (V.ref db), some (.ref b), some (.ref due), some (.ref tab), c] H2) →
        (tSeq
      (tIfS (tOr (tNot (tB (tCB (rIsi K) (tCons (tVar 5) (tCons (tC (V.ref BK)) tNil))))) (tOr (tTest (tOp (rNeD K) (tCB (rListO K PC (spIter PC) (spLen K PC) E0) (tCons (tFld K (tVar 5) (Str.ofString "kept")) tNil)) (tVar 6))) (tTest (tOp (rNeD K) (tMeth BK (Str.ofString "fences") (spFences K BK PC) [] E0 (tVar 5) tNil) (tCB (rSortedS K) (tCons (tOp rCat (tLst (tCons (tC (V.str (Str.ofString "full"))) tNil)) (tCB (fun xs H Q => ∃ a, xs = [V.ref a] ∧ ∃ x, Rd H a (HO.dK x) ∧ ∀ (p : Addr), H p = none → Q (V.ref p) (upd H p (HO.lst (List.map (fun kv => kV kv.fst) x)))) (tCons (tVar 7) tNil))) tNil)))))) (tRet (tC (V.bl false))) tNext)
      (tLock (tFor (iKeys (tVar 7)) (gName 8) (tIfS (tTest (tOp (rNeD K) (tCB (rListO K PC (spIter PC) (spLen K PC) E0) (tCons (tMeth BK (Str.ofString "fence") (spFence K BK PC NF) [] E0 (tVar 5) (tCons (tVar 8) tNil)) tNil)) (tDGet (tVar 7) (tVar 8)))) (tRet (tC (V.bl false))) tNext)))) D [some (V.ref o), some (V.ref lk), some (V.ref dm), some (V.ref lg), some (V.ref db), some (.ref b), some (.ref due), some (.ref tab), c8] H1 := by
      intro b due tab g fs c8 H1 D k1 hb hd ht hf hD
      have hb1 := hb.kp k1
      obtain ⟨dx, ko, dd, kvb, ho, hko, _, _, _, nd⟩ := id hb1
      obtain ⟨ws, hws, hwd⟩ := hd.kp k1
      obtain ⟨kvt, htd, htk, hte⟩ := id (ht.kp k1)
      have sh := (shapedL (fitsP (subP g))).1
      try simp (maxSteps := 1000000) only [tSeq, tIfS, tTest, tOp, tUn, tCB, tCons, tNil, tVar, tC, rI0, rI, rU, rEq, rNe, tRet, tRetN, tAsg, gName, gSub, tBM, tBM0, tNext, tB, tNot, tAnd, tOr, tIf, tCall, tDrop, tBreak, tCont, L2.start, tDGet, sDPut, tTup, tLst, tDNewK, tRevL, rCat, rAppend, rPop, rSetL, tAndV, tOrV, tNotV, tSl, tPart, tNoPart, tM1, gTup, gCons, gNil, cxK, cxnK, List.map_cons, List.map_nil, List.length_cons, List.length_nil, List.replicate, List.cons_append, List.nil_append, List.append_nil, List.set_cons_zero, List.set_cons_succ, List.getElem?_cons_zero, List.getElem?_cons_succ, Option.some.injEq, V.ref.injEq, V.int.injEq, V.str.injEq, V.bl.injEq, V.ty.injEq, exists_eq_left', exists_eq_left, exists_and_left, List.cons.injEq, and_true, true_and, sc_ii, sc_ss, sc_bb, sc_ni, sc_in, sc_is, sc_si, sc_nn, decide_true, decide_false, reduceCtorEq, Bool.false_eq_true, if_true, if_false, ite_true, ite_false, exists_const, eq_self, false_and, and_false, or_false, false_or, exists_false, Evl.rLenS, rSum, wipe, tYes, exists_eq, exists_eq', rIxL, rIxT, rIxS, exists_and_right, gt_iff_lt, not_true_eq_false, not_false_eq_true, Bool.not_true, Bool.not_false, decide_eq_true_eq, Nat.reduceSub, Nat.reduceAdd, List.append_assoc, tChain, tDIn, tDNotIn, sDDel, tAug, ipI, tFld, tMeth]
      refine ⟨.ref b, .ref BK, .ref BK, .ref BK, true, rfl, .own BK, .base (.ins ho T.cl T.ha T.hn T.ht T.hm), T.is1, true, rfl, ?_⟩
      try simp (maxSteps := 1000000) only [tSeq, tIfS, tTest, tOp, tUn, tCB, tCons, tNil, tVar, tC, rI0, rI, rU, rEq, rNe, tRet, tRetN, tAsg, gName, gSub, tBM, tBM0, tNext, tB, tNot, tAnd, tOr, tIf, tCall, tDrop, tBreak, tCont, L2.start, tDGet, sDPut, tTup, tLst, tDNewK, tRevL, rCat, rAppend, rPop, rSetL, tAndV, tOrV, tNotV, tSl, tPart, tNoPart, tM1, gTup, gCons, gNil, cxK, cxnK, List.map_cons, List.map_nil, List.length_cons, List.length_nil, List.replicate, List.cons_append, List.nil_append, List.append_nil, List.set_cons_zero, List.set_cons_succ, List.getElem?_cons_zero, List.getElem?_cons_succ, Option.some.injEq, V.ref.injEq, V.int.injEq, V.str.injEq, V.bl.injEq, V.ty.injEq, exists_eq_left', exists_eq_left, exists_and_left, List.cons.injEq, and_true, true_and, sc_ii, sc_ss, sc_bb, sc_ni, sc_in, sc_is, sc_si, sc_nn, decide_true, decide_false, reduceCtorEq, Bool.false_eq_true, if_true, if_false, ite_true, ite_false, exists_const, eq_self, false_and, and_false, or_false, false_or, exists_false, Evl.rLenS, rSum, wipe, tYes, exists_eq, exists_eq', rIxL, rIxT, rIxS, exists_and_right, gt_iff_lt, not_true_eq_false, not_false_eq_true, Bool.not_true, Bool.not_false, decide_eq_true_eq, Nat.reduceSub, Nat.reduceAdd, List.append_assoc, tChain, tDIn, tDNotIn, sDDel, tAug, ipI, tFld, tMeth]
      refine ⟨BK, dx, _, ho, B.cl, B.n1, .ref ko, rfl, ?_⟩
      refine list_pr hko fun q1 w1 H2 nq1 hq1 hw1 k2 => ?_
      refine ⟨_, _, .lst (sq_l hq1) hw1, .lst (sq_l (k2 _ _ not0 hws)) (dpAllN k2 noSq0 hwd), sh, sh, ?_⟩
      rw [eqvL (subP g)]
      refine ⟨_, rfl, ?_⟩
      rw [if_neg (by decide)]
      refine ⟨dx, _, k2 _ _ not0 ho, rfl, b, g, full fs, rfl, hb1.kp k2, fun ys p permY srtY np => ⟨small (by decide), fun p3 n3 => ?_⟩⟩
      have k3 : Kp [] H2 (upd H2 p (.lst (ys.map V.str))) := Kp.new np
      have hp3 : (upd H2 p (.lst (ys.map V.str))) p = some (.lst (ys.map V.str)) := upd_same
      generalize (upd H2 p (.lst (ys.map V.str))) = H3 at k3 hp3 n3 ⊢
      have k4 : Kp [] H3 (upd H3 p3 (.lst [V.str "full"])) := Kp.new n3
      have hp4 : (upd H3 p3 (.lst [V.str "full"])) p3 = some (.lst [V.str "full"]) := upd_same
      show ∃ x, Rd (upd H3 p3 (.lst [V.str "full"])) tab (HO.dK x) ∧ _
      generalize (upd H3 p3 (.lst [V.str "full"])) = H4 at k4 hp4 ⊢
      have k24 := (k2.trans k3).trans k4
      refine ⟨kvt, .inl (k24 _ _ not0 htd), fun p5 n5 => ?_⟩
      have eb : kvt.map (fun kv => kV kv.1) = (fs.map (·.1)).map V.str := by
        have e : kvt.map (fun kv => kV kv.1) = (kvt.map (·.1)).map kV := by rw [List.map_map]; rfl
        rw [e, htk, List.map_map, List.map_map]; rfl
      rw [eb]
      have p35 : p3 ≠ p5 := ne_of_none hp4 n5
      have k5 : Kp [] H4 (upd H4 p5 (.lst ((fs.map (·.1)).map V.str))) := Kp.new n5
      refine ⟨_, by rw [upd_ne p35]; exact hp4, _, upd_same, by rw [List.length_map, List.length_map]; exact small (by have := hf.2.2; show 1 + fs.length ≤ _; omega), fun p6 n6 => ?_⟩
      generalize (upd H4 p5 (.lst ((fs.map (·.1)).map V.str))) = H5 at k5 n6 ⊢
      have k6 : Kp [] H5 (upd H5 p6 (.lst ([V.str "full"] ++ (fs.map (·.1)).map V.str))) := Kp.new n6
      refine ⟨p6, ("full" : Str) :: fs.map (·.1), rfl, sq_l upd_same, by rw [List.length_cons, List.length_map]; have := hf.2.2; omega, fun zs2 p7 permZ srtZ n7 => ?_⟩
      have k7 : Kp [] (upd H5 p6 (.lst ([V.str "full"] ++ (fs.map (·.1)).map V.str))) (upd (upd H5 p6 (.lst ([V.str "full"] ++ (fs.map (·.1)).map V.str))) p7 (.lst (zs2.map V.str))) := Kp.new n7
      have h7 : (upd (upd H5 p6 (.lst ([V.str "full"] ++ (fs.map (·.1)).map V.str))) p7 (.lst (zs2.map V.str))) p7 = some (.lst (zs2.map V.str)) := upd_same
      have k37 : Kp [] H3 (upd (upd H5 p6 (.lst ([V.str "full"] ++ (fs.map (·.1)).map V.str))) p7 (.lst (zs2.map V.str))) := ((k4.trans k5).trans k6).trans k7
      show rNeD K (.ref p) (.ref p7) (upd (upd H5 p6 (.lst ([V.str "full"] ++ (fs.map (·.1)).map V.str))) p7 (.lst (zs2.map V.str))) _
      generalize (upd (upd H5 p6 (.lst ([V.str "full"] ++ (fs.map (·.1)).map V.str))) p7 (.lst (zs2.map V.str))) = H7 at h7 k37 ⊢
      have permN : (("full" : Str) :: fs.map (·.1)).Perm ((full fs).map (·.1)) := by
        unfold full
        rw [List.map_append]
        exact (List.perm_append_comm (l₁ := [("full" : Str)]))
      have eyz : zs2 = ys := sorted_uniq srtZ srtY ((permZ.trans permN).trans permY.symm)
      rw [eyz] at h7
      have shY : ShL ys := shL_of fun y hy => nameS_ok (hf.names y (permY.mem_iff.mp hy))
      refine ⟨_, _, .lst (sq_l (k37 _ _ not0 hp3)) (dpStrs ys), .lst (sq_l h7) (dpStrs ys), shY, shY, ?_⟩
      rw [eqv_of shY]
      refine ⟨_, rfl, ?_⟩
      rw [if_neg (by decide)]
      have k17 := (k2.trans k3).trans k37
      have htd7 := k17 _ _ not0 htd
      have kl := keysLen htk
      have bL : ∀ od, BookAt K BK PC (upd H7 tab (.frz od (.dK kvt))) b g (full fs) := fun od => (hb1.kp k17).lock htd7 kl
      have kL : ∀ od, Kp [tab] H7 (upd H7 tab (.frz od (.dK kvt))) := fun od => (Kp.refl [tab] H7).put (by simp)
      refine forKeys (i := 7) (d := tab) (kvs := kvt) rfl htd7 (fun od j σ H' => ∃ c, σ = [some (V.ref o), some (V.ref lk), some (V.ref dm), some (V.ref lg), some (V.ref db), some (.ref b), some (.ref due), some (.ref tab), c] ∧ H' tab = some (.frz od (.dK kvt)) ∧ Kp [] (upd H7 tab (.frz od (.dK kvt))) H') (fun od => ⟨c8, rfl, upd_same, Kp.refl _ _⟩) (fun od j σ H' h => by obtain ⟨_, _, h, _⟩ := h; exact h) (fun od j k v σ H' e h => ?_) (fun od σ H' h => ?_)
      · obtain ⟨c, rfl, hfr, k8⟩ := h
        obtain ⟨n, g2, en, rfl⟩ : ∃ n g2, fs[j]? = some (n, g2) ∧ k = Sum.inr n := by
          have e2 : (kvt.map (·.1))[j]? = some k := by rw [List.getElem?_map, e]; rfl
          rw [htk, List.getElem?_map] at e2
          cases e3 : fs[j]? with
          | none => rw [e3] at e2; cases e2
          | some z => rw [e3] at e2; exact ⟨z.1, z.2, rfl, (Option.some.inj e2).symm⟩
        obtain ⟨ll, el, hl2⟩ := hte j n g2 en
        obtain ⟨us, hus, hud⟩ := ((hl2.kp k17).kpN (kL od) (noSqK htd7)).kp k8
        have ev : valV kvt (Sum.inr n) = some (V.ref ll) := valV_mem (nodupK htk hf.2.1) (List.mem_of_getElem? el)
        have hm2 : (n, g2) ∈ full fs := List.mem_append_left _ (List.mem_of_getElem? en)
        try simp (maxSteps := 1000000) only [tSeq, tIfS, tTest, tOp, tUn, tCB, tCons, tNil, tVar, tC, rI0, rI, rU, rEq, rNe, tRet, tRetN, tAsg, gName, gSub, tBM, tBM0, tNext, tB, tNot, tAnd, tOr, tIf, tCall, tDrop, tBreak, tCont, L2.start, tDGet, sDPut, tTup, tLst, tDNewK, tRevL, rCat, rAppend, rPop, rSetL, tAndV, tOrV, tNotV, tSl, tPart, tNoPart, tM1, gTup, gCons, gNil, cxK, cxnK, List.map_cons, List.map_nil, List.length_cons, List.length_nil, List.replicate, List.cons_append, List.nil_append, List.append_nil, List.set_cons_zero, List.set_cons_succ, List.getElem?_cons_zero, List.getElem?_cons_succ, Option.some.injEq, V.ref.injEq, V.int.injEq, V.str.injEq, V.bl.injEq, V.ty.injEq, exists_eq_left', exists_eq_left, exists_and_left, List.cons.injEq, and_true, true_and, sc_ii, sc_ss, sc_bb, sc_ni, sc_in, sc_is, sc_si, sc_nn, decide_true, decide_false, reduceCtorEq, Bool.false_eq_true, if_true, if_false, ite_true, ite_false, exists_const, eq_self, false_and, and_false, or_false, false_or, exists_false, Evl.rLenS, rSum, wipe, tYes, exists_eq, exists_eq', rIxL, rIxT, rIxS, exists_and_right, gt_iff_lt, not_true_eq_false, not_false_eq_true, Bool.not_true, Bool.not_false, decide_eq_true_eq, Nat.reduceSub, Nat.reduceAdd, List.append_assoc, tChain, tDIn, tDNotIn, sDDel, tAug, ipI, tMeth]
        refine fence_use ((bL od).kp k8) hf hm2 fun q3 H9 hq3 k9 => ?_
        refine list_pr hq3 fun r1 w9 H10 nr1 hr1 hw9 k10 => ?_
        have kk := k9.trans k10
        refine ⟨_, .inl ⟨kvt, Sum.inr n, .inr ⟨od, kk _ _ not0 hfr⟩, rfl, ev.symm⟩, _, _, .lst (sq_l hr1) hw9, .lst (sq_l (kk _ _ not0 hus)) (dpAllN kk noSq0 hud), (shapedL (fitsP (subP g2))).1, (shapedL (fitsP (subP g2))).1, ?_⟩
        rw [eqvL (subP g2)]
        refine ⟨_, rfl, ?_⟩
        rw [if_neg (by decide)]
        exact ⟨kk _ _ not0 hfr, k8.trans kk⟩
      · obtain ⟨c, rfl, hfr, k8⟩ := h
        exact hD _ _ (k17.trans (kpBack ((kL od).trans k8.of0) htd7))
    try simp (maxSteps := 1000000) only [tSeq, tIfS, tTest, tOp, tUn, tCB, tCons, tNil, tVar, tC, rI0, rI, rU, rEq, rNe, tRet, tRetN, tAsg, gName, gSub, tBM, tBM0, tNext, tB, tNot, tAnd, tOr, tIf, tCall, tDrop, tBreak, tCont, L2.start, tDGet, sDPut, tTup, tLst, tDNewK, tRevL, rCat, rAppend, rPop, rSetL, tAndV, tOrV, tNotV, tSl, tPart, tNoPart, tM1, gTup, gCons, gNil, cxK, cxnK, List.map_cons, List.map_nil, List.length_cons, List.length_nil, List.replicate, List.cons_append, List.nil_append, List.append_nil, List.set_cons_zero, List.set_cons_succ, List.getElem?_cons_zero, List.getElem?_cons_succ, Option.some.injEq, V.ref.injEq, V.int.injEq, V.str.injEq, V.bl.injEq, V.ty.injEq, exists_eq_left', exists_eq_left, exists_and_left, List.cons.injEq, and_true, true_and, sc_ii, sc_ss, sc_bb, sc_ni, sc_in, sc_is, sc_si, sc_nn, decide_true, decide_false, reduceCtorEq, Bool.false_eq_true, if_true, if_false, ite_true, ite_false, exists_const, eq_self, false_and, and_false, or_false, false_or, exists_false, Evl.rLenS, rSum, wipe, tYes, exists_eq, exists_eq', rIxL, rIxT, rIxS, exists_and_right, gt_iff_lt, not_true_eq_false, not_false_eq_true, Bool.not_true, Bool.not_false, decide_eq_true_eq, Nat.reduceSub, Nat.reduceAdd, List.append_assoc, tChain, tDIn, tDNotIn, sDDel, tAug, ipI]
    refine forL_src34 ?_
    obtain ⟨dx, nl, ns, ho, _⟩ := id hR
    try simp (maxSteps := 1000000) only [tSeq, tIfS, tTest, tOp, tUn, tCB, tCons, tNil, tVar, tC, rI0, rI, rU, rEq, rNe, tRet, tRetN, tAsg, gName, gSub, tBM, tBM0, tNext, tB, tNot, tAnd, tOr, tIf, tCall, tDrop, tBreak, tCont, L2.start, tDGet, sDPut, tTup, tLst, tDNewK, tRevL, rCat, rAppend, rPop, rSetL, tAndV, tOrV, tNotV, tSl, tPart, tNoPart, tM1, gTup, gCons, gNil, cxK, cxnK, List.map_cons, List.map_nil, List.length_cons, List.length_nil, List.replicate, List.cons_append, List.nil_append, List.append_nil, List.set_cons_zero, List.set_cons_succ, List.getElem?_cons_zero, List.getElem?_cons_succ, Option.some.injEq, V.ref.injEq, V.int.injEq, V.str.injEq, V.bl.injEq, V.ty.injEq, exists_eq_left', exists_eq_left, exists_and_left, List.cons.injEq, and_true, true_and, sc_ii, sc_ss, sc_bb, sc_ni, sc_in, sc_is, sc_si, sc_nn, decide_true, decide_false, reduceCtorEq, Bool.false_eq_true, if_true, if_false, ite_true, ite_false, exists_const, eq_self, false_and, and_false, or_false, false_or, exists_false, Evl.rLenS, rSum, wipe, tYes, exists_eq, exists_eq', rIxL, rIxT, rIxS, exists_and_right, gt_iff_lt, not_true_eq_false, not_false_eq_true, Bool.not_true, Bool.not_false, decide_eq_true_eq, Nat.reduceSub, Nat.reduceAdd, List.append_assoc, tChain, tDIn, tDNotIn, sDDel, tAug, ipI, tFld]
    refine ⟨RP, dx, _, ho, R.cl, R.n1, .ref so, rfl, small (by decide), fun p1 n1 => ?_⟩
    have k1 : Kp [] H (upd H p1 (.tup [.ref so, .ref lk, .ref dm])) := Kp.new n1
    have h1 : (upd H p1 (.tup [.ref so, .ref lk, .ref dm])) p1 = some (.tup [.ref so, .ref lk, .ref dm]) := upd_same
    generalize (upd H p1 (.tup [.ref so, .ref lk, .ref dm])) = H1 at k1 h1 ⊢
    refine ⟨RP, dx, _, k1 _ _ not0 ho, R.cl, R.n2, .ref to, rfl, small (by decide), fun p2 n2 => ?_⟩
    have k2 : Kp [] H1 (upd H1 p2 (.tup [.ref to, .ref lg, .ref db])) := Kp.new n2
    have h2 : (upd H1 p2 (.tup [.ref to, .ref lg, .ref db])) p2 = some (.tup [.ref to, .ref lg, .ref db]) := upd_same
    generalize (upd H1 p2 (.tup [.ref to, .ref lg, .ref db])) = H2 at k2 h2 ⊢
    refine ⟨small (by decide), fun p3 n3 => ?_⟩
    have k3 : Kp [] H2 (upd H2 p3 (.lst [.ref p1, .ref p2])) := Kp.new n3
    have h3 : (upd H2 p3 (.lst [.ref p1, .ref p2])) p3 = some (.lst [.ref p1, .ref p2]) := upd_same
    generalize (upd H2 p3 (.lst [.ref p1, .ref p2])) = G at k3 h3 ⊢
    have kG := (k1.trans k2).trans k3
    have g1 := (k2.trans k3) _ _ not0 h1
    have g2 := k3 _ _ not0 h2
    refine forLC34 (fun j σ H' => ∃ c5 c6 c7 c8, σ = [some (V.ref o), some (V.ref lk), some (V.ref dm), some (V.ref lg), some (V.ref db), c5, c6, c7, c8] ∧ Kp [] G H') (sq_l h3) ⟨none, none, none, none, rfl, Kp.refl _ _⟩ (fun j σ H' _ h => by obtain ⟨_, _, _, _, _, k⟩ := h; exact k.ls not0 (sq_l h3)) (fun j x σ H' hx h => ?_) fun σ H' h => ?_
    · obtain ⟨c5, c6, c7, c8, rfl, k⟩ := h
      match j, hx with
      | 0, hx =>
        cases hx
        exact ⟨p1, _, rfl, sq_t (k _ _ not0 g1), rfl, _, _, rfl, _, _, rfl, _, _, rfl, rfl, one so lk dm gS fS c8 H' _ (kG.trans k) bS sS tS hfS fun c H5 k5 => ⟨_, _, _, c, rfl, k.trans k5⟩⟩
      | 1, hx =>
        cases hx
        exact ⟨p2, _, rfl, sq_t (k _ _ not0 g2), rfl, _, _, rfl, _, _, rfl, _, _, rfl, rfl, one to lg db gT fT c8 H' _ (kG.trans k) bT sT tT hfT fun c H5 k5 => ⟨_, _, _, c, rfl, k.trans k5⟩⟩
    · obtain ⟨c5, c6, c7, c8, rfl, k⟩ := h
      try simp (maxSteps := 1000000) only [tSeq, tIfS, tTest, tOp, tUn, tCB, tCons, tNil, tVar, tC, rI0, rI, rU, rEq, rNe, tRet, tRetN, tAsg, gName, gSub, tBM, tBM0, tNext, tB, tNot, tAnd, tOr, tIf, tCall, tDrop, tBreak, tCont, L2.start, tDGet, sDPut, tTup, tLst, tDNewK, tRevL, rCat, rAppend, rPop, rSetL, tAndV, tOrV, tNotV, tSl, tPart, tNoPart, tM1, gTup, gCons, gNil, cxK, cxnK, List.map_cons, List.map_nil, List.length_cons, List.length_nil, List.replicate, List.cons_append, List.nil_append, List.append_nil, List.set_cons_zero, List.set_cons_succ, List.getElem?_cons_zero, List.getElem?_cons_succ, Option.some.injEq, V.ref.injEq, V.int.injEq, V.str.injEq, V.bl.injEq, V.ty.injEq, exists_eq_left', exists_eq_left, exists_and_left, List.cons.injEq, and_true, true_and, sc_ii, sc_ss, sc_bb, sc_ni, sc_in, sc_is, sc_si, sc_nn, decide_true, decide_false, reduceCtorEq, Bool.false_eq_true, if_true, if_false, ite_true, ite_false, exists_const, eq_self, false_and, and_false, or_false, false_or, exists_false, Evl.rLenS, rSum, wipe, tYes, exists_eq, exists_eq', rIxL, rIxT, rIxS, exists_and_right, gt_iff_lt, not_true_eq_false, not_false_eq_true, Bool.not_true, Bool.not_false, decide_eq_true_eq, Nat.reduceSub, Nat.reduceAdd, List.append_assoc, tChain, tDIn, tDNotIn, sDDel, tAug, ipI]
      exact q _ (kG.trans k)
end
end My

set_option Elab.async false
set_option linter.all false
set_option maxRecDepth 100000
set_option maxHeartbeats 4000000
namespace My
open PySem L2 NdefX
abbrev s_law : Stmt := top 54
theorem sc_law : FnScope ["_law_script", "_law_row", "_law_k", "_law_kept", "_law_marks", "_law_goal_here", "_law_bars", "_law_gates", "_law_made", "_law_other", "_law_names_here", "_law_first", "_law_rows", "_law_name_here", "_law_loose_here", "_law_bad", "_law_unknown_here"] ["_law_script"] (defScope s_law) := ⟨rfl, rfl, rfl, by decide +kernel, rfl, by decide +kernel, by decide +kernel⟩
structure BndR (K : PySem.W.Frag) (fd : FuncData) (ps : List Str) : Prop where
  b : Binds K fd ps []
/-- what stands still: the draw, kept and goal, marks and bars, gates, the two books -/
structure LSt (K : PySem.W.Frag) (BK PC : Addr) (H : Hp) (rw lk dm lg db gl so to : Addr) (xs : List Int) (gS gT : Pr → Bool) (fS fT : Fnc) (gz : List Str) : Prop where
  row : H rw = some (.lst (xs.map V.int))
  xl : xs.length = 27
  x0 : ∀ x ∈ xs, 0 ≤ x
  sS : SelAt K H lk gS
  tS : TabL K H dm fS
  sT : SelAt K H lg gT
  tT : TabL K H db fT
  fsS : Fs fS
  fsT : Fs fT
  dmb : dm ≠ db
  gh : H gl = some (.lst (gz.map V.str))
  gp : gz.Perm (("full" : Str) :: fT.map (·.1))
  bS : BookAt K BK PC H so gS (full fS)
  bT : BookAt K BK PC H to gT (full fT)
theorem LSt.kp {K : PySem.W.Frag} {BK PC : Addr} {H H' : Hp} {rw lk dm lg db gl so to : Addr} {xs : List Int} {gS gT : Pr → Bool} {fS fT : Fnc} {gz : List Str} (h : LSt K BK PC H rw lk dm lg db gl so to xs gS gT fS fT gz) (k : Kp [] H H') : LSt K BK PC H' rw lk dm lg db gl so to xs gS gT fS fT gz :=
  ⟨k _ _ not0 h.row, h.xl, h.x0, h.sS.kp k, h.tS.kp k, h.sT.kp k, h.tT.kp k, h.fsS, h.fsT, h.dmb, k _ _ not0 h.gh, h.gp, h.bS.kp k, h.bT.kp k⟩
/-- what changes: the recipe and the law's own rows (f), beside another recipe and its rows (f0) -/
structure LDy (RP : Addr) (Hb H : Hp) (o d so to o2 d2 r r1 nl : Addr) (zs : List Str) (f f0 : Str → PyData) : Prop where
  kb : Kp [] Hb H
  hR : RcAt RP H o d so to zs f
  hO : RcAt RP H o2 d2 so to zs f0
  hW : RwAt H r zs f
  h1 : RwAt H r1 zs f0
  hn : H nl = some (.lst (zs.map V.str))
  dn : Hb d = none
  rn : Hb r = none
  dd : d2 ≠ d
  dr : d ≠ r
  d1 : r1 ≠ d
  r2 : d2 ≠ r
  d21 : d2 ≠ r1
  r11 : r1 ≠ r
  zn : zs ≠ []
  ok : ∀ z ∈ zs, PyData.strOk z = true ∧ SeqAt.shaped (f z) = true
  ok0 : ∀ z ∈ zs, PyData.strOk z = true ∧ SeqAt.shaped (f0 z) = true
theorem LDy.kp {RP : Addr} {Hb H H' : Hp} {o d so to o2 d2 r r1 nl : Addr} {zs : List Str} {f f0 : Str → PyData} (h : LDy RP Hb H o d so to o2 d2 r r1 nl zs f f0) (k : Kp [] H H') : LDy RP Hb H' o d so to o2 d2 r r1 nl zs f f0 :=
  { h with kb := h.kb.trans k, hR := h.hR.kp k, hO := h.hO.kp k, hW := h.hW.kp k, h1 := h.h1.kp k, hn := k _ _ not0 h.hn }
theorem kp_base {Hb H H' : Hp} {d : Addr} (kb : Kp [] Hb H) (k : Kp [d] H H') (n : Hb d = none) : Kp [] Hb H' := fun b o _ e => k b o (not1 fun z => by rw [z, n] at e; cases e) (kb b o not0 e)
/-- the recipe's row is set, then the law's own -/
theorem LDy.set {RP : Addr} {Hb H H1 H2 : Hp} {o d so to o2 d2 r r1 nl : Addr} {zs : List Str} {f f0 : Str → PyData} (h : LDy RP Hb H o d so to o2 d2 r r1 nl zs f f0) {z : Str} {e : PyData} {v : V} {kvs : List (Key × V)} (hz : z ∈ zs) (se : SeqAt.shaped e = true) (k1 : Kp [d] H H1) (hR1 : RcAt RP H1 o d so to zs (fun y => if y = z then e else f y)) (k2 : Kp [] H1 H2) (hv : Dq H2 v e) (hk : H2 r = some (.dK kvs)) :
    LDy RP Hb (upd H2 r (.dK (putK kvs (Sum.inr z) v))) o d so to o2 d2 r r1 nl zs (fun y => if y = z then e else f y) f0 := by
  obtain ⟨kd, hd⟩ := h.hR.dict
  have k12 : Kp [d] H H2 := k1.trans k2.of0
  have k3 : Kp [r] H2 (upd H2 r (.dK (putK kvs (Sum.inr z) v))) := (Kp.refl [r] H2).put (by simp)
  have ndl : nl ≠ d := fun y => by have := h.hn; rw [y, hd] at this; cases this
  have hn2 := k12 _ _ (not1 ndl) h.hn
  have nrl : nl ≠ r := fun y => by rw [y, hk] at hn2; cases hn2
  have hW2 := h.hW.kpN k12 (noSqK hd) (not1 h.dr.symm)
  refine { h with kb := kp_base (kp_base h.kb k12 h.dn) k3 h.rn, hR := (hR1.kp k2).kpD k3 hk h.dr, hO := (h.hO.kpD k12 hd h.dd).kpD k3 hk h.r2, hW := hW2.put hk hz hv, h1 := (h.h1.kpN k12 (noSqK hd) (not1 h.d1)).kpN k3 (noSqK hk) (not1 h.r11), hn := k3 _ _ (not1 nrl) hn2, ok := fun y hy => ⟨(h.ok y hy).1, ?_⟩ }
  show SeqAt.shaped (if y = z then e else f y) = true
  split
  · exact se
  · exact (h.ok y hy).2
theorem ok_of_sh {z : Str} (h : SeqAt.shaped (.str z) = true) : PyData.strOk z = true := SeqAt.canLay_of_shaped h
theorem td_ok {xs ys : List Str} (t : Td xs ys) (h : SeqAt.shaped (.tuple (xs.map PyData.str)) = true) : ∀ y ∈ ys, PyData.strOk y = true := fun y hy => ok_of_sh (shaped_mem h _ (List.mem_map_of_mem ((t.2.2 y).mp hy)))
theorem tdR_sh {d e : PyData} (h : TdR d e) (s : SeqAt.shaped d = true) : SeqAt.shaped e = true := by
  rcases h with ⟨zs, ys, t, rfl, rfl⟩ | ⟨xs, k, ys, xs', ys', t1, t2, rfl, rfl⟩
  · exact shT (td_ok t s)
  · have m := shaped_mem s
    exact shK (td_ok t1 (m _ (by simp))) (ok_of_sh (m _ (by simp))) (td_ok t2 (m _ (by simp)))
structure BtLw (K : PySem.W.Frag) (mg : Str → Option Value) (RP fR : Addr) : Prop extends BtL mg where
  M_Recipe : Mk K RP fR
section
variable {P : Program} {w : World} {K : PySem.W.Frag} {mg : Str → Option Value} {base : Heap} {RP BK PC NR : Addr}
def spLaw (K : PySem.W.Frag) : Sp := fun vs H Q _ => ∃ (a : Addr) (ns : List Int), vs = [.ref a] ∧ Scr K H a ns ∧ ∀ H', Q (.bl true) H'
theorem ok_law {f : Addr} {fd : FuncData} {fR : Addr} (D : Df K mg "law" s_law ["_law_script"] f fd) (T : BtLw K mg RP fR) (R : RpC K mg RP) (B : BkC K mg BK)
    {fdR : FuncData} (D_Recipe_init : BndR K fdR ["self", "source", "target"]) (G_Recipe_init : FnOk P w K mg base CX0 4 fR fdR ["self", "source", "target"] (spRI K RP BK PC))
    {gg : Addr} {fdg : FuncData} {BR : Addr} (ST_Recipe : SetC K RP gg) (G_Recipe_setitem : FnOk P w K mg base (L2.CX P w) 4 gg fdg ["self", "at", "worth"] (spSetR K RP BK PC NR BR)) (b_Recipe_setitem : Binds K fdg ["self", "at", "worth"] [])
    {c1 : Addr} {e1 : FuncData} (D_law_draw : Df K mg "_law_draw" s_law_draw ["_law_script", "_law_k"] c1 e1) (G_law_draw : FnOk P w K mg base CX0 2 c1 e1 ["_law_script", "_law_k"] (spDrawK K))
    {c2 : Addr} {e2 : FuncData} (D_law_set : Df K mg "_law_set" s_law_set ["_law_number"] c2 e2) (G_law_set : FnOk P w K mg base CX0 3 c2 e2 ["_law_number"] (spSel K))
    {c3 : Addr} {e3 : FuncData} (D_law_table : Df K mg "_law_table" s_law_table ["_law_number", "_law_row", "_law_at", "_law_known"] c3 e3) (G_law_table : FnOk P w K mg base CX0 4 c3 e3 ["_law_number", "_law_row", "_law_at", "_law_known"] (spTable K))
    {c4 : Addr} {e4 : FuncData} (D_law_goal : Df K mg "_law_goal" s_law_goal ["_law_kept", "_law_number"] c4 e4) (G_law_goal : FnOk P w K mg base CX0 4 c4 e4 ["_law_kept", "_law_number"] (spGoal K))
    {c5 : Addr} {e5 : FuncData} (D_law_book : Df K mg "_law_book" s_law_book ["_law_kept", "_law_table_here"] c5 e5) (G_law_book : FnOk P w K mg base CX0 7 c5 e5 ["_law_kept", "_law_table_here"] (spBook K BK PC))
    {c6 : Addr} {e6 : FuncData} (D_law_names : Df K mg "_law_names" s_law_names ["_law_table_here"] c6 e6) (G_law_names : FnOk P w K mg base CX0 1 c6 e6 ["_law_table_here"] spNms)
    {c7 : Addr} {e7 : FuncData} (D_law_plain : Df K mg "_law_plain" s_law_plain ["_law_names_here", "_law_bars"] c7 e7) (G_law_plain : FnOk P w K mg base CX0 1 c7 e7 ["_law_names_here", "_law_bars"] spPlain)
    {c8 : Addr} {e8 : FuncData} (D_law_fields : Df K mg "_law_fields" s_law_fields ["_law_made", "_law_kept", "_law_marks", "_law_goal_here", "_law_bars"] c8 e8) (G_law_fields : FnOk P w K mg base CX0 6 c8 e8 ["_law_made", "_law_kept", "_law_marks", "_law_goal_here", "_law_bars"] (spFields K RP BK PC))
    {c9 : Addr} {e9 : FuncData} (D_law_holds : Df K mg "_law_holds" s_law_holds ["_law_made", "_law_rows"] c9 e9) (G_law_holds : FnOk P w K mg base CX0 5 c9 e9 ["_law_made", "_law_rows"] (spHolds RP))
    {c10 : Addr} {e10 : FuncData} (D_law_loose : Df K mg "_law_loose" s_law_loose ["_law_name_here", "_law_number", "_law_bars"] c10 e10) (G_law_loose : FnOk P w K mg base CX0 2 c10 e10 ["_law_name_here", "_law_number", "_law_bars"] spLoose)
    {c11 : Addr} {e11 : FuncData} (D_law_normal : Df K mg "_law_normal" s_law_normal ["_law_row"] c11 e11) (G_law_normal : FnOk P w K mg base CX0 1 c11 e11 ["_law_row"] spNorm)
    {c12 : Addr} {e12 : FuncData} (D_law_bad_row : Df K mg "_law_bad_row" s_law_bad_row ["_law_name_here", "_law_number", "_law_bars", "_law_stray_here"] c12 e12) (G_law_bad_row : FnOk P w K mg base CX0 1 c12 e12 ["_law_name_here", "_law_number", "_law_bars", "_law_stray_here"] spBad)
    {c13 : Addr} {e13 : FuncData} (D_law_stray : Df K mg "_law_stray" s_law_stray ["_law_number", "_law_marks", "_law_bars"] c13 e13) (G_law_stray : FnOk P w K mg base CX0 1 c13 e13 ["_law_number", "_law_marks", "_law_bars"] spStray)
    {c14 : Addr} {e14 : FuncData} (D_law_unknown : Df K mg "_law_unknown" s_law_unknown ["_law_number", "_law_marks", "_law_bars"] c14 e14) (G_law_unknown : FnOk P w K mg base CX0 1 c14 e14 ["_law_number", "_law_marks", "_law_bars"] spUnk)
    {c15 : Addr} {e15 : FuncData} (D_law_three_refused : Df K mg "_law_three_refused" s_law_three_refused ["_law_made", "_law_rows", "_law_name_here", "_law_unknown_here", "_law_bad"] c15 e15) (G_law_three_refused : FnOk P w K mg base CX0 7 c15 e15 ["_law_made", "_law_rows", "_law_name_here", "_law_unknown_here", "_law_bad"] (spThree K RP BK PC))
    {c16 : Addr} {e16 : FuncData} (D_law_set_refusal : Df K mg "_law_set_refusal" s_law_set_refusal ["_law_made", "_law_name_here", "_law_row"] c16 e16) (G_law_set_refusal : FnOk P w K mg base CX0 6 c16 e16 ["_law_made", "_law_name_here", "_law_row"] (spSetRf K RP BK PC)) :
    FnOk P w K mg base CX0 9 f fd ["_law_script"] (spLaw K) := by
  refine D.F.ok sc_law (fun vs H Q E h => ?_) (fun cdv A outer s H vs Q E hr h => ?_)
  · obtain ⟨_, _, rfl, _⟩ := h
    rfl
  · obtain ⟨a, ns, rfl, hsc, q⟩ := h
    have hu := hu_of hr
    have M_Recipe := T.M_Recipe
    obtain ⟨t, ht, hq⟩ : ∃ t, PSs (cxOf CX0 P w K mg base ["_law_script", "_law_row", "_law_k", "_law_kept", "_law_marks", "_law_goal_here", "_law_bars", "_law_gates", "_law_made", "_law_other", "_law_names_here", "_law_first", "_law_rows", "_law_name_here", "_law_loose_here", "_law_bad", "_law_unknown_here"] "law" (defScope s_law) f cdv A outer s H E).nox ((defBody s_law).drop 11) t ∧ ∀ (Hb H' : Hp) (rw lk dm lg db gl so to o d o2 d2 r r1 nl : Addr) (xs : List Int) (gS gT : Pr → Bool) (fS fT : Fnc) (gz zs : List Str) (f0 : Str → PyData), LSt K BK PC Hb rw lk dm lg db gl so to xs gS gT fS fT gz → LDy RP Hb H' o d so to o2 d2 r r1 nl zs f0 f0 → zs.Perm (barF ++ fS.map (·.1)) →
        t { nx := fun _ H' => Q V.non H', rt := Q } [some (V.ref a), some (V.ref rw), none, some (V.ref lk), some (V.ref dm), some (V.ref lg), some (V.ref db), some (V.ref gl), some (V.ref o), some (V.ref o2), some (V.ref nl), some (V.ref r1), some (V.ref r), none, none, none, none] H' := by
      refine ⟨_, (pss_cons (ps_if (PW.pt (pw_or (pt_not (pt_val (pe_call G_law_fields (hr.mono (by decide)) rfl D_law_fields.g D_law_fields.F.kp D_law_fields.b .nil pass0 (pa_cons (pv 8) (pa_cons (pv 3) (pa_cons (pv 4) (pa_cons (pv 5) (pa_cons (pv 6) pa_nil)))))))) (pw_or1 (pt_not (pt_val (pe_call G_law_holds (hr.mono (by decide)) rfl D_law_holds.g D_law_holds.F.kp D_law_holds.b .nil pass0 (pa_cons (pv 8) (pa_cons (pv 12) pa_nil)))))))) (pss_one (ps_ret pe_bl)) pss_nil)
      (pss_cons (ps_for PassesOwn.never rfl (pi_range1 rfl T.b_range (pa_cons (pe_op op_add pe_int (pe_op op_mod (pe_callTy (T := "int") call_int1 (by rfl) T.b_int (by decide +kernel) (pa_cons (pe_ix (r := rIxL K) ix_list (pv 1) pe_int (fun _ _ => rfl)) pa_nil)) pe_int)) pa_nil)) (pg_name (i := 2) sc_law.nd rfl (Or.inl rfl)) (pss_cons (ps_set (i := 13) sc_law.nd rfl (Or.inl rfl) (pe_ix (r := rIxL K) ix_list (pv 10) (pe_op op_mod (pe_callTy (T := "int") call_int1 (by rfl) T.b_int (by decide +kernel) (pa_cons (pe_ix (r := rIxL K) ix_list (pv 1) (pe_op op_add pe_int (pv 2)) (fun _ _ => rfl)) pa_nil)) (pe_callB (id := "len") (r := Evl.rLenS K) call_len_seq (by rfl) T.b_len PySem.boot_len (pa_cons (pv 10) pa_nil))) (fun _ _ => rfl)))
      (pss_cons (ps_set (i := 14) sc_law.nd rfl (Or.inl rfl) (pe_call G_law_loose (hr.mono (by decide)) rfl D_law_loose.g D_law_loose.F.kp D_law_loose.b .nil pass0 (pa_cons (pv 13) (pa_cons (pe_op op_fdiv (pe_ix (r := rIxL K) ix_list (pv 1) (pe_op op_add pe_int (pv 2)) (fun _ _ => rfl)) (pe_callB (id := "len") (r := Evl.rLenS K) call_len_seq (by rfl) T.b_len PySem.boot_len (pa_cons (pv 10) pa_nil))) (pa_cons (pv 7) pa_nil)))))
      (pss_cons (ps_asg (pv 14) (pg_setO ST_Recipe G_Recipe_setitem b_Recipe_setitem (hr.mono (by decide)) (fun σ pins H s e s' I h => passL pins σ H s e s' I h) (pv 8) (pv 13)))
      (pss_cons (ps_dput hu (pv 12) (pv 13) (pe_call G_law_normal (hr.mono (by decide)) rfl D_law_normal.g D_law_normal.F.kp D_law_normal.b .nil pass0 (pa_cons (pv 14) pa_nil)) rfl)
      (pss_one (ps_if (pt_not (pt_val (pe_call G_law_holds (hr.mono (by decide)) rfl D_law_holds.g D_law_holds.F.kp D_law_holds.b .nil pass0 (pa_cons (pv 8) (pa_cons (pv 12) pa_nil))))) (pss_one (ps_ret pe_bl)) pss_nil)))))))
      (pss_cons (ps_set (i := 13) sc_law.nd rfl (Or.inl rfl) (pe_ix (r := rIxL K) ix_list (pv 10) (pe_op op_mod (pe_callTy (T := "int") call_int1 (by rfl) T.b_int (by decide +kernel) (pa_cons (pe_ix (r := rIxL K) ix_list (pv 1) pe_int (fun _ _ => rfl)) pa_nil)) (pe_callB (id := "len") (r := Evl.rLenS K) call_len_seq (by rfl) T.b_len PySem.boot_len (pa_cons (pv 10) pa_nil))) (fun _ _ => rfl)))
      (pss_cons (ps_set (i := 15) sc_law.nd rfl (Or.inl rfl) (pe_call G_law_bad_row (hr.mono (by decide)) rfl D_law_bad_row.g D_law_bad_row.F.kp D_law_bad_row.b .nil pass0 (pa_cons (pv 13) (pa_cons (pe_op op_fdiv (pe_ix (r := rIxL K) ix_list (pv 1) pe_int (fun _ _ => rfl)) (pe_callB (id := "len") (r := Evl.rLenS K) call_len_seq (by rfl) T.b_len PySem.boot_len (pa_cons (pv 10) pa_nil))) (pa_cons (pv 7) (pa_cons (pe_call G_law_stray (hr.mono (by decide)) rfl D_law_stray.g D_law_stray.F.kp D_law_stray.b .nil pass0 (pa_cons (pe_ix (r := rIxL K) ix_list (pv 1) pe_int (fun _ _ => rfl)) (pa_cons (pv 4) (pa_cons (pv 6) pa_nil)))) pa_nil))))))
      (pss_cons (ps_set (i := 16) sc_law.nd rfl (Or.inl rfl) (pe_call G_law_unknown (hr.mono (by decide)) rfl D_law_unknown.g D_law_unknown.F.kp D_law_unknown.b .nil pass0 (pa_cons (pe_ix (r := rIxL K) ix_list (pv 1) pe_int (fun _ _ => rfl)) (pa_cons (pv 4) (pa_cons (pv 6) pa_nil)))))
      (pss_cons (ps_if (pt_cmpR op_in_seq (pv 16) (pv 10) (by rfl)) (pss_one (ps_set (i := 16) sc_law.nd rfl (Or.inl rfl) pe_str)) pss_nil)
      (pss_cons (ps_if (pt_not (pt_val (pe_call G_law_three_refused (hr.mono (by decide)) rfl D_law_three_refused.g D_law_three_refused.F.kp D_law_three_refused.b .nil pass0 (pa_cons (pv 8) (pa_cons (pv 12) (pa_cons (pv 13) (pa_cons (pv 16) (pa_cons (pv 15) pa_nil)))))))) (pss_one (ps_ret pe_bl)) pss_nil)
      (pss_cons (ps_set (i := 14) sc_law.nd rfl (Or.inl rfl) (pe_call G_law_loose (hr.mono (by decide)) rfl D_law_loose.g D_law_loose.F.kp D_law_loose.b .nil pass0 (pa_cons (pv 13) (pa_cons (pe_ix (r := rIxL K) ix_list (pv 1) pe_int (fun _ _ => rfl)) (pa_cons (pv 7) pa_nil)))))
      (pss_cons (ps_if (pt_cmpR (op_neD hr.units) (pe_call G_law_set_refusal (hr.mono (by decide)) rfl D_law_set_refusal.g D_law_set_refusal.F.kp D_law_set_refusal.b .nil pass0 (pa_cons (pv 8) (pa_cons (pv 13) (pa_cons (pv 14) pa_nil)))) (pe_lst pa_nil) (nomark _)) (pss_one (ps_ret pe_bl)) pss_nil)
      (pss_cons (ps_dput hu (pv 12) (pv 13) (pe_call G_law_normal (hr.mono (by decide)) rfl D_law_normal.g D_law_normal.F.kp D_law_normal.b .nil pass0 (pa_cons (pv 14) pa_nil)) rfl)
      (pss_one (ps_ret (pe_and (pe_call G_law_holds (hr.mono (by decide)) rfl D_law_holds.g D_law_holds.F.kp D_law_holds.b .nil pass0 (pa_cons (pv 8) (pa_cons (pv 12) pa_nil))) (pe_and (pe_call G_law_holds (hr.mono (by decide)) rfl D_law_holds.g D_law_holds.F.kp D_law_holds.b .nil pass0 (pa_cons (pv 9) (pa_cons (pv 11) pa_nil))) (pe_one (pe_call G_law_fields (hr.mono (by decide)) rfl D_law_fields.g D_law_fields.F.kp D_law_fields.b .nil pass0 (pa_cons (pv 8) (pa_cons (pv 3) (pa_cons (pv 4) (pa_cons (pv 5) (pa_cons (pv 6) pa_nil))))))))))))))))))))), ?_⟩
      intro Hb H' rw lk dm lg db gl so to o d o2 d2 r r1 nl xs gS gT fS fT gz zs f0 S Y pz
      have fld : ∀ {H1 : Hp} {f : Str → PyData} {R : VK} {E1 : XK}, LDy RP Hb H1 o d so to o2 d2 r r1 nl zs f f0 → (∀ H2, Kp [] H1 H2 → R (.bl true) H2) → spFields K RP BK PC [.ref o, .ref lk, .ref dm, .ref lg, .ref db] H1 R E1 := fun {H1 f R E1} Y hR1 =>
        ⟨o, d, so, to, lk, dm, lg, db, zs, f, gS, gT, fS, fT, rfl, Y.hR, S.bS.kp Y.kb, S.bT.kp Y.kb, S.sS.kp Y.kb, S.tS.kp Y.kb, S.sT.kp Y.kb, S.tT.kp Y.kb, S.fsS, S.fsT, hR1⟩
      have hol : ∀ {H1 : Hp} {f : Str → PyData} {R : VK} {E1 : XK}, LDy RP Hb H1 o d so to o2 d2 r r1 nl zs f f0 → (∀ H2, Kp [] H1 H2 → R (.bl true) H2) → spHolds RP [.ref o, .ref r] H1 R E1 := fun {H1 f R E1} Y hR1 =>
        ⟨o, d, so, to, r, zs, f, rfl, Y.hR, Y.hW, Y.dr, Y.zn, Y.ok, hR1⟩
      try simp (maxSteps := 1000000) only [tSeq, tIfS, tTest, tOp, tUn, tCB, tCons, tNil, tVar, tC, rI0, rI, rU, rEq, rNe, tRet, tRetN, tAsg, gName, gSub, tBM, tBM0, tNext, tB, tNot, tAnd, tOr, tIf, tCall, tDrop, tBreak, tCont, L2.start, tDGet, sDPut, tTup, tLst, tDNewK, tRevL, rCat, rAppend, rPop, rSetL, tAndV, tOrV, tNotV, tSl, tPart, tNoPart, tM1, gTup, gCons, gNil, cxK, cxnK, List.map_cons, List.map_nil, List.length_cons, List.length_nil, List.replicate, List.cons_append, List.nil_append, List.append_nil, List.set_cons_zero, List.set_cons_succ, List.getElem?_cons_zero, List.getElem?_cons_succ, Option.some.injEq, V.ref.injEq, V.int.injEq, V.str.injEq, V.bl.injEq, V.ty.injEq, exists_eq_left', exists_eq_left, exists_and_left, List.cons.injEq, and_true, true_and, sc_ii, sc_ss, sc_bb, sc_ni, sc_in, sc_is, sc_si, sc_nn, decide_true, decide_false, reduceCtorEq, Bool.false_eq_true, if_true, if_false, ite_true, ite_false, exists_const, eq_self, false_and, and_false, or_false, false_or, exists_false, Evl.rLenS, rSum, wipe, tYes, exists_eq, exists_eq', rIxL, rIxT, rIxS, exists_and_right, gt_iff_lt, not_true_eq_false, not_false_eq_true, Bool.not_true, Bool.not_false, decide_eq_true_eq, Nat.reduceSub, Nat.reduceAdd, List.append_assoc, tChain, tDIn, tDNotIn, sDDel, tAug, ipI]
      refine fld Y fun H2 k2 => ⟨_, rfl, ?_⟩
      rw [if_neg (by decide)]
      have Y2 := Y.kp k2
      refine hol Y2 fun H3 k3 => ⟨_, rfl, ?_⟩
      rw [if_neg (by decide)]
      have Y3 := Y2.kp k3
      have at_ : ∀ {H1 : Hp} {f : Str → PyData} (m : Int), LDy RP Hb H1 o d so to o2 d2 r r1 nl zs f f0 → 0 ≤ m → m < 27 → SqL K H1 rw (xs.map V.int) ∧ ∃ x, atI (xs.map V.int) m = some (.int x) ∧ 0 ≤ x := fun {H1 f} m Y m0 ml => by
        obtain ⟨v, hv, ev⟩ := atI_ex (xs := xs.map V.int) (i := m) m0 (by rw [List.length_map, S.xl]; exact ml)
        obtain ⟨x, hx, rfl⟩ := List.mem_map.mp hv
        exact ⟨sq_l (Y.kb _ _ not0 S.row), x, ev, S.x0 x hx⟩
      have zl : 0 < zs.length := by
        have := Y.zn
        cases zs with
        | nil => exact absurd rfl this
        | cons _ _ => exact Nat.succ_pos _
      have z100 : zs.length ≤ 100 := by
        obtain ⟨_, _, _, _, _, _, _, z⟩ := Y.hR
        exact z
      have nm : ∀ (m : Int), ∃ z, z ∈ zs ∧ atI (zs.map V.str) (m % (zs.map V.str).length) = some (.str z) := fun m => by
        obtain ⟨v, hv, ev⟩ := atI_ex (xs := zs.map V.str) (i := m % (zs.map V.str).length) (Int.emod_nonneg _ (by rw [List.length_map]; omega)) (Int.emod_lt_of_pos _ (by rw [List.length_map]; omega))
        obtain ⟨z, hz, rfl⟩ := List.mem_map.mp hv
        exact ⟨z, hz, ev⟩
      have cdv : ∀ y : Int, CDiv y (zs.map V.str).length := fun y => by
        rw [List.length_map]
        exact ⟨by omega, by omega⟩
      have gn : gz ≠ [] := fun e => by
        have := S.gp.length_eq
        rw [e] at this
        exact absurd this (by simp)
      have gl100 : gz.length ≤ 100 := by
        rw [S.gp.length_eq, List.length_cons, List.length_map]
        have := S.fsT.2.2
        omega
      have gok : ∀ x ∈ gz, PyData.strOk x = true := fun x hx => by
        rcases List.mem_cons.mp (S.gp.mem_iff.mp hx) with rfl | h
        · decide +kernel
        · obtain ⟨y, hy, rfl⟩ := List.mem_map.mp h
          exact goodF_ok (S.fsT.1 y hy)
      have fok : ∀ x ∈ full fT, PyData.strOk x.1 = true := fun x hx => nameS_ok (S.fsT.names x.1 (List.mem_map_of_mem (f := (·.1)) hx))
      have gfull : ∀ x, x ∈ gz ↔ x ∈ (full fT).map (·.1) := fun x => by
        rw [S.gp.mem_iff]
        unfold full
        rw [List.map_append, List.mem_append, List.mem_cons]
        constructor
        · rintro (h | h)
          · exact .inr (List.mem_singleton.mpr h)
          · exact .inl h
        · rintro (h | h)
          · exact .inr h
          · exact .inl (List.mem_singleton.mp h)
      obtain ⟨hrw3, y12, a12, b12⟩ := at_ 12 Y3 (by decide) (by decide)
      obtain ⟨mm, em⟩ : ∃ mm : Nat, 3 + y12 % 8 = mm := ⟨(3 + y12 % 8).toNat, by have := Int.emod_nonneg y12 (show (8 : Int) ≠ 0 by decide); omega⟩
      have mm10 : mm ≤ 10 := by have := Int.emod_lt_of_pos y12 (show (0 : Int) < 8 by decide); omega
      refine forN34 mm (by omega) (fun j σ H' => ∃ (c2 c13 c14 : Option V) (f : Str → PyData), σ = [some (V.ref a), some (V.ref rw), c2, some (V.ref lk), some (V.ref dm), some (V.ref lg), some (V.ref db), some (V.ref gl), some (V.ref o), some (V.ref o2), some (V.ref nl), some (V.ref r1), some (V.ref r), c13, c14, none, none] ∧ LDy RP Hb H' o d so to o2 d2 r r1 nl zs f f0) (fun R h => ?_) ⟨none, none, none, f0, rfl, Y3⟩ (fun j σ H4 hj h => ?_) fun σ H4 h => ?_
      · try simp (maxSteps := 1000000) only [tSeq, tIfS, tTest, tOp, tUn, tCB, tCons, tNil, tVar, tC, rI0, rI, rU, rEq, rNe, tRet, tRetN, tAsg, gName, gSub, tBM, tBM0, tNext, tB, tNot, tAnd, tOr, tIf, tCall, tDrop, tBreak, tCont, L2.start, tDGet, sDPut, tTup, tLst, tDNewK, tRevL, rCat, rAppend, rPop, rSetL, tAndV, tOrV, tNotV, tSl, tPart, tNoPart, tM1, gTup, gCons, gNil, cxK, cxnK, List.map_cons, List.map_nil, List.length_cons, List.length_nil, List.replicate, List.cons_append, List.nil_append, List.append_nil, List.set_cons_zero, List.set_cons_succ, List.getElem?_cons_zero, List.getElem?_cons_succ, Option.some.injEq, V.ref.injEq, V.int.injEq, V.str.injEq, V.bl.injEq, V.ty.injEq, exists_eq_left', exists_eq_left, exists_and_left, List.cons.injEq, and_true, true_and, sc_ii, sc_ss, sc_bb, sc_ni, sc_in, sc_is, sc_si, sc_nn, decide_true, decide_false, reduceCtorEq, Bool.false_eq_true, if_true, if_false, ite_true, ite_false, exists_const, eq_self, false_and, and_false, or_false, false_or, exists_false, Evl.rLenS, rSum, wipe, tYes, exists_eq, exists_eq', rIxL, rIxT, rIxS, exists_and_right, gt_iff_lt, not_true_eq_false, not_false_eq_true, Bool.not_true, Bool.not_false, decide_eq_true_eq, Nat.reduceSub, Nat.reduceAdd, List.append_assoc, tChain, tDIn, tDNotIn, sDDel, tAug, ipI]
        refine ⟨_, hrw3, _, a12, .inl ⟨y12, rfl, by decide, ?_⟩⟩
        rw [em]
        exact h
      · obtain ⟨c2, c13, c14, f, rfl, Y4⟩ := h
        obtain ⟨hrw4, y, ay, by0⟩ := at_ (13 + (j : Nat)) Y4 (by omega) (by omega)
        obtain ⟨z, hz, ez⟩ := nm y
        try simp (maxSteps := 1000000) only [tSeq, tIfS, tTest, tOp, tUn, tCB, tCons, tNil, tVar, tC, rI0, rI, rU, rEq, rNe, tRet, tRetN, tAsg, gName, gSub, tBM, tBM0, tNext, tB, tNot, tAnd, tOr, tIf, tCall, tDrop, tBreak, tCont, L2.start, tDGet, sDPut, tTup, tLst, tDNewK, tRevL, rCat, rAppend, rPop, rSetL, tAndV, tOrV, tNotV, tSl, tPart, tNoPart, tM1, gTup, gCons, gNil, cxK, cxnK, List.map_cons, List.map_nil, List.length_cons, List.length_nil, List.replicate, List.cons_append, List.nil_append, List.append_nil, List.set_cons_zero, List.set_cons_succ, List.getElem?_cons_zero, List.getElem?_cons_succ, Option.some.injEq, V.ref.injEq, V.int.injEq, V.str.injEq, V.bl.injEq, V.ty.injEq, exists_eq_left', exists_eq_left, exists_and_left, List.cons.injEq, and_true, true_and, sc_ii, sc_ss, sc_bb, sc_ni, sc_in, sc_is, sc_si, sc_nn, decide_true, decide_false, reduceCtorEq, Bool.false_eq_true, if_true, if_false, ite_true, ite_false, exists_const, eq_self, false_and, and_false, or_false, false_or, exists_false, Evl.rLenS, rSum, wipe, tYes, exists_eq, exists_eq', rIxL, rIxT, rIxS, exists_and_right, gt_iff_lt, not_true_eq_false, not_false_eq_true, Bool.not_true, Bool.not_false, decide_eq_true_eq, Nat.reduceSub, Nat.reduceAdd, List.append_assoc, tChain, tDIn, tDNotIn, sDDel, tAug, ipI, gSetO]
        have hn4 := sq_l (K := K) Y4.hn
        have zl0 : (0 : Int) < ((zs.map V.str).length : Nat) := by rw [List.length_map]; omega
        refine ⟨_, hrw4, _, ay, .inl ⟨y, rfl, _, .inl hn4, zl0, _, hn4, _, ez, _, hrw4, _, ay, _, .inl hn4, y, rfl, cdv y, ?_⟩⟩
        refine ⟨z, _, gl, gz, rfl, Y4.kb _ _ not0 S.gh, gn, gl100, gok, fun t dd H5 ht5 lz k5 => ?_⟩
        have Y5 := Y4.kp k5
        obtain ⟨dxo, _, _, ho5, _⟩ := id Y5.hR
        obtain ⟨kd, hkd⟩ := Y5.hR.dict
        refine ⟨⟨dxo, _, ho5⟩, o, d, so, to, gT, full fT, zs, f, z, .ref t, dd, rfl, Y5.hR, S.bT.kp Y5.kb, fok, (Y5.ok z hz).1, ht5, lz.2.2.2, lz.2.2.1, fun h => absurd hz h, fun _ hb => ?_, fun _ _ e' H6 td hR6 k6 => ?_⟩
        · rw [← isRowD_congr gfull, lz.2.1] at hb; cases hb
        refine ⟨.ref t, dd, rfl, dqN k6 (noSqK hkd) ht5, lz.1, fun p e2 H7 td2 hp7 k7 => ?_⟩
        have ee := td2.uniq td
        subst ee
        obtain ⟨kv7, hk7, _⟩ := id ((Y5.hW.kpN k6 (noSqK hkd) (not1 Y5.dr.symm)).kp k7)
        have hW7 := (Y5.hW.kpN k6 (noSqK hkd) (not1 Y5.dr.symm)).kp k7
        refine ⟨_, DPut.k (k := Sum.inr z) hk7 (by rw [hW7.len hk7]; exact smallL (by omega)), ?_⟩
        have Y8 := Y5.set hz (tdR_sh td2 lz.2.2.2) k6 hR6 k7 hp7 hk7
        refine hol Y8 fun H8 k8 => ⟨_, rfl, ?_⟩
        rw [if_neg (by decide)]
        exact ⟨_, Y8.kp k8⟩
      · obtain ⟨c2, c13, c14, f, rfl, Y4⟩ := h
        obtain ⟨hrw4, y, ay, by0⟩ := at_ 23 Y4 (by decide) (by decide)
        obtain ⟨z, hz, ez⟩ := nm y
        have ky : ∀ {H1 : Hp} {f : Str → PyData}, LDy RP Hb H1 o d so to o2 d2 r r1 nl zs f f0 → KyAt H1 dm (fS.map (·.1)) ∧ KyAt H1 db (fT.map (·.1)) := fun {H1 f} Y => by
          obtain ⟨ka, e1, e2, _⟩ := id (S.tS.kp Y.kb)
          obtain ⟨kb, e3, e4, _⟩ := id (S.tT.kp Y.kb)
          exact ⟨⟨ka, e1, by rw [e2, List.map_map]; rfl⟩, ⟨kb, e3, by rw [e4, List.map_map]; rfl⟩⟩
        have gS' : ∀ z ∈ fS.map (·.1), goodF z = true := fun z hz => by
          obtain ⟨x, hx, rfl⟩ := List.mem_map.mp hz
          exact S.fsS.1 x hx
        have gT' : ∀ z ∈ fT.map (·.1), goodF z = true := fun z hz => by
          obtain ⟨x, hx, rfl⟩ := List.mem_map.mp hz
          exact S.fsT.1 x hx
        have lS : (fS.map (·.1)).length ≤ 100 := by rw [List.length_map]; have := S.fsS.2.2; omega
        have lT : (fT.map (·.1)).length ≤ 100 := by rw [List.length_map]; have := S.fsT.2.2; omega
        obtain ⟨_, y24, a24, _⟩ := at_ 24 Y4 (by decide) (by decide)
        obtain ⟨_, y25, a25, _⟩ := at_ 25 Y4 (by decide) (by decide)
        obtain ⟨_, y26, a26, _⟩ := at_ 26 Y4 (by decide) (by decide)
        have hn4 := sq_l (K := K) Y4.hn
        have zl0 : (0 : Int) < ((zs.map V.str).length : Nat) := by rw [List.length_map]; omega
        try simp (maxSteps := 1000000) only [tSeq, tIfS, tTest, tOp, tUn, tCB, tCons, tNil, tVar, tC, rI0, rI, rU, rEq, rNe, tRet, tRetN, tAsg, gName, gSub, tBM, tBM0, tNext, tB, tNot, tAnd, tOr, tIf, tCall, tDrop, tBreak, tCont, L2.start, tDGet, sDPut, tTup, tLst, tDNewK, tRevL, rCat, rAppend, rPop, rSetL, tAndV, tOrV, tNotV, tSl, tPart, tNoPart, tM1, gTup, gCons, gNil, cxK, cxnK, List.map_cons, List.map_nil, List.length_cons, List.length_nil, List.replicate, List.cons_append, List.nil_append, List.append_nil, List.set_cons_zero, List.set_cons_succ, List.getElem?_cons_zero, List.getElem?_cons_succ, Option.some.injEq, V.ref.injEq, V.int.injEq, V.str.injEq, V.bl.injEq, V.ty.injEq, exists_eq_left', exists_eq_left, exists_and_left, List.cons.injEq, and_true, true_and, sc_ii, sc_ss, sc_bb, sc_ni, sc_in, sc_is, sc_si, sc_nn, decide_true, decide_false, reduceCtorEq, Bool.false_eq_true, if_true, if_false, ite_true, ite_false, exists_const, eq_self, false_and, and_false, or_false, false_or, exists_false, Evl.rLenS, rSum, wipe, tYes, exists_eq, exists_eq', rIxL, rIxT, rIxS, exists_and_right, gt_iff_lt, not_true_eq_false, not_false_eq_true, Bool.not_true, Bool.not_false, decide_eq_true_eq, Nat.reduceSub, Nat.reduceAdd, List.append_assoc, tChain, tDIn, tDNotIn, sDDel, tAug, ipI]
        refine ⟨_, hrw4, _, ay, .inl ⟨y, rfl, _, .inl hn4, zl0, _, hn4, _, ez, _, hrw4, _, ay, _, .inl hn4, y, rfl, cdv y, _, hrw4, _, a24, ?_⟩⟩
        refine ⟨y24, dm, db, _, _, rfl, S.dmb, (ky Y4).1, (ky Y4).2, gS', gT', lS, fun s' H5 hs' so' k5 => ?_⟩
        have Y5 := Y4.kp k5
        refine ⟨z, _, _, s', rfl, so', fun v dd H6 hv bd k6 => ?_⟩
        have Y6 := Y5.kp k6
        refine ⟨_, (at_ 25 Y6 (by decide) (by decide)).1, _, a25, ?_⟩
        refine ⟨y25, dm, db, _, _, rfl, S.dmb, (ky Y6).1, (ky Y6).2, gT', lT, fun u H7 uo k7 => ?_⟩
        have Y7 := Y6.kp k7
        have ef : (full fT).map (·.1) = fT.map (·.1) ++ [("full" : Str)] := by unfold full; rw [List.map_append]; rfl
        have bd7 := bd ((full fT).map (·.1)) (by rw [ef]; exact hs')
        refine ⟨nl, _, rfl, .inl (sq_l Y7.hn), rfl, flat_map _, _, rfl, ?_⟩
        rw [if_neg Bool.false_ne_true, in_strs]
        unfold inW
        have key : ∀ (uu : Str), uu ∉ zs → PyData.strOk uu = true → ∀ (Rk : VK), (∀ H8, Kp [] H7 H8 → Rk (.bl true) H8) → spThree K RP BK PC [.ref o, .ref r, .str z, .str uu, v] H7 Rk E0 := fun uu nu uo Rk hRk =>
          ⟨o, d, so, to, r, gT, full fT, zs, f, z, uu, v, dd, rfl, Y7.hR, Y7.hW, Y7.dr, Y7.zn, Y7.ok, S.bT.kp Y7.kb, fok, hz, nu, uo, hv.kp k7, bd7, hRk⟩
        have n0 : ("" : Str) ∉ zs := fun h => by
          rcases List.mem_append.mp (pz.mem_iff.mp h) with h | h
          · exact absurd h (by decide +kernel)
          · exact absurd (gS' _ h) (by decide +kernel)
        refine ite2 (fun _ => key "" n0 (by decide +kernel) _ fun H8 k8 => ?_) (fun h => key u (by simpa using h) uo _ fun H8 k8 => ?_)
        all_goals
          refine ⟨_, rfl, ?_⟩
          rw [if_neg (by decide)]
          have Y8 := Y7.kp k8
          refine ⟨_, (at_ 26 Y8 (by decide) (by decide)).1, _, a26, ?_⟩
          refine ⟨z, y26, gl, gz, rfl, Y8.kb _ _ not0 S.gh, gn, gl100, gok, fun t d9 H9 ht9 lz k9 => ?_⟩
          have Y9 := Y8.kp k9
          obtain ⟨kd, hkd⟩ := Y9.hR.dict
          refine ⟨o, d, so, to, gT, full fT, zs, f, z, .ref t, d9, rfl, Y9.hR, S.bT.kp Y9.kb, fok, (Y9.ok z hz).1, ht9, lz.2.2.2, lz.2.2.1, fun h => absurd hz h, fun _ hb => ?_, fun _ _ e' p H10 hp10 td hR10 k10 => ⟨small (by decide), fun p11 n11 => ?_⟩⟩
          · rw [← isRowD_congr gfull, lz.2.1] at hb; cases hb
          have k11 : Kp [] H10 (upd H10 p11 (.lst [])) := Kp.new n11
          refine ⟨.list [], .list [], .lst (sq_l (k11 _ _ not0 hp10)) .nil, .lst (sq_l upd_same) .nil, by decide, by decide, ?_⟩
          rw [eqv_of (show SeqAt.shaped (.list []) = true by decide)]
          refine ⟨_, rfl, ?_⟩
          rw [if_neg (by decide)]
          generalize (upd H10 p11 (.lst [])) = H11 at k11 ⊢
          refine ⟨.ref t, d9, rfl, dqN (k10.trans k11.of0) (noSqK hkd) ht9, lz.1, fun p12 e2 H12 td2 hp12 k12 => ?_⟩
          have ee := td2.uniq td
          subst ee
          have hW12 := ((Y9.hW.kpN k10 (noSqK hkd) (not1 Y9.dr.symm)).kp k11).kp k12
          obtain ⟨kv12, hk12, _⟩ := id hW12
          refine ⟨_, DPut.k (k := Sum.inr z) hk12 (by rw [hW12.len hk12]; exact smallL (by omega)), ?_⟩
          have Y13 := Y9.set hz (tdR_sh td2 lz.2.2.2) k10 hR10 (k11.trans k12) hp12 hk12
          refine hol Y13 fun H14 k14 => ⟨_, rfl, ?_⟩
          rw [if_pos rfl]
          have Y14 := Y13.kp k14
          refine ⟨o2, d2, so, to, r1, zs, f0, rfl, Y14.hO, Y14.h1, Y14.d21, Y14.zn, Y14.ok0, fun H15 k15 => ⟨_, rfl, ?_⟩⟩
          rw [if_pos rfl]
          exact fld (Y14.kp k15) fun H16 _ => q _
    refine ⟨_, (pss_cons (ps_setLc (i := 1) (own := [("_law_k", 2)]) (g := (gName 2)) (tt := tYes) rfl sc_law.nd rfl rfl (sw_true rfl rfl rfl (by decide +kernel)) (pi_range1 rfl T.b_range (pa_cons pe_int pa_nil)) (blkOk_by (N := ["_law_script", "_law_row", "_law_k", "_law_kept", "_law_marks", "_law_goal_here", "_law_bars", "_law_gates", "_law_made", "_law_other", "_law_names_here", "_law_first", "_law_rows", "_law_name_here", "_law_loose_here", "_law_bad", "_law_unknown_here"]) (sc := defScope s_law) (by decide +kernel)) (fun _ _ _ _ _ => (pg_name (i := 2) sc_law.nd rfl (Or.inl rfl))) (fun _ _ _ _ _ => pts_nil) (fun _ _ _ _ _ => (pe_call G_law_draw (hr.mono (by decide)) rfl D_law_draw.g D_law_draw.F.kp D_law_draw.b .nil pass0 (pa_cons (pv 0) (pa_cons (pv 2) pa_nil)))))
      (pss_cons (ps_set (i := 3) sc_law.nd rfl (Or.inl rfl) (pe_call G_law_set (hr.mono (by decide)) rfl D_law_set.g D_law_set.F.kp D_law_set.b .nil pass0 (pa_cons (pe_ix (r := rIxL K) ix_list (pv 1) pe_int (fun _ _ => rfl)) pa_nil)))
      (pss_cons (ps_set (i := 4) sc_law.nd rfl (Or.inl rfl) (pe_call G_law_table (hr.mono (by decide)) rfl D_law_table.g D_law_table.F.kp D_law_table.b .nil pass0 (pa_cons (pe_ix (r := rIxL K) ix_list (pv 1) pe_int (fun _ _ => rfl)) (pa_cons (pv 1) (pa_cons pe_int (pa_cons (pe_lst pa_nil) pa_nil))))))
      (pss_cons (ps_set (i := 5) sc_law.nd rfl (Or.inl rfl) (pe_call G_law_goal (hr.mono (by decide)) rfl D_law_goal.g D_law_goal.F.kp D_law_goal.b .nil pass0 (pa_cons (pv 3) (pa_cons (pe_ix (r := rIxL K) ix_list (pv 1) pe_int (fun _ _ => rfl)) pa_nil))))
      (pss_cons (ps_set (i := 6) sc_law.nd rfl (Or.inl rfl) (pe_call G_law_table (hr.mono (by decide)) rfl D_law_table.g D_law_table.F.kp D_law_table.b .nil pass0 (pa_cons (pe_ix (r := rIxL K) ix_list (pv 1) pe_int (fun _ _ => rfl)) (pa_cons (pv 1) (pa_cons pe_int (pa_cons (pe_callTy (call_listD rfl) (by rfl) T.b_list (by decide +kernel) (pa_cons (pv 4) pa_nil)) pa_nil))))))
      (pss_cons (ps_set (i := 7) sc_law.nd rfl (Or.inl rfl) (pe_callB (id := "sorted") (r := rSortedS K) cr_sortedS (by rfl) T.b_sorted (by decide +kernel) (pa_cons (pe_op op_cat (pe_lst (pa_cons pe_str pa_nil)) (pe_callTy (call_listD rfl) (by rfl) T.b_list (by decide +kernel) (pa_cons (pv 6) pa_nil))) pa_nil)))
      (pss_cons (ps_set (i := 8) sc_law.nd rfl (Or.inl rfl) (pe_make M_Recipe G_Recipe_init (hr.mono (by decide)) rfl R.k D_Recipe_init.b .nil pass0 (pa_cons (pe_call G_law_book (hr.mono (by decide)) rfl D_law_book.g D_law_book.F.kp D_law_book.b .nil pass0 (pa_cons (pv 3) (pa_cons (pv 4) pa_nil))) (pa_cons (pe_call G_law_book (hr.mono (by decide)) rfl D_law_book.g D_law_book.F.kp D_law_book.b .nil pass0 (pa_cons (pv 5) (pa_cons (pv 6) pa_nil))) pa_nil))))
      (pss_cons (ps_set (i := 9) sc_law.nd rfl (Or.inl rfl) (pe_make M_Recipe G_Recipe_init (hr.mono (by decide)) rfl R.k D_Recipe_init.b .nil pass0 (pa_cons (pe_fld (pv 8) rfl) (pa_cons (pe_fld (pv 8) rfl) pa_nil))))
      (pss_cons (ps_set (i := 10) sc_law.nd rfl (Or.inl rfl) (pe_call G_law_names (hr.mono (by decide)) rfl D_law_names.g D_law_names.F.kp D_law_names.b .nil pass0 (pa_cons (pv 4) pa_nil)))
      (pss_cons (ps_set (i := 11) sc_law.nd rfl (Or.inl rfl) (pe_call G_law_plain (hr.mono (by decide)) rfl D_law_plain.g D_law_plain.F.kp D_law_plain.b .nil pass0 (pa_cons (pv 10) (pa_cons (pv 6) pa_nil))))
      (pss_cons (ps_set (i := 12) sc_law.nd rfl (Or.inl rfl) (pe_call G_law_plain (hr.mono (by decide)) rfl D_law_plain.g D_law_plain.F.kp D_law_plain.b .nil pass0 (pa_cons (pv 10) (pa_cons (pv 6) pa_nil))))
      ht))))))))))), ?_⟩
    try simp (maxSteps := 1000000) only [tSeq, tIfS, tTest, tOp, tUn, tCB, tCons, tNil, tVar, tC, rI0, rI, rU, rEq, rNe, tRet, tRetN, tAsg, gName, gSub, tBM, tBM0, tNext, tB, tNot, tAnd, tOr, tIf, tCall, tDrop, tBreak, tCont, L2.start, tDGet, sDPut, tTup, tLst, tDNewK, tRevL, rCat, rAppend, rPop, rSetL, tAndV, tOrV, tNotV, tSl, tPart, tNoPart, tM1, gTup, gCons, gNil, cxK, cxnK, List.map_cons, List.map_nil, List.length_cons, List.length_nil, List.replicate, List.cons_append, List.nil_append, List.append_nil, List.set_cons_zero, List.set_cons_succ, List.getElem?_cons_zero, List.getElem?_cons_succ, Option.some.injEq, V.ref.injEq, V.int.injEq, V.str.injEq, V.bl.injEq, V.ty.injEq, exists_eq_left', exists_eq_left, exists_and_left, List.cons.injEq, and_true, true_and, sc_ii, sc_ss, sc_bb, sc_ni, sc_in, sc_is, sc_si, sc_nn, decide_true, decide_false, reduceCtorEq, Bool.false_eq_true, if_true, if_false, ite_true, ite_false, exists_const, eq_self, false_and, and_false, or_false, false_or, exists_false, Evl.rLenS, rSum, wipe, tYes, exists_eq, exists_eq', rIxL, rIxT, rIxS, exists_and_right, gt_iff_lt, not_true_eq_false, not_false_eq_true, Bool.not_true, Bool.not_false, decide_eq_true_eq, Nat.reduceSub, Nat.reduceAdd, List.append_assoc, tChain, tDIn, tDNotIn, sDDel, tAug, ipI]
    obtain ⟨hS, nl63⟩ := hsc
    refine ⟨27, rfl, by decide, by decide, fun D nD => lc_it (walk_range (lo := 0) (n := 27)) (fun i H' => ∃ xs : List Int, H' D = some (.lst (xs.map V.int)) ∧ xs.length = i ∧ (∀ x ∈ xs, 0 ≤ x) ∧ Kp [] H H') ⟨[], upd_same, rfl, (fun x hx => nomatch hx), Kp.new nD⟩ (fun _ _ _ _ => True.intro) ?_ ?_⟩
    · rintro i x H1 H2 hi ⟨xs, hx, xl, x0, k⟩ ⟨rfl, rfl⟩
      try simp (maxSteps := 1000000) only [tSeq, tIfS, tTest, tOp, tUn, tCB, tCons, tNil, tVar, tC, rI0, rI, rU, rEq, rNe, tRet, tRetN, tAsg, gName, gSub, tBM, tBM0, tNext, tB, tNot, tAnd, tOr, tIf, tCall, tDrop, tBreak, tCont, L2.start, tDGet, sDPut, tTup, tLst, tDNewK, tRevL, rCat, rAppend, rPop, rSetL, tAndV, tOrV, tNotV, tSl, tPart, tNoPart, tM1, gTup, gCons, gNil, cxK, cxnK, List.map_cons, List.map_nil, List.length_cons, List.length_nil, List.replicate, List.cons_append, List.nil_append, List.append_nil, List.set_cons_zero, List.set_cons_succ, List.getElem?_cons_zero, List.getElem?_cons_succ, Option.some.injEq, V.ref.injEq, V.int.injEq, V.str.injEq, V.bl.injEq, V.ty.injEq, exists_eq_left', exists_eq_left, exists_and_left, List.cons.injEq, and_true, true_and, sc_ii, sc_ss, sc_bb, sc_ni, sc_in, sc_is, sc_si, sc_nn, decide_true, decide_false, reduceCtorEq, Bool.false_eq_true, if_true, if_false, ite_true, ite_false, exists_const, eq_self, false_and, and_false, or_false, false_or, exists_false, Evl.rLenS, rSum, wipe, tYes, exists_eq, exists_eq', rIxL, rIxT, rIxS, exists_and_right, gt_iff_lt, not_true_eq_false, not_false_eq_true, Bool.not_true, Bool.not_false, decide_eq_true_eq, Nat.reduceSub, Nat.reduceAdd, List.append_assoc, tChain, tDIn, tDNotIn, sDDel, tAug, ipI]
      refine ⟨a, _, ns, rfl, ⟨k.ls not0 hS, nl63⟩, by omega, fun n H3 n0 k3 => ?_⟩
      refine ⟨_, k3 _ _ not0 hx, by rw [List.length_map]; exact smallL (by omega), xs ++ [n], by rw [upd_same, List.map_append]; rfl, by rw [List.length_append, xl]; rfl, fun y hy => ?_, (k.trans k3).wr nD⟩
      rcases List.mem_append.mp hy with h | h
      · exact x0 y h
      · rw [List.mem_singleton.mp h]; exact n0
    rintro H1 ⟨xs, hx, xl, x0, k1⟩
    have at_ : ∀ (m : Int), 0 ≤ m → m < 27 → ∃ x, atI (xs.map V.int) m = some (.int x) ∧ 0 ≤ x := fun m m0 ml => by
      obtain ⟨v, hv, ev⟩ := atI_ex (xs := xs.map V.int) (i := m) m0 (by rw [List.length_map, xl]; exact ml)
      obtain ⟨x, hx, rfl⟩ := List.mem_map.mp hv
      exact ⟨x, ev, x0 x hx⟩
    obtain ⟨y0, a0, b0⟩ := at_ 0 (by decide) (by decide)
    obtain ⟨y1, a1, b1⟩ := at_ 1 (by decide) (by decide)
    obtain ⟨y6, a6, b6⟩ := at_ 6 (by decide) (by decide)
    obtain ⟨y7, a7, b7⟩ := at_ 7 (by decide) (by decide)
    refine ⟨D, rfl, _, sq_l hx, _, a0, y0, rfl, b0, fun lk gS H2 _ sS k2 => ?_⟩
    have hx2 := k2 _ _ not0 hx
    refine ⟨D, rfl, _, sq_l hx2, _, a1, small (by decide), fun p0 n0 => ?_⟩
    have k3 : Kp [] H2 (upd H2 p0 (.lst [])) := Kp.new n0
    have hx3 := k3 _ _ not0 hx2
    refine ⟨y1, 2, D, p0, xs, [], rfl, hx3, upd_same, b1, x0, by decide, by omega, by omega, (fun z hz => nomatch hz), by decide, fun dm fS H4 ndm tS hfS k4 => ?_⟩
    have hx4 := k4 _ _ not0 hx3
    refine ⟨D, rfl, _, sq_l hx4, _, a6, lk, gS, y6, rfl, b6, sS.kp (k3.trans k4), fun lg gT H5 sT k5 => ?_⟩
    have hx5 := k5 _ _ not0 hx4
    obtain ⟨kvm, hdm, hkm, _⟩ := id (tS.kp k5)
    refine ⟨D, rfl, _, sq_l hx5, _, a7, dm, rfl, kvm, .inl hdm, fun p6 n6 => ?_⟩
    have eb : kvm.map (fun kv => kV kv.1) = (fS.map (·.1)).map V.str := by
      have e : kvm.map (fun kv => kV kv.1) = (kvm.map (·.1)).map kV := by rw [List.map_map]; rfl
      rw [e, hkm, List.map_map, List.map_map]; rfl
    rw [eb]
    have k6 : Kp [] H5 (upd H5 p6 (.lst ((fS.map (·.1)).map V.str))) := Kp.new n6
    have hx6 := k6 _ _ not0 hx5
    refine ⟨y7, 8, D, p6, xs, fS.map (·.1), rfl, hx6, upd_same, b7, x0, by decide, by omega, by omega, fun z hz => ?_, by rw [List.length_map]; have := hfS.2.2; omega, fun db fT H7 ndb tT hfT k7 => ?_⟩
    · obtain ⟨x, hx, rfl⟩ := List.mem_map.mp hz
      exact hfS.1 x hx
    dsimp only
    obtain ⟨kvS, eS, _⟩ := id tS
    have dmb : dm ≠ db := ne_of_none ((k5.trans k6) _ _ not0 eS) ndb
    refine ⟨small (by decide), fun p8 n8 => ⟨db, rfl, ?_⟩⟩
    obtain ⟨kvb, hdb, hkb, _⟩ := id tT
    have k8 : Kp [] H7 (upd H7 p8 (.lst [V.str "full"])) := Kp.new n8
    have hp8 : (upd H7 p8 (.lst [V.str "full"])) p8 = some (.lst [V.str "full"]) := upd_same
    show ∃ x, Rd (upd H7 p8 (.lst [V.str "full"])) db (HO.dK x) ∧ _
    generalize (upd H7 p8 (.lst [V.str "full"])) = H8 at k8 hp8 ⊢
    refine ⟨kvb, .inl (k8 _ _ not0 hdb), fun p9 n9 => ?_⟩
    have eb2 : kvb.map (fun kv => kV kv.1) = (fT.map (·.1)).map V.str := by
      have e : kvb.map (fun kv => kV kv.1) = (kvb.map (·.1)).map kV := by rw [List.map_map]; rfl
      rw [e, hkb, List.map_map, List.map_map]; rfl
    rw [eb2]
    have p89 : p8 ≠ p9 := ne_of_none hp8 n9
    have k9 : Kp [] H8 (upd H8 p9 (.lst ((fT.map (·.1)).map V.str))) := Kp.new n9
    refine ⟨_, by rw [upd_ne p89]; exact hp8, _, upd_same, by rw [List.length_map, List.length_map]; exact small (by have := hfT.2.2; show 1 + fT.length ≤ _; omega), fun p10 n10 => ?_⟩
    generalize (upd H8 p9 (.lst ((fT.map (·.1)).map V.str))) = H9 at k9 n10 ⊢
    have k10 : Kp [] H9 (upd H9 p10 (.lst ([V.str "full"] ++ (fT.map (·.1)).map V.str))) := Kp.new n10
    refine ⟨p10, ("full" : Str) :: fT.map (·.1), rfl, sq_l upd_same, by rw [List.length_cons, List.length_map]; have := hfT.2.2; omega, fun gz gl pg sg n11 => ?_⟩
    have k11 : Kp [] (upd H9 p10 (.lst ([V.str "full"] ++ (fT.map (·.1)).map V.str))) (upd (upd H9 p10 (.lst ([V.str "full"] ++ (fT.map (·.1)).map V.str))) gl (.lst (gz.map V.str))) := Kp.new n11
    have h11 : (upd (upd H9 p10 (.lst ([V.str "full"] ++ (fT.map (·.1)).map V.str))) gl (.lst (gz.map V.str))) gl = some (.lst (gz.map V.str)) := upd_same
    have k711 : Kp [] H7 (upd (upd H9 p10 (.lst ([V.str "full"] ++ (fT.map (·.1)).map V.str))) gl (.lst (gz.map V.str))) := ((k8.trans k9).trans k10).trans k11
    show tMake _ _ _ _ _ _ (upd (upd H9 p10 (.lst ([V.str "full"] ++ (fT.map (·.1)).map V.str))) gl (.lst (gz.map V.str))) _
    generalize (upd (upd H9 p10 (.lst ([V.str "full"] ++ (fT.map (·.1)).map V.str))) gl (.lst (gz.map V.str))) = H11 at h11 k711 ⊢
    have k411 := ((k5.trans k6).trans k7).trans k711
    have k511 := (k6.trans k7).trans k711
    have k211 := (k3.trans k4).trans k411
    refine ⟨_, rfl, _, rfl, lk, dm, gS, fS, rfl, sS.kp k211, tS.kp k411, hfS, fun so H12 bS k12 => ⟨_, rfl, _, rfl, lg, db, gT, fT, rfl, (sT.kp k511).kp k12, (tT.kp k711).kp k12, hfT, fun to Hb bT kb => ?_⟩⟩
    have bS := bS.kp kb
    have kHb := k12.trans kb
    have S : LSt K BK PC Hb D lk dm lg db gl so to xs gS gT fS fT gz := ⟨(k511.trans kHb) _ _ not0 hx5, xl, x0, sS.kp (k211.trans kHb), tS.kp (k411.trans kHb), sT.kp (k511.trans kHb), tT.kp (k711.trans kHb), hfS, hfT, dmb, kHb _ _ not0 h11, pg, bS, bT⟩
    have nS : ∀ x ∈ full fS, x.1 ∉ retK := fun x hx => by
      unfold full at hx
      rcases List.mem_append.mp hx with hx | hx
      · exact goodF_nret (hfS.1 x hx)
      · rw [List.mem_singleton.mp hx]; decide +kernel
    intro o dx no ndx hne
    have j1 : Kp [] Hb (upd (upd Hb dx (.own o)) o (.ins RP dx [])) := (Kp.new ndx).trans (Kp.new (by rw [upd_ne hne.symm]; exact no))
    refine ⟨o, dx, so, to, gS, gT, full fS, full fT, rfl, upd_same, bS.kp j1, bT.kp j1, nS, fun d zs H13 nd hR pz srt k13 => ⟨rfl, ?_⟩⟩
    have kb13 : Kp [] Hb H13 := j1.one k13 no
    have dn := j1.free0 nd
    dsimp only
    obtain ⟨dx3, nl3, ns3, ho3, _⟩ := id hR
    refine ⟨.ref o, rfl, o, RP, dx3, _, .ref so, rfl, ho3, R.cl, R.n1, rfl, .ref o, rfl, o, RP, dx3, _, .ref to, rfl, ho3, R.cl, R.n2, rfl, ?_⟩
    intro o2 dx2 no2 ndx2 hne2
    have j2 : Kp [] H13 (upd (upd H13 dx2 (.own o2)) o2 (.ins RP dx2 [])) := (Kp.new ndx2).trans (Kp.new (by rw [upd_ne hne2.symm]; exact no2))
    refine ⟨o2, dx2, so, to, gS, gT, full fS, full fT, rfl, upd_same, (bS.kp kb13).kp j2, (bT.kp kb13).kp j2, nS, fun d2 zs2 H14 nd2 hR2 pz2 srt2 k14 => ⟨rfl, ?_⟩⟩
    have k1314 : Kp [] H13 H14 := j2.one k14 no2
    have ez2 : zs2 = zs := sorted_uniq srt2 srt (pz2.trans pz.symm)
    rw [ez2] at hR2
    have nd13 := j2.free0 nd2
    have hRd := hR.dict
    obtain ⟨kd, hkd⟩ := hRd
    have dd : d2 ≠ d := fun e => by rw [e, hkd] at nd13; cases nd13
    obtain ⟨kvM, hkM, ekM, _⟩ := id S.tS
    have ekM2 : kvM.map (·.1) = (fS.map (·.1)).map (fun z => (Sum.inr z : Key)) := by rw [ekM, List.map_map]; rfl
    have kb14 := kb13.trans k1314
    refine ⟨dm, fS.map (·.1), rfl, ⟨kvM, kb14 _ _ not0 hkM, ekM2⟩, by rw [List.length_map]; exact hfS.2.2, fun zs3 nl H15 pz3 srt3 hnl k15 => ?_⟩
    have pzz : zs.Perm (barF ++ fS.map (·.1)) := by
      refine pz.trans ?_
      have e1 : (full fS).map (·.1) = fS.map (·.1) ++ [("full" : Str)] := by unfold full; rw [List.map_append]; rfl
      have e2 : barF = retK ++ [("full" : Str)] := by decide +kernel
      rw [e1, e2, List.append_assoc]
      exact (List.perm_append_comm (l₁ := fS.map (·.1)) (l₂ := [("full" : Str)])).append_left retK
    have ez3 : zs3 = zs := sorted_uniq srt3 srt (pz3.trans pzz.symm)
    rw [ez3] at hnl
    have kb15 := kb14.trans k15
    obtain ⟨kvB, hkB, ekB, _⟩ := id S.tT
    have ekB2 : kvB.map (·.1) = (fT.map (·.1)).map (fun z => (Sum.inr z : Key)) := by rw [ekB, List.map_map]; rfl
    obtain ⟨_, _, nsz, _, _, ⟨_, _, _, ndz, _⟩, pnz, z100⟩ := id hR
    have nb : ∀ z ∈ fT.map (·.1), z ∉ retK := fun z hz => by
      obtain ⟨x, hx, rfl⟩ := List.mem_map.mp hz
      exact goodF_nret (hfT.1 x hx)
    have ndzs : zs.Nodup := pnz.nodup_iff.mpr ndz
    refine ⟨nl, db, zs, fT.map (·.1), rfl, hnl, ndzs, z100, ⟨kvB, kb15 _ _ not0 hkB, ekB2⟩, nb, fun r1 H16 nr1 hW1 k16 => ?_⟩
    have kb16 := kb15.trans k16
    refine ⟨nl, db, zs, fT.map (·.1), rfl, k16 _ _ not0 hnl, ndzs, z100, ⟨kvB, kb16 _ _ not0 hkB, ekB2⟩, nb, fun r H17 nr hW k17 => ?_⟩
    have ef : (full fT).map (·.1) = fT.map (·.1) ++ [("full" : Str)] := by unfold full; rw [List.map_append]; rfl
    rw [ef] at hR hR2
    have k1417 := (k15.trans k16).trans k17
    have hR17 := hR.kp (k1314.trans k1417)
    have hO17 := hR2.kp k1417
    have h117 := hW1.kp k17
    have ne : ∀ {x : Addr} {kv : List (Key × V)}, H16 x = some (.dK kv) → x ≠ r := fun h e => by rw [e, nr] at h; cases h
    obtain ⟨kv1, hk1⟩ := (hR.kp ((k1314.trans k15).trans k16)).dict
    obtain ⟨kv2, hk2⟩ := (hR2.kp (k15.trans k16)).dict
    obtain ⟨kv3, hk3, _⟩ := id hW1
    have zn : zs ≠ [] := fun e => by
      rw [e] at pz
      have := pz.length_eq
      rw [List.length_append] at this
      exact absurd this (by show ¬ (0 = 6 + _); omega)
    have sh0 : ∀ z ∈ zs, PyData.strOk z = true ∧ SeqAt.shaped (plainF (fT.map (·.1) ++ [("full" : Str)]) z) = true := fun z hz => by
      have zo : PyData.strOk z = true := by
        rcases List.mem_append.mp (pzz.mem_iff.mp hz) with h | h
        · have : ∀ z ∈ barF, PyData.strOk z = true := by decide +kernel
          exact this z h
        · obtain ⟨x, hx, rfl⟩ := List.mem_map.mp h
          exact goodF_ok (hfS.1 x hx)
      refine ⟨zo, ?_⟩
      unfold plainF
      split
      · exact shK (xs := []) (ys := []) (fun z h => nomatch h) zo (fun z h => nomatch h)
      · split
        · decide
        · split
          · exact shT (zs := [z]) fun y hy => by rw [List.mem_singleton.mp hy]; exact zo
          · exact shT (zs := [("full" : Str)]) (by decide +kernel)
    refine hq Hb H17 D lk dm lg db gl so to o d o2 d2 r r1 nl xs gS gT fS fT gz zs (plainF (fT.map (·.1) ++ [("full" : Str)])) S ⟨kb16.trans k17, hR17, hO17, hW, h117, (k16.trans k17) _ _ not0 hnl, dn, ?_, dd, ne hk1, ?_, ne hk2, ?_, ne hk3, zn, sh0, sh0⟩ pzz
    · cases e : Hb r with
      | none => rfl
      | some u => have := kb16 r u not0 e; rw [nr] at this; cases this
    · intro e
      obtain ⟨kx, hx⟩ := (hR.kp (k1314.trans k15)).dict
      rw [e, hx] at nr1; cases nr1
    · intro e
      obtain ⟨kx, hx⟩ := (hR2.kp k15).dict
      rw [← e, hx] at nr1; cases nr1
end
end My

set_option Elab.async false
set_option linter.all false
set_option maxRecDepth 100000
set_option maxHeartbeats 8000000
namespace My
open PySem L2 NdefX
theorem exm_sub {K : PySem.W.Frag} {S D : Addr} {b : Bool} (h1 : PySem.W.subIn K (.ref D) (.type "BaseException") = some true) (h2 : PySem.W.isClsIn K D = true) (h3 : PySem.W.typeIn K (.ref D) = some (.type "type"))
    (h4 : PySem.W.subIn K (.ref S) (.ref D) = some b) : PySem.W.exmOne K (.ref S) (.ref D) = some b := by
  have i2 : (PySem.W.clsIn K D).isSome = true := h2
  unfold PySem.W.exmOne
  simp [PySem.W.kitCls, h1, i2, h3, h4]
theorem kit_self {K : PySem.W.Frag} {S : Addr} : PySem.W.kitOne K (.ref S) (.ref S) = some true := by
  unfold PySem.W.kitOne
  rw [if_pos (beq_self_eq_true _)]
theorem kit_sub {K : PySem.W.Frag} {S D : Addr} {b : Bool} (h1 : ((Value.ref S) == (Value.ref D)) = false) (h2 : PySem.W.isClsIn K D = true) (h3 : PySem.W.typeIn K (.ref D) = some (.type "type")) (h4 : PySem.W.subIn K (.ref S) (.ref D) = some b) : PySem.W.kitOne K (.ref S) (.ref D) = some b := by
  have i2 : (PySem.W.clsIn K D).isSome = true := h2
  unfold PySem.W.kitOne
  rw [h1]
  simp [PySem.W.kitCls, i2, h3, h4]
theorem kit_ty {K : PySem.W.Frag} {S : Addr} {T : String} {b : Bool} (h1 : PySem.W.kitMeta T = true) (h4 : PySem.W.subIn K (.ref S) (.type T) = some b) : PySem.W.kitOne K (.ref S) (.type T) = some b := by
  unfold PySem.W.kitOne
  rw [if_neg (by rw [show ((Value.ref S) == (Value.type T)) = false from beq_eq_false_iff_ne.mpr (fun z => nomatch z)]; exact Bool.false_ne_true)]
  simp [PySem.W.kitCls, h1, h4]
theorem smallI_log {v : V} (h : SmallI v) : ∃ i : Int, v = .int i ∧ i.natAbs.log2 < 1920 := by
  obtain ⟨i, e, h0, h1⟩ := h
  refine ⟨i, e, ?_⟩
  by_cases e0 : i.natAbs = 0
  · rw [e0]; decide
  · rw [Nat.log2_lt e0]
    have h0 : (1000 : Nat) < 2 ^ 1920 := by decide +kernel
    omega
theorem pairsK_mk {K : PySem.W.Frag} {T : Addr} (rs : List Addr) (hT : ∀ H : Hp, SqT K H T (rs.map V.ref)) (h : Paired (fun r p => ∀ H : Hp, SqT K H r [V.str p.1, V.str p.2]) rs pairsL) : PairsK K T := by
  refine ⟨_, fun H => ⟨hT H, ?_⟩⟩
  have : ∀ {rs : List Addr} {ps : List Pr}, Paired (fun r p => ∀ H : Hp, SqT K H r [V.str p.1, V.str p.2]) rs ps → DpAll K H (rs.map V.ref) (ps.map pD) := by
    intro rs ps k
    induction k with
    | nil => exact .nil
    | cons a _ ih => exact .cons (.tup (a H) (.cons (.str _) (.cons (.str _) .nil))) ih
  exact this h
theorem all_mk {l : PySem.W.OpenLaw} {w : World} {K : PySem.W.Frag} {h : Heap} {mg : Str → Option Value} {fa : Addr} (X : K.In h) (G : h.Ns mainGlobals mg) (hfa : mg "law" = some (.ref fa))
    {f0 : Addr}
    {od0 an0 : Option Addr}
    {sl0 : Array (Option Value)}
    {oc0 kV0 dc0 pm0 cd0 ct0 : Value}
    {f1 : Addr}
    {od1 an1 : Option Addr}
    {sl1 : Array (Option Value)}
    {oc1 kV1 dc1 pm1 cd1 ct1 : Value}
    {f2 : Addr}
    {od2 an2 : Option Addr}
    {sl2 : Array (Option Value)}
    {oc2 kV2 dc2 pm2 cd2 ct2 : Value}
    {f3 : Addr}
    {od3 an3 : Option Addr}
    {sl3 : Array (Option Value)}
    {oc3 kV3 dc3 pm3 cd3 ct3 : Value}
    {f4 : Addr}
    {od4 an4 : Option Addr}
    {sl4 : Array (Option Value)}
    {oc4 kV4 dc4 pm4 cd4 ct4 : Value}
    {f5 : Addr}
    {od5 an5 : Option Addr}
    {sl5 : Array (Option Value)}
    {oc5 kV5 dc5 pm5 cd5 ct5 : Value}
    {f6 : Addr}
    {od6 an6 : Option Addr}
    {sl6 : Array (Option Value)}
    {oc6 kV6 dc6 pm6 cd6 ct6 : Value}
    {f7 : Addr}
    {od7 an7 : Option Addr}
    {sl7 : Array (Option Value)}
    {oc7 kV7 dc7 pm7 cd7 ct7 : Value}
    {f8 : Addr}
    {od8 an8 : Option Addr}
    {sl8 : Array (Option Value)}
    {oc8 kV8 dc8 pm8 cd8 ct8 : Value}
    {f9 : Addr}
    {od9 an9 : Option Addr}
    {sl9 : Array (Option Value)}
    {oc9 kV9 dc9 pm9 cd9 ct9 : Value}
    {f10 : Addr}
    {od10 an10 : Option Addr}
    {sl10 : Array (Option Value)}
    {oc10 kV10 dc10 pm10 cd10 ct10 : Value}
    {f11 : Addr}
    {od11 an11 : Option Addr}
    {sl11 : Array (Option Value)}
    {oc11 kV11 dc11 pm11 cd11 ct11 : Value}
    {f12 : Addr}
    {od12 an12 : Option Addr}
    {sl12 : Array (Option Value)}
    {oc12 kV12 dc12 pm12 cd12 ct12 : Value}
    {f13 : Addr}
    {od13 an13 : Option Addr}
    {sl13 : Array (Option Value)}
    {oc13 kV13 dc13 pm13 cd13 ct13 : Value}
    {f14 : Addr}
    {od14 an14 : Option Addr}
    {sl14 : Array (Option Value)}
    {oc14 kV14 dc14 pm14 cd14 ct14 : Value}
    {f15 : Addr}
    {od15 an15 : Option Addr}
    {sl15 : Array (Option Value)}
    {oc15 kV15 dc15 pm15 cd15 ct15 : Value}
    {f16 : Addr}
    {od16 an16 : Option Addr}
    {sl16 : Array (Option Value)}
    {oc16 kV16 dc16 pm16 cd16 ct16 : Value}
    {f17 : Addr}
    {od17 an17 : Option Addr}
    {sl17 : Array (Option Value)}
    {oc17 kV17 dc17 pm17 cd17 ct17 : Value}
    {f18 : Addr}
    {od18 an18 : Option Addr}
    {sl18 : Array (Option Value)}
    {oc18 kV18 dc18 pm18 cd18 ct18 : Value}
    {f19 : Addr}
    {od19 an19 : Option Addr}
    {sl19 : Array (Option Value)}
    {oc19 kV19 dc19 pm19 cd19 ct19 : Value}
    {f20 : Addr}
    {od20 an20 : Option Addr}
    {sl20 : Array (Option Value)}
    {oc20 kV20 dc20 pm20 cd20 ct20 : Value}
    {f21 : Addr}
    {od21 an21 : Option Addr}
    {sl21 : Array (Option Value)}
    {oc21 kV21 dc21 pm21 cd21 ct21 : Value}
    {f22 : Addr}
    {od22 an22 : Option Addr}
    {sl22 : Array (Option Value)}
    {oc22 kV22 dc22 pm22 cd22 ct22 : Value}
    {f23 : Addr}
    {od23 an23 : Option Addr}
    {sl23 : Array (Option Value)}
    {oc23 kV23 dc23 pm23 cd23 ct23 : Value}
    {f24 : Addr}
    {od24 an24 : Option Addr}
    {sl24 : Array (Option Value)}
    {oc24 kV24 dc24 pm24 cd24 ct24 : Value}
    {f25 : Addr}
    {od25 an25 : Option Addr}
    {sl25 : Array (Option Value)}
    {oc25 kV25 dc25 pm25 cd25 ct25 : Value}
    {f26 : Addr}
    {od26 an26 : Option Addr}
    {sl26 : Array (Option Value)}
    {oc26 kV26 dc26 pm26 cd26 ct26 : Value}
    {f27 : Addr}
    {od27 an27 : Option Addr}
    {sl27 : Array (Option Value)}
    {oc27 kV27 dc27 pm27 cd27 ct27 : Value}
    {f28 : Addr}
    {od28 an28 : Option Addr}
    {sl28 : Array (Option Value)}
    {oc28 kV28 dc28 pm28 cd28 ct28 : Value}
    {f29 : Addr}
    {od29 an29 : Option Addr}
    {sl29 : Array (Option Value)}
    {oc29 kV29 dc29 pm29 cd29 ct29 : Value}
    {sL : Str}
    {tL : Tok}
    {sU : Str}
    {tU : Tok}
    {tX2 : Tok}
    {sV : Str}
    {tV : Tok}
    {XG feG ccG cdaG NG : Addr}
    {nmG qnG fileG : Str}
    {bsG bmG sbG : List Value}
    {snG : List Str}
    {abG : Bool}
    {coG : Option Bool}
    {ddG odG anG cdG ceG : Option Addr}
    {m0G m1G m2G m3G m5G : Option Value}
    {vsG : Array Value}
    {tfG : Tok}
    {slG csG czG : Array (Option Value)}
    {ocG kVG dcG pmG ctG clG cxG : Value}
    {XP feP ccP cdaP NP : Addr}
    {nmP qnP fileP : Str}
    {bsP bmP sbP : List Value}
    {snP : List Str}
    {abP : Bool}
    {coP : Option Bool}
    {ddP odP anP cdP ceP : Option Addr}
    {m0P m1P m2P m3P m5P : Option Value}
    {vsP : Array Value}
    {tfP : Tok}
    {slP csP czP : Array (Option Value)}
    {ocP kVP dcP pmP ctP clP cxP : Value}
    {XF feF ccF cdaF NF : Addr}
    {nmF qnF fileF : Str}
    {bsF bmF sbF : List Value}
    {snF : List Str}
    {abF : Bool}
    {coF : Option Bool}
    {ddF odF anF cdF ceF : Option Addr}
    {m0F m1F m2F m3F m5F : Option Value}
    {vsF : Array Value}
    {tfF : Tok}
    {slF csF czF : Array (Option Value)}
    {ocF kVF dcF pmF ctF clF cxF : Value}
    {XQ feQ ccQ cdaQ NQ : Addr}
    {nmQ qnQ fileQ : Str}
    {bsQ bmQ sbQ : List Value}
    {snQ : List Str}
    {abQ : Bool}
    {coQ : Option Bool}
    {ddQ odQ anQ cdQ ceQ : Option Addr}
    {m0Q m1Q m2Q m3Q m5Q : Option Value}
    {vsQ : Array Value}
    {tfQ : Tok}
    {slQ csQ czQ : Array (Option Value)}
    {ocQ kVQ dcQ pmQ ctQ clQ cxQ : Value}
    {XN feN ccN cdaN NN : Addr}
    {nmN qnN fileN : Str}
    {bsN bmN sbN : List Value}
    {snN : List Str}
    {abN : Bool}
    {coN : Option Bool}
    {ddN odN anN cdN ceN : Option Addr}
    {m0N m1N m2N m3N m5N : Option Value}
    {vsN : Array Value}
    {tfN : Tok}
    {slN csN czN : Array (Option Value)}
    {ocN kVN dcN pmN ctN clN cxN : Value}
    {XB feB ccB cdaB NB : Addr}
    {nmB qnB fileB : Str}
    {bsB bmB sbB : List Value}
    {snB : List Str}
    {abB : Bool}
    {coB : Option Bool}
    {ddB odB anB cdB ceB : Option Addr}
    {m0B m1B m2B m3B m5B : Option Value}
    {vsB : Array Value}
    {tfB : Tok}
    {slB csB czB : Array (Option Value)}
    {ocB kVB dcB pmB ctB clB cxB : Value}
    {XC : Addr}
    {PR : Addr}
    {BO : Addr}
    {RE : Addr}
    {TD de DB TZ TP TRD TWR : Addr}
    {dtD dtE dtZ dtPP dtRD dtWR : Option Addr}
    {itsD itsE itsZ itsPP itsRD itsWR : Array Value}
    {ntD ntE ntZ ntPP ntRD ntWR : Nat}
    {sqD sqE sqZ sqPP sqRD sqWR : Array (Option Value)}
    {tcD : Value}
    {fRI : Addr}
    {odRI anRI : Option Addr}
    {slRI : Array (Option Value)}
    {ocRI kVRI dcRI pmRI cdRI ctRI : Value}
    {fRL : Addr}
    {odRL anRL : Option Addr}
    {slRL : Array (Option Value)}
    {ocRL kVRL dcRL pmRL cdRL ctRL : Value}
    {fRT : Addr}
    {odRT anRT : Option Addr}
    {slRT : Array (Option Value)}
    {ocRT kVRT dcRT pmRT cdRT ctRT : Value}
    {fKI : Addr}
    {odKI anKI : Option Addr}
    {slKI : Array (Option Value)}
    {ocKI dcKI pmKI cdKI ctKI : Value}
    {fKF : Addr}
    {odKF anKF : Option Addr}
    {slKF : Array (Option Value)}
    {ocKF kVKF dcKF pmKF cdKF ctKF : Value}
    {fKE : Addr}
    {odKE anKE : Option Addr}
    {slKE : Array (Option Value)}
    {ocKE kVKE dcKE pmKE cdKE ctKE : Value}
    {fEI : Addr}
    {odEI anEI : Option Addr}
    {slEI : Array (Option Value)}
    {ocEI kVEI dcEI pmEI cdEI ctEI : Value}
    {fET : Addr}
    {odET anET : Option Addr}
    {slET : Array (Option Value)}
    {ocET kVET dcET pmET cdET ctET : Value}
    {fEG : Addr}
    {odEG anEG : Option Addr}
    {slEG : Array (Option Value)}
    {ocEG kVEG dcEG pmEG cdEG ctEG : Value}
    {fES : Addr}
    {odES anES : Option Addr}
    {slES : Array (Option Value)}
    {ocES kVES dcES pmES cdES ctES : Value}
    {R0 R1 R2 R3 R4 R5 R6 R7 R8 R9 R10 R11 R12 R13 R14 R15 R16 R17 R18 R19 R20 R21 R22 R23 R24 R25 R26 : Addr}
    {dtr0 dtr1 dtr2 dtr3 dtr4 dtr5 dtr6 dtr7 dtr8 dtr9 dtr10 dtr11 dtr12 dtr13 dtr14 dtr15 dtr16 dtr17 dtr18 dtr19 dtr20 dtr21 dtr22 dtr23 dtr24 dtr25 dtr26 : Option Addr}
    {itr0 itr1 itr2 itr3 itr4 itr5 itr6 itr7 itr8 itr9 itr10 itr11 itr12 itr13 itr14 itr15 itr16 itr17 itr18 itr19 itr20 itr21 itr22 itr23 itr24 itr25 itr26 : Array Value}
    {ntr0 ntr1 ntr2 ntr3 ntr4 ntr5 ntr6 ntr7 ntr8 ntr9 ntr10 ntr11 ntr12 ntr13 ntr14 ntr15 ntr16 ntr17 ntr18 ntr19 ntr20 ntr21 ntr22 ntr23 ntr24 ntr25 ntr26 : Nat}
    {sqr0 sqr1 sqr2 sqr3 sqr4 sqr5 sqr6 sqr7 sqr8 sqr9 sqr10 sqr11 sqr12 sqr13 sqr14 sqr15 sqr16 sqr17 sqr18 sqr19 sqr20 sqr21 sqr22 sqr23 sqr24 sqr25 sqr26 : Array (Option Value)}
    (a0 : PySem.W.nsIn K mainGlobals "is_name" = some (some (.ref f0)))
    (l0 : K.lookup f0 = some ⟨oc0, od0, .func (PySem.W.fnOf "is_name" "is_name" (defArgs s_is_name) (defBody s_is_name) (defScope s_is_name) .none kV0 dc0 pm0 an0 cd0 ct0), sl0⟩)
    (c0 : PySem.W.codeIn K cd0 "is_name" = true)
    (k0 : PySem.W.keepIn K (.ref f0) = true)
    (a1 : PySem.W.nsIn K mainGlobals "is_fence_name" = some (some (.ref f1)))
    (l1 : K.lookup f1 = some ⟨oc1, od1, .func (PySem.W.fnOf "is_fence_name" "is_fence_name" (defArgs s_is_fence_name) (defBody s_is_fence_name) (defScope s_is_fence_name) .none kV1 dc1 pm1 an1 cd1 ct1), sl1⟩)
    (c1 : PySem.W.codeIn K cd1 "is_fence_name" = true)
    (k1 : PySem.W.keepIn K (.ref f1) = true)
    (a2 : PySem.W.nsIn K mainGlobals "is_row" = some (some (.ref f2)))
    (l2 : K.lookup f2 = some ⟨oc2, od2, .func (PySem.W.fnOf "is_row" "is_row" (defArgs s_is_row) (defBody s_is_row) (defScope s_is_row) .none kV2 dc2 pm2 an2 cd2 ct2), sl2⟩)
    (c2 : PySem.W.codeIn K cd2 "is_row" = true)
    (k2 : PySem.W.keepIn K (.ref f2) = true)
    (a3 : PySem.W.nsIn K mainGlobals "group_of" = some (some (.ref f3)))
    (l3 : K.lookup f3 = some ⟨oc3, od3, .func (PySem.W.fnOf "group_of" "group_of" (defArgs s_group_of) (defBody s_group_of) (defScope s_group_of) .none kV3 dc3 pm3 an3 cd3 ct3), sl3⟩)
    (c3 : PySem.W.codeIn K cd3 "group_of" = true)
    (k3 : PySem.W.keepIn K (.ref f3) = true)
    (a4 : PySem.W.nsIn K mainGlobals "kind_of" = some (some (.ref f4)))
    (l4 : K.lookup f4 = some ⟨oc4, od4, .func (PySem.W.fnOf "kind_of" "kind_of" (defArgs s_kind_of) (defBody s_kind_of) (defScope s_kind_of) .none kV4 dc4 pm4 an4 cd4 ct4), sl4⟩)
    (c4 : PySem.W.codeIn K cd4 "kind_of" = true)
    (k4 : PySem.W.keepIn K (.ref f4) = true)
    (a5 : PySem.W.nsIn K mainGlobals "tidy" = some (some (.ref f5)))
    (l5 : K.lookup f5 = some ⟨oc5, od5, .func (PySem.W.fnOf "tidy" "tidy" (defArgs s_tidy) (defBody s_tidy) (defScope s_tidy) .none kV5 dc5 pm5 an5 cd5 ct5), sl5⟩)
    (c5 : PySem.W.codeIn K cd5 "tidy" = true)
    (k5 : PySem.W.keepIn K (.ref f5) = true)
    (a6 : PySem.W.nsIn K mainGlobals "tidy_row" = some (some (.ref f6)))
    (l6 : K.lookup f6 = some ⟨oc6, od6, .func (PySem.W.fnOf "tidy_row" "tidy_row" (defArgs s_tidy_row) (defBody s_tidy_row) (defScope s_tidy_row) .none kV6 dc6 pm6 an6 cd6 ct6), sl6⟩)
    (c6 : PySem.W.codeIn K cd6 "tidy_row" = true)
    (k6 : PySem.W.keepIn K (.ref f6) = true)
    (a7 : PySem.W.nsIn K mainGlobals "_law_great" = some (some (.ref f7)))
    (l7 : K.lookup f7 = some ⟨oc7, od7, .func (PySem.W.fnOf "_law_great" "_law_great" (defArgs s_law_great) (defBody s_law_great) (defScope s_law_great) .none kV7 dc7 pm7 an7 cd7 ct7), sl7⟩)
    (c7 : PySem.W.codeIn K cd7 "_law_great" = true)
    (k7 : PySem.W.keepIn K (.ref f7) = true)
    (a8 : PySem.W.nsIn K mainGlobals "_law_draw" = some (some (.ref f8)))
    (l8 : K.lookup f8 = some ⟨oc8, od8, .func (PySem.W.fnOf "_law_draw" "_law_draw" (defArgs s_law_draw) (defBody s_law_draw) (defScope s_law_draw) .none kV8 dc8 pm8 an8 cd8 ct8), sl8⟩)
    (c8 : PySem.W.codeIn K cd8 "_law_draw" = true)
    (k8 : PySem.W.keepIn K (.ref f8) = true)
    (a9 : PySem.W.nsIn K mainGlobals "_law_pairs" = some (some (.ref f9)))
    (l9 : K.lookup f9 = some ⟨oc9, od9, .func (PySem.W.fnOf "_law_pairs" "_law_pairs" (defArgs s_law_pairs) (defBody s_law_pairs) (defScope s_law_pairs) .none kV9 dc9 pm9 an9 cd9 ct9), sl9⟩)
    (c9 : PySem.W.codeIn K cd9 "_law_pairs" = true)
    (k9 : PySem.W.keepIn K (.ref f9) = true)
    (a10 : PySem.W.nsIn K mainGlobals "_law_usual" = some (some (.ref f10)))
    (l10 : K.lookup f10 = some ⟨oc10, od10, .func (PySem.W.fnOf "_law_usual" "_law_usual" (defArgs s_law_usual) (defBody s_law_usual) (defScope s_law_usual) .none kV10 dc10 pm10 an10 cd10 ct10), sl10⟩)
    (c10 : PySem.W.codeIn K cd10 "_law_usual" = true)
    (k10 : PySem.W.keepIn K (.ref f10) = true)
    (a11 : PySem.W.nsIn K mainGlobals "_law_set" = some (some (.ref f11)))
    (l11 : K.lookup f11 = some ⟨oc11, od11, .func (PySem.W.fnOf "_law_set" "_law_set" (defArgs s_law_set) (defBody s_law_set) (defScope s_law_set) .none kV11 dc11 pm11 an11 cd11 ct11), sl11⟩)
    (c11 : PySem.W.codeIn K cd11 "_law_set" = true)
    (k11 : PySem.W.keepIn K (.ref f11) = true)
    (a12 : PySem.W.nsIn K mainGlobals "_law_name" = some (some (.ref f12)))
    (l12 : K.lookup f12 = some ⟨oc12, od12, .func (PySem.W.fnOf "_law_name" "_law_name" (defArgs s_law_name) (defBody s_law_name) (defScope s_law_name) .none kV12 dc12 pm12 an12 cd12 ct12), sl12⟩)
    (c12 : PySem.W.codeIn K cd12 "_law_name" = true)
    (k12 : PySem.W.keepIn K (.ref f12) = true)
    (a13 : PySem.W.nsIn K mainGlobals "_law_book" = some (some (.ref f13)))
    (l13 : K.lookup f13 = some ⟨oc13, od13, .func (PySem.W.fnOf "_law_book" "_law_book" (defArgs s_law_book) (defBody s_law_book) (defScope s_law_book) .none kV13 dc13 pm13 an13 cd13 ct13), sl13⟩)
    (c13 : PySem.W.codeIn K cd13 "_law_book" = true)
    (k13 : PySem.W.keepIn K (.ref f13) = true)
    (a14 : PySem.W.nsIn K mainGlobals "_law_table" = some (some (.ref f14)))
    (l14 : K.lookup f14 = some ⟨oc14, od14, .func (PySem.W.fnOf "_law_table" "_law_table" (defArgs s_law_table) (defBody s_law_table) (defScope s_law_table) .none kV14 dc14 pm14 an14 cd14 ct14), sl14⟩)
    (c14 : PySem.W.codeIn K cd14 "_law_table" = true)
    (k14 : PySem.W.keepIn K (.ref f14) = true)
    (a15 : PySem.W.nsIn K mainGlobals "_law_goal" = some (some (.ref f15)))
    (l15 : K.lookup f15 = some ⟨oc15, od15, .func (PySem.W.fnOf "_law_goal" "_law_goal" (defArgs s_law_goal) (defBody s_law_goal) (defScope s_law_goal) .none kV15 dc15 pm15 an15 cd15 ct15), sl15⟩)
    (c15 : PySem.W.codeIn K cd15 "_law_goal" = true)
    (k15 : PySem.W.keepIn K (.ref f15) = true)
    (a16 : PySem.W.nsIn K mainGlobals "_law_names" = some (some (.ref f16)))
    (l16 : K.lookup f16 = some ⟨oc16, od16, .func (PySem.W.fnOf "_law_names" "_law_names" (defArgs s_law_names) (defBody s_law_names) (defScope s_law_names) .none kV16 dc16 pm16 an16 cd16 ct16), sl16⟩)
    (c16 : PySem.W.codeIn K cd16 "_law_names" = true)
    (k16 : PySem.W.keepIn K (.ref f16) = true)
    (a17 : PySem.W.nsIn K mainGlobals "_law_plain" = some (some (.ref f17)))
    (l17 : K.lookup f17 = some ⟨oc17, od17, .func (PySem.W.fnOf "_law_plain" "_law_plain" (defArgs s_law_plain) (defBody s_law_plain) (defScope s_law_plain) .none kV17 dc17 pm17 an17 cd17 ct17), sl17⟩)
    (c17 : PySem.W.codeIn K cd17 "_law_plain" = true)
    (k17 : PySem.W.keepIn K (.ref f17) = true)
    (a18 : PySem.W.nsIn K mainGlobals "_law_some" = some (some (.ref f18)))
    (l18 : K.lookup f18 = some ⟨oc18, od18, .func (PySem.W.fnOf "_law_some" "_law_some" (defArgs s_law_some) (defBody s_law_some) (defScope s_law_some) .none kV18 dc18 pm18 an18 cd18 ct18), sl18⟩)
    (c18 : PySem.W.codeIn K cd18 "_law_some" = true)
    (k18 : PySem.W.keepIn K (.ref f18) = true)
    (a19 : PySem.W.nsIn K mainGlobals "_law_loose" = some (some (.ref f19)))
    (l19 : K.lookup f19 = some ⟨oc19, od19, .func (PySem.W.fnOf "_law_loose" "_law_loose" (defArgs s_law_loose) (defBody s_law_loose) (defScope s_law_loose) .none kV19 dc19 pm19 an19 cd19 ct19), sl19⟩)
    (c19 : PySem.W.codeIn K cd19 "_law_loose" = true)
    (k19 : PySem.W.keepIn K (.ref f19) = true)
    (a20 : PySem.W.nsIn K mainGlobals "_law_normal" = some (some (.ref f20)))
    (l20 : K.lookup f20 = some ⟨oc20, od20, .func (PySem.W.fnOf "_law_normal" "_law_normal" (defArgs s_law_normal) (defBody s_law_normal) (defScope s_law_normal) .none kV20 dc20 pm20 an20 cd20 ct20), sl20⟩)
    (c20 : PySem.W.codeIn K cd20 "_law_normal" = true)
    (k20 : PySem.W.keepIn K (.ref f20) = true)
    (a21 : PySem.W.nsIn K mainGlobals "_law_holds" = some (some (.ref f21)))
    (l21 : K.lookup f21 = some ⟨oc21, od21, .func (PySem.W.fnOf "_law_holds" "_law_holds" (defArgs s_law_holds) (defBody s_law_holds) (defScope s_law_holds) .none kV21 dc21 pm21 an21 cd21 ct21), sl21⟩)
    (c21 : PySem.W.codeIn K cd21 "_law_holds" = true)
    (k21 : PySem.W.keepIn K (.ref f21) = true)
    (a22 : PySem.W.nsIn K mainGlobals "_law_fields" = some (some (.ref f22)))
    (l22 : K.lookup f22 = some ⟨oc22, od22, .func (PySem.W.fnOf "_law_fields" "_law_fields" (defArgs s_law_fields) (defBody s_law_fields) (defScope s_law_fields) .none kV22 dc22 pm22 an22 cd22 ct22), sl22⟩)
    (c22 : PySem.W.codeIn K cd22 "_law_fields" = true)
    (k22 : PySem.W.keepIn K (.ref f22) = true)
    (a23 : PySem.W.nsIn K mainGlobals "_law_bad_row" = some (some (.ref f23)))
    (l23 : K.lookup f23 = some ⟨oc23, od23, .func (PySem.W.fnOf "_law_bad_row" "_law_bad_row" (defArgs s_law_bad_row) (defBody s_law_bad_row) (defScope s_law_bad_row) .none kV23 dc23 pm23 an23 cd23 ct23), sl23⟩)
    (c23 : PySem.W.codeIn K cd23 "_law_bad_row" = true)
    (k23 : PySem.W.keepIn K (.ref f23) = true)
    (a24 : PySem.W.nsIn K mainGlobals "_law_stray" = some (some (.ref f24)))
    (l24 : K.lookup f24 = some ⟨oc24, od24, .func (PySem.W.fnOf "_law_stray" "_law_stray" (defArgs s_law_stray) (defBody s_law_stray) (defScope s_law_stray) .none kV24 dc24 pm24 an24 cd24 ct24), sl24⟩)
    (c24 : PySem.W.codeIn K cd24 "_law_stray" = true)
    (k24 : PySem.W.keepIn K (.ref f24) = true)
    (a25 : PySem.W.nsIn K mainGlobals "_law_unknown" = some (some (.ref f25)))
    (l25 : K.lookup f25 = some ⟨oc25, od25, .func (PySem.W.fnOf "_law_unknown" "_law_unknown" (defArgs s_law_unknown) (defBody s_law_unknown) (defScope s_law_unknown) .none kV25 dc25 pm25 an25 cd25 ct25), sl25⟩)
    (c25 : PySem.W.codeIn K cd25 "_law_unknown" = true)
    (k25 : PySem.W.keepIn K (.ref f25) = true)
    (a26 : PySem.W.nsIn K mainGlobals "_law_set_refusal" = some (some (.ref f26)))
    (l26 : K.lookup f26 = some ⟨oc26, od26, .func (PySem.W.fnOf "_law_set_refusal" "_law_set_refusal" (defArgs s_law_set_refusal) (defBody s_law_set_refusal) (defScope s_law_set_refusal) .none kV26 dc26 pm26 an26 cd26 ct26), sl26⟩)
    (c26 : PySem.W.codeIn K cd26 "_law_set_refusal" = true)
    (k26 : PySem.W.keepIn K (.ref f26) = true)
    (a27 : PySem.W.nsIn K mainGlobals "_law_look_refusal" = some (some (.ref f27)))
    (l27 : K.lookup f27 = some ⟨oc27, od27, .func (PySem.W.fnOf "_law_look_refusal" "_law_look_refusal" (defArgs s_law_look_refusal) (defBody s_law_look_refusal) (defScope s_law_look_refusal) .none kV27 dc27 pm27 an27 cd27 ct27), sl27⟩)
    (c27 : PySem.W.codeIn K cd27 "_law_look_refusal" = true)
    (k27 : PySem.W.keepIn K (.ref f27) = true)
    (a28 : PySem.W.nsIn K mainGlobals "_law_three_refused" = some (some (.ref f28)))
    (l28 : K.lookup f28 = some ⟨oc28, od28, .func (PySem.W.fnOf "_law_three_refused" "_law_three_refused" (defArgs s_law_three_refused) (defBody s_law_three_refused) (defScope s_law_three_refused) .none kV28 dc28 pm28 an28 cd28 ct28), sl28⟩)
    (c28 : PySem.W.codeIn K cd28 "_law_three_refused" = true)
    (k28 : PySem.W.keepIn K (.ref f28) = true)
    (a29 : PySem.W.nsIn K mainGlobals "law" = some (some (.ref f29)))
    (l29 : K.lookup f29 = some ⟨oc29, od29, .func (PySem.W.fnOf "law" "law" (defArgs s_law) (defBody s_law) (defScope s_law) .none kV29 dc29 pm29 an29 cd29 ct29), sl29⟩)
    (c29 : PySem.W.codeIn K cd29 "law" = true)
    (k29 : PySem.W.keepIn K (.ref f29) = true)
    (z_isinstance : PySem.W.nsIn K mainGlobals "isinstance" = some none)
    (z_str : PySem.W.nsIn K mainGlobals "str" = some none)
    (z_len : PySem.W.nsIn K mainGlobals "len" = some none)
    (z_all : PySem.W.nsIn K mainGlobals "all" = some none)
    (z_any : PySem.W.nsIn K mainGlobals "any" = some none)
    (z_dict : PySem.W.nsIn K mainGlobals "dict" = some none)
    (z_sorted : PySem.W.nsIn K mainGlobals "sorted" = some none)
    (z_iter : PySem.W.nsIn K mainGlobals "iter" = some none)
    (z_int : PySem.W.nsIn K mainGlobals "int" = some none)
    (z_range : PySem.W.nsIn K mainGlobals "range" = some none)
    (z_list : PySem.W.nsIn K mainGlobals "list" = some none)
    (z_tuple : PySem.W.nsIn K mainGlobals "tuple" = some none)
    (z_set : PySem.W.nsIn K mainGlobals "set" = some none)
    (z_ValueError : PySem.W.nsIn K mainGlobals "ValueError" = some none)
    (z_super : PySem.W.nsIn K mainGlobals "super" = some none)
    (gL : PySem.W.nsIn K mainGlobals "LETTERS" = some (some (.str sL tL)))
    (eL : sL = lets)
    (gU : PySem.W.nsIn K mainGlobals "FULL" = some (some (.str sU tU)))
    (eU : sU = ("full" : Str))
    (gX2 : PySem.W.nsIn K mainGlobals "MOST_FENCES" = some (some (.int 2 tX2)))
    (gV : PySem.W.nsIn K mainGlobals "RETURN" = some (some (.str sV tV)))
    (eV : sV = ("return" : Str))
    (aG : PySem.W.nsIn K mainGlobals "TooLarge" = some (some (.ref XG)))
    (xG : K.lookup XG = some (excClassObj nmG qnG XG NG bsG bmG true snG sbG abG coG ddG m0G m1G m2G m3G m5G "ValueError.__new__"))
    (rG : PySem.HandSPX.refsVE bmG = true)
    (b1G : PySem.W.findIn K (.ref XG) "__setattr__" = some (some (.builtin "object.__setattr__")))
    (q1G : PySem.W.subIn K (.ref XG) (.type "BaseException") = some true)
    (q2G : PySem.W.isClsIn K XG = true)
    (q3G : PySem.W.typeIn K (.ref XG) = some (.type "type"))
    (b4G : PySem.W.keepIn K (.ref XG) = true)
    (b5G : PySem.W.findIn K (.ref XG) "__init__" = some (some (.ref feG)))
    (b6G : PySem.W.typeIn K (.ref feG) = some (.type "function"))
    (lG : K.lookup feG = some ⟨ocG, odG, .func (PySem.W.fnX "__init__" "TooLarge.__init__" (defArgs s_TooLarge_init) (defBody s_TooLarge_init) (defScope s_TooLarge_init) [("__class__", ccG)] .none kVG dcG pmG anG (.ref cdaG) ctG), slG⟩)
    (cG : PySem.W.codeIn K (.ref cdaG) "TooLarge.__init__" = true)
    (kG : PySem.W.keepIn K (.ref feG) = true)
    (eG : K.lookup ccG = some ⟨clG, cdG, .cell (some (.ref XG)), csG⟩)
    (b7G : PySem.W.ks_superIn K XG XG "__init__" = some (some (.builtin "ValueError.__init__")))
    (b8G : PySem.W.subIn K (.ref XG) (.type "ValueError") = some true)
    (b9 : PySem.W.nsIn K cStatics "thirdparty.any" = some none)
    (b14 : (l.prog.main.scope.names.lookup ("super" : Str)).isSome = false)
    (b31 : PySem.W.kitMeta "ValueError" = true)
    (p12 : PySem.W.specialIn K (.builtin "object.__class__") "__get__" = some (some (.builtin "getset_descriptor.__get__")))
    (p13 : PySem.W.takesIn K (.builtin "object.__class__") = some true)
    (b10G : PySem.W.mroIn K XG (.ref XG) = some true)
    (b11G : K.lookup cdaG = some ⟨cxG, ceG, .fields vsG, czG⟩)
    (b12G : vsG[2]? = some (.str fileG tfG))
    (b13G : ((l.prog.main.file : Str) == fileG) = true)
    (b15G : PySem.W.findIn K (.ref XG) "bound" = some none)
    (b17G : PySem.W.findIn K (.ref XG) "__getattribute__" = some (some (.builtin "BaseException.__getattribute__")))
    (b18G : PySem.W.findIn K (.ref XG) "__getattr__" = some none)
    (b19G : PySem.W.hasDictIn K XG = true)
    (b25G : PySem.W.findIn K (.ref XG) "__class__" = some (some (.builtin "object.__class__")))
    (b26G : PySem.W.mroIn K XG (.type "object") = some true)
    (aP : PySem.W.nsIn K mainGlobals "BadPair" = some (some (.ref XP)))
    (xP : K.lookup XP = some (excClassObj nmP qnP XP NP bsP bmP true snP sbP abP coP ddP m0P m1P m2P m3P m5P "ValueError.__new__"))
    (rP : PySem.HandSPX.refsVE bmP = true)
    (b1P : PySem.W.findIn K (.ref XP) "__setattr__" = some (some (.builtin "object.__setattr__")))
    (q1P : PySem.W.subIn K (.ref XP) (.type "BaseException") = some true)
    (q2P : PySem.W.isClsIn K XP = true)
    (q3P : PySem.W.typeIn K (.ref XP) = some (.type "type"))
    (b4P : PySem.W.keepIn K (.ref XP) = true)
    (b5P : PySem.W.findIn K (.ref XP) "__init__" = some (some (.ref feP)))
    (b6P : PySem.W.typeIn K (.ref feP) = some (.type "function"))
    (lP : K.lookup feP = some ⟨ocP, odP, .func (PySem.W.fnX "__init__" "BadPair.__init__" (defArgs s_BadPair_init) (defBody s_BadPair_init) (defScope s_BadPair_init) [("__class__", ccP)] .none kVP dcP pmP anP (.ref cdaP) ctP), slP⟩)
    (cP : PySem.W.codeIn K (.ref cdaP) "BadPair.__init__" = true)
    (kP : PySem.W.keepIn K (.ref feP) = true)
    (eP : K.lookup ccP = some ⟨clP, cdP, .cell (some (.ref XP)), csP⟩)
    (b7P : PySem.W.ks_superIn K XP XP "__init__" = some (some (.builtin "ValueError.__init__")))
    (b8P : PySem.W.subIn K (.ref XP) (.type "ValueError") = some true)
    (b10P : PySem.W.mroIn K XP (.ref XP) = some true)
    (b11P : K.lookup cdaP = some ⟨cxP, ceP, .fields vsP, czP⟩)
    (b12P : vsP[2]? = some (.str fileP tfP))
    (b13P : ((l.prog.main.file : Str) == fileP) = true)
    (b15P : PySem.W.findIn K (.ref XP) "pair" = some none)
    (b17P : PySem.W.findIn K (.ref XP) "__getattribute__" = some (some (.builtin "BaseException.__getattribute__")))
    (b18P : PySem.W.findIn K (.ref XP) "__getattr__" = some none)
    (b19P : PySem.W.hasDictIn K XP = true)
    (b25P : PySem.W.findIn K (.ref XP) "__class__" = some (some (.builtin "object.__class__")))
    (b26P : PySem.W.mroIn K XP (.type "object") = some true)
    (aF : PySem.W.nsIn K mainGlobals "BadFence" = some (some (.ref XF)))
    (xF : K.lookup XF = some (excClassObj nmF qnF XF NF bsF bmF true snF sbF abF coF ddF m0F m1F m2F m3F m5F "ValueError.__new__"))
    (rF : PySem.HandSPX.refsVE bmF = true)
    (b1F : PySem.W.findIn K (.ref XF) "__setattr__" = some (some (.builtin "object.__setattr__")))
    (q1F : PySem.W.subIn K (.ref XF) (.type "BaseException") = some true)
    (q2F : PySem.W.isClsIn K XF = true)
    (q3F : PySem.W.typeIn K (.ref XF) = some (.type "type"))
    (b4F : PySem.W.keepIn K (.ref XF) = true)
    (b5F : PySem.W.findIn K (.ref XF) "__init__" = some (some (.ref feF)))
    (b6F : PySem.W.typeIn K (.ref feF) = some (.type "function"))
    (lF : K.lookup feF = some ⟨ocF, odF, .func (PySem.W.fnX "__init__" "BadFence.__init__" (defArgs s_BadFence_init) (defBody s_BadFence_init) (defScope s_BadFence_init) [("__class__", ccF)] .none kVF dcF pmF anF (.ref cdaF) ctF), slF⟩)
    (cF : PySem.W.codeIn K (.ref cdaF) "BadFence.__init__" = true)
    (kF : PySem.W.keepIn K (.ref feF) = true)
    (eF : K.lookup ccF = some ⟨clF, cdF, .cell (some (.ref XF)), csF⟩)
    (b7F : PySem.W.ks_superIn K XF XF "__init__" = some (some (.builtin "ValueError.__init__")))
    (b8F : PySem.W.subIn K (.ref XF) (.type "ValueError") = some true)
    (b10F : PySem.W.mroIn K XF (.ref XF) = some true)
    (b11F : K.lookup cdaF = some ⟨cxF, ceF, .fields vsF, czF⟩)
    (b12F : vsF[2]? = some (.str fileF tfF))
    (b13F : ((l.prog.main.file : Str) == fileF) = true)
    (b15F : PySem.W.findIn K (.ref XF) "name" = some none)
    (b17F : PySem.W.findIn K (.ref XF) "__getattribute__" = some (some (.builtin "BaseException.__getattribute__")))
    (b18F : PySem.W.findIn K (.ref XF) "__getattr__" = some none)
    (b19F : PySem.W.hasDictIn K XF = true)
    (b25F : PySem.W.findIn K (.ref XF) "__class__" = some (some (.builtin "object.__class__")))
    (b26F : PySem.W.mroIn K XF (.type "object") = some true)
    (aQ : PySem.W.nsIn K mainGlobals "NoFence" = some (some (.ref XQ)))
    (xQ : K.lookup XQ = some (excClassObj nmQ qnQ XQ NQ bsQ bmQ true snQ sbQ abQ coQ ddQ m0Q m1Q m2Q m3Q m5Q "ValueError.__new__"))
    (rQ : PySem.HandSPX.refsVE bmQ = true)
    (b1Q : PySem.W.findIn K (.ref XQ) "__setattr__" = some (some (.builtin "object.__setattr__")))
    (q1Q : PySem.W.subIn K (.ref XQ) (.type "BaseException") = some true)
    (q2Q : PySem.W.isClsIn K XQ = true)
    (q3Q : PySem.W.typeIn K (.ref XQ) = some (.type "type"))
    (b4Q : PySem.W.keepIn K (.ref XQ) = true)
    (b5Q : PySem.W.findIn K (.ref XQ) "__init__" = some (some (.ref feQ)))
    (b6Q : PySem.W.typeIn K (.ref feQ) = some (.type "function"))
    (lQ : K.lookup feQ = some ⟨ocQ, odQ, .func (PySem.W.fnX "__init__" "NoFence.__init__" (defArgs s_NoFence_init) (defBody s_NoFence_init) (defScope s_NoFence_init) [("__class__", ccQ)] .none kVQ dcQ pmQ anQ (.ref cdaQ) ctQ), slQ⟩)
    (cQ : PySem.W.codeIn K (.ref cdaQ) "NoFence.__init__" = true)
    (kQ : PySem.W.keepIn K (.ref feQ) = true)
    (eQ : K.lookup ccQ = some ⟨clQ, cdQ, .cell (some (.ref XQ)), csQ⟩)
    (b7Q : PySem.W.ks_superIn K XQ XQ "__init__" = some (some (.builtin "ValueError.__init__")))
    (b8Q : PySem.W.subIn K (.ref XQ) (.type "ValueError") = some true)
    (b10Q : PySem.W.mroIn K XQ (.ref XQ) = some true)
    (b11Q : K.lookup cdaQ = some ⟨cxQ, ceQ, .fields vsQ, czQ⟩)
    (b12Q : vsQ[2]? = some (.str fileQ tfQ))
    (b13Q : ((l.prog.main.file : Str) == fileQ) = true)
    (b15Q : PySem.W.findIn K (.ref XQ) "name" = some none)
    (b17Q : PySem.W.findIn K (.ref XQ) "__getattribute__" = some (some (.builtin "BaseException.__getattribute__")))
    (b18Q : PySem.W.findIn K (.ref XQ) "__getattr__" = some none)
    (b19Q : PySem.W.hasDictIn K XQ = true)
    (b25Q : PySem.W.findIn K (.ref XQ) "__class__" = some (some (.builtin "object.__class__")))
    (b26Q : PySem.W.mroIn K XQ (.type "object") = some true)
    (aN : PySem.W.nsIn K mainGlobals "NoRow" = some (some (.ref XN)))
    (xN : K.lookup XN = some (excClassObj nmN qnN XN NN bsN bmN true snN sbN abN coN ddN m0N m1N m2N m3N m5N "ValueError.__new__"))
    (rN : PySem.HandSPX.refsVE bmN = true)
    (b1N : PySem.W.findIn K (.ref XN) "__setattr__" = some (some (.builtin "object.__setattr__")))
    (q1N : PySem.W.subIn K (.ref XN) (.type "BaseException") = some true)
    (q2N : PySem.W.isClsIn K XN = true)
    (q3N : PySem.W.typeIn K (.ref XN) = some (.type "type"))
    (b4N : PySem.W.keepIn K (.ref XN) = true)
    (b5N : PySem.W.findIn K (.ref XN) "__init__" = some (some (.ref feN)))
    (b6N : PySem.W.typeIn K (.ref feN) = some (.type "function"))
    (lN : K.lookup feN = some ⟨ocN, odN, .func (PySem.W.fnX "__init__" "NoRow.__init__" (defArgs s_NoRow_init) (defBody s_NoRow_init) (defScope s_NoRow_init) [("__class__", ccN)] .none kVN dcN pmN anN (.ref cdaN) ctN), slN⟩)
    (cN : PySem.W.codeIn K (.ref cdaN) "NoRow.__init__" = true)
    (kN : PySem.W.keepIn K (.ref feN) = true)
    (eN : K.lookup ccN = some ⟨clN, cdN, .cell (some (.ref XN)), csN⟩)
    (b7N : PySem.W.ks_superIn K XN XN "__init__" = some (some (.builtin "ValueError.__init__")))
    (b8N : PySem.W.subIn K (.ref XN) (.type "ValueError") = some true)
    (b10N : PySem.W.mroIn K XN (.ref XN) = some true)
    (b11N : K.lookup cdaN = some ⟨cxN, ceN, .fields vsN, czN⟩)
    (b12N : vsN[2]? = some (.str fileN tfN))
    (b13N : ((l.prog.main.file : Str) == fileN) = true)
    (b15N : PySem.W.findIn K (.ref XN) "name" = some none)
    (b17N : PySem.W.findIn K (.ref XN) "__getattribute__" = some (some (.builtin "BaseException.__getattribute__")))
    (b18N : PySem.W.findIn K (.ref XN) "__getattr__" = some none)
    (b19N : PySem.W.hasDictIn K XN = true)
    (b25N : PySem.W.findIn K (.ref XN) "__class__" = some (some (.builtin "object.__class__")))
    (b26N : PySem.W.mroIn K XN (.type "object") = some true)
    (aB : PySem.W.nsIn K mainGlobals "BadRow" = some (some (.ref XB)))
    (xB : K.lookup XB = some (excClassObj nmB qnB XB NB bsB bmB true snB sbB abB coB ddB m0B m1B m2B m3B m5B "ValueError.__new__"))
    (rB : PySem.HandSPX.refsVE bmB = true)
    (b1B : PySem.W.findIn K (.ref XB) "__setattr__" = some (some (.builtin "object.__setattr__")))
    (q1B : PySem.W.subIn K (.ref XB) (.type "BaseException") = some true)
    (q2B : PySem.W.isClsIn K XB = true)
    (q3B : PySem.W.typeIn K (.ref XB) = some (.type "type"))
    (b4B : PySem.W.keepIn K (.ref XB) = true)
    (b5B : PySem.W.findIn K (.ref XB) "__init__" = some (some (.ref feB)))
    (b6B : PySem.W.typeIn K (.ref feB) = some (.type "function"))
    (lB : K.lookup feB = some ⟨ocB, odB, .func (PySem.W.fnX "__init__" "BadRow.__init__" (defArgs s_BadRow_init) (defBody s_BadRow_init) (defScope s_BadRow_init) [("__class__", ccB)] .none kVB dcB pmB anB (.ref cdaB) ctB), slB⟩)
    (cB : PySem.W.codeIn K (.ref cdaB) "BadRow.__init__" = true)
    (kB : PySem.W.keepIn K (.ref feB) = true)
    (eB : K.lookup ccB = some ⟨clB, cdB, .cell (some (.ref XB)), csB⟩)
    (b7B : PySem.W.ks_superIn K XB XB "__init__" = some (some (.builtin "ValueError.__init__")))
    (b8B : PySem.W.subIn K (.ref XB) (.type "ValueError") = some true)
    (b10B : PySem.W.mroIn K XB (.ref XB) = some true)
    (b11B : K.lookup cdaB = some ⟨cxB, ceB, .fields vsB, czB⟩)
    (b12B : vsB[2]? = some (.str fileB tfB))
    (b13B : ((l.prog.main.file : Str) == fileB) = true)
    (b15B : PySem.W.findIn K (.ref XB) "name" = some none)
    (b17B : PySem.W.findIn K (.ref XB) "__getattribute__" = some (some (.builtin "BaseException.__getattribute__")))
    (b18B : PySem.W.findIn K (.ref XB) "__getattr__" = some none)
    (b19B : PySem.W.hasDictIn K XB = true)
    (b25B : PySem.W.findIn K (.ref XB) "__class__" = some (some (.builtin "object.__class__")))
    (b26B : PySem.W.mroIn K XB (.type "object") = some true)
    (aC : PySem.W.nsIn K mainGlobals "CoreError" = some (some (.ref XC)))
    (q1C : PySem.W.subIn K (.ref XC) (.type "BaseException") = some true)
    (q2C : PySem.W.isClsIn K XC = true)
    (q3C : PySem.W.typeIn K (.ref XC) = some (.type "type"))
    (aR : PySem.W.nsIn K mainGlobals "Pairs" = some (some (.ref PR)))
    (p1R : PySem.W.plainGet K PR Str.empty = true)
    (p2R : PySem.W.hasDictIn K PR = true)
    (p3R : PySem.W.plainOver K PR = true)
    (p4R : PySem.W.findIn K (.ref PR) "__setattr__" = some (some (.builtin "object.__setattr__")))
    (n0R : PySem.W.findIn K (.ref PR) "_pairs" = some none)
    (p9R : PySem.W.keepIn K (.ref PR) = true)
    (aK : PySem.W.nsIn K mainGlobals "Book" = some (some (.ref BO)))
    (p1K : PySem.W.plainGet K BO Str.empty = true)
    (p2K : PySem.W.hasDictIn K BO = true)
    (p3K : PySem.W.plainOver K BO = true)
    (p4K : PySem.W.findIn K (.ref BO) "__setattr__" = some (some (.builtin "object.__setattr__")))
    (n0K : PySem.W.findIn K (.ref BO) "kept" = some none)
    (n1K : PySem.W.findIn K (.ref BO) "_fences" = some none)
    (p9K : PySem.W.keepIn K (.ref BO) = true)
    (aE : PySem.W.nsIn K mainGlobals "Recipe" = some (some (.ref RE)))
    (p1E : PySem.W.plainGet K RE Str.empty = true)
    (p2E : PySem.W.hasDictIn K RE = true)
    (p3E : PySem.W.plainOver K RE = true)
    (p4E : PySem.W.findIn K (.ref RE) "__setattr__" = some (some (.builtin "object.__setattr__")))
    (n0E : PySem.W.findIn K (.ref RE) "source" = some none)
    (n1E : PySem.W.findIn K (.ref RE) "target" = some none)
    (n2E : PySem.W.findIn K (.ref RE) "_rows" = some none)
    (n3E : PySem.W.findIn K (.ref RE) "_names" = some none)
    (p9E : PySem.W.keepIn K (.ref RE) = true)
    (p5R : PySem.W.makesIn K PR = true)
    (p5K : PySem.W.makesIn K BO = true)
    (p5E : PySem.W.makesIn K RE = true)
    (p11K : PySem.W.findIn K (.ref BO) "__class__" = some (some (.builtin "object.__class__")))
    (p14K : PySem.W.mroIn K BO (.type "object") = some true)
    (nqE : PySem.W.noSeq K RE = true)
    (l0E : PySem.W.findIn K (.ref RE) "__len__" = some none)
    (h0E : PySem.W.findIn K (.ref RE) "__length_hint__" = some none)
    (mRI : PySem.W.findIn K (.ref PR) "__init__" = some (some (.ref fRI)))
    (hRI : PySem.W.isFn K (.ref fRI) = true)
    (lRI : K.lookup fRI = some ⟨ocRI, odRI, .func (PySem.W.fnOf "__init__" "Pairs.__init__" (defArgs s_Pairs_init) (defBody s_Pairs_init) (defScope s_Pairs_init) (.ref TD) kVRI dcRI pmRI anRI cdRI ctRI), slRI⟩)
    (cRI : PySem.W.codeIn K cdRI "Pairs.__init__" = true)
    (kRI : PySem.W.keepIn K (.ref fRI) = true)
    (mRL : PySem.W.findIn K (.ref PR) "__len__" = some (some (.ref fRL)))
    (hRL : PySem.W.isFn K (.ref fRL) = true)
    (lRL : K.lookup fRL = some ⟨ocRL, odRL, .func (PySem.W.fnOf "__len__" "Pairs.__len__" (defArgs s_Pairs_len) (defBody s_Pairs_len) (defScope s_Pairs_len) .none kVRL dcRL pmRL anRL cdRL ctRL), slRL⟩)
    (cRL : PySem.W.codeIn K cdRL "Pairs.__len__" = true)
    (kRL : PySem.W.keepIn K (.ref fRL) = true)
    (mRT : PySem.W.findIn K (.ref PR) "__iter__" = some (some (.ref fRT)))
    (hRT : PySem.W.isFn K (.ref fRT) = true)
    (lRT : K.lookup fRT = some ⟨ocRT, odRT, .func (PySem.W.fnOf "__iter__" "Pairs.__iter__" (defArgs s_Pairs_iter) (defBody s_Pairs_iter) (defScope s_Pairs_iter) .none kVRT dcRT pmRT anRT cdRT ctRT), slRT⟩)
    (cRT : PySem.W.codeIn K cdRT "Pairs.__iter__" = true)
    (kRT : PySem.W.keepIn K (.ref fRT) = true)
    (mKI : PySem.W.findIn K (.ref BO) "__init__" = some (some (.ref fKI)))
    (hKI : PySem.W.isFn K (.ref fKI) = true)
    (lKI : K.lookup fKI = some ⟨ocKI, odKI, .func (PySem.W.fnOf "__init__" "Book.__init__" (defArgs s_Book_init) (defBody s_Book_init) (defScope s_Book_init) .none (.ref DB) dcKI pmKI anKI cdKI ctKI), slKI⟩)
    (cKI : PySem.W.codeIn K cdKI "Book.__init__" = true)
    (kKI : PySem.W.keepIn K (.ref fKI) = true)
    (mKF : PySem.W.findIn K (.ref BO) "fences" = some (some (.ref fKF)))
    (hKF : PySem.W.isFn K (.ref fKF) = true)
    (lKF : K.lookup fKF = some ⟨ocKF, odKF, .func (PySem.W.fnOf "fences" "Book.fences" (defArgs s_Book_fences) (defBody s_Book_fences) (defScope s_Book_fences) .none kVKF dcKF pmKF anKF cdKF ctKF), slKF⟩)
    (cKF : PySem.W.codeIn K cdKF "Book.fences" = true)
    (kKF : PySem.W.keepIn K (.ref fKF) = true)
    (mKE : PySem.W.findIn K (.ref BO) "fence" = some (some (.ref fKE)))
    (hKE : PySem.W.isFn K (.ref fKE) = true)
    (lKE : K.lookup fKE = some ⟨ocKE, odKE, .func (PySem.W.fnOf "fence" "Book.fence" (defArgs s_Book_fence) (defBody s_Book_fence) (defScope s_Book_fence) .none kVKE dcKE pmKE anKE cdKE ctKE), slKE⟩)
    (cKE : PySem.W.codeIn K cdKE "Book.fence" = true)
    (kKE : PySem.W.keepIn K (.ref fKE) = true)
    (mEI : PySem.W.findIn K (.ref RE) "__init__" = some (some (.ref fEI)))
    (hEI : PySem.W.isFn K (.ref fEI) = true)
    (lEI : K.lookup fEI = some ⟨ocEI, odEI, .func (PySem.W.fnOf "__init__" "Recipe.__init__" (defArgs s_Recipe_init) (defBody s_Recipe_init) (defScope s_Recipe_init) .none kVEI dcEI pmEI anEI cdEI ctEI), slEI⟩)
    (cEI : PySem.W.codeIn K cdEI "Recipe.__init__" = true)
    (kEI : PySem.W.keepIn K (.ref fEI) = true)
    (mET : PySem.W.findIn K (.ref RE) "__iter__" = some (some (.ref fET)))
    (hET : PySem.W.isFn K (.ref fET) = true)
    (lET : K.lookup fET = some ⟨ocET, odET, .func (PySem.W.fnOf "__iter__" "Recipe.__iter__" (defArgs s_Recipe_iter) (defBody s_Recipe_iter) (defScope s_Recipe_iter) .none kVET dcET pmET anET cdET ctET), slET⟩)
    (cET : PySem.W.codeIn K cdET "Recipe.__iter__" = true)
    (kET : PySem.W.keepIn K (.ref fET) = true)
    (mEG : PySem.W.findIn K (.ref RE) "__getitem__" = some (some (.ref fEG)))
    (hEG : PySem.W.isFn K (.ref fEG) = true)
    (lEG : K.lookup fEG = some ⟨ocEG, odEG, .func (PySem.W.fnOf "__getitem__" "Recipe.__getitem__" (defArgs s_Recipe_getitem) (defBody s_Recipe_getitem) (defScope s_Recipe_getitem) .none kVEG dcEG pmEG anEG cdEG ctEG), slEG⟩)
    (cEG : PySem.W.codeIn K cdEG "Recipe.__getitem__" = true)
    (kEG : PySem.W.keepIn K (.ref fEG) = true)
    (mES : PySem.W.findIn K (.ref RE) "__setitem__" = some (some (.ref fES)))
    (hES : PySem.W.isFn K (.ref fES) = true)
    (lES : K.lookup fES = some ⟨ocES, odES, .func (PySem.W.fnOf "__setitem__" "Recipe.__setitem__" (defArgs s_Recipe_setitem) (defBody s_Recipe_setitem) (defScope s_Recipe_setitem) .none kVES dcES pmES anES cdES ctES), slES⟩)
    (cES : PySem.W.codeIn K cdES "Recipe.__setitem__" = true)
    (kES : PySem.W.keepIn K (.ref fES) = true)
    (iEG : PySem.W.fnIn K fEG = true)
    (vD : K.lookup TD = some ⟨tcD, dtD, .seq itsD ntD, sqD⟩)
    (uD : itsD = #[.ref de])
    (vE : K.lookup de = some ⟨.type "tuple", dtE, .seq itsE ntE, sqE⟩)
    (uE : itsE = #[])
    (d1 : PySem.W.nsIn K DB "fences" = some (some .none))
    (gZ : PySem.W.nsIn K mainGlobals "KINDS" = some (some (.ref TZ)))
    (vZ : K.lookup TZ = some ⟨.type "tuple", dtZ, .seq itsZ ntZ, sqZ⟩)
    (uZ : itsZ.size ≤ sizeLine ∧ Vals ((["read", "acquire", "write", "release", "both"] : List Str).map V.str) itsZ.toList)
    (gRD : PySem.W.nsIn K mainGlobals "READS" = some (some (.ref TRD)))
    (vRD : K.lookup TRD = some ⟨.type "tuple", dtRD, .seq itsRD ntRD, sqRD⟩)
    (uRD : itsRD.size ≤ sizeLine ∧ Vals ((["read", "acquire"] : List Str).map V.str) itsRD.toList)
    (gWR : PySem.W.nsIn K mainGlobals "WRITES" = some (some (.ref TWR)))
    (vWR : K.lookup TWR = some ⟨.type "tuple", dtWR, .seq itsWR ntWR, sqWR⟩)
    (uWR : itsWR.size ≤ sizeLine ∧ Vals ((["write", "release"] : List Str).map V.str) itsWR.toList)
    (gPP : PySem.W.nsIn K mainGlobals "PAIRS" = some (some (.ref TP)))
    (vPP : K.lookup TP = some ⟨.type "tuple", dtPP, .seq itsPP ntPP, sqPP⟩)
    (uPP : itsPP = #[.ref R0, .ref R1, .ref R2, .ref R3, .ref R4, .ref R5, .ref R6, .ref R7, .ref R8, .ref R9, .ref R10, .ref R11, .ref R12, .ref R13, .ref R14, .ref R15, .ref R16, .ref R17, .ref R18, .ref R19, .ref R20, .ref R21, .ref R22, .ref R23, .ref R24, .ref R25, .ref R26])
    (vr0 : K.lookup R0 = some ⟨.type "tuple", dtr0, .seq itr0 ntr0, sqr0⟩)
    (ur0 : itr0.size ≤ sizeLine ∧ Vals ([.str "read", .str "read"]) itr0.toList)
    (vr1 : K.lookup R1 = some ⟨.type "tuple", dtr1, .seq itr1 ntr1, sqr1⟩)
    (ur1 : itr1.size ≤ sizeLine ∧ Vals ([.str "read", .str "acquire"]) itr1.toList)
    (vr2 : K.lookup R2 = some ⟨.type "tuple", dtr2, .seq itr2 ntr2, sqr2⟩)
    (ur2 : itr2.size ≤ sizeLine ∧ Vals ([.str "read", .str "write"]) itr2.toList)
    (vr3 : K.lookup R3 = some ⟨.type "tuple", dtr3, .seq itr3 ntr3, sqr3⟩)
    (ur3 : itr3.size ≤ sizeLine ∧ Vals ([.str "read", .str "release"]) itr3.toList)
    (vr4 : K.lookup R4 = some ⟨.type "tuple", dtr4, .seq itr4 ntr4, sqr4⟩)
    (ur4 : itr4.size ≤ sizeLine ∧ Vals ([.str "read", .str "both"]) itr4.toList)
    (vr5 : K.lookup R5 = some ⟨.type "tuple", dtr5, .seq itr5 ntr5, sqr5⟩)
    (ur5 : itr5.size ≤ sizeLine ∧ Vals ([.str "acquire", .str "read"]) itr5.toList)
    (vr6 : K.lookup R6 = some ⟨.type "tuple", dtr6, .seq itr6 ntr6, sqr6⟩)
    (ur6 : itr6.size ≤ sizeLine ∧ Vals ([.str "acquire", .str "acquire"]) itr6.toList)
    (vr7 : K.lookup R7 = some ⟨.type "tuple", dtr7, .seq itr7 ntr7, sqr7⟩)
    (ur7 : itr7.size ≤ sizeLine ∧ Vals ([.str "acquire", .str "write"]) itr7.toList)
    (vr8 : K.lookup R8 = some ⟨.type "tuple", dtr8, .seq itr8 ntr8, sqr8⟩)
    (ur8 : itr8.size ≤ sizeLine ∧ Vals ([.str "acquire", .str "release"]) itr8.toList)
    (vr9 : K.lookup R9 = some ⟨.type "tuple", dtr9, .seq itr9 ntr9, sqr9⟩)
    (ur9 : itr9.size ≤ sizeLine ∧ Vals ([.str "acquire", .str "both"]) itr9.toList)
    (vr10 : K.lookup R10 = some ⟨.type "tuple", dtr10, .seq itr10 ntr10, sqr10⟩)
    (ur10 : itr10.size ≤ sizeLine ∧ Vals ([.str "write", .str "read"]) itr10.toList)
    (vr11 : K.lookup R11 = some ⟨.type "tuple", dtr11, .seq itr11 ntr11, sqr11⟩)
    (ur11 : itr11.size ≤ sizeLine ∧ Vals ([.str "write", .str "acquire"]) itr11.toList)
    (vr12 : K.lookup R12 = some ⟨.type "tuple", dtr12, .seq itr12 ntr12, sqr12⟩)
    (ur12 : itr12.size ≤ sizeLine ∧ Vals ([.str "write", .str "write"]) itr12.toList)
    (vr13 : K.lookup R13 = some ⟨.type "tuple", dtr13, .seq itr13 ntr13, sqr13⟩)
    (ur13 : itr13.size ≤ sizeLine ∧ Vals ([.str "write", .str "release"]) itr13.toList)
    (vr14 : K.lookup R14 = some ⟨.type "tuple", dtr14, .seq itr14 ntr14, sqr14⟩)
    (ur14 : itr14.size ≤ sizeLine ∧ Vals ([.str "write", .str "both"]) itr14.toList)
    (vr15 : K.lookup R15 = some ⟨.type "tuple", dtr15, .seq itr15 ntr15, sqr15⟩)
    (ur15 : itr15.size ≤ sizeLine ∧ Vals ([.str "write", .str "return"]) itr15.toList)
    (vr16 : K.lookup R16 = some ⟨.type "tuple", dtr16, .seq itr16 ntr16, sqr16⟩)
    (ur16 : itr16.size ≤ sizeLine ∧ Vals ([.str "release", .str "read"]) itr16.toList)
    (vr17 : K.lookup R17 = some ⟨.type "tuple", dtr17, .seq itr17 ntr17, sqr17⟩)
    (ur17 : itr17.size ≤ sizeLine ∧ Vals ([.str "release", .str "acquire"]) itr17.toList)
    (vr18 : K.lookup R18 = some ⟨.type "tuple", dtr18, .seq itr18 ntr18, sqr18⟩)
    (ur18 : itr18.size ≤ sizeLine ∧ Vals ([.str "release", .str "write"]) itr18.toList)
    (vr19 : K.lookup R19 = some ⟨.type "tuple", dtr19, .seq itr19 ntr19, sqr19⟩)
    (ur19 : itr19.size ≤ sizeLine ∧ Vals ([.str "release", .str "release"]) itr19.toList)
    (vr20 : K.lookup R20 = some ⟨.type "tuple", dtr20, .seq itr20 ntr20, sqr20⟩)
    (ur20 : itr20.size ≤ sizeLine ∧ Vals ([.str "release", .str "both"]) itr20.toList)
    (vr21 : K.lookup R21 = some ⟨.type "tuple", dtr21, .seq itr21 ntr21, sqr21⟩)
    (ur21 : itr21.size ≤ sizeLine ∧ Vals ([.str "release", .str "return"]) itr21.toList)
    (vr22 : K.lookup R22 = some ⟨.type "tuple", dtr22, .seq itr22 ntr22, sqr22⟩)
    (ur22 : itr22.size ≤ sizeLine ∧ Vals ([.str "both", .str "read"]) itr22.toList)
    (vr23 : K.lookup R23 = some ⟨.type "tuple", dtr23, .seq itr23 ntr23, sqr23⟩)
    (ur23 : itr23.size ≤ sizeLine ∧ Vals ([.str "both", .str "acquire"]) itr23.toList)
    (vr24 : K.lookup R24 = some ⟨.type "tuple", dtr24, .seq itr24 ntr24, sqr24⟩)
    (ur24 : itr24.size ≤ sizeLine ∧ Vals ([.str "both", .str "write"]) itr24.toList)
    (vr25 : K.lookup R25 = some ⟨.type "tuple", dtr25, .seq itr25 ntr25, sqr25⟩)
    (ur25 : itr25.size ≤ sizeLine ∧ Vals ([.str "both", .str "release"]) itr25.toList)
    (vr26 : K.lookup R26 = some ⟨.type "tuple", dtr26, .seq itr26 ntr26, sqr26⟩)
    (ur26 : itr26.size ≤ sizeLine ∧ Vals ([.str "both", .str "both"]) itr26.toList)
    (sNC : PySem.W.subIn K (.ref XN) (.ref XC) = some true)
    (sBC : PySem.W.subIn K (.ref XB) (.ref XC) = some true)
    (sNN : PySem.W.subIn K (.ref XN) (.ref XN) = some true)
    (sNB : PySem.W.subIn K (.ref XN) (.ref XB) = some false)
    (eNB : ((Value.ref XN) == (Value.ref XB)) = false)
    (sBN : PySem.W.subIn K (.ref XB) (.ref XN) = some false)
    (eBN : ((Value.ref XB) == (Value.ref XN)) = false) :
    ∃ fd : FuncData, (∀ (s : Shared) (v : Value), BindsTo s fd ⟨[v], []⟩ [("_law_script", v)]) ∧ ∀ base : Heap, K.In base → base.Ns mainGlobals mg → FnOk l.prog w K mg base CX0 9 fa fd ["_law_script"] (spLaw K) := by
  cases hfa.symm.trans (PySem.W.mg_of X G a29)
  subst eL eU eV uD uE uPP
  refine ⟨PySem.W.fnOf "law" "law" (defArgs s_law) (defBody s_law) (defScope s_law) .none kV29 dc29 pm29 an29 cd29 ct29, fun s v => .of_eq rfl, fun base _ _ => ?_⟩
  have tZ : ∀ H, SqT K H TZ (kindsL.map V.str) := fun H => .inr ⟨_, itsZ, ntZ, vZ, rfl, rfl, uZ.1, uZ.2⟩
  have tRD : ∀ H, SqT K H TRD (readsL.map V.str) := fun H => .inr ⟨_, itsRD, ntRD, vRD, rfl, rfl, uRD.1, uRD.2⟩
  have tWR : ∀ H, SqT K H TWR (writesL.map V.str) := fun H => .inr ⟨_, itsWR, ntWR, vWR, rfl, rfl, uWR.1, uWR.2⟩
  have pk : PairsK K TP := by
    refine pairsK_mk [R0, R1, R2, R3, R4, R5, R6, R7, R8, R9, R10, R11, R12, R13, R14, R15, R16, R17, R18, R19, R20, R21, R22, R23, R24, R25, R26] (fun H => .inr ⟨_, _, ntPP, vPP, rfl, rfl, show 27 ≤ sizeLine by decide, by exact .cons rfl (.cons rfl (.cons rfl (.cons rfl (.cons rfl (.cons rfl (.cons rfl (.cons rfl (.cons rfl (.cons rfl (.cons rfl (.cons rfl (.cons rfl (.cons rfl (.cons rfl (.cons rfl (.cons rfl (.cons rfl (.cons rfl (.cons rfl (.cons rfl (.cons rfl (.cons rfl (.cons rfl (.cons rfl (.cons rfl (.cons rfl (.nil)))))))))))))))))))))))))))⟩) ?_
    rw [show pairsL = ([("read", "read"), ("read", "acquire"), ("read", "write"), ("read", "release"), ("read", "both"), ("acquire", "read"), ("acquire", "acquire"), ("acquire", "write"), ("acquire", "release"), ("acquire", "both"), ("write", "read"), ("write", "acquire"), ("write", "write"), ("write", "release"), ("write", "both"), ("write", "return"), ("release", "read"), ("release", "acquire"), ("release", "write"), ("release", "release"), ("release", "both"), ("release", "return"), ("both", "read"), ("both", "acquire"), ("both", "write"), ("both", "release"), ("both", "both")] : List Pr) from by decide +kernel]
    exact .cons (fun H => .inr ⟨_, itr0, ntr0, vr0, rfl, rfl, ur0.1, ur0.2⟩) (.cons (fun H => .inr ⟨_, itr1, ntr1, vr1, rfl, rfl, ur1.1, ur1.2⟩) (.cons (fun H => .inr ⟨_, itr2, ntr2, vr2, rfl, rfl, ur2.1, ur2.2⟩) (.cons (fun H => .inr ⟨_, itr3, ntr3, vr3, rfl, rfl, ur3.1, ur3.2⟩) (.cons (fun H => .inr ⟨_, itr4, ntr4, vr4, rfl, rfl, ur4.1, ur4.2⟩) (.cons (fun H => .inr ⟨_, itr5, ntr5, vr5, rfl, rfl, ur5.1, ur5.2⟩) (.cons (fun H => .inr ⟨_, itr6, ntr6, vr6, rfl, rfl, ur6.1, ur6.2⟩) (.cons (fun H => .inr ⟨_, itr7, ntr7, vr7, rfl, rfl, ur7.1, ur7.2⟩) (.cons (fun H => .inr ⟨_, itr8, ntr8, vr8, rfl, rfl, ur8.1, ur8.2⟩) (.cons (fun H => .inr ⟨_, itr9, ntr9, vr9, rfl, rfl, ur9.1, ur9.2⟩) (.cons (fun H => .inr ⟨_, itr10, ntr10, vr10, rfl, rfl, ur10.1, ur10.2⟩) (.cons (fun H => .inr ⟨_, itr11, ntr11, vr11, rfl, rfl, ur11.1, ur11.2⟩) (.cons (fun H => .inr ⟨_, itr12, ntr12, vr12, rfl, rfl, ur12.1, ur12.2⟩) (.cons (fun H => .inr ⟨_, itr13, ntr13, vr13, rfl, rfl, ur13.1, ur13.2⟩) (.cons (fun H => .inr ⟨_, itr14, ntr14, vr14, rfl, rfl, ur14.1, ur14.2⟩) (.cons (fun H => .inr ⟨_, itr15, ntr15, vr15, rfl, rfl, ur15.1, ur15.2⟩) (.cons (fun H => .inr ⟨_, itr16, ntr16, vr16, rfl, rfl, ur16.1, ur16.2⟩) (.cons (fun H => .inr ⟨_, itr17, ntr17, vr17, rfl, rfl, ur17.1, ur17.2⟩) (.cons (fun H => .inr ⟨_, itr18, ntr18, vr18, rfl, rfl, ur18.1, ur18.2⟩) (.cons (fun H => .inr ⟨_, itr19, ntr19, vr19, rfl, rfl, ur19.1, ur19.2⟩) (.cons (fun H => .inr ⟨_, itr20, ntr20, vr20, rfl, rfl, ur20.1, ur20.2⟩) (.cons (fun H => .inr ⟨_, itr21, ntr21, vr21, rfl, rfl, ur21.1, ur21.2⟩) (.cons (fun H => .inr ⟨_, itr22, ntr22, vr22, rfl, rfl, ur22.1, ur22.2⟩) (.cons (fun H => .inr ⟨_, itr23, ntr23, vr23, rfl, rfl, ur23.1, ur23.2⟩) (.cons (fun H => .inr ⟨_, itr24, ntr24, vr24, rfl, rfl, ur24.1, ur24.2⟩) (.cons (fun H => .inr ⟨_, itr25, ntr25, vr25, rfl, rfl, ur25.1, ur25.2⟩) (.cons (fun H => .inr ⟨_, itr26, ntr26, vr26, rfl, rfl, ur26.1, ur26.2⟩) (.nil)))))))))))))))))))))))))))
  have T0 : Bt0 mg := ⟨(PySem.W.mg_none_of X G z_len), (PySem.W.mg_none_of X G z_int), (PySem.W.mg_none_of X G z_range), (PySem.W.mg_none_of X G z_list), (PySem.W.mg_none_of X G z_tuple)⟩
  have TB : Bt K mg TP := ⟨(PySem.W.mg_none_of X G z_len), (PySem.W.mg_none_of X G z_iter), (PySem.W.mg_none_of X G z_all), (PySem.W.mg_of X G gPP), pk⟩
  have TBB : BtB mg tL := ⟨(PySem.W.mg_none_of X G z_isinstance), (PySem.W.mg_none_of X G z_str), (PySem.W.mg_none_of X G z_len), (PySem.W.mg_none_of X G z_all), (PySem.W.mg_none_of X G z_any), (PySem.W.mg_none_of X G z_dict), (PySem.W.mg_none_of X G z_sorted), (PySem.W.mg_of X G gL)⟩
  have TBK : BtK K mg TZ := ⟨(PySem.W.mg_of X G gZ), tZ⟩
  have TBC : BtC K mg tL TP := ⟨TBB, (PySem.W.mg_none_of X G z_iter), (PySem.W.mg_of X G gPP), pk⟩
  have TRr : BtR K mg TRD TWR TZ := ⟨TBK, (PySem.W.mg_of X G gRD), (PySem.W.mg_of X G gWR), tRD, tWR, (PySem.W.mg_none_of X G z_isinstance), (PySem.W.mg_none_of X G z_tuple), (PySem.W.mg_none_of X G z_len), (PySem.W.mg_none_of X G z_all), (PySem.W.mg_none_of X G z_sorted), (PySem.W.mg_none_of X G z_set)⟩
  have TPp : BtP K mg TRD TWR TZ tV tU := ⟨TRr, (PySem.W.mg_none_of X G z_iter), (PySem.W.mg_of X G gV), (PySem.W.mg_of X G gU)⟩
  have TLl : BtL mg := ⟨(PySem.W.mg_none_of X G z_sorted), (PySem.W.mg_none_of X G z_list), (PySem.W.mg_none_of X G z_int), (PySem.W.mg_none_of X G z_range), (PySem.W.mg_none_of X G z_len), (PySem.W.mg_none_of X G z_tuple), (PySem.W.mg_none_of X G z_set), (PySem.W.mg_none_of X G z_isinstance)⟩
  have MP : Mk K PR fRI := ⟨p5R, mRI, hRI, p9R⟩
  have MB : Mk K BO fKI := ⟨p5K, mKI, hKI, p9K⟩
  have ME : Mk K RE fEI := ⟨p5E, mEI, hEI, p9E⟩
  have TBI : BtI K mg tL tU tX2 TP PR fRI := ⟨TBC, (PySem.W.mg_of X G gU), (PySem.W.mg_of X G gX2), MP⟩
  have CL : Cls K PR := ⟨p1R, p2R, p3R, p4R⟩
  have CLK : Cls K BO := ⟨p1K, p2K, p3K, p4K⟩
  have C : PrC K mg PR := ⟨(PySem.W.mg_of X G aR), CL, n0R⟩
  have B : BkC K mg BO := ⟨(PySem.W.mg_of X G aK), CLK, n0K, n1K⟩
  have RR : RpC K mg RE := ⟨(PySem.W.mg_of X G aE), ⟨p1E, p2E, p3E, p4E⟩, n0E, n1E, n2E, n3E⟩
  have OXG : OexC K XG := ⟨⟨nmG, qnG, NG, bsG, bmG, snG, sbG, abG, coG, ddG, m0G, m1G, m2G, m3G, m5G, xG, rG⟩, b1G, q1G, q3G, b4G⟩
  have ECG : ErrC K XG := ⟨OXG, b7G, b8G, b9, b10G⟩
  have CFG : CodeF K l.prog cdaG := ⟨⟨cxG, ceG, vsG, czG, fileG, tfG, b11G, b12G, b13G⟩, b14⟩
  have FXG : FunX K "__init__" "TooLarge.__init__" s_TooLarge_init feG _ ccG cdaG XG := ⟨⟨ocG, odG, kVG, dcG, pmG, anG, ctG, slG, rfl, lG, cG⟩, ⟨clG, cdG, csG, eG⟩, kG⟩
  have KTG : KitC K XG := ⟨q2G, b17G, b18G, q1G, b25G, p12, p13, b26G⟩
  have GXG := ok_TooLarge_init (P := l.prog) (w := w) (base := base) (mg := mg) (CX := L2.CX l.prog w) (Pf := SmallI) FXG ECG CFG (PySem.W.mg_none_of X G z_super) b15G (fun v h => smallI_log h)
  have ERG : Er1 l.prog w K mg base "TooLarge" "bound" XG feG _ ["self", "bound"] SmallI := ⟨(PySem.W.mg_of X G aG), OXG, b5G, b6G, .all fun us hl => match us, hl with | [_, _], _ => rfl, GXG⟩
  have OXP : OexC K XP := ⟨⟨nmP, qnP, NP, bsP, bmP, snP, sbP, abP, coP, ddP, m0P, m1P, m2P, m3P, m5P, xP, rP⟩, b1P, q1P, q3P, b4P⟩
  have ECP : ErrC K XP := ⟨OXP, b7P, b8P, b9, b10P⟩
  have CFP : CodeF K l.prog cdaP := ⟨⟨cxP, ceP, vsP, czP, fileP, tfP, b11P, b12P, b13P⟩, b14⟩
  have FXP : FunX K "__init__" "BadPair.__init__" s_BadPair_init feP _ ccP cdaP XP := ⟨⟨ocP, odP, kVP, dcP, pmP, anP, ctP, slP, rfl, lP, cP⟩, ⟨clP, cdP, csP, eP⟩, kP⟩
  have KTP : KitC K XP := ⟨q2P, b17P, b18P, q1P, b25P, p12, p13, b26P⟩
  have GXP := ok_BadPair_init (P := l.prog) (w := w) (base := base) (mg := mg) (CX := L2.CX l.prog w) (Pf := (fun _ => True)) FXP ECP CFP (PySem.W.mg_none_of X G z_super) b15P
  have ERP : Er1 l.prog w K mg base "BadPair" "pair" XP feP _ ["self", "pair"] (fun _ => True) := ⟨(PySem.W.mg_of X G aP), OXP, b5P, b6P, .all fun us hl => match us, hl with | [_, _], _ => rfl, GXP⟩
  have OXF : OexC K XF := ⟨⟨nmF, qnF, NF, bsF, bmF, snF, sbF, abF, coF, ddF, m0F, m1F, m2F, m3F, m5F, xF, rF⟩, b1F, q1F, q3F, b4F⟩
  have ECF : ErrC K XF := ⟨OXF, b7F, b8F, b9, b10F⟩
  have CFF : CodeF K l.prog cdaF := ⟨⟨cxF, ceF, vsF, czF, fileF, tfF, b11F, b12F, b13F⟩, b14⟩
  have FXF : FunX K "__init__" "BadFence.__init__" s_BadFence_init feF _ ccF cdaF XF := ⟨⟨ocF, odF, kVF, dcF, pmF, anF, ctF, slF, rfl, lF, cF⟩, ⟨clF, cdF, csF, eF⟩, kF⟩
  have KTF : KitC K XF := ⟨q2F, b17F, b18F, q1F, b25F, p12, p13, b26F⟩
  have GXF := ok_BadFence_init (P := l.prog) (w := w) (base := base) (mg := mg) (CX := L2.CX l.prog w) (Pf := (fun _ => True)) FXF ECF CFF (PySem.W.mg_none_of X G z_super) b15F
  have ERF : Er1 l.prog w K mg base "BadFence" "name" XF feF _ ["self", "name"] (fun _ => True) := ⟨(PySem.W.mg_of X G aF), OXF, b5F, b6F, .all fun us hl => match us, hl with | [_, _], _ => rfl, GXF⟩
  have OXQ : OexC K XQ := ⟨⟨nmQ, qnQ, NQ, bsQ, bmQ, snQ, sbQ, abQ, coQ, ddQ, m0Q, m1Q, m2Q, m3Q, m5Q, xQ, rQ⟩, b1Q, q1Q, q3Q, b4Q⟩
  have ECQ : ErrC K XQ := ⟨OXQ, b7Q, b8Q, b9, b10Q⟩
  have CFQ : CodeF K l.prog cdaQ := ⟨⟨cxQ, ceQ, vsQ, czQ, fileQ, tfQ, b11Q, b12Q, b13Q⟩, b14⟩
  have FXQ : FunX K "__init__" "NoFence.__init__" s_NoFence_init feQ _ ccQ cdaQ XQ := ⟨⟨ocQ, odQ, kVQ, dcQ, pmQ, anQ, ctQ, slQ, rfl, lQ, cQ⟩, ⟨clQ, cdQ, csQ, eQ⟩, kQ⟩
  have KTQ : KitC K XQ := ⟨q2Q, b17Q, b18Q, q1Q, b25Q, p12, p13, b26Q⟩
  have GXQ := ok_NoFence_init (P := l.prog) (w := w) (base := base) (mg := mg) (CX := L2.CX l.prog w) (Pf := (fun _ => True)) FXQ ECQ CFQ (PySem.W.mg_none_of X G z_super) b15Q
  have ERQ : Er1 l.prog w K mg base "NoFence" "name" XQ feQ _ ["self", "name"] (fun _ => True) := ⟨(PySem.W.mg_of X G aQ), OXQ, b5Q, b6Q, .all fun us hl => match us, hl with | [_, _], _ => rfl, GXQ⟩
  have OXN : OexC K XN := ⟨⟨nmN, qnN, NN, bsN, bmN, snN, sbN, abN, coN, ddN, m0N, m1N, m2N, m3N, m5N, xN, rN⟩, b1N, q1N, q3N, b4N⟩
  have ECN : ErrC K XN := ⟨OXN, b7N, b8N, b9, b10N⟩
  have CFN : CodeF K l.prog cdaN := ⟨⟨cxN, ceN, vsN, czN, fileN, tfN, b11N, b12N, b13N⟩, b14⟩
  have FXN : FunX K "__init__" "NoRow.__init__" s_NoRow_init feN _ ccN cdaN XN := ⟨⟨ocN, odN, kVN, dcN, pmN, anN, ctN, slN, rfl, lN, cN⟩, ⟨clN, cdN, csN, eN⟩, kN⟩
  have KTN : KitC K XN := ⟨q2N, b17N, b18N, q1N, b25N, p12, p13, b26N⟩
  have GXN := ok_NoRow_init (P := l.prog) (w := w) (base := base) (mg := mg) (CX := L2.CX l.prog w) (Pf := (fun _ => True)) FXN ECN CFN (PySem.W.mg_none_of X G z_super) b15N
  have ERN : Er1 l.prog w K mg base "NoRow" "name" XN feN _ ["self", "name"] (fun _ => True) := ⟨(PySem.W.mg_of X G aN), OXN, b5N, b6N, .all fun us hl => match us, hl with | [_, _], _ => rfl, GXN⟩
  have OXB : OexC K XB := ⟨⟨nmB, qnB, NB, bsB, bmB, snB, sbB, abB, coB, ddB, m0B, m1B, m2B, m3B, m5B, xB, rB⟩, b1B, q1B, q3B, b4B⟩
  have ECB : ErrC K XB := ⟨OXB, b7B, b8B, b9, b10B⟩
  have CFB : CodeF K l.prog cdaB := ⟨⟨cxB, ceB, vsB, czB, fileB, tfB, b11B, b12B, b13B⟩, b14⟩
  have FXB : FunX K "__init__" "BadRow.__init__" s_BadRow_init feB _ ccB cdaB XB := ⟨⟨ocB, odB, kVB, dcB, pmB, anB, ctB, slB, rfl, lB, cB⟩, ⟨clB, cdB, csB, eB⟩, kB⟩
  have KTB : KitC K XB := ⟨q2B, b17B, b18B, q1B, b25B, p12, p13, b26B⟩
  have GXB := ok_BadRow_init (P := l.prog) (w := w) (base := base) (mg := mg) (CX := L2.CX l.prog w) (Pf := (fun _ => True)) FXB ECB CFB (PySem.W.mg_none_of X G z_super) b15B
  have ERB : Er1 l.prog w K mg base "BadRow" "name" XB feB _ ["self", "name"] (fun _ => True) := ⟨(PySem.W.mg_of X G aB), OXB, b5B, b6B, .all fun us hl => match us, hl with | [_, _], _ => rfl, GXB⟩
  have TX : BtX K mg XC XN XB := ⟨(PySem.W.mg_none_of X G z_isinstance), (PySem.W.mg_none_of X G z_ValueError), (PySem.W.mg_of X G aC), (PySem.W.mg_of X G aN), (PySem.W.mg_of X G aB), ⟨b17N, b18N, q1N, b19N⟩, ⟨b17B, b18B, q1B, b19B⟩, b15N, b15B, exm_sub q1C q2C q3C sNC, exm_sub q1C q2C q3C sBC, exm_sub q1N q2N q3N sNN, KTN, KTB, kit_self, kit_ty b31 b8N, kit_sub eNB q2B q3B sNB, kit_sub eBN q2N q3N sBN, kit_self, kit_ty b31 b8B⟩
  have F0 := fun_mk (st := s_is_name) l0 c0 k0
  have D0 : Df K mg "is_name" s_is_name ["value"] f0 _ := ⟨F0, PySem.W.mg_of X G a0, F0.binds (ps := ["value"]) fun _ _ _ _ _ _ us hl => match us, hl with | [_], _ => rfl⟩
  have F1 := fun_mk (st := s_is_fence_name) l1 c1 k1
  have D1 : Df K mg "is_fence_name" s_is_fence_name ["name"] f1 _ := ⟨F1, PySem.W.mg_of X G a1, F1.binds (ps := ["name"]) fun _ _ _ _ _ _ us hl => match us, hl with | [_], _ => rfl⟩
  have F2 := fun_mk (st := s_is_row) l2 c2 k2
  have D2 : Df K mg "is_row" s_is_row ["name", "row", "fences"] f2 _ := ⟨F2, PySem.W.mg_of X G a2, F2.binds (ps := ["name", "row", "fences"]) fun _ _ _ _ _ _ us hl => match us, hl with | [_, _, _], _ => rfl⟩
  have F3 := fun_mk (st := s_group_of) l3 c3 k3
  have D3 : Df K mg "group_of" s_group_of ["kind"] f3 _ := ⟨F3, PySem.W.mg_of X G a3, F3.binds (ps := ["kind"]) fun _ _ _ _ _ _ us hl => match us, hl with | [_], _ => rfl⟩
  have F4 := fun_mk (st := s_kind_of) l4 c4 k4
  have D4 : Df K mg "kind_of" s_kind_of ["row"] f4 _ := ⟨F4, PySem.W.mg_of X G a4, F4.binds (ps := ["row"]) fun _ _ _ _ _ _ us hl => match us, hl with | [_], _ => rfl⟩
  have F5 := fun_mk (st := s_tidy) l5 c5 k5
  have D5 : Df K mg "tidy" s_tidy ["fences"] f5 _ := ⟨F5, PySem.W.mg_of X G a5, F5.binds (ps := ["fences"]) fun _ _ _ _ _ _ us hl => match us, hl with | [_], _ => rfl⟩
  have F6 := fun_mk (st := s_tidy_row) l6 c6 k6
  have D6 : Df K mg "tidy_row" s_tidy_row ["row"] f6 _ := ⟨F6, PySem.W.mg_of X G a6, F6.binds (ps := ["row"]) fun _ _ _ _ _ _ us hl => match us, hl with | [_], _ => rfl⟩
  have F7 := fun_mk (st := s_law_great) l7 c7 k7
  have D7 : Df K mg "_law_great" s_law_great ["_law_cell", "_law_k"] f7 _ := ⟨F7, PySem.W.mg_of X G a7, F7.binds (ps := ["_law_cell", "_law_k"]) fun _ _ _ _ _ _ us hl => match us, hl with | [_, _], _ => rfl⟩
  have F8 := fun_mk (st := s_law_draw) l8 c8 k8
  have D8 : Df K mg "_law_draw" s_law_draw ["_law_script", "_law_k"] f8 _ := ⟨F8, PySem.W.mg_of X G a8, F8.binds (ps := ["_law_script", "_law_k"]) fun _ _ _ _ _ _ us hl => match us, hl with | [_, _], _ => rfl⟩
  have F9 := fun_mk (st := s_law_pairs) l9 c9 k9
  have D9 : Df K mg "_law_pairs" s_law_pairs [] f9 _ := ⟨F9, PySem.W.mg_of X G a9, F9.binds (ps := []) fun _ _ _ _ _ _ us hl => match us, hl with | [], _ => rfl⟩
  have F10 := fun_mk (st := s_law_usual) l10 c10 k10
  have D10 : Df K mg "_law_usual" s_law_usual ["_law_which"] f10 _ := ⟨F10, PySem.W.mg_of X G a10, F10.binds (ps := ["_law_which"]) fun _ _ _ _ _ _ us hl => match us, hl with | [_], _ => rfl⟩
  have F11 := fun_mk (st := s_law_set) l11 c11 k11
  have D11 : Df K mg "_law_set" s_law_set ["_law_number"] f11 _ := ⟨F11, PySem.W.mg_of X G a11, F11.binds (ps := ["_law_number"]) fun _ _ _ _ _ _ us hl => match us, hl with | [_], _ => rfl⟩
  have F12 := fun_mk (st := s_law_name) l12 c12 k12
  have D12 : Df K mg "_law_name" s_law_name ["_law_number", "_law_taken"] f12 _ := ⟨F12, PySem.W.mg_of X G a12, F12.binds (ps := ["_law_number", "_law_taken"]) fun _ _ _ _ _ _ us hl => match us, hl with | [_, _], _ => rfl⟩
  have F13 := fun_mk (st := s_law_book) l13 c13 k13
  have D13 : Df K mg "_law_book" s_law_book ["_law_kept", "_law_table_here"] f13 _ := ⟨F13, PySem.W.mg_of X G a13, F13.binds (ps := ["_law_kept", "_law_table_here"]) fun _ _ _ _ _ _ us hl => match us, hl with | [_, _], _ => rfl⟩
  have F14 := fun_mk (st := s_law_table) l14 c14 k14
  have D14 : Df K mg "_law_table" s_law_table ["_law_number", "_law_row", "_law_at", "_law_known"] f14 _ := ⟨F14, PySem.W.mg_of X G a14, F14.binds (ps := ["_law_number", "_law_row", "_law_at", "_law_known"]) fun _ _ _ _ _ _ us hl => match us, hl with | [_, _, _, _], _ => rfl⟩
  have F15 := fun_mk (st := s_law_goal) l15 c15 k15
  have D15 : Df K mg "_law_goal" s_law_goal ["_law_kept", "_law_number"] f15 _ := ⟨F15, PySem.W.mg_of X G a15, F15.binds (ps := ["_law_kept", "_law_number"]) fun _ _ _ _ _ _ us hl => match us, hl with | [_, _], _ => rfl⟩
  have F16 := fun_mk (st := s_law_names) l16 c16 k16
  have D16 : Df K mg "_law_names" s_law_names ["_law_table_here"] f16 _ := ⟨F16, PySem.W.mg_of X G a16, F16.binds (ps := ["_law_table_here"]) fun _ _ _ _ _ _ us hl => match us, hl with | [_], _ => rfl⟩
  have F17 := fun_mk (st := s_law_plain) l17 c17 k17
  have D17 : Df K mg "_law_plain" s_law_plain ["_law_names_here", "_law_bars"] f17 _ := ⟨F17, PySem.W.mg_of X G a17, F17.binds (ps := ["_law_names_here", "_law_bars"]) fun _ _ _ _ _ _ us hl => match us, hl with | [_, _], _ => rfl⟩
  have F18 := fun_mk (st := s_law_some) l18 c18 k18
  have D18 : Df K mg "_law_some" s_law_some ["_law_number", "_law_bars", "_law_most"] f18 _ := ⟨F18, PySem.W.mg_of X G a18, F18.binds (ps := ["_law_number", "_law_bars", "_law_most"]) fun _ _ _ _ _ _ us hl => match us, hl with | [_, _, _], _ => rfl⟩
  have F19 := fun_mk (st := s_law_loose) l19 c19 k19
  have D19 : Df K mg "_law_loose" s_law_loose ["_law_name_here", "_law_number", "_law_bars"] f19 _ := ⟨F19, PySem.W.mg_of X G a19, F19.binds (ps := ["_law_name_here", "_law_number", "_law_bars"]) fun _ _ _ _ _ _ us hl => match us, hl with | [_, _, _], _ => rfl⟩
  have F20 := fun_mk (st := s_law_normal) l20 c20 k20
  have D20 : Df K mg "_law_normal" s_law_normal ["_law_row"] f20 _ := ⟨F20, PySem.W.mg_of X G a20, F20.binds (ps := ["_law_row"]) fun _ _ _ _ _ _ us hl => match us, hl with | [_], _ => rfl⟩
  have F21 := fun_mk (st := s_law_holds) l21 c21 k21
  have D21 : Df K mg "_law_holds" s_law_holds ["_law_made", "_law_rows"] f21 _ := ⟨F21, PySem.W.mg_of X G a21, F21.binds (ps := ["_law_made", "_law_rows"]) fun _ _ _ _ _ _ us hl => match us, hl with | [_, _], _ => rfl⟩
  have F22 := fun_mk (st := s_law_fields) l22 c22 k22
  have D22 : Df K mg "_law_fields" s_law_fields ["_law_made", "_law_kept", "_law_marks", "_law_goal_here", "_law_bars"] f22 _ := ⟨F22, PySem.W.mg_of X G a22, F22.binds (ps := ["_law_made", "_law_kept", "_law_marks", "_law_goal_here", "_law_bars"]) fun _ _ _ _ _ _ us hl => match us, hl with | [_, _, _, _, _], _ => rfl⟩
  have F23 := fun_mk (st := s_law_bad_row) l23 c23 k23
  have D23 : Df K mg "_law_bad_row" s_law_bad_row ["_law_name_here", "_law_number", "_law_bars", "_law_stray_here"] f23 _ := ⟨F23, PySem.W.mg_of X G a23, F23.binds (ps := ["_law_name_here", "_law_number", "_law_bars", "_law_stray_here"]) fun _ _ _ _ _ _ us hl => match us, hl with | [_, _, _, _], _ => rfl⟩
  have F24 := fun_mk (st := s_law_stray) l24 c24 k24
  have D24 : Df K mg "_law_stray" s_law_stray ["_law_number", "_law_marks", "_law_bars"] f24 _ := ⟨F24, PySem.W.mg_of X G a24, F24.binds (ps := ["_law_number", "_law_marks", "_law_bars"]) fun _ _ _ _ _ _ us hl => match us, hl with | [_, _, _], _ => rfl⟩
  have F25 := fun_mk (st := s_law_unknown) l25 c25 k25
  have D25 : Df K mg "_law_unknown" s_law_unknown ["_law_number", "_law_marks", "_law_bars"] f25 _ := ⟨F25, PySem.W.mg_of X G a25, F25.binds (ps := ["_law_number", "_law_marks", "_law_bars"]) fun _ _ _ _ _ _ us hl => match us, hl with | [_, _, _], _ => rfl⟩
  have F26 := fun_mk (st := s_law_set_refusal) l26 c26 k26
  have D26 : Df K mg "_law_set_refusal" s_law_set_refusal ["_law_made", "_law_name_here", "_law_row"] f26 _ := ⟨F26, PySem.W.mg_of X G a26, F26.binds (ps := ["_law_made", "_law_name_here", "_law_row"]) fun _ _ _ _ _ _ us hl => match us, hl with | [_, _, _], _ => rfl⟩
  have F27 := fun_mk (st := s_law_look_refusal) l27 c27 k27
  have D27 : Df K mg "_law_look_refusal" s_law_look_refusal ["_law_made", "_law_name_here"] f27 _ := ⟨F27, PySem.W.mg_of X G a27, F27.binds (ps := ["_law_made", "_law_name_here"]) fun _ _ _ _ _ _ us hl => match us, hl with | [_, _], _ => rfl⟩
  have F28 := fun_mk (st := s_law_three_refused) l28 c28 k28
  have D28 : Df K mg "_law_three_refused" s_law_three_refused ["_law_made", "_law_rows", "_law_name_here", "_law_unknown_here", "_law_bad"] f28 _ := ⟨F28, PySem.W.mg_of X G a28, F28.binds (ps := ["_law_made", "_law_rows", "_law_name_here", "_law_unknown_here", "_law_bad"]) fun _ _ _ _ _ _ us hl => match us, hl with | [_, _, _, _, _], _ => rfl⟩
  have F29 := fun_mk (st := s_law) l29 c29 k29
  have D29 : Df K mg "law" s_law ["_law_script"] fa _ := ⟨F29, PySem.W.mg_of X G a29, F29.binds (ps := ["_law_script"]) fun _ _ _ _ _ _ us hl => match us, hl with | [_], _ => rfl⟩
  have FRL := fun_mk (st := s_Pairs_len) lRL cRL kRL
  have bRL : Binds K _ ["self"] [] := FRL.binds (ps := ["self"]) fun _ _ _ _ _ _ us hl => match us, hl with | [_], _ => rfl
  have FRT := fun_mk (st := s_Pairs_iter) lRT cRT kRT
  have bRT : Binds K _ ["self"] [] := FRT.binds (ps := ["self"]) fun _ _ _ _ _ _ us hl => match us, hl with | [_], _ => rfl
  have FKF := fun_mk (st := s_Book_fences) lKF cKF kKF
  have bKF : Binds K _ ["self"] [] := FKF.binds (ps := ["self"]) fun _ _ _ _ _ _ us hl => match us, hl with | [_], _ => rfl
  have FKE := fun_mk (st := s_Book_fence) lKE cKE kKE
  have bKE : Binds K _ ["self", "name"] [] := FKE.binds (ps := ["self", "name"]) fun _ _ _ _ _ _ us hl => match us, hl with | [_, _], _ => rfl
  have FEI := fun_mk (st := s_Recipe_init) lEI cEI kEI
  have bEI : Binds K _ ["self", "source", "target"] [] := FEI.binds (ps := ["self", "source", "target"]) fun _ _ _ _ _ _ us hl => match us, hl with | [_, _, _], _ => rfl
  have FET := fun_mk (st := s_Recipe_iter) lET cET kET
  have bET : Binds K _ ["self"] [] := FET.binds (ps := ["self"]) fun _ _ _ _ _ _ us hl => match us, hl with | [_], _ => rfl
  have FEG := fun_mk (st := s_Recipe_getitem) lEG cEG kEG
  have bEG : Binds K _ ["self", "at"] [] := FEG.binds (ps := ["self", "at"]) fun _ _ _ _ _ _ us hl => match us, hl with | [_, _], _ => rfl
  have FES := fun_mk (st := s_Recipe_setitem) lES cES kES
  have bES : Binds K _ ["self", "at", "worth"] [] := FES.binds (ps := ["self", "at", "worth"]) fun _ _ _ _ _ _ us hl => match us, hl with | [_, _, _], _ => rfl
  have LN : LenC K PR fRL := ⟨mRL, hRL⟩
  have IT : IterC K PR fRT fRL := ⟨mRT, hRT, LN⟩
  have ITE : IterN K RE fET := ⟨mET, hET, l0E, h0E⟩
  have GTE : GetC K RE fEG := ⟨mEG, hEG, iEG⟩
  have STE : SetC K RE fES := ⟨mES, hES, nqE⟩
  have MKF : Meth K BO _ fKF := ⟨mKF, hKF, kKF⟩
  have MKE : Meth K BO _ fKE := ⟨mKE, hKE, kKE⟩
  have TBk : BtBk K mg PR BO fRI fKI := ⟨TLl, MP, MB⟩
  have TFf : BtF K mg BO := ⟨TLl, (PySem.W.mg_of X G aK), CLK, kit_self, p11K, p12, p13, p14K⟩
  have TLw : BtLw K mg RE fEI := ⟨TLl, ME⟩
  have FRI : FunD K "__init__" "Pairs.__init__" (defArgs s_Pairs_init) (defBody s_Pairs_init) (defScope s_Pairs_init) [V.ref de] [] fRI _ := ⟨⟨ocRI, odRI, .ref TD, kVRI, dcRI, pmRI, anRI, cdRI, ctRI, slRI, rfl, lRI, cRI, .inr ⟨fun z => (nomatch z), TD, _, [.ref de], ntD, rfl, vD, rfl, .cons rfl .nil⟩, .inl rfl⟩, kRI⟩
  obtain ⟨ds1, hds1, bI⟩ := FRI.binds1 (ps := ["self", "pairs"]) 2 1 (fun z => nomatch z) rfl fun T kV doc pm an cdv ct us its h1 h2 => match us, h1, its, h2 with | [_, _], _, [_], _ => ⟨_, rfl, rfl⟩
  cases hds1
  obtain ⟨ds, hds, bD⟩ := FRI.binds1 (ps := ["self", "pairs"]) 1 0 (fun z => nomatch z) rfl fun T kV doc pm an cdv ct us its h1 h2 => match us, h1, its, h2 with | [_], _, [_], _ => ⟨_, rfl, rfl⟩
  have FKI0 : FunD K "__init__" "Book.__init__" (defArgs s_Book_init) (defBody s_Book_init) (defScope s_Book_init) [] [] fKI _ := ⟨⟨ocKI, odKI, .none, .ref DB, dcKI, pmKI, anKI, cdKI, ctKI, slKI, rfl, lKI, cKI, .inl ⟨rfl, rfl⟩, .inl rfl⟩, kKI⟩
  have FKI : FunD K "__init__" "Book.__init__" (defArgs s_Book_init) (defBody s_Book_init) (defScope s_Book_init) [] [("fences", V.non)] fKI _ := ⟨⟨ocKI, odKI, .none, .ref DB, dcKI, pmKI, anKI, cdKI, ctKI, slKI, rfl, lKI, cKI, .inl ⟨rfl, rfl⟩, .inr ⟨DB, rfl, fun q hq => by
    rw [List.mem_singleton.mp hq]
    exact ⟨_, d1, rfl⟩⟩⟩, kKI⟩
  obtain ⟨mvB, kbB⟩ := FKI.kbinds0 (ps := ["self", "kept", "fences"]) 2 ["fences"] [] (fun vs _ zs => vs ++ zs) (by simp) (fun q h => nomatch h) (fun r1 _ r3 => r1.append r3) fun D doc pm an cdv ct us mv ws h1 h2 h3 => match us, h1, mv, h2, ws, h3 with | [_, _], _, [], _, [_], _ => rfl
  have G0 := ok_is_name (P := l.prog) (w := w) (base := base) D0 TBB
  have G1 := ok_is_fence_name (P := l.prog) (w := w) (base := base) D1 TBK D0 G0
  have GRI := ok_Pairs_init (P := l.prog) (w := w) (base := base) FRI TB C ERP
  have GRL := ok_Pairs_len (P := l.prog) (w := w) (base := base) FRL TB C
  have GRT := ok_Pairs_iter (P := l.prog) (w := w) (base := base) FRT TB C
  have GKF := ok_Book_fences (PC := PR) (P := l.prog) (w := w) (base := base) FKF TBB B
  have GKE := ok_Book_fence (PC := PR) (P := l.prog) (w := w) (base := base) FKE TBB B ERQ D0 G0
  have GKI := ok_Book_init (P := l.prog) (w := w) (base := base) FKI0 TBI B C ERG ERF D1 G1 bI GRI
  have G3 := ok_group_of (P := l.prog) (w := w) (base := base) D3 TRr
  have G4 := ok_kind_of (P := l.prog) (w := w) (base := base) D4 TRr
  have G5 := ok_tidy (P := l.prog) (w := w) (base := base) D5 TRr
  have G6 := ok_tidy_row (P := l.prog) (w := w) (base := base) D6 TRr D4 G4 D5 G5
  have G2 := ok_is_row (P := l.prog) (w := w) (base := base) D2 TRr D3 G3
  have GEI := ok_Recipe_init (P := l.prog) (w := w) (base := base) FEI TPp RR B MKF bKF GKF
  have GET := ok_Recipe_iter (P := l.prog) (w := w) (base := base) FET TPp RR
  have GEG := ok_Recipe_getitem (P := l.prog) (w := w) (base := base) FEG TPp RR ERN
  have GES := ok_Recipe_setitem (P := l.prog) (w := w) (base := base) FES TPp RR B ERN ERB MKF bKF GKF D2 G2 D6 G6
  have G7 := ok_law_great (P := l.prog) (w := w) (base := base) D7 T0
  have G8 := ok_law_draw (P := l.prog) (w := w) (base := base) D8 T0 D7 G7
  have G9 := ok_law_pairs (P := l.prog) (w := w) (base := base) D9 T0
  have G10 := ok_law_usual (P := l.prog) (w := w) (base := base) D10 T0 D9 G9
  have G11 := ok_law_set (P := l.prog) (w := w) (base := base) D11 T0 D9 G9 D10 G10
  have G12 := ok_law_name (P := l.prog) (w := w) (base := base) D12 T0
  have G16 := ok_law_names (P := l.prog) (w := w) (base := base) D16 TLl
  have G17 := ok_law_plain (P := l.prog) (w := w) (base := base) D17 TLl
  have G18 := ok_law_some (P := l.prog) (w := w) (base := base) D18 TLl
  have G20 := ok_law_normal (P := l.prog) (w := w) (base := base) D20 TLl
  have G19 := ok_law_loose (P := l.prog) (w := w) (base := base) D19 TLl D18 G18
  have G24 := ok_law_stray (P := l.prog) (w := w) (base := base) D24 TLl
  have G25 := ok_law_unknown (P := l.prog) (w := w) (base := base) D25 TLl
  have G23 := ok_law_bad_row (P := l.prog) (w := w) (base := base) D23 TLl
  have G21 := ok_law_holds (P := l.prog) (w := w) (base := base) D21 TLl ITE GET bET GTE GEG bEG
  have G26 := ok_law_set_refusal (P := l.prog) (w := w) (base := base) D26 TX STE GES bES
  have G27 := ok_law_look_refusal (P := l.prog) (w := w) (base := base) D27 TX GTE GEG bEG
  have G28 := ok_law_three_refused (P := l.prog) (w := w) (base := base) D28 D26 G26 D21 G21 D27 G27
  have G13 := ok_law_book (P := l.prog) (w := w) (base := base) D13 TBk C B bI GRI kbB GKI
  have G14 := ok_law_table (P := l.prog) (w := w) (base := base) D14 TLl D12 G12 D11 G11
  have G15 := ok_law_goal (P := l.prog) (w := w) (base := base) D15 TLl D9 G9 D11 G11
  have G22 := ok_law_fields (P := l.prog) (w := w) (base := base) D22 TFf RR B IT GRT bRT GRL bRL MKF bKF GKF MKE bKE GKE
  exact ok_law (P := l.prog) (w := w) (base := base) D29 TLw RR B ⟨bEI⟩ GEI STE GES bES D8 G8 D11 G11 D14 G14 D15 G15 D13 G13 D16 G16 D17 G17 D22 G22 D21 G21 D19 G19 D20 G20 D23 G23 D24 G24 D25 G25 D28 G28 D26 G26
theorem walk {l : PySem.W.OpenLaw} {q : Program} {loose : List Str} {XP : (Str → Option Value) → Heap → Prop} {YP : World → Heap → Prop} {d : DefRec} {K : Params → PySem.W.Frag} (hn : l.most = some 63) (hdf : d.params.defaults = [])
    (hY : ∀ (w : World) (h : Heap), YP w h → (K w.params).In h)
    (F : ∀ (w : World) (mg : Str → Option Value) (fa : Addr) (h : Heap), (K w.params).In h → h.Ns mainGlobals mg → mg d.name = some (.ref fa) →
      ∃ fd : FuncData, (∀ (s : Shared) (u : Value), BindsTo s fd ⟨[u], []⟩ [("_law_script", u)]) ∧ ∀ base : Heap, (K w.params).In base → base.Ns mainGlobals mg → FnOk l.prog w (K w.params) mg base CX0 9 fa fd ["_law_script"] (spLaw (K w.params))) :
    PySem.W.WalkO q loose XP YP l.row.toRowW d [] (fun f vs => PySem.call f vs) :=
  L2.walk_of (n := 63) (k := 9) (x := "_law_script") (CX := fun _ => CX0) (sp := fun w => spLaw (K w.params)) hn (by decide) hdf ⟨rfl, by decide, by decide⟩ hY F (fun _ _ a ns hl _ hS => ⟨a, ns, rfl, ⟨hS, hl⟩, fun _ => rfl⟩) fun _ _ _ _ _ z => z
end My
open PySem PySem.W PyProof.Rows in
set_option maxRecDepth 100000 in
set_option maxHeartbeats 0 in
theorem PySem.Challenge.cw_coretower_k35_rows_of_recipes_holds : PySem.Challenge.rw_coretower_k35_rows_of_recipes.Holds := by
  w_on; o_law; k_head; (case hw => w_witness2)
  k_fill
  refine My.walk (l := PySem.Challenge.rw_coretower_k35_rows_of_recipes) rfl rfl (fun w h Y => PySem.W.kIn_of Y) ?F
  case F =>
    intro w mg fa h KX G hmg
    refine' My.all_mk KX G hmg ?a0 ?l0 ?c0 ?k0 ?a1 ?l1 ?c1 ?k1 ?a2 ?l2 ?c2 ?k2 ?a3 ?l3 ?c3 ?k3 ?a4 ?l4 ?c4 ?k4 ?a5 ?l5 ?c5 ?k5 ?a6 ?l6 ?c6 ?k6 ?a7 ?l7 ?c7 ?k7 ?a8 ?l8 ?c8 ?k8 ?a9 ?l9 ?c9 ?k9 ?a10 ?l10 ?c10 ?k10 ?a11 ?l11 ?c11 ?k11 ?a12 ?l12 ?c12 ?k12 ?a13 ?l13 ?c13 ?k13 ?a14 ?l14 ?c14 ?k14 ?a15 ?l15 ?c15 ?k15 ?a16 ?l16 ?c16 ?k16 ?a17 ?l17 ?c17 ?k17 ?a18 ?l18 ?c18 ?k18 ?a19 ?l19 ?c19 ?k19 ?a20 ?l20 ?c20 ?k20 ?a21 ?l21 ?c21 ?k21 ?a22 ?l22 ?c22 ?k22 ?a23 ?l23 ?c23 ?k23 ?a24 ?l24 ?c24 ?k24 ?a25 ?l25 ?c25 ?k25 ?a26 ?l26 ?c26 ?k26 ?a27 ?l27 ?c27 ?k27 ?a28 ?l28 ?c28 ?k28 ?a29 ?l29 ?c29 ?k29 ?z_isinstance ?z_str ?z_len ?z_all ?z_any ?z_dict ?z_sorted ?z_iter ?z_int ?z_range ?z_list ?z_tuple ?z_set ?z_ValueError ?z_super ?gL ?eL ?gU ?eU ?gX2 ?gV ?eV ?aG ?xG ?rG ?b1G ?q1G ?q2G ?q3G ?b4G ?b5G ?b6G ?lG ?cG ?kG ?eG ?b7G ?b8G ?b9 ?b14 ?b31 ?p12 ?p13 ?b10G ?b11G ?b12G ?b13G ?b15G ?b17G ?b18G ?b19G ?b25G ?b26G ?aP ?xP ?rP ?b1P ?q1P ?q2P ?q3P ?b4P ?b5P ?b6P ?lP ?cP ?kP ?eP ?b7P ?b8P ?b10P ?b11P ?b12P ?b13P ?b15P ?b17P ?b18P ?b19P ?b25P ?b26P ?aF ?xF ?rF ?b1F ?q1F ?q2F ?q3F ?b4F ?b5F ?b6F ?lF ?cF ?kF ?eF ?b7F ?b8F ?b10F ?b11F ?b12F ?b13F ?b15F ?b17F ?b18F ?b19F ?b25F ?b26F ?aQ ?xQ ?rQ ?b1Q ?q1Q ?q2Q ?q3Q ?b4Q ?b5Q ?b6Q ?lQ ?cQ ?kQ ?eQ ?b7Q ?b8Q ?b10Q ?b11Q ?b12Q ?b13Q ?b15Q ?b17Q ?b18Q ?b19Q ?b25Q ?b26Q ?aN ?xN ?rN ?b1N ?q1N ?q2N ?q3N ?b4N ?b5N ?b6N ?lN ?cN ?kN ?eN ?b7N ?b8N ?b10N ?b11N ?b12N ?b13N ?b15N ?b17N ?b18N ?b19N ?b25N ?b26N ?aB ?xB ?rB ?b1B ?q1B ?q2B ?q3B ?b4B ?b5B ?b6B ?lB ?cB ?kB ?eB ?b7B ?b8B ?b10B ?b11B ?b12B ?b13B ?b15B ?b17B ?b18B ?b19B ?b25B ?b26B ?aC ?q1C ?q2C ?q3C ?aR ?p1R ?p2R ?p3R ?p4R ?n0R ?p9R ?aK ?p1K ?p2K ?p3K ?p4K ?n0K ?n1K ?p9K ?aE ?p1E ?p2E ?p3E ?p4E ?n0E ?n1E ?n2E ?n3E ?p9E ?p5R ?p5K ?p5E ?p11K ?p14K ?nqE ?l0E ?h0E ?mRI ?hRI ?lRI ?cRI ?kRI ?mRL ?hRL ?lRL ?cRL ?kRL ?mRT ?hRT ?lRT ?cRT ?kRT ?mKI ?hKI ?lKI ?cKI ?kKI ?mKF ?hKF ?lKF ?cKF ?kKF ?mKE ?hKE ?lKE ?cKE ?kKE ?mEI ?hEI ?lEI ?cEI ?kEI ?mET ?hET ?lET ?cET ?kET ?mEG ?hEG ?lEG ?cEG ?kEG ?mES ?hES ?lES ?cES ?kES ?iEG ?vD ?uD ?vE ?uE ?d1 ?gZ ?vZ ?uZ ?gRD ?vRD ?uRD ?gWR ?vWR ?uWR ?gPP ?vPP ?uPP ?vr0 ?ur0 ?vr1 ?ur1 ?vr2 ?ur2 ?vr3 ?ur3 ?vr4 ?ur4 ?vr5 ?ur5 ?vr6 ?ur6 ?vr7 ?ur7 ?vr8 ?ur8 ?vr9 ?ur9 ?vr10 ?ur10 ?vr11 ?ur11 ?vr12 ?ur12 ?vr13 ?ur13 ?vr14 ?ur14 ?vr15 ?ur15 ?vr16 ?ur16 ?vr17 ?ur17 ?vr18 ?ur18 ?vr19 ?ur19 ?vr20 ?ur20 ?vr21 ?ur21 ?vr22 ?ur22 ?vr23 ?ur23 ?vr24 ?ur24 ?vr25 ?ur25 ?vr26 ?ur26 ?sNC ?sBC ?sNN ?sNB ?eNB ?sBN ?eBN
    (case a0 => k_is)
    (case l0 => k_is)
    (case c0 => k_is)
    (case k0 => k_is)
    (case a1 => k_is)
    (case l1 => k_is)
    (case c1 => k_is)
    (case k1 => k_is)
    (case a2 => k_is)
    (case l2 => k_is)
    (case c2 => k_is)
    (case k2 => k_is)
    (case a3 => k_is)
    (case l3 => k_is)
    (case c3 => k_is)
    (case k3 => k_is)
    (case a4 => k_is)
    (case l4 => k_is)
    (case c4 => k_is)
    (case k4 => k_is)
    (case a5 => k_is)
    (case l5 => k_is)
    (case c5 => k_is)
    (case k5 => k_is)
    (case a6 => k_is)
    (case l6 => k_is)
    (case c6 => k_is)
    (case k6 => k_is)
    (case a7 => k_is)
    (case l7 => k_is)
    (case c7 => k_is)
    (case k7 => k_is)
    (case a8 => k_is)
    (case l8 => k_is)
    (case c8 => k_is)
    (case k8 => k_is)
    (case a9 => k_is)
    (case l9 => k_is)
    (case c9 => k_is)
    (case k9 => k_is)
    (case a10 => k_is)
    (case l10 => k_is)
    (case c10 => k_is)
    (case k10 => k_is)
    (case a11 => k_is)
    (case l11 => k_is)
    (case c11 => k_is)
    (case k11 => k_is)
    (case a12 => k_is)
    (case l12 => k_is)
    (case c12 => k_is)
    (case k12 => k_is)
    (case a13 => k_is)
    (case l13 => k_is)
    (case c13 => k_is)
    (case k13 => k_is)
    (case a14 => k_is)
    (case l14 => k_is)
    (case c14 => k_is)
    (case k14 => k_is)
    (case a15 => k_is)
    (case l15 => k_is)
    (case c15 => k_is)
    (case k15 => k_is)
    (case a16 => k_is)
    (case l16 => k_is)
    (case c16 => k_is)
    (case k16 => k_is)
    (case a17 => k_is)
    (case l17 => k_is)
    (case c17 => k_is)
    (case k17 => k_is)
    (case a18 => k_is)
    (case l18 => k_is)
    (case c18 => k_is)
    (case k18 => k_is)
    (case a19 => k_is)
    (case l19 => k_is)
    (case c19 => k_is)
    (case k19 => k_is)
    (case a20 => k_is)
    (case l20 => k_is)
    (case c20 => k_is)
    (case k20 => k_is)
    (case a21 => k_is)
    (case l21 => k_is)
    (case c21 => k_is)
    (case k21 => k_is)
    (case a22 => k_is)
    (case l22 => k_is)
    (case c22 => k_is)
    (case k22 => k_is)
    (case a23 => k_is)
    (case l23 => k_is)
    (case c23 => k_is)
    (case k23 => k_is)
    (case a24 => k_is)
    (case l24 => k_is)
    (case c24 => k_is)
    (case k24 => k_is)
    (case a25 => k_is)
    (case l25 => k_is)
    (case c25 => k_is)
    (case k25 => k_is)
    (case a26 => k_is)
    (case l26 => k_is)
    (case c26 => k_is)
    (case k26 => k_is)
    (case a27 => k_is)
    (case l27 => k_is)
    (case c27 => k_is)
    (case k27 => k_is)
    (case a28 => k_is)
    (case l28 => k_is)
    (case c28 => k_is)
    (case k28 => k_is)
    (case a29 => k_is)
    (case l29 => k_is)
    (case c29 => k_is)
    (case k29 => k_is)
    (case z_isinstance => k_is)
    (case z_str => k_is)
    (case z_len => k_is)
    (case z_all => k_is)
    (case z_any => k_is)
    (case z_dict => k_is)
    (case z_sorted => k_is)
    (case z_iter => k_is)
    (case z_int => k_is)
    (case z_range => k_is)
    (case z_list => k_is)
    (case z_tuple => k_is)
    (case z_set => k_is)
    (case z_ValueError => k_is)
    (case z_super => k_is)
    (case gL => k_is)
    (case eL => decide +kernel)
    (case gU => k_is)
    (case eU => decide +kernel)
    (case gX2 => k_is)
    (case gV => k_is)
    (case eV => decide +kernel)
    (case aG => k_is)
    (case xG => k_is)
    (case rG => decide +kernel)
    (case b1G => k_is)
    (case q1G => k_is)
    (case q2G => k_is)
    (case q3G => k_is)
    (case b4G => k_is)
    (case b5G => k_is)
    (case b6G => k_is)
    (case lG => k_is)
    (case cG => k_is)
    (case kG => k_is)
    (case eG => k_is)
    (case b7G => ks_is)
    (case b8G => k_is)
    (case b9 => k_is)
    (case b14 => first | rfl | decide +kernel)
    (case b31 => decide +kernel)
    (case p12 => k_is)
    (case p13 => k_is)
    (case b10G => k_is)
    (case b11G => k_is)
    (case b12G => rfl)
    (case b13G => first | rfl | decide +kernel)
    (case b15G => k_is)
    (case b17G => k_is)
    (case b18G => k_is)
    (case b19G => k_is)
    (case b25G => k_is)
    (case b26G => k_is)
    (case aP => k_is)
    (case xP => k_is)
    (case rP => decide +kernel)
    (case b1P => k_is)
    (case q1P => k_is)
    (case q2P => k_is)
    (case q3P => k_is)
    (case b4P => k_is)
    (case b5P => k_is)
    (case b6P => k_is)
    (case lP => k_is)
    (case cP => k_is)
    (case kP => k_is)
    (case eP => k_is)
    (case b7P => ks_is)
    (case b8P => k_is)
    (case b10P => k_is)
    (case b11P => k_is)
    (case b12P => rfl)
    (case b13P => first | rfl | decide +kernel)
    (case b15P => k_is)
    (case b17P => k_is)
    (case b18P => k_is)
    (case b19P => k_is)
    (case b25P => k_is)
    (case b26P => k_is)
    (case aF => k_is)
    (case xF => k_is)
    (case rF => decide +kernel)
    (case b1F => k_is)
    (case q1F => k_is)
    (case q2F => k_is)
    (case q3F => k_is)
    (case b4F => k_is)
    (case b5F => k_is)
    (case b6F => k_is)
    (case lF => k_is)
    (case cF => k_is)
    (case kF => k_is)
    (case eF => k_is)
    (case b7F => ks_is)
    (case b8F => k_is)
    (case b10F => k_is)
    (case b11F => k_is)
    (case b12F => rfl)
    (case b13F => first | rfl | decide +kernel)
    (case b15F => k_is)
    (case b17F => k_is)
    (case b18F => k_is)
    (case b19F => k_is)
    (case b25F => k_is)
    (case b26F => k_is)
    (case aQ => k_is)
    (case xQ => k_is)
    (case rQ => decide +kernel)
    (case b1Q => k_is)
    (case q1Q => k_is)
    (case q2Q => k_is)
    (case q3Q => k_is)
    (case b4Q => k_is)
    (case b5Q => k_is)
    (case b6Q => k_is)
    (case lQ => k_is)
    (case cQ => k_is)
    (case kQ => k_is)
    (case eQ => k_is)
    (case b7Q => ks_is)
    (case b8Q => k_is)
    (case b10Q => k_is)
    (case b11Q => k_is)
    (case b12Q => rfl)
    (case b13Q => first | rfl | decide +kernel)
    (case b15Q => k_is)
    (case b17Q => k_is)
    (case b18Q => k_is)
    (case b19Q => k_is)
    (case b25Q => k_is)
    (case b26Q => k_is)
    (case aN => k_is)
    (case xN => k_is)
    (case rN => decide +kernel)
    (case b1N => k_is)
    (case q1N => k_is)
    (case q2N => k_is)
    (case q3N => k_is)
    (case b4N => k_is)
    (case b5N => k_is)
    (case b6N => k_is)
    (case lN => k_is)
    (case cN => k_is)
    (case kN => k_is)
    (case eN => k_is)
    (case b7N => ks_is)
    (case b8N => k_is)
    (case b10N => k_is)
    (case b11N => k_is)
    (case b12N => rfl)
    (case b13N => first | rfl | decide +kernel)
    (case b15N => k_is)
    (case b17N => k_is)
    (case b18N => k_is)
    (case b19N => k_is)
    (case b25N => k_is)
    (case b26N => k_is)
    (case aB => k_is)
    (case xB => k_is)
    (case rB => decide +kernel)
    (case b1B => k_is)
    (case q1B => k_is)
    (case q2B => k_is)
    (case q3B => k_is)
    (case b4B => k_is)
    (case b5B => k_is)
    (case b6B => k_is)
    (case lB => k_is)
    (case cB => k_is)
    (case kB => k_is)
    (case eB => k_is)
    (case b7B => ks_is)
    (case b8B => k_is)
    (case b10B => k_is)
    (case b11B => k_is)
    (case b12B => rfl)
    (case b13B => first | rfl | decide +kernel)
    (case b15B => k_is)
    (case b17B => k_is)
    (case b18B => k_is)
    (case b19B => k_is)
    (case b25B => k_is)
    (case b26B => k_is)
    (case aC => k_is)
    (case q1C => k_is)
    (case q2C => k_is)
    (case q3C => k_is)
    (case aR => k_is)
    (case p1R => k_is)
    (case p2R => k_is)
    (case p3R => k_is)
    (case p4R => k_is)
    (case n0R => k_is)
    (case p9R => k_is)
    (case aK => k_is)
    (case p1K => k_is)
    (case p2K => k_is)
    (case p3K => k_is)
    (case p4K => k_is)
    (case n0K => k_is)
    (case n1K => k_is)
    (case p9K => k_is)
    (case aE => k_is)
    (case p1E => k_is)
    (case p2E => k_is)
    (case p3E => k_is)
    (case p4E => k_is)
    (case n0E => k_is)
    (case n1E => k_is)
    (case n2E => k_is)
    (case n3E => k_is)
    (case p9E => k_is)
    (case p5R => k_is)
    (case p5K => k_is)
    (case p5E => k_is)
    (case p11K => k_is)
    (case p14K => k_is)
    (case nqE => k_is)
    (case l0E => k_is)
    (case h0E => k_is)
    (case mRI => k_is)
    (case hRI => k_is)
    (case lRI => k_is)
    (case cRI => k_is)
    (case kRI => k_is)
    (case mRL => k_is)
    (case hRL => k_is)
    (case lRL => k_is)
    (case cRL => k_is)
    (case kRL => k_is)
    (case mRT => k_is)
    (case hRT => k_is)
    (case lRT => k_is)
    (case cRT => k_is)
    (case kRT => k_is)
    (case mKI => k_is)
    (case hKI => k_is)
    (case lKI => k_is)
    (case cKI => k_is)
    (case kKI => k_is)
    (case mKF => k_is)
    (case hKF => k_is)
    (case lKF => k_is)
    (case cKF => k_is)
    (case kKF => k_is)
    (case mKE => k_is)
    (case hKE => k_is)
    (case lKE => k_is)
    (case cKE => k_is)
    (case kKE => k_is)
    (case mEI => k_is)
    (case hEI => k_is)
    (case lEI => k_is)
    (case cEI => k_is)
    (case kEI => k_is)
    (case mET => k_is)
    (case hET => k_is)
    (case lET => k_is)
    (case cET => k_is)
    (case kET => k_is)
    (case mEG => k_is)
    (case hEG => k_is)
    (case lEG => k_is)
    (case cEG => k_is)
    (case kEG => k_is)
    (case mES => k_is)
    (case hES => k_is)
    (case lES => k_is)
    (case cES => k_is)
    (case kES => k_is)
    (case iEG => k_is)
    (case vD => k_is)
    (case uD => exact rfl)
    (case vE => k_is)
    (case uE => exact rfl)
    (case d1 => k_is)
    (case gZ => k_is)
    (case vZ => k_is)
    (case uZ => exact ⟨by decide, by exact .cons ⟨_, rfl⟩ (.cons ⟨_, rfl⟩ (.cons ⟨_, rfl⟩ (.cons ⟨_, rfl⟩ (.cons ⟨_, rfl⟩ (.nil)))))⟩)
    (case gRD => k_is)
    (case vRD => k_is)
    (case uRD => exact ⟨by decide, by exact .cons ⟨_, rfl⟩ (.cons ⟨_, rfl⟩ (.nil))⟩)
    (case gWR => k_is)
    (case vWR => k_is)
    (case uWR => exact ⟨by decide, by exact .cons ⟨_, rfl⟩ (.cons ⟨_, rfl⟩ (.nil))⟩)
    (case gPP => k_is)
    (case vPP => k_is)
    (case uPP => exact rfl)
    (case vr0 => k_is)
    (case ur0 => exact ⟨by decide, by exact .cons ⟨_, rfl⟩ (.cons ⟨_, rfl⟩ (.nil))⟩)
    (case vr1 => k_is)
    (case ur1 => exact ⟨by decide, by exact .cons ⟨_, rfl⟩ (.cons ⟨_, rfl⟩ (.nil))⟩)
    (case vr2 => k_is)
    (case ur2 => exact ⟨by decide, by exact .cons ⟨_, rfl⟩ (.cons ⟨_, rfl⟩ (.nil))⟩)
    (case vr3 => k_is)
    (case ur3 => exact ⟨by decide, by exact .cons ⟨_, rfl⟩ (.cons ⟨_, rfl⟩ (.nil))⟩)
    (case vr4 => k_is)
    (case ur4 => exact ⟨by decide, by exact .cons ⟨_, rfl⟩ (.cons ⟨_, rfl⟩ (.nil))⟩)
    (case vr5 => k_is)
    (case ur5 => exact ⟨by decide, by exact .cons ⟨_, rfl⟩ (.cons ⟨_, rfl⟩ (.nil))⟩)
    (case vr6 => k_is)
    (case ur6 => exact ⟨by decide, by exact .cons ⟨_, rfl⟩ (.cons ⟨_, rfl⟩ (.nil))⟩)
    (case vr7 => k_is)
    (case ur7 => exact ⟨by decide, by exact .cons ⟨_, rfl⟩ (.cons ⟨_, rfl⟩ (.nil))⟩)
    (case vr8 => k_is)
    (case ur8 => exact ⟨by decide, by exact .cons ⟨_, rfl⟩ (.cons ⟨_, rfl⟩ (.nil))⟩)
    (case vr9 => k_is)
    (case ur9 => exact ⟨by decide, by exact .cons ⟨_, rfl⟩ (.cons ⟨_, rfl⟩ (.nil))⟩)
    (case vr10 => k_is)
    (case ur10 => exact ⟨by decide, by exact .cons ⟨_, rfl⟩ (.cons ⟨_, rfl⟩ (.nil))⟩)
    (case vr11 => k_is)
    (case ur11 => exact ⟨by decide, by exact .cons ⟨_, rfl⟩ (.cons ⟨_, rfl⟩ (.nil))⟩)
    (case vr12 => k_is)
    (case ur12 => exact ⟨by decide, by exact .cons ⟨_, rfl⟩ (.cons ⟨_, rfl⟩ (.nil))⟩)
    (case vr13 => k_is)
    (case ur13 => exact ⟨by decide, by exact .cons ⟨_, rfl⟩ (.cons ⟨_, rfl⟩ (.nil))⟩)
    (case vr14 => k_is)
    (case ur14 => exact ⟨by decide, by exact .cons ⟨_, rfl⟩ (.cons ⟨_, rfl⟩ (.nil))⟩)
    (case vr15 => k_is)
    (case ur15 => exact ⟨by decide, by exact .cons ⟨_, rfl⟩ (.cons ⟨_, rfl⟩ (.nil))⟩)
    (case vr16 => k_is)
    (case ur16 => exact ⟨by decide, by exact .cons ⟨_, rfl⟩ (.cons ⟨_, rfl⟩ (.nil))⟩)
    (case vr17 => k_is)
    (case ur17 => exact ⟨by decide, by exact .cons ⟨_, rfl⟩ (.cons ⟨_, rfl⟩ (.nil))⟩)
    (case vr18 => k_is)
    (case ur18 => exact ⟨by decide, by exact .cons ⟨_, rfl⟩ (.cons ⟨_, rfl⟩ (.nil))⟩)
    (case vr19 => k_is)
    (case ur19 => exact ⟨by decide, by exact .cons ⟨_, rfl⟩ (.cons ⟨_, rfl⟩ (.nil))⟩)
    (case vr20 => k_is)
    (case ur20 => exact ⟨by decide, by exact .cons ⟨_, rfl⟩ (.cons ⟨_, rfl⟩ (.nil))⟩)
    (case vr21 => k_is)
    (case ur21 => exact ⟨by decide, by exact .cons ⟨_, rfl⟩ (.cons ⟨_, rfl⟩ (.nil))⟩)
    (case vr22 => k_is)
    (case ur22 => exact ⟨by decide, by exact .cons ⟨_, rfl⟩ (.cons ⟨_, rfl⟩ (.nil))⟩)
    (case vr23 => k_is)
    (case ur23 => exact ⟨by decide, by exact .cons ⟨_, rfl⟩ (.cons ⟨_, rfl⟩ (.nil))⟩)
    (case vr24 => k_is)
    (case ur24 => exact ⟨by decide, by exact .cons ⟨_, rfl⟩ (.cons ⟨_, rfl⟩ (.nil))⟩)
    (case vr25 => k_is)
    (case ur25 => exact ⟨by decide, by exact .cons ⟨_, rfl⟩ (.cons ⟨_, rfl⟩ (.nil))⟩)
    (case vr26 => k_is)
    (case ur26 => exact ⟨by decide, by exact .cons ⟨_, rfl⟩ (.cons ⟨_, rfl⟩ (.nil))⟩)
    (case sNC => first | rfl | k_is)
    (case sBC => first | rfl | k_is)
    (case sNN => first | rfl | k_is)
    (case sNB => first | rfl | k_is)
    (case eNB => decide +kernel)
    (case sBN => first | rfl | k_is)
    (case eBN => decide +kernel)

