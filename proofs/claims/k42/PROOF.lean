import PyProof.Rows.All
import Wide.All
import OpenK.AllK
import Wide.FinOn
import HandS.ForMost
import HandS.Style
import HandS.IsInst
import HandS.More
import HandS.Evl
import HandS.Zip
import HandS.Walk
import HandS.SetFor
import HandS.Defaults
import HandS.ForExc
import HandS.CallSlots
import HandS.Comp
import KE.GoesComp2
import KE.KExcSuper
import HandS.ExcInit
import HandS.Nested
import HandS.ExcField
import HandS.ExcIs
import HandS.TryMany
import HandS.TryOnly
import HandS.ExcOwn
import HandS.WordsExc
import KE.KExcIs
import HandS.SlotsOwn
import HandS.OwnIter
import HandS.IterNext
import HandS.ClsMeth
import HandS.Deep
import HandS.Sort
import KE.KDictCopyH
import PyProof.Rows.SortStr
import HandS.TupAny
import HandS.Iter
import KE.GoesEnum
import KE.KDictKeyed
import KE.KeyNested
import KE.KDictDisplayH
import PyProof.StrBlock2
import HandS.RaiseMore
import HandS.Exc
import HandS.FStr
import PyProof.Rows.RegStrFacts
import HandS.Conv
import HandS.Text
import PySem.Challenge.RW_coretower_k42_rule_is_its_entries
import HandS.Star
import HandS.TupLe
import KE.RegKSuper
set_option Elab.async false
set_option linter.all false
set_option maxRecDepth 100000
set_option maxHeartbeats 4000000
/-! ### small things over the layer: frames, loops, tests -/
namespace My
open PySem L2
section
variable {P : Program} {w : World} {K : PySem.W.Frag} {mg : Str → Option Value} {base : Heap}
/-- a def of the text, where it stands -/
structure Df (K : PySem.W.Frag) (mg : Str → Option Value) (x : Str) (st : Stmt) (ps : List Str) (f : Addr) (fd : FuncData) : Prop where
  F : Fun K x x st f fd
  g : mg x = some (.ref f)
  b : Binds K fd ps []
theorem cxK {CX : CXT} {N : List Str} {q : Str} {sc : Scope} {f : Addr} {cdv : Value} {A : Around} {outer : List Env} {s : Shared} {H : Hp} {E : XK} : (cxOf CX P w K mg base N q sc f cdv A outer s H E).K = K := rfl
theorem cxnK {CX : CXT} {N : List Str} {q : Str} {sc : Scope} {f : Addr} {cdv : Value} {A : Around} {outer : List Env} {s : Shared} {H : Hp} {E : XK} : (cxOf CX P w K mg base N q sc f cdv A outer s H E).nox.K = K := rfl
end
/-! ### frames -/
/-- what stood outside of S stands as it did -/
def Kp (S : List Addr) (H H' : Hp) : Prop := ∀ b o, b ∉ S → H b = some o → H' b = some o
theorem Kp.refl (S : List Addr) (H : Hp) : Kp S H H := fun _ _ _ h => h
theorem Kp.trans {S : List Addr} {H H1 H2 : Hp} (a : Kp S H H1) (b : Kp S H1 H2) : Kp S H H2 := fun c o hc h => b c o hc (a c o hc h)
theorem Kp.mono {S T : List Addr} {H H' : Hp} (a : Kp S H H') (h : ∀ x ∈ S, x ∈ T) : Kp T H H' := fun c o hc e => a c o (fun z => hc (h c z)) e
theorem Kp.of0 {T : List Addr} {H H' : Hp} (a : Kp [] H H') : Kp T H H' := a.mono fun x hx => nomatch hx
theorem Kp.new {S : List Addr} {H : Hp} {p : Addr} {o : HO} (h : H p = none) : Kp S H (upd H p o) := fun a u _ e => by
  rw [upd_ne (ne_of_none e h)]
  exact e
/-- a write to something that was not there at the beginning -/
theorem Kp.wr {S : List Addr} {H H' : Hp} {p : Addr} {o : HO} (a : Kp S H H') (h : H p = none) : Kp S H (upd H' p o) := fun b u hb e => by
  rw [upd_ne (ne_of_none e h)]
  exact a b u hb e
theorem Kp.put {S : List Addr} {H H' : Hp} {p : Addr} {o : HO} (a : Kp S H H') (h : p ∈ S) : Kp S H (upd H' p o) := fun b u hb e => by
  rw [upd_ne (fun z => hb (by rw [z]; exact h))]
  exact a b u hb e
theorem Kp.ls {S : List Addr} {K : PySem.W.Frag} {H H' : Hp} {a : Addr} {xs : List V} (k : Kp S H H') (ha : a ∉ S) (h : SqL K H a xs) : SqL K H' a xs := by
  rcases h with (h | ⟨o, h⟩) | h
  · exact .inl (.inl (k _ _ ha h))
  · exact .inl (.inr ⟨o, k _ _ ha h⟩)
  · exact .inr h
theorem Kp.tp {S : List Addr} {K : PySem.W.Frag} {H H' : Hp} {a : Addr} {xs : List V} (k : Kp S H H') (ha : a ∉ S) (h : SqT K H a xs) : SqT K H' a xs := by
  rcases h with (h | ⟨o, h⟩) | h
  · exact .inl (.inl (k _ _ ha h))
  · exact .inl (.inr ⟨o, k _ _ ha h⟩)
  · exact .inr h
theorem Kp.free {S : List Addr} {H H' : Hp} {p : Addr} (k : Kp S H H') (hp : H' p = none) (hs : ∀ a ∈ S, ∃ o, H' a = some o) : H p = none := by
  cases e : H p with
  | none => rfl
  | some o =>
    by_cases h : p ∈ S
    · obtain ⟨u, hu⟩ := hs p h
      rw [hp] at hu; cases hu
    · rw [k p o h e] at hp; cases hp
theorem Kp.free0 {H H' : Hp} {p : Addr} (k : Kp [] H H') (hp : H' p = none) : H p = none := k.free hp fun a h => nomatch h
theorem not1 {a b : Addr} (h : b ≠ a) : b ∉ [a] := fun z => h (List.mem_singleton.mp z)
theorem not0 {b : Addr} : b ∉ ([] : List Addr) := fun z => nomatch z
theorem sq_l {K : PySem.W.Frag} {H : Hp} {a : Addr} {xs : List V} (h : H a = some (.lst xs)) : SqL K H a xs := .inl (.inl h)
theorem sq_t {K : PySem.W.Frag} {H : Hp} {a : Addr} {xs : List V} (h : H a = some (.tup xs)) : SqT K H a xs := .inl (.inl h)
theorem small {n : Nat} (h : n ≤ 100000) : n ≤ sizeLine := Nat.le_trans h (by decide)
theorem smallL {n : Nat} (h : n ≤ 100000) : n < sizeLine := Nat.lt_of_le_of_lt h (by decide)
theorem ne_kind {H : Hp} {a b : Addr} {o u : HO} (h : H a = some o) (h' : H b = some u) (d : o ≠ u) : a ≠ b := ne_of h h' d
/-! ### subscripts -/
theorem atI_of {α : Type} {xs : List α} {i : Int} {v : α} (h0 : 0 ≤ i) (h : xs[i.toNat]? = some v) : atI xs i = some v := by
  have e := atI_nat h
  rwa [Int.toNat_of_nonneg h0] at e
theorem ixN_of {n : Nat} {i : Int} (h0 : 0 ≤ i) (h : i < n) : ixN n i = some i.toNat := by
  unfold ixN
  rw [if_pos h0, if_pos h]
theorem atI_ex {α : Type} {xs : List α} {i : Int} (h0 : 0 ≤ i) (h : i < xs.length) : ∃ v, v ∈ xs ∧ atI xs i = some v := by
  have hl : i.toNat < xs.length := by omega
  exact ⟨xs[i.toNat], List.getElem_mem hl, atI_of h0 (List.getElem?_eq_getElem hl)⟩
/-! ### isinstance -/
section
variable {K : PySem.W.Frag} {H : Hp} {Q : VK}
theorem isi_mk {x : V} {n m : String} {b : Bool} (h : TyOf K H x (.type n)) (k : kitB n m = some b) (q : Q (.bl b) H) : rIsi K [x, .ty m] H Q := ⟨x, _, _, _, b, rfl, .ty m, .base h, kit_ty k, q⟩
theorem isi_int_str {i : Int} (q : Q (.bl false) H) : rIsi K [.int i, .ty "str"] H Q := isi_mk (.int i) (by decide +kernel) q
theorem isi_str_str {i : Str} (q : Q (.bl true) H) : rIsi K [.str i, .ty "str"] H Q := isi_mk (.str i) (by decide +kernel) q
theorem isi_int_int {i : Int} (q : Q (.bl true) H) : rIsi K [.int i, .ty "int"] H Q := isi_mk (.int i) (by decide +kernel) q
theorem isi_int_bool {i : Int} (q : Q (.bl false) H) : rIsi K [.int i, .ty "bool"] H Q := isi_mk (.int i) (by decide +kernel) q
theorem isi_bl_bool {i : Bool} (q : Q (.bl true) H) : rIsi K [.bl i, .ty "bool"] H Q := isi_mk (.bl i) (by decide +kernel) q
end
theorem sc_ii {i j : Int} : scal (.int i) (.int j) = true := rfl
theorem sc_ss {i j : Str} : scal (.str i) (.str j) = true := rfl
theorem sc_bb {i j : Bool} : scal (.bl i) (.bl j) = true := rfl
theorem sc_ni {j : Int} : scal .non (.int j) = true := rfl
theorem sc_in {j : Int} : scal (.int j) .non = true := rfl
theorem sc_is {i : Int} {j : Str} : scal (.int i) (.str j) = true := rfl
theorem sc_si {i : Int} {j : Str} : scal (.str j) (.int i) = true := rfl
theorem sc_nn : scal .non .non = true := rfl
/-! ### loops -/
section
variable {K : PySem.W.Frag} {g : TG} {tb : TS} {D : Ends} {σ : St} {H : Hp}
theorem forL {a : Addr} {xs : List V} {i : Nat} (Pv : Nat → L2.St → Hp → Prop) (hσ : σ[i]? = some (some (.ref a))) (hS : SqL K H a xs) (h0 : Pv 0 σ H) (hl : ∀ j σ H, j ≤ xs.length → Pv j σ H → SqL K H a xs)
    (hs : ∀ j x σ H, xs[j]? = some x → Pv j σ H → g x σ H fun σ2 H2 => tb { D with nx := Pv (j + 1), ct := Pv (j + 1), bk := D.nx } σ2 H2) (hd : ∀ σ H, Pv xs.length σ H → D.nx σ H) : tFor (iList K (tVar i)) g tb D σ H :=
  ⟨_, hσ, a, rfl, ⟨xs, hS⟩, for_list Pv h0 hl hs hd⟩
theorem forT {a : Addr} {xs : List V} {i : Nat} (Pv : Nat → L2.St → Hp → Prop) (hσ : σ[i]? = some (some (.ref a))) (hS : SqT K H a xs) (h0 : Pv 0 σ H) (hl : ∀ j σ H, j ≤ xs.length → Pv j σ H → SqT K H a xs)
    (hs : ∀ j x σ H, xs[j]? = some x → Pv j σ H → g x σ H fun σ2 H2 => tb { D with nx := Pv (j + 1), ct := Pv (j + 1), bk := D.nx } σ2 H2) (hd : ∀ σ H, Pv xs.length σ H → D.nx σ H) : tFor (iTup K (tVar i)) g tb D σ H :=
  ⟨_, hσ, a, rfl, ⟨xs, hS⟩, for_tup Pv h0 hl hs hd⟩
/-- behind the reckoning of the bound: range(m) -/
theorem forR {ta : TA} {Qx : Hp → Int → Prop} (h : ta σ H fun vs H1 => ∃ m : Int, vs = [.int m] ∧ -(2 ^ 62) ≤ m ∧ m < 2 ^ 62 ∧ ∃ Pv : Nat → L2.St → Hp → Prop, Pv 0 σ H1 ∧
    (∀ j σ H, j < m.toNat → Pv j σ H → g (.int (0 + j)) σ H fun σ2 H2 => tb { D with nx := Pv (j + 1), ct := Pv (j + 1), bk := D.nx } σ2 H2) ∧ (∀ σ H, Pv m.toNat σ H → D.nx σ H))
    (mono : ∀ Q Q' : List V → Hp → Prop, (∀ vs H, Q vs H → Q' vs H) → ta σ H Q → ta σ H Q') : tFor (iRng1 ta) g tb D σ H := by
  refine mono _ _ ?_ h
  rintro vs H1 ⟨m, e, h1, h2, Pv, a, b, c⟩
  exact ⟨m, e, h1, h2, for_range Pv a b c⟩
end
/-! ### dicts -/
section
variable {κ : Type} [DecidableEq κ]
theorem keys_putK (kvs : List (κ × V)) (k : κ) (v : V) (h : (kvs.map (·.1)).Nodup) : ((putK kvs k v).map (·.1)).Nodup := by
  cases e : valV kvs k with
  | none => exact nd_putK v h e
  | some y =>
    have ha : (kvs.any fun kv => decide (kv.1 = k)) = true := by
      unfold valV at e
      cases q : kvs.find? fun kv => decide (kv.1 = k) with
      | none => rw [q] at e; cases e
      | some p => exact List.any_eq_true.mpr ⟨p, List.mem_of_find?_eq_some q, by simpa using List.find?_some q⟩
    unfold putK
    rw [if_pos ha, List.map_map]
    have e2 : ((fun kv : κ × V => kv.1) ∘ fun kv : κ × V => if kv.1 = k then (kv.1, v) else kv) = fun kv => kv.1 := by
      funext p
      show (if p.1 = k then (p.1, v) else p).1 = p.1
      split <;> rfl
    rw [e2]
    exact h
theorem mem_putK {kvs : List (κ × V)} {k : κ} {v : V} {p : κ × V} (h : p ∈ putK kvs k v) : p ∈ kvs ∨ p = (k, v) := by
  unfold putK at h
  split at h
  · obtain ⟨q, hq, e⟩ := List.mem_map.mp h
    split at e
    · rename_i hk
      exact .inr (by rw [← e, hk])
    · exact .inl (by rw [← e]; exact hq)
  · rcases List.mem_append.mp h with h | h
    · exact .inl h
    · exact .inr (List.mem_singleton.mp h)
theorem valV_mem {kvs : List (κ × V)} {k : κ} {v : V} (h : (kvs.map (·.1)).Nodup) (hm : (k, v) ∈ kvs) : valV kvs k = some v := by
  induction kvs with
  | nil => nomatch hm
  | cons p r ih =>
    rw [List.map_cons, List.nodup_cons] at h
    by_cases e : p.1 = k
    · rw [valV_pos e]
      rcases List.mem_cons.mp hm with z | z
      · rw [← z]
      · exact absurd (List.mem_map.mpr ⟨_, z, rfl⟩) (by rw [← e]; exact h.1)
    · rw [valV_neg e]
      rcases List.mem_cons.mp hm with z | z
      · exact absurd (by rw [← z]) e
      · exact ih h.2 z
end
end My

set_option Elab.async false
set_option linter.all false
set_option maxRecDepth 100000
set_option maxHeartbeats 4000000
namespace My
open PySem L2
/-! ### data that stands in tracked tuples and lists -/
mutual
inductive Dq (H : Hp) : V → PyData → Prop
  | non : Dq H .non .none
  | bl (b : Bool) : Dq H (.bl b) (.bool b)
  | int (i : Int) : Dq H (.int i) (.int i)
  | str (x : Str) : Dq H (.str x) (.str x)
  | lst {a : Addr} {xs : List V} {ds : List PyData} : H a = some (.lst xs) → DqAll H xs ds → Dq H (.ref a) (.list ds)
  | tup {a : Addr} {xs : List V} {ds : List PyData} : H a = some (.tup xs) → DqAll H xs ds → Dq H (.ref a) (.tuple ds)
inductive DqAll (H : Hp) : List V → List PyData → Prop
  | nil : DqAll H [] []
  | cons {v : V} {vs : List V} {d : PyData} {ds : List PyData} : Dq H v d → DqAll H vs ds → DqAll H (v :: vs) (d :: ds)
end
mutual
theorem Dq.kp {H H' : Hp} (k : Kp [] H H') : ∀ {d : PyData} {v : V}, Dq H v d → Dq H' v d
  | _, _, .non => .non
  | _, _, .bl b => .bl b
  | _, _, .int i => .int i
  | _, _, .str x => .str x
  | _, _, .lst e h => .lst (k _ _ not0 e) (DqAll.kp k h)
  | _, _, .tup e h => .tup (k _ _ not0 e) (DqAll.kp k h)
theorem DqAll.kp {H H' : Hp} (k : Kp [] H H') : ∀ {ds : List PyData} {vs : List V}, DqAll H vs ds → DqAll H' vs ds
  | _, _, .nil => .nil
  | _, _, .cons h t => .cons (Dq.kp k h) (DqAll.kp k t)
end
mutual
theorem Dq.dp {K : PySem.W.Frag} {H : Hp} : ∀ {d : PyData} {v : V}, Dq H v d → Dp K H v d
  | _, _, .non => .non
  | _, _, .bl b => .bl b
  | _, _, .int i => .int i
  | _, _, .str x => .str x
  | _, _, .lst e h => .lst (sq_l e) (DqAll.dp h)
  | _, _, .tup e h => .tup (sq_t e) (DqAll.dp h)
theorem DqAll.dp {K : PySem.W.Frag} {H : Hp} : ∀ {ds : List PyData} {vs : List V}, DqAll H vs ds → DpAll K H vs ds
  | _, _, .nil => .nil
  | _, _, .cons h t => .cons (Dq.dp h) (DqAll.dp t)
end
theorem DqAll.len {H : Hp} : ∀ {ds : List PyData} {vs : List V}, DqAll H vs ds → vs.length = ds.length
  | _, _, .nil => rfl
  | _, _, .cons h t => by rw [List.length_cons, List.length_cons, t.len]
theorem DqAll.get {H : Hp} : ∀ {ds : List PyData} {vs : List V}, DqAll H vs ds → ∀ {i : Nat} {v : V}, vs[i]? = some v → ∃ d, ds[i]? = some d ∧ Dq H v d
  | _, _, .nil, _, _, e => nomatch e
  | _, _, .cons h t, 0, _, e => by cases e; exact ⟨_, rfl, h⟩
  | _, _, .cons h t, i + 1, _, e => t.get (i := i) e
/-- its class -/
def tyD : PyData → String
  | .none => "NoneType"
  | .bool _ => "bool"
  | .int _ => "int"
  | .str _ => "str"
  | .list _ => "list"
  | .tuple _ => "tuple"
  | _ => "object"
theorem Dq.ty {K : PySem.W.Frag} {H : Hp} {v : V} {d : PyData} (h : Dq H v d) : TyOf K H v (.type (tyD d)) := by
  cases h with
  | non => exact .non
  | bl b => exact .bl b
  | int i => exact .int i
  | str x => exact .str x
  | lst e h => exact .lst e
  | tup e h => exact .tup e
def six (d : PyData) : Prop := match d with
  | .none | .bool _ | .int _ | .str _ | .list _ | .tuple _ => True
  | _ => False
theorem Dq.six {H : Hp} {v : V} {d : PyData} (h : Dq H v d) : six d := by
  cases h <;> exact True.intro
def isStrD : PyData → Bool | .str _ => true | _ => false
def isTupD : PyData → Bool | .tuple _ => true | _ => false
def isLstD : PyData → Bool | .list _ => true | _ => false
def isIntD : PyData → Bool | .int _ | .bool _ => true | _ => false
def isBoolD : PyData → Bool | .bool _ => true | _ => false
section
variable {K : PySem.W.Frag} {H : Hp} {Q : VK} {v : V} {d : PyData}
theorem isi_D (h : Dq H v d) {m : String} {b : Bool} (k : kitB (tyD d) m = some b) (q : Q (.bl b) H) : rIsi K [v, .ty m] H Q := isi_mk h.ty k q
theorem isi_Dstr (h : Dq H v d) (q : Q (.bl (isStrD d)) H) : rIsi K [v, .ty "str"] H Q := isi_D h (by cases h <;> simp only [tyD, isStrD, isTupD, isLstD, isIntD, isBoolD] <;> decide +kernel) q
theorem isi_Dtup (h : Dq H v d) (q : Q (.bl (isTupD d)) H) : rIsi K [v, .ty "tuple"] H Q := isi_D h (by cases h <;> simp only [tyD, isStrD, isTupD, isLstD, isIntD, isBoolD] <;> decide +kernel) q
theorem isi_Dlst (h : Dq H v d) (q : Q (.bl (isLstD d)) H) : rIsi K [v, .ty "list"] H Q := isi_D h (by cases h <;> simp only [tyD, isStrD, isTupD, isLstD, isIntD, isBoolD] <;> decide +kernel) q
theorem isi_Dint (h : Dq H v d) (q : Q (.bl (isIntD d)) H) : rIsi K [v, .ty "int"] H Q := isi_D h (by cases h <;> simp only [tyD, isStrD, isTupD, isLstD, isIntD, isBoolD] <;> decide +kernel) q
theorem isi_Dbool (h : Dq H v d) (q : Q (.bl (isBoolD d)) H) : rIsi K [v, .ty "bool"] H Q := isi_D h (by cases h <;> simp only [tyD, isStrD, isTupD, isLstD, isIntD, isBoolD] <;> decide +kernel) q
end
/-! ### xs.remove(text) -/
def eqs (z : Str) (v : Value) : Bool := match v with
  | .str y _ => y == z
  | _ => false
theorem str_beq' (w z : Str) : (w == z) = (w.cps.toList == z.cps.toList) := by
  rw [Bool.eq_iff_iff, beq_iff_eq, beq_iff_eq]
  constructor
  · rintro rfl; rfl
  · intro h
    obtain ⟨a⟩ := w
    obtain ⟨b⟩ := z
    obtain ⟨a⟩ := a
    obtain ⟨b⟩ := b
    have h' : a = b := h
    rw [h']
def rRemS : V → List V → Hp → VK → Prop := fun x xs H Q => ∃ (l : Addr) (zs : List Str) (z : Str) (j : Nat), x = .ref l ∧ xs = [.str z] ∧ H l = some (.lst (zs.map V.str)) ∧ zs[j]? = some z ∧ (∀ m : Nat, m < j → zs[m]? ≠ some z) ∧ Q .non (upd H l (.lst ((zs.eraseIdx j).map V.str)))
theorem vals_str : ∀ {zs : List Str} {us : List Value}, Vals (zs.map V.str) us → ∀ {i : Nat} {u : Value}, us[i]? = some u → ∃ y t, u = .str y t ∧ zs[i]? = some y
  | [], _, r, _, _, e => by cases r; cases e
  | z :: zs, us, r, i, u, e => by
    rw [List.map_cons] at r
    cases r with
    | cons r0 rt =>
      match i, e with
      | 0, e =>
        cases e
        obtain ⟨t, rfl⟩ := r0
        exact ⟨z, t, rfl, rfl⟩
      | i + 1, e => exact vals_str rt (i := i) e
theorem erase_mapS : ∀ (l : List Str) (j : Nat), (l.map V.str).eraseIdx j = (l.eraseIdx j).map V.str
  | [], j => by simp
  | _ :: _, 0 => by simp
  | _ :: r, j + 1 => by simp [erase_mapS r j]
theorem eqs_ok (w z : Str) (tw t : Tok) : MeetsSeq.EqGives (.str w tw) (.str z t) (eqs z (.str w tw)) := by
  have e : eqs z (.str w tw) = (w.cps.toList == z.cps.toList) := (str_beq' w z)
  rw [e]
  exact SeqRoads2.EqGives.str w z tw t
theorem mt_removeS {X : Cx} : MtM X "list.remove" rRemS := by
  intro pins s σ H x xs v us Q I rx rxs h
  obtain ⟨l, zs, z, j, rfl, rfl, hH, hj, hno, q⟩ := h
  cases rx
  obtain ⟨u, rfl, ru⟩ := rxs.one
  obtain ⟨t, rfl⟩ := ru
  obtain ⟨hz, its, n, r, hl, e⟩ := I.lstM hH
  rw [List.length_map] at hl hz
  have hjn : j < zs.length := (List.getElem?_eq_some_iff.mp hj).1
  have hjl : j < its.toArray.size := by rw [List.size_toArray]; omega
  have each : ∀ y, y ∈ its.toArray → MeetsSeq.EqGives y (.str z t) (eqs z y) := fun y hy => by
    obtain ⟨i, hi, e1⟩ := List.mem_iff_getElem.mp (show y ∈ its by simpa using hy)
    obtain ⟨w, tw, rfl, _⟩ := vals_str r (i := i) (by rw [List.getElem?_eq_getElem hi, e1])
    exact eqs_ok w z tw t
  have at_ : ∀ m (hm : m < its.toArray.size), ∃ t', its.toArray[m] = .str (zs[m]'(by rw [List.size_toArray] at hm; omega)) t' := fun m hm => by
    have hm' : m < its.length := by simpa using hm
    obtain ⟨w, tw, ew, ez⟩ := vals_str r (i := m) (List.getElem?_eq_getElem hm')
    have hmz : m < zs.length := by omega
    rw [List.getElem?_eq_getElem hmz] at ez
    exact ⟨tw, by rw [Option.some.inj ez]; simpa using ew⟩
  refine call_meets PySem.F.slot_list_remove ⟨_, e, rfl⟩ PySem.F.entry_list_remove (PySem.F.args_list_remove_2 _ _) (MeetsSeq.list_remove l its.toArray n (.str z t) (eqs z) each j hjl ?_ ?_ (by rw [List.size_toArray]; omega)) ⟨e, ?_⟩
  · obtain ⟨t', et⟩ := at_ j hjl
    rw [List.getElem?_eq_getElem hjn] at hj
    rw [et, Option.some.inj hj]
    exact beq_self_eq_true z
  · intro m hm hmj
    obtain ⟨t', et⟩ := at_ m hm
    rw [et]
    refine beq_eq_false_iff_ne.mpr fun e2 => hno m hmj ?_
    rw [← e2]
    exact List.getElem?_eq_getElem _
  · have rr := r.eraseIdx j
    rw [erase_mapS] at rr
    refine ⟨.non, _, I.lset (its' := its.eraseIdx j) (t' := s.toks) hH e ?_ rr ?_, rfl, q⟩
    · show its.toArray.eraseIdxIfInBounds j = (its.eraseIdx j).toArray
      rw [List.eraseIdxIfInBounds_toArray]
    · have := List.length_eraseIdx_le zs j
      rw [List.length_map]
      omega
/-! ### repr of data, nothing being shown -/
def rReprD (K : PySem.W.Frag) : List V → Hp → VK → Prop := fun xs H Q => ∃ (a : Addr) (d : PyData), xs = [.ref a] ∧ Dp K H (.ref a) d ∧ d.showable = true ∧ d.hasDict = false ∧ d.depth ≤ 60 ∧ d.shown.length ≤ sizeLine ∧ Q (.str d.shown) H
theorem call_reprD {X : Cx} (gd : X.A.guards = some [] ∧ X.A.units + 64 < cLine) : CallR X (.builtin "repr") (rReprD X.K) := by
  intro pins s σ H xs us Q I r h
  obtain ⟨a, d, rfl, hd, hs, hn, hp, hz, q⟩ := h
  obtain ⟨u, rfl, ru⟩ := vals1 r
  obtain ⟨as, rd⟩ := Dp.reads I d (.ref a) u hd ru
  cases (show u = Value.ref a from ru)
  refine repr_of_reads' rd hs (PyData.noDict_hsm hn) gd.1 (by omega) (fun _ _ e => e) (fun h' t tk hk => ⟨.str _, H, I.kept (t' := tk) hk, ⟨_, rfl⟩, q⟩) hz
/-! ### an own class made where what is raised is wished for at the slots -/
def tMakeS (C : Addr) (sp : Sp) (dvs : List V) (E : L2.St → XK) (t : TA) : TE := fun σ H Q => t σ H fun vs H1 => ∀ o d, H1 o = none → H1 d = none → d ≠ o → sp (.ref o :: (vs ++ dvs)) (upd (upd H1 d (.own o)) o (.ins C d [])) (fun v H2 => v = .non ∧ Q (.ref o) H2) (E σ)
section
variable {X : Cx} {CX : CXT} {k : Nat} {f C : Addr} {fd : FuncData} {ps : List Str} {sp : Sp} {dvs : List V} {ds : List Value} {E : L2.St → XK} {x : Str} {p pos : Pos} {e : Expr} {es : List Expr} {t : TA}
theorem pe_makeS (M : Mk X.K C f) (F : FnOk X.prog X.w X.K X.mg X.base CX k f fd ps sp) (hr : Room (k + 1) X.A) (hg : Gl X x) (hm : X.mg x = some (.ref C)) (hb : Binds X.K fd ps ds) (hd : Vals dvs ds) (hx : ∀ σ, PassesAt CX X σ (E σ)) (ha : PA X (e :: es) t)
    (hdb : (x == ("__debug__" : Str)) = false := by decide) (he : starEach (e :: es) X.env = (false, eval e X.env) :: starEach es X.env := by rfl) (hpl : (backTo pos (starEach es X.env)).any (·.1) = false := by rfl) :
    PE X (.Call (.Name x p) (e :: es) [] pos) (tMakeS C sp dvs E t) := by
  refine ⟨fun pins s σ H Q I h => wpAny_Call_Name_kw (ld_glob I hg hm ?_ hdb)⟩
  refine PySem.W.callWith_K (h₀ := X.base) I.ok.mod.kin M.kp (thn (ha.run pos pins s σ H _ I h) fun us s1 ⟨vs, H1, I1, r, q⟩ => ⟨I1.kIn, ?_⟩) he hpl
  have g0 : H1 (s1.heap.objs.size + 1) = none := I1.hok.fresh (Nat.le_succ _)
  have g1 : H1 s1.heap.objs.size = none := I1.hok.fresh (Nat.le_refl _)
  have todo := q _ _ g0 g1 (Nat.ne_of_lt (Nat.lt_succ_self _))
  have J := Inv.made (C := C) I1
  have rr : Vals (V.ref (s1.heap.objs.size + 1) :: (vs ++ dvs)) (Value.ref (s1.heap.objs.size + 1) :: (us ++ ds)) := .cons rfl (r.append hd)
  have many : (Value.ref (s1.heap.objs.size + 1) :: us ++ ds).length = ps.length := (rr.length.symm.trans (F.len _ _ _ _ todo))
  refine wpAny_call (make_map (f := f) I1.kIn M.makes M.init (beq_iff_eq.mp M.fn) (codeAny_mono (F.run _ X.stack _ _ ⟨_, []⟩ _ _ _ (E σ) (hr.make C us []) (J.env0.make C us []) (hb _ (Value.ref (s1.heap.objs.size + 1) :: us) J.kIn many) rr todo) fun
    | .error er, s2, z => hx σ pins _ _ er s2 J z
    | .ok (.ret u), s2, z => ?_
    | .ok .next, _, z => False.elim z
    | .ok .brk, _, z => False.elim z
    | .ok .cont, _, z => False.elim z))
  obtain ⟨v, H3, J3, rv, rfl, z3⟩ := J.after z
  exact ⟨rv, .ref (s1.heap.objs.size + 1), H3, J3, rfl, z3⟩
end
end My

set_option Elab.async false
set_option linter.all false
set_option maxRecDepth 100000
set_option maxHeartbeats 4000000
/-! ### a list comprehension of two clauses -/
namespace My
open PySem L2
/-- the inner clause: it adds to the list at D; Nx behind it -/
def tLcIn (wi : TI) (g : TG) (tt : TT) (te : TE) (vs : List Nat) (D : Addr) (σ : L2.St) (H : Hp) (Nx : Hp → Prop) : Prop := wi σ H fun J H1 => ∃ W : Nat → Nat → Hp → Prop, (∃ m, W 0 m H1) ∧ ∀ i m H, W i m H →
  (J.stop i H ∧ Nx H) ∨ (J.go i H ∧ ∃ N2 : Hp → Prop, (∀ H', N2 H' → ∃ m', m' < m ∧ W (i + 1) m' H') ∧ ∀ x H', J.yld i H x H' → g x (wipe σ vs) H' fun σ2 H2 => wipe σ2 vs = wipe σ vs ∧ tt σ2 H2 fun b H3 =>
    if b = true then te σ2 H3 fun y H4 => ∃ acc, H4 D = some (.lst acc) ∧ acc.length < sizeLine ∧ N2 (upd H4 D (.lst (acc ++ [y]))) else N2 H3)
def tLc2 (wi1 : TI) (g1 : TG) (tt1 : TT) (wi2 : TI) (g2 : TG) (tt2 : TT) (te : TE) (vs vs2 : List Nat) : TE := fun σ H Q => wi1 σ H fun J H1 => ∀ D, H1 D = none → ∃ W : Nat → Nat → Hp → Prop, (∃ m, W 0 m (upd H1 D (.lst []))) ∧ ∀ i m H, W i m H →
  (J.stop i H ∧ Q (.ref D) H) ∨ (J.go i H ∧ ∃ Nx : Hp → Prop, (∀ H', Nx H' → ∃ m', m' < m ∧ W (i + 1) m' H') ∧ ∀ x H', J.yld i H x H' → g1 x (wipe σ vs) H' fun σ2 H2 => wipe σ2 vs = wipe σ vs ∧ tt1 σ2 H2 fun b H3 =>
    if b = true then tLcIn wi2 g2 tt2 te vs2 D σ2 H3 Nx else Nx H3)
section
variable {X : Cx} {elt t1 it1 t2 it2 : Expr} {ifs1 ifs2 : List Expr} {scope : Scope} {pos : Pos} {wi1 wi2 : TI} {g1 g2 : TG} {tt1 tt2 : TT} {te : TE} {vs vs2 : List Nat}
theorem lc2_in (hx : X.xe = fun _ _ => False) (hc : X.calm = true) (hi : PI X t2 it2 wi2) (pg : PG X t2 g2) (pt : PTs X ifs2 tt2) (pe : PE X elt te) {pins : List (Addr × Obj)} {s : Shared} {σ : L2.St} {H : Hp} {D : Addr} {Nx : Hp → Prop} (I : Inv X pins σ H s) (h : tLcIn wi2 g2 tt2 te vs2 D σ H Nx) :
    wpAny (model X.prog X.w) X.A (eval it2 X.env) (fun xv s1 => wpAny (model X.prog X.w) X.A (pyIter xv) (fun itv s2 => ∀ (R : Result → Shared → Prop), (∀ s' H', Inv X pins (wipe σ vs2) H' s' → Nx H' → R (.ok .next) s') →
      codeAny (model X.prog X.w) X.A (.compStart (.ListComp elt [⟨t1, it1, ifs1, 0⟩, ⟨t2, it2, ifs2, 0⟩] scope pos) 1 itv (.ref D) X.env) R s2) (fun _ _ => False) s1) (fun _ _ => False) s := by
  have key := hi.run pins s σ H _ I h
  rw [hx] at key
  refine wpAny_mono key (fun xv s1 h1 => wpAny_mono h1 (fun itv s2 h2 => ?_) fun _ _ z => z) fun _ _ z => z
  obtain ⟨it, fp, tn, J, H2, e, I2, T, st2, f2, W, ⟨m0, w0⟩, turn⟩ := h2
  subst e
  intro R fin
  have stat : ∀ {H' : Hp}, (∀ b ∈ fp, H' b = none) → ∀ b ∈ fp, FpOk X pins H' b := fun hn b hb => ⟨hn b hb, (f2 b hb).2⟩
  have I2w : Inv X pins (wipe σ vs2) H2 s2 := I2.weak (wipe_length ..) (fun j v e => (wipe_some e).1)
  have loop : codeAny (model X.prog X.w) X.A (.compLoop (.ListComp elt [⟨t1, it1, ifs1, 0⟩, ⟨t2, it2, ifs2, 0⟩] scope pos) 1 (.ref it) (.ref D) X.env) R s2 := by
    refine codeAny_loop rfl (fun n s' => ∃ i H', Inv X pins (wipe σ vs2) H' s' ∧ tn i s'.heap ∧ (∀ b ∈ fp, H' b = none) ∧ W i n H') ?_ m0 ⟨0, H2, I2w, st2, fun b hb => (f2 b hb).1, w0⟩
    rintro n s3 ⟨i, H3, I3, st3, fr3, w3⟩
    show wpAny _ X.A ((compTurn (.ListComp elt [⟨t1, it1, ifs1, 0⟩, ⟨t2, it2, ifs2, 0⟩] scope pos) 1 (.ref it) (.ref D) X.env).onRaise (fun x => do noteFrame x X.env; theTreesLotGoes x)) _ _ s3
    refine wpAny_noted ?_
    rw [compTurn_list2_in]
    refine wpAny_bind (wpAny_standAt ?_)
    rcases turn i n H3 w3 with ⟨stop, qn⟩ | ⟨go, N2, hN, step⟩
    · refine wpAny_bind (thnF (T.done X rfl rfl rfl hc i pins s3 _ H3 (fun _ _ => False) I3 (stat fr3) st3 stop) fun r s4 hr => ?_)
      obtain ⟨hr, I4⟩ := hr
      subst hr
      exact wpAny_pure (fin s4 H3 I4 qn)
    · refine wpAny_bind (thnF (T.item X rfl rfl rfl hc i pins s3 _ H3 (fun _ _ => False) I3 (stat fr3) st3 go) fun r s4 hr => ?_)
      obtain ⟨u, hr, h4⟩ := hr
      subst hr
      refine wpAny_bind (thnF h4 fun _ s5 h5 => ?_)
      obtain ⟨x, H5, I5, r5, y5, st5, fr5⟩ := h5
      have I5' := I5.pinned (stat fr5) (T.obj _ _ st5)
      have kg := pg.run _ s5 _ H5 x u _ I5' r5 (step x H5 y5)
      rw [hx] at kg
      refine wpAny_bind (thnF kg fun _ s6 h6 => ?_)
      obtain ⟨σ6, H6, I6, hw6, q6⟩ := h6
      have kt := pt.run _ s6 σ6 H6 _ I6 q6
      rw [hx] at kt
      refine wpAny_bind (thnF kt fun b s7 h7 => ?_)
      obtain ⟨H7, I7, q7⟩ := h7
      have again : ∀ {s' : Shared} {H' : Hp}, Inv X (pins ++ pinsAt fp s5.heap) σ6 H' s' → N2 H' → ∃ m, m < n ∧ ∃ i H', Inv X pins (wipe σ vs2) H' s' ∧ tn i s'.heap ∧ (∀ b ∈ fp, H' b = none) ∧ W i m H' := fun {s' H'} I' n7 => by
        obtain ⟨m', hm, w7⟩ := hN H' n7
        have hl : (wipe σ vs2).length = σ6.length := by rw [← hw6, wipe_length]
        refine ⟨m', hm, i + 1, H', (I'.unpinned (pins := pins)).weak hl (fun j v e => ?_), T.keep _ _ _ st5 fun b hb o e => (I'.pin (b, o) (List.mem_append_right _ (List.mem_append_right _ (mem_pinsAt hb e)))).1, fun b hb => ?_, w7⟩
        · rw [← hw6] at e
          exact (wipe_some e).1
        · obtain ⟨o, e, d⟩ := T.obj _ _ st5 b hb
          exact (I'.pin (b, o) (List.mem_append_right _ (List.mem_append_right _ (mem_pinsAt hb e)))).2.1
      cases b with
      | false =>
        simp only [Bool.false_eq_true, if_false] at q7 ⊢
        exact wpAny_pure ⟨rfl, again I7 q7⟩
      | true =>
        simp only [if_true] at q7 ⊢
        have ke := pe.run _ s7 σ6 H7 _ I7 q7
        rw [hx] at ke
        refine wpAny_bind (wpAny_bind (thnF ke fun z s8 h8 => ?_))
        obtain ⟨yv, H8, I8, r8, acc, hD8, hz8, nx⟩ := h8
        exact wpAny_bind (app_ok (X := X) I8 hD8 hz8 r8 fun s9 I9 => wpAny_pure (wpAny_pure ⟨rfl, again I9 nx⟩))
  exact compStart_list2_in loop (T.self X.A 0 _ _ _ st2 loop)
theorem lc2_core {own : List (Str × Nat)} (hc : X.calm = true) (hN : X.N.Nodup) (first : PI X t1 it1 wi1) (ok : BlkOk X.N X.env.scope scope own) (sub : ∀ j ∈ vs2, j ∈ own.map (·.2))
    (P1 : ∀ (s : Shared) (H : Hp) (C : Addr) (cl : List (Str × Addr)) (fp : List Addr), PG (X.blk s H scope (compEnvC scope cl C X.env) fp) t1 g1) (C1 : ∀ (s : Shared) (H : Hp) (C : Addr) (cl : List (Str × Addr)) (fp : List Addr), PTs (X.blk s H scope (compEnvC scope cl C X.env) fp) ifs1 tt1)
    (I2 : ∀ (s : Shared) (H : Hp) (C : Addr) (cl : List (Str × Addr)) (fp : List Addr), PI (X.blk s H scope (compEnvC scope cl C X.env) fp) t2 it2 wi2)
    (P2 : ∀ (s : Shared) (H : Hp) (C : Addr) (cl : List (Str × Addr)) (fp : List Addr), PG (X.blk s H scope (compEnvC scope cl C X.env) fp) t2 g2) (C2 : ∀ (s : Shared) (H : Hp) (C : Addr) (cl : List (Str × Addr)) (fp : List Addr), PTs (X.blk s H scope (compEnvC scope cl C X.env) fp) ifs2 tt2)
    (el : ∀ (s : Shared) (H : Hp) (C : Addr) (cl : List (Str × Addr)) (fp : List Addr), PE (X.blk s H scope (compEnvC scope cl C X.env) fp) elt te)
    (h1 : ∀ x, foldedSetIterable it1 X.env x = pure x ) (h2 : ∀ (C : Addr) (cl : List (Str × Addr)) x, foldedSetIterable it2 (compEnvC scope cl C X.env) x = pure x ) {pins : List (Addr × Obj)} {s : Shared} {σ : L2.St} {H : Hp} {Q : VK} {use : Option (Value → Sem Unit)} {Qf : Value → Shared → Prop} (I : Inv X pins σ H s) (rd : tLc2 wi1 g1 tt1 wi2 g2 tt2 te (own.map (·.2)) vs2 σ H Q)
    (behind : ∀ D C s' m H', Inv X pins σ H' s' → Q (.ref D) H' → s'.heap.Ns C m → FpOk X pins H' C → compPost (model X.prog X.w) X.A X.xe use Qf (.ref D) C (.ok .next) s') :
    wpAny (model X.prog X.w) X.A (comprehension (.ListComp elt [⟨t1, it1, ifs1, 0⟩, ⟨t2, it2, ifs2, 0⟩] scope pos) scope X.env (firstIterPos [⟨t1, it1, ifs1, 0⟩, ⟨t2, it2, ifs2, 0⟩] pos) (newList []) false (eval it1 X.env) use) Qf X.xe s := by
  have closed : ∀ y ∈ scope.names, y.2 = .free → ∃ c, X.env.cells.lookup y.1 = some c := fun y hy e =>
    (ok.free y hy e).elim (fun k => I.ok.has _ (.inl k)) (fun k => I.ok.has _ (.inr k))
  refine wpAny_comprehension_free (use := use) rfl h1 (closure_ok closed) ok.kind (fun y hy e => by rw [ok.uniq y hy, e]) (thn (first.run pins s σ H _ I rd) fun xv sA hA => thn hA fun itv sB hB => ?_)
  obtain ⟨it, fp, tn, J, HB, rfl, IB, T, stB, fB, q⟩ := hB
  refine wpAny_newObj_type (newEnv_comp ?_) (by show 0 ≤ sizeLine; decide)
  generalize hD : sB.heap.objs.size = D
  have noD : HB D = none := IB.hok.fresh (Nat.le_of_eq hD)
  obtain ⟨W, ⟨m0, w0⟩, turn⟩ := q D noD
  generalize hs3 : ({ sB with heap := sB.heap.push { cls := .type "list", data := .seq ([] : List Value).toArray } } : Shared) = s3
  have I3 : Inv X pins σ (upd HB D (.lst [])) s3 := by
    rw [← hs3]
    exact IB.laid (t' := sB.toks) (fun b o e => Heap.get?_push_of_some _ e) (Nat.le_of_eq hD) ⟨Nat.zero_le _, [], 0, .nil, by rw [← hD]; exact Heap.get?_push_size _ rfl⟩
  have h3 : s3.heap = sB.heap.push { cls := .type "list", data := .seq ([] : List Value).toArray } := by rw [← hs3]
  have f3 : ∀ b ∈ fp, FpOk X pins (upd HB D (.lst [])) b ∧ b < s3.heap.objs.size := fun b hb => by
    obtain ⟨o, e, _⟩ := T.obj _ _ stB b hb
    have lt : b < sB.heap.objs.size := Heap.lt_size e
    have ne : b ≠ D := by rw [← hD]; exact Nat.ne_of_lt lt
    exact ⟨⟨by rw [upd_ne ne]; exact (fB b hb).1, (fB b hb).2⟩, by rw [h3, Heap.size_push]; exact Nat.lt_succ_of_lt lt⟩
  have st3 : tn 0 s3.heap := T.keep _ _ _ stB fun b _ o e => by rw [h3]; exact Heap.get?_push_of_some _ e
  have I4 := block_start I3 ok hN f3
  have p1 := P1 s3 (upd HB D (.lst [])) s3.heap.objs.size (cellsFrom (s3.heap.objs.size + 1) scope.names (cloFrom X.env.cells scope.names [])) fp
  have c1 := C1 s3 (upd HB D (.lst [])) s3.heap.objs.size (cellsFrom (s3.heap.objs.size + 1) scope.names (cloFrom X.env.cells scope.names [])) fp
  have i2 := I2 s3 (upd HB D (.lst [])) s3.heap.objs.size (cellsFrom (s3.heap.objs.size + 1) scope.names (cloFrom X.env.cells scope.names [])) fp
  have p2 := P2 s3 (upd HB D (.lst [])) s3.heap.objs.size (cellsFrom (s3.heap.objs.size + 1) scope.names (cloFrom X.env.cells scope.names [])) fp
  have c2 := C2 s3 (upd HB D (.lst [])) s3.heap.objs.size (cellsFrom (s3.heap.objs.size + 1) scope.names (cloFrom X.env.cells scope.names [])) fp
  have e2 := el s3 (upd HB D (.lst [])) s3.heap.objs.size (cellsFrom (s3.heap.objs.size + 1) scope.names (cloFrom X.env.cells scope.names [])) fp
  have fold2 := h2 s3.heap.objs.size (cellsFrom (s3.heap.objs.size + 1) scope.names (cloFrom X.env.cells scope.names []))
  show codeAny _ _ (.compStart (.ListComp elt [⟨t1, it1, ifs1, 0⟩, ⟨t2, it2, ifs2, 0⟩] scope pos) 0 (.ref it) (.ref D) (compEnvC scope (cellsFrom (s3.heap.objs.size + 1) scope.names (cloFrom X.env.cells scope.names [])) s3.heap.objs.size X.env)) (compPost (model X.prog X.w) X.A X.xe use Qf (.ref D) s3.heap.objs.size) { s3 with heap := pushCells (s3.heap.push { cls := .type "dict", data := .dict #[] }) scope.names }
  have nfp : ∀ b ∈ fp, (upd HB D (.lst [])) b = none := fun b hb => (f3 b hb).1.1
  generalize hce : compEnvC scope (cellsFrom (s3.heap.objs.size + 1) scope.names (cloFrom X.env.cells scope.names [])) s3.heap.objs.size X.env = ce at I4 p1 c1 i2 p2 c2 e2 fold2 ⊢
  have cL : ce.locals = s3.heap.objs.size := by subst hce; rfl
  generalize hH3 : upd HB D (.lst []) = H3 at I3 I4 p1 c1 i2 p2 c2 e2 w0 nfp f3
  generalize hs4 : ({ s3 with heap := pushCells (s3.heap.push { cls := .type "dict", data := .dict #[] }) scope.names } : Shared) = s4 at I4 ⊢
  have st4 : tn 0 s4.heap := T.keep _ _ _ st3 fun b _ o e => by rw [← hs4]; exact pushCells_keeps _ _ _ _ (Heap.get?_push_of_some _ e)
  have stat : ∀ {σ' : L2.St} {H' : Hp} {s' : Shared}, Inv (X.blk s3 H3 scope ce fp) [] σ' H' s' → (∀ b ∈ fp, H' b = none) → ∀ b ∈ fp, FpOk (X.blk s3 H3 scope ce fp) [] H' b := fun {σ' H' s'} I' hn b hb =>
    ⟨hn b hb, (I'.ok.exf b hb).1, I'.ok.exfs b hb, .inl hb, fun x c e => (I'.ok.exf b hb).2 x c e, fun p hp => absurd (show p ∈ ([] : List (Addr × Obj)) ++ [] from hp) (by simp)⟩
  have loop : codeAny (model X.prog X.w) X.A (.compLoop (.ListComp elt [⟨t1, it1, ifs1, 0⟩, ⟨t2, it2, ifs2, 0⟩] scope pos) 0 (.ref it) (.ref D) ce) (compPost (model X.prog X.w) X.A X.xe use Qf (.ref D) s3.heap.objs.size) s4 := by
    refine codeAny_loop rfl (fun n s' => ∃ i H', Inv (X.blk s3 H3 scope ce fp) [] (wipe σ (own.map (·.2))) H' s' ∧ tn i s'.heap ∧ (∀ b ∈ fp, H' b = none) ∧ W i n H') ?_ m0 ⟨0, H3, I4, st4, nfp, w0⟩
    rintro n s5 ⟨i, H5, I5, st5, n5, w5⟩
    show wpAny _ X.A ((compTurn (.ListComp elt [⟨t1, it1, ifs1, 0⟩, ⟨t2, it2, ifs2, 0⟩] scope pos) 0 (.ref it) (.ref D) ce).onRaise (fun x => do noteFrame x ce; theTreesLotGoes x)) _ _ s5
    refine wpAny_noted ?_
    rw [compTurn_list2_out]
    refine wpAny_bind (wpAny_standAt ?_)
    rcases turn i n H5 w5 with ⟨stop, qq⟩ | ⟨go, Nx, hNx, step⟩
    · refine wpAny_bind (thnF (T.done (X.blk s3 H3 scope ce fp) rfl rfl rfl hc i [] s5 _ H5 (fun _ _ => False) I5 (stat I5 n5) st5 stop) fun r s6 hr => ?_)
      obtain ⟨hr, I6⟩ := hr
      subst hr
      refine wpAny_pure ?_
      have I7 : Inv X pins σ H5 s6 := I3.call' (ch := fp) I6.os I6.base I6.hok I6.bare fun b hb => ⟨(f3 b hb).1.2.2.2.1, (f3 b hb).1.2.1, (f3 b hb).1.2.2.2.2.1, (f3 b hb).1.2.2.2.2.2⟩
      have nC : H5 s3.heap.objs.size = none := by
        have z : H5 ce.locals = none := I6.free
        rw [cL] at z
        exact z
      obtain ⟨m, hn, _⟩ := I6.loc
      have hn : s6.heap.Ns ce.locals m := hn
      rw [cL] at hn
      exact behind D s3.heap.objs.size s6 m H5 I7 qq hn (I3.fpOk (Nat.le_refl _) nC)
    · refine wpAny_bind (thnF (T.item (X.blk s3 H3 scope ce fp) rfl rfl rfl hc i [] s5 _ H5 (fun _ _ => False) I5 (stat I5 n5) st5 go) fun r s6 hr => ?_)
      obtain ⟨u, hr, h6⟩ := hr
      subst hr
      refine wpAny_bind (thnF h6 fun _ s7 h7 => ?_)
      obtain ⟨x, H7, I7, r7, y7, st7, n7⟩ := h7
      have I7' := I7.pinned (stat I7 n7) (T.obj _ _ st7)
      refine wpAny_bind (thnF (p1.run _ s7 _ H7 x u _ I7' r7 (step x H7 y7)) fun _ s8 h8 => ?_)
      obtain ⟨σ8, H8, I8, hw8, q8⟩ := h8
      refine wpAny_bind (thnF (c1.run _ s8 σ8 H8 _ I8 q8) fun b s9 h9 => ?_)
      obtain ⟨H9, I9, q9⟩ := h9
      have back : ∀ {s' : Shared} {σ' : L2.St} {H' : Hp}, Inv (X.blk s3 H3 scope ce fp) ([] ++ pinsAt fp s7.heap) σ' H' s' → (wipe σ (own.map (·.2))).length = σ'.length → (∀ (j : Nat) (v : V), (wipe σ (own.map (·.2)))[j]? = some (some v) → σ'[j]? = some (some v)) → Nx H' →
          ∃ m, m < n ∧ ∃ i H', Inv (X.blk s3 H3 scope ce fp) [] (wipe σ (own.map (·.2))) H' s' ∧ tn i s'.heap ∧ (∀ b ∈ fp, H' b = none) ∧ W i m H' := fun {s' σ' H'} I' hl hv nx => by
        obtain ⟨m', hm, w'⟩ := hNx H' nx
        refine ⟨m', hm, i + 1, H', (I'.unpinned (pins := [])).weak hl hv, T.keep _ _ _ st7 fun b hb o e => (I'.pin (b, o) (List.mem_append_right _ (List.mem_append_right _ (mem_pinsAt hb e)))).1, fun b hb => ?_, w'⟩
        obtain ⟨o, e, _⟩ := T.obj _ _ st7 b hb
        exact (I'.pin (b, o) (List.mem_append_right _ (List.mem_append_right _ (mem_pinsAt hb e)))).2.1
      have hl8 : (wipe σ (own.map (·.2))).length = σ8.length := by rw [← hw8, wipe_length]
      cases b with
      | false =>
        simp only [Bool.false_eq_true, if_false] at q9 ⊢
        exact wpAny_pure ⟨rfl, back I9 hl8 (fun j v e => by rw [← hw8] at e; exact (wipe_some e).1) q9⟩
      | true =>
        simp only [if_true] at q9 ⊢
        refine wpAny_bind (thnF (lc2_in (X := X.blk s3 H3 scope ce fp) (t1 := t1) (it1 := it1) (ifs1 := ifs1) (scope := scope) (pos := pos) rfl hc i2 p2 c2 e2 I9 q9) fun xv s10 h10 => ?_)
        refine wpAny_bind (wpAny_standAt (wpAny_bind (wpAny_of_eq (fold2 xv) ?_)))
        refine wpAny_bind (wpAny_holding (thnF h10 fun itv s11 h11 => ?_))
        refine wpAny_bind (wpAny_runOwn ?_)
        refine h11 _ fun s' H' I' nx => ?_
        refine wpAny_pure ⟨rfl, back I' (by rw [wipe_length, wipe_length]; rw [wipe_length] at hl8; exact hl8) (fun j v e => ?_) nx⟩
        rw [← hw8] at e
        have z := wipe_some e
        rw [wipe_out fun hj => z.2 (sub j hj)]
        exact z.1
  exact codeAny_compStart_list loop (T.self X.A 0 _ _ _ st4 loop)
/-- [elt for t1 in it1 if .. for t2 in it2 if ..] -/
theorem pe_lc2 {own : List (Str × Nat)} (hc : X.calm = true) (hN : X.N.Nodup) (first : PI X t1 it1 wi1) (ok : BlkOk X.N X.env.scope scope own) (sub : ∀ j ∈ vs2, j ∈ own.map (·.2))
    (P1 : ∀ (s : Shared) (H : Hp) (C : Addr) (cl : List (Str × Addr)) (fp : List Addr), PG (X.blk s H scope (compEnvC scope cl C X.env) fp) t1 g1) (C1 : ∀ (s : Shared) (H : Hp) (C : Addr) (cl : List (Str × Addr)) (fp : List Addr), PTs (X.blk s H scope (compEnvC scope cl C X.env) fp) ifs1 tt1)
    (I2 : ∀ (s : Shared) (H : Hp) (C : Addr) (cl : List (Str × Addr)) (fp : List Addr), PI (X.blk s H scope (compEnvC scope cl C X.env) fp) t2 it2 wi2)
    (P2 : ∀ (s : Shared) (H : Hp) (C : Addr) (cl : List (Str × Addr)) (fp : List Addr), PG (X.blk s H scope (compEnvC scope cl C X.env) fp) t2 g2) (C2 : ∀ (s : Shared) (H : Hp) (C : Addr) (cl : List (Str × Addr)) (fp : List Addr), PTs (X.blk s H scope (compEnvC scope cl C X.env) fp) ifs2 tt2)
    (el : ∀ (s : Shared) (H : Hp) (C : Addr) (cl : List (Str × Addr)) (fp : List Addr), PE (X.blk s H scope (compEnvC scope cl C X.env) fp) elt te)
    (h1 : ∀ x, foldedSetIterable it1 X.env x = pure x := by intro _; rfl) (h2 : ∀ (C : Addr) (cl : List (Str × Addr)) x, foldedSetIterable it2 (compEnvC scope cl C X.env) x = pure x := by intro _ _ _; rfl) :
    PE X (.ListComp elt [⟨t1, it1, ifs1, 0⟩, ⟨t2, it2, ifs2, 0⟩] scope pos) (tLc2 wi1 g1 tt1 wi2 g2 tt2 te (own.map (·.2)) vs2) := by
  refine ⟨fun pins s σ H Q I rd => ?_⟩
  rw [eval_ListComp]
  refine lc2_core hc hN first ok sub P1 C1 I2 P2 C2 el h1 h2 I rd fun D C s' m H' I' q hn f => ⟨m, hn, fun h'' sb => ?_⟩
  obtain ⟨f0, f1, f2, f3, f4, f5⟩ := f
  exact ⟨.ref D, H', I'.turned (t' := s'.toks) (fun b o hb e => (sb.2 b hb).trans e) f0 f1 f3 f4 f5, rfl, q⟩
/-- name = [..] on one row, the name a local -/
theorem ps_setLc2 {i : Nat} {y : Str} {py spos : Pos} {own : List (Str × Nat)} (hc : X.calm = true) (hN : X.N.Nodup) (hy : X.N[i]? = some y) (hyl : X.env.scope.names.lookup y = some .local)
    (hsw : swapsWith (.ListComp elt [⟨t1, it1, ifs1, 0⟩, ⟨t2, it2, ifs2, 0⟩] scope pos) (some (.Name y py)) spos.line X.env = pure true) (first : PI X t1 it1 wi1) (ok : BlkOk X.N X.env.scope scope own) (sub : ∀ j ∈ vs2, j ∈ own.map (·.2))
    (P1 : ∀ (s : Shared) (H : Hp) (C : Addr) (cl : List (Str × Addr)) (fp : List Addr), PG (X.blk s H scope (compEnvC scope cl C X.env) fp) t1 g1) (C1 : ∀ (s : Shared) (H : Hp) (C : Addr) (cl : List (Str × Addr)) (fp : List Addr), PTs (X.blk s H scope (compEnvC scope cl C X.env) fp) ifs1 tt1)
    (I2 : ∀ (s : Shared) (H : Hp) (C : Addr) (cl : List (Str × Addr)) (fp : List Addr), PI (X.blk s H scope (compEnvC scope cl C X.env) fp) t2 it2 wi2)
    (P2 : ∀ (s : Shared) (H : Hp) (C : Addr) (cl : List (Str × Addr)) (fp : List Addr), PG (X.blk s H scope (compEnvC scope cl C X.env) fp) t2 g2) (C2 : ∀ (s : Shared) (H : Hp) (C : Addr) (cl : List (Str × Addr)) (fp : List Addr), PTs (X.blk s H scope (compEnvC scope cl C X.env) fp) ifs2 tt2)
    (el : ∀ (s : Shared) (H : Hp) (C : Addr) (cl : List (Str × Addr)) (fp : List Addr), PE (X.blk s H scope (compEnvC scope cl C X.env) fp) elt te)
    (h1 : ∀ x, foldedSetIterable it1 X.env x = pure x := by intro _; rfl) (h2 : ∀ (C : Addr) (cl : List (Str × Addr)) x, foldedSetIterable it2 (compEnvC scope cl C X.env) x = pure x := by intro _ _ _; rfl) :
    PS X (.Assign [.Name y py] (.ListComp elt [⟨t1, it1, ifs1, 0⟩, ⟨t2, it2, ifs2, 0⟩] scope pos) spos) (tAsg (tLc2 wi1 g1 tt1 wi2 g2 tt2 te (own.map (·.2)) vs2) (gName i)) := by
  refine ⟨fun pins s σ H D I h => ?_⟩
  rw [exec_Assign_Name_used _ _ _ _ hsw]
  refine wpAny_bind (wpAny_standAt (wpAny_bind ?_))
  show wpAny _ X.A (do let _ ← comprehension (.ListComp elt [⟨t1, it1, ifs1, 0⟩, ⟨t2, it2, ifs2, 0⟩] scope pos) scope X.env (firstIterPos [⟨t1, it1, ifs1, 0⟩, ⟨t2, it2, ifs2, 0⟩] pos) (newList []) false (eval it1 X.env) (some (assign (.Name y py) X.env))) _ _ s
  have h : tLc2 wi1 g1 tt1 wi2 g2 tt2 te (own.map (·.2)) vs2 σ H (fun x H1 => gName i x σ H1 D.nx) := h
  refine wpAny_bind (thn (lc2_core (Qf := fun _ s' => SP X pins D .next s') hc hN first ok sub P1 C1 I2 P2 C2 el h1 h2 I h fun L C s' m H' I' q hn f => ?_) fun _ s' hq => wpAny_pure (wpAny_pure hq))
  show wpAny _ _ (assign (.Name y py) X.env (.ref L)) _ _ _
  refine wpAny_assign_Name (store_ok2 (v := V.ref L) I' hN hy (.inl hyl) rfl (fun s2 J ⟨a, sb, ha⟩ => ?_) (.inr hyl))
  obtain ⟨f0, f1, f2, f3, f4, f5⟩ := f
  have ne : C ≠ a := ha.elim (fun z => by rw [z]; exact f1) fun z e => f4 y a z e.symm
  exact ⟨m, hn.sameBut sb ne, fun h3 sb3 => ⟨_, H', J.turned (t' := s2.toks) (fun b o hb e => (sb3.2 b hb).trans e) f0 f1 f3 f4 f5, q⟩⟩
end
end My

set_option Elab.async false
set_option linter.all false
set_option maxRecDepth 100000
set_option maxHeartbeats 4000000
/-! ### [te for p in range(m) for q in range(n)] -/
namespace My
open PySem L2
theorem it_range {m : Nat} {W0 : Hp → Prop} (Pv : Nat → Hp → Prop) {H : Hp} (h0 : Pv 0 H) {Nx : Hp → Prop} {g : TG} {tt : TT} {te : TE} {vs : List Nat} {σ : L2.St} {D : Addr}
    (step : ∀ i H', i < m → Pv i H' → g (.int (i : Nat)) (wipe σ vs) H' fun σ2 H2 => wipe σ2 vs = wipe σ vs ∧ tt σ2 H2 fun b H3 => if b = true then te σ2 H3 fun y H4 => ∃ acc, H4 D = some (.lst acc) ∧ acc.length < sizeLine ∧ Pv (i + 1) (upd H4 D (.lst (acc ++ [y]))) else Pv (i + 1) H3)
    (fin : ∀ H', Pv m H' → Nx H') : ∃ W : Nat → Nat → Hp → Prop, (∃ k, W 0 k H) ∧ ∀ i k H, W i k H →
  ((Itr 0 m).stop i H ∧ Nx H) ∨ ((Itr 0 m).go i H ∧ ∃ N2 : Hp → Prop, (∀ H', N2 H' → ∃ m', m' < k ∧ W (i + 1) m' H') ∧ ∀ x H', (Itr 0 m).yld i H x H' → g x (wipe σ vs) H' fun σ2 H2 => wipe σ2 vs = wipe σ vs ∧ tt σ2 H2 fun b H3 =>
    if b = true then te σ2 H3 fun y H4 => ∃ acc, H4 D = some (.lst acc) ∧ acc.length < sizeLine ∧ N2 (upd H4 D (.lst (acc ++ [y]))) else N2 H3) := by
  refine ⟨fun i k H => k + i = m ∧ Pv i H, ⟨m, rfl, h0⟩, fun i k H h => ?_⟩
  obtain ⟨e, p⟩ := h
  rcases Nat.lt_or_ge i m with lt | ge
  · refine .inr ⟨lt, Pv (i + 1), fun H' p' => ⟨k - 1, by omega, by omega, p'⟩, fun x H' y => ?_⟩
    obtain ⟨rfl, rfl⟩ := y
    rw [Int.zero_add]
    exact step i H' lt p
  · have z : i = m := by omega
    exact .inl ⟨by subst z; first | rfl | exact Nat.le_refl _, fin H (by rw [← z]; exact p)⟩
theorem lc2Rg {ta tb : TA} {te : TE} {σ : L2.St} {H : Hp} {Q : VK} {p q : Nat} (m n : Nat) (hm : m ≤ 1000) (hn : n ≤ 1000) (Pv : Addr → Nat → Nat → Hp → Prop)
    (ha : ∀ R : List V → Hp → Prop, R [.int (m : Nat)] H → ta σ H R)
    (hb : ∀ (D : Addr) (i : Nat) (H' : Hp) (R : List V → Hp → Prop), H D = none → i < m → Pv D i 0 H' → R [.int (n : Nat)] H' → tb ((wipe σ [p, q]).set p (some (.int (i : Nat)))) H' R)
    (hw1 : ∀ x, wipe ((wipe σ [p, q]).set p (some x)) [p, q] = wipe σ [p, q])
    (hw2 : ∀ x y, wipe ((wipe ((wipe σ [p, q]).set p (some x)) [q]).set q (some y)) [q] = wipe ((wipe σ [p, q]).set p (some x)) [q])
    (h0 : ∀ D, H D = none → Pv D 0 0 (upd H D (.lst [])))
    (body : ∀ (D : Addr) (i j : Nat) (H' : Hp), H D = none → i < m → j < n → Pv D i j H' → te ((wipe ((wipe σ [p, q]).set p (some (.int (i : Nat)))) [q]).set q (some (.int (j : Nat)))) H' fun y H4 => ∃ acc, H4 D = some (.lst acc) ∧ acc.length < sizeLine ∧ Pv D i (j + 1) (upd H4 D (.lst (acc ++ [y]))))
    (nextRow : ∀ (D : Addr) (i : Nat) (H' : Hp), Pv D i n H' → Pv D (i + 1) 0 H') (fin : ∀ D H', H D = none → Pv D m 0 H' → Q (.ref D) H') :
    tLc2 (iRng1 ta) (gName p) tYes (iRng1 tb) (gName q) tYes te [p, q] [q] σ H Q := by
  refine ha _ ⟨(m : Nat), rfl, by omega, by omega, fun D nD => ?_⟩
  rw [Int.toNat_natCast]
  refine ⟨fun i k H' => k + i = m ∧ Pv D i 0 H', ⟨m, rfl, h0 D nD⟩, fun i k H1 h => ?_⟩
  obtain ⟨e, pv⟩ := h
  rcases Nat.lt_or_ge i m with lt | ge
  · refine .inr ⟨lt, Pv D (i + 1) 0, fun H' p' => ⟨k - 1, by omega, by omega, p'⟩, fun x H' y => ?_⟩
    obtain ⟨rfl, rfl⟩ := y
    rw [Int.zero_add]
    refine ⟨hw1 _, ?_⟩
    simp only [tYes, if_true]
    refine hb D i H' _ nD lt pv ⟨(n : Nat), rfl, by omega, by omega, ?_⟩
    rw [Int.toNat_natCast]
    exact it_range (W0 := fun _ => True) (Pv D i) pv (fun j H2 hj pj => ⟨hw2 _ _, body D i j H2 nD lt hj pj⟩) fun H2 pj => nextRow D i H2 pj
  · have z : i = m := by omega
    exact .inl ⟨by subst z; first | rfl | exact Nat.le_refl _, fin D H1 nD (by rw [← z]; exact pv)⟩
end My

set_option Elab.async false
set_option linter.all false
set_option maxRecDepth 100000
/-! ### raised out of a walk of a dict: behind it the dict stands as before -/
namespace My
open PySem L2
/-- the same wish, asked where the walked dict is free again -/
def WLock (X : Cx) (W : WX) : WX := fun cls dx σ H => ∃ (d : Addr) (u : HO) (od : Obj), H d = some (.frz od u) ∧ (∀ o v, X.H_0 d ≠ some (.frz o v)) ∧ W cls dx σ (upd H d u)
theorem takes_lock {X : Cx} {W : WX} (tk : Takes X W) : Takes X (WLock X W) := by
  rintro e s' ⟨a, B, sI, pins, σ, H, cls, dx, rfl, I, nb, up, sky, na, os, ag, d, u, od, hd, nf, w⟩
  have ad : a ≠ d := fun z => by rw [z, hd] at na; cases na
  exact tk _ _ ⟨a, B, sI, pins, σ, upd H d u, cls, dx, rfl, I.unlock hd nf, nb, up, sky, by rw [upd_ne ad]; exact na, os, ag, w⟩
end My

set_option Elab.async false
set_option linter.all false
set_option maxRecDepth 100000
set_option maxHeartbeats 4000000
/-! ### defs that close over their class, and super().__init__(..) of an own error -/
namespace My
open PySem L2 NdefX
/-- a block whose activation is known -/
structure PSat (X : Cx) (c : Code) (body : List Stmt) (t : TS) : Prop where
  run : ∀ (pins : List (Addr × Obj)) (s : Shared) (σ : L2.St) (H : Hp) (D : Ends), Inv X pins σ H s → t D σ H → wpAt (model X.prog X.w) X.A c (execs body X.env) (SP X pins D) X.xe s
structure PSat1 (X : Cx) (c : Code) (st : Stmt) (t : TS) : Prop where
  run : ∀ (pins : List (Addr × Obj)) (s : Shared) (σ : L2.St) (H : Hp) (D : Ends), Inv X pins σ H s → t D σ H → wpAt (model X.prog X.w) X.A c (exec st X.env) (SP X pins D) X.xe s
theorem psat_of {X : Cx} {c : Code} {body : List Stmt} {t : TS} (h : PSs X body t) : PSat X c body t := ⟨fun pins s σ H D I q => wpAt_of_wpAny (h.run pins s σ H D I q)⟩
theorem psat_cons {X : Cx} {c : Code} {st : Stmt} {rest : List Stmt} {t u : TS} (h1 : PSat1 X c st t) (h2 : PSs X rest u) : PSat X c (st :: rest) (tSeq t u) := by
  refine ⟨fun pins s σ H D I q => ?_⟩
  refine PySem.ks_wpAt_execs_cons (wpAt_mono (h1.run pins s σ H { D with nx := u D } I q) (fun f s1 r => ?_) fun _ _ z => z)
  cases f with
  | next =>
    obtain ⟨σ', H', I', r⟩ := r
    exact wpAt_of_wpAny (h2.run pins s1 σ' H' D I' r)
  | brk => exact r
  | cont => exact r
  | ret u => exact r
/-- the words of a def that closes over its class -/
def nfOf (x qual : Str) (st : Stmt) (cc cda : Addr) : NF := ⟨x, qual, defArgs st, defBody st, defScope st, [("__class__", cc)], cda⟩
structure FunX (K : PySem.W.Frag) (x qual : Str) (st : Stmt) (f : Addr) (fd : FuncData) (cc cda D : Addr) : Prop where
  ex : ∃ (oc : Value) (od : Option Addr) (kV doc pm : Value) (an : Option Addr) (ct : Value) (osl : Array (Option Value)),
    fd = PySem.W.fnX x qual (defArgs st) (defBody st) (defScope st) [("__class__", cc)] .none kV doc pm an (.ref cda) ct ∧ K.lookup f = some ⟨oc, od, .func fd, osl⟩ ∧ PySem.W.codeIn K (.ref cda) qual = true
  cell : ∃ (cl : Value) (cld : Option Addr) (csl : Array (Option Value)), K.lookup cc = some ⟨cl, cld, .cell (some (.ref D)), csl⟩
  kp : PySem.W.keepIn K (.ref f) = true
section
variable {P : Program} {w : World} {K : PySem.W.Frag} {mg : Str → Option Value} {base : Heap}
abbrev cxX (CX : CXT) (P : Program) (w : World) (K : PySem.W.Frag) (mg : Str → Option Value) (base : Heap) (N : List Str) (x qual : Str) (st : Stmt) (cc cda f : Addr) (A : Around) (outer : List Env) (s : Shared) (H : Hp) (E : XK) : Cx := ncx CX P w K mg base N (nfOf x qual st cc cda) f A outer s H E
theorem FunX.ok {CX : CXT} {x qual : Str} {st : Stmt} {f cc cda D : Addr} {fd : FuncData} {N ps : List Str} {k : Nat} {sp : Sp} (F : FunX K x qual st f fd cc cda D) (S : NScope N ps ["__class__"] (defScope st)) (len : ∀ vs H Q E, sp vs H Q E → vs.length = ps.length)
    (hbody : ∀ (A : Around) (outer : List Env) (s : Shared) (H : Hp) (vs : List V) (Q : VK) (E : XK), Room k (A.deeper (envF (nfOf x qual st cc cda) f s.heap.objs.size)) → sp vs H Q E →
      ∃ t, PSat (cxX CX P w K mg base N x qual st cc cda f A outer s H E) (.func (defBody st) (envF (nfOf x qual st cc cda) f s.heap.objs.size)) (defBody st) t ∧ t { nx := fun _ H' => Q .non H', rt := Q } (startF N vs [some (.ref D)]) H) :
    FnOk P w K mg base CX (k + 1) f fd ps sp := by
  obtain ⟨oc, od, kV, doc, pm, an, ct, osl, rfl, lk, hcd⟩ := F.ex
  obtain ⟨cl, cld, csl, hcc⟩ := F.cell
  refine ⟨len, fun A outer s H args us vs Q E hr e0 hb r hsp => ?_⟩
  have hl := len _ _ _ _ hsp
  have KX : K.In s.heap := e0.mod.kin.keeps fun b o e => (e0.bs b o e).1
  have lim : s.heap.NoLimit := e0.mod.nolimit.keeps fun b o e => (e0.bs b o e).1
  have hcB := e0.mod.kin _ _ hcc
  have C : CellsAt (nfOf x qual st cc cda).cl ["__class__"] [some (.ref D)] s.heap H := by
    refine ⟨rfl, fun y c e => ?_, fun a b c e1 e2 => ?_, fun i y e => ?_⟩
    · have e' : (if y = ("__class__" : Str) then some cc else none) = some c := by
        rw [← e]
        show _ = List.lookup y [(("__class__" : Str), cc)]
        rw [List.lookup_cons, List.lookup_nil]
        by_cases h : y = ("__class__" : Str)
        · rw [if_pos h, beq_iff_eq.mpr h]
        · rw [if_neg h, beq_eq_false_iff_ne.mpr h]
      split at e'
      · cases e'
        exact ⟨(e0.bs _ _ hcB).2, _, _, KX _ _ hcc, rfl⟩
      · cases e'
    · have g : ∀ (y : Str) (d : Addr), List.lookup y [(("__class__" : Str), cc)] = some d → y = "__class__" := by
        intro y d e
        rw [List.lookup_cons, List.lookup_nil] at e
        by_cases h : y = ("__class__" : Str)
        · exact h
        · rw [beq_eq_false_iff_ne.mpr h] at e
          cases e
      exact (g a c e1).trans (g b c e2).symm
    · match i, e with
      | 0, e =>
        have ey : y = "__class__" := (Option.some.inj e).symm
        subst ey
        exact ⟨cc, rfl, fun v hv => ⟨.ref D, by cases hv; rfl, _, KX _ _ hcc, rfl⟩⟩
      | i + 1, e => cases e
  refine PySem.ks_codeAny_call_defAt (fd := PySem.W.fnX x qual (defArgs st) (defBody st) (defScope st) [("__class__", cc)] .none kV doc pm an (.ref cda) ct) (body := defBody st) (binds := ps.zip us) hr.depth (KX _ _ lk) rfl lim (PySem.W.codeRec_of KX hcd) rfl hb S.nocell (fun ⟨n, v⟩ hy => S.par n (List.of_mem_zip hy).1) (fun h₁ hns kp => ?_) S.co S.gen S.kind
  obtain ⟨t, ht, hq⟩ := hbody A outer s H vs Q E (hr.deeper _) hsp
  have I : Inv (cxX CX P w K mg base N x qual st cc cda f A outer s H E) [] (startF N vs [some (.ref D)]) H { s with heap := h₁, toks := s.toks + (ps.zip us).length } := inv_startN S hr.hd e0 hl r C hns kp
  refine wpAt_mono (ht.run [] _ (startF N vs [some (.ref D)]) H _ I hq) (fun fl s' hs => ?_) fun e s' hs => hs
  have fin : ∀ {σ' : L2.St} {H' : Hp} {v : V} {u : Value}, Inv (cxX CX P w K mg base N x qual st cc cda f A outer s H E) [] σ' H' s' → L2.RelV v u → Q v H' → CE outer P w H s Q u s' :=
    fun {σ' H' v u} J rv q => ⟨v, H', J.os, J.bare, J.base, J.hok, rv, q⟩
  cases fl with
  | ret u =>
    obtain ⟨v, σ', H', J, rv, q⟩ := hs
    exact fin J rv q
  | next =>
    obtain ⟨σ', H', J, q⟩ := hs
    exact fin (v := V.non) (u := Value.none) J rfl q
  | brk =>
    obtain ⟨_, _, _, q⟩ := hs
    exact False.elim q
  | cont =>
    obtain ⟨_, _, _, q⟩ := hs
    exact False.elim q
end

/-! ### super().__init__(e) -/
/-- what the written part says of an own error that is made by an __init__ of its own: OexC, its place in the chain -/
structure ErrC (K : PySem.W.Frag) (C : Addr) : Prop where
  ox : OexC K C
  sup : PySem.W.ks_superIn K C C "__init__" = some (some (.builtin "ValueError.__init__"))
  isV : PySem.W.subIn K (.ref C) (.type "ValueError") = some true
  opq : PySem.W.nsIn K cStatics "thirdparty.any" = some none
  me : PySem.W.mroIn K C (.ref C) = some true
/-- what the code object of the def tells -/
structure CodeF (K : PySem.W.Frag) (P : Program) (cda : Addr) : Prop where
  at_ : ∃ (ccl : Value) (cdd : Option Addr) (vs : Array Value) (ccs : Array (Option Value)) (file : Str) (tf : Tok), K.lookup cda = some ⟨ccl, cdd, .fields vs, ccs⟩ ∧ vs[2]? = some (.str file tf) ∧ ((P.main.file : Str) == file) = true
  noTop : (P.main.scope.names.lookup ("super" : Str)).isSome = false
/-- the reading: the text is reckoned, nothing more -/
def tSupI (C : Addr) (ta : TA) : TS := fun D σ H => ∃ a : Addr, σ[0]? = some (some (.ref a)) ∧ H a = some (exo a C none) ∧ ta σ H fun vs H1 => vs.length ≤ 1000 ∧ H1 a = some (exo a C none) ∧ D.nx σ H1
section
variable {X : Cx}
theorem psat_sup {body : List Stmt} {f cc cda C : Addr} {fd : FuncData} {oc : Value} {od : Option Addr} {osl : Array (Option Value)} {cl : Value} {cld : Option Addr} {csl : Array (Option Value)} {ar : Arg} {e : Expr} {es : List Expr} {ta : TA} {p0 p1 apos cpos pos : Pos} {pl : Sem Bool}
    (T : ErrC X.K C) (G : CodeF X.K X.prog cda)
    (hf : X.K.lookup f = some ⟨oc, od, .func fd, osl⟩) (hp : (fd.params.posonlyargs ++ fd.params.args).head? = some ar)
    (hcell : X.K.lookup cc = some ⟨cl, cld, .cell (some (.ref C)), csl⟩) (hsuper : X.mg "super" = none)
    (hfu : X.env.func = some f) (hco : X.env.code = .ref cda) (hcl : X.env.cells.lookup ("__class__" : Str) = some cc)
    (hks : X.env.scope.names.lookup ("super" : Str) = some .globalImplicit) (hkc : X.env.scope.names.lookup ("__class__" : Str) = some .free) (hka : X.env.scope.names.lookup ar.arg = some .local)
    (hN : X.N[0]? = some ar.arg) (ha : PA X (e :: es) ta)
    (hev : eval (.Call (.Attribute (.Call (.Name "super" p0) [] [] p1) "__init__" apos) (e :: es) [] cpos) X.env = (do
      let ov ← attributeBase (.Call (.Name "super" p0) [] [] p1) "__init__" X.env (eval (.Call (.Name "super" p0) [] [] p1) X.env)
      standAt apos.atName
      let (f, first) ← holding [ov] (getMethod ov "__init__" pl)
      callWith cpos f first (backTo cpos (starEach (e :: es) X.env)) []))
    (hst : starEach (e :: es) X.env = (false, eval e X.env) :: starEach es X.env) (hpl : (backTo cpos (starEach es X.env)).any (·.1) = false)
    (hsw : swapsWith (.Call (.Attribute (.Call (.Name "super" p0) [] [] p1) "__init__" apos) (e :: es) [] cpos) none pos.line X.env = pure false) (hint : interactive X.env = false) :
    PSat1 X (.func body X.env) (.Expr (.Call (.Attribute (.Call (.Name "super" p0) [] [] p1) "__init__" apos) (e :: es) [] cpos) pos) (tSupI C ta) := by
  refine ⟨fun pins s σ H D I h => ?_⟩
  obtain ⟨a, hσ, ea, q⟩ := h
  obtain ⟨ccl, cdd, vs, ccs, file, tf, hcode, hvs, hfile⟩ := G.at_
  obtain ⟨nm, qn, N, bs, bm, sn, sub, ab, col, dd, k0, k1, k2, k3, k5, hC, hbm⟩ := T.ox.cls
  have hcls : PySem.W.clsIn X.K C = some { name := nm, bases := bs, mro := .ref C :: bm, ns := N, qualname := qn, hasDict := true, slotNames := sn, subclasses := sub, abstract := ab, collection := col, hasDel := false } := by unfold PySem.W.clsIn; rw [hC] <;> rfl
  obtain ⟨t1, ho⟩ := exo_at I.hok ea
  obtain ⟨hh, g, d, t, os⟩ := s
  have XK := I.kIn
  obtain ⟨mb, hb1, hb2⟩ := I.mod.blt
  obtain ⟨m, hn, hl⟩ := id I.loc
  obtain ⟨u0, ru0, lk0⟩ := hl 0 ar.arg (.ref a) hN hσ (.inl hka)
  obtain rfl : u0 = Value.ref a := ru0
  have hv : m ar.arg = some (Value.ref a) := by
    rcases lk0 with ⟨_, e⟩ | ⟨z, _⟩
    · exact e
    · exfalso
      rcases z with z | z
      · have z' : X.env.scope.names.lookup ar.arg = some .cell := z
        rw [hka] at z'; cases z'
      · have z' : X.env.scope.names.lookup ar.arg = some .free := z
        rw [hka] at z'; cases z'
  refine PySem.ks_wpAt_Expr_any (PySem.ks_wpAt_MethodCall ?_ hev) hint hsw
  refine PySem.ks_wpAt_super_base (env := X.env) hks hkc (by decide) hfu (XK _ _ hf) rfl hp hco (XK _ _ hcode) rfl hvs hfile G.noTop ?_
  refine PySem.W.ks_loadName_global I.ok.kind hks (PySem.Calls.loadGlobal_builtin (by rw [I.ok.glob]; exact I.mod.glob.keeps I.bk) hsuper (by rw [I.ok.blt]; exact hb1.keeps I.bk) ((hb2 "super" (by decide)).trans (by decide +kernel)) ⟨rfl, ?_⟩)
  refine wpAny_loadName_free I.ok.kind hkc hcl ⟨_, XK _ _ hcell, rfl⟩ ?_
  refine wpAny_loadName_local I.ok.kind hka hn hv ?_
  refine ks_wpAny_isType_cls (XK _ _ hC) rfl ⟨rfl, ?_⟩
  refine ks_wpAny_call_super (XK _ _ hC) rfl ho rfl (fun c z => nomatch z) (PySem.W.looks_mroIn XK T.me) (fun h' e1 k1' => ?_)
  have I1 : Inv X pins σ H ⟨h', g, d, t, os⟩ := I.kept (t' := t) k1'
  have X1 := I1.kIn
  have ho1 := k1' _ _ ho
  have IA : PySem.W.InstAt h' a _ C none := ⟨ho1, rfl, rfl, trivial⟩
  refine PySem.W.kxs_getMethod PySem.W.kxs_ValueError e1 (PySem.W.looks_opaque X1 T.opq) (l₀ := .ref C :: bm) ?_ rfl X1 ?_ (IA.type.andThen (PySem.W.looks_subIn X1 T.isV)) (PySem.W.ks_ne X1 IA hcls) (by decide) ?_
  · exact fun A Q E s k q => wpAny_bind ((PySem.W.looks_clsIn X1 hcls) A _ E s k (wpAny_pure q))
  · have q1 := T.sup
    unfold PySem.W.ks_superIn at q1
    rw [hcls] at q1
    exact q1
  have I2 : Inv X pins σ H ⟨h'.push (PySem.W.kxs_mw "ValueError.__init__" a), g, d, t + 1, os⟩ := I1.kept (t' := t + 1) (fun b o z => Heap.get?_push_of_some _ z)
  have hu2 : (h'.push (PySem.W.kxs_mw "ValueError.__init__" a)).get? h'.objs.size = some (PySem.W.kxs_mw "ValueError.__init__" a) := Heap.get?_push_size _ rfl
  have hHu : H h'.objs.size = none := I1.hok.fresh (Nat.le_refl _)
  have J2 : Inv X ((h'.objs.size, PySem.W.kxs_mw "ValueError.__init__" a) :: pins) σ H ⟨h'.push (PySem.W.kxs_mw "ValueError.__init__" a), g, d, t + 1, os⟩ := by
    refine I2.pins_of fun p hp => ?_
    rcases List.mem_cons.mp hp with rfl | hp
    · exact ⟨hu2, hHu, Nat.ne_of_gt I1.lt, I1.nofs (Nat.le_refl _), fun v z => nomatch z⟩
    · exact I2.pin p (List.mem_append_right _ hp)
  have key : wpAny (model X.prog X.w) X.A (spliced (backTo cpos (starEach (e :: es) X.env))) (fun vs s₁ => PySem.W.KxsAt "ValueError.__init__" h'.objs.size a s₁.heap ∧ wpAny (model X.prog X.w) X.A (call (.ref h'.objs.size) vs) (fun _ => SP X pins D .next) X.xe s₁) X.xe ⟨h'.push (PySem.W.kxs_mw "ValueError.__init__" a), g, d, t + 1, os⟩ := by
    refine thn (ha.run cpos _ _ σ H _ J2 q) fun us s3 ⟨vs3, H1, I3, rv, hvl, ea1, qn⟩ => ?_
    have hu3 := (I3.pin (h'.objs.size, PySem.W.kxs_mw "ValueError.__init__" a) (List.mem_append_right _ List.mem_cons_self)).1
    refine ⟨hu3, ?_⟩
    have J3 : Inv X pins σ H1 s3 := I3.pins_of fun p hp => I3.pin p (List.mem_append_right _ (List.mem_cons_of_mem _ hp))
    obtain ⟨t2, ho3⟩ := exo_at J3.hok ea1
    have hus : us.length ≤ sizeLine := by
      rw [← Paired.length rv, sizeLine_eq]; omega
    have hC3 := J3.kIn _ _ hC
    obtain ⟨h3, g3, d3, tk3, os3⟩ := s3
    refine wpAny_call (codeAny_of_tree ?_)
    show wpAny _ X.A.in1 (callAny (.ref h'.objs.size) ⟨us, []⟩) _ _ _
    simp only [callAny]
    refine wpAny_bind (wpAny_load hu3 ?_)
    simp only [PySem.W.kxs_mw, show (Value.type "method-wrapper" == Value.type "method" || Value.type "method-wrapper" == Value.type "builtin_function_or_method" || Value.type "method-wrapper" == Value.type "method-wrapper") = true by decide, if_true]
    refine PySem.W.KFB.if_so (by decide) ?_
    refine wpAny_bind (PySem.W.check_bound_init F.excBase_ValueError.toExcCallFacts hC3 ho3 rfl ?_)
    refine wpAny_bind (wpAny_pure (wpAny_pure ?_))
    refine ⟨plainId_quiet F.excBase_ValueError.init.plain _, codeAny_builtin F.excBase_ValueError.initEntry ?_⟩
    refine PySem.W.exc_init_tree (cls := .ref C) (t0 := t2) (dv := none) (c2 := .none) (c3 := .none) (b4 := .bool false) ho3 hus fun h4 k4 hx4 ht4 => ?_
    have J := J3.write (t' := tk3) (x := a) (e := a) (o := exo a C none) (h' := h4) (by rw [ea1]; exact True.intro) (.inl rfl) k4 ⟨_, hx4⟩ (exo_ok hx4)
    have eu : upd H1 a (exo a C none) = H1 := by
      funext b
      by_cases hb : b = a
      · rw [hb, upd_same, ea1]
      · rw [upd_ne hb]
    rw [eu] at J
    exact ⟨σ, H1, J, qn⟩
  rw [hst] at key ⊢
  refine PySem.W.kxs_callWith (i := "ValueError.__init__") (x := a) (by show (false || (backTo cpos (starEach es X.env)).any (·.1)) = false; rw [hpl]; rfl) ?_
  exact PySem.Calls.evalArgs_plain key
end
end My

set_option Elab.async false
set_option linter.all false
set_option maxRecDepth 100000
set_option maxHeartbeats 4000000
/-! ### own errors: made, raised, caught, asked -/
namespace My
open PySem L2 NdefX
/-- __init__ of an error with one field: what it promises -/
def spErr1 (C : Addr) (f : Str) (P : V → Prop) : Sp := fun vs H Q _ => ∃ (a : Addr) (v : V), vs = [.ref a, v] ∧ P v ∧ H a = some (exo a C none) ∧ ∀ dx, H dx = none → dx ≠ a → Q .non (upd (upd H dx (exd dx [(f, v)])) a (exo a C (some dx)))
/-- .. with two fields -/
def spErr2 (C : Addr) (f g : Str) (P : V → V → Prop) : Sp := fun vs H Q _ => ∃ (a : Addr) (v u : V), vs = [.ref a, v, u] ∧ P v u ∧ H a = some (exo a C none) ∧ ∀ dx, H dx = none → dx ≠ a → Q .non (upd (upd (upd H dx (exd dx [(f, v)])) a (exo a C (some dx))) dx (exd dx [(g, u), (f, v)]))
theorem err_kp {H1 H2 : Hp} {a dx : Addr} {fs : List (Str × V)} (na : H1 a = none) (nd : H1 dx = none) (k : ∀ b, b ≠ a → b ≠ dx → H2 b = H1 b) : Kp [] H1 (upd (del H2 a) dx (.xd fs)) := fun b o _ e => by
  have h1 : b ≠ a := ne_of_none e na
  have h2 : b ≠ dx := ne_of_none e nd
  rw [upd_ne h2, del_ne h1, k b h1 h2]
  exact e
theorem err1_made {C : Addr} {f : Str} {P : V → Prop} {v : V} {H1 : Hp} {Q : XK} (hp : P v) (q : ∀ d H', H1 d = none → H' d = some (.xd [(f, v)]) → Kp [] H1 H' → Q (.ref C) (some d) H') :
    ([v] : List V).length ≤ 1000 ∧ ∀ a, H1 a = none → spErr1 C f P (.ref a :: ([v] ++ [])) (upd H1 a (exo a C none)) (fun v H2 => v = .non ∧ ∃ (d : Addr) (fs : List (Str × V)), H2 a = some (exo a C (some d)) ∧ H2 d = some (exd d fs) ∧ H1 d = none ∧ Q (.ref C) (some d) (upd (del H2 a) d (.xd fs))) (fun _ _ _ => False) := by
  refine ⟨by show 1 ≤ 1000; decide, fun a na => ⟨a, v, rfl, hp, upd_same, fun dx ndx hne => ?_⟩⟩
  rw [upd_ne hne] at ndx
  refine ⟨rfl, dx, _, upd_same, by rw [upd_ne hne]; exact upd_same, ndx, q dx _ ndx upd_same (err_kp na ndx fun b h1 h2 => ?_)⟩
  rw [upd_ne h1, upd_ne h2, upd_ne h1]
theorem err2_made {C : Addr} {f g : Str} {P : V → V → Prop} {v u : V} {H1 : Hp} {Q : XK} (hp : P v u) (q : ∀ d H', H1 d = none → H' d = some (.xd [(g, u), (f, v)]) → Kp [] H1 H' → Q (.ref C) (some d) H') :
    ([v, u] : List V).length ≤ 1000 ∧ ∀ a, H1 a = none → spErr2 C f g P (.ref a :: ([v, u] ++ [])) (upd H1 a (exo a C none)) (fun v H2 => v = .non ∧ ∃ (d : Addr) (fs : List (Str × V)), H2 a = some (exo a C (some d)) ∧ H2 d = some (exd d fs) ∧ H1 d = none ∧ Q (.ref C) (some d) (upd (del H2 a) d (.xd fs))) (fun _ _ _ => False) := by
  refine ⟨by show 2 ≤ 1000; decide, fun a na => ⟨a, v, u, rfl, hp, upd_same, fun dx ndx hne => ?_⟩⟩
  rw [upd_ne hne] at ndx
  refine ⟨rfl, dx, _, by rw [upd_ne hne.symm]; exact upd_same, upd_same, ndx, q dx _ ndx upd_same (err_kp na ndx fun b h1 h2 => ?_)⟩
  rw [upd_ne h2, upd_ne h1, upd_ne h2, upd_ne h1]
/-- what the written part says of an error class that is caught and asked -/
structure KitC (K : PySem.W.Frag) (C : Addr) : Prop where
  cl : (PySem.W.clsIn K C).isSome = true
  ga : PySem.W.findIn K (.ref C) "__getattribute__" = some (some (.builtin "BaseException.__getattribute__"))
  gg : PySem.W.findIn K (.ref C) "__getattr__" = some none
  bx : PySem.W.subIn K (.ref C) (.type "BaseException") = some true
  hc : PySem.W.findIn K (.ref C) "__class__" = some (some (.builtin "object.__class__"))
  hn : PySem.W.specialIn K (.builtin "object.__class__") "__get__" = some (some (.builtin "getset_descriptor.__get__"))
  ht : PySem.W.takesIn K (.builtin "object.__class__") = some true
  ob : PySem.W.mroIn K C (.type "object") = some true
/-- isinstance(e, c), e the error that the suite holds -/
def rIsX (K : PySem.W.Frag) (a : Addr) (cls : Value) (d : Option Addr) : List V → Hp → VK → Prop := fun xs H Q => ∃ (c : V) (cv : Value) (b : Bool) (D dd : Addr) (fs : List (Str × V)), xs = [.ref a, c] ∧ (∀ u, RelV c u → u = cv) ∧ cls = .ref D ∧ d = some dd ∧ H dd = some (.xd fs) ∧ KitC K D ∧ PySem.W.kitOne K (.ref D) cv = some b ∧ Q (.bl b) H
/-- .. a tuple of classes that was just laid -/
def rIsXT (K : PySem.W.Frag) (a : Addr) (cls : Value) (d : Option Addr) : List V → Hp → VK → Prop := fun xs H Q => ∃ (tp : Addr) (cs : List V) (us : List Value) (b : Bool) (D dd : Addr) (fs : List (Str × V)), xs = [.ref a, .ref tp] ∧ H tp = some (.tup cs) ∧ Paired ClsV cs us ∧ cls = .ref D ∧ d = some dd ∧ H dd = some (.xd fs) ∧ KitC K D ∧ PySem.W.kitAny K (.ref D) us = some b ∧ Q (.bl b) H
section
variable {X : Cx} {a : Addr} {oe : Obj} {cls : Value} {d : Option Addr} {pn : List (Addr × Obj)}
theorem inst_x {pins : List (Addr × Obj)} {s : Shared} {σ : L2.St} {H : Hp} {D dd : Addr} {fs : List (Str × V)} (I : Inv (X.suite a ((a, oe) :: pn)) pins σ H s) (hz : Zc (.ref D) (some dd) oe) (hf : ∃ vs, oe.data = .fields vs) (e : H dd = some (.xd fs)) : ∃ od, PySem.W.InstAt s.heap a oe D (some od) := by
  obtain ⟨ha, _⟩ := I.pin (a, oe) (List.mem_append_left _ List.mem_cons_self)
  obtain ⟨vs, hv⟩ := hf
  obtain ⟨mA, hns, _⟩ := (show ObjOk X.prog X.w H s.heap dd (.xd fs) from I.hok dd _ e)
  obtain ⟨od, ho, _⟩ := lookIn_ns hns
  exact ⟨od, ha, hz.1, by unfold PySem.W.notCls; rw [hv] <;> rfl, by rw [hz.2]; exact ho⟩
theorem call_isX (hz : Zc cls d oe) (hf : ∃ vs, oe.data = .fields vs) : CallR (X.suite a ((a, oe) :: pn)) (.builtin "isinstance") (rIsX X.K a cls d) := by
  intro pins s σ H xs us Q I r h
  obtain ⟨c, cv, b, D, dd, fs, rfl, hcv, rfl, rfl, ed, T, e, q⟩ := h
  obtain ⟨u1, u2, rfl, r1, r2⟩ := vals2 r
  cases (show u1 = Value.ref a from r1)
  cases hcv _ r2
  obtain ⟨od, J⟩ := inst_x I hz hf ed
  exact PySem.W.kia_one (PySem.W.kitx_exc T.cl T.ga T.gg T.bx T.hc T.hn T.ht T.ob) I.kIn J e (fun z => nomatch z) fun tk => ⟨.bl b, H, I.tok tk, rfl, q⟩
theorem call_isXT (hz : Zc cls d oe) (hf : ∃ vs, oe.data = .fields vs) : CallR (X.suite a ((a, oe) :: pn)) (.builtin "isinstance") (rIsXT X.K a cls d) := by
  intro pins s σ H xs us Q I r h
  obtain ⟨tp, cs, ws, b, D, dd, fs, rfl, hT, k, rfl, rfl, ed, T, e, q⟩ := h
  obtain ⟨u1, u2, rfl, r1, r2⟩ := vals2 r
  cases (show u1 = Value.ref a from r1)
  cases (show u2 = Value.ref tp from r2)
  obtain ⟨od, J⟩ := inst_x I hz hf ed
  obtain ⟨_, its, rv, o, h1, h2, n, h3⟩ := (show ObjOk X.prog X.w H s.heap tp (.tup cs) from I.hok tp _ hT)
  cases ClsV.all k rv
  obtain ⟨oc, od2, dt, sl⟩ := o
  simp only at h2 h3
  subst h2 h3
  exact PySem.W.kia_tup (PySem.W.kitx_exc T.cl T.ga T.gg T.bx T.hc T.hn T.ht T.ob) I.kIn J h1 e (fun z => nomatch z) fun tk => ⟨.bl b, H, I.tok tk, rfl, q⟩
end
end My

set_option Elab.async false
set_option linter.all false
set_option maxRecDepth 100000
set_option maxHeartbeats 4000000
/-! ### operators, in, len, list of instances of an own class that define them -/
namespace My
open PySem PySem.Spec PyProof.Rows L2
section
variable {X : Cx} {CX : CXT} {pins : List (Addr × Obj)} {σ : L2.St} {H : Hp} {s : Shared} {C g a : Addr} {fd : FuncData} {ps : List Str} {sp : Sp} {E : XK} {k : Nat} {A1 : Around}
theorem inst_of {dx : Addr} {fs : List (Str × V)} (I : Inv X pins σ H s) (ha : H a = some (.ins C dx fs)) : ∃ ox od, PySem.W.InstAt s.heap a ox C (some od) := by
  obtain ⟨mA, J, _⟩ := ins_get I.hok ha
  obtain ⟨od, J', _⟩ := J.look
  exact ⟨_, od, J'⟩
theorem env_under (sb : Sub X k A1) (I : Inv X pins σ H s) : Env0 X.prog X.w X.K X.mg X.base A1 X.stack s H := by
  obtain ⟨f1, f2, f3, f4, f5, f6, f7, f8⟩ := I.env0
  exact ⟨(sb.fr).trans f1, f2, f3, f4, f5, f6, f7, f8⟩
/-- a def of the class runs somewhere below the body -/
theorem run_under {Q : VK} {us : List Value} {vs : List V} (F : FnOk X.prog X.w X.K X.mg X.base CX k g fd ps sp) (sb : Sub X k A1) (hb : Binds X.K fd ps []) (hx : Passes CX X E) (I : Inv X pins σ H s) (r : Vals vs us) (h : sp vs H Q E) :
    wpAny (model X.prog X.w) A1 (call (.ref g) us) (EP X pins σ Q) X.xe s := by
  have len := F.len _ _ _ _ h
  have bnd := hb s us I.kIn (by rw [List.append_nil, ← r.length]; exact len)
  rw [List.append_nil] at bnd
  refine wpAny_call (codeAny_mono (F.run A1 X.stack s H ⟨us, []⟩ us vs Q E sb.room (env_under sb I) bnd r h) ?_)
  rintro (e | fl) s' z
  · exact hx pins σ H s e s' I z
  · cases fl <;> first | exact I.after z | exact z.elim
/-- x op y, both instances of the class at C -/
def rBinO (C : Addr) (sp : Sp) (E : XK) : R2 := fun x y H Q => ∃ (a dx : Addr) (fs : List (Str × V)) (b dy : Addr) (gs : List (Str × V)), x = .ref a ∧ y = .ref b ∧ H a = some (.ins C dx fs) ∧ H b = some (.ins C dy gs) ∧ sp [.ref a, .ref b] H Q E
/-- what stands of an operator's def -/
structure BinC (K : PySem.W.Frag) (C g : Addr) (op : Operator) : Prop where
  one : PySem.W.selfFirst K C = true
  at_ : PySem.W.findIn K (.ref C) (PySem.dunder op.info.2) = some (some (.ref g))
  fn : PySem.W.isFn K (.ref g) = true
theorem sub_here (hr : Room k X.A) : Sub X k X.A := ⟨hr, rfl⟩
theorem op_binO {op : Operator} (c : BinC X.K C g op) (F : FnOk X.prog X.w X.K X.mg X.base CX k g fd ps sp) (hb : Binds X.K fd ps []) (hr : Room k X.A) (hx : Passes CX X E) : OpR X (binaryOp op) (rBinO C sp E) := by
  rintro pins s σ H x y v u Q I rx ry ⟨a, dx, fs, b, dy, gs, rfl, rfl, ha, hb', q⟩
  cases rx
  cases ry
  obtain ⟨ox, od, J⟩ := inst_of I ha
  obtain ⟨oy, ody, J'⟩ := inst_of I hb'
  obtain ⟨m, hF⟩ := I.fr
  refine PySem.W.binop_K hF I.ok.mod.kin J J'.type c.one c.at_ c.fn ?_
  refine thn (run_under (us := [.ref a, .ref b]) (vs := [.ref a, .ref b]) F (sub_here hr) hb hx I (.cons rfl (.cons rfl .nil)) q) ?_
  rintro w s' ⟨z, H', I', rz, qz⟩
  exact SlX.cmpback rz ⟨z, H', I', rz, qz⟩
/-- y in x, x an instance of the class at C: its __contains__ gives a bool -/
def rInO (C : Addr) (sp : Sp) (E : XK) (neg : Bool) : R2 := fun y x H Q => ∃ (a dx : Addr) (fs : List (Str × V)), x = .ref a ∧ H a = some (.ins C dx fs) ∧ sp [.ref a, y] H (fun v H' => ∃ b, v = .bl b ∧ Q (.bl (if neg then !b else b)) H') E
structure InC (K : PySem.W.Frag) (C g : Addr) : Prop where
  at_ : PySem.W.findIn K (.ref C) "__contains__" = some (some (.ref g))
  fn : PySem.W.isFn K (.ref g) = true
theorem op_inO (c : InC X.K C g) (F : FnOk X.prog X.w X.K X.mg X.base CX k g fd ps sp) (hb : Binds X.K fd ps []) (hr : Room k X.A) (hx : Passes CX X E) : OpR X (compareOp .In) (rInO C sp E false) := by
  rintro pins s σ H y x u v Q I ry rx ⟨a, dx, fs, rfl, ha, q⟩
  cases rx
  obtain ⟨ox, od, J⟩ := inst_of I ha
  obtain ⟨m, hF⟩ := I.fr
  refine PySem.W.in_K hF I.ok.mod.kin J c.at_ c.fn ?_
  refine thn (run_under (us := [.ref a, u]) (vs := [.ref a, y]) F (sub_here hr) hb hx I (.cons rfl (.cons ry .nil)) q) ?_
  rintro w s' ⟨z, H', I', rz, b, rfl, qz⟩
  cases rz
  exact wpAny_pure ⟨.bl b, H', I', rfl, qz⟩
theorem op_notInO (c : InC X.K C g) (F : FnOk X.prog X.w X.K X.mg X.base CX k g fd ps sp) (hb : Binds X.K fd ps []) (hr : Room k X.A) (hx : Passes CX X E) : OpR X (compareOp .NotIn) (rInO C sp E true) := by
  rintro pins s σ H y x u v Q I ry rx ⟨a, dx, fs, rfl, ha, q⟩
  cases rx
  obtain ⟨ox, od, J⟩ := inst_of I ha
  obtain ⟨m, hF⟩ := I.fr
  refine PySem.W.notIn_K hF I.ok.mod.kin J c.at_ c.fn ?_
  refine thn (run_under (us := [.ref a, u]) (vs := [.ref a, y]) F (sub_here hr) hb hx I (.cons rfl (.cons ry .nil)) q) ?_
  rintro w s' ⟨z, H', I', rz, b, rfl, qz⟩
  cases rz
  exact wpAny_pure ⟨.bl (!b), H', I', rfl, qz⟩
/-- len(x) -/
structure LenC (K : PySem.W.Frag) (C g : Addr) : Prop where
  at_ : PySem.W.findIn K (.ref C) "__len__" = some (some (.ref g))
  fn : PySem.W.isFn K (.ref g) = true
theorem len_under {R : Value → Shared → Prop} {Q1 : Nat → Hp → Prop} {dx : Addr} {fs : List (Str × V)} (c : LenC X.K C g) (F : FnOk X.prog X.w X.K X.mg X.base CX k g fd ps sp) (hb : Binds X.K fd ps []) (sb : Sub X (k + 1) A1) (hx : Passes CX X E) (I : Inv X pins σ H s)
    (ha : H a = some (.ins C dx fs)) (h : sp [.ref a] H (fun v H' => ∃ n : Nat, v = .int n ∧ n ≤ sizeLine ∧ Q1 n H') E) (hR : ∀ (n : Nat) H' s' t, n ≤ sizeLine → Inv X pins σ H' s' → Q1 n H' → R (.int n t) s') : wpAny (model X.prog X.w) A1 (call (.builtin "len") [.ref a]) R X.xe s := by
  obtain ⟨ox, od, J⟩ := inst_of I ha
  refine Calls.call_function_entry kind_len plain_len entry_len (args_len1 _) ?_
  unfold Builtin.«len»
  refine wpAny_bind (m := oneArg "len" _) (wpAny_pure ?_)
  refine wpAny_bind (PySem.W.special_fn I.kIn J c.at_ (beq_iff_eq.mp c.fn) ?_)
  refine thn (run_under (us := [.ref a]) (vs := [.ref a]) F sb.in1 hb hx I (.cons rfl .nil) h) ?_
  rintro w s' ⟨z, H', I', rz, n, rfl, hn, hq⟩
  obtain ⟨t, rfl⟩ := rz
  have h63 : ((n : Int)) < 2 ^ 63 := by
    rw [sizeLine_eq] at hn
    omega
  refine wpAny_bind (wpAny_holding (wpAny_pure ?_))
  refine wpAny_bind (wpAny_letGo ?_)
  refine wpAny_ite_false (decide_eq_false (show ¬ ((n : Int) < 0) by omega)) ?_
  refine wpAny_ite_false (decide_eq_false (show ¬ ((n : Int) ≥ 2 ^ 63) by omega)) ?_
  exact wpAny_bind (wpAny_mkInt (wpAny_pure ⟨_, rfl, hR n H' _ _ hn (I'.tok _) hq⟩))
def rLenO (C : Addr) (sp : Sp) (E : XK) : List V → Hp → VK → Prop := fun xs H Q => ∃ (a dx : Addr) (fs : List (Str × V)), xs = [.ref a] ∧ H a = some (.ins C dx fs) ∧ sp [.ref a] H (fun v H' => ∃ n : Nat, v = .int n ∧ n ≤ sizeLine ∧ Q (.int n) H') E
theorem call_lenO (c : LenC X.K C g) (F : FnOk X.prog X.w X.K X.mg X.base CX k g fd ps sp) (hb : Binds X.K fd ps []) (hr : Room (k + 1) X.A) (hx : Passes CX X E) : CallR X (.builtin "len") (rLenO C sp E) := by
  rintro pins s σ H xs us Q I r ⟨a, dx, fs, rfl, ha, q⟩
  obtain ⟨u, rfl, ru⟩ := r.one
  cases ru
  exact len_under (Q1 := fun n H' => Q (.int n) H') c F hb (sub_here hr) hx I ha q fun n H' s' t _ I' hq => ⟨.int n, H', I', ⟨t, rfl⟩, hq⟩
/-- something that is no more looked at -/
def junk (q : Addr) : HO := .ext fun h => ∃ o, h.get? q = some o
theorem junk_ok {P : Program} {w : World} {H : Hp} {h : Heap} {q : Addr} {o : Obj} (e : h.get? q = some o) : ObjOk P w H h q (junk q) := ⟨⟨_, e⟩, ⟨_, e⟩, fun _ _ ⟨u, z⟩ k => ⟨u, k _ z⟩⟩
/-- the class's __iter__ gives iter(l) of a list l, and it has a __len__ -/
structure IterC (K : PySem.W.Frag) (C gi gl : Addr) : Prop where
  it : PySem.W.findIn K (.ref C) "__iter__" = some (some (.ref gi))
  itF : PySem.W.isFn K (.ref gi) = true
  ln : LenC K C gl
/-- list(x) -/
def rListO (K : PySem.W.Frag) (C : Addr) (si sl : Sp) (E : XK) : List V → Hp → VK → Prop := fun xs H Q => ∃ (a dx : Addr) (fs : List (Str × V)), xs = [.ref a] ∧ H a = some (.ins C dx fs) ∧ ∀ q, H q = none →
  si [.ref a] (upd H q (.lst [])) (fun v H1 => ∃ (l it : Addr) (zs : List V), v = .ref it ∧ H1 a = some (.ins C dx fs) ∧ H1 it = some (ItO l it 0) ∧ SqL K H1 l zs ∧ l ≠ q ∧ l ≠ it ∧ H1 q = some (.lst []) ∧
    sl [.ref a] H1 (fun v H2 => ∃ n : Nat, v = .int n ∧ n ≤ sizeLine ∧ H2 it = some (ItO l it 0) ∧ SqL K H2 l zs ∧ H2 q = some (.lst []) ∧ Q (.ref q) (upd (upd H2 it (junk it)) q (.lst zs))) E) E
/-- .. where nothing is raised -/
theorem run_under0 {Q : VK} {us : List Value} {vs : List V} {Ex : Value → Shared → Prop} (F : FnOk X.prog X.w X.K X.mg X.base CX0 k g fd ps sp) (sb : Sub X k A1) (hb : Binds X.K fd ps []) (I : Inv X pins σ H s) (r : Vals vs us) (h : sp vs H Q E) :
    wpAny (model X.prog X.w) A1 (call (.ref g) us) (EP X pins σ Q) Ex s := by
  have len := F.len _ _ _ _ h
  have bnd := hb s us I.kIn (by rw [List.append_nil, ← r.length]; exact len)
  rw [List.append_nil] at bnd
  refine wpAny_call (codeAny_mono (F.run A1 X.stack s H ⟨us, []⟩ us vs Q E sb.room (env_under sb I) bnd r h) ?_)
  rintro (e | fl) s' z
  · exact False.elim z
  · cases fl <;> first | exact I.after z | exact z.elim
theorem len_under0 {R : Value → Shared → Prop} {Ex : Value → Shared → Prop} {Q1 : Nat → Hp → Prop} {dx : Addr} {fs : List (Str × V)} (c : LenC X.K C g) (F : FnOk X.prog X.w X.K X.mg X.base CX0 k g fd ps sp) (hb : Binds X.K fd ps []) (sb : Sub X (k + 1) A1) (I : Inv X pins σ H s)
    (ha : H a = some (.ins C dx fs)) (h : sp [.ref a] H (fun v H' => ∃ n : Nat, v = .int n ∧ n ≤ sizeLine ∧ Q1 n H') E) (hR : ∀ (n : Nat) H' s' t, n ≤ sizeLine → Inv X pins σ H' s' → Q1 n H' → R (.int n t) s') : wpAny (model X.prog X.w) A1 (call (.builtin "len") [.ref a]) R Ex s := by
  obtain ⟨ox, od, J⟩ := inst_of I ha
  refine Calls.call_function_entry kind_len plain_len entry_len (args_len1 _) ?_
  unfold Builtin.«len»
  refine wpAny_bind (m := oneArg "len" _) (wpAny_pure ?_)
  refine wpAny_bind (PySem.W.special_fn I.kIn J c.at_ (beq_iff_eq.mp c.fn) ?_)
  refine thn (run_under0 (us := [.ref a]) (vs := [.ref a]) F sb.in1 hb I (.cons rfl .nil) h) ?_
  rintro w s' ⟨z, H', I', rz, n, rfl, hn, hq⟩
  obtain ⟨t, rfl⟩ := rz
  have h63 : ((n : Int)) < 2 ^ 63 := by
    rw [sizeLine_eq] at hn
    omega
  refine wpAny_bind (wpAny_holding (wpAny_pure ?_))
  refine wpAny_bind (wpAny_letGo ?_)
  refine wpAny_ite_false (decide_eq_false (show ¬ ((n : Int) < 0) by omega)) ?_
  refine wpAny_ite_false (decide_eq_false (show ¬ ((n : Int) ≥ 2 ^ 63) by omega)) ?_
  exact wpAny_bind (wpAny_mkInt (wpAny_pure ⟨_, rfl, hR n H' _ _ hn (I'.tok _) hq⟩))
theorem hint_own {Q : Bool → Shared → Prop} {Ex : Value → Shared → Prop} {Q1 : Nat → Hp → Prop} {dx : Addr} {fs : List (Str × V)} (c : LenC X.K C g) (F : FnOk X.prog X.w X.K X.mg X.base CX0 k g fd ps sp) (hb : Binds X.K fd ps []) (sb : Sub X (k + 1) A1) (I : Inv X pins σ H s)
    (ha : H a = some (.ins C dx fs)) (h : sp [.ref a] H (fun v H' => ∃ n : Nat, v = .int n ∧ n ≤ sizeLine ∧ Q1 n H') E) (hR : ∀ b n H' s', Inv X pins σ H' s' → Q1 n H' → Q b s') : wpAny (model X.prog X.w) A1 (Builtin.List.listLengthHint (.ref a)) Q Ex s := by
  obtain ⟨ox, od, J⟩ := inst_of I ha
  unfold Builtin.List.listLengthHint
  refine wpAny_bind (wpAny_bind (J.type.here ((PySem.W.looks_findIn I.kIn c.at_).here ?_)))
  refine PySem.W.KFB.if_not rfl ?_
  refine PySem.W.KFB.if_so rfl ?_
  refine wpAny_bind (wpAny_rule ?_)
  refine wpAny_bind (wpAny_attempt (len_under0 c F hb sb I ha h ?_))
  intro n H' s' t hn I' hq
  show wpAny _ _ (pure (some (n : Int)) >>= _) _ _ _
  refine wpAny_bind (wpAny_pure ?_)
  have hl : Builtin.List.listTooLong ((n : Int).toNat) = false := by
    rw [Int.toNat_natCast]; exact notLongL hn
  refine PySem.W.KFB.if_not hl ?_
  exact wpAny_pure (hR _ n H' s' I' hq)
/-! ### the list's iterator, drawn to its end -/
theorem py_item {it l : Addr} {i : Nat} {items : Array Value} {v : Value} {prog : Program} {w : World} {Q : Option Value → Shared → Prop} {Ex : Value → Shared → Prop} (ho : s.heap.get? it = some (GNX.itObj l i)) (hl : s.heap.IsList l items) (hv : items[i]? = some v)
    (hQ : ∀ h', h'.get? it = some (GNX.itObj l (i + 1)) → (∀ b o, b ≠ it → s.heap.get? b = some o → h'.get? b = some o) → Q (some v) { s with heap := h' }) : wpAny (model prog w) A1 (pyNext (.ref it)) Q Ex s := by
  have hT : s.TypeIs (.ref it) "list_iterator" := ⟨_, ho, rfl⟩
  unfold pyNext
  refine wpAny_bind (wpAny_attempt (wpAny_callSpecial?_slot (name := Str.ofString "__next__") hT slot_listiter_next (wpAny_call_entry slot_listiter_next hT entry_listiter_next (GNX.next_item ho hl hv ?_) (args_listiter_next _))))
  intro h' e sb
  exact wpAny_pure (hQ h' e fun b o hb eb => (sb.2 b hb).trans eb)
theorem py_end {it l : Addr} {i : Nat} {items : Array Value} {prog : Program} {w : World} {Q : Option Value → Shared → Prop} {Ex : Value → Shared → Prop} (hh : A1.handled = none) (ho : s.heap.get? it = some (GNX.itObj l i)) (hl : s.heap.IsList l items) (hv : items[i]? = none)
    (hQ : ∀ h', h'.get? it = some (GNX.itEnd i) → (∀ b o, b ≠ it → s.heap.get? b = some o → h'.get? b = some o) → Q none { s with heap := h' }) : wpAny (model prog w) A1 (pyNext (.ref it)) Q Ex s := by
  have hT : s.TypeIs (.ref it) "list_iterator" := ⟨_, ho, rfl⟩
  unfold pyNext
  refine wpAny_bind (wpAny_attempt (wpAny_callSpecial?_slot (name := Str.ofString "__next__") hT slot_listiter_next (wpAny_call_entry slot_listiter_next hT entry_listiter_next (GNX.next_end hh ho hl hv ?_) (args_listiter_next _))))
  intro h1 h' e vs e1 sb k1 ne he hv'
  refine wpAny_bind (wpAny_isInstance (T := "StopIteration") (b := true) ⟨_, he, rfl⟩ PySem.isSubtype_stop ?_)
  exact wpAny_pure (hQ h' (k1 _ _ e1) fun b o hb eb => k1 _ _ ((sb.2 b hb).trans eb))
theorem same_upd {H : Hp} {q : Addr} {o : HO} (e : H q = some o) : upd H q o = H := by
  funext b
  by_cases z : b = q
  · rw [z, upd_same, e]
  · rw [upd_ne z]
theorem take_next' {α : Type} {xs : List α} {i : Nat} {x : α} (h : xs[i]? = some x) : xs.take (i + 1) = xs.take i ++ [x] := by
  rw [List.take_add_one, h]; rfl
/-- the loop that fills the list at q -/
theorem drain {q l it : Addr} {zs : List V} {F : Hp} {R : Result → Shared → Prop} (hh : A1.in1.handled = none) (lit : l ≠ it) (lq : l ≠ q) (hne : it ≠ q) (hdone : ∀ s', Inv X pins σ F s' → R (.ok (.ret .none)) s') :
    ∀ (n i : Nat) (H1 : Hp) (s1 : Shared), zs.length - i = n → i ≤ zs.length → Inv X pins σ H1 s1 → H1 it = some (ItO l it i) → SqL X.K H1 l zs → H1 q = some (.lst (zs.take i)) → upd (upd H1 it (junk it)) q (.lst zs) = F →
      codeAny (model X.prog X.w) A1 (.builtin "list.extend.loop" ⟨[.ref q, .ref it, .none], []⟩) R s1 := by
  intro n
  induction n with
  | zero =>
    intro i H1 s1 hn hi I hit hl hq hF
    obtain ⟨its, rv, pl, hz⟩ := I.list hl
    have hlen := rv.length
    have nope : its.toArray[i]? = none := by
      rw [List.getElem?_toArray]
      exact List.getElem?_eq_none (by omega)
    refine codeAny_builtin PySem.F.entry_extend_loop ?_
    rw [Around.under_plainId PySem.F.plain_extend_loop _]
    refine wpAny_bind (m := pyNext (.ref it)) (py_end hh (itO_get I hit) pl.isList nope fun h' he hk => ?_)
    have J : Inv X pins σ (upd H1 it (junk it)) { s1 with heap := h' } := I.write (t' := s1.toks) (x := it) (e := it) (by rw [hit]; exact True.intro) (.inl rfl) (fun b u hb e => hk b u hb e) ⟨_, he⟩ (junk_ok he)
    have e : upd H1 it (junk it) = F := by
      rw [← hF]
      refine (same_upd ?_).symm
      rw [upd_ne hne.symm, hq, List.take_of_length_le (by omega)]
    rw [e] at J
    exact wpAny_pure (hdone _ J)
  | succ n ih =>
    intro i H1 s1 hn hi I hit hl hq hF
    obtain ⟨its, rv, pl, hz⟩ := I.list hl
    have hlen := rv.length
    have hx : zs[i]? = some zs[i] := List.getElem?_eq_getElem (by omega)
    obtain ⟨u, hu, ru⟩ := rv.get hx
    refine codeAny_builtin PySem.F.entry_extend_loop ?_
    rw [Around.under_plainId PySem.F.plain_extend_loop _]
    refine wpAny_bind (m := pyNext (.ref it)) (py_item (itO_get I hit) pl.isList (v := u) (by simpa using hu) fun h' he hk => ?_)
    have J : Inv X pins σ (upd H1 it (ItO l it (i + 1))) { s1 with heap := h' } := I.write (t' := s1.toks) (x := it) (e := it) (by rw [hit]; exact True.intro) (.inl rfl) (fun b u hb e => hk b u hb e) ⟨_, he⟩ (itO_ok he)
    have hq' : (upd H1 it (ItO l it (i + 1))) q = some (.lst (zs.take i)) := by rw [upd_ne hne.symm]; exact hq
    obtain ⟨_, ys, c, r2, hl2, e2⟩ := J.lstM hq'
    have hy : ys.length = i := by rw [← hl2, List.length_take]; omega
    refine wpAny_bind (m := updateSeq q (·.push u)) (wpAny_updateSeq e2 rfl (wpAny_pure ⟨plainId_quiet PySem.F.plain_extend_loop _, ?_⟩) (by rw [List.size_toArray]; omega) (by rw [Array.size_push, List.size_toArray]; omega))
    have J2 := J.lset (f := (·.push u)) (its' := ys ++ [u]) (ys := zs.take (i + 1)) (t' := s1.toks) hq' e2 (by simp) (by rw [take_next' hx]; exact r2.append (.cons ru .nil)) (by rw [List.length_take]; omega)
    refine ih (i + 1) _ _ (by omega) (by omega) J2 ?_ ?_ upd_same ?_
    · rw [upd_ne hne]; exact upd_same
    · exact (((Kp.refl [it, q] H1).put (by simp)).put (by simp)).ls (by simp [lit, lq]) hl
    · rw [← hF]
      funext b
      by_cases z : b = q
      · rw [z, upd_same, upd_same]
      · rw [upd_ne z, upd_ne z]
        by_cases y : b = it
        · rw [y, upd_same, upd_same]
        · rw [upd_ne y, upd_ne y, upd_ne z, upd_ne y]
theorem call_listO {gi gl : Addr} {fdi fdl : FuncData} {psi psl : List Str} {si sl : Sp} {ki kl : Nat} (c : IterC X.K C gi gl) (Fi : FnOk X.prog X.w X.K X.mg X.base CX0 ki gi fdi psi si) (bi : Binds X.K fdi psi []) (Fl : FnOk X.prog X.w X.K X.mg X.base CX0 kl gl fdl psl sl) (bl : Binds X.K fdl psl [])
    (hr : Room (max ki (kl + 1) + 2) X.A) (hcalm : X.calm = true := by rfl) : CallR X (.type "list") (rListO X.K C si sl E) := by
  rintro pins s σ H xs us Q I rv ⟨a, dx, fs, rfl, ha, hq⟩
  obtain ⟨u, rfl, ru⟩ := rv.one
  cases ru
  have sb0 : Sub X (max ki (kl + 1)) X.A.in1.in1 := (sub_here hr).in1.in1
  have hh : X.A.handled = none := I.ok.hd hcalm
  refine callType_codes (Q₁ := fun obj s₁ => obj = .ref s.heap.objs.size ∧ s₁ = { s with heap := s.heap.push { cls := .type "list", data := .seq #[] } }) PySem.F.called_list (PySem.F.typeCall_list_1 _) PySem.F.entry_list_init (code_list_new _ ⟨rfl, rfl⟩) ?_
  rintro obj s₁ ⟨rfl, rfl⟩
  have hS : (s.heap.push { cls := .type "list", data := .seq #[] }).get? s.heap.objs.size = some { cls := .type "list", data := .seq #[] } := Heap.get?_push_size _ rfl
  refine ⟨⟨_, hS, rfl⟩, PySem.F.args_list_init_2 _ _, ?_⟩
  have fr : H s.heap.objs.size = none := I.hok.fresh (Nat.le_refl _)
  have todo := hq _ fr
  generalize hqq : s.heap.objs.size = q at *
  have I1 : Inv X pins σ (upd H q (.lst [])) { s with heap := s.heap.push { cls := .type "list", data := .seq #[] } } := by
    rw [← hqq]
    exact I.lnew (its := []) (t' := s.toks) .nil (Nat.zero_le _)
  show wpAny _ _ (Builtin.List.listItems (.ref q) >>= fun old => Builtin.List.listUpdate (.ref q) (fun _ => #[]) >>= fun _ => letGo old.toList.reverse >>= fun _ => Builtin.List.listExtendWith (.ref q) (.ref a) .none) _ _ _
  refine wpAny_bind ?_
  unfold Builtin.List.listItems
  refine wpAny_bind (wpAny_seqItems hS rfl (wpAny_pure ?_))
  refine wpAny_bind (m := updateSeq q fun _ => #[]) (wpAny_updateSeq hS rfl ?_)
  have I2 := I1.lset (f := fun _ => #[]) (its := []) (its' := []) (ys := []) (t' := s.toks) upd_same hS rfl .nil (Nat.zero_le _)
  rw [upd_upd] at I2
  refine wpAny_bind (wpAny_letGo ?_)
  have ha2 : upd H q (.lst []) a = some (.ins C dx fs) := by rw [upd_ne (ne_of_none ha fr)]; exact ha
  obtain ⟨ox, od, J⟩ := inst_of I2 ha2
  obtain ⟨m0, hF⟩ := I2.fr
  have naq : a ≠ q := ne_of_none ha fr
  unfold Builtin.List.listExtendWith
  refine wpAny_bind (J.type.here ?_)
  have h1 : Builtin.List.listSameRef (.ref q) (.ref a) = false := beq_eq_false_iff_ne.mpr naq.symm
  refine PySem.W.KFB.if_not (by rw [h1]; rfl) ?_
  refine wpAny_bind (PySem.W.owit_iter hF I2.ok.mod.kin J c.it c.itF ?_)
  refine thn (run_under0 (us := [.ref a]) (vs := [.ref a]) Fi (sb0.mono (Nat.le_max_left _ _)) bi I2 (.cons rfl .nil) todo) ?_
  rintro w s2 ⟨z, H1, I3, rz, l, it, zs, rfl, ha3, hit, hl, lq, lit, hq3, hsl⟩
  cases rz
  unfold PySem.W.OwitIt
  have hT : s2.TypeIs (.ref it) "list_iterator" := ⟨_, itO_get I3 hit, rfl⟩
  refine wpAny_specialOf (name := Str.ofString "__next__") hT slot_listiter_next.lookup ?_
  refine wpAny_bind (wpAny_holding (hint_own c.ln Fl bl (sb0.mono (Nat.le_max_right _ _)) I3 ha3 hsl ?_))
  rintro room n H2 s3 I4 ⟨hit4, hl4, hq4, qend⟩
  have hne : it ≠ q := ne_of hit4 hq4 (fun z => by cases z)
  have fin : ∀ s4, Inv X pins σ H2 s4 → codeAny (model X.prog X.w) X.A.in1 (.builtin "list.extend.loop" ⟨[.ref q, .ref it, .none], []⟩) (wants (fun r s₂ => r = .none ∧ EP X pins σ Q (.ref q) s₂) X.xe) s4 := fun s4 I5 =>
    drain (A1 := X.A.in1) (F := upd (upd H2 it (junk it)) q (.lst zs)) (by simp [hh]) lit lq hne (fun s' I6 => ⟨rfl, .ref q, _, I6, rfl, qend⟩) _ 0 H2 s4 rfl (Nat.zero_le _) I5 hit4 hl4 (by rw [List.take_zero]; exact hq4) rfl
  refine wpAny_ite_split (fun _ => ?_) (fun _ => wpAny_pure ⟨plainId_quiet PySem.F.plain_extend_loop _, fin s3 I4⟩)
  refine wpAny_bind (wpAny_rule (wpAny_bind ?_))
  obtain ⟨_, its, k4, r4, hl5, e4⟩ := I4.lstM hq4
  cases r4
  refine wpAny_bind (m := updateSeq q (·.push .none)) (wpAny_updateSeq e4 rfl ?_)
  have I5 := I4.lset (f := (·.push Value.none)) (its' := [Value.none]) (ys := [.non]) (t' := s3.toks) hq4 e4 (by simp) (.cons rfl .nil) (by rw [List.length_singleton, sizeLine_eq]; decide)
  obtain ⟨_, its5, k5, r5, hl6, e5⟩ := I5.lstM upd_same
  obtain ⟨u5, rfl, ru5⟩ := r5.one
  refine wpAny_updateSeq (a := q) (f := (·.pop)) e5 rfl ?_ (by show 1 ≤ sizeLine; rw [sizeLine_eq]; decide) (by show 0 ≤ sizeLine + 1; exact Nat.zero_le _)
  have I6 := I5.lset (f := (·.pop)) (its := [u5]) (its' := []) (ys := []) (t' := s3.toks) upd_same e5 (by rfl) .nil (Nat.zero_le _)
  rw [upd_upd, same_upd hq4] at I6
  exact wpAny_pure ⟨plainId_quiet PySem.F.plain_extend_loop _, fin _ I6⟩
end
/-! ### a static method, called by its class's name -/
structure StaC (K : PySem.W.Frag) (C : Addr) (mc : Value) (m : Str) (p g : Addr) : Prop where
  rd : PySem.W.readsIn K C mc = true
  ga : PySem.W.specialIn K (.ref C) "__getattribute__" = some (some (.builtin "type.__getattribute__"))
  at_ : PySem.W.findCls K (.ref C) mc m = some (.get (.builtin "staticmethod.__get__") (.ref p) .none (.ref C))
  rc : ∃ rest, PySem.W.recIn K p "staticmethod" = some (.ref g :: rest)
  kp : PySem.W.keepIn K (.ref g) = true
def tSta (C : Addr) (sp : Sp) (dvs : List V) (E : XK) (ta : TE) (t : TA) : TE := fun σ H Q => ta σ H fun x H1 => x = .ref C ∧ t σ H1 fun vs H2 => sp (vs ++ dvs) H2 Q E
section
variable {X : Cx} {CX : CXT} {C p g : Addr} {mc : Value} {m : Str} {fd : FuncData} {ps : List Str} {sp : Sp} {E : XK} {k : Nat} {o e : Expr} {es : List Expr} {ta : TE} {t : TA} {apos pos : Pos} {dvs : List V} {ds : List Value}
theorem pe_sta {pl : Sem Bool} (he : PE X o ta) (c : StaC X.K C mc m p g) (F : FnOk X.prog X.w X.K X.mg X.base CX k g fd ps sp) (hr : Room k X.A) (hb : Binds X.K fd ps ds) (hd : Vals dvs ds) (hx : Passes CX X E) (ha : PA X (e :: es) t)
    (hst : starEach (e :: es) X.env = (false, eval e X.env) :: starEach es X.env := by rfl) (hpl : (backTo pos (starEach es X.env)).any (·.1) = false := by rfl)
    (ht : eval (.Call (.Attribute o m apos) (e :: es) [] pos) X.env = (eval o X.env >>= fun ov => standAt apos.atName >>= fun _ => holding [ov] (getMethod ov m pl) >>= fun fr => callWith pos fr.1 fr.2 (backTo pos (starEach (e :: es) X.env)) (backToKw pos (keywordEach [] X.env))) := by rfl) :
    PE X (.Call (.Attribute o m apos) (e :: es) [] pos) (tSta C sp dvs E ta t) := by
  refine ⟨fun pins s σ H Q I h => ?_⟩
  refine PySem.W.methodCall_KW (pl := pl) (thn (he.run pins s σ H _ I h) ?_) ht
  rintro u s1 ⟨x, H1, I1, rx, rfl, q⟩
  cases rx
  obtain ⟨rest, hp⟩ := c.rc
  refine PySem.W.method_cls I1.kIn c.ga (PySem.W.cls_bind I1.kIn c.rd c.at_ (wpAny_call ?_))
  refine PySem.W.sm_get (s := { s1 with toks := s1.toks + 1 }) I1.kIn hp (PySem.W.handed_on rfl ?_)
  refine PySem.W.callWith_K (first := []) (h₀ := X.base) I1.ok.mod.kin c.kp (thn (ha.run pos pins _ σ H1 _ (I1.tok _) q) fun us s2 ⟨vs, H2, I2, r, q2⟩ => ⟨I2.kIn, ?_⟩) hst hpl
  exact run_fn F hr hb hd hx I2 r q2
/-- x in t, t a tuple, of data of any depth -/
def rInT (K : PySem.W.Frag) (neg : Bool) : R2 := fun x y H Q => ∃ d ds, Dp K H x d ∧ Dp K H y (.tuple ds) ∧ SeqAt.shaped d = true ∧ SeqAt.shaped (.tuple ds) = true ∧ Q (.bl (if neg then !(ds.any fun z => PyData.eqv z d) else ds.any fun z => PyData.eqv z d)) H
theorem op_inT (hu : X.A.units + 65 < cLine) : OpR X (compareOp .In) (rInT X.K false) := by
  rintro pins s σ H x y v u Q I rx ry ⟨d, ds, hd, he, sd, se, q⟩
  obtain ⟨as, r1⟩ := Dp.reads I d x v hd rx
  obtain ⟨bs, r2⟩ := Dp.reads I (.tuple ds) y u he ry
  exact SeqAt.in_tuple_reads r2 r1 (SeqAt.canLay_of_shaped se) (SeqAt.canLay_of_shaped sd) (room_in_shaped sd hu) ⟨.bl _, H, I, rfl, q⟩
theorem op_notInT (hu : X.A.units + 65 < cLine) : OpR X (compareOp .NotIn) (rInT X.K true) := by
  rintro pins s σ H x y v u Q I rx ry ⟨d, ds, hd, he, sd, se, q⟩
  obtain ⟨as, r1⟩ := Dp.reads I d x v hd rx
  obtain ⟨bs, r2⟩ := Dp.reads I (.tuple ds) y u he ry
  exact SeqAt.notIn_tuple_reads r2 r1 (SeqAt.canLay_of_shaped se) (SeqAt.canLay_of_shaped sd) (room_in_shaped sd hu) ⟨.bl _, H, I, rfl, q⟩
end
end My

set_option Elab.async false
set_option linter.all false
set_option maxRecDepth 100000
set_option maxHeartbeats 4000000
/-! ### slices of mapped lists -/
namespace My
open PySem L2
theorem cut_ij {α : Type} {f : α → V} {ts : List α} {i j : Nat} (h : i ≤ j) : cutV (ts.map f) (some (i : Int)) (some (j : Int)) = ((ts.drop i).take (j - i)).map f := by
  unfold cutV
  rw [HT.sIx_nat, HT.sIx_nat, List.length_map, ← List.map_drop, ← List.map_take]
  congr 1
  rcases Nat.le_total i ts.length with z | z
  · rw [Nat.min_eq_left z]
    rcases Nat.le_total j ts.length with z2 | z2
    · rw [Nat.min_eq_left z2]
    · rw [Nat.min_eq_right z2, List.take_of_length_le (by rw [List.length_drop]; omega), List.take_of_length_le (by rw [List.length_drop]; omega)]
  · rw [Nat.min_eq_right z, List.drop_length, List.drop_of_length_le z]; simp
theorem cut_0j {α : Type} {f : α → V} {ts : List α} {j : Nat} : cutV (ts.map f) none (some (j : Int)) = (ts.take j).map f := by
  have := cut_ij (f := f) (ts := ts) (Nat.zero_le j)
  rw [List.drop_zero, Nat.sub_zero] at this
  exact this
theorem cut_i {α : Type} {f : α → V} {ts : List α} {i : Nat} : cutV (ts.map f) (some (i : Int)) none = (ts.drop i).map f := by
  unfold cutV
  rw [HT.sIx_nat, ← List.map_drop, ← List.map_take]
  congr 1
  show (ts.drop (min i (ts.map f).length)).take ((ts.map f).length - _) = _
  rw [List.length_map]
  rcases Nat.le_total i ts.length with z | z
  · rw [Nat.min_eq_left z, List.take_of_length_le (by rw [List.length_drop]; omega)]
  · rw [Nat.min_eq_right z, List.drop_length, List.drop_of_length_le z]; simp
end My

set_option Elab.async false
set_option linter.all false
set_option maxRecDepth 100000
set_option maxHeartbeats 4000000
/-! ### data of any depth: kept, walked in lists or tuples -/
namespace My
open PySem PySem.Spec PyProof.Rows L2
/-- no list or tuple stands in S -/
def NoSq (H : Hp) (S : List Addr) : Prop := ∀ a ∈ S, (∀ xs, H a ≠ some (.lst xs)) ∧ (∀ xs, H a ≠ some (.tup xs)) ∧ ∀ o u, H a ≠ some (.frz o u)
theorem noSq0 {H : Hp} : NoSq H [] := fun a h => nomatch h
theorem noSq1 {H : Hp} {a C dx : Addr} {fs : List (Str × V)} (h : H a = some (.ins C dx fs)) : NoSq H [a] := fun b hb => by
  rw [List.mem_singleton.mp hb, h]
  exact ⟨fun _ z => (by cases z), fun _ z => (by cases z), fun _ _ z => (by cases z)⟩
theorem Kp.lsN {S : List Addr} {K : PySem.W.Frag} {H H' : Hp} {a : Addr} {xs : List V} (k : Kp S H H') (n : NoSq H S) (h : SqL K H a xs) : SqL K H' a xs := by
  rcases h with (h | ⟨o, h⟩) | h
  · exact .inl (.inl (k _ _ (fun z => (n a z).1 _ h) h))
  · exact .inl (.inr ⟨o, k _ _ (fun z => (n a z).2.2 _ _ h) h⟩)
  · exact .inr h
theorem Kp.tpN {S : List Addr} {K : PySem.W.Frag} {H H' : Hp} {a : Addr} {xs : List V} (k : Kp S H H') (n : NoSq H S) (h : SqT K H a xs) : SqT K H' a xs := by
  rcases h with (h | ⟨o, h⟩) | h
  · exact .inl (.inl (k _ _ (fun z => (n a z).2.1 _ h) h))
  · exact .inl (.inr ⟨o, k _ _ (fun z => (n a z).2.2 _ _ h) h⟩)
  · exact .inr h
mutual
theorem dpN {S : List Addr} {K : PySem.W.Frag} {H H' : Hp} (k : Kp S H H') (n : NoSq H S) : ∀ {d : PyData} {v : V}, Dp K H v d → Dp K H' v d
  | _, _, .non => .non
  | _, _, .bl b => .bl b
  | _, _, .int i => .int i
  | _, _, .str x => .str x
  | _, _, .lst e h => .lst (k.lsN n e) (dpAllN k n h)
  | _, _, .tup e h => .tup (k.tpN n e) (dpAllN k n h)
theorem dpAllN {S : List Addr} {K : PySem.W.Frag} {H H' : Hp} (k : Kp S H H') (n : NoSq H S) : ∀ {ds : List PyData} {vs : List V}, DpAll K H vs ds → DpAll K H' vs ds
  | _, _, .nil => .nil
  | _, _, .cons h t => .cons (dpN k n h) (dpAllN k n t)
end
mutual
def noLs : PyData → Bool
  | .list _ => false
  | .tuple ds => noLsAll ds
  | _ => true
def noLsAll : List PyData → Bool
  | [] => true
  | d :: ds => noLs d && noLsAll ds
end
/-- .. stand as before, where lists change -/
def NoTp (H : Hp) (S : List Addr) : Prop := ∀ a ∈ S, (∀ xs, H a ≠ some (.tup xs)) ∧ ∀ o u, H a ≠ some (.frz o u)
theorem noTp1 {H : Hp} {a : Addr} {xs : List V} (h : H a = some (.lst xs)) : NoTp H [a] := fun b hb => by
  rw [List.mem_singleton.mp hb, h]
  exact ⟨fun _ z => (by cases z), fun _ _ z => (by cases z)⟩
theorem Kp.tpT {S : List Addr} {K : PySem.W.Frag} {H H' : Hp} {a : Addr} {xs : List V} (k : Kp S H H') (n : NoTp H S) (h : SqT K H a xs) : SqT K H' a xs := by
  rcases h with (h | ⟨o, h⟩) | h
  · exact .inl (.inl (k _ _ (fun z => (n a z).1 _ h) h))
  · exact .inl (.inr ⟨o, k _ _ (fun z => (n a z).2 _ _ h) h⟩)
  · exact .inr h
mutual
theorem dpT {S : List Addr} {K : PySem.W.Frag} {H H' : Hp} (k : Kp S H H') (n : NoTp H S) : ∀ {d : PyData} {v : V}, Dp K H v d → noLs d = true → Dp K H' v d
  | _, _, .non, _ => .non
  | _, _, .bl b, _ => .bl b
  | _, _, .int i, _ => .int i
  | _, _, .str x, _ => .str x
  | _, _, .lst e h, z => by cases z
  | _, _, .tup e h, z => .tup (k.tpT n e) (dpAllT k n h z)
theorem dpAllT {S : List Addr} {K : PySem.W.Frag} {H H' : Hp} (k : Kp S H H') (n : NoTp H S) : ∀ {ds : List PyData} {vs : List V}, DpAll K H vs ds → noLsAll ds = true → DpAll K H' vs ds
  | _, _, .nil, _ => .nil
  | _, _, .cons h t, z => by
    have z' := Bool.and_eq_true_iff.mp z
    exact .cons (dpT k n h z'.1) (dpAllT k n t z'.2)
end
theorem dpLen {K : PySem.W.Frag} {H : Hp} : ∀ {ds : List PyData} {vs : List V}, DpAll K H vs ds → vs.length = ds.length
  | _, _, .nil => rfl
  | _, _, .cons h t => by rw [List.length_cons, List.length_cons, dpLen t]
theorem dpGet {K : PySem.W.Frag} {H : Hp} : ∀ {ds : List PyData} {vs : List V}, DpAll K H vs ds → ∀ {i : Nat} {v : V}, vs[i]? = some v → ∃ d, ds[i]? = some d ∧ Dp K H v d
  | _, _, .nil, _, _, e => nomatch e
  | _, _, .cons h t, 0, _, e => by cases e; exact ⟨_, rfl, h⟩
  | _, _, .cons h t, i + 1, _, e => dpGet t (i := i) e
theorem dpApp {K : PySem.W.Frag} {H : Hp} : ∀ {ds es : List PyData} {vs us : List V}, DpAll K H vs ds → DpAll K H us es → DpAll K H (vs ++ us) (ds ++ es)
  | _, _, _, _, .nil, k => k
  | _, _, _, _, .cons h t, k => .cons h (dpApp t k)
theorem dpTake {K : PySem.W.Frag} {H : Hp} : ∀ {ds : List PyData} {vs : List V}, DpAll K H vs ds → ∀ i, DpAll K H (vs.take i) (ds.take i)
  | _, _, .nil, i => by rw [List.take_nil, List.take_nil]; exact .nil
  | _, _, .cons h t, 0 => .nil
  | _, _, .cons h t, i + 1 => .cons h (dpTake t i)
theorem dpDrop {K : PySem.W.Frag} {H : Hp} : ∀ {ds : List PyData} {vs : List V}, DpAll K H vs ds → ∀ i, DpAll K H (vs.drop i) (ds.drop i)
  | _, _, .nil, i => by rw [List.drop_nil, List.drop_nil]; exact .nil
  | _, _, .cons h t, 0 => .cons h t
  | _, _, .cons h t, i + 1 => dpDrop t i
theorem dpRev {K : PySem.W.Frag} {H : Hp} : ∀ {ds : List PyData} {vs : List V}, DpAll K H vs ds → DpAll K H vs.reverse ds.reverse
  | _, _, .nil => .nil
  | _, _, .cons h t => by
    rw [List.reverse_cons, List.reverse_cons]
    exact dpApp (dpRev t) (.cons h .nil)
theorem dpStrs {K : PySem.W.Frag} {H : Hp} : ∀ zs : List Str, DpAll K H (zs.map V.str) (zs.map PyData.str)
  | [] => .nil
  | z :: zs => .cons (.str z) (dpStrs zs)
/-- an object walked that is a list or a tuple -/
def SqAny (K : PySem.W.Frag) (H : Hp) (a : Addr) (xs : List V) : Prop := SqL K H a xs ∨ SqT K H a xs
theorem Kp.anyN {S : List Addr} {K : PySem.W.Frag} {H H' : Hp} {a : Addr} {xs : List V} (k : Kp S H H') (n : NoSq H S) (h : SqAny K H a xs) : SqAny K H' a xs := h.imp (k.lsN n) (k.tpN n)
def iSeq (K : PySem.W.Frag) (tl : TE) : TI := fun σ H R => tl σ H fun x H1 => ∃ a, x = .ref a ∧ (((∃ xs, SqL K H1 a xs) ∧ R (Itl K a) H1) ∨ ((∃ xs, SqT K H1 a xs) ∧ R (Itt K a) H1))
section
variable {X : Cx} {tg : Expr}
theorem pi_seq {l : Expr} {tl : TE} (hl : PE X l tl) : PI X tg l (iSeq X.K tl) := by
  refine ⟨fun pins s σ H R I h => thn (hl.run pins s σ H _ I h) ?_⟩
  rintro v s1 ⟨x, H1, I1, r1, a, rfl, ⟨⟨xs, hq⟩, q⟩ | ⟨⟨xs, hq⟩, q⟩⟩
  · cases r1
    obtain ⟨its, rv, p, hz⟩ := I1.list hq
    refine wpAny_pyIter_list p.isList ⟨_, [_], _, _, H1, rfl, I1.kept (t' := s1.toks) (fun b o e => Heap.get?_push_of_some _ e), turn_list a _, ⟨_, Heap.get?_push_size _ rfl, rfl, rfl⟩, fun b hb => ?_, q⟩
    rw [List.mem_singleton.mp hb]
    exact I1.fpOk (Nat.le_refl _) (I1.hok.fresh (Nat.le_refl _))
  · cases r1
    obtain ⟨its, rv, p, hz⟩ := I1.tuple hq
    refine wpAny_pyIter_tuple (show s1.heap.IsTuple a its.toArray from p) ⟨_, [_], _, _, H1, rfl, I1.kept (t' := s1.toks) (fun b o e => Heap.get?_push_of_some _ e), turn_tuple a _, ⟨_, Heap.get?_push_size _ rfl, rfl, rfl⟩, fun b hb => ?_, q⟩
    rw [List.mem_singleton.mp hb]
    exact I1.fpOk (Nat.le_refl _) (I1.hok.fresh (Nat.le_refl _))
/-- x in s, s a list or a tuple -/
def rInS (K : PySem.W.Frag) (neg : Bool) : R2 := fun x y H Q => ∃ (d : PyData) (ds : List PyData) (a : Addr) (xs : List V), y = .ref a ∧ SqAny K H a xs ∧ DpAll K H xs ds ∧ Dp K H x d ∧ SeqAt.shaped d = true ∧ SeqAt.shaped (.list ds) = true ∧ Q (.bl (if neg then !(ds.any fun z => PyData.eqv z d) else ds.any fun z => PyData.eqv z d)) H
theorem op_inS (hu : X.A.units + 65 < cLine) : OpR X (compareOp .In) (rInS X.K false) := by
  rintro pins s σ H x y v u Q I rx ry ⟨d, ds, a, xs, rfl, ha | ha, hx, hd, s1, s2, q⟩
  · exact op_inD hu pins s σ H x _ v u Q I rx ry ⟨d, ds, hd, .lst ha hx, s1, s2, q⟩
  · exact op_inT hu pins s σ H x _ v u Q I rx ry ⟨d, ds, hd, .tup ha hx, s1, s2, q⟩
theorem op_notInS (hu : X.A.units + 65 < cLine) : OpR X (compareOp .NotIn) (rInS X.K true) := by
  rintro pins s σ H x y v u Q I rx ry ⟨d, ds, a, xs, rfl, ha | ha, hx, hd, s1, s2, q⟩
  · exact op_notInD hu pins s σ H x _ v u Q I rx ry ⟨d, ds, hd, .lst ha hx, s1, s2, q⟩
  · exact op_notInT hu pins s σ H x _ v u Q I rx ry ⟨d, ds, hd, .tup ha hx, s1, s2, q⟩
theorem hu5 {A : Around} {k : Nat} (hr : Room k A) : A.units + 65 < cLine := by have := hr.un; omega
end
section
variable {K : PySem.W.Frag} {H H0 : Hp} {a : Addr} {xs : List V} {g : TG} {tb : TS} {D : Ends} {σ : L2.St} {i : Nat}
/-- for x in s, s a list or a tuple that stands still -/
theorem forS (Pv : Nat → L2.St → Hp → Prop) (hσ : σ[i]? = some (some (.ref a))) (hS : SqAny K H a xs) (h0 : Pv 0 σ H) (hk : ∀ j σ' H', Pv j σ' H' → Kp [] H H')
    (hs : ∀ j x σ H, xs[j]? = some x → Pv j σ H → g x σ H fun σ2 H2 => tb { D with nx := Pv (j + 1), ct := Pv (j + 1), bk := D.nx } σ2 H2) (hd : ∀ σ H, Pv xs.length σ H → D.nx σ H) : tFor (iSeq K (tVar i)) g tb D σ H := by
  rcases hS with h | h
  · exact ⟨_, hσ, a, rfl, .inl ⟨⟨xs, h⟩, for_list Pv h0 (fun j σ' H' _ p => (hk j σ' H' p).ls not0 h) hs hd⟩⟩
  · exact ⟨_, hσ, a, rfl, .inr ⟨⟨xs, h⟩, for_tup Pv h0 (fun j σ' H' _ p => (hk j σ' H' p).tp not0 h) hs hd⟩⟩
end
end My

set_option Elab.async false
set_option linter.all false
set_option maxRecDepth 100000
set_option maxHeartbeats 4000000
/-! ### d.values() as a value, list(d.values()) -/
namespace My
open PySem L2 PySem.W
/-- at q: the view of the values of the dict at d -/
def viewO (q d : Addr) : HO := .ext fun h => h.get? q = some ({ cls := .type "dict_values", data := .fields #[.ref d] } : Obj)
theorem view_ok {P : Program} {w : World} {H : Hp} {h : Heap} {q d : Addr} (e : h.get? q = some ({ cls := .type "dict_values", data := .fields #[.ref d] } : Obj)) : ObjOk P w H h q (viewO q d) := ⟨e, ⟨_, e⟩, fun _ _ z k => k _ z⟩
theorem view_at {P : Program} {w : World} {H : Hp} {h : Heap} {q d : Addr} (ok : HOk P w H h) (e : H q = some (viewO q d)) : h.get? q = some ({ cls := .type "dict_values", data := .fields #[.ref d] } : Obj) := by
  have x : ObjOk P w H h q (.ext fun h => h.get? q = some ({ cls := .type "dict_values", data := .fields #[.ref d] } : Obj)) := ok q _ e
  exact x.1
def tVals (td : TE) : TE := fun σ H Q => td σ H fun x H1 => ∃ (a : Addr) (kvs : List (Key × V)), x = .ref a ∧ H1 a = some (.dK kvs) ∧ ∀ q, H1 q = none → Q (.ref q) (upd H1 q (viewO q a))
def rListV : List V → Hp → VK → Prop := fun xs H Q => ∃ (q a : Addr) (kvs : List (Key × V)), xs = [.ref q] ∧ H q = some (viewO q a) ∧ H a = some (.dK kvs) ∧ ∀ p, H p = none → Q (.ref p) (upd H p (.lst (kvs.map fun kv => kv.2)))
theorem vals_of : ∀ {kvs : List (Key × V)} {vs : List (Key × Value)} {us : List Value}, KV kvs vs → us.length = vs.length → (∀ (j : Nat) (v : Value), us[j]? = some v → ∃ k, vs[j]? = some (k, v)) → Vals (kvs.map fun kv => kv.2) us
  | [], [], [], _, _, _ => .nil
  | p :: r, q :: vs, u :: us, h, hl, e => by
    cases h with
    | cons h1 h2 =>
      obtain ⟨k, e1⟩ := e 0 u rfl
      have e1' : q = (k, u) := Option.some.inj e1
      subst e1'
      exact .cons h1.2 (vals_of h2 (by simpa using hl) fun j v z => e (j + 1) v z)
  | [], _ :: _, _, h, _, _ => by cases h
  | _ :: _, [], _, h, _, _ => by cases h
  | [], [], _ :: _, _, hl, _ => by cases hl
  | _ :: _, _ :: _, [], _, hl, _ => by cases hl
section
variable {X : Cx} {o : Expr} {td : TE} {apos cpos : Pos}
theorem pe_values (he : PE X o td) (hbase : attributeBase o "values" X.env (eval o X.env) = eval o X.env := by rfl) (hline : (apos.endLine == cpos.line) = true := by rfl) : PE X (.Call (.Attribute o "values" apos) [] [] cpos) (tVals td) := by
  refine ⟨fun pins s σ H Q I h => ?_⟩
  refine wpAny_Call_method (T := "dict") (id := "dict.values") hbase rfl hline F.plainAttrs_dict F.slot_dict_values F.type_dict_values (thn (he.run pins s σ H _ I h) fun u s1 ⟨x, H1, I1, rx, d, kvs, ex, hd, q⟩ => ?_)
  subst ex
  cases (show u = Value.ref d from rx)
  obtain ⟨_, hs, vs, rel, dof⟩ := dk_of I1.hok hd
  refine ⟨dof.typeIs, dof.mapOf.noDict, ?_⟩
  have got := Heap.get?_push_size s1.heap (o := ({ cls := .type "dict_values", data := .fields #[.ref d] } : Obj)) rfl
  have J : Inv X pins σ (upd H1 s1.heap.objs.size (viewO s1.heap.objs.size d)) { s1 with heap := s1.heap.push { cls := .type "dict_values", data := .fields #[.ref d] } } := I1.laid (t' := s1.toks) (fun b ob q => Heap.get?_push_of_some _ q) (Nat.le_refl _) (view_ok got)
  exact method_meetsIn F.slot_dict_values F.entry_dict_values rfl (PySem.evalArgs_none ⟨rfl, dof.typeIs, F.args_dict_values_1 _, _, meets_dict_values (mixKind X.prog X.w) d hs, ⟨vs, dof⟩, ⟨.ref s1.heap.objs.size, _, J, rfl, q _ (I1.hok.fresh (Nat.le_refl _))⟩⟩)
theorem call_listV (hcalm : X.calm = true) : CallR X (.type "list") rListV := by
  intro pins s σ H xs us Q I r h
  obtain ⟨v, a, kvs, rfl, hv, ha, q⟩ := h
  obtain ⟨u, rfl, rx⟩ := vals1 r
  cases (show u = Value.ref v from rx)
  obtain ⟨z, hs, vs, rel, dof⟩ := dk_of I.hok ha
  obtain ⟨es, ep, raw, sz, each⟩ := dof.raw
  have hl := KV.length rel
  refine PySem.W.kdl_call (KdlSrc.rawValues (r := v) (d := a) (es := es) (ep := ep)) (I.ok.hd hcalm) ⟨⟨_, view_at I.hok hv, rfl, rfl⟩, raw⟩ (by omega) fun h' tk acc c' hk hD hacc => ?_
  have av : Vals (kvs.map fun kv => kv.2) acc.toList := vals_of rel (by rw [Array.length_toList, hacc.1, sz]) fun j u ej => by
    rw [Array.getElem?_toList] at ej
    obtain ⟨hi, rfl⟩ := hacc.2 j u ej
    have hj : j < vs.length := by omega
    have e1 : vs[j]? = some (vs[j].1, vs[j].2) := List.getElem?_eq_getElem hj
    have e2 := (each j hi _ _ e1).2
    exact ⟨vs[j].1, by rw [e1, e2]⟩
  refine ⟨.ref s.heap.objs.size, upd H s.heap.objs.size (.lst (kvs.map fun kv => kv.2)), I.laid (t' := tk) hk (Nat.le_refl _) ?_, rfl, q _ (I.hok.fresh (Nat.le_refl _))⟩
  exact (show ObjOk X.prog X.w _ _ _ (.lst _) from ⟨by rw [List.length_map]; exact z, acc.toList, c', av, by rw [Array.toArray_toList]; exact hD⟩)
end
end My

set_option linter.all false
/-! ### sorted texts: one list -/
namespace My
open PySem PyProof.Rows
theorem risingS_pw : ∀ (l : List Str) (p : Str), risingS p l = true → (p :: l).Pairwise (fun a b => a.cps.toList ≤ b.cps.toList)
  | [], p, _ => List.pairwise_singleton _ _
  | x :: r, p, h => by
    have h' : (!Spec.ltCps x.cps.toList p.cps.toList && risingS x r) = true := h
    rw [Bool.and_eq_true, ltCps_eq] at h'
    have px : p.cps.toList ≤ x.cps.toList := by
      have := h'.1
      simp only [Bool.not_eq_true', decide_eq_false_iff_not] at this
      exact List.not_lt.mp this
    have ih := risingS_pw r x h'.2
    refine List.pairwise_cons.mpr ⟨fun y hy => ?_, ih⟩
    rcases List.mem_cons.mp hy with rfl | hy
    · exact px
    · exact List.le_trans px (List.rel_of_pairwise_cons ih hy)
theorem sortedS_pw {l : List Str} (h : sortedS l = true) : l.Pairwise (fun a b => a.cps.toList ≤ b.cps.toList) := by
  cases l with
  | nil => exact List.Pairwise.nil
  | cons x r => exact risingS_pw r x h
theorem str_ext {a b : Str} (h : a.cps.toList = b.cps.toList) : a = b := by
  obtain ⟨⟨a⟩⟩ := a
  obtain ⟨⟨b⟩⟩ := b
  have h' : a = b := h
  rw [h']
theorem sorted_uniq {l m : List Str} (hl : sortedS l = true) (hm : sortedS m = true) (p : l.Perm m) : l = m :=
  List.Perm.eq_of_pairwise (le := fun a b : Str => a.cps.toList ≤ b.cps.toList) (fun a b _ _ h1 h2 => str_ext (List.le_antisymm h1 h2)) (sortedS_pw hl) (sortedS_pw hm) p
end My

set_option Elab.async false
set_option linter.all false
set_option maxRecDepth 100000
set_option maxHeartbeats 4000000
/-! ### slices and sums of any tuples, as their callers read them -/
namespace My
open PySem L2
theorem cut_to (xs : List V) (k : Nat) : cutV xs none (some (k : Int)) = xs.take k := by
  unfold cutV
  rw [HT.sIx_none, HT.sIx_nat, List.drop_zero, Nat.sub_zero]
  by_cases h : k ≤ xs.length
  · rw [Nat.min_eq_left h]
  · rw [Nat.min_eq_right (by omega), List.take_length, List.take_of_length_le (by omega)]
theorem cut_from (xs : List V) (k : Nat) : cutV xs (some (k : Int)) none = xs.drop k := by
  unfold cutV
  rw [HT.sIx_none, HT.sIx_nat]
  by_cases h : k ≤ xs.length
  · rw [Nat.min_eq_left h, List.take_of_length_le (by rw [List.length_drop]; omega)]
  · rw [Nat.min_eq_right (by omega), List.drop_length, List.drop_of_length_le (by omega), List.take_nil]
section
variable {K : PySem.W.Frag} {H : Hp} {a b : Addr} {xs ys : List V} {Q : VK} {k : Nat} {i : Int}
theorem slA_to (e : i = (k : Nat)) (h : H a = some (.tup xs)) (q : ∀ r H', H' r = some (.tup (xs.take k)) → Kp [] H H' → Q (.ref r) H') : rSlA K (.ref a) none (some i) H Q := by
  subst e
  refine ⟨a, xs, rfl, sq_t h, fun z => q a H ?_ (Kp.refl _ _), fun _ p np => q p _ (by rw [upd_same, cut_to]) (Kp.new np)⟩
  have z2 := z.2
  rw [HT.sIx_nat] at z2
  rw [h, List.take_of_length_le (by omega)]
theorem slA_from (e : i = (k : Nat)) (h : H a = some (.tup xs)) (q : ∀ r H', H' r = some (.tup (xs.drop k)) → Kp [] H H' → Q (.ref r) H') : rSlA K (.ref a) (some i) none H Q := by
  subst e
  refine ⟨a, xs, rfl, sq_t h, fun z => q a H ?_ (Kp.refl _ _), fun _ p np => q p _ (by rw [upd_same, cut_from]) (Kp.new np)⟩
  have z1 := z.1
  rw [HT.sIx_nat] at z1
  by_cases h0 : k = 0
  · rw [h, h0]; rfl
  · have : xs = [] := List.eq_nil_of_length_eq_zero (by omega)
    rw [h, this, List.drop_nil]
theorem catA_use (ha : H a = some (.tup xs)) (hb : H b = some (.tup ys)) (hl : xs.length + ys.length ≤ 1000) (q : ∀ r H', H' r = some (.tup (xs ++ ys)) → Kp [] H H' → Q (.ref r) H') : rCatA K (.ref a) (.ref b) H Q := by
  refine ⟨a, b, xs, ys, rfl, rfl, sq_t ha, sq_t hb, small (by omega), fun e => q b H ?_ (Kp.refl _ _), fun _ e => q a H ?_ (Kp.refl _ _), fun _ _ p np => q p _ upd_same (Kp.new np)⟩
  · rw [hb, e]; rfl
  · rw [ha, e, List.append_nil]
end
end My

set_option Elab.async false
set_option linter.all false
set_option maxRecDepth 100000
set_option maxHeartbeats 4000000
/-! ### x[y], x an instance of an own class that defines __getitem__ -/
namespace My
open PySem PySem.Spec PyProof.Rows L2
section
variable {X : Cx} {CX : CXT} {pins : List (Addr × Obj)} {σ : L2.St} {H : Hp} {s : Shared} {C g a : Addr} {fd : FuncData} {ps : List Str} {sp : Sp} {E : XK} {k : Nat} {A1 : Around}
structure GetC (K : PySem.W.Frag) (C g : Addr) : Prop where
  at_ : PySem.W.findIn K (.ref C) "__getitem__" = some (some (.ref g))
  fn : PySem.W.isFn K (.ref g) = true
  it : PySem.W.fnIn K g = true
def rGetO (C : Addr) (sp : Sp) (E : XK) : R2 := fun x y H Q => ∃ (a dx : Addr) (fs : List (Str × V)), x = .ref a ∧ H a = some (.ins C dx fs) ∧ sp [.ref a, y] H Q E
theorem pe_getO {o i : Expr} {ta tb : TE} {pos : Pos} (c : GetC X.K C g) (F : FnOk X.prog X.w X.K X.mg X.base CX k g fd ps sp) (hb : Binds X.K fd ps []) (hr : Room (k + 1) X.A) (hx : Passes CX X E) (ha : PE X o ta) (hi : PE X i tb)
    (hsl : ∀ v u, subscripted i true v u = runValue (.builtin "lifetime.subscript" ⟨[v, u], []⟩) := by intros; rfl) : PE X (.Subscript o i pos) (tOp (rGetO C sp E) ta tb) := by
  refine ⟨fun pins s σ H Q I h => ?_⟩
  refine Subscript_ (binT ha hi I h fun v u s2 x y H2 I2 rx ry q => ?_)
  obtain ⟨a, dx, fs, rfl, hh, q⟩ := q
  cases rx
  obtain ⟨ox, od, J⟩ := inst_of I2 hh
  obtain ⟨m, hF⟩ := I2.fr
  refine PySem.W.sub_K hF I2.ok.mod.kin J c.at_ c.it c.fn ?_ (hsl _ _)
  exact run_under (us := [.ref a, u]) (vs := [.ref a, y]) F (sub_here hr).in1 hb hx I2 (.cons rfl (.cons ry .nil)) q
end
end My

set_option Elab.async false
set_option linter.all false
set_option maxRecDepth 100000
set_option maxHeartbeats 4000000
/-! ### enumerate(t), t a tuple -/
namespace My
open PySem PySem.Spec PyProof PyProof.Rows L2
set_option maxHeartbeats 1000000 in
theorem meets_enum1 {v : Value} {o : Obj} {H : Heap → Prop} (B : Begins v o H) :
    Meets (Builtin.«enumerate.__new__» ⟨[.type "enumerate", v], []⟩) (fun _ R s => H s.heap ∧
      R (.ok (.ret (.ref (s.heap.push o).objs.size))) { s with heap := (s.heap.push o).push { cls := .type "enumerate", data := .fields #[.none, .bool false, .ref s.heap.objs.size, rawInt 0, .none, .none] } }) :=
  .of_wp fun prog w A R s h => by
    obtain ⟨hp, g, d, tk, os⟩ := s; obtain ⟨h1, h⟩ := h
    have hsub := sub_enumerate
    have q1 : ∀ {A' : Around} {E : Value → Shared → Prop} {Q : Value → Shared → Prop}, Q (.ref hp.objs.size) ⟨hp.push o, g, d, tk, os⟩ → wpAny (model prog w) A' (pyIter v) Q E ⟨hp, g, d, tk, os⟩ :=
      fun q => B.iter prog w _ _ ⟨hp, g, d, tk, os⟩ _ h1 q
    wp_walk using q1
    refine wpAny_stack_any fun st => wpAny_pure ?_
    split
    · rename_i c _ _ _ _ _
      cases (c == Value.type "enumerate")
      · wp_walk using q1
        exact ⟨_, rfl, h⟩
      · wp_walk using q1
        exact ⟨_, rfl, h⟩
    · wp_walk using q1
      exact ⟨_, rfl, h⟩
section
variable {prog : Program} {w : World} {A : Around} {E : Value → Shared → Prop} {s : Shared}
theorem enum1_begins {v : Value} {o : Obj} {H : Heap → Prop} {Q : Value → Shared → Prop} (B : Begins v o H) (h1 : H s.heap)
    (h : ∀ h', IsEnum h' (s.heap.objs.size + 1) s.heap.objs.size 0 .none → h'.get? s.heap.objs.size = some o → h'.objs.size = s.heap.objs.size + 2 →
      (∀ b o, s.heap.get? b = some o → h'.get? b = some o) → Q (.ref (s.heap.objs.size + 1)) { s with heap := h' }) :
    wpAny (model prog w) A (call (.type "enumerate") [v]) Q E s := by
  refine callType_new F.called_enumerate (by decide) (F.typeCall_enumerate_1 _) (F.newCall_enumerate_1 _) (fun obj => F.args_object_init_2 obj _) F.entry_enumerate_new
    (meets_enum1 B) ⟨h1, ?_⟩
  have hz : (s.heap.push o).objs.size = s.heap.objs.size + 1 := Heap.size_push ..
  show _ ∧ _
  rw [hz]
  have he : IsEnum ((s.heap.push o).push { cls := .type "enumerate", data := .fields #[.none, .bool false, .ref s.heap.objs.size, rawInt 0, .none, .none] }) (s.heap.objs.size + 1) s.heap.objs.size 0 .none := by
    have := Heap.get?_push_size (s.heap.push o) (o := { cls := .type "enumerate", data := .fields #[.none, .bool false, .ref s.heap.objs.size, rawInt 0, .none, .none] }) rfl
    rw [hz] at this; exact this
  refine ⟨⟨_, he, rfl⟩, h _ he (Heap.get?_push_of_some _ (Heap.get?_push_size _ B.free)) (by rw [Heap.size_push, hz]) fun b o x => Heap.get?_push_of_some _ (Heap.get?_push_of_some _ x)⟩
end
/-- the tuple at a, each item in a new pair with its number -/
def IteT (K : PySem.W.Frag) (a : Addr) : It :=
  ⟨fun i H => ∃ (xs : List V) (x : V), SqT K H a xs ∧ xs[i]? = some x, fun i H v H' => ∃ T x, v = .ref T ∧ H T = none ∧ H' = upd H T (.tup [.int (i : Nat), x]) ∧ ∀ xs, SqT K H a xs → xs[i]? = some x, fun i H => ∃ xs : List V, SqT K H a xs ∧ xs.length ≤ i⟩
theorem turn_enumT {P : Program} {w : World} {K : PySem.W.Frag} {elts : List Expr} {kk : Nat} {tpos : Pos} (a e it : Addr) :
    Turn P w K (.Tuple elts kk tpos) (IteT K a) [e, it] e (fun i h => (∃ old, IsEnum h e it ((i : Nat) : Int) old) ∧ h.IsTupleIter it a i ∧ e ≠ it ∧ a ≠ it ∧ e ≠ a) where
  mem := by simp
  obj := fun i h st b hb => by
    obtain ⟨⟨old, he⟩, ⟨o, ho, hc, hd⟩, _⟩ := st
    have e' : b = e ∨ b = it := by simpa using hb
    rcases e' with z | z
    · rw [z]; exact ⟨_, he, fun v q => nomatch q⟩
    · rw [z]; exact ⟨o, ho, fun v q => by rw [hd] at q; cases q⟩
  keep := fun i h h' st k => let ⟨⟨old, he⟩, hi, hne⟩ := st; ⟨⟨old, k e (by simp) _ he⟩, hi.at fun o q => k it (by simp) o q, hne⟩
  item := by
    intro X hP hw hK hc i pins s σ H E I hf st hg
    subst hP hw hK
    obtain ⟨⟨old, he⟩, hit, hne, hai, hea⟩ := st
    obtain ⟨xs, x, hq, hx⟩ := hg
    obtain ⟨its, rv, p, hz⟩ := I.tuple hq
    obtain ⟨u, hu, ru⟩ := rv.get hx
    have hel : e < s.heap.objs.size := Heap.lt_size he
    have hil : it < s.heap.objs.size := by obtain ⟨_, q, _⟩ := hit; exact Heap.lt_size q
    have pt : s.heap.IsTuple a its.toArray := p
    have il : i < its.toArray.size := by rw [List.size_toArray]; exact (List.getElem?_eq_some_iff.mp hu).1
    refine wpAny_pyNext_enum_itemD (Draws.tuple (A := X.A.in1) (by simp [I.ok.hd hc]) it a hai its.toArray) he ⟨hit, pt⟩ il hne (by simp [hne, hea]) fun u' h' tk hPu ho hst' hT hsz hk => ?_
    have eu : u' = u := by
      rw [List.getElem?_toArray, hu] at hPu
      exact (Option.some.inj hPu).symm
    subst eu
    refine ⟨_, rfl, wpAny_letOwnedTupleGo_enum (s := { s with heap := h', toks := tk + 1 }) ho fun h'' he' sb => ?_⟩
    have hT2 : h''.get? s.heap.objs.size = some { cls := .type "tuple", data := .seq #[.int i tk, u'] } := (sb.2 _ (Nat.ne_of_gt hel)).trans hT
    have new : ObjOk X.prog X.w (upd H s.heap.objs.size (.tup [.int (i : Nat), x])) h'' s.heap.objs.size (.tup [.int (i : Nat), x]) :=
      ⟨by show 2 ≤ sizeLine; decide, [.int i tk, u'], .cons ⟨_, rfl⟩ (.cons ru .nil), ⟨_, hT2, rfl, _, rfl⟩⟩
    have I1 : Inv X pins σ (upd H s.heap.objs.size (.tup [.int (i : Nat), x])) { s with heap := h'', toks := tk + 1 } :=
      I.turnedNew (ch := [e, it]) (fun b ob hb q => (sb.2 b (fun z => hb (by simp [z]))).trans (hk b ob (fun z => hb (by simp [z])) (fun z => hb (by simp [z])) q)) hf (Nat.le_refl _) new
    refine ⟨.ref s.heap.objs.size, _, I1, rfl, ⟨_, x, rfl, I.hok.fresh (Nat.le_refl _), rfl, fun ys hy => by rw [I.tuple_inj hy hq]; exact hx⟩, ⟨⟨u', ?_⟩, hst'.1.at fun o q => (sb.2 it (Ne.symm hne)).trans q, hne, hai, hea⟩, fun b hb => ?_⟩
    · have e1 : ((i + 1 : Nat) : Int) = (i : Int) + 1 := by omega
      rw [e1]; exact he'
    · have hb' : b < s.heap.objs.size := by
        have e' : b = e ∨ b = it := by simpa using hb
        rcases e' with z | z
        · rw [z]; exact hel
        · rw [z]; exact hil
      rw [upd_ne (Nat.ne_of_lt hb')]
      exact (hf b hb).1
  done := by
    intro X hP hw hK hc i pins s σ H E I hf st hg
    subst hP hw hK
    obtain ⟨⟨old, he⟩, hit, hne, hai, hea⟩ := st
    obtain ⟨xs, hq, hx⟩ := hg
    obtain ⟨its, rv, p, hz⟩ := I.tuple hq
    obtain ⟨f0, f1, f2, f3, f4, f5⟩ := hf it (by simp)
    have hl := rv.length
    have pt : s.heap.IsTuple a its.toArray := p
    have no : its.toArray[i]? = none := by rw [List.getElem?_toArray]; exact List.getElem?_eq_none (by omega)
    have hh : X.A.in1.handled = none := by simp [I.ok.hd hc]
    have hT : s.TypeIs (.ref e) "enumerate" := ⟨_, he, rfl⟩
    unfold pyNext
    refine wpAny_bind (wpAny_attempt (wpAny_callSpecial?_slot (name := Str.ofString "__next__") hT PySem.F.slot_enumerate_next
      (wpAny_call_entry PySem.F.slot_enumerate_next hT PySem.F.entry_enumerate_next ?_ (PySem.F.args_enumerate_next_1 _))))
    show wpAny _ _ (field (.ref e) 2 >>= _) _ _ _
    refine wpAny_bind (wpAny_field he rfl (x := .ref it) rfl ?_)
    refine wpAny_bind (wpAny_nextOf_tuple_end hh hit pt no fun h' x eb hx' => ?_)
    obtain ⟨o, ho, hc'⟩ := hx'
    refine wpAny_bind (wpAny_isInstance (T := "StopIteration") (b := true) ⟨o, ho, hc'⟩ isSubtype_stop ?_)
    exact wpAny_pure ⟨rfl, I.turned (t' := s.toks) (fun b o hb q => eb b o hb q) f0 f1 f3 f4 f5⟩
  self := fun A i s Q E st h => let ⟨⟨_, he⟩, _⟩ := st; wpAny_pyIter_enum he h
def iEnumT (K : PySem.W.Frag) (ta : TA) : L2.TI := fun σ H R => ta σ H fun vs H1 => ∃ a xs, vs = [.ref a] ∧ SqT K H1 a xs ∧ R (IteT K a) H1
theorem pi_enumT {X : Cx} {e : Expr} {ta : TA} {p pos tpos : Pos} {elts : List Expr} {kk : Nat} (hg : Gl X "enumerate") (hm : X.mg "enumerate" = none) (ha : PA X [e] ta) (hs : starEach [e] X.env = [(false, eval e X.env)] := by rfl) :
    PI X (.Tuple elts kk tpos) (.Call (.Name "enumerate" p) [e] [] pos) (iEnumT X.K ta) := by
  refine ⟨fun pins s σ H R I h => ?_⟩
  refine Call_ (ld_blt I hg hm boot_enumerate (PyProof.Rows.callWith_type1 (thn (ha.run pos pins s σ H _ I h) fun us s1 ⟨vs, H1, I1, r1, q1⟩ => ?_) hs rfl))
  obtain ⟨a, xs, ex, hq, q⟩ := q1
  subst ex
  cases r1 with
  | cons r rr =>
    cases rr
    cases r
    obtain ⟨its, rv, p', hz⟩ := I1.tuple hq
    have pt : s1.heap.IsTuple a its.toArray := p'
    refine enum1_begins (begins_tuple a its.toArray) pt fun h' he hit hsz hk => wpAny_pyIter_enum he ?_
    have I2 : Inv X pins σ H1 { s1 with heap := h' } := I1.kept (t' := s1.toks) hk
    have al : a < s1.heap.objs.size := by obtain ⟨_, q, _⟩ := pt; exact Heap.lt_size q
    refine ⟨s1.heap.objs.size + 1, [s1.heap.objs.size + 1, s1.heap.objs.size], _, _, H1, rfl, I2, turn_enumT a (s1.heap.objs.size + 1) s1.heap.objs.size, ⟨⟨.none, he⟩, ⟨_, hit, rfl, rfl⟩, Nat.succ_ne_self _, Nat.ne_of_lt al, Nat.ne_of_gt (Nat.lt_succ_of_lt al)⟩, fun b hb => ?_, q⟩
    have e' : b = s1.heap.objs.size + 1 ∨ b = s1.heap.objs.size := by simpa using hb
    have hle : s1.heap.objs.size ≤ b := by
      rcases e' with z | z
      · rw [z]; exact Nat.le_add_right _ _
      · rw [z]; exact Nat.le_refl _
    exact I1.fpOk hle (I1.hok.fresh hle)
theorem walk_enumT {K : PySem.W.Frag} {a : Addr} {xs : List V} : Walk (IteT K a) xs.length (fun H => SqT K H a xs) (YPair (fun i => some (.int (i : Nat))) (fun i => xs[i]?)) := by
  refine ⟨fun i _ hi q => ⟨xs, xs[i], q, by simp [hi]⟩, fun _ q => ⟨xs, q, Nat.le_refl _⟩, fun i H v H' _ q y => ?_⟩
  obtain ⟨T, x, h1, h2, h3, h4⟩ := y
  exact ⟨T, .int (i : Nat), x, h1, h2, h3, rfl, h4 xs q⟩
end My

set_option Elab.async false
set_option linter.all false
set_option maxRecDepth 100000
set_option maxHeartbeats 4000000
/-! ### dicts whose keys are tuples of tuples (of ints, texts and None) -/
namespace My
open PySem L2
mutual
/-- the value v is the nested key k, its tuples as they stand in H -/
inductive NkAt (H : Hp) : V → NestedKey → Prop where
  | non : NkAt H .non .none
  | int (i : Int) : NkAt H (.int i) (.num i)
  | str (x : Str) : NkAt H (.str x) (.text x)
  | tup {a : Addr} {xs : List V} {ks : List NestedKey} (e : H a = some (.tup xs)) (h : NkAll H xs ks) : NkAt H (.ref a) (.tup ks)
inductive NkAll (H : Hp) : List V → List NestedKey → Prop where
  | nil : NkAll H [] []
  | cons {v : V} {k : NestedKey} {vs : List V} {ks : List NestedKey} (h : NkAt H v k) (t : NkAll H vs ks) : NkAll H (v :: vs) (k :: ks)
end
mutual
theorem NkAt.tp {H H' : Hp} (ht : ∀ b ys, H b = some (.tup ys) → H' b = some (.tup ys)) : ∀ {v : V} {k : NestedKey}, NkAt H v k → NkAt H' v k
  | _, _, .non => .non
  | _, _, .int i => .int i
  | _, _, .str x => .str x
  | _, _, .tup e h => .tup (ht _ _ e) (NkAll.tp ht h)
theorem NkAll.tp {H H' : Hp} (ht : ∀ b ys, H b = some (.tup ys) → H' b = some (.tup ys)) : ∀ {vs : List V} {ks : List NestedKey}, NkAll H vs ks → NkAll H' vs ks
  | _, _, .nil => .nil
  | _, _, .cons h t => .cons (NkAt.tp ht h) (NkAll.tp ht t)
end
mutual
theorem nk_is {P : Program} {w : World} {H : Hp} {h : Heap} (ok : HOk P w H h) : ∀ {v : V} {k : NestedKey} {u : Value}, NkAt H v k → RelV v u → NestedIs h k u
  | _, _, u, .non, r => by
    obtain rfl : u = Value.none := r
    exact .none
  | _, _, u, .int i, r => by
    obtain ⟨t, rfl⟩ := (show ∃ t, u = Value.int i t from r)
    exact .int i t
  | _, _, u, .str x, r => by
    obtain ⟨t, rfl⟩ := (show ∃ t, u = Value.str x t from r)
    exact .text x t
  | _, _, u, .tup (a := a) (xs := xs) e h, r => by
    obtain rfl : u = Value.ref a := r
    obtain ⟨_, its, rv, o, h1, h2, n, h3⟩ := (show ObjOk P w H _ a (.tup xs) from ok a _ e)
    exact .tup h1 h2 h3 (by simpa using nka_is ok h rv)
theorem nka_is {P : Program} {w : World} {H : Hp} {h : Heap} (ok : HOk P w H h) : ∀ {vs : List V} {ks : List NestedKey} {us : List Value}, NkAll H vs ks → Vals vs us → NestedAll h ks us
  | _, _, _, .nil, .nil => .nil
  | _, _, _, .cons a t, .cons r rs => .cons (nk_is ok a r) (nka_is ok t rs)
end
abbrev NE := NestedKey × Addr × V
/-- the entries as told, and as they stand -/
abbrev NRel (xs : List NE) (ys : List (NestedKey × Addr × Value)) : Prop := Paired (fun x y => y.1 = x.1 ∧ y.2.1 = x.2.1 ∧ RelV x.2.2 y.2.2) xs ys
def DnO (P : Program) (w : World) (d : Addr) (xs : List NE) : HO := .ext fun h => xs.length ≤ sizeLine ∧ (d == sysModules) = false ∧ ∃ o es ep ys, NRel xs ys ∧ h.get? d = some o ∧ o.ExactDict ∧ o.data = .dict es ep ∧ es.toList = ys.map (entryOfKey (nestedKind P w)) ∧ (ys.map (·.1)).Nodup
/-- the keys' tuples stand -/
def NKeys (H : Hp) (xs : List NE) : Prop := ∀ x ∈ xs, NkAt H (.ref x.2.1) x.1 ∧ x.1.depth ≤ 8
/-- at d a dict with the nested keys and values kvs (the empty one is of every kind) -/
def DnAt (P : Program) (w : World) (H : Hp) (d : Addr) (kvs : List (NestedKey × V)) : Prop := (H d = some (.dK []) ∧ kvs = []) ∨ ∃ xs, H d = some (DnO P w d xs) ∧ xs.map (fun x => (x.1, x.2.2)) = kvs ∧ NKeys H xs
def valN (kvs : List (NestedKey × V)) (k : NestedKey) : Option V := (kvs.find? fun p => decide (p.1 = k)).map (·.2)
def putN (kvs : List (NestedKey × V)) (k : NestedKey) (v : V) : List (NestedKey × V) := if (valN kvs k).isSome then kvs.map (fun p => if p.1 = k then (p.1, v) else p) else kvs ++ [(k, v)]
def putX (xs : List NE) (k : NestedKey) (a : Addr) (v : V) : List NE := if (valN (xs.map fun x => (x.1, x.2.2)) k).isSome then xs.map (fun x => if x.1 = k then (x.1, x.2.1, v) else x) else xs ++ [(k, a, v)]
theorem NRel.val {xs : List NE} {ys : List (NestedKey × Addr × Value)} (r : NRel xs ys) (k : NestedKey) : RelO (valN (xs.map fun x => (x.1, x.2.2)) k) ((atKey ys k).map (·.2)) := by
  induction r with
  | nil => exact True.intro
  | @cons x y xs ys h t ih =>
    unfold valN atKey at ih ⊢
    rw [List.map_cons, List.find?_cons, List.find?_cons]
    by_cases e : x.1 = k
    · rw [decide_eq_true e, decide_eq_true (h.1.trans e)]
      exact h.2.2
    · rw [decide_eq_false e, decide_eq_false (fun z => e (h.1.symm.trans z))]
      exact ih
theorem NRel.repl {xs : List NE} {ys : List (NestedKey × Addr × Value)} (r : NRel xs ys) (k : NestedKey) {v : V} {u : Value} (rv : RelV v u) : NRel (xs.map (fun x => if x.1 = k then (x.1, x.2.1, v) else x)) (ys.map (putAt k u)) := by
  induction r with
  | nil => exact .nil
  | @cons x y xs ys h t ih =>
    rw [List.map_cons, List.map_cons]
    refine .cons ?_ ih
    unfold putAt
    by_cases e : x.1 = k
    · rw [if_pos e, if_pos (h.1.trans e)]
      exact ⟨h.1, h.2.1, rv⟩
    · rw [if_neg e, if_neg (fun z => e (h.1.symm.trans z))]
      exact h
theorem NRel.put {xs : List NE} {ys : List (NestedKey × Addr × Value)} (r : NRel xs ys) (k : NestedKey) (a : Addr) {v : V} {u : Value} (rv : RelV v u) : NRel (putX xs k a v) (storedH ys k a u) := by
  have e : (valN (xs.map fun x => (x.1, x.2.2)) k).isSome = (atKey ys k).isSome := by
    rw [(r.val k).isSome_eq, Option.isSome_map]
  unfold putX storedH
  rw [e]
  by_cases q : (atKey ys k).isSome = true
  · rw [if_pos q, if_pos q]; exact r.repl k rv
  · rw [if_neg q, if_neg q]; exact Paired.snoc r ⟨rfl, rfl, rv⟩
theorem putX_kvs {xs : List NE} {k : NestedKey} {a : Addr} {v : V} : (putX xs k a v).map (fun x => (x.1, x.2.2)) = putN (xs.map fun x => (x.1, x.2.2)) k v := by
  unfold putX putN
  split
  · rw [List.map_map, List.map_map]
    refine List.map_congr_left fun x _ => ?_
    by_cases h : x.1 = k <;> simp [h]
  · simp
theorem putX_len (xs : List NE) (k : NestedKey) (a : Addr) (v : V) : (putX xs k a v).length ≤ xs.length + 1 := by
  unfold putX
  split
  · rw [List.length_map]; omega
  · simp
theorem NKeys.put {H : Hp} {xs : List NE} {k : NestedKey} {a : Addr} {v : V} (h : NKeys H xs) (hk : NkAt H (.ref a) k) (hd : k.depth ≤ 8) : NKeys H (putX xs k a v) := by
  intro x hx
  unfold putX at hx
  split at hx
  · obtain ⟨y, hy, rfl⟩ := List.mem_map.mp hx
    have := h y hy
    by_cases e : y.1 = k
    · rw [if_pos e]; exact this
    · rw [if_neg e]; exact this
  · rcases List.mem_append.mp hx with hx | hx
    · exact h x hx
    · rw [List.mem_singleton.mp hx]; exact ⟨hk, hd⟩
section
variable {P : Program} {w : World} {H : Hp} {h : Heap} {d : Addr} {kvs : List (NestedKey × V)}
theorem dn_rd (ok : HOk P w H h) (e : DnAt P w H d kvs) : kvs.length ≤ sizeLine ∧ (d == sysModules) = false ∧ Mut (H d) ∧ ∃ xs ys, xs.map (fun x => (x.1, x.2.2)) = kvs ∧ NKeys H xs ∧ NRel xs ys ∧ h.DictOfH (nestedKind P w) d ys := by
  rcases e with ⟨e, rfl⟩ | ⟨xs, e, rfl, hk⟩
  · obtain ⟨_, hd, vs, rel, o, es, ep, h1, h2, h3, h4, h5, h6⟩ := dk_of ok e
    refine ⟨Nat.zero_le _, hd, by rw [e]; exact True.intro, [], [], rfl, (fun _ h => nomatch h), .nil, o, es, ep, h1, h2, h3, ?_, (fun _ h => nomatch h), List.nodup_nil⟩
    cases rel
    generalize hl : es.toList = l at h5
    cases h5
    rfl
  · obtain ⟨⟨z, hd, o, es, ep, ys, r, h1, h2, h3, h4, h5⟩, _, _⟩ := (show ObjOk P w H h d (DnO P w d xs) from ok d _ e)
    refine ⟨by rw [List.length_map]; exact z, hd, by rw [e]; exact True.intro, xs, ys, rfl, hk, r, o, es, ep, h1, h2, h3, h4, fun y hy => ?_, h5⟩
    have all : ∀ {xs : List NE} {ys : List (NestedKey × Addr × Value)}, NRel xs ys → NKeys H xs → ∀ y ∈ ys, (nestedKind P w).is h y.1 y.2.1 := by
      intro xs ys q
      induction q with
      | nil => intro _ y hy; exact nomatch hy
      | @cons x y xs ys hq t ih =>
        intro hk y' hy
        rcases List.mem_cons.mp hy with e | hy
        · subst e
          have := hk x List.mem_cons_self
          rw [hq.1, hq.2.1]
          exact ⟨nk_is ok this.1 rfl, this.2⟩
        · exact ih (fun x hx => hk x (List.mem_cons_of_mem _ hx)) y' hy
    exact all r hk y hy
theorem dn_typeIs {s : Shared} (ok : HOk P w H s.heap) (e : DnAt P w H d kvs) : s.TypeIs (.ref d) "dict" := by
  obtain ⟨_, _, _, _, _, _, _, _, dd⟩ := dn_rd ok e
  exact dd.typeIs
theorem dn_new {H' : Hp} {h' : Heap} {xs : List NE} {ys : List (NestedKey × Addr × Value)} (z : xs.length ≤ sizeLine) (hd : (d == sysModules) = false) (r : NRel xs ys) (dd : h'.DictOfH (nestedKind P w) d ys) : ObjOk P w H' h' d (DnO P w d xs) := by
  obtain ⟨o, es, ep, h1, h2, h3, h4, _, h5⟩ := dd
  refine ⟨⟨z, hd, o, es, ep, ys, r, h1, h2, h3, h4, h5⟩, ⟨o, h1⟩, fun a b q k => ?_⟩
  obtain ⟨z, hd, o, es, ep, ys, r, h1, h2, h3, h4, h5⟩ := q
  exact ⟨z, hd, o, es, ep, ys, r, k o h1, h2, h3, h4, h5⟩
end
section
variable {X : Cx} {pins : List (Addr × Obj)} {σ : L2.St} {H : Hp} {s : Shared} {d a : Addr} {kvs : List (NestedKey × V)} {k : NestedKey} {v : V} {r : Value} {A : Around} {E : Value → Shared → Prop}
theorem n_key (I : Inv X pins σ H s) (hk : NkAt H (.ref a) k) (h8 : k.depth ≤ 8) : (nestedKind X.prog X.w).is s.heap k a := ⟨nk_is I.hok hk rfl, h8⟩
/-- k in d -/
theorem n_in {Q : Value → Shared → Prop} (hu : (nestedKind X.prog X.w).room A.in1) (I : Inv X pins σ H s) (e : DnAt X.prog X.w H d kvs) (hk : NkAt H (.ref a) k) (h8 : k.depth ≤ 8) (h : ∀ s', Inv X pins σ H s' → Q (.bool (valN kvs k).isSome) s') :
    wpAny (model X.prog X.w) A (compareOp .In (.ref a) (.ref d)) Q E s := by
  obtain ⟨z, hd, _, xs, ys, rfl, nk, rel, dd⟩ := dn_rd I.hok e
  refine wpAny_in_heap hu (n_key I hk h8) hd dd ?_
  have q := (rel.val k).isSome_eq
  rw [Option.isSome_map] at q
  rw [← q]
  exact h _ (I.tok _)
theorem n_notIn {Q : Value → Shared → Prop} (hu : (nestedKind X.prog X.w).room A.in1) (I : Inv X pins σ H s) (e : DnAt X.prog X.w H d kvs) (hk : NkAt H (.ref a) k) (h8 : k.depth ≤ 8) (h : ∀ s', Inv X pins σ H s' → Q (.bool (!(valN kvs k).isSome)) s') :
    wpAny (model X.prog X.w) A (compareOp .NotIn (.ref a) (.ref d)) Q E s := by
  obtain ⟨z, hd, _, xs, ys, rfl, nk, rel, dd⟩ := dn_rd I.hok e
  show wpAny _ _ (do return .bool (!(← contains (.ref d) (.ref a)))) Q E s
  refine wpAny_bind (wpAny_contains_heap hu (n_key I hk h8) hd dd (wpAny_pure ?_))
  have q := (rel.val k).isSome_eq
  rw [Option.isSome_map] at q
  rw [← q]
  exact h _ (I.tok _)
/-- d[k], there -/
theorem n_getItem {Q : Value → Shared → Prop} (hu : (nestedKind X.prog X.w).room A.in1) (I : Inv X pins σ H s) (e : DnAt X.prog X.w H d kvs) (hk : NkAt H (.ref a) k) (h8 : k.depth ≤ 8) (l : valN kvs k = some v) (h : ∀ w' s', Inv X pins σ H s' → RelV v w' → Q w' s') :
    wpAny (model X.prog X.w) A (getItem (.ref d) (.ref a)) Q E s := by
  obtain ⟨z, hd, _, xs, ys, rfl, nk, rel, dd⟩ := dn_rd I.hok e
  obtain ⟨w', hw, rw'⟩ := RelO.some_of (v := v) (o := (atKey ys k).map (·.2)) (by rw [← l]; exact rel.val k)
  obtain ⟨p, hp, hp2⟩ := Option.map_eq_some_iff.mp hw
  refine wpAny_getItem_heap hu (n_key I hk h8) dd hp ?_
  rw [hp2]
  exact h w' _ (I.tok _) rw'
theorem n_stored {h' : Heap} {t' : Nat} {xs : List NE} {ys : List (NestedKey × Addr × Value)} (I : Inv X pins σ H s) (mu : Mut (H d)) (hd : (d == sysModules) = false) (z : xs.length < sizeLine) (nk : NKeys H xs) (rel : NRel xs ys) (hk : NkAt H (.ref a) k) (h8 : k.depth ≤ 8) (rv : RelV v r)
    (dd : h'.DictOfH (nestedKind X.prog X.w) d (storedH ys k a r)) (hs : Heap.SameBut d s.heap h') : Inv X pins σ (upd H d (DnO X.prog X.w d (putX xs k a v))) { s with heap := h', toks := t' } ∧ DnAt X.prog X.w (upd H d (DnO X.prog X.w d (putX xs k a v))) d (putN (xs.map fun x => (x.1, x.2.2)) k v) := by
  have hl : (putX xs k a v).length ≤ sizeLine := by have := putX_len xs k a v; omega
  refine ⟨d_write I mu hs ?_ (dn_new hl hd (rel.put k a rv) dd), .inr ⟨_, upd_same, putX_kvs, fun x hx => ?_⟩⟩
  · obtain ⟨q, _, _, hq, _⟩ := dd
    exact ⟨q, hq⟩
  · obtain ⟨a1, a2⟩ := nk.put hk h8 (v := v) x hx
    refine ⟨a1.tp fun b ys e => ?_, a2⟩
    rw [upd_ne]
    · exact e
    · intro z
      subst z
      rw [e] at mu
      exact mu
/-- d[k] = v -/
theorem n_setItem {Q : Unit → Shared → Prop} (hu : (nestedKind X.prog X.w).room A.in1) (I : Inv X pins σ H s) (e : DnAt X.prog X.w H d kvs) (hk : NkAt H (.ref a) k) (h8 : k.depth ≤ 8) (hz : kvs.length < sizeLine) (rv : RelV v r)
    (h : ∀ ob s', DnAt X.prog X.w (upd H d ob) d (putN kvs k v) → Inv X pins σ (upd H d ob) s' → Q () s') : wpAny (model X.prog X.w) A (setItem (.ref d) (.ref a) r) Q E s := by
  obtain ⟨z, hd, mu, xs, ys, rfl, nk, rel, dd⟩ := dn_rd I.hok e
  rw [List.length_map] at hz
  have hl : ys.length ≤ sizeLine := by rw [← Paired.length rel]; omega
  refine wpAny_setItem_heap (hsz := hl) hu (n_key I hk h8) dd fun h' dd' hs => ?_
  obtain ⟨I', e'⟩ := n_stored I mu hd hz nk rel hk h8 rv dd' hs
  exact h _ _ e' I'
/-- d.setdefault(k, v) -/
theorem n_setdefault {Q : Value → Shared → Prop} (hu : (nestedKind X.prog X.w).room A.in1) (I : Inv X pins σ H s) (e : DnAt X.prog X.w H d kvs) (hk : NkAt H (.ref a) k) (h8 : k.depth ≤ 8) (hz : kvs.length < sizeLine) (rv : RelV v r)
    (h1 : ∀ v' w' s', valN kvs k = some v' → Inv X pins σ H s' → RelV v' w' → Q w' s')
    (h2 : valN kvs k = none → ∀ ob s', DnAt X.prog X.w (upd H d ob) d (putN kvs k v) → Inv X pins σ (upd H d ob) s' → Q r s') : wpAny (model X.prog X.w) A (call (.builtin "dict.setdefault") [.ref d, .ref a, r]) Q E s := by
  obtain ⟨z, hd, mu, xs, ys, rfl, nk, rel, dd⟩ := dn_rd I.hok e
  rw [List.length_map] at hz
  have hl : ys.length ≤ sizeLine := by rw [← Paired.length rel]; omega
  have rk := rel.val k
  refine call_setdefault_heap (hsz := hl) hu (n_key I hk h8) hd dd (fun p hp => ?_) fun hn h' dd' hs => ?_
  · rw [hp] at rk
    cases hv : valN (xs.map fun x => (x.1, x.2.2)) k with
    | none => rw [hv] at rk; exact False.elim rk
    | some v' =>
      rw [hv] at rk
      exact h1 v' p.2 _ hv (I.tok _) rk
  · rw [hn] at rk
    obtain ⟨I', e'⟩ := n_stored I mu hd hz nk rel hk h8 rv dd' hs
    refine h2 ?_ _ _ e' I'
    cases hv : valN (xs.map fun x => (x.1, x.2.2)) k with
    | none => rfl
    | some v' => rw [hv] at rk; exact False.elim rk
end
/-! ### readings and rules -/
/-- y is a nested key in H -/
def NKey (H : Hp) (y : V) (k : NestedKey) : Prop := ∃ a, y = .ref a ∧ NkAt H y k ∧ k.depth ≤ 8
/-- d[y] -/
def tNGet (P : Program) (w : World) (td ty : TE) : TE := fun σ H Q => td σ H fun x H1 => ty σ H1 fun y H2 => ∃ d kvs k v, x = .ref d ∧ DnAt P w H2 d kvs ∧ NKey H2 y k ∧ valN kvs k = some v ∧ Q v H2
/-- y in d, y not in d -/
def tNIn (P : Program) (w : World) (ty td : TE) : TE := fun σ H Q => ty σ H fun y H1 => td σ H1 fun x H2 => ∃ d kvs k, x = .ref d ∧ DnAt P w H2 d kvs ∧ NKey H2 y k ∧ Q (.bl (valN kvs k).isSome) H2
def tNNotIn (P : Program) (w : World) (ty td : TE) : TE := fun σ H Q => ty σ H fun y H1 => td σ H1 fun x H2 => ∃ d kvs k, x = .ref d ∧ DnAt P w H2 d kvs ∧ NKey H2 y k ∧ Q (.bl (!(valN kvs k).isSome)) H2
/-- d[y] = v -/
def sNPut (P : Program) (w : World) (td ty tv : TE) : TS := fun D σ H => tv σ H fun v H1 => td σ H1 fun x H2 => ty σ H2 fun y H3 => ∃ d kvs k, x = .ref d ∧ DnAt P w H3 d kvs ∧ NKey H3 y k ∧ kvs.length < sizeLine ∧ ∀ ob, DnAt P w (upd H3 d ob) d (putN kvs k v) → D.nx σ (upd H3 d ob)
/-- d.setdefault(y, v) -/
def tNDef (P : Program) (w : World) (td : TE) (ta : TA) : TE := fun σ H Q => td σ H fun x H1 => (∃ d kvs0, x = .ref d ∧ DnAt P w H1 d kvs0) ∧ ta σ H1 fun xs H2 => ∃ d kvs k y v, x = .ref d ∧ xs = [y, v] ∧ DnAt P w H2 d kvs ∧ NKey H2 y k ∧ kvs.length < sizeLine ∧
  (∀ v', valN kvs k = some v' → Q v' H2) ∧ (valN kvs k = none → ∀ ob, DnAt P w (upd H2 d ob) d (putN kvs k v) → Q v (upd H2 d ob))
theorem n_room {A : Around} (hu : A.units + 64 < cLine) {P : Program} {w : World} : (nestedKind P w).room A.in1 := by
  show A.units + 1 + 8 < cLine
  omega
section
variable {X : Cx} {o i e value : Expr} {pos pos' tpos : Pos} {td ty tv : TE}
theorem pe_nget (hu : X.A.units + 64 < cLine) (ho : PE X o td) (hi : PE X i ty) (hs : NoSl i) : PE X (.Subscript o i pos) (tNGet X.prog X.w td ty) := by
  refine ⟨fun pins s σ H Q I h => ?_⟩
  refine subD_of PySem.F.slot_dict_getitem.lookup hs (thn (ho.run pins s σ H _ I h) fun u s1 ⟨x, H1, I1, rx, q1⟩ => thn (hi.run pins s1 σ H1 _ I1 q1) fun iv s2 ⟨y, H2, I2, ry, d, kvs, k, v, ex, g, ⟨a, ey, hk, h8⟩, l, q2⟩ => ?_)
  subst ex ey
  obtain rfl : u = Value.ref d := rx
  obtain rfl : iv = Value.ref a := ry
  exact ⟨dn_typeIs I2.hok g, n_getItem (n_room hu) I2 g hk h8 l fun w' s3 I3 rw' => ⟨v, H2, I3, rw', q2⟩⟩
theorem pc_nin (hu : X.A.units + 64 < cLine) (hi : PE X i ty) (ho : PE X o td) : PC X .In i o (tNIn X.prog X.w ty td) := by
  refine ⟨fun pins s σ H Q I h => ?_⟩
  refine thn (hi.run pins s σ H _ I h) fun iv s1 ⟨y, H1, I1, ry, q1⟩ => thn (ho.run pins s1 σ H1 _ I1 q1) fun u s2 ⟨x, H2, I2, rx, d, kvs, k, ex, g, ⟨a, ey, hk, h8⟩, q2⟩ => ?_
  subst ex ey
  obtain rfl : u = Value.ref d := rx
  obtain rfl : iv = Value.ref a := ry
  exact n_in (n_room hu) I2 g hk h8 fun s3 I3 => ⟨.bl (valN kvs k).isSome, H2, I3, rfl, q2⟩
theorem pc_nnotin (hu : X.A.units + 64 < cLine) (hi : PE X i ty) (ho : PE X o td) : PC X .NotIn i o (tNNotIn X.prog X.w ty td) := by
  refine ⟨fun pins s σ H Q I h => ?_⟩
  refine thn (hi.run pins s σ H _ I h) fun iv s1 ⟨y, H1, I1, ry, q1⟩ => thn (ho.run pins s1 σ H1 _ I1 q1) fun u s2 ⟨x, H2, I2, rx, d, kvs, k, ex, g, ⟨a, ey, hk, h8⟩, q2⟩ => ?_
  subst ex ey
  obtain rfl : u = Value.ref d := rx
  obtain rfl : iv = Value.ref a := ry
  exact n_notIn (n_room hu) I2 g hk h8 fun s3 I3 => ⟨.bl (!(valN kvs k).isSome), H2, I3, rfl, q2⟩
theorem ps_nput (hu : X.A.units + 64 < cLine) (ho : PE X o td) (hi : PE X i ty) (hv : PE X value tv) (hs : swapsWith value (some (.Subscript o i pos')) pos.line X.env = pure false) :
    PS X (.Assign [.Subscript o i pos'] value pos) (sNPut X.prog X.w td ty tv) := by
  refine ⟨fun pins s σ H D I h => ?_⟩
  refine wpAny_Assign_Subscript (thn (hv.run pins s σ H _ I h) fun r s1 ⟨v, H1, I1, rv, q1⟩ => thn (ho.run pins s1 σ H1 _ I1 q1) fun u s2 ⟨x, H2, I2, rx, q2⟩ => thn (hi.run pins s2 σ H2 _ I2 q2) fun iv s3 ⟨y, H3, I3, ry, d, kvs, k, ex, g, ⟨a, ey, hk, h8⟩, hz, q3⟩ => ?_) hs
  subst ex ey
  obtain rfl : u = Value.ref d := rx
  obtain rfl : iv = Value.ref a := ry
  exact n_setItem (n_room hu) I3 g hk h8 hz rv fun ob s4 e4 I4 => ⟨σ, upd H3 d ob, I4, q3 ob e4⟩
theorem pe_ndef {es : List Expr} {t : TA} {apos cpos : Pos} (hu : X.A.units + 64 < cLine) (ho : PE X o td) (ha : PA X (e :: es) t)
    (hbase : attributeBase o "setdefault" X.env (eval o X.env) = eval o X.env := by rfl)
    (hfew : ((backTo cpos (starEach (e :: es) X.env)).all (fun x => !x.1) && (backToKw cpos (keywordEach [] X.env)).all (fun x => x.1.isSome)
      && decide ((e :: es).length + ([] : List Keyword).length + (if ([] : List Keyword).isEmpty then 0 else 1) < 30)) = true := by rfl)
    (hline : (apos.endLine == cpos.line) = true := by rfl) (hs : starEach (e :: es) X.env = (false, eval e X.env) :: starEach es X.env := by rfl) (hplain : (backTo cpos (starEach es X.env)).any (·.1) = false := by rfl) :
    PE X (.Call (.Attribute o "setdefault" apos) (e :: es) [] cpos) (tNDef X.prog X.w td t) := by
  refine ⟨fun pins s σ H Q I h => ?_⟩
  refine wpAny_Call_method_late hbase hfew hline rfl (thn (ho.run pins s σ H _ I h) fun v s1 ⟨x, H1, I1, r1, ⟨d, kvs0, ex, g0⟩, q1⟩ => ?_)
  subst ex
  obtain rfl : v = Value.ref d := r1
  have ty := dn_typeIs I1.hok g0
  have nd : ∀ b, Value.ref d = .ref b → ∃ ob, s1.heap.get? b = some ob ∧ ob.dict = none := fun b q => by
    cases q
    obtain ⟨_, _, _, _, _, _, _, _, ob, _, _, h1, h2, _⟩ := dn_rd I1.hok g0
    exact ⟨ob, h1, h2.2.1⟩
  refine ⟨"dict", "dict.setdefault", PySem.F.plainAttrs_dict, PySem.F.slot_dict_setdefault, PySem.F.type_dict_setdefault, ty, nd, ?_⟩
  have hA := ha.run cpos pins s1 σ H1 _ I1 q1
  rw [hs] at hA ⊢
  refine Calls.callWith_builtin (by show (false || (backTo cpos (starEach es X.env)).any (·.1)) = false; rw [hplain] <;> rfl) (Calls.evalArgs_plain ?_)
  refine thn hA fun us s2 ⟨vs, H2, I2, r2, d', kvs, k, y, v, ex, exs, g, ⟨a, ey, hk, h8⟩, hz, q2, q3⟩ => ?_
  cases ex
  subst exs ey
  obtain ⟨u1, u2, rfl, ra, rv⟩ := vals2 r2
  obtain rfl : u1 = Value.ref a := ra
  exact n_setdefault (n_room hu) I2 g hk h8 hz rv (fun v' w' s' hv I' r' => ⟨v', H2, I', r', q2 v' hv⟩) fun hn ob s' e' I' => ⟨v, _, I', rv, q3 hn ob e'⟩
/-- len(d) -/
def rLenN (P : Program) (w : World) : List V → Hp → VK → Prop := fun xs H Q => ∃ d kvs, xs = [.ref d] ∧ DnAt P w H d kvs ∧ Q (.int (kvs.length : Nat)) H
theorem call_lenN : CallR X (.builtin "len") (rLenN X.prog X.w) := by
  intro pins s σ H xs us Q I r h
  obtain ⟨d, kvs, rfl, g, q⟩ := h
  obtain ⟨u, rfl, ru⟩ := vals1 r
  obtain rfl : u = Value.ref d := ru
  obtain ⟨z, hd, _, es, ys, hk, _, rel, dd⟩ := dn_rd I.hok g
  have hl : (pairsH ys).length = kvs.length := by rw [pairsH_length, ← Paired.length rel, ← hk, List.length_map]
  have hm : s.heap.DictKeyed (nestedKind X.prog X.w) d (pairsH ys) := ⟨ys, dd, rfl⟩
  refine PyProof.Rows.call_len_slot (n := (pairsH ys).length) hm.typeIs PySem.F.slot_dict_len (fun Q' hq => len_keyed hd hm hq) (by omega) (by rw [hl]; rw [sizeLine_eq] at z; omega) ?_
  rw [hl]
  exact ⟨.int (kvs.length : Nat), H, I.tok _, ⟨_, rfl⟩, q⟩
end
end My

set_option Elab.async false
set_option linter.all false
set_option maxRecDepth 100000
set_option maxHeartbeats 4000000
/-! ### {k: v}, one pair, its key a tuple (of tuples) -/
namespace My
open PySem L2
/-- the new dict stands empty while the pair is made -/
def tDispN (P : Program) (w : World) (tk tv : TE) : TE := fun σ H Q => ∀ p, H p = none → tk σ (upd H p (.dK [])) fun x H1 => tv σ H1 fun y H2 => H2 p = some (.dK []) ∧ ∃ k, NKey H2 x k ∧ ∀ ob, DnAt P w (upd H2 p ob) p [(k, y)] → Q (.ref p) (upd H2 p ob)
theorem pe_dispN {X : Cx} {k v : Expr} {pos : Pos} {tk tv : TE} (hu : X.A.units + 64 < cLine) (hk : PE X k tk) (hv : PE X v tv) : PE X (.Dict [some k] [v] pos) (tDispN X.prog X.w tk tv) := by
  refine ⟨fun pins s σ H Q I q => ?_⟩
  have hn := I.hok.fresh (Nat.le_refl s.heap.objs.size)
  have I1 := I.laid (a := s.heap.objs.size) (o := .dK []) (h' := s.heap.push { cls := .type "dict", data := .dict #[] }) (t' := s.toks) (fun _ _ q => Heap.get?_push_of_some _ q) (Nat.le_refl _) (dk_empty s.heap I.big)
  have pp : PPs X pos [some k] [v] [(tk, tv)] := pps_cons hk hv pps_nil
  have len : (pairTrees [some k] [v] X.env pos).length = 1 := pairTrees_length [some k] [v] X.env pos rfl rfl
  rw [arm_eval_Dict, zip_pairTrees [some k] [v] X.env pos rfl rfl, dictDisplay_pairs _ (fun he => by rw [he] at len; cases len) (by omega)]
  refine wpAny_bind (wpAny_standAt (wpAny_bind (wpAny_subDictH (knd := nestedKind X.prog X.w) (by show X.A.units + 8 < cLine; omega) (by omega) (thn (pp.run pins _ σ _ (fun ps H3 => match ps with
    | [(kx, vx)] => H3 s.heap.objs.size = some (.dK []) ∧ ∃ k, NKey H3 kx k ∧ ∀ ob, DnAt X.prog X.w (upd H3 s.heap.objs.size ob) s.heap.objs.size [(k, vx)] → Q (.ref s.heap.objs.size) (upd H3 s.heap.objs.size ob)
    | _ => False) I1 (q _ hn)) fun ws s2 hq => ?_))))
  obtain ⟨ps, H3, I5, rel, qq⟩ := hq
  match ps, rel, qq with
  | [], _, qq => exact qq.elim
  | _ :: _ :: _, _, qq => exact qq.elim
  | [(kx, vx)], rel, qq =>
    obtain ⟨e2, key, ⟨a, rfl, hk, h8⟩, qf⟩ := qq
    cases rel with
    | @cons p q' ps qs hpq t =>
      cases t
      obtain ⟨u1, u2⟩ := q'
      obtain ⟨r1, r2⟩ := hpq
      obtain rfl : u1 = Value.ref a := r1
      obtain ⟨z, hd, mu, xs, ys, exs, nk, rel, dd⟩ := dn_rd (d := s.heap.objs.size) (kvs := []) I5.hok (.inl ⟨e2, rfl⟩)
      have exs : xs = [] := List.map_eq_nil_iff.mp exs
      subst exs
      cases rel
      refine ⟨[(key, a, u2)], ⟨rfl, rfl, n_key I5 hk h8, True.intro⟩, dd, fun h' tk dd' hs => ?_⟩
      obtain ⟨I', e'⟩ := n_stored (xs := []) (t' := tk) I5 mu hd (by rw [sizeLine_eq]; decide) nk .nil hk h8 r2 dd' hs
      exact wpAny_pure ⟨.ref s.heap.objs.size, _, I', rfl, qf _ e'⟩
end My

set_option Elab.async false
set_option linter.all false
set_option maxRecDepth 100000
set_option maxHeartbeats 4000000
/-! ### dicts keyed by tuples stand while other things change -/
namespace My
open PySem L2
theorem dn_kp {P : Program} {w : World} {H H' : Hp} {d : Addr} {kvs : List (NestedKey × V)} (h : DnAt P w H d kvs) (k : Kp [] H H') : DnAt P w H' d kvs := by
  rcases h with ⟨a, b⟩ | ⟨xs, a, b, c⟩
  · exact .inl ⟨k _ _ not0 a, b⟩
  · exact .inr ⟨xs, k _ _ not0 a, b, fun x hx => ⟨(c x hx).1.tp fun b ys e => k _ _ not0 e, (c x hx).2⟩⟩
theorem dn_wr {P : Program} {w : World} {H : Hp} {d l : Addr} {us ws : List V} {kvs : List (NestedKey × V)} (h : DnAt P w H d kvs) (hl : H l = some (.lst us)) (ne : d ≠ l) : DnAt P w (upd H l (.lst ws)) d kvs := by
  rcases h with ⟨a, b⟩ | ⟨xs, a, b, c⟩
  · exact .inl ⟨by rw [upd_ne ne]; exact a, b⟩
  · refine .inr ⟨xs, by rw [upd_ne ne]; exact a, b, fun x hx => ⟨(c x hx).1.tp fun b ys e => ?_, (c x hx).2⟩⟩
    rw [upd_ne (fun z => by rw [z, hl] at e; cases e)]
    exact e
theorem nodup_lenP {α : Type} [DecidableEq α] : ∀ {l m : List α}, l.Nodup → (∀ x ∈ l, x ∈ m) → l.length ≤ m.length
  | [], _, _, _ => Nat.zero_le _
  | x :: l, m, h, s => by
    rw [List.nodup_cons] at h
    have hx := s x (by simp)
    have ih := nodup_lenP (l := l) (m := m.erase x) h.2 fun y hy => (List.mem_erase_of_ne (fun e => h.1 (by rw [← e]; exact hy))).mpr (s y (by simp [hy]))
    rw [List.length_erase_of_mem hx] at ih
    have : 0 < m.length := List.length_pos_of_mem hx
    rw [List.length_cons]; omega
section
variable {P : Program} {w : World} {H : Hp} {bd : Addr}
theorem dn_nl {kvs : List (NestedKey × V)} (h : DnAt P w H bd kvs) {b : Addr} {us : List V} (e : H b = some (.lst us)) : b ≠ bd := fun z => by
  subst z
  rcases h with ⟨a, _⟩ | ⟨_, a, _⟩ <;> (rw [e] at a; cases a)
theorem dn_nt {kvs : List (NestedKey × V)} (h : DnAt P w H bd kvs) {b : Addr} {us : List V} (e : H b = some (.tup us)) : b ≠ bd := fun z => by
  subst z
  rcases h with ⟨a, _⟩ | ⟨_, a, _⟩ <;> (rw [e] at a; cases a)
theorem dn_wd {d s : Addr} {kvs ks : List (NestedKey × V)} {ob : HO} (h : DnAt P w H d kvs) (hs : DnAt P w H s ks) (ne : d ≠ s) : DnAt P w (upd H s ob) d kvs := by
  rcases h with ⟨a, b⟩ | ⟨xs, a, b, nk⟩
  · exact .inl ⟨by rw [upd_ne ne]; exact a, b⟩
  · refine .inr ⟨xs, by rw [upd_ne ne]; exact a, b, fun x hx => ?_⟩
    obtain ⟨a1, a2⟩ := nk x hx
    exact ⟨a1.tp fun b ys e => by rw [upd_ne (dn_nt hs e)]; exact e, a2⟩
theorem valN_notK {kvs : List (NestedKey × V)} {k : NestedKey} (h : k ∉ kvs.map (·.1)) : valN kvs k = none := by
  unfold valN
  rw [Option.map_eq_none_iff, List.find?_eq_none]
  intro p hp
  simp
  intro z
  exact h (by rw [← z]; exact List.mem_map_of_mem hp)
theorem valN_inK {kvs : List (NestedKey × V)} {k : NestedKey} (h : k ∈ kvs.map (·.1)) : (valN kvs k).isSome = true := by
  unfold valN
  obtain ⟨p, hp, e⟩ := List.mem_map.mp h
  rw [Option.isSome_map, List.find?_isSome]
  exact ⟨p, hp, by simpa using e⟩
theorem valN_isK {kvs : List (NestedKey × V)} {k : NestedKey} : (valN kvs k).isSome = decide (k ∈ kvs.map (·.1)) := by
  by_cases h : k ∈ kvs.map (·.1)
  · rw [valN_inK h, decide_eq_true h]
  · rw [valN_notK h, decide_eq_false h]; rfl
theorem putN_keys {kvs : List (NestedKey × V)} {k : NestedKey} {v : V} : (putN kvs k v).map (·.1) = if k ∈ kvs.map (·.1) then kvs.map (·.1) else kvs.map (·.1) ++ [k] := by
  unfold putN
  rw [valN_isK]
  by_cases h : k ∈ kvs.map (·.1)
  · rw [decide_eq_true h, if_pos rfl, if_pos h, List.map_map]
    refine List.map_congr_left fun p _ => ?_
    show (if p.1 = k then (p.1, v) else p).1 = p.1
    split <;> rfl
  · rw [decide_eq_false h, if_neg (by decide), if_neg h, List.map_append]
    rfl
end
end My

set_option Elab.async false
set_option linter.all false
/-! int(x), folded (as Tq's rInt1, under a name of its own) -/
namespace My
open PySem L2
def rIv : List V → Hp → VK → Prop := fun xs H Q => (∃ i, xs = [V.int i] ∧ Q (V.int i) H) ∨ ∃ k, xs = [V.bl k] ∧ Q (V.int (if k = true then 1 else 0)) H
theorem rIv_int {i : Int} {H : Hp} {Q : VK} : rIv [V.int i] H Q = Q (V.int i) H := by
  unfold rIv
  exact propext ⟨fun h => by rcases h with ⟨j, e, q⟩ | ⟨k, e, _⟩ <;> cases e; exact q, fun q => .inl ⟨i, rfl, q⟩⟩
theorem rIv_bl {k : Bool} {H : Hp} {Q : VK} : rIv [V.bl k] H Q = Q (V.int (if k = true then 1 else 0)) H := by
  unfold rIv
  exact propext ⟨fun h => by rcases h with ⟨j, e, _⟩ | ⟨k, e, q⟩ <;> cases e; exact q, fun q => .inr ⟨k, rfl, q⟩⟩
end My

set_option Elab.async false
set_option linter.all false
set_option maxRecDepth 100000
set_option maxHeartbeats 4000000
/-! ### a text times an int -/
namespace My
open PySem PySem.Spec PyProof PyProof.Rows L2
def rMulS : R2 := fun x y H Q => ∃ (z : Str) (k : Int), x = .str z ∧ y = .int k ∧ MulOk z k ∧ Q (.str (Txt.mul z k)) H
theorem op_mulS {X : Cx} : OpR X (binaryOp .Mult) rMulS := by
  rintro pins s σ H x y v u Q I rx ry ⟨z, k, rfl, rfl, ok, q⟩
  obtain ⟨t, rfl⟩ := rx
  obtain ⟨t2, rfl⟩ := ry
  exact SB.mul ok fun t' tk => ⟨.str _, H, I.tok _, ⟨t', rfl⟩, q⟩
end My

set_option Elab.async false
set_option linter.all false
set_option maxRecDepth 100000
set_option maxHeartbeats 4000000
/-! ### displays of data: what an expression gives, read off its form -/
namespace My
open PySem L2
/-- te gives a value of the data d, and what stood stands -/
def DE (te : TE) (σ : L2.St) (H0 : Hp) (d : PyData) : Prop := ∀ H1, Kp [] H0 H1 → ∀ Q : VK, (∀ v H2, Kp [] H1 H2 → Dq H2 v d → Q v H2) → te σ H1 Q
def DA (ta : TA) (σ : L2.St) (H0 : Hp) (ds : List PyData) : Prop := ∀ H1, Kp [] H0 H1 → ∀ Q : List V → Hp → Prop, (∀ vs H2, Kp [] H1 H2 → DqAll H2 vs ds → Q vs H2) → ta σ H1 Q
section
variable {σ : L2.St} {H0 : Hp} {te tf : TE} {ta : TA} {d : PyData} {ds es : List PyData}
theorem de_int {i : Int} : DE (tC (.int i)) σ H0 (.int i) := fun H1 _ Q h => h _ _ (Kp.refl _ _) (.int i)
theorem de_str {z : Str} : DE (tC (.str z)) σ H0 (.str z) := fun H1 _ Q h => h _ _ (Kp.refl _ _) (.str z)
theorem de_bl {b : Bool} : DE (tC (.bl b)) σ H0 (.bool b) := fun H1 _ Q h => h _ _ (Kp.refl _ _) (.bl b)
theorem de_non : DE (tC .non) σ H0 .none := fun H1 _ Q h => h _ _ (Kp.refl _ _) .non
theorem de_neg {i : Int} : DE (tUn (rU fun i => V.int (-i)) (tC (.int i))) σ H0 (.int (-i)) := fun H1 _ Q h => ⟨i, rfl, h _ _ (Kp.refl _ _) (.int _)⟩
theorem de_var {i : Nat} {v : V} (e : σ[i]? = some (some v)) (hd : Dq H0 v d) : DE (tVar i) σ H0 d := fun H1 k Q h => ⟨v, e, h _ _ (Kp.refl _ _) (Dq.kp k hd)⟩
theorem da_nil : DA tNil σ H0 [] := fun H1 _ Q h => h _ _ (Kp.refl _ _) .nil
theorem da_cons (a : DE te σ H0 d) (b : DA ta σ H0 ds) : DA (tCons te ta) σ H0 (d :: ds) := fun H1 k Q h => a H1 k _ fun v H2 k2 hv => b H2 (k.trans k2) _ fun vs H3 k3 hvs => h _ _ (k2.trans k3) (.cons (Dq.kp k3 hv) hvs)
theorem de_tup (a : DA ta σ H0 ds) (l : ds.length ≤ 1000 := by decide) : DE (tTup ta) σ H0 (.tuple ds) := fun H1 k Q h => a H1 k _ fun vs H2 k2 hvs => ⟨by rw [hvs.len, sizeLine_eq]; omega, fun p np => h _ _ (k2.trans (Kp.new np)) (.tup upd_same (DqAll.kp (Kp.new np) hvs))⟩
theorem de_lst (a : DA ta σ H0 ds) (l : ds.length ≤ 1000 := by decide) : DE (tLst ta) σ H0 (.list ds) := fun H1 k Q h => a H1 k _ fun vs H2 k2 hvs => ⟨by rw [hvs.len, sizeLine_eq]; omega, fun p np => h _ _ (k2.trans (Kp.new np)) (.lst upd_same (DqAll.kp (Kp.new np) hvs))⟩
/-- list + list -/
theorem de_cat (a : DE te σ H0 (.list ds)) (b : DE tf σ H0 (.list es)) (l : ds.length ≤ 1000) (l2 : es.length ≤ 1000) : DE (tOp rCat te tf) σ H0 (.list (ds ++ es)) := fun H1 k Q h => a H1 k _ fun v H2 k2 hv => b H2 (k.trans k2) _ fun u H3 k3 hu => by
  have hv3 := Dq.kp k3 hv
  cases hv3 with
  | @lst p xs _ e1 h1 =>
    cases hu with
    | @lst q ys _ e2 h2 =>
      refine ⟨p, q, xs, ys, rfl, rfl, e1, e2, by rw [h1.len, h2.len, sizeLine_eq]; omega, fun r nr => h _ _ ((k2.trans k3).trans (Kp.new nr)) (.lst upd_same ?_)⟩
      have app : ∀ {as bs : List PyData} {us vs : List V}, DqAll H3 us as → DqAll H3 vs bs → DqAll H3 (us ++ vs) (as ++ bs) := by
        intro as
        induction as with
        | nil => intro bs us vs h h'; cases h; exact h'
        | cons a as ih => intro bs us vs h h'; cases h with
          | cons x t => exact .cons x (ih t h')
      exact DqAll.kp (Kp.new nr) (app h1 h2)
/-- t[j], t a name of a tuple -/
theorem de_ix {K : PySem.W.Frag} {i : Nat} {j : Nat} {t : Addr} {xs : List V} {x : V} (e : σ[i]? = some (some (.ref t))) (ht : H0 t = some (.tup xs)) (ej : xs[j]? = some x) (hd : Dq H0 x d) : DE (tOp (rIxT K) (tVar i) (tC (.int (j : Nat)))) σ H0 d := fun H1 k Q h =>
  ⟨.ref t, e, t, xs, (j : Nat), x, rfl, rfl, sq_t (k _ _ not0 ht), atI_nat ej, h _ _ (Kp.refl _ _) (Dq.kp k hd)⟩
/-- tuple + tuple, neither empty -/
theorem de_catA {K : PySem.W.Frag} (a : DE te σ H0 (.tuple ds)) (b : DE tf σ H0 (.tuple es)) (l : ds.length ≤ 1000) (l2 : es.length ≤ 1000) (n1 : ds ≠ []) (n2 : es ≠ []) : DE (tOp (rCatA K) te tf) σ H0 (.tuple (ds ++ es)) := fun H1 k Q h => a H1 k _ fun v H2 k2 hv => b H2 (k.trans k2) _ fun u H3 k3 hu => by
  have hv3 := Dq.kp k3 hv
  cases hv3 with
  | @tup p xs _ e1 h1 =>
    cases hu with
    | @tup q ys _ e2 h2 =>
      have m1 : xs ≠ [] := fun z => by have := h1.len; rw [z] at this; exact n1 (List.eq_nil_of_length_eq_zero this.symm)
      have m2 : ys ≠ [] := fun z => by have := h2.len; rw [z] at this; exact n2 (List.eq_nil_of_length_eq_zero this.symm)
      refine ⟨p, q, xs, ys, rfl, rfl, sq_t e1, sq_t e2, by rw [h1.len, h2.len, sizeLine_eq]; omega, fun z => absurd z m1, fun _ z => absurd z m2, fun _ _ r nr => h _ _ ((k2.trans k3).trans (Kp.new nr)) (.tup upd_same ?_)⟩
      have app : ∀ {as bs : List PyData} {us vs : List V}, DqAll H3 us as → DqAll H3 vs bs → DqAll H3 (us ++ vs) (as ++ bs) := by
        intro as
        induction as with
        | nil => intro bs us vs h h'; cases h; exact h'
        | cons a as ih => intro bs us vs h h'; cases h with
          | cons x t => exact .cons x (ih t h')
      exact DqAll.kp (Kp.new nr) (app h1 h2)
/-- list(t), t a name of a tuple -/
theorem de_list {K : PySem.W.Frag} (a : DE te σ H0 (.tuple ds)) : DE (tCB (fun xs H Q => ∃ p ys, xs = [V.ref p] ∧ (SqL K H p ys ∨ SqT K H p ys) ∧ ∀ (l : Addr), H l = none → Q (V.ref l) (upd H l (HO.lst ys))) (tCons te tNil)) σ H0 (.list ds) := fun H1 k Q h => a H1 k _ fun v H2 k2 hv => by
  cases hv with
  | @tup p xs _ e1 h1 => exact ⟨p, xs, rfl, .inr (sq_t e1), fun l nl => h _ _ (k2.trans (Kp.new nl)) (.lst upd_same (DqAll.kp (Kp.new nl) h1))⟩
end
end My

set_option Elab.async false
set_option linter.all false
set_option maxRecDepth 100000
set_option maxHeartbeats 4000000
/-! ### own errors without fields: C(), raised, caught, asked -/
namespace My
open PySem PySem.Spec PyProof.Rows L2
/-- __init__ of an error without fields: what it promises -/
def spErr0 (C : Addr) : Sp := fun vs H Q _ => ∃ a : Addr, vs = [.ref a] ∧ H a = some (exo a C none) ∧ Q .non H
theorem bare_end {X : Cx} {pins : List (Addr × Obj)} {σ : L2.St} {H1 : Hp} {hp hp2 h2 : Heap} {g1 g2 : Array GenState} {d1 d2 : Drawn} {t1 t2 : Nat} {os1 os2 : OsState} {a C : Addr} (I1 : Inv X pins σ H1 ⟨hp, g1, d1, t1, os1⟩)
    (ha : hp.objs.size ≤ a) (k : ∀ b o, hp.get? b = some o → hp2.get? b = some o) (un : Un (frs X.stack) [] (upd H1 a (exo a C none)) (upd H1 a (exo a C none)) hp2 h2) (hok : HOk X.prog X.w (upd H1 a (exo a C none)) h2) (ho : os2 = os1) (hb : AllBare g2) :
    ∃ (t0 : Addr) (G : Heap), Inv X pins σ H1 ⟨G, g2, d2, t2, os2⟩ ∧ (∀ b o, G.get? b = some o → h2.get? b = some o) ∧ G.get? a = none ∧
      h2.get? a = some ({ cls := .ref C, dict := none, data := .fields #[.ref t0, .none, .none, .none, .bool false, .none] } : Obj) ∧ H1 a = none := by
  have ea : (upd H1 a (exo a C none)) a = some (exo a C none) := upd_same
  obtain ⟨t0, hoe⟩ := exo_at hok ea
  have hn : H1 a = none := I1.hok.fresh ha
  obtain ⟨G, g1', g2'⟩ := restrict h2 fun b => decide (b ≠ a)
  have gk : ∀ b, b ≠ a → G.get? b = h2.get? b := fun b hb => g1' b (decide_eq_true hb)
  have ge : G.get? a = none := g2' a (by simp)
  have nha : ∀ {b : Addr} {o : Obj}, hp.get? b = some o → b ≠ a := fun {b o} z => Nat.ne_of_lt (Nat.lt_of_lt_of_le (Heap.lt_size z) ha)
  have up : ∀ {b : Addr}, b ≠ a → H1 b = none → upd H1 a (exo a C none) b = none := fun {b} hb n => by rw [upd_ne hb]; exact n
  have U : Un (frs X.stack) [] H1 H1 hp G := {
    keep := fun b o z n hf hx => by rw [gk b (nha z)]; exact un.keep b o (k b o z) (up (nha z) n) hf hx
    slot := fun b o z n hf hx => by rw [gk b (nha z)]; exact un.slot b o (k b o z) (up (nha z) n) hf hx
    free := fun b o z n hx => n
    there := fun b o z hx => by rw [gk b (nha z)]; exact un.there b o (k b o z) hx
    tups := fun b xs z => z
    frzs := fun b o v z => z
    tbls := fun b ps z => ⟨#[], by rw [z]; simp⟩ }
  have hok3 : HOk X.prog X.w H1 G := fun b o z => by
    have hba : b ≠ a := ne_of_none z hn
    have z2 : (upd H1 a (exo a C none)) b = some o := by rw [upd_ne hba]; exact z
    have noa : ∀ {c : Addr}, (upd H1 a (exo a C none)) c = some (.own b) → c ≠ a := fun {c} hc => at_ne ea hc exo_own
    exact (hok b o z2).stay (fun c v hc y => by
        have hca : c ≠ a := by
          rcases hc with hc | hc
          · rw [hc]; exact hba
          · exact noa hc
        rw [gk c hca]; exact y)
      (fun c hc => by have z := hc; rw [upd_ne (noa hc)] at z; exact z) (fun c xs hc => by have z := hc; rw [upd_ne (at_ne ea hc exo_tup)] at z; exact z)
  have J : Inv X pins σ H1 ⟨G, g2, d2, t2, os2⟩ := I1.call' (ch := []) ho U hok3 hb (fun b z => absurd z (by simp))
  refine ⟨t0, G, J, fun b o z => ?_, ge, hoe, hn⟩
  by_cases hba : b = a
  · rw [hba, ge] at z; cases z
  · exact (gk b hba).symm.trans z
theorem pmk_oex0 {X : Cx} {CX : CXT} {x : Str} {C fI : Addr} {k : Nat} {fd : FuncData} {ps : List Str} {p pos : Pos} (T : OexC X.K C) (iC : PySem.W.findIn X.K (.ref C) "__init__" = some (some (.ref fI))) (tI : PySem.W.typeIn X.K (.ref fI) = some (.type "function"))
    (F1 : FnOk X.prog X.w X.K X.mg X.base CX k fI fd ps (spErr0 C)) (hr : Room (k + 1) X.A) (hb : Binds X.K fd ps []) (hx : Passes CX X (fun _ _ _ => False)) (hg : Gl X x) (hm : X.mg x = some (.ref C))
    (hdb : (x == ("__debug__" : Str)) = false := by decide) : PMk X (.Call (.Name x p) [] [] pos) (fun _ H Q => Q (.ref C) none H) := by
  intro pins s σ H Q I h
  obtain ⟨nm, q, N, bs, bm, sn, sub, ab, col, dd, k0, k1, k2, k3, k5, hC, hbm⟩ := T.cls
  refine wpAny_Call_Name_kw (ld_glob I hg hm ?_ hdb)
  refine PySem.W.callWith_K0 I.kIn T.kC ?_
  show wpAny _ _ (call (.ref C) []) _ _ _
  obtain ⟨hp, g, dr, tk, os⟩ := s
  have hsz : hp.objs.size ≤ hp.objs.size + 1 := Nat.le_succ _
  have kk : ∀ b o, hp.get? b = some o → ((hp.push (PySem.W.kdv_tup [])).push (PySem.HandSPX.excO C hp.objs.size)).get? b = some o := fun b o e => Heap.get?_push_of_some _ (Heap.get?_push_of_some _ e)
  have there : ((hp.push (PySem.W.kdv_tup [])).push (PySem.HandSPX.excO C hp.objs.size)).get? (hp.objs.size + 1) = some (PySem.HandSPX.excO C hp.objs.size) := by heap_get
  have I2 : Inv X pins σ (upd H (hp.objs.size + 1) (exo (hp.objs.size + 1) C none)) ⟨(hp.push (PySem.W.kdv_tup [])).push (PySem.HandSPX.excO C hp.objs.size), g, dr, tk, os⟩ :=
    I.laid (t' := tk) (a := hp.objs.size + 1) (o := exo (hp.objs.size + 1) C none) (h' := (hp.push (PySem.W.kdv_tup [])).push (PySem.HandSPX.excO C hp.objs.size)) kk hsz (exo_ok there)
  have hq : spErr0 C [V.ref (hp.objs.size + 1)] (upd H (hp.objs.size + 1) (exo (hp.objs.size + 1) C none)) (fun v H2 => v = .non ∧ H2 = upd H (hp.objs.size + 1) (exo (hp.objs.size + 1) C none)) (fun _ _ _ => False) := ⟨_, rfl, upd_same, rfl, rfl⟩
  have r2 : Vals [V.ref (hp.objs.size + 1)] [Value.ref (hp.objs.size + 1)] := .cons rfl .nil
  have hl : ([Value.ref (hp.objs.size + 1)] ++ []).length = ps.length := (F1.len _ _ _ _ hq)
  refine wpAny_call (PySem.HandSPX.call_own F.excBase_ValueError (fun Y => PySem.HandSPX.refsVE_contains Y bm hbm) (I.kIn _ _ hC) (PySem.W.looks_findIn I.kIn iC) (fun self => PySem.W.bind_fn I.kIn self tI) (Nat.zero_le _)
    (codeAny_mono (F1.run _ X.stack _ _ ⟨[Value.ref (hp.objs.size + 1)], []⟩ [Value.ref (hp.objs.size + 1)] _ _ (fun _ _ _ => False) (hr.make C [] []) (I2.env0.make C [] []) (hb _ [Value.ref (hp.objs.size + 1)] I2.kIn hl) r2 hq) fun r s' hq' => ?_))
  cases r with
  | error er => exact hx pins σ _ _ er s' I2 hq'
  | ok fl =>
    cases fl with
    | ret u =>
      obtain ⟨v, H2, os2, bare2, un2, hok2, rv, ev, e2⟩ := hq'
      subst ev
      subst e2
      obtain ⟨h2, g2, d2, t2, os'⟩ := s'
      obtain ⟨t0, G, J, kG, ge, hoe, na⟩ := bare_end (d2 := d2) (t2 := t2) I hsz kk un2 hok2 os2 bare2
      exact ⟨rv, _, _, _, ⟨G, g2, d2, t2, os'⟩, _, .ref C, none, rfl, J, kG, ge, hoe, ⟨rfl, rfl⟩, rfl, rfl, na, rfl, bare2, raises_own T.exC T.tyC, h⟩
    | next => exact False.elim hq'
    | brk => exact False.elim hq'
    | cont => exact False.elim hq'
/-- isinstance(e, c), e the error without a dict that the suite holds -/
def rIsX0 (K : PySem.W.Frag) (a : Addr) (cls : Value) (d : Option Addr) : List V → Hp → VK → Prop := fun xs H Q => ∃ (c : V) (cv : Value) (b : Bool) (D : Addr), xs = [.ref a, c] ∧ (∀ u, RelV c u → u = cv) ∧ cls = .ref D ∧ d = none ∧ ExcC K D ∧ PySem.W.kitOne K (.ref D) cv = some b ∧ Q (.bl b) H
theorem call_isX0 {X : Cx} {a : Addr} {oe : Obj} {cls : Value} {d : Option Addr} {pn : List (Addr × Obj)} (hz : Zc cls d oe) (hf : ∃ vs, oe.data = .fields vs) : CallR (X.suite a ((a, oe) :: pn)) (.builtin "isinstance") (rIsX0 X.K a cls d) := by
  intro pins s σ H xs us Q I r h
  obtain ⟨c, cv, b, D, e, hcv, rfl, rfl, C, k, q⟩ := h
  exact call_isE C hz hf pins s σ H xs us Q I r ⟨c, cv, b, e, hcv, k, q⟩
structure Er0 (P : Program) (w : World) (K : PySem.W.Frag) (mg : Str → Option Value) (base : Heap) (nm : Str) (C f : Addr) (fd : FuncData) (ps : List Str) : Prop where
  k : mg nm = some (.ref C)
  ox : OexC K C
  ic : PySem.W.findIn K (.ref C) "__init__" = some (some (.ref f))
  ti : PySem.W.typeIn K (.ref f) = some (.type "function")
  b : Binds K fd ps []
  G : FnOk P w K mg base (L2.CX P w) 1 f fd ps (spErr0 C)
end My

set_option Elab.async false
set_option linter.all false
set_option maxRecDepth 100000
set_option maxHeartbeats 4000000
/-! ### isinstance(e, (C, D)), e an error without fields -/
namespace My
open PySem PySem.Spec PyProof.Rows L2
def rIsX0T (K : PySem.W.Frag) (a : Addr) (cls : Value) (d : Option Addr) : List V → Hp → VK → Prop := fun xs H Q => ∃ (tp : Addr) (cs : List V) (us : List Value) (b : Bool) (D : Addr), xs = [.ref a, .ref tp] ∧ H tp = some (.tup cs) ∧ Paired ClsV cs us ∧ cls = .ref D ∧ d = none ∧ ExcC K D ∧ PySem.W.kitAny K (.ref D) us = some b ∧ Q (.bl b) H
theorem call_isX0T {X : Cx} {a : Addr} {oe : Obj} {cls : Value} {d : Option Addr} {pn : List (Addr × Obj)} (hz : Zc cls d oe) (hf : ∃ vs, oe.data = .fields vs) : CallR (X.suite a ((a, oe) :: pn)) (.builtin "isinstance") (rIsX0T X.K a cls d) := by
  intro pins s σ H xs us Q I r h
  obtain ⟨tp, cs, ws, b, D, rfl, hT, k, rfl, rfl, C, e, q⟩ := h
  obtain ⟨u1, u2, rfl, r1, r2⟩ := vals2 r
  cases (show u1 = Value.ref a from r1)
  cases (show u2 = Value.ref tp from r2)
  obtain ⟨hget, _⟩ := I.pin (a, oe) (List.mem_append.mpr (.inl List.mem_cons_self))
  obtain ⟨vs, hv⟩ := hf
  have J : PySem.W.InstAt s.heap a oe D none := by
    obtain ⟨oc, od, oda, osl⟩ := oe
    obtain ⟨h1, h2⟩ := hz
    dsimp only at h1 h2 hv
    subst h1 h2 hv
    exact ⟨hget, rfl, rfl, trivial⟩
  obtain ⟨_, its, rv, o, h1, h2, n, h3⟩ := (show ObjOk X.prog X.w H s.heap tp (.tup cs) from I.hok tp _ hT)
  cases ClsV.all k rv
  obtain ⟨oc, od2, dt, sl⟩ := o
  simp only at h2 h3
  subst h2 h3
  exact PySem.W.kia_tup (PySem.W.handS_kitx_exc C.hg C.hk C.hs C.hd C.ha C.hn C.ht C.hm) I.kIn J h1 e (fun z => nomatch z) fun tk => ⟨.bl b, H, I.tok tk, rfl, q⟩
end My

set_option Elab.async false
set_option linter.all false
set_option maxRecDepth 100000
set_option maxHeartbeats 4000000
/-! ### x op y of own instances within a try -/
namespace My
open PySem PySem.Spec PyProof.Rows L2
def tOpS (C : Addr) (sp : Sp) (E : L2.St → XK) (ta tb : TE) : TE := fun σ H Q => ta σ H fun x H1 => tb σ H1 fun y H2 => rBinO C sp (E σ) x y H2 Q
section
variable {X : Cx} {CX : CXT} {C g : Addr} {fd : FuncData} {ps : List Str} {sp : Sp} {E : L2.St → XK} {k : Nat} {a b : Expr} {ta tb : TE} {pos : Pos}
theorem pe_opS {op : Operator} (c : BinC X.K C g op) (F : FnOk X.prog X.w X.K X.mg X.base CX k g fd ps sp) (hb : Binds X.K fd ps []) (hr : Room k X.A) (hx : ∀ σ, PassesAt CX X σ (E σ)) (h1 : PE X a ta) (h2 : PE X b tb) : PE X (.BinOp a op b pos) (tOpS C sp E ta tb) := by
  refine ⟨fun pins s σ H Q I h => ?_⟩
  refine wpAny_BinOp (binT h1 h2 I h fun v u s2 x y H2 I2 rx ry q => ?_)
  obtain ⟨p, dx, fs, r, dy, gs, rfl, rfl, hp, hr', q⟩ := q
  cases rx
  cases ry
  obtain ⟨ox, od, J⟩ := inst_of I2 hp
  obtain ⟨oy, ody, J'⟩ := inst_of I2 hr'
  obtain ⟨m, hF⟩ := I2.fr
  refine PySem.W.binop_K hF I2.ok.mod.kin J J'.type c.one c.at_ c.fn ?_
  refine thn (run_fnS (us := [.ref p, .ref r]) (vs := [.ref p, .ref r]) F hr hb (hx σ) I2 (.cons rfl (.cons rfl .nil)) q) ?_
  rintro w s' ⟨z, H', I', rz, qz⟩
  exact SlX.cmpback rz ⟨z, H', I', rz, qz⟩
end
end My

set_option Elab.async false
set_option linter.all false
set_option maxRecDepth 100000
set_option maxHeartbeats 4000000
/-! ### t[::-1], t a tuple of two items or more -/
namespace HT
open PySem PyProof.Rows
open PySem.SeqAt
open PySem.AutoSeq1 (wpAny_loadPart')
open PySem.MeetsSeq PySem.MeetsSeq2 PySem.MeetsSeq3
section
variable {prog : Program} {w : World} {A : Around} {E : Value → Shared → Prop} {s : Shared}
theorem adjust_rev (n : Nat) : Builtin.Slice.sliceAdjust none none (-1) (n : Int) = ((n : Int) - 1, -1) := by
  unfold Builtin.Slice.sliceAdjust
  simp
theorem places_rev (n : Nat) : Builtin.Slice.slicePlaces ((n : Int) - 1) (-1) (-1) = n := by
  unfold Builtin.Slice.slicePlaces
  simp
  omega
theorem pick_rev (xs : Array Value) : ((List.range xs.size).filterMap fun (m : Nat) => xs[((xs.size : Int) - 1 + (m : Int) * -1).toNat]?).toArray = xs.toList.reverse.toArray := by
  have e := pick_gen xs.toList.reverse.toArray 0 xs.size
  rw [List.drop_zero, List.take_of_length_le (by simp)] at e
  rw [show xs.toList.reverse.toArray.toList = xs.toList.reverse from rfl] at e
  rw [← e]
  congr 1
  have key : ∀ l : List Nat, (∀ m ∈ l, m < xs.size) → (l.filterMap fun (m : Nat) => xs[((xs.size : Int) - 1 + (m : Int) * -1).toNat]?) = l.filterMap fun (m : Nat) => xs.toList.reverse.toArray[(((0 : Nat) : Int) + (m : Int) * 1).toNat]? := fun l => by
    induction l with
    | nil => intro _; rfl
    | cons m l ih =>
      intro h
      have hm := h m List.mem_cons_self
      have e1 : ((xs.size : Int) - 1 + (m : Int) * -1).toNat = xs.size - 1 - m := by omega
      have e2 : (((0 : Nat) : Int) + (m : Int) * 1).toNat = m := by omega
      have e3 : xs[xs.size - 1 - m]? = xs.toList.reverse.toArray[m]? := by
        rw [show xs.toList.reverse.toArray[m]? = xs.toList.reverse[m]? from List.getElem?_toArray .., List.getElem?_reverse (by rw [Array.length_toList]; exact hm), Array.length_toList, Array.getElem?_toList]
      rw [List.filterMap_cons, List.filterMap_cons, e1, e2, e3, ih fun y hy => h y (List.mem_cons_of_mem _ hy)]
  exact key _ fun m hm => List.mem_range.mp hm
theorem sliceApplied_rev {sl : Addr} {vl vu vs : Value} {n : Nat} {Q : Int × Int × Nat → Shared → Prop} (hs : s.heap.IsSliceOf sl vl vu vs) (pl : IsPart vl none) (pu : IsPart vu none) (ps : IsPart vs (some (-1)))
    (h : Q ((n : Int) - 1, -1, n) s) : wpAny (model prog w) A (Builtin.Slice.sliceApplied (.ref sl) (pure (n : Int))) Q E s := by
  obtain ⟨os, hos, hcs, hds⟩ := id hs
  unfold Builtin.Slice.sliceApplied Builtin.Slice.sliceFields
  refine wpAny_bind (wpAny_bind (wpAny_field hos hds (x := vl) rfl (wpAny_bind (wpAny_field hos hds (x := vu) rfl (wpAny_bind (wpAny_field hos hds (x := vs) rfl (wpAny_pure ?_)))))))
  refine wpAny_bind (slicePart_ ps ?_)
  show wpAny _ _ (if ((-1 : Int) == 0) = true then _ else _) _ _ s
  rw [if_neg (by decide)]
  refine wpAny_bind (slicePart_ pl (wpAny_bind (slicePart_ pu (wpAny_bind (wpAny_pure ?_)))))
  show wpAny _ _ (match Builtin.Slice.sliceAdjust none none (-1) (n : Int) with | (lo, hi) => pure (lo, (-1 : Int), Builtin.Slice.slicePlaces lo hi (-1))) _ _ s
  rw [adjust_rev n]
  show wpAny _ _ (pure (((n : Int) - 1), (-1 : Int), Builtin.Slice.slicePlaces ((n : Int) - 1) (-1) (-1))) _ _ s
  rw [places_rev]
  exact wpAny_pure h
theorem getItem_tuple_rev {t sl : Addr} {items : Array Value} {vl vu vs : Value} {Q : Value → Shared → Prop} (ht : IsTup s.heap t items) (hs : s.heap.IsSliceOf sl vl vu vs) (pl : IsPart vl none) (pu : IsPart vu none) (ps : IsPart vs (some (-1)))
    (h : Q (.ref s.heap.objs.size) { s with heap := s.heap.push { cls := .type "tuple", data := .seq items.toList.reverse.toArray } })
    (hsz : items.size ≤ sizeLine) : wpAny (model prog w) A (getItem (.ref t) (.ref sl)) Q E s := by
  have htake : sizeOk (.seq items.toList.reverse.toArray) := by
    show items.toList.reverse.toArray.size ≤ sizeLine
    rw [List.size_toArray, List.length_reverse, Array.length_toList]
    exact hsz
  obtain ⟨os, hos, hcs, hds⟩ := id hs
  have hTs : s.TypeIs (.ref sl) "slice" := ⟨os, hos, hcs⟩
  unfold getItem
  try with_reducible refine wpAny_holding ?_
  first | refine wpAny_bind (wpAny_pure ?_) | skip
  refine wpAny_bind (wpAny_sequenceKey ht.typeIs (by decide) ?_)
  refine wpAny_bind (wpAny_callSpecial?_slot (name := Str.ofString "__getitem__") ht.typeIs PyProof.Rows.slot_tuple_getitem
    (wpAny_call_entry PyProof.Rows.slot_tuple_getitem ht.typeIs entry_tuple_getitem ?_ (args_tuple_getitem _ _)))
  show wpAny _ _ (Builtin.Tuple.tupleItemsOf (.ref t) >>= _) _ _ s
  refine wpAny_bind (tupleItemsOf_ ht ?_)
  refine wpAny_bind (wpAny_typeOf hTs ?_)
  rw [if_pos (by decide)]
  refine wpAny_bind (sliceApplied_rev hs pl pu ps ?_)
  have hno : ¬ ((((items.size : Int) - 1) == 0 && (-1 : Int) == 1 && items.size == items.size) = true) := by
    rw [show ((-1 : Int) == 1) = false from rfl, Bool.and_false, Bool.false_and]
    exact Bool.false_ne_true
  show wpAny _ _ (if (((items.size : Int) - 1) == 0 && (-1 : Int) == 1 && items.size == items.size) = true then _ else _) _ _ s
  rw [if_neg hno, pick_rev]
  first
    | exact wpAny_bind (m := Builtin.Tuple.tupleExact _) (wpAny_newObj_type (wpAny_pure ⟨_, rfl, wpAny_pure h⟩) htake)
    | exact wpAny_bind (m := Builtin.Tuple.tupleExact _) (wpAny_newObj_type (wpAny_bind (wpAny_pure (wpAny_pure ⟨_, rfl, wpAny_pure h⟩))) htake)
    | exact wpAny_bind (wpAny_bind (m := Builtin.Tuple.tupleExact _) (wpAny_newObj_type (wpAny_pure (wpAny_pure ⟨_, rfl, wpAny_pure h⟩)) htake))
    | exact wpAny_bind (wpAny_bind (m := Builtin.Tuple.tupleExact _) (wpAny_newObj_type (wpAny_pure ⟨_, rfl, wpAny_pure h⟩) htake))
end
end HT
namespace My
open PySem PySem.Spec PyProof.Rows L2
section
variable {X : Cx}
def tRevT (K : PySem.W.Frag) (te : TE) : TE := fun σ H Q => te σ H fun x H1 => ∃ a xs, x = .ref a ∧ SqT K H1 a xs ∧ ∀ p, H1 p = none → Q (.ref p) (upd H1 p (.tup xs.reverse))
theorem pe_revT {e : Expr} {te : TE} {k : Nat} {p1 p2 p3 pos : Pos} (he : PE X e te) : PE X (.Subscript e (.Slice none none (some (.UnaryOp .USub (.Constant (.int 1) k p1) p2)) p3) pos) (tRevT X.K te) := by
  refine ⟨fun pins s σ H Q I h => ?_⟩
  refine Subscript_ (thn (he.run pins s σ H _ I h) fun v s1 ⟨x, H1, I1, r1, q1⟩ => ?_)
  obtain ⟨a, xs, ex, hx, q⟩ := q1
  subst ex
  cases r1
  have hst : PO X (some (.UnaryOp .USub (.Constant (.int 1) k p1) p2)) (tPart (tUn (rU fun i => .int (-i)) (tC (.int 1)))) := po_some (pe_un un_neg pe_int)
  refine wpAny_Slice (thn (po_none.run pins s1 σ H1 (fun o H2 => o = none ∧ H2 = H1) I1 ⟨rfl, rfl⟩) fun vl s2 ⟨l, H2, I2, pl, el, e2⟩ => ?_)
  subst el e2
  refine thn (po_none.run pins s2 σ H2 (fun o H3 => o = none ∧ H3 = H2) I2 ⟨rfl, rfl⟩) fun vu s3 ⟨u, H3, I3, pu, eu, e3⟩ => ?_
  subst eu e3
  refine thn (hst.run pins s3 σ H3 (fun o H4 => o = some (-1) ∧ H4 = H3) I3 ⟨1, rfl, -1, rfl, rfl, rfl⟩) fun vs s4 ⟨o, H4, I4, ps, eo, e4⟩ => ?_
  subst eo e4
  have I5 : Inv X pins σ H4 { s4 with heap := s4.heap.push { cls := .type "slice", data := .fields #[vl, vu, vs] } } := I4.kept (t' := s4.toks) fun b ob q => Heap.get?_push_of_some _ q
  obtain ⟨its, r, ht, hz⟩ := I5.tuple hx
  have hlen := r.length
  show wpAny (model X.prog X.w) X.A (subscriptTail e (.Slice none none (some (.UnaryOp .USub (.Constant (.int 1) k p1) p2)) p3) (.ref a) (.ref s4.heap.objs.size)) (EP X pins σ Q) X.xe { s4 with heap := s4.heap.push { cls := .type "slice", data := .fields #[vl, vu, vs] } }
  refine tail_any (ops := [.ref a, .ref s4.heap.objs.size]) ht.typeIs (PyProof.Rows.slot_tuple_getitem.lookup) ?_ (by with_unfolding_all rfl)
  refine HT.getItem_tuple_rev ht (Heap.IsSliceOf.new _ vl vu vs) pl pu ps ?_ (by rw [List.size_toArray]; omega)
  refine ⟨.ref _, _, I5.laid (t' := s4.toks) (o := .tup xs.reverse) (fun b ob q => Heap.get?_push_of_some _ q) (Nat.le_refl _) ?_, rfl, q _ (I5.hok.fresh (Nat.le_refl _))⟩
  exact ⟨by rw [List.length_reverse]; omega, _, r.reverse, IsTup.new _ _⟩
end
end My

set_option Elab.async false
set_option linter.all false
set_option maxRecDepth 100000
set_option maxHeartbeats 4000000
/-! ### xs[::k], k a whole number that is 1 or -1 -/
namespace L2
open PySem PySem.Spec PyProof.Rows
def tStepL (K : PySem.W.Frag) (te ts : TE) : TE := fun σ H Q => te σ H fun x H1 => ts σ H1 fun y H2 => ∃ i : Int, y = .int i ∧ ∃ a xs, x = .ref a ∧ (i = 1 ∨ i = -1) ∧ SqL K H2 a xs ∧ ∀ p, H2 p = none → Q (.ref p) (upd H2 p (.lst (if i = 1 then xs else xs.reverse)))
section
variable {X : Cx}
theorem pe_stepL {e st : Expr} {te ts : TE} {p3 pos : Pos} (he : PE X e te) (hs : PE X st ts) : PE X (.Subscript e (.Slice none none (some st) p3) pos) (tStepL X.K te ts) := by
  refine ⟨fun pins s σ H Q I h => ?_⟩
  refine Subscript_ (thn (he.run pins s σ H _ I h) fun v s1 ⟨x, H1, I1, r1, q1⟩ => ?_)
  have hst : PO X (some st) (tPart ts) := po_some hs
  refine wpAny_Slice (thn (po_none.run pins s1 σ H1 (fun o H2 => o = none ∧ H2 = H1) I1 ⟨rfl, rfl⟩) fun vl s2 ⟨l, H2, I2, pl, el, e2⟩ => ?_)
  subst el e2
  refine thn (po_none.run pins s2 σ H2 (fun o H3 => o = none ∧ H3 = H2) I2 ⟨rfl, rfl⟩) fun vu s3 ⟨u, H3, I3, pu, eu, e3⟩ => ?_
  subst eu e3
  refine thn (hst.run pins s3 σ H3 (fun o H4 => ∃ i : Int, o = some i ∧ ∃ a xs, x = V.ref a ∧ (i = 1 ∨ i = -1) ∧ SqL X.K H4 a xs ∧ ∀ p, H4 p = none → Q (.ref p) (upd H4 p (.lst (if i = 1 then xs else xs.reverse)))) I3 ?_) fun vs s4 ⟨o, H4, I4, ps, i, eo, a, xs, ex, hi, hx, q⟩ => ?_
  · have key : ∀ y H2, (∃ i : Int, y = V.int i ∧ ∃ a xs, x = V.ref a ∧ (i = 1 ∨ i = -1) ∧ SqL X.K H2 a xs ∧ ∀ p, H2 p = none → Q (.ref p) (upd H2 p (.lst (if i = 1 then xs else xs.reverse)))) = (∃ i, y = V.int i ∧ ∃ j : Int, some i = some j ∧ ∃ a xs, x = V.ref a ∧ (j = 1 ∨ j = -1) ∧ SqL X.K H2 a xs ∧ ∀ p, H2 p = none → Q (.ref p) (upd H2 p (.lst (if j = 1 then xs else xs.reverse)))) := fun y H2 => by
      refine propext ⟨?_, ?_⟩
      · rintro ⟨i, e, r⟩
        exact ⟨i, e, i, rfl, r⟩
      · rintro ⟨i, e, j, ej, r⟩
        cases ej
        exact ⟨i, e, r⟩
    have e2 : (fun y H2 => ∃ i : Int, y = V.int i ∧ ∃ a xs, x = V.ref a ∧ (i = 1 ∨ i = -1) ∧ SqL X.K H2 a xs ∧ ∀ p, H2 p = none → Q (.ref p) (upd H2 p (.lst (if i = 1 then xs else xs.reverse)))) = (fun y H2 => ∃ i, y = V.int i ∧ ∃ j : Int, some i = some j ∧ ∃ a xs, x = V.ref a ∧ (j = 1 ∨ j = -1) ∧ SqL X.K H2 a xs ∧ ∀ p, H2 p = none → Q (.ref p) (upd H2 p (.lst (if j = 1 then xs else xs.reverse)))) := funext fun y => funext fun H2 => key y H2
    rw [e2] at q1
    exact q1
  subst eo ex
  cases r1
  have I5 : Inv X pins σ H4 { s4 with heap := s4.heap.push { cls := .type "slice", data := .fields #[vl, vu, vs] } } := I4.kept (t' := s4.toks) fun b ob q => Heap.get?_push_of_some _ q
  obtain ⟨its, r, ht, hz⟩ := I5.list hx
  have hlen := r.length
  show wpAny (model X.prog X.w) X.A (subscriptTail e (.Slice none none (some st) p3) (.ref a) (.ref s4.heap.objs.size)) (EP X pins σ Q) X.xe { s4 with heap := s4.heap.push { cls := .type "slice", data := .fields #[vl, vu, vs] } }
  refine tail_any (ops := [.ref a, .ref s4.heap.objs.size]) ht.isList.typeIs (PySem.slot_list_getitem.lookup) ?_ (by with_unfolding_all rfl)
  refine wpAny_getItem_list_slice ht.isList (Heap.IsSliceOf.new _ vl vu vs) pl pu ps (by rcases hi with rfl | rfl <;> decide) ?_ (by rw [List.size_toArray]; omega)
  rcases hi with rfl | rfl
  · rw [show slicePick its.toArray none none (some 1) = slicePick its.toArray none none none from rfl, slicePick_all]
    refine ⟨.ref _, _, I5.laid (t' := s4.toks) (o := .lst xs) (fun b ob q => Heap.get?_push_of_some _ q) (Nat.le_refl _) ?_, rfl, ?_⟩
    · exact ⟨hz, _, 0, r, Heap.get?_push_size _ rfl⟩
    · have := q _ (I5.hok.fresh (Nat.le_refl _))
      rw [if_pos rfl] at this
      exact this
  · rw [PySem.W.krv_pick]
    refine ⟨.ref _, _, I5.laid (t' := s4.toks) (o := .lst xs.reverse) (fun b ob q => Heap.get?_push_of_some _ q) (Nat.le_refl _) ?_, rfl, ?_⟩
    · exact ⟨by rw [List.length_reverse]; exact hz, _, 0, r.reverse, Heap.get?_push_size _ rfl⟩
    · have := q _ (I5.hok.fresh (Nat.le_refl _))
      rw [if_neg (by decide)] at this
      exact this
end
end L2

set_option Elab.async false
set_option linter.all false
set_option maxRecDepth 100000
set_option maxHeartbeats 4000000
/-! ### a law's def that asks repr of a list: where nothing is being shown -/
namespace My
open PySem PySem.Spec PyProof.Rows L2
/-- a promise that is kept where nothing is being shown -/
structure FnG (P : Program) (w : World) (K : PySem.W.Frag) (mg : Str → Option Value) (base : Heap) (CX : CXT) (k : Nat) (f : Addr) (fd : FuncData) (ps : List Str) (sp : Sp) : Prop where
  go : ∀ (A : Around) (outer : List Env) (s : Shared) (H : Hp) (args : Args) (us : List Value) (vs : List V) (Q : VK) (E : XK), A.guards = some [] → Room k A → Env0 P w K mg base A outer s H → BindsTo s fd args (ps.zip us) → Vals vs us → sp vs H Q E →
    codeAny (model P w) A (.call (.ref f) args) (CR CX outer P w H s Q E) s
section
variable {P : Program} {w : World} {K : PySem.W.Frag} {mg mb : Str → Option Value} {base : Heap} {k : Nat} {f a : Addr} {fd : FuncData} {x : Str} {sp : Sp} {s : Shared} {us : List Value} {ns : List Int}
theorem FnG.ok {qual : Str} {st : Stmt} {N ps : List Str} (F : Fun K x qual st f fd) (S : FnScope N ps (defScope st)) (len : ∀ vs H Q E, sp vs H Q E → vs.length = ps.length)
    (hbody : ∀ (cdv : Value) (A : Around) (outer : List Env) (s : Shared) (H : Hp) (vs : List V) (Q : VK) (E : XK), (A.deeper (envOfC qual (defScope st) s.heap.objs.size f cdv)).guards = some [] → Room k (A.deeper (envOfC qual (defScope st) s.heap.objs.size f cdv)) → sp vs H Q E →
      ∃ t, PSs (cxOf (L2.CX P w) P w K mg base N qual (defScope st) f cdv A outer s H E) (defBody st) t ∧ t { nx := fun _ H' => Q .non H', rt := Q } (start N vs) H) : FnG P w K mg base (L2.CX P w) (k + 1) f fd ps sp := by
  obtain ⟨oc, od, kV, doc, pm, an, cdv, ct, osl, rfl, lk, hcd⟩ := F.ex
  refine ⟨fun A outer s H args us vs Q E gd hr e0 hb r hsp => ?_⟩
  have count := len _ _ _ _ hsp
  have inK : K.In s.heap := e0.mod.kin.keeps fun b o e => (e0.bs b o e).1
  have kinds : ∀ y ∈ ps.zip us, (defScope st).names.lookup y.1 = some .local ∨ ((defScope st).names.lookup y.1 = some .cell ∧ ((cellsFrom (s.heap.objs.size + 1) (defScope st).names []).lookup y.1).isSome = true) := fun ⟨m, v⟩ hy =>
    (S.par m (List.of_mem_zip hy).1).imp id fun q => ⟨q, PySem.W.cellsFrom_some _ _ _ (.inl q)⟩
  refine codeAny_call_function hr.depth (inK _ _ lk) rfl S.co S.gen rfl (PySem.W.codeRec_of inK hcd) (hb _ _ _ _ (wpAny_newFunctionEnv_cells S.kind kinds fun env he s1 z => ?_))
  subst he
  refine ⟨(e0.mod.nolimit.keeps fun b o e => (e0.bs b o e).1).keeps z.toInCall.keep, codeAny_func ?_⟩
  obtain ⟨t, ht, todo⟩ := hbody cdv A outer s H vs Q E gd (hr.deeper _) hsp
  refine wpAny_mono (ht.run [] s1 (start N vs) H _ (inv_start S hr.hd e0 count r z) todo) (fun
    | .ret u, s2, ⟨v, σ', H', J, rv, q⟩ => ⟨v, H', J.os, J.bare, J.base, J.hok, rv, q⟩
    | .next, s2, ⟨σ', H', J, q⟩ => (⟨V.non, H', J.os, J.bare, J.base, J.hok, rfl, q⟩ : CE outer P w H s Q Value.none s2)
    | .brk, s2, ⟨_, _, _, q⟩ => q.elim
    | .cont, s2, ⟨_, _, _, q⟩ => q.elim) fun _ _ z => z
/-- a heap of which the script alone may be tracked -/
theorem script_heap (KX : K.In s.heap) (ha : s.heap.get? a = some { cls := .type "list", data := .seq us.toArray }) (hi : IntsAre us ns) (hl : ns.length ≤ sizeLine) :
    ∃ H : Hp, Only H ∧ SqL K H a (ns.map V.int) ∧ HOk P w H s.heap ∧ (∀ b, H b ≠ none → b = a) ∧ (H a ≠ none → K.lookup a = none) := by
  have rv := vals_ints hi
  cases hk : K.lookup a with
  | some o =>
    cases ha.symm.trans (KX a o hk)
    exact ⟨fun _ => none, fun _ => .inl rfl, .inr ⟨_, us.toArray, _, hk, rfl, rfl, rfl, by rw [List.size_toArray, hi.length]; exact hl, by simpa using rv⟩, fun b u z => (nomatch (show (none : Option HO) = some u from z)), fun b z => absurd rfl z, fun z => absurd rfl z⟩
  | none =>
    refine ⟨fun b => if b = a then some (.frz { cls := .type "list", data := .seq us.toArray } (.lst (ns.map V.int))) else none, fun b => ?_, .inl (.inr ⟨_, if_pos rfl⟩), fun b u z => ?_, fun b z => Classical.byContradiction fun n => z (if_neg n), fun _ => rfl⟩
    · rcases Classical.em (b = a) with e | e
      · exact .inr ⟨_, _, if_pos e⟩
      · exact .inl (if_neg e)
    · rcases Classical.em (b = a) with e | e
      · subst e
        cases (if_pos rfl).symm.trans z
        exact ⟨ha, by rw [List.length_map]; exact hl, us, _, rv, ha⟩
      · exact absurd ((if_neg e).symm.trans z) (fun q => nomatch q)
theorem call_lawG (KX : K.In s.heap) (hns : s.heap.Ns mainGlobals mg) (hb : s.heap.Ns builtinsNs mb) (hbb : ∀ x : Str, x ≠ "__name__" → mb x = bootBuiltins x) (hlim : s.heap.NoLimit) (hg : s.gens = #[])
    (ha : s.heap.get? a = some { cls := .type "list", data := .seq us.toArray }) (hi : IntsAre us ns) (hl : ns.length ≤ sizeLine) (hr : Room k callerA) (F : ∀ base : Heap, K.In base → base.Ns mainGlobals mg → FnG P w K mg base (L2.CX P w) k f fd [x] sp)
    (hbind : ∀ (s : Shared) (u : Value), BindsTo s fd ⟨[u], []⟩ [(x, u)]) (hsp : ∀ H : Hp, SqL K H a (ns.map V.int) → sp [.ref a] H (fun v _ => v = .bl true) fun _ _ _ => False) :
    codeAny (model P w) callerA (.call (.ref f) ⟨[.ref a], []⟩) (fun r s' => r = .ok (.ret (.bool true)) ∧ OldK s.heap s'.heap ∧ s'.os = s.os ∧ AllBare s'.gens) s := by
  obtain ⟨H, only, hS, hok, hA, hK⟩ := script_heap (P := P) (w := w) KX ha hi hl
  have old : ∀ {b : Addr} {o : Obj}, s.heap.get? b = some o → H b = none → (hidT s.heap H).get? b = some o := fun e n => hidT_get e n
  have dicts : ∀ {b : Addr} {o : Obj} {es : Array DictEntry} {ep : Nat}, s.heap.get? b = some o → o.data = .dict es ep → H b = none := fun {b o es ep} e d => Classical.byContradiction fun n => by
    rw [hA b n, ha] at e
    cases e
    cases (show Data.seq us.toArray _ = Data.dict es ep from d)
  have names : ∀ {b : Addr} {m : Str → Option Value}, s.heap.Ns b m → (hidT s.heap H).Ns b m := fun ⟨o, es, ep, e, d, r⟩ => ⟨o, es, ep, old e (dicts e d), d, r⟩
  have inB : K.In (hidT s.heap H) := fun b o e => old (KX b o e) (Classical.byContradiction fun n => by
    have eb := hA b n
    subst eb
    rw [hK n] at e
    cases e)
  have mods : Mod K mg (hidT s.heap H) := ⟨inB, names hns, ⟨mb, names hb, hbb⟩, let ⟨mc, h1, h2⟩ := hlim; ⟨mc, names h1, h2⟩⟩
  have env : Env0 P w K mg (hidT s.heap H) callerA [] s H := ⟨rfl, mods, fun b o e => of_hidT e, Nat.le_of_eq (hidT_size _ _), trivial, fun b hb => (nomatch hb), hok, .of_eq hg⟩
  refine codeAny_mono ((F _ inB (names hns)).go callerA [] s H ⟨[.ref a], []⟩ [.ref a] [.ref a] _ _ rfl hr env (hbind s (.ref a)) (.cons rfl .nil) (hsp H hS)) fun
    | .error e, s', h => False.elim (let ⟨_, _, _, _, _, _, _, _, _, _, _, _, z⟩ := h; z)
    | .ok .next, _, h => False.elim h
    | .ok .brk, _, h => False.elim h
    | .ok .cont, _, h => False.elim h
    | .ok (.ret u), s', ⟨v, H', os, bare, un, hok', r', q⟩ => ?_
  cases (show v = .bl true from q)
  cases (show u = Value.bool true from r')
  refine ⟨rfl, OldK.of_keep fun b o e => ?_, os, bare⟩
  rcases only b with n | ⟨ob, xs, z⟩
  · exact un.keep b o e n (fun z => nomatch z) (by simp)
  · obtain ⟨e1, _⟩ := hok b _ z
    obtain ⟨e2, _⟩ := hok' b _ (un.frzs b ob _ z)
    cases e.symm.trans e1
    exact e2
end
theorem walk_ofG {l : PySem.W.OpenLaw} {n k : Nat} {q : Program} {loose : List Str} {XP : (Str → Option Value) → Heap → Prop} {YP : World → Heap → Prop} {d : DefRec} {K : Params → PySem.W.Frag} {sp : World → Sp} {x : Str}
    (hn : l.most = some n) (hn2 : n ≤ sizeLine) (hdf : d.params.defaults = []) (hr : Room k callerA) (hY : ∀ (w : World) (h : Heap), YP w h → (K w.params).In h)
    (F : ∀ (w : World) (mg : Str → Option Value) (fa : Addr) (h : Heap), (K w.params).In h → h.Ns mainGlobals mg → mg d.name = some (.ref fa) → ∃ fd : FuncData, (∀ (s : Shared) (u : Value), BindsTo s fd ⟨[u], []⟩ [(x, u)]) ∧ ∀ base : Heap, (K w.params).In base → base.Ns mainGlobals mg → FnG l.prog w (K w.params) mg base (L2.CX l.prog w) k fa fd [x] (sp w))
    (hsp : ∀ (w : World) (H : Hp) (a : Addr) (ns : List Int), ns.length ≤ n → SqL (K w.params) H a (ns.map V.int) → sp w [.ref a] H (fun v _ => v = .bl true) fun _ _ _ => False) : PySem.W.WalkO q loose XP YP l.row.toRowW d [] (fun f vs => PySem.call f vs) := by
  refine Att.attach_call hn hdf fun w s₀ s₁ mg mb fa o pm cd doc a vs ns G Y _ _ _ hmg hobj hints hlen hg => ?_
  have KX := hY w _ Y
  obtain ⟨fd, hb, hF⟩ := F w mg fa _ KX G.T.g hmg
  exact call_lawG KX G.T.g G.T.b G.T.builtins G.T.nolimit hg hobj hints (Nat.le_trans hlen hn2) hr hF hb fun H hS => hsp w H a ns hlen hS
end My

set_option Elab.async false
set_option linter.all false
set_option maxRecDepth 100000
set_option maxHeartbeats 2000000
/-! ### repr of a whole number or a truth value -/
namespace My
open PySem L2
/-- the text of a scalar -/
def rpS : V → Str
  | .int i => toString i
  | .bl b => if b then "True" else "False"
  | _ => ""
def rReprS : List V → Hp → VK → Prop := fun xs H Q => (∃ i : Int, xs = [.int i] ∧ i.natAbs.log2 < 1920 ∧ Q (.str (rpS (.int i))) H) ∨ (∃ b, xs = [.bl b] ∧ Q (.str (rpS (.bl b))) H)
theorem call_reprS {X : Cx} : CallR X (.builtin "repr") rReprS := by
  intro pins s σ H xs us Q I r h
  rcases h with ⟨i, rfl, hz, q⟩ | ⟨b, rfl, q⟩
  · obtain ⟨u, rfl, t, rfl⟩ := vals1 r
    exact PySem.P.repr_of_int hz ⟨.str _, H, I.tok _, ⟨_, rfl⟩, q⟩
  · obtain ⟨u, rfl, t⟩ := vals1 r
    have : u = .bool b := t
    subst this
    exact PySem.P.repr_of_bool ⟨.str _, H, I.tok _, ⟨_, rfl⟩, q⟩
end My

set_option Elab.async false
set_option linter.all false
set_option maxRecDepth 100000
set_option maxHeartbeats 4000000
/-! ### a loop over a dict's keys -/
namespace My
open PySem L2
theorem forKeys {g : TG} {tb : TS} {D : Ends} {σ : L2.St} {H : Hp} {d : Addr} {kvs : List (Key × V)} {i : Nat} (hσ : σ[i]? = some (some (.ref d))) (hd : H d = some (.dK kvs)) (Pv : Obj → Nat → L2.St → Hp → Prop)
    (h0 : ∀ od, Pv od 0 σ (upd H d (.frz od (.dK kvs)))) (hk : ∀ od j σ H', Pv od j σ H' → H' d = some (.frz od (.dK kvs)))
    (hs : ∀ od j k v σ H', kvs[j]? = some (k, v) → Pv od j σ H' → g (kV k) σ H' fun σ2 H2 => tb ⟨Pv od (j + 1), fun v H' => H' d = some (.frz od (.dK kvs)) ∧ D.rt v (upd H' d (.dK kvs)), fun σ' H' => H' d = some (.frz od (.dK kvs)) ∧ D.nx σ' (upd H' d (.dK kvs)), Pv od (j + 1)⟩ σ2 H2)
    (fin : ∀ od σ' H', Pv od kvs.length σ' H' → D.nx σ' (upd H' d (.dK kvs))) : tLock (tFor (iKeys (tVar i)) g tb) D σ H := by
  refine ⟨d, .dK kvs, hd, True.intro, fun od => ?_⟩
  refine ⟨.ref d, hσ, d, od, rfl, .inl ⟨kvs, upd_same, ?_⟩⟩
  refine for_it (n := kvs.length) walk_keys (Pv od) (h0 od) (fun j σ H _ p => hk od j σ H p) (fun j x σ H1 H' hj p y => ?_) fun σ H p => ⟨hk od _ σ H p, fin od σ H p⟩
  obtain ⟨rfl, k, v, e, rfl⟩ := y
  exact hs od j k v σ _ e p
theorem noSqD {H : Hp} {d : Addr} {kvs : List (Key × V)} (h : H d = some (.dK kvs)) : NoSq H [d] := fun b hb => by
  rw [List.mem_singleton.mp hb, h]
  exact ⟨fun _ z => (by cases z), fun _ z => (by cases z), fun _ _ z => (by cases z)⟩
mutual
theorem dpM {K : PySem.W.Frag} {H H' : Hp} (hl : ∀ a xs, SqL K H a xs → SqL K H' a xs) (ht : ∀ a xs, SqT K H a xs → SqT K H' a xs) : ∀ {d : PyData} {v : V}, Dp K H v d → Dp K H' v d
  | _, _, .non => .non
  | _, _, .bl b => .bl b
  | _, _, .int i => .int i
  | _, _, .str x => .str x
  | _, _, .lst e h => .lst (hl _ _ e) (dpAllM hl ht h)
  | _, _, .tup e h => .tup (ht _ _ e) (dpAllM hl ht h)
theorem dpAllM {K : PySem.W.Frag} {H H' : Hp} (hl : ∀ a xs, SqL K H a xs → SqL K H' a xs) (ht : ∀ a xs, SqT K H a xs → SqT K H' a xs) : ∀ {ds : List PyData} {vs : List V}, DpAll K H vs ds → DpAll K H' vs ds
  | _, _, .nil => .nil
  | _, _, .cons h t => .cons (dpM hl ht h) (dpAllM hl ht t)
end
theorem unfL {K : PySem.W.Frag} {H : Hp} {d : Addr} {o : Obj} {kvs : List (Key × V)} {u : HO} (h : H d = some (.frz o (.dK kvs))) : ∀ a xs, SqL K H a xs → SqL K (upd H d u) a xs := fun a xs z => by
  rcases z with (z | ⟨o2, z⟩) | z
  · exact .inl (.inl (by rw [upd_ne (fun e => by rw [e, h] at z; cases z)]; exact z))
  · exact .inl (.inr ⟨o2, by rw [upd_ne (fun e => by rw [e, h] at z; cases z)]; exact z⟩)
  · exact .inr z
theorem unfT {K : PySem.W.Frag} {H : Hp} {d : Addr} {o : Obj} {kvs : List (Key × V)} {u : HO} (h : H d = some (.frz o (.dK kvs))) : ∀ a xs, SqT K H a xs → SqT K (upd H d u) a xs := fun a xs z => by
  rcases z with (z | ⟨o2, z⟩) | z
  · exact .inl (.inl (by rw [upd_ne (fun e => by rw [e, h] at z; cases z)]; exact z))
  · exact .inl (.inr ⟨o2, by rw [upd_ne (fun e => by rw [e, h] at z; cases z)]; exact z⟩)
  · exact .inr z
/-- over a loop: what stood before stands behind it -/
theorem Kp.unlock {H H' : Hp} {d : Addr} {o : Obj} {u : HO} (hd : H d = some u) (k : Kp [] (upd H d (.frz o u)) H') : Kp [] H (upd H' d u) := fun a x _ e => by
  by_cases z : a = d
  · subst z; rw [upd_same, ← hd, e]
  · rw [upd_ne z]
    exact k a x not0 (by rw [upd_ne z]; exact e)
theorem Kp.lock {H : Hp} {d : Addr} {u : HO} : Kp [d] H (upd H d u) := (Kp.refl [d] H).put (by simp)
end My

set_option Elab.async false
set_option linter.all false
set_option maxRecDepth 100000
set_option maxHeartbeats 4000000
/-! ### x[y] in a try, x an instance of an own class that defines __getitem__ -/
namespace My
open PySem PySem.Spec PyProof.Rows L2
section
variable {X : Cx} {CX : CXT} {C g : Addr} {fd : FuncData} {ps : List Str} {sp : Sp} {E : L2.St → XK} {k : Nat} {A1 : Around}
theorem run_underS {pins : List (Addr × Obj)} {σ : L2.St} {H : Hp} {s : Shared} {Q : VK} {us : List Value} {vs : List V} (F : FnOk X.prog X.w X.K X.mg X.base CX k g fd ps sp) (sb : Sub X k A1) (hb : Binds X.K fd ps []) (hx : PassesAt CX X σ (E σ)) (I : L2.Inv X pins σ H s) (r : Vals vs us) (h : sp vs H Q (E σ)) :
    wpAny (model X.prog X.w) A1 (call (.ref g) us) (EP X pins σ Q) X.xe s := by
  have len := F.len _ _ _ _ h
  have bnd := hb s us I.kIn (by rw [List.append_nil, ← r.length]; exact len)
  rw [List.append_nil] at bnd
  refine wpAny_call (codeAny_mono (F.run A1 X.stack s H ⟨us, []⟩ us vs Q (E σ) sb.room (env_under sb I) bnd r h) ?_)
  rintro (e | fl) s' z
  · exact hx pins H s e s' I z
  · cases fl <;> first | exact I.after z | exact z.elim
def tGetS (C : Addr) (sp : Sp) (E : L2.St → XK) (ta tb : TE) : TE := fun σ H Q => ta σ H fun x H1 => tb σ H1 fun y H2 => rGetO C sp (E σ) x y H2 Q
theorem pe_getOS {o i : Expr} {ta tb : TE} {pos : Pos} (c : GetC X.K C g) (F : FnOk X.prog X.w X.K X.mg X.base CX k g fd ps sp) (hb : Binds X.K fd ps []) (hr : Room (k + 1) X.A) (hx : ∀ σ, PassesAt CX X σ (E σ)) (ha : PE X o ta) (hi : PE X i tb)
    (hsl : ∀ v u, subscripted i true v u = runValue (.builtin "lifetime.subscript" ⟨[v, u], []⟩) := by intros; rfl) : PE X (.Subscript o i pos) (tGetS C sp E ta tb) := by
  refine ⟨fun pins s σ H Q I h => ?_⟩
  refine Subscript_ (binT ha hi I h fun v u s2 x y H2 I2 rx ry q => ?_)
  obtain ⟨a, dx, fs, rfl, hh, q⟩ := q
  cases rx
  obtain ⟨ox, od, J⟩ := inst_of I2 hh
  obtain ⟨m, hF⟩ := I2.fr
  refine PySem.W.sub_K hF I2.ok.mod.kin J c.at_ c.it c.fn ?_ (hsl _ _)
  exact run_underS (us := [.ref a, u]) (vs := [.ref a, y]) F (sub_here hr).in1 hb (hx σ) I2 (.cons rfl (.cons ry .nil)) q
end
end My

set_option Elab.async false
set_option linter.all false
set_option maxRecDepth 100000
set_option maxHeartbeats 4000000
/-! ### a def that asks repr, called where nothing is being shown; repr of any data -/
namespace My
open PySem PySem.Spec PyProof.Rows L2
section
variable {X : Cx} {k : Nat} {f : Addr} {fd : FuncData} {ps : List Str} {sp : Sp} {E : XK} {x : Str} {p pos : Pos} {e : Expr} {es : List Expr} {t : TA}
theorem pe_callG (F : FnG X.prog X.w X.K X.mg X.base (L2.CX X.prog X.w) k f fd ps sp) (gd : X.A.guards = some []) (hr : Room k X.A) (hg : Gl X x) (hm : X.mg x = some (.ref f)) (hk : PySem.W.keepIn X.K (.ref f) = true) (hb : Binds X.K fd ps []) (hl : ∀ vs H Q E, sp vs H Q E → vs.length = ps.length) (hx : Passes (L2.CX X.prog X.w) X E)
    (ha : PA X (e :: es) t) (hdb : (x == ("__debug__" : Str)) = false := by decide) (he : starEach (e :: es) X.env = (false, eval e X.env) :: starEach es X.env := by rfl) (hpl : (backTo pos (starEach es X.env)).any (·.1) = false := by rfl) :
    PE X (.Call (.Name x p) (e :: es) [] pos) (tCall sp [] E t) := by
  refine ⟨fun pins s σ H Q I h => ?_⟩
  refine wpAny_Call_Name_kw (ld_glob I hg hm ?_ hdb)
  refine PySem.W.callWith_K (h₀ := X.base) I.ok.mod.kin hk (thn (ha.run pos pins s σ H _ I h) fun us s1 ⟨vs, H1, I1, r, q⟩ => ⟨I1.kIn, ?_⟩) he hpl
  have q : sp (vs ++ []) H1 Q E := q
  rw [List.append_nil] at q
  have hlen : us.length = ps.length := by rw [← r.length]; exact hl _ _ _ _ q
  have b := hb s1 us I1.kIn (by rw [List.append_nil]; exact hlen)
  rw [List.append_nil] at b
  refine wpAny_call (codeAny_mono (F.go X.A X.stack s1 H1 ⟨us, []⟩ us vs Q E gd hr I1.env0 b r q) fun r s' hq => ?_)
  cases r with
  | error e => exact hx pins σ H1 s1 e s' I1 hq
  | ok fl =>
    cases fl with
    | ret u => exact I1.after hq
    | next => exact False.elim hq
    | brk => exact False.elim hq
    | cont => exact False.elim hq
end
/-- data that may be shown: at most k deep, of at most b letters and items -/
structure Sh (k b : Nat) (d : PyData) : Prop where
  lay : PyData.canLay0 d = true
  shw : d.showable = true
  int : d.intsShort 13 = true
  dep : d.depth ≤ k
  blk : d.bulk ≤ b
theorem Sh.mono {k b k2 b2 : Nat} {d : PyData} (h : Sh k b d) (hk : k ≤ k2) (hb : b ≤ b2) : Sh k2 b2 d := ⟨h.lay, h.shw, h.int, Nat.le_trans h.dep hk, Nat.le_trans h.blk hb⟩
theorem Sh.len {k b : Nat} {d : PyData} (h : Sh k b d) (hb : b ≤ 1000000) : d.shown.length ≤ sizeLine := PyData.shown_fits_bulk (B := 13) (by decide) (by decide) (PyData.leavesShort_of_canLay0 13 d h.lay h.int) (by have := h.blk; omega)
theorem Sh.no {k b : Nat} {d : PyData} (h : Sh k b d) : d.hasDict = false := PyData.hasDict_of_canLay d h.lay
theorem sh_all {k b : Nat} : ∀ {ds : List PyData}, (∀ d ∈ ds, Sh k b d) → PyData.canLayAll0 ds = true ∧ PyData.showableAll ds = true ∧ PyData.intsShortAll 13 ds = true ∧ PyData.depthAll ds ≤ k ∧ PyData.bulkAll ds ≤ (b + 1) * ds.length
  | [], _ => ⟨rfl, rfl, rfl, Nat.zero_le _, Nat.zero_le _⟩
  | d :: r, h => by
    have ih := sh_all (ds := r) fun x hx => h x (List.mem_cons_of_mem _ hx)
    have h1 := h d List.mem_cons_self
    refine ⟨?_, ?_, ?_, ?_, ?_⟩
    · show (PyData.canLay0 d && PyData.canLayAll0 r) = true
      rw [h1.lay, ih.1]; rfl
    · show (PyData.showable d && PyData.showableAll r) = true
      rw [h1.shw, ih.2.1]; rfl
    · show (PyData.intsShort 13 d && PyData.intsShortAll 13 r) = true
      rw [h1.int, ih.2.2.1]; rfl
    · show max d.depth (PyData.depthAll r) ≤ k
      have := h1.dep
      have := ih.2.2.2.1
      omega
    · show d.bulk + 1 + PyData.bulkAll r ≤ (b + 1) * (r.length + 1)
      have := h1.blk
      have := ih.2.2.2.2
      rw [Nat.mul_succ]
      omega
theorem sh_tup {k b : Nat} {ds : List PyData} (h : ∀ d ∈ ds, Sh k b d) : Sh (k + 1) ((b + 1) * ds.length) (.tuple ds) := by
  obtain ⟨a1, a2, a3, a4, a5⟩ := sh_all h
  exact ⟨a1, a2, a3, Nat.succ_le_succ a4, a5⟩
theorem sh_lst {k b : Nat} {ds : List PyData} (h : ∀ d ∈ ds, Sh k b d) : Sh (k + 1) ((b + 1) * ds.length) (.list ds) := by
  obtain ⟨a1, a2, a3, a4, a5⟩ := sh_all h
  exact ⟨a1, a2, a3, Nat.succ_le_succ a4, a5⟩
theorem sh_none : Sh 1 0 .none := ⟨rfl, rfl, rfl, by simp [PyData.depth], Nat.le_refl _⟩
theorem sh_int {i : Int} (h : i.natAbs < 1000) : Sh 1 0 (.int i) := ⟨rfl, decide_eq_true (by
  have : i.natAbs.log2 ≤ (1000 : Nat).log2 := by
    by_cases z : i.natAbs = 0
    · rw [z]; decide
    · exact (Nat.le_log2 (by decide)).mpr (Nat.le_trans (Nat.log2_self_le z) (Nat.le_of_lt h))
  exact Nat.lt_of_le_of_lt this (by decide)), decide_eq_true (PyData.shown_int_le (by omega)), by simp [PyData.depth], Nat.le_refl _⟩
theorem sh_str {z : Str} {b : Nat} (h : PyData.canLay0 (.str z) = true) (hb : z.length ≤ b) : Sh 1 b (.str z) := ⟨h, rfl, rfl, by simp [PyData.depth], hb⟩
/-- repr of any data -/
def rReprA : List V → Hp → VK → Prop := fun xs H Q => ∃ (v : V) (d : PyData), xs = [v] ∧ Dq H v d ∧ Sh 60 1000000 d ∧ Q (.str d.shown) H
theorem call_reprA {X : Cx} (gd : X.A.guards = some [] ∧ X.A.units + 64 < cLine) : CallR X (.builtin "repr") rReprA := by
  intro pins s σ H xs us Q I r h
  obtain ⟨v, d, rfl, hd, hs, q⟩ := h
  obtain ⟨u, rfl, ru⟩ := vals1 r
  have hz := hs.len (Nat.le_refl _)
  cases hd with
  | non =>
    cases (show u = Value.none from ru)
    exact PySem.P.repr_of_none ⟨.str _, H, I.tok _, ⟨_, rfl⟩, q⟩
  | bl b =>
    have : u = .bool b := ru
    subst this
    exact PySem.P.repr_of_bool ⟨.str _, H, I.tok _, ⟨_, rfl⟩, q⟩
  | int i =>
    obtain ⟨t, rfl⟩ := ru
    exact PySem.P.repr_of_int (of_decide_eq_true hs.shw) ⟨.str _, H, I.tok _, ⟨_, rfl⟩, q⟩
  | str x =>
    obtain ⟨t, rfl⟩ := ru
    exact PySem.P.repr_of_str ⟨.str _, H, I.tok _, ⟨_, rfl⟩, q⟩ hz
  | lst e hh =>
    obtain ⟨as, rd⟩ := Dp.reads I _ _ u (Dq.dp (.lst e hh)) ru
    cases (show u = Value.ref _ from ru)
    exact repr_of_reads' rd hs.shw (PyData.noDict_hsm hs.no) gd.1 (by have := hs.dep; omega) (fun _ _ e => e) (fun h' t tk hk => ⟨.str _, H, I.kept (t' := tk) hk, ⟨_, rfl⟩, q⟩) hz
  | tup e hh =>
    obtain ⟨as, rd⟩ := Dp.reads I _ _ u (Dq.dp (.tup e hh)) ru
    cases (show u = Value.ref _ from ru)
    exact repr_of_reads' rd hs.shw (PyData.noDict_hsm hs.no) gd.1 (by have := hs.dep; omega) (fun _ _ e => e) (fun h' t tk hk => ⟨.str _, H, I.kept (t' := tk) hk, ⟨_, rfl⟩, q⟩) hz
end My

set_option Elab.async false
set_option linter.all false
set_option maxRecDepth 100000
set_option maxHeartbeats 4000000
/-! ### try with several clauses that bind the error -/
namespace My
open PySem PySem.Spec PyProof.Rows L2
/-- one clause: the class that it names, the slot of its name, its suite's reading -/
structure Cla where
  c : Value
  i : Nat
  ts : Addr → Value → Option Addr → TS
/-- behind a suite the name in slot i is gone -/
def Ends.off (i : Nat) (D : L2.Ends) : L2.Ends where
  nx σ H := D.nx (σ.set i none) H
  rt := D.rt
  bk σ H := D.bk (σ.set i none) H
  ct σ H := D.ct (σ.set i none) H
/-- what clauses, tried in turn, wish -/
def wClas (K : PySem.W.Frag) (W0 : WX) (D : L2.Ends) : List Cla → WX
  | [] => W0
  | k :: ks => fun cls d σ H => ∃ hit, PySem.W.exmOne K cls k.c = some hit ∧ (hit = true → ∀ a, H a = none → k.ts a cls d (Ends.off k.i D) (σ.set k.i (some (.ref a))) H) ∧ (hit = false → wClas K W0 D ks cls d σ H)
/-- the clauses as they are written -/
inductive Clauses (X : Cx) : List ExceptHandler → List Cla → Prop
  | nil : Clauses X [] []
  | cons {k : Cla} {ks : List Cla} {x n : Str} {b1 : Stmt} {bs : List Stmt} {p1 p2 : Pos} {hs : List ExceptHandler} (nm : Names X x k.c) (at_ : X.N[k.i]? = some n) (lo : X.env.kindOf n = some .local)
      (suite : ∀ (a : Addr) (oe : Obj) (cls : Value) (d : Option Addr) (pn : List (Addr × Obj)), Zc cls d oe → (∃ vs, oe.data = .fields vs) → PSs (X.suite a ((a, oe) :: pn)) (b1 :: bs) (k.ts a cls d)) (more : Clauses X hs ks) :
      Clauses X (.ExceptHandler (some (.Name x p1)) (some n) (b1 :: bs) p2 :: hs) (k :: ks)
section
variable {X : Cx} {pins : List (Addr × Obj)} {σ : L2.St} {H : Hp} {s0 sI : Shared} {h3 B : Heap} {a : Addr} {cls : Value} {d : Option Addr} {D : L2.Ends} {W0 : WX}
/-- the clauses are tried, the error being at a -/
theorem clauses_run (top : X.stack = X.env :: X.outer) (fr : X.env.frame = some X.env.locals) (nd : X.N.Nodup) (tk : Takes X W0) (J : Inv X pins σ H sI) (na : H a = none)
    (J' : ∀ h4, HandSPX.FlyingZ B (X.env :: X.outer) a (Zc cls d) h4 → h3.UpToSlots h4 → Inv X pins σ H { s0 with heap := h4 })
    (out : W0 cls d σ H → ∀ (h4 : Heap), HandSPX.HeldZ B (X.env :: X.outer) a (Zc cls d) X.env.locals h4 → h3.UpToSlots h4 → X.xe (.ref a) { s0 with heap := h4 })
    (fl : HandSPX.FlyingZ B (X.env :: X.outer) a (Zc cls d) h3) : ∀ {hs : List ExceptHandler} {ks : List Cla}, Clauses X hs ks → wClas X.K W0 D ks cls d σ H →
      wpAny (model X.prog X.w) X.A (handleBy (.ref a) X.env hs) (SP X pins D) X.xe { s0 with heap := h3 } := by
  have ok := J.ok
  have J3 := J' h3 fl (Heap.UpToSlots.refl _)
  have far : ∀ {h : Heap} {o : Obj} {vs : Array Value}, h.FunFrames B (X.env :: X.outer) → h.get? a = some o → o.data = .fields vs → a ∉ frs (X.env :: X.outer) := by
    intro h o vs ff e dd hm
    obtain ⟨_, o', e', other⟩ := ff.mem hm
    cases e.symm.trans e'
    exact other _ dd
  obtain ⟨oe, vs, he, hz, hd⟩ := fl.there
  have away := far fl.2.2.1 he hd
  have nL : a ≠ X.env.locals := by
    intro z
    exact away (List.mem_filterMap.mpr ⟨X.env, List.mem_cons_self, by rw [fr, z]⟩)
  have nF : a ∉ X.fs := by
    intro hm
    obtain ⟨e, me, q⟩ := List.mem_filterMap.mp hm
    exact away (List.mem_filterMap.mpr ⟨e, List.mem_cons_of_mem _ me, q⟩)
  have S3 := J3.suite he hd na nL nF
  intro hs ks C
  induction C with
  | nil =>
    intro q
    refine wpAny_handleBy_nil ?_
    obtain ⟨_, _, _, o1, v1, T1, _, _, e1, _, d1, f1, _⟩ := id fl
    unfold PySem.passOn
    refine wpAny_bind (wpAny_field e1 d1 f1 ?_)
    rw [if_neg (show ¬ ((Value.ref T1 == Value.none) = true) by simp)]
    have leave : wpAny (model X.prog X.w) X.A (setFlight (.ref a) X.env.frame) (fun _ s4 => wpAny (model X.prog X.w) X.A (throw (.ref a) : Sem Flow) (SP X pins D) X.xe s4) X.xe { s0 with heap := h3 } := by
      rw [fr]
      exact HandSPX.setFlight_upZ fl fun h4 held up => wpAny_throw (out q h4 held up)
    first | exact wpAny_bind (wpAny_pure (wpAny_bind leave)) | exact wpAny_bind leave
  | @cons k ks x n b1 bs p1 p2 hs nm at_ lo suite more ih =>
    rintro ⟨hit, e1, yes, no⟩
    refine wpAny_handleBy_cons (codeAny_handlers_test ?_) (by intro q; cases q)
    have looks : PySem.W.Looks (model X.prog X.w) h3 (typeOf (.ref a)) cls := by
      intro A Q E s kk q
      exact wpAny_typeOf_ref (kk _ _ he) (by rw [hz.1]; exact q)
    have named : ∀ {Q : Value → Shared → Prop} {E : Value → Shared → Prop}, Q k.c { s0 with heap := h3 } → wpAny (model X.prog X.w) (X.A.mark (some (.ref a))) (eval (.Name x p1) X.env) Q E { s0 with heap := h3 } := by
      intro Q E q
      obtain ⟨g1, g2, m1 | ⟨m1, m2, m3⟩⟩ := nm
      · exact ld_glob (X := X.suite a ((a, oe) :: (X.pn ++ pins))) S3 g1 m1 q g2
      · exact ld_blt (X := X.suite a ((a, oe) :: (X.pn ++ pins))) S3 g1 m1 m2 q m3 g2
    refine named ((PySem.W.exm_one (M := model X.prog X.w) J3.kIn looks e1).here ?_)
    cases hit with
    | false => exact (show wpAny _ X.A (handleBy (.ref a) X.env hs) _ _ _ from ih (no rfl))
    | true =>
      refine codeAny_handlers_suite_as (HandSPX.lands_againZ fl fun h4 fl4 up4 => ?_)
      have J4 := J' h4 fl4 up4
      obtain ⟨o4, v4, e4, z4, d4⟩ := fl4.there
      refine store_ok (X := X.suite a ((a, o4) :: (X.pn ++ pins))) (v := .ref a) (J4.suite e4 d4 na nL nF) nd at_ (.inl lo) rfl (fun s5 S5 => ?_) (.inr lo)
      refine wpAny_mono ((suite a o4 cls d (X.pn ++ pins) z4 ⟨_, d4⟩).run [] s5 _ H _ S5 (yes rfl a na)) ?_ fun _ _ z => z.elim
      rintro fl' s6 hsp
      have close : ∀ {τ : L2.St} {G : Hp} {Q : Shared → Prop}, Inv (X.suite a ((a, o4) :: (X.pn ++ pins))) [] τ G s6 → (∀ s7, Inv X pins (τ.set k.i none) G s7 → Q s7) →
          wpAny (model X.prog X.w) X.A (do bindName X.env n .none; unbindBehindTheSuite X.env n p2) (fun _ s7 => Q s7) X.xe s6 := fun S6 hq => gone_ok (S6.unsuite ok) nd at_ lo hq
      cases fl' with
      | ret u =>
        obtain ⟨v, τ, G, S6, r, q⟩ := hsp
        exact close S6 fun s7 J7 => ⟨_, _, _, J7, r, q⟩
      | _ =>
        obtain ⟨τ, G, S6, q⟩ := hsp
        exact close S6 fun s7 J7 => ⟨_, _, J7, q⟩
end
section
variable {X : Cx} {body : List Stmt} {h1 : ExceptHandler} {hs : List ExceptHandler} {ks : List Cla} {pos : Pos} {tb : WX → TS} {W0 : WX}
theorem ps_try_clauses (top : X.stack = X.env :: X.outer) (fr : X.env.frame = some X.env.locals) (nd : X.N.Nodup) (C : Clauses X (h1 :: hs) ks) (tk : Takes X W0)
    (hb : ∀ (W : WX) (pn : List (Addr × Obj)) (xe : Value → Shared → Prop), Takes (X.tr pn xe) W → PassesOwn (model X.prog X.w) X.A X.env xe → PSs (X.tr pn xe) body (tb W)) :
    PS X (.Try body (h1 :: hs) [] [] pos) (fun D σ H => tb (wClas X.K W0 D ks) D σ H) := by
  refine ⟨fun pins s σ H D I q0 => ?_⟩
  have ok := I.ok
  have frames : X.A.frames = some (X.env :: X.outer) := ok.frames.trans (by rw [top])
  let xe1 : Value → Shared → Prop := fun e s1 => wpAny (model X.prog X.w) X.A (noteFrame e X.env) (fun _ s2 => wpAny (model X.prog X.w) X.A (setFlight e none) (fun _ s3 => wpAny (model X.prog X.w) X.A (handleBy e X.env (h1 :: hs)) (SP X pins D) X.xe s3) X.xe s2) X.xe s1
  have takes : Takes (X.tr (X.pn ++ pins) xe1) (wClas X.K W0 D ks) := by
    rintro u s' ⟨a, B, sI, pins', σ', H', cls, d, rfl, J', nb, up, sky, na, os, ag, w⟩
    have J : Inv X pins σ' H' sI := J'.ofTry ok
    have sky' : Sky B (X.env :: X.outer) a (Zc cls d) X.env.locals s'.heap := by rw [← top]; exact sky
    refine Sky.land Zc.steady frames fr sky' fun h3 fl3 up3 => ?_
    refine clauses_run top fr nd tk J na (fun h4 fl4 up4 => J.landed nb fl4.1 ((up.trans up3).trans up4) os ag) (fun w0 h4 held up4 => ?_) fl3 C w
    exact tk _ _ ⟨a, B, sI, pins, σ', H', cls, d, rfl, J, nb, (up.trans up3).trans up4, .inr (.inr (by rw [top]; exact held)), na, os, ag, w0⟩
  refine wpAny_Try_except (wpAny_mono ((hb _ (X.pn ++ pins) xe1 takes PassesOwn.looking).run [] s σ H D (I.toTry _) q0) ?_ fun e s1 he => he)
  rintro f s1 hsp
  cases f with
  | next =>
    obtain ⟨τ, G, J, q⟩ := hsp
    exact wpAny_execs_nil ⟨τ, G, J.ofTry ok, q⟩
  | ret u =>
    obtain ⟨v, τ, G, J, r, q⟩ := hsp
    exact ⟨v, τ, G, J.ofTry ok, r, q⟩
  | _ =>
    obtain ⟨τ, G, J, q⟩ := hsp
    exact ⟨τ, G, J.ofTry ok, q⟩
end
section
variable {X : Cx} {body : List Stmt} {pos : Pos} {tb : WX → TS} {W0 : WX} {x1 n1 x2 n2 x3 n3 : Str} {c1 c2 c3 : Value} {i1 i2 i3 : Nat} {b1 b2 b3 : Stmt} {r1 r2 r3 : List Stmt} {p1 p2 p3 q1 q2 q3 : Pos} {t1 t2 t3 : Addr → Value → Option Addr → TS}
theorem ps_try_as2 (top : X.stack = X.env :: X.outer) (fr : X.env.frame = some X.env.locals) (nd : X.N.Nodup) (a1 : X.N[i1]? = some n1) (a2 : X.N[i2]? = some n2) (l1 : X.env.kindOf n1 = some .local) (l2 : X.env.kindOf n2 = some .local) (m1 : Names X x1 c1) (m2 : Names X x2 c2) (tk : Takes X W0)
    (hb : ∀ (W : WX) (pn : List (Addr × Obj)) (xe : Value → Shared → Prop), Takes (X.tr pn xe) W → PassesOwn (model X.prog X.w) X.A X.env xe → PSs (X.tr pn xe) body (tb W))
    (s1 : ∀ (a : Addr) (oe : Obj) (cls : Value) (d : Option Addr) (pn : List (Addr × Obj)), Zc cls d oe → (∃ vs, oe.data = .fields vs) → PSs (X.suite a ((a, oe) :: pn)) (b1 :: r1) (t1 a cls d))
    (s2 : ∀ (a : Addr) (oe : Obj) (cls : Value) (d : Option Addr) (pn : List (Addr × Obj)), Zc cls d oe → (∃ vs, oe.data = .fields vs) → PSs (X.suite a ((a, oe) :: pn)) (b2 :: r2) (t2 a cls d)) :
    PS X (.Try body [.ExceptHandler (some (.Name x1 p1)) (some n1) (b1 :: r1) q1, .ExceptHandler (some (.Name x2 p2)) (some n2) (b2 :: r2) q2] [] [] pos) (fun D σ H => tb (wClas X.K W0 D [⟨c1, i1, t1⟩, ⟨c2, i2, t2⟩]) D σ H) :=
  ps_try_clauses top fr nd (.cons m1 a1 l1 s1 (.cons m2 a2 l2 s2 .nil)) tk hb
theorem ps_try_as3 (top : X.stack = X.env :: X.outer) (fr : X.env.frame = some X.env.locals) (nd : X.N.Nodup) (a1 : X.N[i1]? = some n1) (a2 : X.N[i2]? = some n2) (a3 : X.N[i3]? = some n3) (l1 : X.env.kindOf n1 = some .local) (l2 : X.env.kindOf n2 = some .local) (l3 : X.env.kindOf n3 = some .local)
    (m1 : Names X x1 c1) (m2 : Names X x2 c2) (m3 : Names X x3 c3) (tk : Takes X W0)
    (hb : ∀ (W : WX) (pn : List (Addr × Obj)) (xe : Value → Shared → Prop), Takes (X.tr pn xe) W → PassesOwn (model X.prog X.w) X.A X.env xe → PSs (X.tr pn xe) body (tb W))
    (s1 : ∀ (a : Addr) (oe : Obj) (cls : Value) (d : Option Addr) (pn : List (Addr × Obj)), Zc cls d oe → (∃ vs, oe.data = .fields vs) → PSs (X.suite a ((a, oe) :: pn)) (b1 :: r1) (t1 a cls d))
    (s2 : ∀ (a : Addr) (oe : Obj) (cls : Value) (d : Option Addr) (pn : List (Addr × Obj)), Zc cls d oe → (∃ vs, oe.data = .fields vs) → PSs (X.suite a ((a, oe) :: pn)) (b2 :: r2) (t2 a cls d))
    (s3 : ∀ (a : Addr) (oe : Obj) (cls : Value) (d : Option Addr) (pn : List (Addr × Obj)), Zc cls d oe → (∃ vs, oe.data = .fields vs) → PSs (X.suite a ((a, oe) :: pn)) (b3 :: r3) (t3 a cls d)) :
    PS X (.Try body [.ExceptHandler (some (.Name x1 p1)) (some n1) (b1 :: r1) q1, .ExceptHandler (some (.Name x2 p2)) (some n2) (b2 :: r2) q2, .ExceptHandler (some (.Name x3 p3)) (some n3) (b3 :: r3) q3] [] [] pos) (fun D σ H => tb (wClas X.K W0 D [⟨c1, i1, t1⟩, ⟨c2, i2, t2⟩, ⟨c3, i3, t3⟩]) D σ H) :=
  ps_try_clauses top fr nd (.cons m1 a1 l1 s1 (.cons m2 a2 l2 s2 (.cons m3 a3 l3 s3 .nil))) tk hb
end
end My

set_option Elab.async false
set_option linter.all false
set_option maxRecDepth 100000
set_option maxHeartbeats 4000000
/-! ### tuples that stand; rows of related things; small loops -/
namespace My
open PySem L2 NdefX
theorem len_app (x y : Str) : (x ++ y).length = x.length + y.length := Array.size_append
theorem take_snoc {α : Type} {l : List α} {i : Nat} {x : α} (h : l[i]? = some x) : l.take (i + 1) = l.take i ++ [x] := by
  rw [List.take_add_one, h]; rfl
/-- tuples stand as they did -/
def Tp (H H' : Hp) : Prop := ∀ a xs, H a = some (.tup xs) → H' a = some (.tup xs)
theorem Tp.refl (H : Hp) : Tp H H := fun _ _ h => h
theorem Tp.trans {H H1 H2 : Hp} (a : Tp H H1) (b : Tp H1 H2) : Tp H H2 := fun c xs h => b c xs (a c xs h)
theorem Kp.tps {H H' : Hp} (k : Kp [] H H') : Tp H H' := fun a xs h => k a _ not0 h
theorem Tp.putN {H H' : Hp} {l : Addr} {o : HO} (t : Tp H H') (h : ∀ xs, H' l ≠ some (.tup xs)) : Tp H (upd H' l o) := fun a xs e => by
  have z : a ≠ l := fun z => h xs (by rw [← z]; exact t a xs e)
  rw [upd_ne z]; exact t a xs e
theorem Tp.putL {H H' : Hp} {l : Addr} {o : HO} {ys : List V} (t : Tp H H') (h : H' l = some (.lst ys)) : Tp H (upd H' l o) := t.putN fun xs z => by rw [h] at z; cases z
theorem Tp.putI {H H' : Hp} {l C dx : Addr} {o : HO} {fs : List (Str × V)} (t : Tp H H') (h : H' l = some (.ins C dx fs)) : Tp H (upd H' l o) := t.putN fun xs z => by rw [h] at z; cases z
theorem Tp.new {H H' : Hp} {l : Addr} {o : HO} (t : Tp H H') (h : H' l = none) : Tp H (upd H' l o) := t.putN fun xs z => by rw [h] at z; cases z
theorem Kp.tpsI {H H' : Hp} {o C dx : Addr} {fs : List (Str × V)} (k : Kp [o] H H') (h : H o = some (.ins C dx fs)) : Tp H H' := fun a xs e => k a _ (not1 fun z => by rw [z, h] at e; cases e) e
theorem Kp.tpsL {H H' : Hp} {o : Addr} {ys : List V} (k : Kp [o] H H') (h : H o = some (.lst ys)) : Tp H H' := fun a xs e => k a _ (not1 fun z => by rw [z, h] at e; cases e) e
/-- one by one related -/
structure Rw {α : Type} (R : V → α → Prop) (us : List V) (gs : List α) : Prop where
  len : us.length = gs.length
  get : ∀ {i : Nat} {u : V}, us[i]? = some u → ∃ g, gs[i]? = some g ∧ R u g
theorem Rw.nil {α : Type} {R : V → α → Prop} : Rw R [] [] := ⟨rfl, fun e => nomatch e⟩
theorem Rw.mono {α : Type} {R R' : V → α → Prop} {us : List V} {gs : List α} (h : Rw R us gs) (f : ∀ u g, R u g → R' u g) : Rw R' us gs := ⟨h.len, fun e => by
  obtain ⟨g, a, b⟩ := h.get e
  exact ⟨g, a, f _ _ b⟩⟩
theorem Rw.at {α : Type} {R : V → α → Prop} {us : List V} {gs : List α} (h : Rw R us gs) {i : Nat} {g : α} (e : gs[i]? = some g) : ∃ u, us[i]? = some u ∧ R u g := by
  have il : i < us.length := by rw [h.len]; exact (List.getElem?_eq_some_iff.mp e).1
  obtain ⟨g', a, b⟩ := h.get (List.getElem?_eq_getElem il)
  rw [e] at a; cases a
  exact ⟨_, List.getElem?_eq_getElem il, b⟩
theorem Rw.cons {α : Type} {R : V → α → Prop} {us : List V} {gs : List α} {u : V} {g : α} (h : R u g) (t : Rw R us gs) : Rw R (u :: us) (g :: gs) := ⟨by simp [t.len], fun {i x} e => by
  cases i with
  | zero => cases e; exact ⟨g, rfl, h⟩
  | succ i => exact t.get (i := i) e⟩
theorem Rw.app {α : Type} {R : V → α → Prop} {us vs : List V} {gs hs : List α} (a : Rw R us gs) (b : Rw R vs hs) : Rw R (us ++ vs) (gs ++ hs) := ⟨by simp [a.len, b.len], fun {i x} e => by
  rcases Nat.lt_or_ge i us.length with z | z
  · rw [List.getElem?_append_left z] at e
    rw [List.getElem?_append_left (by rw [← a.len]; exact z)]
    exact a.get e
  · rw [List.getElem?_append_right z] at e
    rw [List.getElem?_append_right (by rw [← a.len]; exact z), ← a.len]
    exact b.get e⟩
theorem Rw.snoc {α : Type} {R : V → α → Prop} {us : List V} {gs : List α} {u : V} {g : α} (t : Rw R us gs) (h : R u g) : Rw R (us ++ [u]) (gs ++ [g]) := t.app (.cons h .nil)
theorem Rw.take {α : Type} {R : V → α → Prop} {us : List V} {gs : List α} (h : Rw R us gs) (n : Nat) : Rw R (us.take n) (gs.take n) := ⟨by simp [h.len], fun {i x} e => by
  rcases Nat.lt_or_ge i n with z | z
  · rw [List.getElem?_take_of_lt z] at e ⊢
    exact h.get e
  · rw [List.getElem?_take, if_neg (by omega)] at e; cases e⟩
theorem Rw.set {α : Type} {R : V → α → Prop} {us : List V} {gs : List α} {u : V} {g : α} (h : Rw R us gs) (n : Nat) (r : R u g) : Rw R (us.set n u) (gs.set n g) := ⟨by simp [h.len], fun {i x} e => by
  rcases Nat.decEq n i with z | z
  · rw [List.getElem?_set_ne z] at e ⊢
    exact h.get e
  · subst z
    have hl := (List.getElem?_eq_some_iff.mp e).1
    rw [List.length_set] at hl
    rw [List.getElem?_set_self hl] at e
    cases e
    exact ⟨g, by rw [List.getElem?_set_self (by rw [← h.len]; exact hl)], r⟩⟩
theorem Rw.tail {α : Type} {R : V → α → Prop} {u : V} {us : List V} {g : α} {gs : List α} (h : Rw R (u :: us) (g :: gs)) : R u g ∧ Rw R us gs := by
  obtain ⟨g', e, r⟩ := h.get (i := 0) rfl
  cases e
  exact ⟨r, by have := h.len; simpa using this, fun {i x} e => h.get (i := i + 1) e⟩
theorem Rw.isNil {α : Type} {R : V → α → Prop} {us : List V} (h : Rw R us ([] : List α)) : us = [] := List.eq_nil_of_length_eq_zero h.len
theorem Rw.ex {α : Type} {R : V → α → Prop} {us : List V} {g : α} {gs : List α} (h : Rw R us (g :: gs)) : ∃ u r, us = u :: r ∧ R u g ∧ Rw R r gs := by
  cases us with
  | nil => cases h.len
  | cons u r => exact ⟨u, r, rfl, h.tail⟩
theorem Rw.last {α : Type} {R : V → α → Prop} {us : List V} {gi : List α} {g : α} (h : Rw R us (gi ++ [g])) : ∃ ui u, us = ui ++ [u] ∧ Rw R ui gi ∧ R u g := by
  have e : (gi ++ [g])[gi.length]? = some g := by simp
  obtain ⟨u, eu, r⟩ := h.at e
  have hl : us.length = gi.length + 1 := by rw [h.len]; simp
  refine ⟨us.take gi.length, u, ?_, ?_, r⟩
  · rw [← take_snoc eu, List.take_of_length_le (by omega)]
  · have := h.take gi.length
    rw [List.take_left' rfl] at this
    exact this
theorem ixN_last {n : Nat} : ixN (n + 1) (-1) = some n := by
  unfold ixN
  rw [if_neg (by decide), if_pos (by omega)]
  congr 1
  omega
theorem seqIx {n : Nat} {i : Int} (h0 : 0 ≤ i) (h : i < n) : seqIndex? i n = some i.toNat := by
  have e : (if i < 0 then i + (n : Int) else i) = i := if_neg (by omega)
  unfold seqIndex?
  simp only [e, h0, h, decide_true, Bool.and_true, if_true]
theorem perm_erase : ∀ (l : List Int) (k : Nat) (h : k < l.length), (l[k] :: l.eraseIdx k).Perm l
  | [], k, h => absurd h (Nat.not_lt_zero k)
  | a :: r, 0, h => List.Perm.refl _
  | a :: r, k + 1, h => by
    have h' : k < r.length := by simpa using h
    show (r[k] :: a :: r.eraseIdx k).Perm (a :: r)
    exact (List.Perm.swap a r[k] _).trans ((perm_erase r k h').cons a)
/-- v is a tracked tuple of the ints xs -/
def TI (H : Hp) (v : V) (xs : List Int) : Prop := ∃ a, v = .ref a ∧ H a = some (.tup (xs.map V.int))
theorem TI.tp {H H' : Hp} {v : V} {xs : List Int} (h : TI H v xs) (t : Tp H H') : TI H' v xs := by
  obtain ⟨a, e, h⟩ := h
  exact ⟨a, e, t _ _ h⟩
theorem TI.kp {H H' : Hp} {v : V} {xs : List Int} (h : TI H v xs) (t : Kp [] H H') : TI H' v xs := h.tp t.tps
theorem TI.dp {K : PySem.W.Frag} {H : Hp} {v : V} {xs : List Int} (h : TI H v xs) : Dp K H v (.tuple (xs.map PyData.int)) := by
  obtain ⟨a, rfl, h⟩ := h
  refine .tup (sq_t h) ?_
  clear h
  induction xs with
  | nil => exact .nil
  | cons x r ih => exact .cons (.int x) ih
theorem map_get {α : Type} {f : Int → α} {xs : List Int} {i : Nat} {x : α} (h : (xs.map f)[i]? = some x) : ∃ k, xs[i]? = some k ∧ x = f k := by
  rw [List.getElem?_map] at h
  cases e : xs[i]? with
  | none => rw [e] at h; cases h
  | some k => rw [e] at h; cases h; exact ⟨k, rfl, rfl⟩
theorem rwInts (xs : List Int) : Rw (fun v x => v = V.int x) (xs.map V.int) xs := ⟨by simp, fun e => by
  obtain ⟨k, e, h⟩ := map_get e
  exact ⟨k, e, h⟩⟩
theorem rwInts_eq {us : List V} {xs : List Int} (h : Rw (fun v x => v = V.int x) us xs) : us = xs.map V.int := by
  apply List.ext_getElem?
  intro i
  cases e : us[i]? with
  | none =>
    rw [List.getElem?_eq_none_iff] at e
    rw [List.getElem?_eq_none (by rw [List.length_map, ← h.len]; exact e)]
  | some u =>
    obtain ⟨x, ex, rfl⟩ := h.get e
    rw [List.getElem?_map, ex]; rfl
theorem inV_int {z : Int} : ∀ {ks : List Int}, inV (.int z) (ks.map V.int) = decide (z ∈ ks)
  | [] => rfl
  | k :: ks => by
    have e : inV (.int z) ((k :: ks).map V.int) = ((k == z) || inV (.int z) (ks.map V.int)) := rfl
    rw [e, inV_int (ks := ks)]
    by_cases h : k = z
    · rw [h, beq_self_eq_true, Bool.true_or, decide_eq_true List.mem_cons_self]
    · rw [beq_eq_false_iff_ne.mpr h, Bool.false_or]
      refine decide_eq_decide.mpr ⟨fun q => List.mem_cons_of_mem _ q, fun q => ?_⟩
      rcases List.mem_cons.mp q with q | q
      · exact absurd q.symm h
      · exact q
theorem flat_ints (ys : List Int) : (ys.map V.int).all flatV = true := by
  rw [List.all_map]
  exact List.all_eq_true.mpr fun _ _ => rfl
/-- int(x) -/
def rInt1 : List V → Hp → VK → Prop := fun xs H Q => (∃ i, xs = [V.int i] ∧ Q (V.int i) H) ∨ ∃ k, xs = [V.bl k] ∧ Q (V.int (if k = true then 1 else 0)) H
theorem rInt1_int {i : Int} {H : Hp} {Q : VK} : rInt1 [V.int i] H Q = Q (V.int i) H := by
  unfold rInt1
  simp
theorem rInt1_bl {k : Bool} {H : Hp} {Q : VK} : rInt1 [V.bl k] H Q = Q (V.int (if k = true then 1 else 0)) H := by
  unfold rInt1
  simp
theorem forRg {ta : TA} {g : TG} {tb : TS} {D : Ends} {σ : L2.St} {H : Hp} (m : Int) (Pv : Nat → L2.St → Hp → Prop) (ht : ∀ R : List V → Hp → Prop, R [.int m] H → ta σ H R) (h1 : -(2 ^ 62) ≤ m) (h2 : m < 2 ^ 62) (h0 : Pv 0 σ H)
    (step : ∀ j σ H, j < m.toNat → Pv j σ H → g (.int (0 + j)) σ H fun σ2 H2 => tb { D with nx := Pv (j + 1), ct := Pv (j + 1), bk := D.nx } σ2 H2) (fin : ∀ σ H, Pv m.toNat σ H → D.nx σ H) : tFor (iRng1 ta) g tb D σ H :=
  ht _ ⟨m, rfl, h1, h2, for_range Pv h0 step fin⟩
/-- .. by a count -/
theorem forN {ta : TA} {g : TG} {tb : TS} {D : Ends} {σ : L2.St} {H : Hp} (m : Nat) (hm : m ≤ 100000) (Pv : Nat → L2.St → Hp → Prop) (ht : ∀ R : List V → Hp → Prop, R [.int (m : Nat)] H → ta σ H R) (h0 : Pv 0 σ H)
    (step : ∀ j σ H, j < m → Pv j σ H → g (.int (j : Nat)) σ H fun σ2 H2 => tb { D with nx := Pv (j + 1), ct := Pv (j + 1), bk := D.nx } σ2 H2) (fin : ∀ σ H, Pv m σ H → D.nx σ H) : tFor (iRng1 ta) g tb D σ H :=
  forRg (m : Nat) Pv ht (by omega) (by omega) h0 (fun j σ H hj p => by rw [Int.zero_add]; exact step j σ H (by omega) p) fun σ H p => fin σ H (by rw [Int.toNat_natCast] at p; exact p)
theorem lcRgN {ta : TA} {g : TG} {tt : TT} {te : TE} {vs : List Nat} {σ : L2.St} {H : Hp} {Q : VK} (m : Nat) (hm : m ≤ 100000) (Pv : Addr → Nat → Hp → Prop) (ht : ∀ R : List V → Hp → Prop, R [.int (m : Nat)] H → ta σ H R) (h0 : ∀ o, H o = none → Pv o 0 (upd H o (.lst [])))
    (step : ∀ o i H', H o = none → i < m → Pv o i H' → g (.int (i : Nat)) (wipe σ vs) H' fun σ2 H2 => wipe σ2 vs = wipe σ vs ∧ tt σ2 H2 fun b H3 => if b = true then te σ2 H3 fun y H4 => ∃ acc, H4 o = some (.lst acc) ∧ acc.length < sizeLine ∧ Pv o (i + 1) (upd H4 o (.lst (acc ++ [y]))) else Pv o (i + 1) H3)
    (fin : ∀ o H', H o = none → Pv o m H' → Q (.ref o) H') : tLc (iRng1 ta) g tt te vs σ H Q :=
  ht _ ⟨(m : Nat), rfl, by omega, by omega, fun o no => lc_range (Pv o) (h0 o no) (fun i H' hi p => by rw [Int.zero_add]; exact step o i H' no (by omega) p) fun H' p => fin o H' no (by rw [Int.toNat_natCast] at p; exact p)⟩
/-- [f(k) for k in range(m)], each item told by its number -/
theorem lcRgF {α : Type} {ta : TA} {j : Nat} {te : TE} {σ : L2.St} {H : Hp} {Q : VK} (m : Nat) (hm : m ≤ 100000) (R : Hp → V → α → Prop) (f : Nat → α) (mono : ∀ H H' v x, Tp H H' → R H v x → R H' v x) (hj : j < σ.length) (ht : ∀ R : List V → Hp → Prop, R [.int (m : Nat)] H → ta σ H R)
    (body : ∀ (i : Nat) H' (Q' : VK), i < m → Kp [] H H' → (∀ v H2, R H2 v (f i) → Kp [] H' H2 → Q' v H2) → te ((wipe σ [j]).set j (some (.int (i : Nat)))) H' Q')
    (fin : ∀ o us H', H o = none → H' o = some (.lst us) → Rw (R H') us ((List.range m).map f) → Kp [] H H' → Q (.ref o) H') : tLc (iRng1 ta) (gName j) tYes te [j] σ H Q :=
  lcRgN m hm (fun o i H' => ∃ us, H' o = some (.lst us) ∧ Rw (R H') us ((List.range i).map f) ∧ Kp [] H H') ht (fun o no => ⟨[], upd_same, .nil, Kp.new no⟩) (fun o i H' no hi ⟨us, ho, hr, k⟩ => by
    refine ⟨by simp [wipe], ?_⟩
    simp only [tYes, if_true]
    refine body i H' _ hi k fun v H2 hv k2 => ?_
    have ho2 := k2 _ _ not0 ho
    have tp2 : Tp H' (upd H2 o (.lst (us ++ [v]))) := k2.tps.putL ho2
    have tp3 : Tp H2 (upd H2 o (.lst (us ++ [v]))) := (Tp.refl H2).putL ho2
    refine ⟨us, ho2, smallL (by have := hr.len; rw [this, List.length_map, List.length_range]; omega), us ++ [v], upd_same, ?_, (k.trans k2).wr no⟩
    rw [List.range_succ, List.map_append]
    exact (hr.mono fun u g r => mono _ _ _ _ tp2 r).snoc (mono _ _ _ _ tp3 hv)) fun o H' no ⟨us, ho, hr, k⟩ => fin o us H' no ho hr k
/-- [x for x in t if b(x)], t a tuple of ints -/
theorem lcFilt {K : PySem.W.Frag} {tv : TE} {j : Nat} {tt : TT} {te : TE} {σ : L2.St} {H : Hp} {Q : VK} {a : Addr} {xs : List Int} (b : Int → Bool) (hv : ∀ R : VK, R (.ref a) H → tv σ H R) (ha : SqT K H a (xs.map V.int)) (hl : xs.length ≤ 1000) (hj : j < σ.length)
    (test : ∀ x H' (R : Bool → Hp → Prop), x ∈ xs → Kp [] H H' → R (b x) H' → tt ((wipe σ [j]).set j (some (.int x))) H' R)
    (elt : ∀ x H' (R : VK), R (.int x) H' → te ((wipe σ [j]).set j (some (.int x))) H' R)
    (fin : ∀ D H', H D = none → H' D = some (.lst ((xs.filter b).map V.int)) → Kp [] H H' → Q (.ref D) H') :
    tLc (iTup K tv) (gName j) tt te [j] σ H Q := by
  unfold tLc iTup
  refine hv _ ⟨a, rfl, ⟨_, ha⟩, fun D nD => ?_⟩
  refine lc_tup (xs := xs.map V.int) (fun i H' => H' D = some (.lst (((xs.take i).filter b).map V.int)) ∧ Kp [] H H') ⟨upd_same, Kp.new nD⟩ (fun i H' _ h => h.2.tp not0 ha) (fun i x H' hx h => ?_) fun H' h => ?_
  · obtain ⟨k, ek, rfl⟩ := map_get hx
    obtain ⟨hD, kp⟩ := h
    refine ⟨by simp [wipe], ?_⟩
    refine test k H' _ (List.mem_of_getElem? ek) kp ?_
    cases hb : b k with
    | true =>
      rw [if_pos rfl]
      refine elt k H' _ ⟨_, hD, ?_, ?_, kp.wr nD⟩
      · rw [List.length_map]
        have := List.length_filter_le b (xs.take i)
        rw [List.length_take] at this
        exact smallL (by omega)
      · rw [upd_same, take_snoc ek, List.filter_append]
        simp [hb]
    | false =>
      rw [if_neg (by simp)]
      refine ⟨?_, kp⟩
      rw [take_snoc ek, List.filter_append]
      simpa [hb] using hD
  · obtain ⟨hD, kp⟩ := h
    rw [List.length_map, List.take_length] at hD
    exact fin D H' nD hD kp
/-- [f(x) for x in t], t a tuple -/
theorem lcMapT {α β : Type} {K : PySem.W.Frag} {tv : TE} {j : Nat} {te : TE} {σ : L2.St} {H : Hp} {Q : VK} {a : Addr} {us : List V} {gs : List α} {R : Hp → V → α → Prop} (mono : ∀ H H' v x, Tp H H' → R H v x → R H' v x) (f : α → β) (put : β → V) (hv : ∀ R : VK, R (.ref a) H → tv σ H R) (ha : SqT K H a us) (hr : Rw (R H) us gs) (hl : gs.length ≤ 1000) (hj : j < σ.length)
    (elt : ∀ v x H' (Q' : VK), x ∈ gs → R H' v x → Kp [] H H' → (∀ H2, Kp [] H' H2 → Q' (put (f x)) H2) → te ((wipe σ [j]).set j (some v)) H' Q')
    (fin : ∀ D H', H D = none → H' D = some (.lst (gs.map fun x => put (f x))) → Kp [] H H' → Q (.ref D) H') :
    tLc (iTup K tv) (gName j) tYes te [j] σ H Q := by
  unfold tLc iTup
  refine hv _ ⟨a, rfl, ⟨_, ha⟩, fun D nD => ?_⟩
  refine lc_tup (xs := us) (fun i H' => H' D = some (.lst ((gs.take i).map fun x => put (f x))) ∧ Kp [] H H') ⟨upd_same, Kp.new nD⟩ (fun i H' _ h => h.2.tp not0 ha) (fun i x H' hx h => ?_) fun H' h => ?_
  · obtain ⟨g, eg, hg⟩ := hr.get hx
    obtain ⟨hD, kp⟩ := h
    refine ⟨by simp [wipe], ?_⟩
    simp only [tYes, if_true]
    refine elt x g H' _ (List.mem_of_getElem? eg) (mono _ _ _ _ kp.tps hg) kp fun H2 k2 => ?_
    refine ⟨_, k2 _ _ not0 hD, ?_, ?_, (kp.trans k2).wr nD⟩
    · rw [List.length_map, List.length_take]; exact smallL (by omega)
    · rw [upd_same, take_snoc eg, List.map_append]; rfl
  · obtain ⟨hD, kp⟩ := h
    rw [hr.len, List.take_length] at hD
    exact fin D H' nD hD kp
/-- [f(x) for x in l], l a list -/
theorem lcMapL {α β : Type} {K : PySem.W.Frag} {tv : TE} {j : Nat} {te : TE} {σ : L2.St} {H : Hp} {Q : VK} {a : Addr} {us : List V} {gs : List α} {R : Hp → V → α → Prop} (mono : ∀ H H' v x, Tp H H' → R H v x → R H' v x) (f : α → β) (put : β → V) (hv : ∀ R : VK, R (.ref a) H → tv σ H R) (ha : SqL K H a us) (hr : Rw (R H) us gs) (hl : gs.length ≤ 1000) (hj : j < σ.length)
    (elt : ∀ v x H' (Q' : VK), x ∈ gs → R H' v x → Kp [] H H' → (∀ H2, Kp [] H' H2 → Q' (put (f x)) H2) → te ((wipe σ [j]).set j (some v)) H' Q')
    (fin : ∀ D H', H D = none → H' D = some (.lst (gs.map fun x => put (f x))) → Kp [] H H' → Q (.ref D) H') :
    tLc (iList K tv) (gName j) tYes te [j] σ H Q := by
  unfold tLc iList
  refine hv _ ⟨a, rfl, ⟨_, ha⟩, fun D nD => ?_⟩
  refine lc_list (xs := us) (fun i H' => H' D = some (.lst ((gs.take i).map fun x => put (f x))) ∧ Kp [] H H') ⟨upd_same, Kp.new nD⟩ (fun i H' _ h => h.2.ls not0 ha) (fun i x H' hx h => ?_) fun H' h => ?_
  · obtain ⟨g, eg, hg⟩ := hr.get hx
    obtain ⟨hD, kp⟩ := h
    refine ⟨by simp [wipe], ?_⟩
    simp only [tYes, if_true]
    refine elt x g H' _ (List.mem_of_getElem? eg) (mono _ _ _ _ kp.tps hg) kp fun H2 k2 => ?_
    refine ⟨_, k2 _ _ not0 hD, ?_, ?_, (kp.trans k2).wr nD⟩
    · rw [List.length_map, List.length_take]; exact smallL (by omega)
    · rw [upd_same, take_snoc eg, List.map_append]; rfl
  · obtain ⟨hD, kp⟩ := h
    rw [hr.len, List.take_length] at hD
    exact fin D H' nD hD kp
/-- [f(x) for x in t], t a list; the results related -/
theorem lcRelL {α β : Type} {K : PySem.W.Frag} {tv : TE} {j : Nat} {te : TE} {σ : L2.St} {H : Hp} {Q : VK} {a : Addr} {us : List V} {gs : List α} {R : Hp → V → α → Prop} {R2 : Hp → V → β → Prop} (mono : ∀ H H' v x, Tp H H' → R H v x → R H' v x) (mono2 : ∀ H H' v x, Tp H H' → R2 H v x → R2 H' v x) (f : α → β) (hv : ∀ R : VK, R (.ref a) H → tv σ H R) (ha : SqL K H a us) (hr : Rw (R H) us gs) (hl : gs.length ≤ 1000) (hj : j < σ.length)
    (elt : ∀ v x H' (Q' : VK), x ∈ gs → R H' v x → Kp [] H H' → (∀ v' H2, R2 H2 v' (f x) → Kp [] H' H2 → Q' v' H2) → te ((wipe σ [j]).set j (some v)) H' Q')
    (fin : ∀ D ws H', H D = none → H' D = some (.lst ws) → Rw (R2 H') ws (gs.map f) → Kp [] H H' → Q (.ref D) H') :
    tLc (iList K tv) (gName j) tYes te [j] σ H Q := by
  unfold tLc iList
  refine hv _ ⟨a, rfl, ⟨_, ha⟩, fun D nD => ?_⟩
  refine lc_list (xs := us) (fun i H' => ∃ ws, H' D = some (.lst ws) ∧ Rw (R2 H') ws ((gs.take i).map f) ∧ Kp [] H H') ⟨[], upd_same, .nil, Kp.new nD⟩ (fun i H' _ h => by obtain ⟨_, _, _, k⟩ := h; exact k.ls not0 ha) (fun i x H' hx h => ?_) fun H' h => ?_
  · obtain ⟨g, eg, hg⟩ := hr.get hx
    obtain ⟨ws, hD, hw, kp⟩ := h
    refine ⟨by simp [wipe], ?_⟩
    simp only [tYes, if_true]
    refine elt x g H' _ (List.mem_of_getElem? eg) (mono _ _ _ _ kp.tps hg) kp fun v' H2 h2 k2 => ?_
    have hD2 := k2 _ _ not0 hD
    refine ⟨_, hD2, ?_, ws ++ [v'], upd_same, ?_, (kp.trans k2).wr nD⟩
    · rw [hw.len, List.length_map, List.length_take]; exact smallL (by omega)
    · rw [take_snoc eg, List.map_append]
      exact (hw.mono fun u g r => mono2 _ _ _ _ (k2.tps.putL hD2) r).snoc (mono2 _ _ _ _ ((Tp.refl H2).putL hD2) h2)
  · obtain ⟨ws, hD, hw, kp⟩ := h
    rw [hr.len, List.take_length] at hw
    exact fin D ws H' nD hD hw kp
theorem lc_src {K : PySem.W.Frag} {tv : TE} {g : TG} {tt : TT} {te : TE} {vs : List Nat} {σ : L2.St} {H : Hp} {Q : VK} (h : tv σ H fun v H1 => tLc (iList K (tC v)) g tt te vs σ H1 Q) : tLc (iList K tv) g tt te vs σ H Q := h
theorem lc_srcT {K : PySem.W.Frag} {tv : TE} {g : TG} {tt : TT} {te : TE} {vs : List Nat} {σ : L2.St} {H : Hp} {Q : VK} (h : tv σ H fun v H1 => tLc (iTup K (tC v)) g tt te vs σ H1 Q) : tLc (iTup K tv) g tt te vs σ H Q := h
def rTupOf (K : PySem.W.Frag) : List V → Hp → VK → Prop := fun xs H Q => ∃ p ys, xs = [V.ref p] ∧ ((SqL K H p ys ∧ ∀ l, H l = none → Q (.ref l) (upd H l (.tup ys))) ∨ (SqT K H p ys ∧ Q (.ref p) H))
theorem TI.make {H : Hp} {s : Addr} {xs : List Int} : TI (upd H s (.tup (xs.map V.int))) (.ref s) xs := ⟨s, rfl, upd_same⟩
/-- [k for k in range(m) if b(k)] -/
theorem lcRgFilt {ta : TA} {j : Nat} {tt : TT} {te : TE} {σ : L2.St} {H : Hp} {Q : VK} (m : Nat) (hm : m ≤ 1000) (b : Int → Bool) (hj : j < σ.length) (ht : ∀ R : List V → Hp → Prop, R [.int (m : Nat)] H → ta σ H R)
    (test : ∀ (i : Nat) H' (R : Bool → Hp → Prop), i < m → Kp [] H H' → (∀ H2, Kp [] H' H2 → R (b i) H2) → tt ((wipe σ [j]).set j (some (.int (i : Nat)))) H' R)
    (elt : ∀ (i : Nat) H' (R : VK), R (.int (i : Nat)) H' → te ((wipe σ [j]).set j (some (.int (i : Nat)))) H' R)
    (fin : ∀ D H', H D = none → H' D = some (.lst ((((List.range m).map fun i => ((i : Nat) : Int)).filter b).map V.int)) → Kp [] H H' → Q (.ref D) H') :
    tLc (iRng1 ta) (gName j) tt te [j] σ H Q :=
  lcRgN m (by omega) (fun o i H' => H' o = some (.lst ((((List.range i).map fun i => ((i : Nat) : Int)).filter b).map V.int)) ∧ Kp [] H H') ht (fun o no => ⟨upd_same, Kp.new no⟩) (fun o i H' no hi ⟨hD, kp⟩ => by
    refine ⟨by simp [wipe], ?_⟩
    refine test i H' _ hi kp fun H2 k2 => ?_
    have hD2 := k2 _ _ not0 hD
    cases hb : b i with
    | true =>
      rw [if_pos rfl]
      refine elt i H2 _ ⟨_, hD2, ?_, ?_, (kp.trans k2).wr no⟩
      · rw [List.length_map]
        have := List.length_filter_le b ((List.range i).map fun i => ((i : Nat) : Int))
        rw [List.length_map, List.length_range] at this
        exact smallL (by omega)
      · rw [upd_same, List.range_succ, List.map_append, List.filter_append]
        simp [hb]
    | false =>
      rw [if_neg (by simp)]
      refine ⟨?_, kp.trans k2⟩
      rw [List.range_succ, List.map_append, List.filter_append]
      simpa [hb] using hD2) fun o H' no ⟨hD, kp⟩ => fin o H' no hD kp
theorem forT_src {K : PySem.W.Frag} {te : TE} {g : TG} {tb : TS} {D : Ends} {σ : L2.St} {H : Hp} (h : te σ H fun v H1 => tFor (iTup K (tC v)) g tb D σ H1) : tFor (iTup K te) g tb D σ H := h
theorem forTC {K : PySem.W.Frag} {g : TG} {tb : TS} {D : Ends} {σ : L2.St} {H : Hp} {a : Addr} {xs : List V} (Pv : Nat → L2.St → Hp → Prop) (hS : SqT K H a xs) (h0 : Pv 0 σ H) (hl : ∀ j σ H, j ≤ xs.length → Pv j σ H → SqT K H a xs)
    (hs : ∀ j x σ H, xs[j]? = some x → Pv j σ H → g x σ H fun σ2 H2 => tb { D with nx := Pv (j + 1), ct := Pv (j + 1), bk := D.nx } σ2 H2) (hd : ∀ σ H, Pv xs.length σ H → D.nx σ H) : tFor (iTup K (tC (.ref a))) g tb D σ H :=
  ⟨a, rfl, ⟨xs, hS⟩, for_tup Pv h0 hl hs hd⟩
theorem forN2 {ta : TA} {g : TG} {tb : TS} {D : Ends} {σ : L2.St} {H : Hp} (lo m : Nat) (hlo : lo ≤ 1000) (hm : m ≤ 100000) (Pv : Nat → L2.St → Hp → Prop) (ht : ∀ R : List V → Hp → Prop, (∀ H1, Kp [] H H1 → R [.int (lo : Nat), .int (m : Nat)] H1) → ta σ H R) (h0 : ∀ H1, Kp [] H H1 → Pv 0 σ H1)
    (step : ∀ j σ H, lo + j < m → Pv j σ H → g (.int ((lo + j : Nat) : Int)) σ H fun σ2 H2 => tb { D with nx := Pv (j + 1), ct := Pv (j + 1), bk := D.nx } σ2 H2) (fin : ∀ σ H, Pv (m - lo) σ H → D.nx σ H) : tFor (iRng2 ta) g tb D σ H :=
  ht _ fun H1 k1 => ⟨(lo : Nat), (m : Nat), rfl, ⟨by omega, by omega, by omega, by omega⟩, for_range (lo := (lo : Nat)) (n := ((m : Int) - (lo : Nat)).toNat) Pv (h0 H1 k1) (fun j σ H hj p => by
    have e : ((lo : Nat) : Int) + (j : Nat) = ((lo + j : Nat) : Int) := by omega
    rw [e]
    exact step j σ H (by omega) p) fun σ H p => fin σ H (by
      have e : ((m : Int) - (lo : Nat)).toNat = m - lo := by omega
      rw [e] at p; exact p)⟩
/-- [e for k in range(m)], of each item a fact -/
theorem lcRgE {α : Type} {ta : TA} {j : Nat} {te : TE} {σ : L2.St} {H : Hp} {Q : VK} (m : Nat) (hm : m ≤ 100000) (R : Hp → V → α → Prop) (G : α → Prop) (mono : ∀ H H' v x, Tp H H' → R H v x → R H' v x) (hj : j < σ.length) (ht : ∀ R : List V → Hp → Prop, R [.int (m : Nat)] H → ta σ H R)
    (body : ∀ (i : Nat) H' (Q' : VK), i < m → Kp [] H H' → (∀ v g H2, R H2 v g → G g → Kp [] H' H2 → Q' v H2) → te ((wipe σ [j]).set j (some (.int (i : Nat)))) H' Q')
    (fin : ∀ o us gs H', H o = none → H' o = some (.lst us) → Rw (R H') us gs → gs.length = m → (∀ g ∈ gs, G g) → Kp [] H H' → Q (.ref o) H') : tLc (iRng1 ta) (gName j) tYes te [j] σ H Q :=
  lcRgN m hm (fun o i H' => ∃ us gs, H' o = some (.lst us) ∧ Rw (R H') us gs ∧ gs.length = i ∧ (∀ g ∈ gs, G g) ∧ Kp [] H H') ht (fun o no => ⟨[], [], upd_same, .nil, rfl, (fun g h => nomatch h), Kp.new no⟩) (fun o i H' no hi ⟨us, gs, ho, hr, gl, hg, k⟩ => by
    refine ⟨by simp [wipe], ?_⟩
    simp only [tYes, if_true]
    refine body i H' _ hi k fun v g H2 hv gg k2 => ?_
    have ho2 := k2 _ _ not0 ho
    refine ⟨us, ho2, smallL (by have := hr.len; omega), us ++ [v], gs ++ [g], upd_same, (hr.mono fun u g r => mono _ _ _ _ (k2.tps.putL ho2) r).snoc (mono _ _ _ _ ((Tp.refl H2).putL ho2) hv), by simp [gl], fun x hx => ?_, (k.trans k2).wr no⟩
    rcases List.mem_append.mp hx with hx | hx
    · exact hg x hx
    · rw [List.mem_singleton.mp hx]; exact gg) fun o H' no ⟨us, gs, ho, hr, gl, hg, k⟩ => fin o us gs H' no ho hr gl hg k
/-- a walk of a tuple that stands -/
theorem it_tup {K : PySem.W.Frag} {a : Addr} {xs : List V} {W0 : Hp → Prop} (Pv : Nat → Hp → Prop) {H : Hp} (h0 : Pv 0 H) {Nx : Hp → Prop} {Body : V → Hp → (Hp → Prop) → Prop} (hl : ∀ i H', Pv i H' → SqT K H' a xs)
    (step : ∀ i x H', xs[i]? = some x → Pv i H' → Body x H' (Pv (i + 1))) (fin : ∀ H', Pv xs.length H' → Nx H') : ∃ W : Nat → Nat → Hp → Prop, (∃ k, W 0 k H) ∧ ∀ i k H, W i k H →
  ((Itt K a).stop i H ∧ Nx H) ∨ ((Itt K a).go i H ∧ ∃ N2 : Hp → Prop, (∀ H', N2 H' → ∃ m', m' < k ∧ W (i + 1) m' H') ∧ ∀ x H', (Itt K a).yld i H x H' → Body x H' N2) := by
  refine ⟨fun i k H => k = xs.length - i ∧ i ≤ xs.length ∧ Pv i H, ⟨xs.length, rfl, Nat.zero_le _, h0⟩, ?_⟩
  rintro i k H ⟨rfl, hi, p⟩
  have q := hl i H p
  by_cases lt : i < xs.length
  · refine .inr ⟨⟨xs, xs[i], q, by simp [lt]⟩, Pv (i + 1), fun H' p' => ⟨xs.length - (i + 1), by omega, rfl, lt, p'⟩, fun x H' y => ?_⟩
    obtain ⟨e, y⟩ := y
    subst e
    exact step i x _ (y xs q) p
  · have e : i = xs.length := by omega
    subst e
    exact .inl ⟨⟨xs, q, Nat.le_refl _⟩, fin H p⟩
theorem flat_take {gs : List (List Int)} {i : Nat} {g : List Int} (e : gs[i]? = some g) : (gs.take (i + 1)).flatten = (gs.take i).flatten ++ g := by
  rw [take_snoc e, List.flatten_append, List.flatten_singleton]
theorem flat_le (gs : List (List Int)) (i : Nat) : (gs.take i).flatten.length ≤ gs.flatten.length := by
  have e : (gs.take i ++ gs.drop i).flatten.length = gs.flatten.length := by rw [List.take_append_drop]
  rw [List.flatten_append, List.length_append] at e
  omega
/-- [x for g in t for x in g], t a tuple of tuples of ints -/
theorem lcFlat {K : PySem.W.Frag} {tv : TE} {p q : Nat} {σ : L2.St} {H : Hp} {Q : VK} {a : Addr} {us : List V} {gs : List (List Int)} (hv : ∀ R : VK, R (.ref a) H → tv σ H R) (ha : SqT K H a us) (hr : Rw (TI H) us gs) (hl : gs.flatten.length ≤ 1000) (hp : p < σ.length) (hq : q < σ.length) (pq : p ≠ q)
    (fin : ∀ D H', H D = none → H' D = some (.lst (gs.flatten.map V.int)) → Kp [] H H' → Q (.ref D) H') :
    tLc2 (iTup K tv) (gName p) tYes (iTup K (tVar p)) (gName q) tYes (tVar q) [p, q] [q] σ H Q := by
  unfold tLc2 iTup
  refine hv _ ⟨a, rfl, ⟨_, ha⟩, fun D nD => ?_⟩
  have w1 : ∀ x, wipe ((wipe σ [p, q]).set p (some x)) [p, q] = wipe σ [p, q] := fun x => by
    apply List.ext_getElem?
    intro n
    simp only [wipe, List.getElem?_set, List.length_set]
    by_cases h1 : p = n <;> by_cases h2 : q = n <;> simp [h1, h2]
  refine it_tup (K := K) (a := a) (xs := us) (W0 := fun _ => True) (Body := fun x H' N => gName p x (wipe σ [p, q]) H' fun σ2 H2 => wipe σ2 [p, q] = wipe σ [p, q] ∧ tYes σ2 H2 fun b H3 => if b = true then tLcIn (iTup K (tVar p)) (gName q) tYes (tVar q) [q] D σ2 H3 N else N H3)
    (fun i H' => H' D = some (.lst ((gs.take i).flatten.map V.int)) ∧ Kp [] H H') ⟨upd_same, Kp.new nD⟩ (fun i H' h => h.2.tp not0 ha) (fun i x H' hx h => ?_) fun H' h => ?_
  · obtain ⟨g, eg, b, rfl, hb⟩ := hr.get hx
    obtain ⟨hD, kp⟩ := h
    refine ⟨w1 _, ?_⟩
    simp only [tYes, if_true]
    have hb' := kp _ _ not0 hb
    refine ⟨.ref b, ?_, b, rfl, ⟨_, sq_t hb'⟩, ?_⟩
    · show ((wipe σ [p, q]).set p (some (.ref b)))[p]? = _
      rw [List.getElem?_set_self (by rw [wipe_length]; exact hp)]
    have fl := flat_le gs (i + 1)
    rw [flat_take eg, List.length_append] at fl
    refine it_tup (K := K) (a := b) (xs := g.map V.int) (W0 := fun _ => True) (Body := fun x H' N => gName q x (wipe ((wipe σ [p, q]).set p (some (.ref b))) [q]) H' fun σ2 H2 => wipe σ2 [q] = wipe ((wipe σ [p, q]).set p (some (.ref b))) [q] ∧ tYes σ2 H2 fun b H3 => if b = true then tVar q σ2 H3 fun y H4 => ∃ acc, H4 D = some (.lst acc) ∧ acc.length < sizeLine ∧ N (upd H4 D (.lst (acc ++ [y]))) else N H3)
      (fun j H2 => H2 D = some (.lst (((gs.take i).flatten ++ g.take j).map V.int)) ∧ Kp [] H H2) ⟨by rw [List.take_zero, List.append_nil]; exact hD, kp⟩ (fun j H2 h => sq_t (h.2 _ _ not0 (by exact hb))) (fun j x H2 hx2 h => ?_) fun H2 h => ?_
    · obtain ⟨k, ek, rfl⟩ := map_get hx2
      obtain ⟨hD2, kp2⟩ := h
      refine ⟨by simp [wipe], ?_⟩
      simp only [if_true]
      refine ⟨.int k, ?_, _, hD2, ?_, ?_, kp2.wr nD⟩
      · rw [List.getElem?_set_self (by rw [wipe_length, List.length_set, wipe_length]; exact hq)]
      · rw [List.length_map, List.length_append, List.length_take]; exact smallL (by omega)
      · rw [upd_same, take_snoc ek]; simp
    · obtain ⟨hD2, kp2⟩ := h
      rw [List.length_map, List.take_length] at hD2
      exact ⟨by rw [flat_take eg]; exact hD2, kp2⟩
  · obtain ⟨hD, kp⟩ := h
    rw [hr.len, List.take_length] at hD
    exact fin D H' nD hD kp
/-- what stands of an own error with one field, and its __init__ -/
structure Er1 (P : Program) (w : World) (K : PySem.W.Frag) (mg : Str → Option Value) (base : Heap) (nm fld : Str) (C f : Addr) (fd : FuncData) (ps : List Str) (Pf : V → Prop) : Prop where
  k : mg nm = some (.ref C)
  ox : OexC K C
  ic : PySem.W.findIn K (.ref C) "__init__" = some (some (.ref f))
  ti : PySem.W.typeIn K (.ref f) = some (.type "function")
  b : Binds K fd ps []
  G : FnOk P w K mg base (L2.CX P w) 1 f fd ps (spErr1 C fld Pf)
theorem find_first {α : Type} {f : α → Bool} {l : List α} {i : Nat} {x : α} (e : l[i]? = some x) (hx : f x = true) (h : ∀ j y, j < i → l[j]? = some y → f y = false) : l.find? f = some x := by
  induction l generalizing i with
  | nil => cases e
  | cons a r ih =>
    cases i with
    | zero => cases e; rw [List.find?_cons, hx]
    | succ i =>
      rw [List.find?_cons, h 0 a (by omega) rfl]
      exact ih e fun j y hj ey => h (j + 1) y (by omega) ey
end My

set_option Elab.async false
set_option linter.all false
set_option maxRecDepth 100000
set_option maxHeartbeats 4000000
/-! ### list comprehensions over lists and tuples of related items, with a test -/
namespace My
open PySem L2
def WSrc (K : PySem.W.Frag) (wi : L2.TI) (σ : L2.St) (H : Hp) (a : Addr) (us : List V) : Prop := (SqL K H a us ∧ ∀ R, R (Itl K a) H → wi σ H R) ∨ (SqT K H a us ∧ ∀ R, R (Itt K a) H → wi σ H R)
section
variable {K : PySem.W.Frag} {tv : TE} {σ : L2.St} {H : Hp} {a : Addr} {us : List V}
theorem src_tup (hv : ∀ R : VK, R (.ref a) H → tv σ H R) (ha : SqT K H a us) : WSrc K (iTup K tv) σ H a us := .inr ⟨ha, fun R h => hv _ ⟨a, rfl, ⟨_, ha⟩, h⟩⟩
theorem src_list (hv : ∀ R : VK, R (.ref a) H → tv σ H R) (ha : SqL K H a us) : WSrc K (iList K tv) σ H a us := .inl ⟨ha, fun R h => hv _ ⟨a, rfl, ⟨_, ha⟩, h⟩⟩
theorem src_seq (hv : ∀ R : VK, R (.ref a) H → tv σ H R) (ha : SqAny K H a us) : WSrc K (iSeq K tv) σ H a us := by
  rcases ha with h | h
  · exact .inl ⟨h, fun R q => hv _ ⟨a, rfl, .inl ⟨⟨_, h⟩, q⟩⟩⟩
  · exact .inr ⟨h, fun R q => hv _ ⟨a, rfl, .inr ⟨⟨_, h⟩, q⟩⟩⟩
end
/-- [f(x) for x in s if b(x)], its items related; the target and the test as they are -/
theorem lcG {α β : Type} {K : PySem.W.Frag} {wi : L2.TI} {g : TG} {tt : TT} {te : TE} {vs : List Nat} {σ : L2.St} {H : Hp} {Q : VK} {a : Addr} {us : List V} {gs : List α} {R : Hp → V → α → Prop} {R2 : Hp → V → β → Prop} (mono : ∀ H H' v x, Tp H H' → R H v x → R H' v x) (mono2 : ∀ H H' v x, Tp H H' → R2 H v x → R2 H' v x) (b : α → Bool) (f : α → β)
    (hw : WSrc K wi σ H a us) (hr : Rw (R H) us gs) (hl : gs.length ≤ 1000)
    (turn : ∀ v x H' (N : V → Hp → Prop) (N0 : Hp → Prop), x ∈ gs → R H' v x → Kp [] H H' → (b x = true → ∀ u H2, R2 H2 u (f x) → Kp [] H' H2 → N u H2) → (b x = false → ∀ H2, Kp [] H' H2 → N0 H2) →
      g v (wipe σ vs) H' fun σ2 H2 => wipe σ2 vs = wipe σ vs ∧ tt σ2 H2 fun c H3 => if c = true then te σ2 H3 N else N0 H3)
    (fin : ∀ D us' H', H D = none → H' D = some (.lst us') → Rw (R2 H') us' ((gs.filter b).map f) → Kp [] H H' → Q (.ref D) H') : tLc wi g tt te vs σ H Q := by
  have st : ∀ D, H D = none → ∀ i v H', us[i]? = some v → (∃ us', H' D = some (.lst us') ∧ Rw (R2 H') us' (((gs.take i).filter b).map f) ∧ Kp [] H H') →
      g v (wipe σ vs) H' fun σ2 H2 => wipe σ2 vs = wipe σ vs ∧ tt σ2 H2 fun c H3 => if c = true then te σ2 H3 fun y H4 => ∃ acc, H4 D = some (.lst acc) ∧ acc.length < sizeLine ∧ (fun i H' => ∃ us', H' D = some (.lst us') ∧ Rw (R2 H') us' (((gs.take i).filter b).map f) ∧ Kp [] H H') (i + 1) (upd H4 D (.lst (acc ++ [y])))
        else (fun i H' => ∃ us', H' D = some (.lst us') ∧ Rw (R2 H') us' (((gs.take i).filter b).map f) ∧ Kp [] H H') (i + 1) H3 := by
    rintro D nD i v H' hx ⟨us', hD, hr', kp⟩
    obtain ⟨x, ex, hg⟩ := hr.get hx
    refine turn v x H' _ _ (List.mem_of_getElem? ex) (mono _ _ _ _ kp.tps hg) kp (fun hb u H2 hu k2 => ?_) fun hb H2 k2 => ?_
    · have hD2 := k2 _ _ not0 hD
      refine ⟨us', hD2, ?_, us' ++ [u], upd_same, ?_, (kp.trans k2).wr nD⟩
      · rw [hr'.len, List.length_map]
        have := List.length_filter_le b (gs.take i)
        rw [List.length_take] at this
        exact smallL (by omega)
      · have tp : Tp H2 (upd H2 D (.lst (us' ++ [u]))) := (Tp.refl _).putL hD2
        rw [take_snoc ex, List.filter_append, List.map_append]
        simp only [List.filter_cons, hb, List.filter_nil, if_true, List.map_cons, List.map_nil]
        exact (hr'.mono fun _ _ r => mono2 _ _ _ _ (k2.tps.trans tp) r).snoc (mono2 _ _ _ _ tp hu)
    · refine ⟨us', k2 _ _ not0 hD, ?_, kp.trans k2⟩
      rw [take_snoc ex, List.filter_append]
      simp only [List.filter_cons, hb, List.filter_nil, if_false, Bool.false_eq_true, List.append_nil]
      exact hr'.mono fun _ _ r => mono2 _ _ _ _ k2.tps r
  have hlen := hr.len
  rcases hw with ⟨ha, hw⟩ | ⟨ha, hw⟩
  · refine hw _ fun D nD => ?_
    refine lc_list (xs := us) (fun i H' => ∃ us', H' D = some (.lst us') ∧ Rw (R2 H') us' (((gs.take i).filter b).map f) ∧ Kp [] H H') ⟨[], upd_same, .nil, Kp.new nD⟩ (fun i H' _ h => by obtain ⟨_, _, _, k⟩ := h; exact k.ls not0 ha) (fun i x H' hx h => st D nD i x H' hx h) fun H' h => ?_
    obtain ⟨us', hD, hr', kp⟩ := h
    rw [hlen, List.take_length] at hr'
    exact fin D us' H' nD hD hr' kp
  · refine hw _ fun D nD => ?_
    refine lc_tup (xs := us) (fun i H' => ∃ us', H' D = some (.lst us') ∧ Rw (R2 H') us' (((gs.take i).filter b).map f) ∧ Kp [] H H') ⟨[], upd_same, .nil, Kp.new nD⟩ (fun i H' _ h => by obtain ⟨_, _, _, k⟩ := h; exact k.tp not0 ha) (fun i x H' hx h => st D nD i x H' hx h) fun H' h => ?_
    obtain ⟨us', hD, hr', kp⟩ := h
    rw [hlen, List.take_length] at hr'
    exact fin D us' H' nD hD hr' kp
theorem it_listB {K : PySem.W.Frag} {a : Addr} {xs : List V} (Pv : Nat → Hp → Prop) {H : Hp} (h0 : Pv 0 H) {Nx : Hp → Prop} {Body : V → Hp → (Hp → Prop) → Prop} (hl : ∀ i H', Pv i H' → SqL K H' a xs)
    (step : ∀ i x H', xs[i]? = some x → Pv i H' → Body x H' (Pv (i + 1))) (fin : ∀ H', Pv xs.length H' → Nx H') : ∃ W : Nat → Nat → Hp → Prop, (∃ k, W 0 k H) ∧ ∀ i k H, W i k H →
      ((Itl K a).stop i H ∧ Nx H) ∨ ((Itl K a).go i H ∧ ∃ N2 : Hp → Prop, (∀ H', N2 H' → ∃ m', m' < k ∧ W (i + 1) m' H') ∧ ∀ x H', (Itl K a).yld i H x H' → Body x H' N2) := by
  refine ⟨fun i m H => m = xs.length - i ∧ i ≤ xs.length ∧ Pv i H, ⟨xs.length, by simp, Nat.zero_le _, h0⟩, ?_⟩
  rintro i m H ⟨rfl, hi, p⟩
  have q := hl i H p
  by_cases hlt : i < xs.length
  · refine .inr ⟨⟨xs, xs[i], q, by simp [hlt]⟩, Pv (i + 1), fun H' p' => ⟨xs.length - (i + 1), by omega, rfl, hlt, p'⟩, fun x H' y => ?_⟩
    obtain ⟨e, y⟩ := y
    subst e
    exact step i x _ (y xs q) p
  · have e : i = xs.length := by omega
    subst e
    exact .inl ⟨⟨xs, q, Nat.le_refl _⟩, fin H p⟩
theorem it_tupB {K : PySem.W.Frag} {a : Addr} {xs : List V} (Pv : Nat → Hp → Prop) {H : Hp} (h0 : Pv 0 H) {Nx : Hp → Prop} {Body : V → Hp → (Hp → Prop) → Prop} (hl : ∀ i H', Pv i H' → SqT K H' a xs)
    (step : ∀ i x H', xs[i]? = some x → Pv i H' → Body x H' (Pv (i + 1))) (fin : ∀ H', Pv xs.length H' → Nx H') : ∃ W : Nat → Nat → Hp → Prop, (∃ k, W 0 k H) ∧ ∀ i k H, W i k H →
      ((Itt K a).stop i H ∧ Nx H) ∨ ((Itt K a).go i H ∧ ∃ N2 : Hp → Prop, (∀ H', N2 H' → ∃ m', m' < k ∧ W (i + 1) m' H') ∧ ∀ x H', (Itt K a).yld i H x H' → Body x H' N2) := by
  refine ⟨fun i m H => m = xs.length - i ∧ i ≤ xs.length ∧ Pv i H, ⟨xs.length, by simp, Nat.zero_le _, h0⟩, ?_⟩
  rintro i m H ⟨rfl, hi, p⟩
  have q := hl i H p
  by_cases hlt : i < xs.length
  · refine .inr ⟨⟨xs, xs[i], q, by simp [hlt]⟩, Pv (i + 1), fun H' p' => ⟨xs.length - (i + 1), by omega, rfl, hlt, p'⟩, fun x H' y => ?_⟩
    obtain ⟨e, y⟩ := y
    subst e
    exact step i x _ (y xs q) p
  · have e : i = xs.length := by omega
    subst e
    exact .inl ⟨⟨xs, q, Nat.le_refl _⟩, fin H p⟩
/-- a source that stands while things are made, behind H2 -/
def WSrc2 (K : PySem.W.Frag) (wi : L2.TI) (σ : L2.St) (H H2 : Hp) (a : Addr) (us : List V) : Prop := ((∀ H3, Kp [] H H3 → Tp H2 H3 → SqL K H3 a us) ∧ ∀ R, R (Itl K a) H2 → wi σ H2 R) ∨ ((∀ H3, Kp [] H H3 → Tp H2 H3 → SqT K H3 a us) ∧ ∀ R, R (Itt K a) H2 → wi σ H2 R)
theorem src2_seq {K : PySem.W.Frag} {tv : TE} {σ : L2.St} {H H2 : Hp} {a : Addr} {us : List V} (k : Kp [] H H2) (hv : ∀ R : VK, R (.ref a) H2 → tv σ H2 R) (ha : SqAny K H a us) : WSrc2 K (iSeq K tv) σ H H2 a us := by
  rcases ha with h | h
  · exact .inl ⟨fun H3 k3 _ => k3.ls not0 h, fun R q => hv _ ⟨a, rfl, .inl ⟨⟨_, k.ls not0 h⟩, q⟩⟩⟩
  · exact .inr ⟨fun H3 k3 _ => k3.tp not0 h, fun R q => hv _ ⟨a, rfl, .inr ⟨⟨_, k.tp not0 h⟩, q⟩⟩⟩
/-- [f(x, y) for x in s for y in t(x) if b(x, y)] -/
theorem lc2G {α β γ : Type} {K : PySem.W.Frag} {wi1 wi2 : L2.TI} {g1 g2 : TG} {tt2 : TT} {te : TE} {vs vs2 : List Nat} {σ : L2.St} {H : Hp} {Q : VK} {a : Addr} {us : List V} {gs : List α} {R : Hp → V → α → Prop} {S : Hp → V → γ → Prop} {R2 : Hp → V → β → Prop} (mono : ∀ H H' v x, Tp H H' → R H v x → R H' v x) (monoS : ∀ H H' v x, Tp H H' → S H v x → S H' v x) (mono2 : ∀ H H' v x, Tp H H' → R2 H v x → R2 H' v x)
    (ys : α → List γ) (b : α → γ → Bool) (f : α → γ → β)
    (hw : WSrc K wi1 σ H a us) (hr : Rw (R H) us gs) (hl : (gs.flatMap ys).length ≤ 1000)
    (outer : ∀ v x H' (M : L2.St → Hp → Prop), x ∈ gs → R H' v x → Kp [] H H' → (∀ σ2 H2, wipe σ2 vs = wipe σ vs → Kp [] H' H2 → (∃ a2 us2, WSrc2 K wi2 σ2 H H2 a2 us2 ∧ Rw (S H2) us2 (ys x)) →
      (∀ u y H3 (N : V → Hp → Prop) (N0 : Hp → Prop), y ∈ ys x → S H3 u y → Kp [] H H3 → Tp H2 H3 → (b x y = true → ∀ w H4, R2 H4 w (f x y) → Kp [] H3 H4 → N w H4) → (b x y = false → ∀ H4, Kp [] H3 H4 → N0 H4) →
        g2 u (wipe σ2 vs2) H3 fun σ3 H4 => wipe σ3 vs2 = wipe σ2 vs2 ∧ tt2 σ3 H4 fun c H5 => if c = true then te σ3 H5 N else N0 H5) → M σ2 H2) → g1 v (wipe σ vs) H' M)
    (fin : ∀ D us' H', H D = none → H' D = some (.lst us') → Rw (R2 H') us' (gs.flatMap fun x => ((ys x).filter (b x)).map (f x)) → Kp [] H H' → Q (.ref D) H') : tLc2 wi1 g1 tYes wi2 g2 tt2 te vs vs2 σ H Q := by
  generalize hFl : (fun i : Nat => (gs.take i).flatMap fun x => ((ys x).filter (b x)).map (f x)) = Fl
  have Flen : ∀ i, (Fl i).length ≤ ((gs.take i).flatMap ys).length := fun i => by
    rw [← hFl]
    show ((gs.take i).flatMap _).length ≤ _
    generalize gs.take i = l
    induction l with
    | nil => simp
    | cons x r ih =>
      rw [List.flatMap_cons, List.flatMap_cons, List.length_append, List.length_append, List.length_map]
      have := List.length_filter_le (b x) (ys x)
      omega
  have Tlen : ∀ i, ((gs.take i).flatMap ys).length ≤ (gs.flatMap ys).length := fun i => by
    conv => rhs; rw [← List.take_append_drop i gs, List.flatMap_append, List.length_append]
    omega
  have st : ∀ D, H D = none → ∀ i v H', us[i]? = some v → (∃ us', H' D = some (.lst us') ∧ Rw (R2 H') us' (Fl i) ∧ Kp [] H H') →
      g1 v (wipe σ vs) H' fun σ2 H2 => wipe σ2 vs = wipe σ vs ∧ tYes σ2 H2 fun c H3 => if c = true then tLcIn wi2 g2 tt2 te vs2 D σ2 H3 (fun H' => ∃ us', H' D = some (.lst us') ∧ Rw (R2 H') us' (Fl (i + 1)) ∧ Kp [] H H') else (fun H' => ∃ us', H' D = some (.lst us') ∧ Rw (R2 H') us' (Fl (i + 1)) ∧ Kp [] H H') H3 := by
    rintro D nD i v H' hx ⟨us', hD, hr', kp⟩
    obtain ⟨x, ex, hg⟩ := hr.get hx
    have eF : Fl (i + 1) = Fl i ++ ((ys x).filter (b x)).map (f x) := by
      rw [← hFl]
      show (gs.take (i + 1)).flatMap _ = _
      rw [take_snoc ex, List.flatMap_append]
      simp
    have lF : (Fl i).length + (ys x).length ≤ 1000 := by
      have h1 := Flen i
      have h2 : ((gs.take (i + 1)).flatMap ys).length = ((gs.take i).flatMap ys).length + (ys x).length := by
        rw [take_snoc ex, List.flatMap_append, List.length_append]
        simp
      have h3 := Tlen (i + 1)
      omega
    refine outer v x H' _ (List.mem_of_getElem? ex) (mono _ _ _ _ kp.tps hg) kp fun σ2 H2 hσ k2 ⟨a2, us2, hw2, hr2⟩ turn => ⟨hσ, ?_⟩
    simp only [tYes, if_true]
    have hP0 : ∃ us', H2 D = some (.lst us') ∧ Rw (R2 H2) us' (Fl i ++ (((ys x).take 0).filter (b x)).map (f x)) ∧ Kp [] H H2 ∧ Tp H2 H2 := ⟨us', k2 _ _ not0 hD, by
      rw [List.take_zero, List.filter_nil, List.map_nil, List.append_nil]
      exact hr'.mono fun _ _ r => mono2 _ _ _ _ k2.tps r, kp.trans k2, Tp.refl _⟩
    have hlen2 := hr2.len
    have inner : ∀ j u H3, us2[j]? = some u → (∃ us', H3 D = some (.lst us') ∧ Rw (R2 H3) us' (Fl i ++ (((ys x).take j).filter (b x)).map (f x)) ∧ Kp [] H H3 ∧ Tp H2 H3) →
        g2 u (wipe σ2 vs2) H3 fun σ3 H4 => wipe σ3 vs2 = wipe σ2 vs2 ∧ tt2 σ3 H4 fun c H5 => if c = true then te σ3 H5 fun y H6 => ∃ acc, H6 D = some (.lst acc) ∧ acc.length < sizeLine ∧ (fun H3 => ∃ us', H3 D = some (.lst us') ∧ Rw (R2 H3) us' (Fl i ++ (((ys x).take (j + 1)).filter (b x)).map (f x)) ∧ Kp [] H H3 ∧ Tp H2 H3) (upd H6 D (.lst (acc ++ [y])))
          else (fun H3 => ∃ us', H3 D = some (.lst us') ∧ Rw (R2 H3) us' (Fl i ++ (((ys x).take (j + 1)).filter (b x)).map (f x)) ∧ Kp [] H H3 ∧ Tp H2 H3) H5 := by
      rintro j u H3 hu ⟨us3, hD3, hr3, k3, t3⟩
      obtain ⟨y, ey, hy⟩ := hr2.get hu
      refine turn u y H3 _ _ (List.mem_of_getElem? ey) (monoS _ _ _ _ t3 hy) k3 t3 (fun hb w H4 hw4 k4 => ?_) fun hb H4 k4 => ?_
      · have hD4 := k4 _ _ not0 hD3
        have tp : Tp H4 (upd H4 D (.lst (us3 ++ [w]))) := (Tp.refl _).putL hD4
        refine ⟨us3, hD4, ?_, us3 ++ [w], upd_same, ?_, (k3.trans k4).wr nD, (t3.trans k4.tps).trans tp⟩
        · rw [hr3.len, List.length_append, List.length_map]
          have h1 := List.length_filter_le (b x) ((ys x).take j)
          rw [List.length_take] at h1
          exact smallL (by omega)
        · rw [take_snoc ey, List.filter_append, List.map_append, ← List.append_assoc]
          simp only [List.filter_cons, hb, List.filter_nil, if_true, List.map_cons, List.map_nil]
          exact (hr3.mono fun _ _ r => mono2 _ _ _ _ (k4.tps.trans tp) r).snoc (mono2 _ _ _ _ tp hw4)
      · refine ⟨us3, k4 _ _ not0 hD3, ?_, k3.trans k4, t3.trans k4.tps⟩
        rw [take_snoc ey, List.filter_append]
        simp only [List.filter_cons, hb, List.filter_nil, if_false, Bool.false_eq_true, List.append_nil]
        exact hr3.mono fun _ _ r => mono2 _ _ _ _ k4.tps r
    have ends : ∀ H3, (∃ us', H3 D = some (.lst us') ∧ Rw (R2 H3) us' (Fl i ++ (((ys x).take us2.length).filter (b x)).map (f x)) ∧ Kp [] H H3 ∧ Tp H2 H3) → ∃ us', H3 D = some (.lst us') ∧ Rw (R2 H3) us' (Fl (i + 1)) ∧ Kp [] H H3 := by
      rintro H3 ⟨us3, hD3, hr3, k3, _⟩
      rw [hlen2, List.take_length, ← eF] at hr3
      exact ⟨us3, hD3, hr3, k3⟩
    rcases hw2 with ⟨ha2, hw2⟩ | ⟨ha2, hw2⟩
    · exact hw2 _ (it_listB (xs := us2) (fun j H3 => ∃ us', H3 D = some (.lst us') ∧ Rw (R2 H3) us' (Fl i ++ (((ys x).take j).filter (b x)).map (f x)) ∧ Kp [] H H3 ∧ Tp H2 H3) hP0 (fun j H3 h => by obtain ⟨_, _, _, k, t⟩ := h; exact ha2 H3 k t) (fun j u H3 hu h => inner j u H3 hu h) ends)
    · exact hw2 _ (it_tupB (xs := us2) (fun j H3 => ∃ us', H3 D = some (.lst us') ∧ Rw (R2 H3) us' (Fl i ++ (((ys x).take j).filter (b x)).map (f x)) ∧ Kp [] H H3 ∧ Tp H2 H3) hP0 (fun j H3 h => by obtain ⟨_, _, _, k, t⟩ := h; exact ha2 H3 k t) (fun j u H3 hu h => inner j u H3 hu h) ends)
  have hlen := hr.len
  have begin0 : ∀ D, H D = none → ∃ us', (upd H D (.lst [])) D = some (.lst us') ∧ Rw (R2 (upd H D (.lst []))) us' (Fl 0) ∧ Kp [] H (upd H D (.lst [])) := fun D nD => ⟨[], upd_same, by rw [← hFl]; exact .nil, Kp.new nD⟩
  have over : ∀ D, H D = none → ∀ H', (∃ us', H' D = some (.lst us') ∧ Rw (R2 H') us' (Fl us.length) ∧ Kp [] H H') → Q (.ref D) H' := by
    rintro D nD H' ⟨us', hD, hr', k⟩
    rw [← hFl] at hr'
    have hr' : Rw (R2 H') us' ((gs.take us.length).flatMap fun x => ((ys x).filter (b x)).map (f x)) := hr'
    rw [hlen, List.take_length] at hr'
    exact fin D us' H' nD hD hr' k
  rcases hw with ⟨ha, hw⟩ | ⟨ha, hw⟩
  · exact hw _ fun D nD => it_listB (xs := us) (fun i H' => ∃ us', H' D = some (.lst us') ∧ Rw (R2 H') us' (Fl i) ∧ Kp [] H H') (begin0 D nD) (fun i H' h => by obtain ⟨_, _, _, k⟩ := h; exact k.ls not0 ha) (fun i v H' hx h => st D nD i v H' hx h) (over D nD)
  · exact hw _ fun D nD => it_tupB (xs := us) (fun i H' => ∃ us', H' D = some (.lst us') ∧ Rw (R2 H') us' (Fl i) ∧ Kp [] H H') (begin0 D nD) (fun i H' h => by obtain ⟨_, _, _, k⟩ := h; exact k.tp not0 ha) (fun i v H' hx h => st D nD i v H' hx h) (over D nD)
theorem lc2_src {K : PySem.W.Frag} {tv : TE} {g1 g2 : TG} {tt1 tt2 : TT} {wi2 : L2.TI} {te : TE} {vs vs2 : List Nat} {σ : L2.St} {H : Hp} {Q : VK} (h : tv σ H fun v H1 => tLc2 (iList K (tC v)) g1 tt1 wi2 g2 tt2 te vs vs2 σ H1 Q) : tLc2 (iList K tv) g1 tt1 wi2 g2 tt2 te vs vs2 σ H Q := h
end My

set_option Elab.async false
set_option linter.all false
set_option maxRecDepth 100000
set_option maxHeartbeats 4000000
/-! ### comprehensions of two clauses, the second over a list made at each turn -/
namespace My
open PySem L2
/-- [f(x, y) for x in s for y in t(x) if b(x, y)], t(x) a list made at each turn -/
theorem lc2N {α β γ : Type} {K : PySem.W.Frag} {wi1 wi2 : L2.TI} {g1 g2 : TG} {tt2 : TT} {te : TE} {vs vs2 : List Nat} {σ : L2.St} {H : Hp} {Q : VK} {a : Addr} {us : List V} {gs : List α} {R : Hp → V → α → Prop} {S : Hp → V → γ → Prop} {R2 : Hp → V → β → Prop} (mono : ∀ H H' v x, Tp H H' → R H v x → R H' v x) (monoS : ∀ H H' v x, Tp H H' → S H v x → S H' v x) (mono2 : ∀ H H' v x, Tp H H' → R2 H v x → R2 H' v x)
    (ys : α → List γ) (b : α → γ → Bool) (f : α → γ → β)
    (hw : WSrc K wi1 σ H a us) (hr : Rw (R H) us gs) (hl : (gs.flatMap ys).length ≤ 1000)
    (outer : ∀ v x H' (M : L2.St → Hp → Prop), x ∈ gs → R H' v x → Kp [] H H' → (∀ σ2 H2, wipe σ2 vs = wipe σ vs → Kp [] H' H2 → (∀ R', (∀ a2 us2 H3, Kp [] H2 H3 → H2 a2 = none → H3 a2 = some (.lst us2) → Rw (S H3) us2 (ys x) → R' (Itl K a2) H3) → wi2 σ2 H2 R') →
      (∀ u y H3 (N : V → Hp → Prop) (N0 : Hp → Prop), y ∈ ys x → S H3 u y → Kp [] H H3 → Tp H2 H3 → (b x y = true → ∀ w H4, R2 H4 w (f x y) → Kp [] H3 H4 → N w H4) → (b x y = false → ∀ H4, Kp [] H3 H4 → N0 H4) →
        g2 u (wipe σ2 vs2) H3 fun σ3 H4 => wipe σ3 vs2 = wipe σ2 vs2 ∧ tt2 σ3 H4 fun c H5 => if c = true then te σ3 H5 N else N0 H5) → M σ2 H2) → g1 v (wipe σ vs) H' M)
    (fin : ∀ D us' H', H D = none → H' D = some (.lst us') → Rw (R2 H') us' (gs.flatMap fun x => ((ys x).filter (b x)).map (f x)) → Kp [] H H' → Q (.ref D) H') : tLc2 wi1 g1 tYes wi2 g2 tt2 te vs vs2 σ H Q := by
  generalize hFl : (fun i : Nat => (gs.take i).flatMap fun x => ((ys x).filter (b x)).map (f x)) = Fl
  have Flen : ∀ i, (Fl i).length ≤ ((gs.take i).flatMap ys).length := fun i => by
    rw [← hFl]
    show ((gs.take i).flatMap _).length ≤ _
    generalize gs.take i = l
    induction l with
    | nil => simp
    | cons x r ih =>
      rw [List.flatMap_cons, List.flatMap_cons, List.length_append, List.length_append, List.length_map]
      have := List.length_filter_le (b x) (ys x)
      omega
  have Tlen : ∀ i, ((gs.take i).flatMap ys).length ≤ (gs.flatMap ys).length := fun i => by
    conv => rhs; rw [← List.take_append_drop i gs, List.flatMap_append, List.length_append]
    omega
  have st : ∀ D, H D = none → ∀ i v H', us[i]? = some v → (∃ us', H' D = some (.lst us') ∧ Rw (R2 H') us' (Fl i) ∧ Kp [] H H') →
      g1 v (wipe σ vs) H' fun σ2 H2 => wipe σ2 vs = wipe σ vs ∧ tYes σ2 H2 fun c H3 => if c = true then tLcIn wi2 g2 tt2 te vs2 D σ2 H3 (fun H' => ∃ us', H' D = some (.lst us') ∧ Rw (R2 H') us' (Fl (i + 1)) ∧ Kp [] H H') else (fun H' => ∃ us', H' D = some (.lst us') ∧ Rw (R2 H') us' (Fl (i + 1)) ∧ Kp [] H H') H3 := by
    rintro D nD i v H' hx ⟨us', hD, hr', kp⟩
    obtain ⟨x, ex, hg⟩ := hr.get hx
    have eF : Fl (i + 1) = Fl i ++ ((ys x).filter (b x)).map (f x) := by
      rw [← hFl]
      show (gs.take (i + 1)).flatMap _ = _
      rw [take_snoc ex, List.flatMap_append]
      simp
    have lF : (Fl i).length + (ys x).length ≤ 1000 := by
      have h1 := Flen i
      have h2 : ((gs.take (i + 1)).flatMap ys).length = ((gs.take i).flatMap ys).length + (ys x).length := by
        rw [take_snoc ex, List.flatMap_append, List.length_append]
        simp
      have h3 := Tlen (i + 1)
      omega
    refine outer v x H' _ (List.mem_of_getElem? ex) (mono _ _ _ _ kp.tps hg) kp fun σ2 H0 hσ k20 hw2 turn => ⟨hσ, ?_⟩
    simp only [tYes, if_true]
    refine hw2 _ fun a2 us2 H2 k02 na2 ha2 hr2 => ?_
    have k2 := k20.trans k02
    have aD : a2 ≠ D := fun z => by rw [z, k20 _ _ not0 hD] at na2; cases na2
    have hP0 : ∃ us', H2 D = some (.lst us') ∧ Rw (R2 H2) us' (Fl i ++ (((ys x).take 0).filter (b x)).map (f x)) ∧ Kp [] H H2 ∧ Tp H2 H2 ∧ H2 a2 = some (.lst us2) := ⟨us', k2 _ _ not0 hD, by
      rw [List.take_zero, List.filter_nil, List.map_nil, List.append_nil]
      exact hr'.mono fun _ _ r => mono2 _ _ _ _ k2.tps r, kp.trans k2, Tp.refl _, ha2⟩
    have hlen2 := hr2.len
    have inner : ∀ j u H3, us2[j]? = some u → (∃ us', H3 D = some (.lst us') ∧ Rw (R2 H3) us' (Fl i ++ (((ys x).take j).filter (b x)).map (f x)) ∧ Kp [] H H3 ∧ Tp H2 H3 ∧ H3 a2 = some (.lst us2)) →
        g2 u (wipe σ2 vs2) H3 fun σ3 H4 => wipe σ3 vs2 = wipe σ2 vs2 ∧ tt2 σ3 H4 fun c H5 => if c = true then te σ3 H5 fun y H6 => ∃ acc, H6 D = some (.lst acc) ∧ acc.length < sizeLine ∧ (fun H3 => ∃ us', H3 D = some (.lst us') ∧ Rw (R2 H3) us' (Fl i ++ (((ys x).take (j + 1)).filter (b x)).map (f x)) ∧ Kp [] H H3 ∧ Tp H2 H3 ∧ H3 a2 = some (.lst us2)) (upd H6 D (.lst (acc ++ [y])))
          else (fun H3 => ∃ us', H3 D = some (.lst us') ∧ Rw (R2 H3) us' (Fl i ++ (((ys x).take (j + 1)).filter (b x)).map (f x)) ∧ Kp [] H H3 ∧ Tp H2 H3 ∧ H3 a2 = some (.lst us2)) H5 := by
      rintro j u H3 hu ⟨us3, hD3, hr3, k3, t3, a3⟩
      obtain ⟨y, ey, hy⟩ := hr2.get hu
      refine turn u y H3 _ _ (List.mem_of_getElem? ey) (monoS _ _ _ _ t3 hy) k3 (k02.tps.trans t3) (fun hb w H4 hw4 k4 => ?_) fun hb H4 k4 => ?_
      · have hD4 := k4 _ _ not0 hD3
        have tp : Tp H4 (upd H4 D (.lst (us3 ++ [w]))) := (Tp.refl _).putL hD4
        refine ⟨us3, hD4, ?_, us3 ++ [w], upd_same, ?_, (k3.trans k4).wr nD, (t3.trans k4.tps).trans tp, by rw [upd_ne aD]; exact k4 _ _ not0 a3⟩
        · rw [hr3.len, List.length_append, List.length_map]
          have h1 := List.length_filter_le (b x) ((ys x).take j)
          rw [List.length_take] at h1
          exact smallL (by omega)
        · rw [take_snoc ey, List.filter_append, List.map_append, ← List.append_assoc]
          simp only [List.filter_cons, hb, List.filter_nil, if_true, List.map_cons, List.map_nil]
          exact (hr3.mono fun _ _ r => mono2 _ _ _ _ (k4.tps.trans tp) r).snoc (mono2 _ _ _ _ tp hw4)
      · refine ⟨us3, k4 _ _ not0 hD3, ?_, k3.trans k4, t3.trans k4.tps, k4 _ _ not0 a3⟩
        rw [take_snoc ey, List.filter_append]
        simp only [List.filter_cons, hb, List.filter_nil, if_false, Bool.false_eq_true, List.append_nil]
        exact hr3.mono fun _ _ r => mono2 _ _ _ _ k4.tps r
    have ends : ∀ H3, (∃ us', H3 D = some (.lst us') ∧ Rw (R2 H3) us' (Fl i ++ (((ys x).take us2.length).filter (b x)).map (f x)) ∧ Kp [] H H3 ∧ Tp H2 H3 ∧ H3 a2 = some (.lst us2)) → ∃ us', H3 D = some (.lst us') ∧ Rw (R2 H3) us' (Fl (i + 1)) ∧ Kp [] H H3 := by
      rintro H3 ⟨us3, hD3, hr3, k3, _, _⟩
      rw [hlen2, List.take_length, ← eF] at hr3
      exact ⟨us3, hD3, hr3, k3⟩
    exact it_listB (xs := us2) (fun j H3 => ∃ us', H3 D = some (.lst us') ∧ Rw (R2 H3) us' (Fl i ++ (((ys x).take j).filter (b x)).map (f x)) ∧ Kp [] H H3 ∧ Tp H2 H3 ∧ H3 a2 = some (.lst us2)) hP0 (fun j H3 h => by obtain ⟨_, _, _, _, _, h⟩ := h; exact sq_l h) (fun j u H3 hu h => inner j u H3 hu h) ends
  have hlen := hr.len
  have begin0 : ∀ D, H D = none → ∃ us', (upd H D (.lst [])) D = some (.lst us') ∧ Rw (R2 (upd H D (.lst []))) us' (Fl 0) ∧ Kp [] H (upd H D (.lst [])) := fun D nD => ⟨[], upd_same, by rw [← hFl]; exact .nil, Kp.new nD⟩
  have over : ∀ D, H D = none → ∀ H', (∃ us', H' D = some (.lst us') ∧ Rw (R2 H') us' (Fl us.length) ∧ Kp [] H H') → Q (.ref D) H' := by
    rintro D nD H' ⟨us', hD, hr', k⟩
    rw [← hFl] at hr'
    have hr' : Rw (R2 H') us' ((gs.take us.length).flatMap fun x => ((ys x).filter (b x)).map (f x)) := hr'
    rw [hlen, List.take_length] at hr'
    exact fin D us' H' nD hD hr' k
  rcases hw with ⟨ha, hw⟩ | ⟨ha, hw⟩
  · exact hw _ fun D nD => it_listB (xs := us) (fun i H' => ∃ us', H' D = some (.lst us') ∧ Rw (R2 H') us' (Fl i) ∧ Kp [] H H') (begin0 D nD) (fun i H' h => by obtain ⟨_, _, _, k⟩ := h; exact k.ls not0 ha) (fun i v H' hx h => st D nD i v H' hx h) (over D nD)
  · exact hw _ fun D nD => it_tupB (xs := us) (fun i H' => ∃ us', H' D = some (.lst us') ∧ Rw (R2 H') us' (Fl i) ∧ Kp [] H H') (begin0 D nD) (fun i H' h => by obtain ⟨_, _, _, k⟩ := h; exact k.tp not0 ha) (fun i v H' hx h => st D nD i v H' hx h) (over D nD)
end My

set_option Elab.async false
set_option linter.all false
set_option maxRecDepth 100000
set_option maxHeartbeats 4000000
/-! ### displays of data of which only the size is wanted -/
namespace My
open PySem L2
/-- the bound of a level: at most three items in each -/
def bd : Nat → Nat
  | 0 => 20
  | k + 1 => (bd k + 1) * 3
abbrev Lv (k : Nat) (d : PyData) : Prop := Sh (k + 1) (bd k) d
theorem bd_le (k : Nat) : 20 ≤ bd k := by
  induction k with
  | zero => exact Nat.le_refl _
  | succ k ih => show 20 ≤ (bd k + 1) * 3; omega
theorem bd_mono {k j : Nat} (h : k ≤ j) : bd k ≤ bd j := by
  induction h with
  | refl => exact Nat.le_refl _
  | step _ ih => exact Nat.le_trans ih (by show bd _ ≤ (bd _ + 1) * 3; omega)
theorem Lv.mono {k j : Nat} {d : PyData} (h : Lv k d) (e : k ≤ j) : Lv j d := Sh.mono h (by omega) (bd_mono e)
/-- a text of at most n letters -/
def StB (n : Nat) (z : Str) : Prop := PyData.canLay0 (.str z) = true ∧ z.length ≤ n
theorem StB.lv {n k : Nat} {z : Str} (h : StB n z) (hn : n ≤ 20) : Lv k (.str z) := (sh_str h.1 (Nat.le_trans h.2 hn)).mono (by omega) (bd_le k)
theorem canLay_iff {z : Str} : PyData.canLay0 (.str z) = true ↔ ∀ c ∈ z.cps.toList, c < 0x110000 := by
  unfold PyData.canLay0 PyData.strOk
  rw [← Array.all_toList, List.all_eq_true]
  constructor
  · intro h c hc
    simpa using h c hc
  · intro h c hc
    simpa using h c hc
theorem StB.app {n m : Nat} {a b : Str} (ha : StB n a) (hb : StB m b) : StB (n + m) (a ++ b) := by
  refine ⟨canLay_iff.mpr fun c hc => ?_, ?_⟩
  · have e : (a ++ b).cps.toList = a.cps.toList ++ b.cps.toList := Array.toList_append
    rw [e] at hc
    rcases List.mem_append.mp hc with h | h
    · exact canLay_iff.mp ha.1 c h
    · exact canLay_iff.mp hb.1 c h
  · have e : (a ++ b).length = a.length + b.length := Array.size_append
    rw [e]
    exact Nat.add_le_add ha.2 hb.2
theorem StB.cut {n : Nat} {z : Str} (h : StB n z) (i j : Option Int) : StB n (cutS z i j) := by
  refine ⟨canLay_iff.mpr fun c hc => ?_, ?_⟩
  · unfold cutS at hc
    exact canLay_iff.mp h.1 c (List.mem_of_mem_drop (List.mem_of_mem_take (by simpa using hc)))
  · unfold cutS
    show (List.toArray _).size ≤ n
    rw [List.size_toArray]
    have e : z.cps.toList.length = z.length := Array.length_toList
    have := h.2
    rw [List.length_take, List.length_drop]
    omega
/-- what of H is new since B -/
def nw (B H : Hp) : Hp := fun a => if B a = none then H a else none
theorem nw_kp {B H H' : Hp} (k : Kp [] H H') : Kp [] (nw B H) (nw B H') := fun b ob h e => by
  unfold nw at e ⊢
  by_cases z : B b = none
  · rw [if_pos z] at e ⊢
    exact k b ob h e
  · rw [if_neg z] at e; cases e
theorem nw_to {B H : Hp} : Kp [] (nw B H) H := fun b ob h e => by
  unfold nw at e
  by_cases z : B b = none
  · rw [if_pos z] at e; exact e
  · rw [if_neg z] at e; cases e
theorem nw_new {B H : Hp} {p : Addr} {o : HO} (kb : Kp [] B H) (np : H p = none) : nw B (upd H p o) p = some o := by
  unfold nw
  rw [if_pos (kb.free0 np), upd_same]
/-- .. stands where an old one is written -/
theorem nw_wr {B H : Hp} {p : Addr} {o x : HO} (hp : B p = some x) : Kp [] (nw B H) (upd H p o) := fun b ob h e => by
  have nb : b ≠ p := fun z => by
    subst z
    unfold nw at e
    rw [if_neg (by rw [hp]; exact fun z => nomatch z)] at e
    cases e
  rw [upd_ne nb]
  exact nw_to b ob h e
/-- te gives a value of some data of level k, new since B -/
def DX (te : TE) (σ : L2.St) (B H0 : Hp) (k : Nat) : Prop := ∀ H1, Kp [] H0 H1 → Kp [] B H1 → ∀ Q : VK, (∀ v H2 d, Kp [] H1 H2 → Dq (nw B H2) v d → Lv k d → Q v H2) → te σ H1 Q
def SX (te : TE) (σ : L2.St) (H0 : Hp) (n : Nat) : Prop := ∀ H1, Kp [] H0 H1 → ∀ Q : VK, (∀ z, StB n z → Q (.str z) H1) → te σ H1 Q
def DXA (ta : TA) (σ : L2.St) (B H0 : Hp) (k n : Nat) : Prop := ∀ H1, Kp [] H0 H1 → Kp [] B H1 → ∀ Q : List V → Hp → Prop, (∀ vs H2 ds, Kp [] H1 H2 → DqAll (nw B H2) vs ds → (∀ d ∈ ds, Lv k d) → ds.length = n → Q vs H2) → ta σ H1 Q
/-- a list of n of them -/
def LX (te : TE) (σ : L2.St) (B H0 : Hp) (k n : Nat) : Prop := ∀ H1, Kp [] H0 H1 → Kp [] B H1 → ∀ Q : VK, (∀ p H2 us ds, Kp [] H1 H2 → H2 p = some (.lst us) → DqAll (nw B H2) us ds → (∀ d ∈ ds, Lv k d) → ds.length = n → Q (.ref p) H2) → te σ H1 Q
section
variable {σ : L2.St} {B H0 : Hp} {te tf : TE} {ta : TA} {k n m : Nat} {tl th : TO}
theorem sx_c {z : Str} (h : (PyData.canLay0 (.str z) && decide (z.length ≤ n)) = true) : SX (tC (.str z)) σ H0 n := fun H1 _ Q q => q z (by
  rw [Bool.and_eq_true, decide_eq_true_eq] at h
  exact h)
theorem sx_var {i : Nat} {z : Str} (e : σ[i]? = some (some (.str z))) (h : StB n z) : SX (tVar i) σ H0 n := fun H1 _ Q q => ⟨_, e, q z h⟩
theorem sx_app (a : SX te σ H0 n) (b : SX tf σ H0 m) (hl : n + m ≤ 1000) : SX (tOp (fun x y H Q => ∃ i, x = V.str i ∧ ∃ x, y = V.str x ∧ i.length + x.length ≤ sizeLine ∧ Q (V.str (i ++ x)) H) te tf) σ H0 (n + m) := fun H1 k1 Q q => a H1 k1 _ fun z hz => b H1 k1 _ fun y hy => ⟨z, rfl, y, rfl, by
  have := hz.2
  have := hy.2
  rw [sizeLine_eq]; omega, q _ (hz.app hy)⟩
def PX (tp : TO) (σ : L2.St) : Prop := ∀ (H1 : Hp) Q, (∀ i, Q i H1) → tp σ H1 Q
theorem px_no : PX tNoPart σ := fun _ _ q => q none
theorem px_c {i : Int} : PX (tPart (tC (.int i))) σ := fun _ _ q => ⟨i, rfl, q _⟩
theorem px_n {i : Int} : PX (tPart (tUn (rU fun i => V.int (-i)) (tC (.int i)))) σ := fun _ _ q => ⟨i, rfl, _, rfl, q _⟩
theorem sx_cut (a : SX te σ H0 n) (hn : n ≤ 1000) (p1 : PX tl σ) (p2 : PX th σ) : SX (tSl rSlS te tl th) σ H0 n := fun H1 k1 Q q => a H1 k1 _ fun z hz => p1 _ _ fun i => p2 _ _ fun j => ⟨z, rfl, by
  have := hz.2
  rw [sizeLine_eq]; omega, q _ (hz.cut i j)⟩
theorem dx_s (a : SX te σ H0 n) (hn : n ≤ 20) : DX te σ B H0 k := fun H1 k1 kb Q q => a H1 k1 _ fun z hz => q _ _ _ (Kp.refl _ _) (.str z) (hz.lv hn)
theorem dx_int {i : Int} (h : i.natAbs < 1000 := by decide) : DX (tC (.int i)) σ B H0 k := fun H1 k1 kb Q q => q _ _ _ (Kp.refl _ _) (.int i) ((sh_int h).mono (by omega) (by omega))
theorem dx_non : DX (tC .non) σ B H0 k := fun H1 k1 kb Q q => q _ _ _ (Kp.refl _ _) .non (sh_none.mono (by omega) (by omega))
theorem dxa_nil : DXA tNil σ B H0 k 0 := fun H1 _ _ Q q => q _ _ _ (Kp.refl _ _) .nil (fun _ h => nomatch h) rfl
theorem dxa_cons (a : DX te σ B H0 k) (b : DXA ta σ B H0 k n) : DXA (tCons te ta) σ B H0 k (n + 1) := fun H1 k1 kb Q q => a H1 k1 kb _ fun v H2 d k2 hv lv => b H2 (k1.trans k2) (kb.trans k2) _ fun vs H3 ds k3 hvs lvs hl => q _ _ _ (k2.trans k3) (.cons (hv.kp (nw_kp k3)) hvs) (fun x hx => by
  rcases List.mem_cons.mp hx with rfl | hx
  · exact lv
  · exact lvs x hx) (by rw [List.length_cons, hl])
theorem lv_tup {ds : List PyData} (h : ∀ d ∈ ds, Lv k d) (l : ds.length ≤ 3) : Lv (k + 1) (.tuple ds) := (sh_tup h).mono (Nat.le_refl _) (Nat.mul_le_mul_left _ l)
theorem lv_lst {ds : List PyData} (h : ∀ d ∈ ds, Lv k d) (l : ds.length ≤ 3) : Lv (k + 1) (.list ds) := (sh_lst h).mono (Nat.le_refl _) (Nat.mul_le_mul_left _ l)
theorem dx_tup (a : DXA ta σ B H0 k n) (l : n ≤ 3) : DX (tTup ta) σ B H0 (k + 1) := fun H1 k1 kb Q q => a H1 k1 kb _ fun vs H2 ds k2 hvs lvs hl => ⟨by rw [hvs.len, sizeLine_eq]; omega, fun p np => q _ _ _ (k2.trans (Kp.new np)) (.tup (nw_new (kb.trans k2) np) (DqAll.kp (nw_kp (Kp.new np)) hvs)) (lv_tup lvs (by omega))⟩
theorem dx_lst (a : DXA ta σ B H0 k n) (l : n ≤ 3) : DX (tLst ta) σ B H0 (k + 1) := fun H1 k1 kb Q q => a H1 k1 kb _ fun vs H2 ds k2 hvs lvs hl => ⟨by rw [hvs.len, sizeLine_eq]; omega, fun p np => q _ _ _ (k2.trans (Kp.new np)) (.lst (nw_new (kb.trans k2) np) (DqAll.kp (nw_kp (Kp.new np)) hvs)) (lv_lst lvs (by omega))⟩
theorem dx_tup0 : DX (tTup tNil) σ B H0 (k + 1) := dx_tup dxa_nil (by decide)
theorem dx_tup1 {t1 : TE} (a : DX t1 σ B H0 k) : DX (tTup (tCons t1 tNil)) σ B H0 (k + 1) := dx_tup (dxa_cons a dxa_nil) (by decide)
theorem dx_tup2 {t1 t2 : TE} (a : DX t1 σ B H0 k) (b : DX t2 σ B H0 k) : DX (tTup (tCons t1 (tCons t2 tNil))) σ B H0 (k + 1) := dx_tup (dxa_cons a (dxa_cons b dxa_nil)) (by decide)
theorem dx_tup3 {t1 t2 t3 : TE} (a : DX t1 σ B H0 k) (b : DX t2 σ B H0 k) (c : DX t3 σ B H0 k) : DX (tTup (tCons t1 (tCons t2 (tCons t3 tNil)))) σ B H0 (k + 1) := dx_tup (dxa_cons a (dxa_cons b (dxa_cons c dxa_nil))) (by decide)
theorem dx_lst0 : DX (tLst tNil) σ B H0 (k + 1) := dx_lst dxa_nil (by decide)
theorem dx_lst1 {t1 : TE} (a : DX t1 σ B H0 k) : DX (tLst (tCons t1 tNil)) σ B H0 (k + 1) := dx_lst (dxa_cons a dxa_nil) (by decide)
theorem dx_lst2 {t1 t2 : TE} (a : DX t1 σ B H0 k) (b : DX t2 σ B H0 k) : DX (tLst (tCons t1 (tCons t2 tNil))) σ B H0 (k + 1) := dx_lst (dxa_cons a (dxa_cons b dxa_nil)) (by decide)
theorem dx_lst3 {t1 t2 t3 : TE} (a : DX t1 σ B H0 k) (b : DX t2 σ B H0 k) (c : DX t3 σ B H0 k) : DX (tLst (tCons t1 (tCons t2 (tCons t3 tNil)))) σ B H0 (k + 1) := dx_lst (dxa_cons a (dxa_cons b (dxa_cons c dxa_nil))) (by decide)
theorem lx_lst (a : DXA ta σ B H0 k n) (l : n ≤ 1000 := by decide) : LX (tLst ta) σ B H0 k n := fun H1 k1 kb Q q => a H1 k1 kb _ fun vs H2 ds k2 hvs lvs hl => ⟨by rw [hvs.len, sizeLine_eq]; omega, fun p np => q _ _ _ _ (k2.trans (Kp.new np)) upd_same (DqAll.kp (nw_kp (Kp.new np)) hvs) lvs hl⟩
theorem lx_var {i : Nat} {p : Addr} {us : List V} {ds : List PyData} (e : σ[i]? = some (some (.ref p))) (h : H0 p = some (.lst us)) (hd : DqAll (nw B H0) us ds) (lv : ∀ d ∈ ds, Lv k d) (hl : ds.length = n) : LX (tVar i) σ B H0 k n := fun H1 k1 kb Q q => ⟨_, e, q p H1 us ds (Kp.refl _ _) (k1 _ _ not0 h) (DqAll.kp (nw_kp k1) hd) lv hl⟩
theorem DqAll.app {H : Hp} : ∀ {as bs : List PyData} {us vs : List V}, DqAll H us as → DqAll H vs bs → DqAll H (us ++ vs) (as ++ bs)
  | [], _, _, _, h, h' => by cases h; exact h'
  | a :: as, _, _, _, h, h' => by
    cases h with
    | cons x t => exact .cons x (DqAll.app t h')
theorem lx_cat (a : LX te σ B H0 k n) (b : LX tf σ B H0 k m) (hl : n + m ≤ 1000 := by decide) : LX (tOp rCat te tf) σ B H0 k (n + m) := fun H1 k1 kb Q q => a H1 k1 kb _ fun p H2 us ds k2 hp hd lv ln => b H2 (k1.trans k2) (kb.trans k2) _ fun r H3 ws es k3 hr he lv2 lm => by
  have hp3 := k3 _ _ not0 hp
  have hd3 := DqAll.kp (nw_kp k3) hd
  refine ⟨p, r, us, ws, rfl, rfl, hp3, hr, by rw [hd3.len, he.len, sizeLine_eq]; omega, fun x nx => q x _ _ _ ((k2.trans k3).trans (Kp.new nx)) upd_same (DqAll.kp (nw_kp (Kp.new nx)) (DqAll.app hd3 he)) (fun d hd => ?_) (by rw [List.length_append]; omega)⟩
  rcases List.mem_append.mp hd with h | h
  · exact lv d h
  · exact lv2 d h
end
end My

set_option Elab.async false
set_option linter.all false
set_option maxRecDepth 100000
set_option maxHeartbeats 4000000
namespace My
open PySem L2 NdefX
def top (i : Nat) : Stmt := PySem.Challenge.pw_coretower_k42_rule_is_its_entries.main.body.getD i (.Pass ⟨0, 0, 0, 0⟩)
def mtop (i j : Nat) : Stmt := match top i with
  | .ClassDef _ _ _ b _ _ _ _ _ _ _ => b.getD j (.Pass ⟨0, 0, 0, 0⟩)
  | _ => .Pass ⟨0, 0, 0, 0⟩
abbrev s_is_name : Stmt := top 9
theorem sc_is_name : FnScope ["value", "letter"] ["value"] (defScope s_is_name) := ⟨rfl, rfl, rfl, by decide +kernel, rfl, by decide +kernel, by decide +kernel⟩
abbrev s_names_ahead : Stmt := top 15
theorem sc_names_ahead : FnScope ["name", "held", "locks", "before", "other"] ["name", "held", "locks"] (defScope s_names_ahead) := ⟨rfl, rfl, rfl, by decide +kernel, rfl, by decide +kernel, by decide +kernel⟩
abbrev s_all_held : Stmt := top 13
theorem sc_all_held : FnScope ["locks", "found", "at", "held", "name"] ["locks"] (defScope s_all_held) := ⟨rfl, rfl, rfl, by decide +kernel, rfl, by decide +kernel, by decide +kernel⟩
abbrev s_all_entries : Stmt := top 14
theorem sc_all_entries : FnScope ["locks", "held", "name"] ["locks"] (defScope s_all_entries) := ⟨rfl, rfl, rfl, by decide +kernel, rfl, by decide +kernel, by decide +kernel⟩
def lets : Str := "abcdefghijklmnopqrstuvwxyz"
def lowC (c : Nat) : Bool := decide (97 ≤ c) && decide (c ≤ 122)
def nameS (z : Str) : Bool := decide (1 ≤ z.length) && (decide (z.length ≤ 8) && z.cps.toList.all lowC)
structure Bt (mg : Str → Option Value) (tL t3 : Tok) : Prop where
  b_isinstance : mg "isinstance" = none
  b_str : mg "str" = none
  b_tuple : mg "tuple" = none
  b_list : mg "list" = none
  b_len : mg "len" = none
  b_all : mg "all" = none
  b_iter : mg "iter" = none
  b_enumerate : mg "enumerate" = none
  c_LETTERS : mg "LETTERS" = some (.str lets tL)
  c_MOST_LOCKS : mg "MOST_LOCKS" = some (.int 3 t3)
/-! ### locks, what is held, entries: by the locks' places -/
/-- v is a tuple of these texts -/
def TS (H : Hp) (v : V) (xs : List Str) : Prop := ∃ a, v = .ref a ∧ H a = some (.tup (xs.map V.str))
theorem TS.tp {H H' : Hp} {v : V} {xs : List Str} (h : TS H v xs) (t : Tp H H') : TS H' v xs := by
  obtain ⟨a, e, h⟩ := h
  exact ⟨a, e, t _ _ h⟩
/-- the name at a place -/
def nmL (zs : List Str) (r : Nat) : Str := zs.getD r ""
/-- the names of what is held -/
def nmH (zs : List Str) (h : List Nat) : List Str := h.map (nmL zs)
abbrev Hd := List Nat
abbrev En := List Nat × Nat
def HT (zs : List Str) (H : Hp) (v : V) (h : Hd) : Prop := TS H v (nmH zs h)
def ET (zs : List Str) (H : Hp) (v : V) (e : En) : Prop := ∃ a u, v = .ref a ∧ H a = some (.tup [u, .str (nmL zs e.2)]) ∧ HT zs H u e.1
theorem HT.tp {zs : List Str} {H H' : Hp} {v : V} {h : Hd} (a : HT zs H v h) (t : Tp H H') : HT zs H' v h := TS.tp a t
theorem ET.tp {zs : List Str} {H H' : Hp} {v : V} {e : En} (h : ET zs H v e) (t : Tp H H') : ET zs H' v e := by
  obtain ⟨a, u, e, h, k⟩ := h
  exact ⟨a, u, e, t _ _ h, k.tp t⟩
/-- the locks of a rule: one to three good names -/
structure LkOk (zs : List Str) : Prop where
  pos : 1 ≤ zs.length
  le : zs.length ≤ 3
  nd : zs.Nodup
  nm : ∀ z ∈ zs, nameS z = true
/-- at a the locks, a list or a tuple -/
def LkAt (K : PySem.W.Frag) (H : Hp) (a : Addr) (zs : List Str) : Prop := SqAny K H a (zs.map V.str)
theorem nm_at {zs : List Str} {r : Nat} (h : r < zs.length) : zs[r]? = some (nmL zs r) := by
  unfold nmL
  rw [List.getD_eq_getElem?_getD, List.getElem?_eq_getElem h]
  rfl
theorem nm_inj {zs : List Str} (L : LkOk zs) {r t : Nat} (hr : r < zs.length) (ht : t < zs.length) (e : nmL zs r = nmL zs t) : r = t := by
  obtain ⟨h1, h2⟩ := List.getElem?_eq_some_iff.mp (nm_at hr)
  obtain ⟨h3, h4⟩ := List.getElem?_eq_some_iff.mp (nm_at ht)
  exact (List.getElem_inj L.nd).mp (h2.trans (e.trans h4.symm))
theorem nm_eq {zs : List Str} (L : LkOk zs) {r t : Nat} (hr : r < zs.length) (ht : t < zs.length) : (nmL zs r = nmL zs t) ↔ r = t := ⟨nm_inj L hr ht, fun e => by rw [e]⟩
theorem nmH_eq {zs : List Str} (L : LkOk zs) : ∀ {a b : Hd}, (∀ x ∈ a, x < zs.length) → (∀ x ∈ b, x < zs.length) → (nmH zs a = nmH zs b ↔ a = b)
  | [], [], _, _ => by simp [nmH]
  | [], _ :: _, _, _ => by simp [nmH]
  | _ :: _, [], _, _ => by simp [nmH]
  | x :: a, y :: b, ha, hb => by
    have ih := nmH_eq L (a := a) (b := b) (fun z h => ha z (List.mem_cons_of_mem _ h)) (fun z h => hb z (List.mem_cons_of_mem _ h))
    have e1 : nmH zs (x :: a) = nmL zs x :: nmH zs a := rfl
    have e2 : nmH zs (y :: b) = nmL zs y :: nmH zs b := rfl
    rw [e1, e2, List.cons.injEq, List.cons.injEq, ih, nm_eq L (ha x List.mem_cons_self) (hb y List.mem_cons_self)]
theorem mem_nmH {zs : List Str} (L : LkOk zs) {r : Nat} {a : Hd} (hr : r < zs.length) (ha : ∀ x ∈ a, x < zs.length) : nmL zs r ∈ nmH zs a ↔ r ∈ a := by
  unfold nmH
  rw [List.mem_map]
  constructor
  · rintro ⟨x, hx, e⟩
    rw [← nm_inj L (ha x hx) hr e]
    exact hx
  · exact fun h => ⟨r, h, rfl⟩
theorem inV_str {z : Str} : ∀ {ks : List Str}, inV (.str z) (ks.map V.str) = decide (z ∈ ks)
  | [] => by simp [inV]
  | k :: ks => by
    have ih := inV_str (z := z) (ks := ks)
    unfold inV at ih ⊢
    rw [List.map_cons, List.any_cons, ih]
    have e : eqV (V.str k) (V.str z) = (k == z) := rfl
    rw [e]
    by_cases h : z = k
    · subst h; simp
    · have : ¬ k = z := fun e => h e.symm
      simp [h, this, beq_eq_false_iff_ne.mpr this]
/-- the places below n -/
def below (n : Nat) (h : Hd) : Prop := ∀ x ∈ h, x < n
def aheadR (r : Nat) (h : Hd) : Hd := h.filter fun x => decide (x < r)
end My

set_option Elab.async false
set_option linter.all false
set_option maxRecDepth 100000
set_option maxHeartbeats 4000000
namespace My
open PySem L2 NdefX
section
variable {P : Program} {w : World} {K : PySem.W.Frag} {mg : Str → Option Value} {base : Heap} {tL t3 : Tok}
def LowIn (z : Str) (D : Addr) (H : Hp) (i : Nat) (H' : Hp) : Prop := H' D = some (.lst ((z.cps.toList.take i).map fun c => V.bl (lowC c))) ∧ Kp [] H H'
theorem lets_mem (c : Nat) : decide (c ∈ lets.cps.toList) = lowC c := by
  have e : lets.cps.toList = (List.range 26).map (97 + ·) := by decide +kernel
  rw [e, Bool.eq_iff_iff, decide_eq_true_eq]
  unfold lowC
  rw [Bool.and_eq_true, decide_eq_true_eq, decide_eq_true_eq, List.mem_map]
  constructor
  · rintro ⟨i, hi, rfl⟩
    have := List.mem_range.mp hi
    omega
  · rintro ⟨h1, h2⟩
    exact ⟨c - 97, List.mem_range.mpr (by omega), by omega⟩
theorem all_take {α : Type} {f : α → Bool} {l : List α} : ((l.map fun c => f c).all id) = l.all f := by
  rw [List.all_map]; rfl
/-- is_name of a good name -/
def spName1 : Sp := fun vs H Q _ => ∃ z : Str, vs = [.str z] ∧ nameS z = true ∧ ∀ H', Kp [] H H' → Q (.bl true) H'
theorem ok_is_name {f : Addr} {fd : FuncData} (D : Df K mg "is_name" s_is_name ["value"] f fd) (T : Bt mg tL t3) : FnOk P w K mg base CX0 1 f fd ["value"] spName1 := by
  refine D.F.ok sc_is_name (fun vs H Q E h => ?_) (fun cdv A outer s H vs Q E hr h => ?_)
  · obtain ⟨z, rfl, _⟩ := h
    rfl
  · obtain ⟨z, rfl, nm, q⟩ := h
    refine ⟨_, (pss_cons (ps_if (pt_not (pt_val (pe_callB (id := "isinstance") (r := rIsi K) call_isi (by rfl) T.b_isinstance (by decide +kernel) (pa_cons (pv 0) (pa_cons (pe_bltn (v := .ty "str") (by rfl) T.b_str (by decide +kernel) rfl) pa_nil))))) (pss_one (ps_ret pe_bl)) pss_nil)
      (pss_one (ps_ret (pe_and (pe_chain op_le op_le pe_int (pe_callB (id := "len") call_len_str (by rfl) T.b_len PySem.boot_len (pa_cons (pv 0) pa_nil)) pe_int) (pe_one (pe_callB (id := "all") (r := rAll K) (cr_all rfl) (by rfl) T.b_all (by decide +kernel) (pa_cons (pe_lc (own := [("letter", 1)]) (g := (gName 1)) (tt := tYes) rfl sc_is_name.nd (pi_str (pv 0)) (blkOk_by (N := ["value", "letter"]) (sc := defScope s_is_name) (by decide +kernel)) (fun _ _ _ _ _ => (pg_name (i := 1) sc_is_name.nd rfl (Or.inl rfl))) (fun _ _ _ _ _ => pts_nil) (fun _ _ _ _ _ => (pe_cmpR op_in_sign (pv 1) (pe_glob (v := .str lets) rfl T.c_LETTERS ⟨_, rfl⟩) (by rfl)))) pa_nil))))))), ?_⟩
    try simp (maxSteps := 1000000) only [tSeq, tIfS, tTest, tOp, tUn, tCB, tCons, tNil, tVar, tC, rI0, rI, rU, rEq, rNe, tRet, tRetN, tAsg, gName, gSub, tBM, tBM0, tNext, tB, tNot, tAnd, tOr, tIf, tCall, tDrop, tBreak, tCont, L2.start, tDGet, sDPut, tTup, tLst, tDNewK, tRevL, rCat, rAppend, rPop, rSetL, tAndV, tOrV, tNotV, tSl, tPart, tNoPart, tM1, gTup, gCons, gNil, cxK, cxnK, List.map_cons, List.map_nil, List.length_cons, List.length_nil, List.replicate, List.cons_append, List.nil_append, List.append_nil, List.set_cons_zero, List.set_cons_succ, List.getElem?_cons_zero, List.getElem?_cons_succ, Option.some.injEq, V.ref.injEq, V.int.injEq, V.str.injEq, V.bl.injEq, V.ty.injEq, exists_eq_left', exists_eq_left, exists_and_left, List.cons.injEq, and_true, true_and, sc_ii, sc_ss, sc_bb, sc_ni, sc_in, sc_is, sc_si, sc_nn, decide_true, decide_false, reduceCtorEq, Bool.false_eq_true, if_true, if_false, ite_true, ite_false, exists_const, eq_self, false_and, and_false, or_false, false_or, exists_false, Evl.rLenS, rSum, wipe, tYes, exists_eq, exists_eq', rIxL, rIxT, rIxS, exists_and_right, gt_iff_lt, not_true_eq_false, not_false_eq_true, Bool.not_true, Bool.not_false, decide_eq_true_eq, Nat.reduceSub, Nat.reduceAdd, List.append_assoc, tChain, tDIn, tDNotIn, sDDel, tAug, ipI, rInt1_int, rInt1_bl]
    refine isi_str_str ?_
    try simp (maxSteps := 1000000) only [tSeq, tIfS, tTest, tOp, tUn, tCB, tCons, tNil, tVar, tC, rI0, rI, rU, rEq, rNe, tRet, tRetN, tAsg, gName, gSub, tBM, tBM0, tNext, tB, tNot, tAnd, tOr, tIf, tCall, tDrop, tBreak, tCont, L2.start, tDGet, sDPut, tTup, tLst, tDNewK, tRevL, rCat, rAppend, rPop, rSetL, tAndV, tOrV, tNotV, tSl, tPart, tNoPart, tM1, gTup, gCons, gNil, cxK, cxnK, List.map_cons, List.map_nil, List.length_cons, List.length_nil, List.replicate, List.cons_append, List.nil_append, List.append_nil, List.set_cons_zero, List.set_cons_succ, List.getElem?_cons_zero, List.getElem?_cons_succ, Option.some.injEq, V.ref.injEq, V.int.injEq, V.str.injEq, V.bl.injEq, V.ty.injEq, exists_eq_left', exists_eq_left, exists_and_left, List.cons.injEq, and_true, true_and, sc_ii, sc_ss, sc_bb, sc_ni, sc_in, sc_is, sc_si, sc_nn, decide_true, decide_false, reduceCtorEq, Bool.false_eq_true, if_true, if_false, ite_true, ite_false, exists_const, eq_self, false_and, and_false, or_false, false_or, exists_false, Evl.rLenS, rSum, wipe, tYes, exists_eq, exists_eq', rIxL, rIxT, rIxS, exists_and_right, gt_iff_lt, not_true_eq_false, not_false_eq_true, Bool.not_true, Bool.not_false, decide_eq_true_eq, Nat.reduceSub, Nat.reduceAdd, List.append_assoc, tChain, tDIn, tDNotIn, sDDel, tAug, ipI, rInt1_int, rInt1_bl]
    have zs : z.cps.toList.length = z.length := Array.length_toList
    unfold nameS at nm
    rw [Bool.and_eq_true, Bool.and_eq_true, decide_eq_true_eq, decide_eq_true_eq] at nm
    obtain ⟨h1, h8, hl⟩ := nm
    have e1 : (1 : Int) ≤ (z.length : Nat) := by omega
    have e8 : ((z.length : Nat) : Int) ≤ 8 := by omega
    refine ⟨small (by omega), ?_⟩
    rw [if_pos e1, if_pos e8]
    refine ⟨.str z, rfl, z, rfl, fun o no => lc_it walk_str (LowIn z o H) ⟨upd_same, Kp.new no⟩ (fun _ _ _ _ => True.intro) ?_ ?_⟩
    · rintro i x H1 H2 hi ⟨ho, kp⟩ ⟨rfl, c, hc, rfl⟩
      try simp (maxSteps := 1000000) only [tSeq, tIfS, tTest, tOp, tUn, tCB, tCons, tNil, tVar, tC, rI0, rI, rU, rEq, rNe, tRet, tRetN, tAsg, gName, gSub, tBM, tBM0, tNext, tB, tNot, tAnd, tOr, tIf, tCall, tDrop, tBreak, tCont, L2.start, tDGet, sDPut, tTup, tLst, tDNewK, tRevL, rCat, rAppend, rPop, rSetL, tAndV, tOrV, tNotV, tSl, tPart, tNoPart, tM1, gTup, gCons, gNil, cxK, cxnK, List.map_cons, List.map_nil, List.length_cons, List.length_nil, List.replicate, List.cons_append, List.nil_append, List.append_nil, List.set_cons_zero, List.set_cons_succ, List.getElem?_cons_zero, List.getElem?_cons_succ, Option.some.injEq, V.ref.injEq, V.int.injEq, V.str.injEq, V.bl.injEq, V.ty.injEq, exists_eq_left', exists_eq_left, exists_and_left, List.cons.injEq, and_true, true_and, sc_ii, sc_ss, sc_bb, sc_ni, sc_in, sc_is, sc_si, sc_nn, decide_true, decide_false, reduceCtorEq, Bool.false_eq_true, if_true, if_false, ite_true, ite_false, exists_const, eq_self, false_and, and_false, or_false, false_or, exists_false, Evl.rLenS, rSum, wipe, tYes, exists_eq, exists_eq', rIxL, rIxT, rIxS, exists_and_right, gt_iff_lt, not_true_eq_false, not_false_eq_true, Bool.not_true, Bool.not_false, decide_eq_true_eq, Nat.reduceSub, Nat.reduceAdd, List.append_assoc, tChain, tDIn, tDNotIn, sDDel, tAug, ipI, rInt1_int, rInt1_bl]
      refine ⟨c, rfl, _, ho, ?_, ?_, kp.wr no⟩
      · rw [List.length_map, List.length_take, zs]; exact smallL (by omega)
      · rw [upd_same, lets_mem, take_snoc (x := c) (by rw [← hc]; simp), List.map_append]; rfl
    · rintro H1 ⟨ho, kp⟩
      have q2 := q H1 kp
      refine ⟨_, z.cps.toList.map lowC, rfl, sq_l (ho.trans ?_), ?_⟩
      · rw [List.take_of_length_le (by simp), List.map_map]; rfl
      · rw [show ((z.cps.toList.map lowC).all id) = true from all_take.trans hl]
        exact q2
theorem nmH_len {zs : List Str} {h : Hd} : (nmH zs h).length = h.length := List.length_map _
theorem LkAt.kp {K : PySem.W.Frag} {H H' : Hp} {a : Addr} {zs : List Str} (h : LkAt K H a zs) (k : Kp [] H H') : LkAt K H' a zs := h.imp (k.ls not0) (k.tp not0)
theorem idx_nm {zs : List Str} (L : LkOk zs) {r : Nat} (hr : r < zs.length) : zs.idxOf (nmL zs r) = r := by
  have hz : nmL zs r ∈ zs := List.mem_of_getElem? (nm_at hr)
  have h1 := List.idxOf_lt_length_iff.mpr hz
  have h2 : zs[zs.idxOf (nmL zs r)] = nmL zs r := List.getElem_idxOf h1
  obtain ⟨h3, h4⟩ := List.getElem?_eq_some_iff.mp (nm_at hr)
  exact (List.getElem_inj L.nd).mp (h2.trans h4.symm)
theorem mem_take_nm {zs : List Str} (L : LkOk zs) {r x : Nat} (hx : x < zs.length) : nmL zs x ∈ zs.take r ↔ x < r := by
  constructor
  · intro h
    obtain ⟨j, ej⟩ := List.getElem?_of_mem h
    have jl : j < (zs.take r).length := (List.getElem?_eq_some_iff.mp ej).1
    rw [List.length_take] at jl
    rw [List.getElem?_take_of_lt (by omega)] at ej
    have : zs[j]? = zs[x]? := ej.trans (nm_at hx).symm
    obtain ⟨h1, h2⟩ := List.getElem?_eq_some_iff.mp ej
    obtain ⟨h3, h4⟩ := List.getElem?_eq_some_iff.mp (nm_at hx)
    have := (List.getElem_inj L.nd).mp (h2.trans h4.symm)
    omega
  · intro h
    exact List.mem_of_getElem? (i := x) (by rw [List.getElem?_take_of_lt h]; exact nm_at hx)
theorem ht_rw {zs : List Str} {h : Hd} : Rw (fun v x => v = V.str (nmL zs x)) ((nmH zs h).map V.str) h := ⟨by simp [nmH], fun {i x} e => by
  unfold nmH at e
  rw [List.map_map, List.getElem?_map] at e
  cases hh : h[i]? with
  | none => rw [hh] at e; cases e
  | some y => rw [hh] at e; exact ⟨y, rfl, (Option.some.inj e).symm⟩⟩
theorem flat_strs : ∀ zs : List Str, (zs.map V.str).all flatV = true
  | [] => rfl
  | _ :: r => by
    rw [List.map_cons, List.all_cons, flat_strs r]
    rfl
theorem rw_strs {zs : List Str} : ∀ {us : List V} {h : Hd}, Rw (fun v x => v = V.str (nmL zs x)) us h → us = (nmH zs h).map V.str
  | us, [], r => r.isNil
  | us, x :: h, r => by
    obtain ⟨u, t, rfl, e, r'⟩ := r.ex
    subst e
    rw [rw_strs r']
    rfl
def spAhead (K : PySem.W.Frag) : Sp := fun vs H Q _ => ∃ (u : V) (a : Addr) (zs : List Str) (r : Nat) (h : Hd), vs = [.str (nmL zs r), u, .ref a] ∧ LkOk zs ∧ r < zs.length ∧ HT zs H u h ∧ below zs.length h ∧ h.length ≤ 10 ∧ LkAt K H a zs ∧ ∀ v H', HT zs H' v (aheadR r h) → Kp [] H H' → Q v H'
theorem ok_names_ahead {f : Addr} {fd : FuncData} (D : Df K mg "names_ahead" s_names_ahead ["name", "held", "locks"] f fd) (T : Bt mg tL t3) : FnOk P w K mg base CX0 1 f fd ["name", "held", "locks"] (spAhead K) := by
  refine D.F.ok sc_names_ahead (fun vs H Q E h => ?_) (fun cdv A outer s H vs Q E hr h => ?_)
  · obtain ⟨_, _, _, _, _, rfl, _⟩ := h
    rfl
  · obtain ⟨u, a, zs, r, h, rfl, L, hr', ⟨ua, rfl, hu⟩, hb, h10, ha, q⟩ := h
    refine ⟨_, (pss_cons (ps_set (i := 3) sc_names_ahead.nd rfl (Or.inr rfl) (pe_slice sl_list (pe_callTy call_list_of (by rfl) T.b_list (by decide +kernel) (pa_cons (pv 2) pa_nil)) po_none (po_some (pe_bm PySem.F.plainAttrs_list PySem.F.slot_list_index PySem.F.type_list_index mt_index (pe_callTy call_list_of (by rfl) T.b_list (by decide +kernel) (pa_cons (pv 2) pa_nil)) (pa_cons (pv 0) pa_nil)))))
      (pss_one (ps_ret (pe_callTy call_tuple_of (by rfl) T.b_tuple (by decide +kernel) (pa_cons (pe_lc (own := [("other", 4)]) (g := (gName 4)) rfl sc_names_ahead.nd (pi_tup (pv 1)) (blkOk_by (N := ["name", "held", "locks", "before", "other"]) (sc := defScope s_names_ahead) (by decide +kernel)) (fun _ _ _ _ _ => (pg_name (i := 4) sc_names_ahead.nd rfl (Or.inl rfl))) (fun _ _ _ _ _ => (pts_one (pt_cmpR (r := rIn K false) op_in_seq (pv 4) (pv 3) (by rfl)))) (fun _ _ _ _ _ => (pv 4))) pa_nil))))), ?_⟩
    try simp (maxSteps := 1000000) only [tSeq, tIfS, tTest, tOp, tUn, tCB, tCons, tNil, tVar, tC, rI0, rI, rU, rEq, rNe, tRet, tRetN, tAsg, gName, gSub, tBM, tBM0, tNext, tB, tNot, tAnd, tOr, tIf, tCall, tDrop, tBreak, tCont, L2.start, tDGet, sDPut, tTup, tLst, tDNewK, tRevL, rCat, rAppend, rPop, rSetL, tAndV, tOrV, tNotV, tSl, tPart, tNoPart, tM1, gTup, gCons, gNil, cxK, cxnK, List.map_cons, List.map_nil, List.length_cons, List.length_nil, List.replicate, List.cons_append, List.nil_append, List.append_nil, List.set_cons_zero, List.set_cons_succ, List.getElem?_cons_zero, List.getElem?_cons_succ, Option.some.injEq, V.ref.injEq, V.int.injEq, V.str.injEq, V.bl.injEq, V.ty.injEq, exists_eq_left', exists_eq_left, exists_and_left, List.cons.injEq, and_true, true_and, sc_ii, sc_ss, sc_bb, sc_ni, sc_in, sc_is, sc_si, sc_nn, decide_true, decide_false, reduceCtorEq, Bool.false_eq_true, if_true, if_false, ite_true, ite_false, exists_const, eq_self, false_and, and_false, or_false, false_or, exists_false, Evl.rLenS, rSum, wipe, tYes, exists_eq, exists_eq', rIxL, rIxT, rIxS, exists_and_right, gt_iff_lt, not_true_eq_false, not_false_eq_true, Bool.not_true, Bool.not_false, decide_eq_true_eq, Nat.reduceSub, Nat.reduceAdd, List.append_assoc, tChain, tDIn, tDNotIn, sDDel, tAug, ipI, rInt1_int, rInt1_bl]
    refine ⟨_, ha, fun l nl => ?_⟩
    have kl := (Kp.new nl : Kp [] H (upd H l (.lst (zs.map V.str))))
    refine ⟨_, LkAt.kp ha kl, fun l1 nl1 => ?_⟩
    have k1 := kl.trans (Kp.new nl1 (o := .lst (zs.map V.str)))
    have h1 : (upd (upd H l (.lst (zs.map V.str))) l1 (.lst (zs.map V.str))) l1 = some (.lst (zs.map V.str)) := upd_same
    have h0 := (Kp.new nl1 (S := []) (o := .lst (zs.map V.str))) _ _ not0 (upd_same (H := H) (a := l) (o := .lst (zs.map V.str)))
    generalize upd (upd H l (.lst (zs.map V.str))) l1 (.lst (zs.map V.str)) = H1 at k1 h1 h0 ⊢
    refine ⟨.inl ⟨rfl, _, sq_l h1⟩, l1, _, _, r, _, rfl, rfl, sq_l h1, rfl, flat_strs zs, by rw [List.getElem?_map, nm_at hr']; rfl, by simp [eqV], fun m z' hm hz => ?_, ?_⟩
    · rw [List.getElem?_map, nm_at (by omega)] at hz
      cases hz
      have : ¬ nmL zs m = nmL zs r := fun e => by have := nm_inj L (by omega) hr' e; omega
      exact beq_eq_false_iff_ne.mpr this
    refine ⟨_, rfl, l, _, rfl, sq_l h0, fun pb npb => ?_⟩
    rw [cut_0j]
    have k2 := k1.trans (Kp.new npb (o := .lst ((zs.take r).map V.str)))
    have h2 : (upd H1 pb (.lst ((zs.take r).map V.str))) pb = some (.lst ((zs.take r).map V.str)) := upd_same
    generalize upd H1 pb (.lst ((zs.take r).map V.str)) = H2 at k2 h2 ⊢
    refine lcG (R := fun _ v x => v = V.str (nmL zs x)) (R2 := fun _ v x => v = V.str (nmL zs x)) (fun _ _ _ _ _ h => h) (fun _ _ _ _ _ h => h) (fun x => decide (x < r)) id (src_tup (fun R q' => ⟨_, rfl, q'⟩) (sq_t (k2 _ _ not0 hu))) ht_rw (by omega) (fun v x H3 N N0 hx hv k3 hN hN0 => ?_) fun D us' H3 nD hD hrw k3 => ?_
    · subst hv
      have xn := hb x hx
      refine ⟨by simp [wipe], ?_⟩
      try simp (maxSteps := 1000000) only [tSeq, tIfS, tTest, tOp, tUn, tCB, tCons, tNil, tVar, tC, rI0, rI, rU, rEq, rNe, tRet, tRetN, tAsg, gName, gSub, tBM, tBM0, tNext, tB, tNot, tAnd, tOr, tIf, tCall, tDrop, tBreak, tCont, L2.start, tDGet, sDPut, tTup, tLst, tDNewK, tRevL, rCat, rAppend, rPop, rSetL, tAndV, tOrV, tNotV, tSl, tPart, tNoPart, tM1, gTup, gCons, gNil, cxK, cxnK, List.map_cons, List.map_nil, List.length_cons, List.length_nil, List.replicate, List.cons_append, List.nil_append, List.append_nil, List.set_cons_zero, List.set_cons_succ, List.getElem?_cons_zero, List.getElem?_cons_succ, Option.some.injEq, V.ref.injEq, V.int.injEq, V.str.injEq, V.bl.injEq, V.ty.injEq, exists_eq_left', exists_eq_left, exists_and_left, List.cons.injEq, and_true, true_and, sc_ii, sc_ss, sc_bb, sc_ni, sc_in, sc_is, sc_si, sc_nn, decide_true, decide_false, reduceCtorEq, Bool.false_eq_true, if_true, if_false, ite_true, ite_false, exists_const, eq_self, false_and, and_false, or_false, false_or, exists_false, Evl.rLenS, rSum, wipe, tYes, exists_eq, exists_eq', rIxL, rIxT, rIxS, exists_and_right, gt_iff_lt, not_true_eq_false, not_false_eq_true, Bool.not_true, Bool.not_false, decide_eq_true_eq, Nat.reduceSub, Nat.reduceAdd, List.append_assoc, tChain, tDIn, tDNotIn, sDDel, tAug, ipI, rInt1_int, rInt1_bl]
      refine ⟨pb, _, rfl, .inl (sq_l (k3 _ _ not0 h2)), rfl, flat_strs _, _, rfl, ?_⟩
      simp only [Bool.false_eq_true, if_false, inV_str]
      by_cases h : x < r
      · rw [decide_eq_true ((mem_take_nm L xn).mpr h), if_pos rfl]
        exact hN (decide_eq_true h) _ _ rfl (Kp.refl _ _)
      · rw [decide_eq_false (fun e => h ((mem_take_nm L xn).mp e)), if_neg (by decide)]
        exact hN0 (decide_eq_false h) _ (Kp.refl _ _)
    · rw [List.map_id] at hrw
      have e := rw_strs hrw
      refine ⟨D, rfl, us', .inl ⟨sq_l hD, fun t nt => ?_⟩⟩
      subst e
      exact q _ _ ⟨t, rfl, upd_same⟩ ((k2.trans k3).trans (Kp.new nt))
end
end My

set_option Elab.async false
set_option linter.all false
set_option maxRecDepth 100000
set_option maxHeartbeats 4000000
namespace My
open PySem L2 NdefX
/-! ### data of names, of what is held, of entries -/
def sD (xs : List Str) : PyData := .tuple (xs.map PyData.str)
theorem eqvAll_strs : ∀ (a b : List Str), PyData.eqvAll (a.map PyData.str) (b.map PyData.str) = decide (a = b)
  | [], [] => rfl
  | [], _ :: _ => rfl
  | _ :: _, [] => rfl
  | x :: r, y :: t => by
    show (PyData.eqv (.str x) (.str y) && PyData.eqvAll (r.map PyData.str) (t.map PyData.str)) = _
    rw [eqvAll_strs r t]
    show ((x == y) && decide (r = t)) = _
    by_cases h : x = y
    · subst h
      by_cases h2 : r = t
      · simp [h2]
      · simp [h2]
    · rw [beq_eq_false_iff_ne.mpr h, Bool.false_and, decide_eq_false (by intro z; cases z; exact h rfl)]
theorem eqv_sD (a b : List Str) : PyData.eqv (sD a) (sD b) = decide (a = b) := eqvAll_strs a b
/-- data that may be compared, at most k deep -/
def Fk (k : Nat) (d : PyData) : Prop := PyData.canLay0 d = true ∧ d.depth ≤ k
theorem Fk.sh {k : Nat} {d : PyData} (h : Fk k d) (hk : k ≤ 60) : SeqAt.shaped d = true := by
  have : decide (d.depth ≤ 64) = true := decide_eq_true (by have := h.2; omega)
  show (PyData.canLay0 d && decide (d.depth ≤ 64)) = true
  rw [h.1, this]; rfl
theorem Fk.mono {k j : Nat} {d : PyData} (h : Fk k d) (e : k ≤ j) : Fk j d := ⟨h.1, Nat.le_trans h.2 e⟩
theorem fk_all {k : Nat} : ∀ {ds : List PyData}, (∀ d ∈ ds, Fk k d) → PyData.canLayAll0 ds = true ∧ PyData.depthAll ds ≤ k
  | [], _ => ⟨rfl, Nat.zero_le _⟩
  | d :: r, h => by
    have ih := fk_all (ds := r) fun x hx => h x (List.mem_cons_of_mem _ hx)
    have h1 := h d List.mem_cons_self
    constructor
    · show (PyData.canLay0 d && PyData.canLayAll0 r) = true
      rw [h1.1, ih.1]; rfl
    · show max d.depth (PyData.depthAll r) ≤ k
      have := h1.2
      omega
theorem fk_tup {k : Nat} {ds : List PyData} (h : ∀ d ∈ ds, Fk k d) : Fk (k + 1) (.tuple ds) := ⟨(fk_all h).1, by
  have := (fk_all h).2
  show PyData.depthAll ds + 1 ≤ k + 1
  omega⟩
theorem fk_lst {k : Nat} {ds : List PyData} (h : ∀ d ∈ ds, Fk k d) : Fk (k + 1) (.list ds) := ⟨(fk_all h).1, by
  have := (fk_all h).2
  show PyData.depthAll ds + 1 ≤ k + 1
  omega⟩
theorem fk_name {z : Str} (h : nameS z = true) : Fk 1 (.str z) := by
  unfold nameS at h
  rw [Bool.and_eq_true, Bool.and_eq_true, decide_eq_true_eq, decide_eq_true_eq, List.all_eq_true] at h
  refine ⟨?_, by simp [PyData.depth]⟩
  show PySem.PyData.canLay0 (.str z) = true
  unfold PySem.PyData.canLay0 PySem.PyData.strOk
  rw [← Array.all_toList, List.all_eq_true]
  intro c hc
  have := h.2.2 c hc
  unfold lowC at this
  rw [Bool.and_eq_true, decide_eq_true_eq, decide_eq_true_eq] at this
  exact decide_eq_true (by omega)
theorem nm_good {zs : List Str} (L : LkOk zs) {r : Nat} (hr : r < zs.length) : nameS (nmL zs r) = true := L.nm _ (List.mem_of_getElem? (nm_at hr))
def hD (zs : List Str) (h : Hd) : PyData := sD (nmH zs h)
def eD (zs : List Str) (e : En) : PyData := .tuple [hD zs e.1, .str (nmL zs e.2)]
theorem fk_hD {zs : List Str} (L : LkOk zs) {h : Hd} (hb : below zs.length h) : Fk 2 (hD zs h) := fk_tup fun d hd => by
  obtain ⟨z, hz, rfl⟩ := List.mem_map.mp hd
  obtain ⟨x, hx, rfl⟩ := List.mem_map.mp hz
  exact fk_name (nm_good L (hb x hx))
/-- an entry whose places are below n -/
def belowE (n : Nat) (e : En) : Prop := below n e.1 ∧ e.2 < n
theorem fk_eD {zs : List Str} (L : LkOk zs) {e : En} (hb : belowE zs.length e) : Fk 3 (eD zs e) := fk_tup fun d hd => by
  rcases List.mem_cons.mp hd with rfl | hd
  · exact fk_hD L hb.1
  · rw [List.mem_singleton.mp hd]
    exact (fk_name (nm_good L hb.2)).mono (by decide)
theorem eqv_hD {zs : List Str} (L : LkOk zs) {a b : Hd} (ha : below zs.length a) (hb : below zs.length b) : PyData.eqv (hD zs a) (hD zs b) = decide (a = b) := by
  unfold hD
  rw [eqv_sD, Bool.eq_iff_iff, decide_eq_true_eq, decide_eq_true_eq]
  exact nmH_eq L ha hb
theorem eqv_eD {zs : List Str} (L : LkOk zs) {a b : En} (ha : belowE zs.length a) (hb : belowE zs.length b) : PyData.eqv (eD zs a) (eD zs b) = decide (a = b) := by
  obtain ⟨a1, a2⟩ := a
  obtain ⟨b1, b2⟩ := b
  show (PyData.eqv (hD zs a1) (hD zs b1) && (PyData.eqv (.str (nmL zs a2)) (.str (nmL zs b2)) && true)) = _
  rw [eqv_hD L ha.1 hb.1, Bool.and_true]
  show (decide (a1 = b1) && (nmL zs a2 == nmL zs b2)) = _
  rw [Bool.eq_iff_iff, Bool.and_eq_true, decide_eq_true_eq, beq_iff_eq, decide_eq_true_eq, nm_eq L ha.2 hb.2, Prod.mk.injEq]
theorem any_hD {zs : List Str} (L : LkOk zs) {h : Hd} (hh : below zs.length h) : ∀ {gs : List Hd}, (∀ g ∈ gs, below zs.length g) → ((gs.map (hD zs)).any fun z => PyData.eqv z (hD zs h)) = decide (h ∈ gs)
  | [], _ => by simp
  | g :: gs, hg => by
    rw [List.map_cons, List.any_cons, any_hD L hh fun x hx => hg x (List.mem_cons_of_mem _ hx), eqv_hD L (hg g List.mem_cons_self) hh]
    by_cases e : g = h
    · simp [e]
    · have : ¬ h = g := fun z => e z.symm
      simp [e, this]
theorem any_eD {zs : List Str} (L : LkOk zs) {h : En} (hh : belowE zs.length h) : ∀ {gs : List En}, (∀ g ∈ gs, belowE zs.length g) → ((gs.map (eD zs)).any fun z => PyData.eqv z (eD zs h)) = decide (h ∈ gs)
  | [], _ => by simp
  | g :: gs, hg => by
    rw [List.map_cons, List.any_cons, any_eD L hh fun x hx => hg x (List.mem_cons_of_mem _ hx), eqv_eD L (hg g List.mem_cons_self) hh]
    by_cases e : g = h
    · simp [e]
    · have : ¬ h = g := fun z => e z.symm
      simp [e, this]
theorem TS.dp {K : PySem.W.Frag} {H : Hp} {v : V} {xs : List Str} (h : TS H v xs) : Dp K H v (sD xs) := by
  obtain ⟨a, rfl, h⟩ := h
  exact .tup (sq_t h) (dpStrs xs)
theorem HT.dp {K : PySem.W.Frag} {zs : List Str} {H : Hp} {v : V} {h : Hd} (a : HT zs H v h) : Dp K H v (hD zs h) := TS.dp a
theorem ET.dp {K : PySem.W.Frag} {zs : List Str} {H : Hp} {v : V} {e : En} (h : ET zs H v e) : Dp K H v (eD zs e) := by
  obtain ⟨a, u, rfl, h, k⟩ := h
  exact .tup (sq_t h) (.cons k.dp (.cons (.str _) .nil))
theorem rw_dp {α : Type} {K : PySem.W.Frag} {H : Hp} {R : V → α → Prop} {dt : α → PyData} (hd : ∀ v x, R v x → Dp K H v (dt x)) : ∀ {us : List V} {gs : List α}, Rw R us gs → DpAll K H us (gs.map dt)
  | us, [], r => by rw [r.isNil]; exact .nil
  | us, g :: gs, r => by
    obtain ⟨u, t, rfl, e, r'⟩ := r.ex
    exact .cons (hd _ _ e) (rw_dp hd r')
section
variable {K : PySem.W.Frag} {zs : List Str} {H : Hp} {Q : VK}
theorem eq_hd {x y : V} {a b : Hd} (L : LkOk zs) (ha : below zs.length a) (hb : below zs.length b) (hx : HT zs H x a) (hy : HT zs H y b) (q : Q (.bl (decide (a = b))) H) : rEqD K x y H Q :=
  ⟨_, _, hx.dp, hy.dp, (fk_hD L ha).sh (by decide), (fk_hD L hb).sh (by decide), by rw [eqv_hD L ha hb]; exact q⟩
theorem in_hds {x : V} {l : Addr} {us : List V} {h : Hd} {gs : List Hd} (L : LkOk zs) (hh : below zs.length h) (hg : ∀ g ∈ gs, below zs.length g) (hx : HT zs H x h) (hl : SqL K H l us) (hu : Rw (HT zs H) us gs) (q : Q (.bl (decide (h ∈ gs))) H) : rInD K x (.ref l) H Q :=
  ⟨_, _, hx.dp, .lst hl (rw_dp (fun _ _ z => z.dp) hu), (fk_hD L hh).sh (by decide), (fk_lst (k := 2) fun d hd => by obtain ⟨g, hg', rfl⟩ := List.mem_map.mp hd; exact fk_hD L (hg g hg')).sh (by decide), by rw [any_hD L hh hg]; exact q⟩
theorem nin_hds {x : V} {l : Addr} {us : List V} {h : Hd} {gs : List Hd} (L : LkOk zs) (hh : below zs.length h) (hg : ∀ g ∈ gs, below zs.length g) (hx : HT zs H x h) (hl : SqL K H l us) (hu : Rw (HT zs H) us gs) (q : Q (.bl (!decide (h ∈ gs))) H) : rNotInD K x (.ref l) H Q :=
  ⟨_, _, hx.dp, .lst hl (rw_dp (fun _ _ z => z.dp) hu), (fk_hD L hh).sh (by decide), (fk_lst (k := 2) fun d hd => by obtain ⟨g, hg', rfl⟩ := List.mem_map.mp hd; exact fk_hD L (hg g hg')).sh (by decide), by rw [any_hD L hh hg]; exact q⟩
theorem in_ens {x : V} {l : Addr} {us : List V} {h : En} {gs : List En} (L : LkOk zs) (hh : belowE zs.length h) (hg : ∀ g ∈ gs, belowE zs.length g) (hx : ET zs H x h) (hl : SqL K H l us) (hu : Rw (ET zs H) us gs) (q : Q (.bl (decide (h ∈ gs))) H) : rInD K x (.ref l) H Q :=
  ⟨_, _, hx.dp, .lst hl (rw_dp (fun _ _ z => z.dp) hu), (fk_eD L hh).sh (by decide), (fk_lst (k := 3) fun d hd => by obtain ⟨g, hg', rfl⟩ := List.mem_map.mp hd; exact fk_eD L (hg g hg')).sh (by decide), by rw [any_eD L hh hg]; exact q⟩
theorem nin_ens {x : V} {l : Addr} {us : List V} {h : En} {gs : List En} (L : LkOk zs) (hh : belowE zs.length h) (hg : ∀ g ∈ gs, belowE zs.length g) (hx : ET zs H x h) (hl : SqL K H l us) (hu : Rw (ET zs H) us gs) (q : Q (.bl (!decide (h ∈ gs))) H) : rNotInD K x (.ref l) H Q :=
  ⟨_, _, hx.dp, .lst hl (rw_dp (fun _ _ z => z.dp) hu), (fk_eD L hh).sh (by decide), (fk_lst (k := 3) fun d hd => by obtain ⟨g, hg', rfl⟩ := List.mem_map.mp hd; exact fk_eD L (hg g hg')).sh (by decide), by rw [any_eD L hh hg]; exact q⟩
end
end My

set_option Elab.async false
set_option linter.all false
set_option maxRecDepth 100000
set_option maxHeartbeats 4000000
namespace My
open PySem L2 NdefX
/-- what is held behind lock or free -/
def insR (n r : Nat) (h : Hd) : Hd := (List.range n).filter fun x => decide (x ∈ h) || decide (x = r)
def delR (r : Nat) (h : Hd) : Hd := h.filter fun x => !decide (x = r)
def aftR (n r : Nat) (h : Hd) : Hd := if r ∈ h then delR r h else insR n r h
theorem lk_rw {zs : List Str} : Rw (fun v x => v = V.str (nmL zs x)) (zs.map V.str) (List.range zs.length) := ⟨by simp, fun {i u} e => by
  rw [List.getElem?_map] at e
  have hi : i < zs.length := by
    cases hh : zs[i]? with
    | none => rw [hh] at e; cases e
    | some y => exact (List.getElem?_eq_some_iff.mp hh).1
  rw [nm_at hi] at e
  exact ⟨i, List.getElem?_range hi, (Option.some.inj e).symm⟩⟩
def stepH (n : Nat) (F : List Hd) (i : Nat) : List Hd := match F[i]? with
  | some h => F ++ ((List.range n).filter fun r => decide (h = aheadR r h)).map fun r => h ++ [r]
  | none => F
def runH (n : Nat) : Nat → List Hd
  | 0 => [[]]
  | i + 1 => stepH n (runH n i) i
/-- all that may be held -/
def hls (n : Nat) : List Hd := runH n 8
def okH (n i : Nat) : Bool := decide ((runH n i).length ≤ 8) && ((runH n i).all fun h => (h.all fun x => decide (x < n)) && decide (h.length ≤ 3)) && (decide (i < (runH n i).length) || decide (runH n i = hls n))
theorem factH0 : ∀ n, n < 4 → 1 ≤ n → ∀ i, i < 9 → okH n i = true := by decide +kernel
theorem factH {n : Nat} (h1 : n < 4) (h2 : 1 ≤ n) {i : Nat} (hi : i < 9) : (runH n i).length ≤ 8 ∧ (∀ h ∈ runH n i, below n h ∧ h.length ≤ 3) ∧ (i < (runH n i).length ∨ runH n i = hls n) := by
  have h := factH0 n h1 h2 i hi
  unfold okH at h
  rw [Bool.and_eq_true, Bool.and_eq_true, decide_eq_true_eq, List.all_eq_true, Bool.or_eq_true, decide_eq_true_eq, decide_eq_true_eq] at h
  refine ⟨h.1.1, fun g hg => ?_, h.2⟩
  have := h.1.2 g hg
  rw [Bool.and_eq_true, List.all_eq_true, decide_eq_true_eq] at this
  exact ⟨fun x hx => of_decide_eq_true (this.1 x hx), this.2⟩
/-- all entries -/
def entsOf (n : Nat) (h : Hd) : List En := ((List.range n).filter fun r => !decide (r ∈ h)).map fun r => (h, r)
def ens (n : Nat) : List En := (hls n).flatMap (entsOf n)
def okE (n : Nat) : Bool := decide ((ens n).length ≤ 12) && decide (ens n).Nodup && ((ens n).all fun e => (e.1.all fun x => decide (x < n)) && decide (e.2 < n) && decide (e.1 ∈ hls n) && !decide (e.2 ∈ e.1)) && decide (hls n).Nodup && ((hls n).all fun h => (h.all fun x => decide (x < n)) && decide (h.length ≤ 3) && (List.range n).all fun r => decide (aftR n r h ∈ hls n)) && decide ([] ∈ hls n)
theorem factE0 : ∀ n, n < 4 → 1 ≤ n → okE n = true := by decide +kernel
structure EnOk (n : Nat) : Prop where
  len : (ens n).length ≤ 12
  nd : (ens n).Nodup
  ent : ∀ e ∈ ens n, belowE n e ∧ e.1 ∈ hls n ∧ e.2 ∉ e.1
  ndh : (hls n).Nodup
  hld : ∀ h ∈ hls n, below n h ∧ h.length ≤ 3 ∧ ∀ r, r < n → aftR n r h ∈ hls n
  nil : [] ∈ hls n
theorem factE {n : Nat} (h1 : n < 4) (h2 : 1 ≤ n) : EnOk n := by
  have h := factE0 n h1 h2
  unfold okE at h
  simp only [Bool.and_eq_true, decide_eq_true_eq, List.all_eq_true] at h
  obtain ⟨⟨⟨⟨⟨a, b⟩, c⟩, d⟩, e⟩, f⟩ := h
  refine ⟨a, b, fun x hx => ?_, d, fun x hx => ?_, f⟩
  · obtain ⟨⟨⟨c1, c2⟩, c3⟩, c4⟩ := c x hx
    exact ⟨⟨c1, c2⟩, c3, fun hm => by rw [decide_eq_true hm] at c4; cases c4⟩
  · obtain ⟨⟨e1, e2⟩, e3⟩ := e x hx
    exact ⟨e1, e2, fun r hr => e3 r (List.mem_range.mpr hr)⟩
theorem HT.of {zs : List Str} {H : Hp} {a : Addr} {h : Hd} (e : H a = some (.tup ((nmH zs h).map V.str))) : HT zs H (.ref a) h := ⟨a, rfl, e⟩
theorem flat_ranks {zs : List Str} {us : List V} {h : Hd} (r : Rw (fun v x => v = V.str (nmL zs x)) us h) : us = (nmH zs h).map V.str := rw_strs r
section
variable {P : Program} {w : World} {K : PySem.W.Frag} {mg : Str → Option Value} {base : Heap} {tL t3 : Tok}
theorem in_nm {zs : List Str} {H : Hp} {a : Addr} {h : Hd} {r : Nat} {Q : VK} (L : LkOk zs) (hr : r < zs.length) (hb : below zs.length h) (ha : SqT K H a ((nmH zs h).map V.str)) (q : Q (.bl (decide (r ∈ h))) H) : rIn K false (.str (nmL zs r)) (.ref a) H Q := by
  refine ⟨a, _, rfl, .inr ha, rfl, flat_strs _, ?_⟩
  simp only [Bool.false_eq_true, if_false, inV_str]
  rw [show decide (nmL zs r ∈ nmH zs h) = decide (r ∈ h) from by rw [Bool.eq_iff_iff, decide_eq_true_eq, decide_eq_true_eq]; exact mem_nmH L hr hb]
  exact q
theorem nin_nm {zs : List Str} {H : Hp} {a : Addr} {h : Hd} {r : Nat} {Q : VK} (L : LkOk zs) (hr : r < zs.length) (hb : below zs.length h) (ha : SqT K H a ((nmH zs h).map V.str)) (q : Q (.bl (!decide (r ∈ h))) H) : rIn K true (.str (nmL zs r)) (.ref a) H Q := by
  refine ⟨a, _, rfl, .inr ha, rfl, flat_strs _, ?_⟩
  simp only [if_true, inV_str]
  rw [show decide (nmL zs r ∈ nmH zs h) = decide (r ∈ h) from by rw [Bool.eq_iff_iff, decide_eq_true_eq, decide_eq_true_eq]; exact mem_nmH L hr hb]
  exact q
end
end My

set_option Elab.async false
set_option linter.all false
set_option maxRecDepth 100000
set_option maxHeartbeats 4000000
namespace My
open PySem L2 NdefX
def WHd (K : PySem.W.Frag) (zs : List Str) (a fl : Addr) (H : Hp) (k : Nat) (σ : L2.St) (H' : Hp) : Prop := ∃ (i : Nat) (us : List V) (c4 c5 : Option V), σ = [some (.ref a), some (.ref fl), some (.int (i : Nat)), c4, c5] ∧ H' fl = some (.lst us) ∧ Rw (HT zs H') us (runH zs.length i) ∧ Kp [] H H' ∧ i ≤ 8 ∧ i ≤ (runH zs.length i).length ∧ k = 9 - i
section
variable {P : Program} {w : World} {K : PySem.W.Frag} {mg : Str → Option Value} {base : Heap} {tL t3 : Tok}
def spHeld (K : PySem.W.Frag) : Sp := fun vs H Q _ => ∃ (a : Addr) (zs : List Str), vs = [.ref a] ∧ LkOk zs ∧ LkAt K H a zs ∧ ∀ l us H', H l = none → H' l = some (.lst us) → Rw (HT zs H') us (hls zs.length) → Kp [] H H' → Q (.ref l) H'
theorem ok_all_held {f : Addr} {fd : FuncData} (D : Df K mg "all_held" s_all_held ["locks"] f fd) (T : Bt mg tL t3) {f1 : Addr} {fd1 : FuncData} (D_names_ahead : Df K mg "names_ahead" s_names_ahead ["name", "held", "locks"] f1 fd1) (G_names_ahead : FnOk P w K mg base CX0 1 f1 fd1 ["name", "held", "locks"] (spAhead K)) : FnOk P w K mg base CX0 2 f fd ["locks"] (spHeld K) := by
  refine D.F.ok sc_all_held (fun vs H Q E h => ?_) (fun cdv A outer s H vs Q E hr h => ?_)
  · obtain ⟨_, _, rfl, _⟩ := h
    rfl
  · obtain ⟨a, zs, rfl, L, ha, q⟩ := h
    have hu := hu_of hr
    have n1 := L.pos
    have n3 : zs.length < 4 := by have := L.le; omega
    refine ⟨_, (pss_cons (ps_set (i := 1) sc_all_held.nd rfl (Or.inl rfl) (pe_lst (pa_cons (pe_tup pa_nil) pa_nil)))
      (pss_cons (ps_set (i := 2) sc_all_held.nd rfl (Or.inl rfl) pe_int)
      (pss_cons (ps_while PassesOwn.never (pt_cmpR op_lt (pv 2) (pe_callB (id := "len") (r := Evl.rLenS K) call_len_seq (by rfl) T.b_len PySem.boot_len (pa_cons (pv 1) pa_nil)) (nomark _)) (pss_cons (ps_set (i := 3) sc_all_held.nd rfl (Or.inr rfl) (pe_ix (r := rIxL K) ix_list (pv 1) (pv 2) (fun _ _ => rfl)))
      (pss_cons (ps_expr (pe_bm PySem.F.plainAttrs_list PySem.F.slot_list_extend PySem.F.type_list_extend mt_extend (pv 1) (pa_cons (pe_lc (own := [("name", 4)]) (g := (gName 4)) rfl sc_all_held.nd (pi_seq (pv 0)) (blkOk_by (N := ["locks", "found", "at", "held", "name"]) (sc := defScope s_all_held) (by decide +kernel)) (fun _ _ _ _ _ => (pg_name (i := 4) sc_all_held.nd rfl (Or.inl rfl))) (fun _ _ _ _ _ => (pts_one (pt_cmpR (r := rEqD K) (op_eqD hr.units) (pv 3) (pe_call G_names_ahead (hr.mono (by decide)) rfl D_names_ahead.g D_names_ahead.F.kp D_names_ahead.b .nil pass0 (pa_cons (pv 4) (pa_cons (pv 3) (pa_cons (pv 0) pa_nil)))) (nomark _)))) (fun _ _ _ _ _ => (pe_op (r := rCatA K) op_catA (pv 3) (pe_tup (pa_cons (pv 4) pa_nil))))) pa_nil)))
      (pss_one (ps_aug (i := 2) sc_all_held.nd rfl (Or.inl rfl) pe_int ip_add)))))
      (pss_one (ps_ret (pv 1)))))), ?_⟩
    try simp (maxSteps := 1000000) only [tSeq, tIfS, tTest, tOp, tUn, tCB, tCons, tNil, tVar, tC, rI0, rI, rU, rEq, rNe, tRet, tRetN, tAsg, gName, gSub, tBM, tBM0, tNext, tB, tNot, tAnd, tOr, tIf, tCall, tDrop, tBreak, tCont, L2.start, tDGet, sDPut, tTup, tLst, tDNewK, tRevL, rCat, rAppend, rPop, rSetL, tAndV, tOrV, tNotV, tSl, tPart, tNoPart, tM1, gTup, gCons, gNil, cxK, cxnK, List.map_cons, List.map_nil, List.length_cons, List.length_nil, List.replicate, List.cons_append, List.nil_append, List.append_nil, List.set_cons_zero, List.set_cons_succ, List.getElem?_cons_zero, List.getElem?_cons_succ, Option.some.injEq, V.ref.injEq, V.int.injEq, V.str.injEq, V.bl.injEq, V.ty.injEq, exists_eq_left', exists_eq_left, exists_and_left, List.cons.injEq, and_true, true_and, sc_ii, sc_ss, sc_bb, sc_ni, sc_in, sc_is, sc_si, sc_nn, decide_true, decide_false, reduceCtorEq, Bool.false_eq_true, if_true, if_false, ite_true, ite_false, exists_const, eq_self, false_and, and_false, or_false, false_or, exists_false, Evl.rLenS, rSum, wipe, tYes, exists_eq, exists_eq', rIxL, rIxT, rIxS, exists_and_right, gt_iff_lt, not_true_eq_false, not_false_eq_true, Bool.not_true, Bool.not_false, decide_eq_true_eq, Nat.reduceSub, Nat.reduceAdd, List.append_assoc, tChain, tDIn, tDNotIn, sDDel, tAug, ipI, rInt1_int, rInt1_bl]
    refine ⟨Nat.zero_le _, fun e0 ne0 => ⟨by rw [sizeLine_eq]; decide, fun fl nfl => ?_⟩⟩
    have k0 := (Kp.new ne0 : Kp [] H (upd H e0 (.tup [])))
    have k1 := k0.trans (Kp.new nfl (o := .lst [.ref e0]))
    have he : (upd (upd H e0 (.tup [])) fl (.lst [.ref e0])) e0 = some (.tup []) := (Kp.new nfl (S := []) (o := .lst [.ref e0])) _ _ not0 upd_same
    have hf : (upd (upd H e0 (.tup [])) fl (.lst [.ref e0])) fl = some (.lst [.ref e0]) := upd_same
    have nfl0 : H fl = none := k0.free0 nfl
    generalize upd (upd H e0 (.tup [])) fl (.lst [.ref e0]) = H1 at k1 he hf ⊢
    refine ⟨WHd K zs a fl H, ⟨9, 0, _, _, _, rfl, hf, .cons (HT.of he) .nil, k1, by decide, Nat.zero_le _, rfl⟩, ?_⟩
    rintro k σ H2 ⟨i, us, c4, c5, rfl, hf2, hr2, k2, i8, il, rfl⟩
    try simp (maxSteps := 1000000) only [tSeq, tIfS, tTest, tOp, tUn, tCB, tCons, tNil, tVar, tC, rI0, rI, rU, rEq, rNe, tRet, tRetN, tAsg, gName, gSub, tBM, tBM0, tNext, tB, tNot, tAnd, tOr, tIf, tCall, tDrop, tBreak, tCont, L2.start, tDGet, sDPut, tTup, tLst, tDNewK, tRevL, rCat, rAppend, rPop, rSetL, tAndV, tOrV, tNotV, tSl, tPart, tNoPart, tM1, gTup, gCons, gNil, cxK, cxnK, List.map_cons, List.map_nil, List.length_cons, List.length_nil, List.replicate, List.cons_append, List.nil_append, List.append_nil, List.set_cons_zero, List.set_cons_succ, List.getElem?_cons_zero, List.getElem?_cons_succ, Option.some.injEq, V.ref.injEq, V.int.injEq, V.str.injEq, V.bl.injEq, V.ty.injEq, exists_eq_left', exists_eq_left, exists_and_left, List.cons.injEq, and_true, true_and, sc_ii, sc_ss, sc_bb, sc_ni, sc_in, sc_is, sc_si, sc_nn, decide_true, decide_false, reduceCtorEq, Bool.false_eq_true, if_true, if_false, ite_true, ite_false, exists_const, eq_self, false_and, and_false, or_false, false_or, exists_false, Evl.rLenS, rSum, wipe, tYes, exists_eq, exists_eq', rIxL, rIxT, rIxS, exists_and_right, gt_iff_lt, not_true_eq_false, not_false_eq_true, Bool.not_true, Bool.not_false, decide_eq_true_eq, Nat.reduceSub, Nat.reduceAdd, List.append_assoc, tChain, tDIn, tDNotIn, sDDel, tAug, ipI, rInt1_int, rInt1_bl]
    refine ⟨_, .inl (sq_l hf2), ?_⟩
    obtain ⟨F1, F2, F3⟩ := factH n3 n1 (i := i) (by omega)
    rw [hr2.len]
    by_cases lt : i < (runH zs.length i).length
    · rw [if_pos (by omega)]
      have eh := List.getElem?_eq_getElem lt
      generalize (runH zs.length i)[i] = h at eh
      have hm := List.mem_of_getElem? eh
      obtain ⟨hb, h3⟩ := F2 h hm
      obtain ⟨v, ev, hv⟩ := hr2.at eh
      refine ⟨fun σ' H' => ∃ m', m' < 9 - i ∧ WHd K zs a fl H m' σ' H', fun _ _ h => h, ?_⟩
      refine ⟨_, sq_l hf2, _, atI_nat ev, ?_⟩
      have ha2 : LkAt K H2 a zs := LkAt.kp ha k2
      refine ⟨.inl ⟨rfl, _, sq_l hf2⟩, ?_⟩
      refine lcG (R := fun _ v x => v = V.str (nmL zs x)) (R2 := HT zs) (fun _ _ _ _ _ h => h) (fun _ _ _ _ t h => h.tp t) (fun r => decide (h = aheadR r h)) (fun r => h ++ [r]) (src_seq (fun R q' => ⟨_, rfl, q'⟩) ha2) lk_rw (by rw [List.length_range]; omega) (fun v x H3 N N0 hx hv k3 hN hN0 => ?_) fun D us' H3 nD hD hrw k3 => ?_
      · subst hv
        have xn := List.mem_range.mp hx
        have hv3 := hv.tp k3.tps
        refine ⟨by simp [wipe], ?_⟩
        try simp (maxSteps := 1000000) only [tSeq, tIfS, tTest, tOp, tUn, tCB, tCons, tNil, tVar, tC, rI0, rI, rU, rEq, rNe, tRet, tRetN, tAsg, gName, gSub, tBM, tBM0, tNext, tB, tNot, tAnd, tOr, tIf, tCall, tDrop, tBreak, tCont, L2.start, tDGet, sDPut, tTup, tLst, tDNewK, tRevL, rCat, rAppend, rPop, rSetL, tAndV, tOrV, tNotV, tSl, tPart, tNoPart, tM1, gTup, gCons, gNil, cxK, cxnK, List.map_cons, List.map_nil, List.length_cons, List.length_nil, List.replicate, List.cons_append, List.nil_append, List.append_nil, List.set_cons_zero, List.set_cons_succ, List.getElem?_cons_zero, List.getElem?_cons_succ, Option.some.injEq, V.ref.injEq, V.int.injEq, V.str.injEq, V.bl.injEq, V.ty.injEq, exists_eq_left', exists_eq_left, exists_and_left, List.cons.injEq, and_true, true_and, sc_ii, sc_ss, sc_bb, sc_ni, sc_in, sc_is, sc_si, sc_nn, decide_true, decide_false, reduceCtorEq, Bool.false_eq_true, if_true, if_false, ite_true, ite_false, exists_const, eq_self, false_and, and_false, or_false, false_or, exists_false, Evl.rLenS, rSum, wipe, tYes, exists_eq, exists_eq', rIxL, rIxT, rIxS, exists_and_right, gt_iff_lt, not_true_eq_false, not_false_eq_true, Bool.not_true, Bool.not_false, decide_eq_true_eq, Nat.reduceSub, Nat.reduceAdd, List.append_assoc, tChain, tDIn, tDNotIn, sDDel, tAug, ipI, rInt1_int, rInt1_bl]
        refine ⟨_, _, zs, x, h, rfl, L, xn, hv3, hb, by omega, LkAt.kp ha2 k3, fun u H4 hu4 k4 => ?_⟩
        refine eq_hd (b := aheadR x h) L hb (fun y hy => hb y (List.mem_filter.mp hy).1) (hv3.tp k4.tps) hu4 ⟨_, rfl, ?_⟩
        by_cases e : h = aheadR x h
        · rw [decide_eq_true e, if_pos rfl]
          obtain ⟨va, rfl, hva⟩ := hv3.tp k4.tps
          refine ⟨by rw [sizeLine_eq]; decide, fun t nt => ?_⟩
          have kt := (Kp.new nt : Kp [] H4 (upd H4 t (.tup [.str (nmL zs x)])))
          refine catA_use (kt _ _ not0 hva) upd_same (by simp [nmH]; omega) fun r' H' hr' k' => ?_
          exact hN (decide_eq_true e) _ _ ⟨r', rfl, by rw [hr']; simp [nmH]⟩ ((k4.trans kt).trans k')
        · rw [decide_eq_false e, if_neg (by decide)]
          exact hN0 (decide_eq_false e) _ k4
      · have hf3 := k3 _ _ not0 hf2
        have hr3 := hr2.mono fun _ _ z => z.tp k3.tps
        have es : runH zs.length (i + 1) = runH zs.length i ++ ((List.range zs.length).filter fun r => decide (h = aheadR r h)).map fun r => h ++ [r] := by
          show stepH zs.length (runH zs.length i) i = _
          unfold stepH
          rw [eh]
        have F1' := (factH n3 n1 (i := i + 1) (by omega)).1
        have l2 : us.length + us'.length ≤ 8 := by
          rw [hr3.len, hrw.len, ← List.length_append, ← es]
          exact F1'
        have tp : Tp H3 (upd H3 fl (.lst (us ++ us'))) := (Tp.refl _).putL hf3
        refine ⟨fl, D, us, us', rfl, rfl, hf3, hD, small (by omega), 9 - (i + 1), by omega, i + 1, _, _, _, rfl, upd_same, ?_, (k2.trans k3).wr nfl0, by omega, ?_, rfl⟩
        · rw [es]
          exact (hr3.mono fun _ _ z => z.tp tp).app (hrw.mono fun _ _ z => z.tp tp)
        · rw [es, List.length_append]
          omega
    · rw [if_neg (by omega)]
      have e : runH zs.length i = hls zs.length := F3.resolve_left lt
      exact q fl us H2 nfl0 hf2 (e ▸ hr2) k2
/-- the two-clause comprehension, as told -/
def spEnts (K : PySem.W.Frag) : Sp := fun vs H Q _ => ∃ (a : Addr) (zs : List Str), vs = [.ref a] ∧ LkOk zs ∧ LkAt K H a zs ∧ ∀ l us H', H l = none → H' l = some (.lst us) → Rw (ET zs H') us (ens zs.length) → Kp [] H H' → Q (.ref l) H'
theorem ok_all_entries {f : Addr} {fd : FuncData} (D : Df K mg "all_entries" s_all_entries ["locks"] f fd) {f1 : Addr} {fd1 : FuncData} (D_all_held : Df K mg "all_held" s_all_held ["locks"] f1 fd1) (G_all_held : FnOk P w K mg base CX0 2 f1 fd1 ["locks"] (spHeld K)) : FnOk P w K mg base CX0 3 f fd ["locks"] (spEnts K) := by
  refine D.F.ok sc_all_entries (fun vs H Q E h => ?_) (fun cdv A outer s H vs Q E hr h => ?_)
  · obtain ⟨_, _, rfl, _⟩ := h
    rfl
  · obtain ⟨a, zs, rfl, L, ha, q⟩ := h
    have hu := hu_of hr
    refine ⟨_, (pss_one (ps_ret (pe_lc2 (own := [("held", 1), ("name", 2)]) (g1 := (gName 1)) (g2 := (gName 2)) (vs2 := [2]) (tt1 := tYes) rfl sc_all_entries.nd (pi_list (pe_call G_all_held (hr.mono (by decide)) rfl D_all_held.g D_all_held.F.kp D_all_held.b .nil pass0 (pa_cons (pv 0) pa_nil))) (blkOk_by (N := ["locks", "held", "name"]) (sc := defScope s_all_entries) (by decide +kernel)) (by decide) (fun _ _ _ _ _ => (pg_name (i := 1) sc_all_entries.nd rfl (Or.inl rfl))) (fun _ _ _ _ _ => pts_nil) (fun _ _ _ _ _ => ((pi_seq (pv 0)) : PI _ _ _ (iSeq K _))) (fun _ _ _ _ _ => (pg_name (i := 2) sc_all_entries.nd rfl (Or.inl rfl))) (fun _ _ _ _ _ => (pts_one (pt_cmpR (r := rIn K true) op_notIn_seq (pv 2) (pv 1) (by rfl)))) (fun _ _ _ _ _ => (pe_tup (pa_cons (pv 1) (pa_cons (pv 2) pa_nil))))))), ?_⟩
    try simp (maxSteps := 1000000) only [tSeq, tIfS, tTest, tOp, tUn, tCB, tCons, tNil, tVar, tC, rI0, rI, rU, rEq, rNe, tRet, tRetN, tAsg, gName, gSub, tBM, tBM0, tNext, tB, tNot, tAnd, tOr, tIf, tCall, tDrop, tBreak, tCont, L2.start, tDGet, sDPut, tTup, tLst, tDNewK, tRevL, rCat, rAppend, rPop, rSetL, tAndV, tOrV, tNotV, tSl, tPart, tNoPart, tM1, gTup, gCons, gNil, cxK, cxnK, List.map_cons, List.map_nil, List.length_cons, List.length_nil, List.replicate, List.cons_append, List.nil_append, List.append_nil, List.set_cons_zero, List.set_cons_succ, List.getElem?_cons_zero, List.getElem?_cons_succ, Option.some.injEq, V.ref.injEq, V.int.injEq, V.str.injEq, V.bl.injEq, V.ty.injEq, exists_eq_left', exists_eq_left, exists_and_left, List.cons.injEq, and_true, true_and, sc_ii, sc_ss, sc_bb, sc_ni, sc_in, sc_is, sc_si, sc_nn, decide_true, decide_false, reduceCtorEq, Bool.false_eq_true, if_true, if_false, ite_true, ite_false, exists_const, eq_self, false_and, and_false, or_false, false_or, exists_false, Evl.rLenS, rSum, wipe, tYes, exists_eq, exists_eq', rIxL, rIxT, rIxS, exists_and_right, gt_iff_lt, not_true_eq_false, not_false_eq_true, Bool.not_true, Bool.not_false, decide_eq_true_eq, Nat.reduceSub, Nat.reduceAdd, List.append_assoc, tChain, tDIn, tDNotIn, sDDel, tAug, ipI, rInt1_int, rInt1_bl]
    have E := factE (n := zs.length) (by have := L.le; omega) L.pos
    refine lc2_src ?_
    try simp (maxSteps := 1000000) only [tSeq, tIfS, tTest, tOp, tUn, tCB, tCons, tNil, tVar, tC, rI0, rI, rU, rEq, rNe, tRet, tRetN, tAsg, gName, gSub, tBM, tBM0, tNext, tB, tNot, tAnd, tOr, tIf, tCall, tDrop, tBreak, tCont, L2.start, tDGet, sDPut, tTup, tLst, tDNewK, tRevL, rCat, rAppend, rPop, rSetL, tAndV, tOrV, tNotV, tSl, tPart, tNoPart, tM1, gTup, gCons, gNil, cxK, cxnK, List.map_cons, List.map_nil, List.length_cons, List.length_nil, List.replicate, List.cons_append, List.nil_append, List.append_nil, List.set_cons_zero, List.set_cons_succ, List.getElem?_cons_zero, List.getElem?_cons_succ, Option.some.injEq, V.ref.injEq, V.int.injEq, V.str.injEq, V.bl.injEq, V.ty.injEq, exists_eq_left', exists_eq_left, exists_and_left, List.cons.injEq, and_true, true_and, sc_ii, sc_ss, sc_bb, sc_ni, sc_in, sc_is, sc_si, sc_nn, decide_true, decide_false, reduceCtorEq, Bool.false_eq_true, if_true, if_false, ite_true, ite_false, exists_const, eq_self, false_and, and_false, or_false, false_or, exists_false, Evl.rLenS, rSum, wipe, tYes, exists_eq, exists_eq', rIxL, rIxT, rIxS, exists_and_right, gt_iff_lt, not_true_eq_false, not_false_eq_true, Bool.not_true, Bool.not_false, decide_eq_true_eq, Nat.reduceSub, Nat.reduceAdd, List.append_assoc, tChain, tDIn, tDNotIn, sDDel, tAug, ipI, rInt1_int, rInt1_bl]
    refine ⟨a, zs, rfl, L, ha, fun l us H1 nl hl hus k1 => ?_⟩
    dsimp only
    refine lc2G (R := HT zs) (S := fun _ v x => v = V.str (nmL zs x)) (R2 := ET zs) (fun _ _ _ _ t h => h.tp t) (fun _ _ _ _ _ h => h) (fun _ _ _ _ t h => h.tp t) (fun _ => List.range zs.length) (fun h r => !decide (r ∈ h)) (fun h r => (h, r)) (src_list (fun R q' => q') (sq_l hl)) hus ?_ (fun v h H2 M hm hv k2 hM => ?_) fun D us' H2 nD hD hr' k2 => ?_
    · have : ∀ n, n < 4 → ((hls n).flatMap fun _ => List.range n).length ≤ 1000 := by decide +kernel
      exact this _ (by have := L.le; omega)
    · obtain ⟨hb, h3, _⟩ := E.hld h hm
      refine hM _ _ (by simp [wipe]) (Kp.refl _ _) ⟨a, _, src2_seq k2 (fun R q' => ⟨_, rfl, q'⟩) (LkAt.kp ha k1), lk_rw⟩ fun u r H3 N N0 hr hu k3 t3 hN hN0 => ?_
      subst hu
      have rn := List.mem_range.mp hr
      refine ⟨by simp [wipe], ?_⟩
      obtain ⟨va, rfl, hva⟩ := hv.tp t3
      try simp (maxSteps := 1000000) only [tSeq, tIfS, tTest, tOp, tUn, tCB, tCons, tNil, tVar, tC, rI0, rI, rU, rEq, rNe, tRet, tRetN, tAsg, gName, gSub, tBM, tBM0, tNext, tB, tNot, tAnd, tOr, tIf, tCall, tDrop, tBreak, tCont, L2.start, tDGet, sDPut, tTup, tLst, tDNewK, tRevL, rCat, rAppend, rPop, rSetL, tAndV, tOrV, tNotV, tSl, tPart, tNoPart, tM1, gTup, gCons, gNil, cxK, cxnK, List.map_cons, List.map_nil, List.length_cons, List.length_nil, List.replicate, List.cons_append, List.nil_append, List.append_nil, List.set_cons_zero, List.set_cons_succ, List.getElem?_cons_zero, List.getElem?_cons_succ, Option.some.injEq, V.ref.injEq, V.int.injEq, V.str.injEq, V.bl.injEq, V.ty.injEq, exists_eq_left', exists_eq_left, exists_and_left, List.cons.injEq, and_true, true_and, sc_ii, sc_ss, sc_bb, sc_ni, sc_in, sc_is, sc_si, sc_nn, decide_true, decide_false, reduceCtorEq, Bool.false_eq_true, if_true, if_false, ite_true, ite_false, exists_const, eq_self, false_and, and_false, or_false, false_or, exists_false, Evl.rLenS, rSum, wipe, tYes, exists_eq, exists_eq', rIxL, rIxT, rIxS, exists_and_right, gt_iff_lt, not_true_eq_false, not_false_eq_true, Bool.not_true, Bool.not_false, decide_eq_true_eq, Nat.reduceSub, Nat.reduceAdd, List.append_assoc, tChain, tDIn, tDNotIn, sDDel, tAug, ipI, rInt1_int, rInt1_bl]
      refine nin_nm L rn hb (sq_t hva) ⟨_, rfl, ?_⟩
      by_cases e : r ∈ h
      · rw [decide_eq_true e, if_neg (by decide)]
        exact hN0 (by simp [e]) _ (Kp.refl _ _)
      · rw [decide_eq_false e, if_pos (by decide)]
        try simp (maxSteps := 1000000) only [tSeq, tIfS, tTest, tOp, tUn, tCB, tCons, tNil, tVar, tC, rI0, rI, rU, rEq, rNe, tRet, tRetN, tAsg, gName, gSub, tBM, tBM0, tNext, tB, tNot, tAnd, tOr, tIf, tCall, tDrop, tBreak, tCont, L2.start, tDGet, sDPut, tTup, tLst, tDNewK, tRevL, rCat, rAppend, rPop, rSetL, tAndV, tOrV, tNotV, tSl, tPart, tNoPart, tM1, gTup, gCons, gNil, cxK, cxnK, List.map_cons, List.map_nil, List.length_cons, List.length_nil, List.replicate, List.cons_append, List.nil_append, List.append_nil, List.set_cons_zero, List.set_cons_succ, List.getElem?_cons_zero, List.getElem?_cons_succ, Option.some.injEq, V.ref.injEq, V.int.injEq, V.str.injEq, V.bl.injEq, V.ty.injEq, exists_eq_left', exists_eq_left, exists_and_left, List.cons.injEq, and_true, true_and, sc_ii, sc_ss, sc_bb, sc_ni, sc_in, sc_is, sc_si, sc_nn, decide_true, decide_false, reduceCtorEq, Bool.false_eq_true, if_true, if_false, ite_true, ite_false, exists_const, eq_self, false_and, and_false, or_false, false_or, exists_false, Evl.rLenS, rSum, wipe, tYes, exists_eq, exists_eq', rIxL, rIxT, rIxS, exists_and_right, gt_iff_lt, not_true_eq_false, not_false_eq_true, Bool.not_true, Bool.not_false, decide_eq_true_eq, Nat.reduceSub, Nat.reduceAdd, List.append_assoc, tChain, tDIn, tDNotIn, sDDel, tAug, ipI, rInt1_int, rInt1_bl]
        refine ⟨by rw [sizeLine_eq]; decide, fun t nt => ?_⟩
        have kt := (Kp.new nt : Kp [] H3 (upd H3 t (.tup [.ref va, .str (nmL zs r)])))
        exact hN (by simp [e]) _ _ ⟨t, _, rfl, upd_same, ⟨va, rfl, kt _ _ not0 hva⟩⟩ kt
    · exact q D us' H2 (k1.free0 nD) hD hr' (k1.trans k2)
end
end My

set_option Elab.async false
set_option linter.all false
set_option maxRecDepth 100000
set_option maxHeartbeats 4000000
namespace My
open PySem L2 NdefX
abbrev s_Rule_init : Stmt := mtop 12 0
theorem sc_Rule_init : FnScope ["self", "locks", "entries", "at", "name", "possible", "entry"] ["self", "locks", "entries"] (defScope s_Rule_init) := ⟨rfl, rfl, rfl, by decide +kernel, rfl, by decide +kernel, by decide +kernel⟩
abbrev s_Rule_locks : Stmt := mtop 12 1
theorem sc_Rule_locks : FnScope ["self"] ["self"] (defScope s_Rule_locks) := ⟨rfl, rfl, rfl, by decide +kernel, rfl, by decide +kernel, by decide +kernel⟩
abbrev s_Rule_len : Stmt := mtop 12 3
theorem sc_Rule_len : FnScope ["self"] ["self"] (defScope s_Rule_len) := ⟨rfl, rfl, rfl, by decide +kernel, rfl, by decide +kernel, by decide +kernel⟩
abbrev s_Rule_iter : Stmt := mtop 12 4
theorem sc_Rule_iter : FnScope ["self"] ["self"] (defScope s_Rule_iter) := ⟨rfl, rfl, rfl, by decide +kernel, rfl, by decide +kernel, by decide +kernel⟩
abbrev s_Rule_getitem : Stmt := mtop 12 5
theorem sc_Rule_getitem : FnScope ["self", "at", "held", "goal"] ["self", "at"] (defScope s_Rule_getitem) := ⟨rfl, rfl, rfl, by decide +kernel, rfl, by decide +kernel, by decide +kernel⟩
structure RuC (K : PySem.W.Frag) (mg : Str → Option Value) (RC : Addr) : Prop where
  k : mg "Rule" = some (.ref RC)
  cl : Cls K RC
  n1 : NoAttr K RC "_locks"
  n2 : NoAttr K RC "_entries"
/-- at o a rule of these locks with these entries -/
def RuAt (RC : Addr) (H : Hp) (o : Addr) (zs : List Str) (es : List En) : Prop := ∃ (dx l m : Addr) (us : List V), H o = some (.ins RC dx [("_locks", .ref l), ("_entries", .ref m)]) ∧ H l = some (.lst (zs.map V.str)) ∧ H m = some (.lst us) ∧ Rw (ET zs H) us es ∧ LkOk zs ∧ es.Sublist (ens zs.length)
theorem RuAt.kp {RC : Addr} {H H' : Hp} {o : Addr} {zs : List Str} {es : List En} (h : RuAt RC H o zs es) (k : Kp [] H H') : RuAt RC H' o zs es := by
  obtain ⟨dx, l, m, us, h1, h2, h3, h4, h5, h6⟩ := h
  exact ⟨dx, l, m, us, k _ _ not0 h1, k _ _ not0 h2, k _ _ not0 h3, h4.mono fun _ _ z => z.tp k.tps, h5, h6⟩
theorem sub_filter {es gs : List En} (h : gs.Sublist es) (nd : es.Nodup) : es.filter (fun e => decide (e ∈ gs)) = gs := by
  induction h with
  | slnil => rfl
  | @cons a b c h ih =>
    rw [List.nodup_cons] at nd
    have : c ∉ a := fun z => nd.1 (h.subset z)
    rw [List.filter_cons, if_neg (by simpa using this)]
    exact ih nd.2
  | @cons_cons a b c h ih =>
    rw [List.nodup_cons] at nd
    have e : ∀ x ∈ b, (decide (x ∈ c :: a)) = decide (x ∈ a) := fun x hx => by
      have : x ≠ c := fun z => nd.1 (z ▸ hx)
      simp [this]
    rw [List.filter_cons, if_pos (by simp), List.filter_congr e, ih nd.2]
section
variable {P : Program} {w : World} {K : PySem.W.Frag} {mg : Str → Option Value} {base : Heap} {tL t3 : Tok} {RC : Addr}
def spRuL (RC : Addr) : Sp := fun vs H Q _ => ∃ (o : Addr) (zs : List Str) (es : List En), vs = [.ref o] ∧ RuAt RC H o zs es ∧ ∀ l H', H l = none → H' l = some (.lst (zs.map V.str)) → Kp [] H H' → Q (.ref l) H'
theorem ok_Rule_locks {f : Addr} {fd : FuncData} (F : Fun K "locks" "Rule.locks" s_Rule_locks f fd) (T : Bt mg tL t3) (RR : RuC K mg RC) : FnOk P w K mg base CX0 1 f fd ["self"] (spRuL RC) := by
  refine F.ok sc_Rule_locks (fun vs H Q E h => ?_) (fun cdv A outer s H vs Q E hr h => ?_)
  · obtain ⟨_, _, _, rfl, _⟩ := h
    rfl
  · obtain ⟨o, zs, es, rfl, ⟨dx, l, m, us, ho, hl, hm, hr', L, hs⟩, q⟩ := h
    refine ⟨_, (pss_one (ps_ret (pe_callTy call_list_of (by rfl) T.b_list (by decide +kernel) (pa_cons (pe_fld (pv 0) rfl) pa_nil)))), ?_⟩
    try simp (maxSteps := 1000000) only [tSeq, tIfS, tTest, tOp, tUn, tCB, tCons, tNil, tVar, tC, rI0, rI, rU, rEq, rNe, tRet, tRetN, tAsg, gName, gSub, tBM, tBM0, tNext, tB, tNot, tAnd, tOr, tIf, tCall, tDrop, tBreak, tCont, L2.start, tDGet, sDPut, tTup, tLst, tDNewK, tRevL, rCat, rAppend, rPop, rSetL, tAndV, tOrV, tNotV, tSl, tPart, tNoPart, tM1, gTup, gCons, gNil, cxK, cxnK, List.map_cons, List.map_nil, List.length_cons, List.length_nil, List.replicate, List.cons_append, List.nil_append, List.append_nil, List.set_cons_zero, List.set_cons_succ, List.getElem?_cons_zero, List.getElem?_cons_succ, Option.some.injEq, V.ref.injEq, V.int.injEq, V.str.injEq, V.bl.injEq, V.ty.injEq, exists_eq_left', exists_eq_left, exists_and_left, List.cons.injEq, and_true, true_and, sc_ii, sc_ss, sc_bb, sc_ni, sc_in, sc_is, sc_si, sc_nn, decide_true, decide_false, reduceCtorEq, Bool.false_eq_true, if_true, if_false, ite_true, ite_false, exists_const, eq_self, false_and, and_false, or_false, false_or, exists_false, Evl.rLenS, rSum, wipe, tYes, exists_eq, exists_eq', rIxL, rIxT, rIxS, exists_and_right, gt_iff_lt, not_true_eq_false, not_false_eq_true, Bool.not_true, Bool.not_false, decide_eq_true_eq, Nat.reduceSub, Nat.reduceAdd, List.append_assoc, tChain, tDIn, tDNotIn, sDDel, tAug, ipI, rInt1_int, rInt1_bl, tFld]
    refine ⟨RC, dx, _, ho, RR.cl, RR.n1, .ref l, rfl, l, rfl, _, .inl (sq_l hl), fun p np => ?_⟩
    exact q p _ np upd_same (Kp.new np)
def spRuN (RC : Addr) : Sp := fun vs H Q _ => ∃ (o : Addr) (zs : List Str) (es : List En), vs = [.ref o] ∧ RuAt RC H o zs es ∧ Q (.int (es.length : Nat)) H
theorem ok_Rule_len {f : Addr} {fd : FuncData} (F : Fun K "__len__" "Rule.__len__" s_Rule_len f fd) (T : Bt mg tL t3) (RR : RuC K mg RC) : FnOk P w K mg base CX0 1 f fd ["self"] (spRuN RC) := by
  refine F.ok sc_Rule_len (fun vs H Q E h => ?_) (fun cdv A outer s H vs Q E hr h => ?_)
  · obtain ⟨_, _, _, rfl, _⟩ := h
    rfl
  · obtain ⟨o, zs, es, rfl, ⟨dx, l, m, us, ho, hl, hm, hr', L, hs⟩, q⟩ := h
    refine ⟨_, (pss_one (ps_ret (pe_callB (id := "len") (r := Evl.rLenS K) call_len_seq (by rfl) T.b_len PySem.boot_len (pa_cons (pe_fld (pv 0) rfl) pa_nil)))), ?_⟩
    try simp (maxSteps := 1000000) only [tSeq, tIfS, tTest, tOp, tUn, tCB, tCons, tNil, tVar, tC, rI0, rI, rU, rEq, rNe, tRet, tRetN, tAsg, gName, gSub, tBM, tBM0, tNext, tB, tNot, tAnd, tOr, tIf, tCall, tDrop, tBreak, tCont, L2.start, tDGet, sDPut, tTup, tLst, tDNewK, tRevL, rCat, rAppend, rPop, rSetL, tAndV, tOrV, tNotV, tSl, tPart, tNoPart, tM1, gTup, gCons, gNil, cxK, cxnK, List.map_cons, List.map_nil, List.length_cons, List.length_nil, List.replicate, List.cons_append, List.nil_append, List.append_nil, List.set_cons_zero, List.set_cons_succ, List.getElem?_cons_zero, List.getElem?_cons_succ, Option.some.injEq, V.ref.injEq, V.int.injEq, V.str.injEq, V.bl.injEq, V.ty.injEq, exists_eq_left', exists_eq_left, exists_and_left, List.cons.injEq, and_true, true_and, sc_ii, sc_ss, sc_bb, sc_ni, sc_in, sc_is, sc_si, sc_nn, decide_true, decide_false, reduceCtorEq, Bool.false_eq_true, if_true, if_false, ite_true, ite_false, exists_const, eq_self, false_and, and_false, or_false, false_or, exists_false, Evl.rLenS, rSum, wipe, tYes, exists_eq, exists_eq', rIxL, rIxT, rIxS, exists_and_right, gt_iff_lt, not_true_eq_false, not_false_eq_true, Bool.not_true, Bool.not_false, decide_eq_true_eq, Nat.reduceSub, Nat.reduceAdd, List.append_assoc, tChain, tDIn, tDNotIn, sDDel, tAug, ipI, rInt1_int, rInt1_bl, tFld]
    refine ⟨RC, dx, _, ho, RR.cl, RR.n2, .ref m, rfl, m, rfl, us, .inl (sq_l hm), ?_⟩
    rw [hr'.len]
    exact q
def spRuT (RC : Addr) : Sp := fun vs H Q _ => ∃ (o dx l m : Addr) (us : List V), vs = [.ref o] ∧ H o = some (.ins RC dx [("_locks", .ref l), ("_entries", .ref m)]) ∧ H m = some (.lst us) ∧ ∀ it, H it = none → Q (.ref it) (upd H it (ItO m it 0))
theorem ok_Rule_iter {f : Addr} {fd : FuncData} (F : Fun K "__iter__" "Rule.__iter__" s_Rule_iter f fd) (T : Bt mg tL t3) (RR : RuC K mg RC) : FnOk P w K mg base CX0 1 f fd ["self"] (spRuT RC) := by
  refine F.ok sc_Rule_iter (fun vs H Q E h => ?_) (fun cdv A outer s H vs Q E hr h => ?_)
  · obtain ⟨_, _, _, _, _, rfl, _⟩ := h
    rfl
  · obtain ⟨o, dx, l, m, us, rfl, ho, hm, q⟩ := h
    refine ⟨_, (pss_one (ps_ret (pe_callB (id := "iter") (r := rIter K) call_iterL (by rfl) T.b_iter (by decide +kernel) (pa_cons (pe_fld (pv 0) rfl) pa_nil)))), ?_⟩
    try simp (maxSteps := 1000000) only [tSeq, tIfS, tTest, tOp, tUn, tCB, tCons, tNil, tVar, tC, rI0, rI, rU, rEq, rNe, tRet, tRetN, tAsg, gName, gSub, tBM, tBM0, tNext, tB, tNot, tAnd, tOr, tIf, tCall, tDrop, tBreak, tCont, L2.start, tDGet, sDPut, tTup, tLst, tDNewK, tRevL, rCat, rAppend, rPop, rSetL, tAndV, tOrV, tNotV, tSl, tPart, tNoPart, tM1, gTup, gCons, gNil, cxK, cxnK, List.map_cons, List.map_nil, List.length_cons, List.length_nil, List.replicate, List.cons_append, List.nil_append, List.append_nil, List.set_cons_zero, List.set_cons_succ, List.getElem?_cons_zero, List.getElem?_cons_succ, Option.some.injEq, V.ref.injEq, V.int.injEq, V.str.injEq, V.bl.injEq, V.ty.injEq, exists_eq_left', exists_eq_left, exists_and_left, List.cons.injEq, and_true, true_and, sc_ii, sc_ss, sc_bb, sc_ni, sc_in, sc_is, sc_si, sc_nn, decide_true, decide_false, reduceCtorEq, Bool.false_eq_true, if_true, if_false, ite_true, ite_false, exists_const, eq_self, false_and, and_false, or_false, false_or, exists_false, Evl.rLenS, rSum, wipe, tYes, exists_eq, exists_eq', rIxL, rIxT, rIxS, exists_and_right, gt_iff_lt, not_true_eq_false, not_false_eq_true, Bool.not_true, Bool.not_false, decide_eq_true_eq, Nat.reduceSub, Nat.reduceAdd, List.append_assoc, tChain, tDIn, tDNotIn, sDDel, tAug, ipI, rInt1_int, rInt1_bl, tFld]
    exact ⟨RC, dx, _, ho, RR.cl, RR.n2, .ref m, rfl, m, us, rfl, sq_l hm, fun it nit => q it nit⟩
open PySem.Spec PyProof.Rows in
theorem okD0 {x qual : Str} {params : Arguments} {body : List Stmt} {scope : Scope} {dvs : List V} {kws : List (Str × V)} {f : Addr} {fd : FuncData} {N ps : List Str} {k : Nat} {sp : Sp} (F : FunD K x qual params body scope dvs kws f fd) (S : FnScope N ps scope) (len : ∀ vs H Q E, sp vs H Q E → vs.length = ps.length)
    (hbody : ∀ (cdv : Value) (A : Around) (outer : List Env) (s : Shared) (H : Hp) (vs : List V) (Q : VK) (E : XK), Room k (A.deeper (envOfC qual scope s.heap.objs.size f cdv)) → sp vs H Q E →
      ∃ t, PSs (cxOf CX0 P w K mg base N qual scope f cdv A outer s H E).nox body t ∧ t { nx := fun _ H' => Q .non H', rt := Q } (start N vs) H) : FnOk P w K mg base CX0 (k + 1) f fd ps sp :=
  F.ok S len fun cdv A outer s H vs Q E hr hsp => by
    obtain ⟨t, h, q⟩ := hbody cdv A outer s H vs Q E hr hsp
    exact ⟨t, h.nox, q⟩
/-- the locks that may be taken -/
def mayR (es : List En) (h : Hd) : List Nat := (es.filter fun e => decide (e.1 = h)).map (·.2)
def spRuG (RC : Addr) : Sp := fun vs H Q _ => ∃ (o : Addr) (u : V) (zs : List Str) (es : List En) (h : Hd), vs = [.ref o, u] ∧ RuAt RC H o zs es ∧ HT zs H u h ∧ h ∈ hls zs.length ∧ ∀ l H', H l = none → H' l = some (.lst ((nmH zs (mayR es h)).map V.str)) → Kp [] H H' → Q (.ref l) H'
theorem ok_Rule_getitem {f : Addr} {fd : FuncData} (F : Fun K "__getitem__" "Rule.__getitem__" s_Rule_getitem f fd) (T : Bt mg tL t3) (RR : RuC K mg RC) {f1 : Addr} {fd1 : FuncData} (D_all_held : Df K mg "all_held" s_all_held ["locks"] f1 fd1) (G_all_held : FnOk P w K mg base CX0 2 f1 fd1 ["locks"] (spHeld K)) : FnOk P w K mg base CX0 3 f fd ["self", "at"] (spRuG RC) := by
  refine F.ok sc_Rule_getitem (fun vs H Q E h => ?_) (fun cdv A outer s H vs Q E hr h => ?_)
  · obtain ⟨_, _, _, _, _, rfl, _⟩ := h
    rfl
  · obtain ⟨o, u, zs, es, h, rfl, ⟨dx, l, m, us, ho, hl, hm, hr', L, hs⟩, hu', hh, q⟩ := h
    have hu := hu_of hr
    have E := factE (n := zs.length) (by have := L.le; omega) L.pos
    refine ⟨_, (pss_cons (ps_if (pt_cmpR (op_notInD (hu5 hr)) (pv 1) (pe_call G_all_held (hr.mono (by decide)) rfl D_all_held.g D_all_held.F.kp D_all_held.b .nil pass0 (pa_cons (pe_fld (pv 0) rfl) pa_nil)) (by rfl)) (pss_one ps_never) pss_nil)
      (pss_one (ps_ret (pe_lc (own := [("held", 2), ("goal", 3)]) (g := (gTup K 2 (gCons (gName 2) (gCons (gName 3) gNil)))) rfl sc_Rule_getitem.nd (pi_list (pe_fld (pv 0) rfl)) (blkOk_by (N := ["self", "at", "held", "goal"]) (sc := defScope s_Rule_getitem) (by decide +kernel)) (fun _ _ _ _ _ => (pg_tup (n := 2) (by rfl) (pgs_cons (pg_name (i := 2) sc_Rule_getitem.nd rfl (Or.inl rfl)) (pgs_cons (pg_name (i := 3) sc_Rule_getitem.nd rfl (Or.inl rfl)) pgs_nil)))) (fun _ _ _ _ _ => (pts_one (pt_cmpR (r := rEqD K) (op_eqD hr.units) (pv 2) (pv 1) (nomark _)))) (fun _ _ _ _ _ => (pv 3)))))), ?_⟩
    try simp (maxSteps := 1000000) only [tSeq, tIfS, tTest, tOp, tUn, tCB, tCons, tNil, tVar, tC, rI0, rI, rU, rEq, rNe, tRet, tRetN, tAsg, gName, gSub, tBM, tBM0, tNext, tB, tNot, tAnd, tOr, tIf, tCall, tDrop, tBreak, tCont, L2.start, tDGet, sDPut, tTup, tLst, tDNewK, tRevL, rCat, rAppend, rPop, rSetL, tAndV, tOrV, tNotV, tSl, tPart, tNoPart, tM1, gTup, gCons, gNil, cxK, cxnK, List.map_cons, List.map_nil, List.length_cons, List.length_nil, List.replicate, List.cons_append, List.nil_append, List.append_nil, List.set_cons_zero, List.set_cons_succ, List.getElem?_cons_zero, List.getElem?_cons_succ, Option.some.injEq, V.ref.injEq, V.int.injEq, V.str.injEq, V.bl.injEq, V.ty.injEq, exists_eq_left', exists_eq_left, exists_and_left, List.cons.injEq, and_true, true_and, sc_ii, sc_ss, sc_bb, sc_ni, sc_in, sc_is, sc_si, sc_nn, decide_true, decide_false, reduceCtorEq, Bool.false_eq_true, if_true, if_false, ite_true, ite_false, exists_const, eq_self, false_and, and_false, or_false, false_or, exists_false, Evl.rLenS, rSum, wipe, tYes, exists_eq, exists_eq', rIxL, rIxT, rIxS, exists_and_right, gt_iff_lt, not_true_eq_false, not_false_eq_true, Bool.not_true, Bool.not_false, decide_eq_true_eq, Nat.reduceSub, Nat.reduceAdd, List.append_assoc, tChain, tDIn, tDNotIn, sDDel, tAug, ipI, rInt1_int, rInt1_bl, tFld]
    refine ⟨RC, dx, _, ho, RR.cl, RR.n1, .ref l, rfl, ?_⟩
    refine ⟨l, zs, rfl, L, .inl (sq_l hl), fun a1 us1 H1 na1 ha1 hus1 k1 => ?_⟩
    obtain ⟨hb, h3, _⟩ := E.hld h hh
    have hu1 := hu'.tp k1.tps
    refine nin_hds L hb (fun g hg => (E.hld g hg).1) hu1 (sq_l ha1) hus1 ⟨_, rfl, ?_⟩
    rw [decide_eq_true hh, if_neg (by decide)]
    have hm1 := k1 _ _ not0 hm
    have ho1 := k1 _ _ not0 ho
    have hbe : ∀ e ∈ es, belowE zs.length e := fun e he => (E.ent e (hs.subset he)).1
    have l12 : es.length ≤ 12 := Nat.le_trans hs.length_le E.len
    refine lcG (R := ET zs) (R2 := fun _ v x => v = V.str (nmL zs x)) (fun _ _ _ _ t h => h.tp t) (fun _ _ _ _ _ h => h) (fun e => decide (e.1 = h)) (fun e => e.2) (src_list (fun R q' => ⟨.ref o, rfl, o, RC, dx, _, _, rfl, ho1, RR.cl, RR.n2, rfl, q'⟩) (sq_l hm1)) (hr'.mono fun _ _ z => z.tp k1.tps) (by omega) (fun v e H3 N N0 he hv k3 hN hN0 => ?_) fun D us' H3 nD hD hrw k3 => ?_
    · obtain ⟨va, hu3, rfl, hva, hue⟩ := hv
      obtain ⟨be1, be2⟩ := hbe e he
      try simp (maxSteps := 1000000) only [tSeq, tIfS, tTest, tOp, tUn, tCB, tCons, tNil, tVar, tC, rI0, rI, rU, rEq, rNe, tRet, tRetN, tAsg, gName, gSub, tBM, tBM0, tNext, tB, tNot, tAnd, tOr, tIf, tCall, tDrop, tBreak, tCont, L2.start, tDGet, sDPut, tTup, tLst, tDNewK, tRevL, rCat, rAppend, rPop, rSetL, tAndV, tOrV, tNotV, tSl, tPart, tNoPart, tM1, gTup, gCons, gNil, cxK, cxnK, List.map_cons, List.map_nil, List.length_cons, List.length_nil, List.replicate, List.cons_append, List.nil_append, List.append_nil, List.set_cons_zero, List.set_cons_succ, List.getElem?_cons_zero, List.getElem?_cons_succ, Option.some.injEq, V.ref.injEq, V.int.injEq, V.str.injEq, V.bl.injEq, V.ty.injEq, exists_eq_left', exists_eq_left, exists_and_left, List.cons.injEq, and_true, true_and, sc_ii, sc_ss, sc_bb, sc_ni, sc_in, sc_is, sc_si, sc_nn, decide_true, decide_false, reduceCtorEq, Bool.false_eq_true, if_true, if_false, ite_true, ite_false, exists_const, eq_self, false_and, and_false, or_false, false_or, exists_false, Evl.rLenS, rSum, wipe, tYes, exists_eq, exists_eq', rIxL, rIxT, rIxS, exists_and_right, gt_iff_lt, not_true_eq_false, not_false_eq_true, Bool.not_true, Bool.not_false, decide_eq_true_eq, Nat.reduceSub, Nat.reduceAdd, List.append_assoc, tChain, tDIn, tDNotIn, sDDel, tAug, ipI, rInt1_int, rInt1_bl]
      refine ⟨_, sq_t hva, rfl, _, _, rfl, _, _, rfl, rfl, ?_⟩
      refine eq_hd L be1 hb hue (hu1.tp k3.tps) ⟨_, rfl, ?_⟩
      by_cases e1 : e.1 = h
      · rw [decide_eq_true e1, if_pos rfl]
        exact hN (decide_eq_true e1) _ _ rfl (Kp.refl _ _)
      · rw [decide_eq_false e1, if_neg (by decide)]
        exact hN0 (decide_eq_false e1) _ (Kp.refl _ _)
    · have e := rw_strs hrw
      subst e
      exact q D H3 (k1.free0 nD) hD (k1.trans k3)
theorem inS_ens {zs : List Str} {H : Hp} {Q : VK} {x : V} {l : Addr} {us : List V} {h : En} {gs : List En} (L : LkOk zs) (hh : belowE zs.length h) (hg : ∀ g ∈ gs, belowE zs.length g) (hx : ET zs H x h) (hl : SqAny K H l us) (hu : Rw (ET zs H) us gs) (q : Q (.bl (decide (h ∈ gs))) H) : rInS K false x (.ref l) H Q :=
  ⟨_, _, l, us, rfl, hl, rw_dp (fun _ _ z => z.dp) hu, hx.dp, (fk_eD L hh).sh (by decide), (fk_lst (k := 3) fun d hd => by obtain ⟨g, hg', rfl⟩ := List.mem_map.mp hd; exact fk_eD L (hg g hg')).sh (by decide), by
    simp only [Bool.false_eq_true, if_false]
    rw [any_eD L hh hg]; exact q⟩
def spRuI (RC : Addr) (K : PySem.W.Frag) : Sp := fun vs H Q _ => ∃ (o dx la ea : Addr) (zs : List Str) (us : List V) (gs : List En), vs = [.ref o, .ref la, .ref ea] ∧ H o = some (.ins RC dx []) ∧ LkOk zs ∧ H la = some (.tup (zs.map V.str)) ∧ SqAny K H ea us ∧ Rw (ET zs H) us gs ∧ (∀ g ∈ gs, g ∈ ens zs.length) ∧ gs.length ≤ 100 ∧
  ∀ H', RuAt RC H' o zs ((ens zs.length).filter fun e => decide (e ∈ gs)) → Kp [o] H H' → Q .non H'
theorem ok_Rule_init {f : Addr} {fd : FuncData} {dvs : List V} (F : FunD K "__init__" "Rule.__init__" (defArgs s_Rule_init) (defBody s_Rule_init) (defScope s_Rule_init) dvs [] f fd) (T : Bt mg tL t3) (RR : RuC K mg RC) {f1 : Addr} {fd1 : FuncData} (D_all_entries : Df K mg "all_entries" s_all_entries ["locks"] f1 fd1) (G_all_entries : FnOk P w K mg base CX0 3 f1 fd1 ["locks"] (spEnts K)) {f2 : Addr} {fd2 : FuncData} (D_is_name : Df K mg "is_name" s_is_name ["value"] f2 fd2) (G_is_name : FnOk P w K mg base CX0 1 f2 fd2 ["value"] spName1) : FnOk P w K mg base CX0 4 f fd ["self", "locks", "entries"] (spRuI RC K) := by
  refine okD0 F sc_Rule_init (fun vs H Q E h => ?_) (fun cdv A outer s H vs Q E hr h => ?_)
  · obtain ⟨_, _, _, _, _, _, _, rfl, _⟩ := h
    rfl
  · obtain ⟨o, dx, la, ea, zs, us, gs, rfl, ho, L, hla, hea, hgs, hin, g100, q⟩ := h
    have hu := hu_of hr
    have E := factE (n := zs.length) (by have := L.le; omega) L.pos
    refine ⟨_, (pss_cons (ps_if (pt_not (pt_chain op_le op_le pe_int (pe_callB (id := "len") (r := Evl.rLenS K) call_len_seq (by rfl) T.b_len PySem.boot_len (pa_cons (pv 1) pa_nil)) (pe_glob (v := .int 3) rfl T.c_MOST_LOCKS ⟨_, rfl⟩))) (pss_one ps_never) pss_nil)
      (pss_cons (ps_for PassesOwn.never rfl (pi_enumT rfl T.b_enumerate (pa_cons (pv 1) pa_nil)) (pg_tup (n := 2) (by rfl) (pgs_cons (pg_name (i := 3) sc_Rule_init.nd rfl (Or.inl rfl)) (pgs_cons (pg_name (i := 4) sc_Rule_init.nd rfl (Or.inl rfl)) pgs_nil))) (pss_one (ps_if (PW.pt (pw_or (pt_not (pt_val (pe_call G_is_name (hr.mono (by decide)) rfl D_is_name.g D_is_name.F.kp D_is_name.b .nil pass0 (pa_cons (pv 4) pa_nil)))) (pw_or1 (pt_cmpR op_in_seq (pv 4) (pe_slice sl_tupA (pv 1) po_none (po_some (pv 3))) (by rfl))))) (pss_one ps_never) pss_nil)))
      (pss_cons (ps_fld (pv 0) (pe_callTy call_list_of (by rfl) T.b_list (by decide +kernel) (pa_cons (pv 1) pa_nil)) rfl)
      (pss_cons (ps_set (i := 5) sc_Rule_init.nd rfl (Or.inl rfl) (pe_call G_all_entries (hr.mono (by decide)) rfl D_all_entries.g D_all_entries.F.kp D_all_entries.b .nil pass0 (pa_cons (pv 1) pa_nil)))
      (pss_cons (ps_for PassesOwn.never rfl (pi_seq (pv 2)) (pg_name (i := 6) sc_Rule_init.nd rfl (Or.inl rfl)) (pss_one (ps_if (pt_cmpR (op_notInD (hu5 hr)) (pv 6) (pv 5) (by rfl)) (pss_one ps_never) pss_nil)))
      (pss_one (ps_fld (pv 0) (pe_lc (own := [("entry", 6)]) (g := (gName 6)) rfl sc_Rule_init.nd (pi_list (pv 5)) (blkOk_by (N := ["self", "locks", "entries", "at", "name", "possible", "entry"]) (sc := defScope s_Rule_init) (by decide +kernel)) (fun _ _ _ _ _ => (pg_name (i := 6) sc_Rule_init.nd rfl (Or.inl rfl))) (fun _ _ _ _ _ => (pts_one (pt_cmpR (r := rInS K false) (op_inS (hu5 hr)) (pv 6) (pv 2) (by rfl)))) (fun _ _ _ _ _ => (pv 6))) rfl))))))), ?_⟩
    try simp (maxSteps := 1000000) only [tSeq, tIfS, tTest, tOp, tUn, tCB, tCons, tNil, tVar, tC, rI0, rI, rU, rEq, rNe, tRet, tRetN, tAsg, gName, gSub, tBM, tBM0, tNext, tB, tNot, tAnd, tOr, tIf, tCall, tDrop, tBreak, tCont, L2.start, tDGet, sDPut, tTup, tLst, tDNewK, tRevL, rCat, rAppend, rPop, rSetL, tAndV, tOrV, tNotV, tSl, tPart, tNoPart, tM1, gTup, gCons, gNil, cxK, cxnK, List.map_cons, List.map_nil, List.length_cons, List.length_nil, List.replicate, List.cons_append, List.nil_append, List.append_nil, List.set_cons_zero, List.set_cons_succ, List.getElem?_cons_zero, List.getElem?_cons_succ, Option.some.injEq, V.ref.injEq, V.int.injEq, V.str.injEq, V.bl.injEq, V.ty.injEq, exists_eq_left', exists_eq_left, exists_and_left, List.cons.injEq, and_true, true_and, sc_ii, sc_ss, sc_bb, sc_ni, sc_in, sc_is, sc_si, sc_nn, decide_true, decide_false, reduceCtorEq, Bool.false_eq_true, if_true, if_false, ite_true, ite_false, exists_const, eq_self, false_and, and_false, or_false, false_or, exists_false, Evl.rLenS, rSum, wipe, tYes, exists_eq, exists_eq', rIxL, rIxT, rIxS, exists_and_right, gt_iff_lt, not_true_eq_false, not_false_eq_true, Bool.not_true, Bool.not_false, decide_eq_true_eq, Nat.reduceSub, Nat.reduceAdd, List.append_assoc, tChain, tDIn, tDNotIn, sDDel, tAug, ipI, rInt1_int, rInt1_bl, sFld]
    have tsO : ∀ x xs H1, Kp [o] H H1 → H x = some (.tup xs) → H1 x = some (.tup xs) := fun x xs H1 k e => k _ _ (not1 fun z => by rw [z, ho] at e; cases e) e
    refine ⟨_, .inr (sq_t hla), ?_⟩
    have n1 := L.pos
    have n3 := L.le
    rw [List.length_map, if_pos (show (1 : Int) ≤ ((zs.length : Nat) : Int) by omega), decide_eq_true (show ((zs.length : Nat) : Int) ≤ 3 by omega), if_neg (by decide)]
    refine ⟨.ref la, rfl, la, _, rfl, sq_t hla, for_it (walk_enumT (K := K) (a := la) (xs := zs.map V.str)) (fun i σ H' => ∃ c3 c4, σ = [some (.ref o), some (.ref la), some (.ref ea), c3, c4, none, none] ∧ Kp [] H H') ⟨none, none, rfl, Kp.refl _ _⟩ (fun i σ H' _ h => by obtain ⟨_, _, _, k⟩ := h; exact k.tp not0 (sq_t hla)) ?_ ?_⟩
    · rintro i x σ H1 H2 hi ⟨c3, c4, rfl, k1⟩ ⟨T0, x1, x2, rfl, hT, rfl, hx1, hx2⟩
      cases hx1
      rw [List.length_map] at hi
      have hx2 : (zs.map V.str)[i]? = some x2 := hx2
      rw [List.getElem?_map, nm_at hi] at hx2
      cases hx2
      have kT := (Kp.new hT : Kp [] H1 (upd H1 T0 (.tup [.int (i : Nat), .str (nmL zs i)])))
      have hT2 : (upd H1 T0 (.tup [.int (i : Nat), .str (nmL zs i)])) T0 = some (.tup [.int (i : Nat), .str (nmL zs i)]) := upd_same
      generalize upd H1 T0 (.tup [.int (i : Nat), .str (nmL zs i)]) = H3 at kT hT2 ⊢
      try simp (maxSteps := 1000000) only [tSeq, tIfS, tTest, tOp, tUn, tCB, tCons, tNil, tVar, tC, rI0, rI, rU, rEq, rNe, tRet, tRetN, tAsg, gName, gSub, tBM, tBM0, tNext, tB, tNot, tAnd, tOr, tIf, tCall, tDrop, tBreak, tCont, L2.start, tDGet, sDPut, tTup, tLst, tDNewK, tRevL, rCat, rAppend, rPop, rSetL, tAndV, tOrV, tNotV, tSl, tPart, tNoPart, tM1, gTup, gCons, gNil, cxK, cxnK, List.map_cons, List.map_nil, List.length_cons, List.length_nil, List.replicate, List.cons_append, List.nil_append, List.append_nil, List.set_cons_zero, List.set_cons_succ, List.getElem?_cons_zero, List.getElem?_cons_succ, Option.some.injEq, V.ref.injEq, V.int.injEq, V.str.injEq, V.bl.injEq, V.ty.injEq, exists_eq_left', exists_eq_left, exists_and_left, List.cons.injEq, and_true, true_and, sc_ii, sc_ss, sc_bb, sc_ni, sc_in, sc_is, sc_si, sc_nn, decide_true, decide_false, reduceCtorEq, Bool.false_eq_true, if_true, if_false, ite_true, ite_false, exists_const, eq_self, false_and, and_false, or_false, false_or, exists_false, Evl.rLenS, rSum, wipe, tYes, exists_eq, exists_eq', rIxL, rIxT, rIxS, exists_and_right, gt_iff_lt, not_true_eq_false, not_false_eq_true, Bool.not_true, Bool.not_false, decide_eq_true_eq, Nat.reduceSub, Nat.reduceAdd, List.append_assoc, tChain, tDIn, tDNotIn, sDDel, tAug, ipI, rInt1_int, rInt1_bl]
      refine ⟨_, sq_t hT2, rfl, _, _, rfl, _, _, rfl, rfl, ?_⟩
      refine ⟨_, rfl, nm_good L hi, fun H4 k4 => ⟨true, rfl, ?_⟩⟩
      have k14 := (k1.trans kT).trans k4
      rw [if_neg (by decide)]
      refine ⟨_, rfl, ?_⟩
      refine slA_to rfl (k14 _ _ not0 hla) fun r H5 hr5 k5 => ?_
      refine ⟨r, _, rfl, .inr (sq_t hr5), rfl, ?_, ?_⟩
      · rw [← List.map_take]
        exact flat_strs _
      · simp only [Bool.false_eq_true, if_false]
        rw [← List.map_take, inV_str, decide_eq_false (fun h => by have := (mem_take_nm L hi).mp h; omega)]
        refine ⟨_, rfl, ?_⟩
        rw [if_neg (by decide)]
        exact k14.trans k5
    · rintro σ H1 ⟨c3, c4, rfl, k1⟩
      try simp (maxSteps := 1000000) only [tSeq, tIfS, tTest, tOp, tUn, tCB, tCons, tNil, tVar, tC, rI0, rI, rU, rEq, rNe, tRet, tRetN, tAsg, gName, gSub, tBM, tBM0, tNext, tB, tNot, tAnd, tOr, tIf, tCall, tDrop, tBreak, tCont, L2.start, tDGet, sDPut, tTup, tLst, tDNewK, tRevL, rCat, rAppend, rPop, rSetL, tAndV, tOrV, tNotV, tSl, tPart, tNoPart, tM1, gTup, gCons, gNil, cxK, cxnK, List.map_cons, List.map_nil, List.length_cons, List.length_nil, List.replicate, List.cons_append, List.nil_append, List.append_nil, List.set_cons_zero, List.set_cons_succ, List.getElem?_cons_zero, List.getElem?_cons_succ, Option.some.injEq, V.ref.injEq, V.int.injEq, V.str.injEq, V.bl.injEq, V.ty.injEq, exists_eq_left', exists_eq_left, exists_and_left, List.cons.injEq, and_true, true_and, sc_ii, sc_ss, sc_bb, sc_ni, sc_in, sc_is, sc_si, sc_nn, decide_true, decide_false, reduceCtorEq, Bool.false_eq_true, if_true, if_false, ite_true, ite_false, exists_const, eq_self, false_and, and_false, or_false, false_or, exists_false, Evl.rLenS, rSum, wipe, tYes, exists_eq, exists_eq', rIxL, rIxT, rIxS, exists_and_right, gt_iff_lt, not_true_eq_false, not_false_eq_true, Bool.not_true, Bool.not_false, decide_eq_true_eq, Nat.reduceSub, Nat.reduceAdd, List.append_assoc, tChain, tDIn, tDNotIn, sDDel, tAug, ipI, rInt1_int, rInt1_bl, sFld]
      have ho1 := k1 _ _ not0 ho
      refine ⟨_, .inr (k1.tp not0 (sq_t hla)), fun l nl => ?_⟩
      have kl := (Kp.new nl : Kp [] H1 (upd H1 l (.lst (zs.map V.str))))
      have hl : (upd H1 l (.lst (zs.map V.str))) l = some (.lst (zs.map V.str)) := upd_same
      generalize upd H1 l (.lst (zs.map V.str)) = H2 at kl hl ⊢
      have ho2 := kl _ _ not0 ho1
      refine ⟨RC, dx, [], ho2, RR.cl, RR.n1, by decide, ?_⟩
      have k2 := k1.trans kl
      have nsO : NoSq H2 [o] := noSq1 ho2
      have kw : Kp [o] H2 (upd H2 o (.ins RC dx (putF "_locks" (.ref l) []))) := (Kp.refl [o] _).put List.mem_cons_self
      have ho3 : (upd H2 o (.ins RC dx (putF "_locks" (.ref l) []))) o = some (.ins RC dx [("_locks", .ref l)]) := upd_same
      have tp3 : Tp H2 (upd H2 o (.ins RC dx (putF "_locks" (.ref l) []))) := (Tp.refl _).putI ho2
      have hl3 := kw _ _ (not1 fun z => by rw [z, ho2] at hl; cases hl) hl
      have hla3 := tp3 _ _ (k2 _ _ not0 hla)
      have hea3 := (hea.imp (k2.ls not0) (k2.tp not0) : SqAny K H2 ea us).imp (kw.lsN nsO) (kw.tpN nsO)
      have hgs3 : Rw (ET zs (upd H2 o (.ins RC dx (putF "_locks" (.ref l) [])))) us gs := hgs.mono fun _ _ z => (z.tp k2.tps).tp tp3
      have k03 : Kp [o] H (upd H2 o (.ins RC dx (putF "_locks" (.ref l) []))) := (k2.of0).trans kw
      generalize upd H2 o (.ins RC dx (putF "_locks" (.ref l) [])) = H3 at *
      refine ⟨la, zs, rfl, L, .inr (sq_t hla3), fun pl ps H4 npl hpl hps k4 => ?_⟩
      have k04 : Kp [o] H H4 := k03.trans k4.of0
      have hbe : ∀ e ∈ ens zs.length, belowE zs.length e := fun e he => (E.ent e he).1
      refine forS (a := ea) (xs := us) (fun i σ H' => ∃ c6, σ = [some (.ref o), some (.ref la), some (.ref ea), c3, c4, some (.ref pl), c6] ∧ Kp [] H4 H') rfl (hea3.imp (k4.ls not0) (k4.tp not0)) ⟨_, rfl, Kp.refl _ _⟩ (fun j σ' H' h => by obtain ⟨_, _, k⟩ := h; exact k) ?_ ?_
      · rintro j x σ H5 hx ⟨c6, rfl, k5⟩
        obtain ⟨g, eg, hg⟩ := hgs3.get hx
        have gin := hin g (List.mem_of_getElem? eg)
        try simp (maxSteps := 1000000) only [tSeq, tIfS, tTest, tOp, tUn, tCB, tCons, tNil, tVar, tC, rI0, rI, rU, rEq, rNe, tRet, tRetN, tAsg, gName, gSub, tBM, tBM0, tNext, tB, tNot, tAnd, tOr, tIf, tCall, tDrop, tBreak, tCont, L2.start, tDGet, sDPut, tTup, tLst, tDNewK, tRevL, rCat, rAppend, rPop, rSetL, tAndV, tOrV, tNotV, tSl, tPart, tNoPart, tM1, gTup, gCons, gNil, cxK, cxnK, List.map_cons, List.map_nil, List.length_cons, List.length_nil, List.replicate, List.cons_append, List.nil_append, List.append_nil, List.set_cons_zero, List.set_cons_succ, List.getElem?_cons_zero, List.getElem?_cons_succ, Option.some.injEq, V.ref.injEq, V.int.injEq, V.str.injEq, V.bl.injEq, V.ty.injEq, exists_eq_left', exists_eq_left, exists_and_left, List.cons.injEq, and_true, true_and, sc_ii, sc_ss, sc_bb, sc_ni, sc_in, sc_is, sc_si, sc_nn, decide_true, decide_false, reduceCtorEq, Bool.false_eq_true, if_true, if_false, ite_true, ite_false, exists_const, eq_self, false_and, and_false, or_false, false_or, exists_false, Evl.rLenS, rSum, wipe, tYes, exists_eq, exists_eq', rIxL, rIxT, rIxS, exists_and_right, gt_iff_lt, not_true_eq_false, not_false_eq_true, Bool.not_true, Bool.not_false, decide_eq_true_eq, Nat.reduceSub, Nat.reduceAdd, List.append_assoc, tChain, tDIn, tDNotIn, sDDel, tAug, ipI, rInt1_int, rInt1_bl]
        refine nin_ens L (hbe g gin) hbe (hg.tp (k4.trans k5).tps) (sq_l (k5 _ _ not0 hpl)) (hps.mono fun _ _ z => z.tp k5.tps) ⟨_, rfl, ?_⟩
        rw [decide_eq_true gin, if_neg (by decide)]
        exact k5
      · rintro σ H5 ⟨c6, rfl, k5⟩
        try simp (maxSteps := 1000000) only [tSeq, tIfS, tTest, tOp, tUn, tCB, tCons, tNil, tVar, tC, rI0, rI, rU, rEq, rNe, tRet, tRetN, tAsg, gName, gSub, tBM, tBM0, tNext, tB, tNot, tAnd, tOr, tIf, tCall, tDrop, tBreak, tCont, L2.start, tDGet, sDPut, tTup, tLst, tDNewK, tRevL, rCat, rAppend, rPop, rSetL, tAndV, tOrV, tNotV, tSl, tPart, tNoPart, tM1, gTup, gCons, gNil, cxK, cxnK, List.map_cons, List.map_nil, List.length_cons, List.length_nil, List.replicate, List.cons_append, List.nil_append, List.append_nil, List.set_cons_zero, List.set_cons_succ, List.getElem?_cons_zero, List.getElem?_cons_succ, Option.some.injEq, V.ref.injEq, V.int.injEq, V.str.injEq, V.bl.injEq, V.ty.injEq, exists_eq_left', exists_eq_left, exists_and_left, List.cons.injEq, and_true, true_and, sc_ii, sc_ss, sc_bb, sc_ni, sc_in, sc_is, sc_si, sc_nn, decide_true, decide_false, reduceCtorEq, Bool.false_eq_true, if_true, if_false, ite_true, ite_false, exists_const, eq_self, false_and, and_false, or_false, false_or, exists_false, Evl.rLenS, rSum, wipe, tYes, exists_eq, exists_eq', rIxL, rIxT, rIxS, exists_and_right, gt_iff_lt, not_true_eq_false, not_false_eq_true, Bool.not_true, Bool.not_false, decide_eq_true_eq, Nat.reduceSub, Nat.reduceAdd, List.append_assoc, tChain, tDIn, tDNotIn, sDDel, tAug, ipI, rInt1_int, rInt1_bl, sFld]
        have hea5 : SqAny K H5 ea us := (hea3.imp (k4.ls not0) (k4.tp not0) : SqAny K H4 ea us).imp (k5.ls not0) (k5.tp not0)
        have k35 := k4.trans k5
        refine lcG (R := ET zs) (R2 := ET zs) (fun _ _ _ _ t h => h.tp t) (fun _ _ _ _ t h => h.tp t) (fun e => decide (e ∈ gs)) id (src_list (fun R q' => ⟨_, rfl, q'⟩) (sq_l (k5 _ _ not0 hpl))) (hps.mono fun _ _ z => z.tp k5.tps) (by have := E.len; omega) (fun v e H6 N N0 he hv k6 hN hN0 => ?_) fun D us' H6 nD hD hrw k6 => ?_
        · refine ⟨by simp [wipe], ?_⟩
          try simp (maxSteps := 1000000) only [tSeq, tIfS, tTest, tOp, tUn, tCB, tCons, tNil, tVar, tC, rI0, rI, rU, rEq, rNe, tRet, tRetN, tAsg, gName, gSub, tBM, tBM0, tNext, tB, tNot, tAnd, tOr, tIf, tCall, tDrop, tBreak, tCont, L2.start, tDGet, sDPut, tTup, tLst, tDNewK, tRevL, rCat, rAppend, rPop, rSetL, tAndV, tOrV, tNotV, tSl, tPart, tNoPart, tM1, gTup, gCons, gNil, cxK, cxnK, List.map_cons, List.map_nil, List.length_cons, List.length_nil, List.replicate, List.cons_append, List.nil_append, List.append_nil, List.set_cons_zero, List.set_cons_succ, List.getElem?_cons_zero, List.getElem?_cons_succ, Option.some.injEq, V.ref.injEq, V.int.injEq, V.str.injEq, V.bl.injEq, V.ty.injEq, exists_eq_left', exists_eq_left, exists_and_left, List.cons.injEq, and_true, true_and, sc_ii, sc_ss, sc_bb, sc_ni, sc_in, sc_is, sc_si, sc_nn, decide_true, decide_false, reduceCtorEq, Bool.false_eq_true, if_true, if_false, ite_true, ite_false, exists_const, eq_self, false_and, and_false, or_false, false_or, exists_false, Evl.rLenS, rSum, wipe, tYes, exists_eq, exists_eq', rIxL, rIxT, rIxS, exists_and_right, gt_iff_lt, not_true_eq_false, not_false_eq_true, Bool.not_true, Bool.not_false, decide_eq_true_eq, Nat.reduceSub, Nat.reduceAdd, List.append_assoc, tChain, tDIn, tDNotIn, sDDel, tAug, ipI, rInt1_int, rInt1_bl]
          refine inS_ens L (hbe e he) (fun g hg => hbe g (hin g hg)) hv ((hea5.imp (k6.ls not0) (k6.tp not0) : SqAny K H6 ea us)) (hgs3.mono fun _ _ z => (z.tp k35.tps).tp k6.tps) ⟨_, rfl, ?_⟩
          by_cases e1 : e ∈ gs
          · rw [decide_eq_true e1, if_pos rfl]
            exact hN (decide_eq_true e1) _ _ hv (Kp.refl _ _)
          · rw [decide_eq_false e1, if_neg (by decide)]
            exact hN0 (decide_eq_false e1) _ (Kp.refl _ _)
        · rw [List.map_id] at hrw
          have k36 := k35.trans k6
          have ho6 := k36 _ _ not0 ho3
          have hl6 := k36 _ _ not0 hl3
          refine ⟨RC, dx, _, ho6, RR.cl, RR.n2, by show 1 < 1000; decide, ?_⟩
          have tp : Tp H6 (upd H6 o (.ins RC dx (putF "_entries" (.ref D) [("_locks", .ref l)]))) := (Tp.refl _).putI ho6
          have kw6 : Kp [o] H6 (upd H6 o (.ins RC dx (putF "_entries" (.ref D) [("_locks", .ref l)]))) := (Kp.refl [o] _).put List.mem_cons_self
          refine q _ ⟨dx, l, D, us', by rw [upd_same]; rfl, kw6 _ _ (not1 fun z => by rw [z, ho6] at hl6; cases hl6) hl6, kw6 _ _ (not1 fun z => by rw [z, ho6] at hD; cases hD) hD, hrw.mono fun _ _ z => z.tp tp, L, List.filter_sublist⟩ ((k03.trans k36.of0).trans kw6)
end
end My

set_option Elab.async false
set_option linter.all false
set_option maxRecDepth 100000
set_option maxHeartbeats 4000000
namespace My
open PySem L2 NdefX StX
def tx (cs : List Nat) : Str := ⟨cs.toArray⟩
theorem tx_inj {a b : List Nat} (h : tx a = tx b) : a = b := by
  have e : a.toArray = b.toArray := congrArg Str.cps h
  simpa using e
theorem tx_len (cs : List Nat) : (tx cs).length = cs.length := by
  show cs.toArray.size = _
  simp
theorem tx_list (cs : List Nat) : (tx cs).cps.toList = cs := by
  show cs.toArray.toList = cs
  simp
theorem tx_app (a b : List Nat) : tx a ++ tx b = tx (a ++ b) := by
  show (⟨a.toArray ++ b.toArray⟩ : Str) = ⟨(a ++ b).toArray⟩
  simp
theorem join_ones : ∀ cs : List Nat, Txt.join "" (cs.map fun c => tx [c]) = tx cs := by
  intro cs
  have e := SX.join_S [] (cs.map fun c => [c])
  have e2 : (cs.map fun c => [c]).map SX.S = cs.map fun c => tx [c] := by rw [List.map_map]; rfl
  rw [e2] at e
  have e3 : TL.joinL [] (cs.map fun c => [c]) = cs := by
    clear e e2
    induction cs with
    | nil => rfl
    | cons c r ih =>
      cases r with
      | nil => rfl
      | cons d r =>
        show [c] ++ ([] ++ TL.joinL [] ((d :: r).map fun c => [c])) = c :: d :: r
        rw [ih]; rfl
  rw [e3] at e
  exact e
theorem cutTo (cs : List Nat) (k : Nat) : cutS (tx cs) none (some (k : Int)) = tx (cs.take k) := by
  unfold cutS
  rw [HT.sIx_none, HT.sIx_nat, tx_list, tx_len, List.drop_zero, Nat.sub_zero]
  show tx _ = tx _
  congr 1
  rcases Nat.le_total k cs.length with h | h
  · rw [Nat.min_eq_left h]
  · rw [Nat.min_eq_right h, List.take_length, List.take_of_length_le h]
theorem cutFrom (cs : List Nat) (k : Nat) : cutS (tx cs) (some (k : Int)) none = tx (cs.drop k) := by
  unfold cutS
  rw [HT.sIx_none, HT.sIx_nat, tx_list, tx_len]
  show tx _ = tx _
  congr 1
  rcases Nat.le_total k cs.length with h | h
  · rw [Nat.min_eq_left h, List.take_of_length_le (by rw [List.length_drop]; exact Nat.le_refl _)]
  · rw [Nat.min_eq_right h, List.drop_of_length_le h, List.drop_length]; simp
def LowL (cs : List Nat) : Prop := ∀ c ∈ cs, 97 ≤ c ∧ c ≤ 122
theorem tx_name {cs : List Nat} (h : LowL cs) (h1 : 1 ≤ cs.length) (h8 : cs.length ≤ 8) : nameS (tx cs) = true := by
  unfold nameS
  rw [tx_len, tx_list, decide_eq_true h1, decide_eq_true h8, Bool.true_and, Bool.true_and, List.all_eq_true]
  intro c hc
  unfold lowC
  rw [decide_eq_true (h c hc).1, decide_eq_true (h c hc).2]; rfl
theorem ifs_both {c : TT} {t u : L2.TS} {D : Ends} {σ : L2.St} {H : Hp} (Pv : L2.St → Hp → Prop) (h : ∀ Dn : Ends, (∀ σ' H', Pv σ' H' → Dn.nx σ' H') → tIfS c t u Dn σ H) (h2 : ∀ σ' H', Pv σ' H' → D.nx σ' H') : tIfS c t u D σ H := h D h2
theorem sum_ones : ∀ cs : List Nat, ((cs.map fun c => tx [c]).map fun z => z.length).sum = cs.length
  | [] => rfl
  | c :: r => by
    show (tx [c]).length + ((r.map fun c => tx [c]).map fun z => z.length).sum = r.length + 1
    rw [sum_ones r, tx_len]
    show 1 + r.length = _
    omega
theorem lets_at : ∀ i : Nat, i < 26 → lets.cps.toList[i]? = some (97 + i) := by decide +kernel

abbrev s_law_cell : Stmt := top 18
theorem sc_law_cell : FnScope ["_law_script", "_law_k"] ["_law_script", "_law_k"] (defScope s_law_cell) := ⟨rfl, rfl, rfl, by decide +kernel, rfl, by decide +kernel, by decide +kernel⟩
abbrev s_law_mixed : Stmt := top 19
theorem sc_law_mixed : FnScope ["_law_cell_here", "_law_k", "_law_one"] ["_law_cell_here", "_law_k"] (defScope s_law_mixed) := ⟨rfl, rfl, rfl, by decide +kernel, rfl, by decide +kernel, by decide +kernel⟩
abbrev s_law_draws : Stmt := top 20
theorem sc_law_draws : FnScope ["_law_cell_here", "_law_salt", "_law_count", "_law_many", "_law_row", "_law_rest", "_law_k"] ["_law_cell_here", "_law_salt", "_law_count", "_law_many"] (defScope s_law_draws) := ⟨rfl, rfl, rfl, by decide +kernel, rfl, by decide +kernel, by decide +kernel⟩
structure BtG (mg : Str → Option Value) : Prop where
  b_len : mg "len" = none
  b_int : mg "int" = none
  b_range : mg "range" = none
  b_list : mg "list" = none
  b_sorted : mg "sorted" = none
  b_tuple : mg "tuple" = none
  b_isinstance : mg "isinstance" = none
def Scr (K : PySem.W.Frag) (H : Hp) (a : Addr) (ns : List Int) : Prop := SqL K H a (ns.map V.int) ∧ ns.length ≤ 63
/-- count numbers below many -/
def DrawN (n : Nat) (m : Int) (ds : List Int) : Prop := ds.length = n ∧ ∀ d ∈ ds, 0 ≤ d ∧ d < m
section
variable {P : Program} {w : World} {K : PySem.W.Frag} {mg : Str → Option Value} {base : Heap} {tL t3 : Tok} {RC : Addr}
def spCell (K : PySem.W.Frag) : Sp := fun vs H Q _ => ∃ (a : Addr) (k : Nat) (ns : List Int), vs = [.ref a, .int (k : Nat)] ∧ Scr K H a ns ∧ ∀ i : Int, Q (.int i) H
theorem ok_law_cell {f : Addr} {fd : FuncData} (D : Df K mg "_law_cell" s_law_cell ["_law_script", "_law_k"] f fd) (T : BtG mg) : FnOk P w K mg base CX0 1 f fd ["_law_script", "_law_k"] (spCell K) := by
  refine D.F.ok sc_law_cell (fun vs H Q E h => ?_) (fun cdv A outer s H vs Q E hr h => ?_)
  · obtain ⟨_, _, _, rfl, _⟩ := h
    rfl
  · obtain ⟨a, k, ns, rfl, hS, q⟩ := h
    refine ⟨_, (pss_cons (ps_if (pt_cmpR op_lt (pv 1) (pe_callB (id := "len") (r := Evl.rLenS K) call_len_seq (by rfl) T.b_len PySem.boot_len (pa_cons (pv 0) pa_nil)) (nomark _)) (pss_one (ps_ret (pe_ix (r := rIxL K) ix_list (pv 0) (pv 1) (fun _ _ => rfl)))) pss_nil)
      (pss_one (ps_ret pe_int))), ?_⟩
    try simp (maxSteps := 1000000) only [tSeq, tIfS, tTest, tOp, tUn, tCB, tCons, tNil, tVar, tC, rI0, rI, rU, rEq, rNe, tRet, tRetN, tAsg, gName, gSub, tBM, tBM0, tNext, tB, tNot, tAnd, tOr, tIf, tCall, tDrop, tBreak, tCont, L2.start, tDGet, sDPut, tTup, tLst, tDNewK, tRevL, rCat, rAppend, rPop, rSetL, tAndV, tOrV, tNotV, tSl, tPart, tNoPart, tM1, gTup, gCons, gNil, cxK, cxnK, List.map_cons, List.map_nil, List.length_cons, List.length_nil, List.replicate, List.cons_append, List.nil_append, List.append_nil, List.set_cons_zero, List.set_cons_succ, List.getElem?_cons_zero, List.getElem?_cons_succ, Option.some.injEq, V.ref.injEq, V.int.injEq, V.str.injEq, V.bl.injEq, V.ty.injEq, exists_eq_left', exists_eq_left, exists_and_left, List.cons.injEq, and_true, true_and, sc_ii, sc_ss, sc_bb, sc_ni, sc_in, sc_is, sc_si, sc_nn, decide_true, decide_false, reduceCtorEq, Bool.false_eq_true, if_true, if_false, ite_true, ite_false, exists_const, eq_self, false_and, and_false, or_false, false_or, exists_false, Evl.rLenS, rSum, wipe, tYes, exists_eq, exists_eq', rIxL, rIxT, rIxS, exists_and_right, gt_iff_lt, not_true_eq_false, not_false_eq_true, Bool.not_true, Bool.not_false, decide_eq_true_eq, Nat.reduceSub, Nat.reduceAdd, List.append_assoc, tChain, tDIn, tDNotIn, sDDel, tAug, ipI, rInt1_int, rInt1_bl]
    refine ⟨_, .inl hS.1, ?_⟩
    rw [List.length_map]
    by_cases h : k < ns.length
    · rw [if_pos (by omega)]
      refine ⟨_, hS.1, .int ns[k], atI_nat (by rw [List.getElem?_map, List.getElem?_eq_getElem h]; rfl), q _⟩
    · rw [if_neg (by omega)]
      exact q 0
def spMixed : Sp := fun vs H Q _ => ∃ (c k : Int), vs = [.int c, .int k] ∧ ∀ i : Int, 0 ≤ i → Q (.int i) H
theorem ok_law_mixed {f : Addr} {fd : FuncData} (D : Df K mg "_law_mixed" s_law_mixed ["_law_cell_here", "_law_k"] f fd) (T : BtG mg) : FnOk P w K mg base CX0 1 f fd ["_law_cell_here", "_law_k"] spMixed := by
  refine D.F.ok sc_law_mixed (fun vs H Q E h => ?_) (fun cdv A outer s H vs Q E hr h => ?_)
  · obtain ⟨_, _, rfl, _⟩ := h
    rfl
  · obtain ⟨c, k, rfl, q⟩ := h
    refine ⟨_, (pss_cons (ps_set (i := 2) sc_law_mixed.nd rfl (Or.inl rfl) (pe_op op_mod (pe_op op_add (pe_op op_add (pe_op op_mul (pe_callTy (T := "int") (r := rInt1) call_int1 (by rfl) T.b_int (by decide +kernel) (pa_cons (pv 0) pa_nil)) pe_int) (pe_op op_mul (pv 1) pe_int)) pe_int) pe_int))
      (pss_one (ps_ret (pe_op op_fdiv (pe_op op_mod (pe_op op_mul (pv 2) (pv 2)) pe_int) pe_int)))), ?_⟩
    try simp (maxSteps := 1000000) only [tSeq, tIfS, tTest, tOp, tUn, tCB, tCons, tNil, tVar, tC, rI0, rI, rU, rEq, rNe, tRet, tRetN, tAsg, gName, gSub, tBM, tBM0, tNext, tB, tNot, tAnd, tOr, tIf, tCall, tDrop, tBreak, tCont, L2.start, tDGet, sDPut, tTup, tLst, tDNewK, tRevL, rCat, rAppend, rPop, rSetL, tAndV, tOrV, tNotV, tSl, tPart, tNoPart, tM1, gTup, gCons, gNil, cxK, cxnK, List.map_cons, List.map_nil, List.length_cons, List.length_nil, List.replicate, List.cons_append, List.nil_append, List.append_nil, List.set_cons_zero, List.set_cons_succ, List.getElem?_cons_zero, List.getElem?_cons_succ, Option.some.injEq, V.ref.injEq, V.int.injEq, V.str.injEq, V.bl.injEq, V.ty.injEq, exists_eq_left', exists_eq_left, exists_and_left, List.cons.injEq, and_true, true_and, sc_ii, sc_ss, sc_bb, sc_ni, sc_in, sc_is, sc_si, sc_nn, decide_true, decide_false, reduceCtorEq, Bool.false_eq_true, if_true, if_false, ite_true, ite_false, exists_const, eq_self, false_and, and_false, or_false, false_or, exists_false, Evl.rLenS, rSum, wipe, tYes, exists_eq, exists_eq', rIxL, rIxT, rIxS, exists_and_right, gt_iff_lt, not_true_eq_false, not_false_eq_true, Bool.not_true, Bool.not_false, decide_eq_true_eq, Nat.reduceSub, Nat.reduceAdd, List.append_assoc, tChain, tDIn, tDNotIn, sDDel, tAug, ipI, rInt1_int, rInt1_bl]
    have m1 := Int.emod_nonneg (c * 7919 + k * 10007 + 31) (show (1000003 : Int) ≠ 0 by decide)
    have m2 := Int.emod_lt_of_pos (c * 7919 + k * 10007 + 31) (show (0 : Int) < 1000003 by decide)
    generalize (c * 7919 + k * 10007 + 31) % 1000003 = x at m1 m2 ⊢
    exact ⟨.inr ⟨by decide, by decide⟩, .inr ⟨by decide, by decide⟩, by decide, .inl ⟨by omega, by omega⟩, by decide, ⟨by decide, by decide⟩, q _ (Int.ediv_nonneg (Int.emod_nonneg _ (by decide)) (by decide))⟩
def spDraws : Sp := fun vs H Q _ => ∃ (c : Int) (salt n : Nat) (m : Int), vs = [.int c, .int (salt : Nat), .int (n : Nat), .int m] ∧ n ≤ 1000 ∧ 1 ≤ m ∧ m ≤ 1000 ∧ ∀ l ds H', H l = none → H' l = some (.lst (ds.map V.int)) → DrawN n m ds → Kp [] H H' → Q (.ref l) H'
theorem ok_law_draws {f : Addr} {fd : FuncData} (D : Df K mg "_law_draws" s_law_draws ["_law_cell_here", "_law_salt", "_law_count", "_law_many"] f fd) (T : BtG mg) {f1 : Addr} {fd1 : FuncData} (D_law_mixed : Df K mg "_law_mixed" s_law_mixed ["_law_cell_here", "_law_k"] f1 fd1) (G_law_mixed : FnOk P w K mg base CX0 1 f1 fd1 ["_law_cell_here", "_law_k"] spMixed) : FnOk P w K mg base CX0 2 f fd ["_law_cell_here", "_law_salt", "_law_count", "_law_many"] spDraws := by
  refine D.F.ok sc_law_draws (fun vs H Q E h => ?_) (fun cdv A outer s H vs Q E hr h => ?_)
  · obtain ⟨_, _, _, _, rfl, _⟩ := h
    rfl
  · obtain ⟨c, salt, n, m, rfl, n1000, m1, m1000, q⟩ := h
    refine ⟨_, (pss_cons (ps_set (i := 4) sc_law_draws.nd rfl (Or.inl rfl) (pe_lst pa_nil))
      (pss_cons (ps_set (i := 5) sc_law_draws.nd rfl (Or.inl rfl) (pe_op op_sub (pe_callTy (T := "int") (r := rInt1) call_int1 (by rfl) T.b_int (by decide +kernel) (pa_cons (pv 0) pa_nil)) (pe_op op_pow pe_int pe_int)))
      (pss_cons (ps_for PassesOwn.never rfl (pi_range1 rfl T.b_range (pa_cons (pv 2) pa_nil)) (pg_name (i := 6) sc_law_draws.nd rfl (Or.inl rfl)) (pss_one (ps_if (pt_cmpR op_ge (pv 5) pe_int (nomark _)) (pss_cons (ps_expr (pe_bm PySem.F.plainAttrs_list PySem.F.slot_list_append PySem.F.type_list_append mt_append (pv 4) (pa_cons (pe_op op_mod (pe_callTy (T := "int") (r := rInt1) call_int1 (by rfl) T.b_int (by decide +kernel) (pa_cons (pv 5) pa_nil)) (pv 3)) pa_nil)))
      (pss_one (ps_set (i := 5) sc_law_draws.nd rfl (Or.inl rfl) (pe_op op_fdiv (pv 5) (pv 3))))) (pss_one (ps_expr (pe_bm PySem.F.plainAttrs_list PySem.F.slot_list_append PySem.F.type_list_append mt_append (pv 4) (pa_cons (pe_op op_mod (pe_callTy (T := "int") (r := rInt1) call_int1 (by rfl) T.b_int (by decide +kernel) (pa_cons (pe_call G_law_mixed (hr.mono (by decide)) rfl D_law_mixed.g D_law_mixed.F.kp D_law_mixed.b .nil pass0 (pa_cons (pv 0) (pa_cons (pe_op op_add (pe_op op_mul (pv 1) pe_int) (pv 6)) pa_nil))) pa_nil)) (pv 3)) pa_nil)))))))
      (pss_one (ps_ret (pv 4)))))), ?_⟩
    try simp (maxSteps := 1000000) only [tSeq, tIfS, tTest, tOp, tUn, tCB, tCons, tNil, tVar, tC, rI0, rI, rU, rEq, rNe, tRet, tRetN, tAsg, gName, gSub, tBM, tBM0, tNext, tB, tNot, tAnd, tOr, tIf, tCall, tDrop, tBreak, tCont, L2.start, tDGet, sDPut, tTup, tLst, tDNewK, tRevL, rCat, rAppend, rPop, rSetL, tAndV, tOrV, tNotV, tSl, tPart, tNoPart, tM1, gTup, gCons, gNil, cxK, cxnK, List.map_cons, List.map_nil, List.length_cons, List.length_nil, List.replicate, List.cons_append, List.nil_append, List.append_nil, List.set_cons_zero, List.set_cons_succ, List.getElem?_cons_zero, List.getElem?_cons_succ, Option.some.injEq, V.ref.injEq, V.int.injEq, V.str.injEq, V.bl.injEq, V.ty.injEq, exists_eq_left', exists_eq_left, exists_and_left, List.cons.injEq, and_true, true_and, sc_ii, sc_ss, sc_bb, sc_ni, sc_in, sc_is, sc_si, sc_nn, decide_true, decide_false, reduceCtorEq, Bool.false_eq_true, if_true, if_false, ite_true, ite_false, exists_const, eq_self, false_and, and_false, or_false, false_or, exists_false, Evl.rLenS, rSum, wipe, tYes, exists_eq, exists_eq', rIxL, rIxT, rIxS, exists_and_right, gt_iff_lt, not_true_eq_false, not_false_eq_true, Bool.not_true, Bool.not_false, decide_eq_true_eq, Nat.reduceSub, Nat.reduceAdd, List.append_assoc, tChain, tDIn, tDNotIn, sDDel, tAug, ipI, rInt1_int, rInt1_bl]
    refine ⟨Nat.zero_le _, fun p np => ⟨⟨by decide, by decide, by decide⟩, ?_⟩⟩
    have kp := (Kp.new np : Kp [] H (upd H p (.lst [])))
    refine forN n (by omega) (fun j σ H' => ∃ (rest : Int) (c6 : Option V) (ds : List Int), σ = [some (.int c), some (.int (salt : Nat)), some (.int (n : Nat)), some (.int m), some (.ref p), some (.int rest), c6] ∧ H' p = some (.lst (ds.map V.int)) ∧ DrawN j m ds ∧ Kp [] H H') (fun R q' => ⟨_, rfl, q'⟩) ⟨_, _, [], rfl, upd_same, ⟨rfl, fun d h => nomatch h⟩, kp⟩ ?_ ?_
    · rintro j σ H1 hj ⟨rest, c6, ds, rfl, hp, hd, k1⟩
      have sl : (ds.map V.int).length < sizeLine := smallL (by rw [List.length_map, hd.1]; omega)
      have more : ∀ d : Int, 0 ≤ d → d < m → DrawN (j + 1) m (ds ++ [d]) := fun d d0 d1 => ⟨by rw [List.length_append, hd.1]; rfl, fun x hx => by
        rcases List.mem_append.mp hx with hx | hx
        · exact hd.2 x hx
        · rw [List.mem_singleton.mp hx]; exact ⟨d0, d1⟩⟩
      try simp (maxSteps := 1000000) only [tSeq, tIfS, tTest, tOp, tUn, tCB, tCons, tNil, tVar, tC, rI0, rI, rU, rEq, rNe, tRet, tRetN, tAsg, gName, gSub, tBM, tBM0, tNext, tB, tNot, tAnd, tOr, tIf, tCall, tDrop, tBreak, tCont, L2.start, tDGet, sDPut, tTup, tLst, tDNewK, tRevL, rCat, rAppend, rPop, rSetL, tAndV, tOrV, tNotV, tSl, tPart, tNoPart, tM1, gTup, gCons, gNil, cxK, cxnK, List.map_cons, List.map_nil, List.length_cons, List.length_nil, List.replicate, List.cons_append, List.nil_append, List.append_nil, List.set_cons_zero, List.set_cons_succ, List.getElem?_cons_zero, List.getElem?_cons_succ, Option.some.injEq, V.ref.injEq, V.int.injEq, V.str.injEq, V.bl.injEq, V.ty.injEq, exists_eq_left', exists_eq_left, exists_and_left, List.cons.injEq, and_true, true_and, sc_ii, sc_ss, sc_bb, sc_ni, sc_in, sc_is, sc_si, sc_nn, decide_true, decide_false, reduceCtorEq, Bool.false_eq_true, if_true, if_false, ite_true, ite_false, exists_const, eq_self, false_and, and_false, or_false, false_or, exists_false, Evl.rLenS, rSum, wipe, tYes, exists_eq, exists_eq', rIxL, rIxT, rIxS, exists_and_right, gt_iff_lt, not_true_eq_false, not_false_eq_true, Bool.not_true, Bool.not_false, decide_eq_true_eq, Nat.reduceSub, Nat.reduceAdd, List.append_assoc, tChain, tDIn, tDNotIn, sDDel, tAug, ipI, rInt1_int, rInt1_bl]
      by_cases h : 0 ≤ rest
      · rw [if_pos h]
        refine ⟨.inl ⟨rfl, _, sq_l hp⟩, ?_⟩
        try simp (maxSteps := 1000000) only [tSeq, tIfS, tTest, tOp, tUn, tCB, tCons, tNil, tVar, tC, rI0, rI, rU, rEq, rNe, tRet, tRetN, tAsg, gName, gSub, tBM, tBM0, tNext, tB, tNot, tAnd, tOr, tIf, tCall, tDrop, tBreak, tCont, L2.start, tDGet, sDPut, tTup, tLst, tDNewK, tRevL, rCat, rAppend, rPop, rSetL, tAndV, tOrV, tNotV, tSl, tPart, tNoPart, tM1, gTup, gCons, gNil, cxK, cxnK, List.map_cons, List.map_nil, List.length_cons, List.length_nil, List.replicate, List.cons_append, List.nil_append, List.append_nil, List.set_cons_zero, List.set_cons_succ, List.getElem?_cons_zero, List.getElem?_cons_succ, Option.some.injEq, V.ref.injEq, V.int.injEq, V.str.injEq, V.bl.injEq, V.ty.injEq, exists_eq_left', exists_eq_left, exists_and_left, List.cons.injEq, and_true, true_and, sc_ii, sc_ss, sc_bb, sc_ni, sc_in, sc_is, sc_si, sc_nn, decide_true, decide_false, reduceCtorEq, Bool.false_eq_true, if_true, if_false, ite_true, ite_false, exists_const, eq_self, false_and, and_false, or_false, false_or, exists_false, Evl.rLenS, rSum, wipe, tYes, exists_eq, exists_eq', rIxL, rIxT, rIxS, exists_and_right, gt_iff_lt, not_true_eq_false, not_false_eq_true, Bool.not_true, Bool.not_false, decide_eq_true_eq, Nat.reduceSub, Nat.reduceAdd, List.append_assoc, tChain, tDIn, tDNotIn, sDDel, tAug, ipI, rInt1_int, rInt1_bl]
        exact ⟨by omega, _, hp, sl, ⟨by omega, by omega⟩, ds ++ [rest % m], by rw [upd_same, List.map_append]; rfl, more _ (Int.emod_nonneg _ (by omega)) (Int.emod_lt_of_pos _ (by omega)), k1.wr np⟩
      · rw [if_neg h]
        refine ⟨.inl ⟨rfl, _, sq_l hp⟩, ?_⟩
        try simp (maxSteps := 1000000) only [tSeq, tIfS, tTest, tOp, tUn, tCB, tCons, tNil, tVar, tC, rI0, rI, rU, rEq, rNe, tRet, tRetN, tAsg, gName, gSub, tBM, tBM0, tNext, tB, tNot, tAnd, tOr, tIf, tCall, tDrop, tBreak, tCont, L2.start, tDGet, sDPut, tTup, tLst, tDNewK, tRevL, rCat, rAppend, rPop, rSetL, tAndV, tOrV, tNotV, tSl, tPart, tNoPart, tM1, gTup, gCons, gNil, cxK, cxnK, List.map_cons, List.map_nil, List.length_cons, List.length_nil, List.replicate, List.cons_append, List.nil_append, List.append_nil, List.set_cons_zero, List.set_cons_succ, List.getElem?_cons_zero, List.getElem?_cons_succ, Option.some.injEq, V.ref.injEq, V.int.injEq, V.str.injEq, V.bl.injEq, V.ty.injEq, exists_eq_left', exists_eq_left, exists_and_left, List.cons.injEq, and_true, true_and, sc_ii, sc_ss, sc_bb, sc_ni, sc_in, sc_is, sc_si, sc_nn, decide_true, decide_false, reduceCtorEq, Bool.false_eq_true, if_true, if_false, ite_true, ite_false, exists_const, eq_self, false_and, and_false, or_false, false_or, exists_false, Evl.rLenS, rSum, wipe, tYes, exists_eq, exists_eq', rIxL, rIxT, rIxS, exists_and_right, gt_iff_lt, not_true_eq_false, not_false_eq_true, Bool.not_true, Bool.not_false, decide_eq_true_eq, Nat.reduceSub, Nat.reduceAdd, List.append_assoc, tChain, tDIn, tDNotIn, sDDel, tAug, ipI, rInt1_int, rInt1_bl]
        refine ⟨.inr ⟨by decide, by decide⟩, c, _, rfl, fun r r0 => ?_⟩
        try simp (maxSteps := 1000000) only [tSeq, tIfS, tTest, tOp, tUn, tCB, tCons, tNil, tVar, tC, rI0, rI, rU, rEq, rNe, tRet, tRetN, tAsg, gName, gSub, tBM, tBM0, tNext, tB, tNot, tAnd, tOr, tIf, tCall, tDrop, tBreak, tCont, L2.start, tDGet, sDPut, tTup, tLst, tDNewK, tRevL, rCat, rAppend, rPop, rSetL, tAndV, tOrV, tNotV, tSl, tPart, tNoPart, tM1, gTup, gCons, gNil, cxK, cxnK, List.map_cons, List.map_nil, List.length_cons, List.length_nil, List.replicate, List.cons_append, List.nil_append, List.append_nil, List.set_cons_zero, List.set_cons_succ, List.getElem?_cons_zero, List.getElem?_cons_succ, Option.some.injEq, V.ref.injEq, V.int.injEq, V.str.injEq, V.bl.injEq, V.ty.injEq, exists_eq_left', exists_eq_left, exists_and_left, List.cons.injEq, and_true, true_and, sc_ii, sc_ss, sc_bb, sc_ni, sc_in, sc_is, sc_si, sc_nn, decide_true, decide_false, reduceCtorEq, Bool.false_eq_true, if_true, if_false, ite_true, ite_false, exists_const, eq_self, false_and, and_false, or_false, false_or, exists_false, Evl.rLenS, rSum, wipe, tYes, exists_eq, exists_eq', rIxL, rIxT, rIxS, exists_and_right, gt_iff_lt, not_true_eq_false, not_false_eq_true, Bool.not_true, Bool.not_false, decide_eq_true_eq, Nat.reduceSub, Nat.reduceAdd, List.append_assoc, tChain, tDIn, tDNotIn, sDDel, tAug, ipI, rInt1_int, rInt1_bl]
        exact ⟨by omega, _, hp, sl, ds ++ [r % m], by rw [upd_same, List.map_append]; rfl, more _ (Int.emod_nonneg _ (by omega)) (Int.emod_lt_of_pos _ (by omega)), k1.wr np⟩
    · rintro σ H1 ⟨rest, c6, ds, rfl, hp, hd, k1⟩
      try simp (maxSteps := 1000000) only [tSeq, tIfS, tTest, tOp, tUn, tCB, tCons, tNil, tVar, tC, rI0, rI, rU, rEq, rNe, tRet, tRetN, tAsg, gName, gSub, tBM, tBM0, tNext, tB, tNot, tAnd, tOr, tIf, tCall, tDrop, tBreak, tCont, L2.start, tDGet, sDPut, tTup, tLst, tDNewK, tRevL, rCat, rAppend, rPop, rSetL, tAndV, tOrV, tNotV, tSl, tPart, tNoPart, tM1, gTup, gCons, gNil, cxK, cxnK, List.map_cons, List.map_nil, List.length_cons, List.length_nil, List.replicate, List.cons_append, List.nil_append, List.append_nil, List.set_cons_zero, List.set_cons_succ, List.getElem?_cons_zero, List.getElem?_cons_succ, Option.some.injEq, V.ref.injEq, V.int.injEq, V.str.injEq, V.bl.injEq, V.ty.injEq, exists_eq_left', exists_eq_left, exists_and_left, List.cons.injEq, and_true, true_and, sc_ii, sc_ss, sc_bb, sc_ni, sc_in, sc_is, sc_si, sc_nn, decide_true, decide_false, reduceCtorEq, Bool.false_eq_true, if_true, if_false, ite_true, ite_false, exists_const, eq_self, false_and, and_false, or_false, false_or, exists_false, Evl.rLenS, rSum, wipe, tYes, exists_eq, exists_eq', rIxL, rIxT, rIxS, exists_and_right, gt_iff_lt, not_true_eq_false, not_false_eq_true, Bool.not_true, Bool.not_false, decide_eq_true_eq, Nat.reduceSub, Nat.reduceAdd, List.append_assoc, tChain, tDIn, tDNotIn, sDDel, tAug, ipI, rInt1_int, rInt1_bl]
      exact q p ds H1 np hp hd k1
end
end My

set_option Elab.async false
set_option linter.all false
set_option maxRecDepth 100000
set_option maxHeartbeats 4000000
namespace My
open PySem L2 NdefX StX
abbrev s_law_names : Stmt := top 21
theorem sc_law_names : FnScope ["_law_cell_here", "_law_letters", "_law_draws_here", "_law_size", "_law_at", "_law_stem", "_law_x", "_law_names_here", "_law_k", "_law_told_here", "_law_tail"] ["_law_cell_here"] (defScope s_law_names) := ⟨rfl, rfl, rfl, by decide +kernel, rfl, by decide +kernel, by decide +kernel⟩
/-- the k-th name -/
def nameK (cs : List Nat) (ap d8 d9 : Nat) (dk : Nat → Nat) (k : Nat) : Str := tx (cs.take ap ++ ([97 + (d8 + k * (1 + d9 % 12)) % 26] ++ (cs.drop ap ++ List.replicate (dk k % 3) (97 + dk k))))
theorem nameK_ok {cs : List Nat} {ap d8 d9 sz : Nat} {dk : Nat → Nat} (cl : cs.length = sz) (low : LowL cs) (s6 : sz < 6) (hap : ap ≤ sz) (hdk : ∀ k, k < 3 → dk k < 26) : LkOk ((List.range 3).map (nameK cs ap d8 d9 dk)) := by
  refine ⟨by simp, by simp, ?_, fun z hz => ?_⟩
  · unfold List.Nodup
    rw [List.pairwise_map]
    refine List.Pairwise.imp_of_mem ?_ List.pairwise_lt_range
    intro a b ha hb hab e
    have a3 := List.mem_range.mp ha
    have b3 := List.mem_range.mp hb
    have h := tx_inj e
    have h := List.append_cancel_left h
    injection h with h _
    have : (a = 0 ∧ b = 1) ∨ (a = 0 ∧ b = 2) ∨ (a = 1 ∧ b = 2) := by omega
    rcases this with ⟨rfl, rfl⟩ | ⟨rfl, rfl⟩ | ⟨rfl, rfl⟩ <;> omega
  · obtain ⟨k, hk, rfl⟩ := List.mem_map.mp hz
    have k3 := List.mem_range.mp hk
    have hd := hdk k k3
    refine tx_name (fun c hc => ?_) ?_ ?_
    · rcases List.mem_append.mp hc with h | h
      · exact low c (List.mem_of_mem_take h)
      · rcases List.mem_append.mp h with h | h
        · rw [List.mem_singleton.mp h]; omega
        · rcases List.mem_append.mp h with h | h
          · exact low c (List.mem_of_mem_drop h)
          · rw [(List.mem_replicate.mp h).2]; omega
    · simp; omega
    · simp; omega
theorem rw_ones : ∀ {us : List V} {cs : List Nat}, Rw (fun v x => v = V.str (tx [x])) us cs → us = cs.map fun c => V.str (tx [c])
  | us, [], r => r.isNil
  | us, x :: h, r => by
    obtain ⟨u, t, rfl, e, r'⟩ := r.ex
    subst e
    rw [rw_ones r']
    rfl
theorem mul_one (c : Nat) : ∀ m : Nat, m < 3 → MulOk (tx [c]) (m : Nat) ∧ Txt.mul (tx [c]) (m : Nat) = tx (List.replicate m c)
  | 0, _ => by
    refine ⟨⟨by decide, fun h => absurd (show ((0 : Nat) : Int) < 1 by decide) h, fun h => absurd (show ((0 : Nat) : Int) < 1 by decide) h⟩, ?_⟩
    rfl
  | 1, _ => by
    have e : (((1 : Nat) : Int) == 1 || (tx [c]).length == 0) = true := rfl
    refine ⟨⟨by decide, fun _ h => ?_, fun _ h => ?_⟩, rfl⟩
    · rw [e] at h; cases h
    · rw [e] at h; cases h
  | 2, _ => by
    refine ⟨⟨by decide, fun _ _ => ?_, fun _ _ => ?_⟩, rfl⟩
    · rw [tx_len]
      show ¬ ((1 : Int) > (2 ^ 63 - 1) / 2)
      decide
    · rw [tx_len]
      rfl
theorem noneB {H H1 : Hp} {e : Addr} (k : Kp [] H H1) (n : H1 e = none) : H e = none := k.free0 n
theorem lk_by {zs : List Str} (h : (decide (1 ≤ zs.length) && decide (zs.length ≤ 3) && decide zs.Nodup && zs.all nameS) = true) : LkOk zs := by
  simp only [Bool.and_eq_true, decide_eq_true_eq, List.all_eq_true] at h
  exact ⟨h.1.1.1, h.1.1.2, h.1.2, h.2⟩
section
variable {P : Program} {w : World} {K : PySem.W.Frag} {mg : Str → Option Value} {base : Heap} {tL t3 : Tok} {RC : Addr}
def spNames : Sp := fun vs H Q _ => ∃ (c : Int), vs = [.int c] ∧ ∀ l zs H', H l = none → H' l = some (.lst (zs.map V.str)) → zs.length = 3 → LkOk zs → Kp [] H H' → Q (.ref l) H'
theorem ok_law_names {f : Addr} {fd : FuncData} (D : Df K mg "_law_names" s_law_names ["_law_cell_here"] f fd) (T : BtG mg) {f1 : Addr} {fd1 : FuncData} (D_law_draws : Df K mg "_law_draws" s_law_draws ["_law_cell_here", "_law_salt", "_law_count", "_law_many"] f1 fd1) (G_law_draws : FnOk P w K mg base CX0 2 f1 fd1 ["_law_cell_here", "_law_salt", "_law_count", "_law_many"] spDraws) : FnOk P w K mg base CX0 3 f fd ["_law_cell_here"] spNames := by
  refine D.F.ok sc_law_names (fun vs H Q E h => ?_) (fun cdv A outer s H vs Q E hr h => ?_)
  · obtain ⟨_, rfl, _⟩ := h
    rfl
  · obtain ⟨c, rfl, q⟩ := h
    have hu := hu_of hr
    refine ⟨_, (pss_cons (ps_set (i := 1) sc_law_names.nd rfl (Or.inr rfl) pe_str)
      (pss_cons (ps_set (i := 2) sc_law_names.nd rfl (Or.inl rfl) (pe_call G_law_draws (hr.mono (by decide)) rfl D_law_draws.g D_law_draws.F.kp D_law_draws.b .nil pass0 (pa_cons (pv 0) (pa_cons pe_int (pa_cons pe_int (pa_cons pe_int pa_nil))))))
      (pss_cons (ps_if (pt_cmpR op_lt (pe_ix (r := rIxL K) ix_list (pv 2) pe_int (fun _ _ => rfl)) pe_int (nomark _)) (pss_one (ps_ret (pe_ix (r := rIxL K) ix_list (pe_lst (pa_cons (pe_lst (pa_cons pe_str (pa_cons pe_str (pa_cons pe_str pa_nil)))) (pa_cons (pe_lst (pa_cons pe_str (pa_cons pe_str (pa_cons pe_str pa_nil)))) (pa_cons (pe_lst (pa_cons pe_str (pa_cons pe_str (pa_cons pe_str pa_nil)))) (pa_cons (pe_lst (pa_cons pe_str (pa_cons pe_str (pa_cons pe_str pa_nil)))) pa_nil))))) (pe_ix (r := rIxL K) ix_list (pv 2) pe_int (fun _ _ => rfl)) (fun _ _ => rfl)))) pss_nil)
      (pss_cons (ps_set (i := 3) sc_law_names.nd rfl (Or.inl rfl) (pe_op op_mod (pe_callTy (T := "int") (r := rInt1) call_int1 (by rfl) T.b_int (by decide +kernel) (pa_cons (pe_ix (r := rIxL K) ix_list (pv 2) pe_int (fun _ _ => rfl)) pa_nil)) pe_int))
      (pss_cons (ps_set (i := 4) sc_law_names.nd rfl (Or.inl rfl) (pe_op op_mod (pe_callTy (T := "int") (r := rInt1) call_int1 (by rfl) T.b_int (by decide +kernel) (pa_cons (pe_ix (r := rIxL K) ix_list (pv 2) pe_int (fun _ _ => rfl)) pa_nil)) (pe_op op_add (pv 3) pe_int)))
      (pss_cons (ps_set (i := 5) sc_law_names.nd rfl (Or.inl rfl) (pe_join pe_str (pe_lc (own := [("_law_x", 6)]) (g := (gName 6)) (tt := tYes) rfl sc_law_names.nd (pi_list (pe_slice sl_list (pv 2) (po_some pe_int) (po_some (pe_op op_add pe_int (pv 3))))) (blkOk_by (N := ["_law_cell_here", "_law_letters", "_law_draws_here", "_law_size", "_law_at", "_law_stem", "_law_x", "_law_names_here", "_law_k", "_law_told_here", "_law_tail"]) (sc := defScope s_law_names) (by decide +kernel)) (fun _ _ _ _ _ => (pg_name (i := 6) sc_law_names.nd rfl (Or.inl rfl))) (fun _ _ _ _ _ => pts_nil) (fun _ _ _ _ _ => (pe_ix ix_str (pv 1) (pv 6) (fun _ _ => rfl))))))
      (pss_cons (ps_set (i := 7) sc_law_names.nd rfl (Or.inl rfl) (pe_lst pa_nil))
      (pss_cons (ps_for PassesOwn.never rfl (pi_range1 rfl T.b_range (pa_cons pe_int pa_nil)) (pg_name (i := 8) sc_law_names.nd rfl (Or.inl rfl)) (pss_cons (ps_set (i := 9) sc_law_names.nd rfl (Or.inl rfl) (pe_ix ix_str (pv 1) (pe_op op_mod (pe_callTy (T := "int") (r := rInt1) call_int1 (by rfl) T.b_int (by decide +kernel) (pa_cons (pe_op op_add (pe_ix (r := rIxL K) ix_list (pv 2) pe_int (fun _ _ => rfl)) (pe_op op_mul (pv 8) (pe_op op_add pe_int (pe_op op_mod (pe_callTy (T := "int") (r := rInt1) call_int1 (by rfl) T.b_int (by decide +kernel) (pa_cons (pe_ix (r := rIxL K) ix_list (pv 2) pe_int (fun _ _ => rfl)) pa_nil)) pe_int)))) pa_nil)) pe_int) (fun _ _ => rfl)))
      (pss_cons (ps_set (i := 10) sc_law_names.nd rfl (Or.inl rfl) (pe_op op_mulS (pe_ix ix_str (pv 1) (pe_ix (r := rIxL K) ix_list (pv 2) (pe_op op_add pe_int (pv 8)) (fun _ _ => rfl)) (fun _ _ => rfl)) (pe_op op_mod (pe_callTy (T := "int") (r := rInt1) call_int1 (by rfl) T.b_int (by decide +kernel) (pa_cons (pe_ix (r := rIxL K) ix_list (pv 2) (pe_op op_add pe_int (pv 8)) (fun _ _ => rfl)) pa_nil)) pe_int)))
      (pss_one (ps_expr (pe_bm PySem.F.plainAttrs_list PySem.F.slot_list_append PySem.F.type_list_append mt_append (pv 7) (pa_cons (pe_op op_add_str (pe_op op_add_str (pe_op op_add_str (pe_slice sl_str (pv 5) po_none (po_some (pv 4))) (pv 9)) (pe_slice sl_str (pv 5) (po_some (pv 4)) po_none)) (pv 10)) pa_nil)))))))
      (pss_one (ps_ret (pv 7))))))))))), ?_⟩
    try simp (maxSteps := 1000000) only [tSeq, tIfS, tTest, tOp, tUn, tCB, tCons, tNil, tVar, tC, rI0, rI, rU, rEq, rNe, tRet, tRetN, tAsg, gName, gSub, tBM, tBM0, tNext, tB, tNot, tAnd, tOr, tIf, tCall, tDrop, tBreak, tCont, L2.start, tDGet, sDPut, tTup, tLst, tDNewK, tRevL, rCat, rAppend, rPop, rSetL, tAndV, tOrV, tNotV, tSl, tPart, tNoPart, tM1, gTup, gCons, gNil, cxK, cxnK, List.map_cons, List.map_nil, List.length_cons, List.length_nil, List.replicate, List.cons_append, List.nil_append, List.append_nil, List.set_cons_zero, List.set_cons_succ, List.getElem?_cons_zero, List.getElem?_cons_succ, Option.some.injEq, V.ref.injEq, V.int.injEq, V.str.injEq, V.bl.injEq, V.ty.injEq, exists_eq_left', exists_eq_left, exists_and_left, List.cons.injEq, and_true, true_and, sc_ii, sc_ss, sc_bb, sc_ni, sc_in, sc_is, sc_si, sc_nn, decide_true, decide_false, reduceCtorEq, Bool.false_eq_true, if_true, if_false, ite_true, ite_false, exists_const, eq_self, false_and, and_false, or_false, false_or, exists_false, Evl.rLenS, rSum, wipe, tYes, exists_eq, exists_eq', rIxL, rIxT, rIxS, exists_and_right, gt_iff_lt, not_true_eq_false, not_false_eq_true, Bool.not_true, Bool.not_false, decide_eq_true_eq, Nat.reduceSub, Nat.reduceAdd, List.append_assoc, tChain, tDIn, tDNotIn, sDDel, tAug, ipI, rInt1_int, rInt1_bl]
    refine ⟨c, 0, 13, 26, rfl, by decide, by decide, by decide, fun l ds H1 nl hl hd k1 => ?_⟩
    dsimp only
    have dlen : ds.length = 13 := hd.1
    have dd : ∀ i, i < 13 → ∃ v : Nat, ds[i]? = some (v : Int) ∧ v < 26 := fun i hi => by
      have e := List.getElem?_eq_getElem (l := ds) (i := i) (by omega)
      have := hd.2 _ (List.mem_of_getElem? e)
      exact ⟨(ds[i]'(by omega)).toNat, by rw [e, Int.toNat_of_nonneg this.1], by omega⟩
    have dV : ∀ {i : Nat} {v : Int}, ds[i]? = some v → atI (ds.map V.int) ((i : Nat) : Int) = some (.int v) := fun {i v} e => atI_nat (by rw [List.getElem?_map, e]; rfl)
    obtain ⟨d0, e0, b0⟩ := dd 0 (by decide)
    obtain ⟨d1, e1, b1⟩ := dd 1 (by decide)
    obtain ⟨d2, e2, b2⟩ := dd 2 (by decide)
    obtain ⟨d8, e8, b8⟩ := dd 8 (by decide)
    obtain ⟨d9, e9, b9⟩ := dd 9 (by decide)
    refine ⟨l, rfl, _, sq_l hl, _, dV e0, _, rfl, ?_⟩
    by_cases h4 : (d0 : Int) < 4
    · rw [if_pos h4]
      have three : (3 : Nat) ≤ sizeLine := by rw [sizeLine_eq]; decide
      refine ⟨three, fun p1 n1 => ⟨three, fun p2 n2 => ⟨three, fun p3 n3 => ⟨three, fun p4 n4 => ⟨by rw [sizeLine_eq]; decide, fun p5 n5 => ?_⟩⟩⟩⟩⟩
      have q1 := (Kp.new n1 (S := []) (o := .lst [V.str (Str.ofString "lock"), V.str (Str.ofString "free"), V.str (Str.ofString "held")]))
      have q2 := (Kp.new n2 (S := []) (o := .lst [V.str (Str.ofString "c"), V.str (Str.ofString "b"), V.str (Str.ofString "a")]))
      have q3 := (Kp.new n3 (S := []) (o := .lst [V.str (Str.ofString "a"), V.str (Str.ofString "ab"), V.str (Str.ofString "b")]))
      have q4 := (Kp.new n4 (S := []) (o := .lst [V.str (Str.ofString "zzzzzzzz"), V.str (Str.ofString "z"), V.str (Str.ofString "zz")]))
      have q5 := (Kp.new n5 (S := []) (o := .lst [V.ref p1, V.ref p2, V.ref p3, V.ref p4]))
      have kk := ((q1.trans q2).trans q3).trans q4 |>.trans q5
      have g1 := ((q2.trans q3).trans q4 |>.trans q5) _ _ not0 (upd_same (H := H1) (a := p1) (o := .lst [V.str (Str.ofString "lock"), V.str (Str.ofString "free"), V.str (Str.ofString "held")]))
      have g2 := ((q3.trans q4).trans q5) _ _ not0 upd_same
      have g3 := (q4.trans q5) _ _ not0 upd_same
      have g4 := q5 _ _ not0 upd_same
      have g5 := upd_same (H := upd (upd (upd (upd H1 p1 (.lst [V.str (Str.ofString "lock"), V.str (Str.ofString "free"), V.str (Str.ofString "held")])) p2 (.lst [V.str (Str.ofString "c"), V.str (Str.ofString "b"), V.str (Str.ofString "a")])) p3 (.lst [V.str (Str.ofString "a"), V.str (Str.ofString "ab"), V.str (Str.ofString "b")])) p4 (.lst [V.str (Str.ofString "zzzzzzzz"), V.str (Str.ofString "z"), V.str (Str.ofString "zz")])) (a := p5) (o := .lst [V.ref p1, V.ref p2, V.ref p3, V.ref p4])
      have z1 := noneB k1 n1
      have z2 := noneB (k1.trans q1) n2
      have z3 := noneB ((k1.trans q1).trans q2) n3
      have z4 := noneB (((k1.trans q1).trans q2).trans q3) n4
      generalize upd (upd (upd (upd (upd H1 p1 (.lst [V.str (Str.ofString "lock"), V.str (Str.ofString "free"), V.str (Str.ofString "held")])) p2 (.lst [V.str (Str.ofString "c"), V.str (Str.ofString "b"), V.str (Str.ofString "a")])) p3 (.lst [V.str (Str.ofString "a"), V.str (Str.ofString "ab"), V.str (Str.ofString "b")])) p4 (.lst [V.str (Str.ofString "zzzzzzzz"), V.str (Str.ofString "z"), V.str (Str.ofString "zz")])) p5 (.lst [V.ref p1, V.ref p2, V.ref p3, V.ref p4]) = H2 at kk g1 g2 g3 g4 g5 ⊢
      have kH := k1.trans kk
      refine ⟨l, rfl, _, sq_l (kk _ _ not0 hl), _, dV e0, _, _, rfl, sq_l g5, ?_⟩
      have : d0 = 0 ∨ d0 = 1 ∨ d0 = 2 ∨ d0 = 3 := by omega
      rcases this with rfl | rfl | rfl | rfl
      · exact ⟨.ref p1, rfl, q p1 ["lock", "free", "held"] H2 z1 g1 rfl (lk_by (by decide +kernel)) kH⟩
      · exact ⟨.ref p2, rfl, q p2 ["c", "b", "a"] H2 z2 g2 rfl (lk_by (by decide +kernel)) kH⟩
      · exact ⟨.ref p3, rfl, q p3 ["a", "ab", "b"] H2 z3 g3 rfl (lk_by (by decide +kernel)) kH⟩
      · exact ⟨.ref p4, rfl, q p4 ["zzzzzzzz", "z", "zz"] H2 z4 g4 rfl (lk_by (by decide +kernel)) kH⟩
    · rw [if_neg h4]
      refine ⟨l, rfl, _, sq_l hl, _, dV e1, ?_⟩
      try simp (maxSteps := 1000000) only [tSeq, tIfS, tTest, tOp, tUn, tCB, tCons, tNil, tVar, tC, rI0, rI, rU, rEq, rNe, tRet, tRetN, tAsg, gName, gSub, tBM, tBM0, tNext, tB, tNot, tAnd, tOr, tIf, tCall, tDrop, tBreak, tCont, L2.start, tDGet, sDPut, tTup, tLst, tDNewK, tRevL, rCat, rAppend, rPop, rSetL, tAndV, tOrV, tNotV, tSl, tPart, tNoPart, tM1, gTup, gCons, gNil, cxK, cxnK, List.map_cons, List.map_nil, List.length_cons, List.length_nil, List.replicate, List.cons_append, List.nil_append, List.append_nil, List.set_cons_zero, List.set_cons_succ, List.getElem?_cons_zero, List.getElem?_cons_succ, Option.some.injEq, V.ref.injEq, V.int.injEq, V.str.injEq, V.bl.injEq, V.ty.injEq, exists_eq_left', exists_eq_left, exists_and_left, List.cons.injEq, and_true, true_and, sc_ii, sc_ss, sc_bb, sc_ni, sc_in, sc_is, sc_si, sc_nn, decide_true, decide_false, reduceCtorEq, Bool.false_eq_true, if_true, if_false, ite_true, ite_false, exists_const, eq_self, false_and, and_false, or_false, false_or, exists_false, Evl.rLenS, rSum, wipe, tYes, exists_eq, exists_eq', rIxL, rIxT, rIxS, exists_and_right, gt_iff_lt, not_true_eq_false, not_false_eq_true, Bool.not_true, Bool.not_false, decide_eq_true_eq, Nat.reduceSub, Nat.reduceAdd, List.append_assoc, tChain, tDIn, tDNotIn, sDDel, tAug, ipI, rInt1_int, rInt1_bl]
      refine ⟨by decide, _, sq_l hl, _, dV e2, ?_⟩
      try simp (maxSteps := 1000000) only [tSeq, tIfS, tTest, tOp, tUn, tCB, tCons, tNil, tVar, tC, rI0, rI, rU, rEq, rNe, tRet, tRetN, tAsg, gName, gSub, tBM, tBM0, tNext, tB, tNot, tAnd, tOr, tIf, tCall, tDrop, tBreak, tCont, L2.start, tDGet, sDPut, tTup, tLst, tDNewK, tRevL, rCat, rAppend, rPop, rSetL, tAndV, tOrV, tNotV, tSl, tPart, tNoPart, tM1, gTup, gCons, gNil, cxK, cxnK, List.map_cons, List.map_nil, List.length_cons, List.length_nil, List.replicate, List.cons_append, List.nil_append, List.append_nil, List.set_cons_zero, List.set_cons_succ, List.getElem?_cons_zero, List.getElem?_cons_succ, Option.some.injEq, V.ref.injEq, V.int.injEq, V.str.injEq, V.bl.injEq, V.ty.injEq, exists_eq_left', exists_eq_left, exists_and_left, List.cons.injEq, and_true, true_and, sc_ii, sc_ss, sc_bb, sc_ni, sc_in, sc_is, sc_si, sc_nn, decide_true, decide_false, reduceCtorEq, Bool.false_eq_true, if_true, if_false, ite_true, ite_false, exists_const, eq_self, false_and, and_false, or_false, false_or, exists_false, Evl.rLenS, rSum, wipe, tYes, exists_eq, exists_eq', rIxL, rIxT, rIxS, exists_and_right, gt_iff_lt, not_true_eq_false, not_false_eq_true, Bool.not_true, Bool.not_false, decide_eq_true_eq, Nat.reduceSub, Nat.reduceAdd, List.append_assoc, tChain, tDIn, tDNotIn, sDDel, tAug, ipI, rInt1_int, rInt1_bl]
      obtain ⟨sz, esz, sz6⟩ : ∃ sz : Nat, (d1 : Int) % 6 = (sz : Nat) ∧ sz < 6 := ⟨d1 % 6, by omega, by omega⟩
      rw [esz]
      obtain ⟨ap, eap, apz⟩ : ∃ ap : Nat, (d2 : Int) % ((sz : Nat) + 1) = (ap : Nat) ∧ ap ≤ sz := ⟨d2 % (sz + 1), by push_cast; rfl, by have := Nat.mod_lt d2 (show 0 < sz + 1 by omega); omega⟩
      rw [eap]
      refine ⟨by omega, lc_src ?_⟩
      try simp (maxSteps := 1000000) only [tSeq, tIfS, tTest, tOp, tUn, tCB, tCons, tNil, tVar, tC, rI0, rI, rU, rEq, rNe, tRet, tRetN, tAsg, gName, gSub, tBM, tBM0, tNext, tB, tNot, tAnd, tOr, tIf, tCall, tDrop, tBreak, tCont, L2.start, tDGet, sDPut, tTup, tLst, tDNewK, tRevL, rCat, rAppend, rPop, rSetL, tAndV, tOrV, tNotV, tSl, tPart, tNoPart, tM1, gTup, gCons, gNil, cxK, cxnK, List.map_cons, List.map_nil, List.length_cons, List.length_nil, List.replicate, List.cons_append, List.nil_append, List.append_nil, List.set_cons_zero, List.set_cons_succ, List.getElem?_cons_zero, List.getElem?_cons_succ, Option.some.injEq, V.ref.injEq, V.int.injEq, V.str.injEq, V.bl.injEq, V.ty.injEq, exists_eq_left', exists_eq_left, exists_and_left, List.cons.injEq, and_true, true_and, sc_ii, sc_ss, sc_bb, sc_ni, sc_in, sc_is, sc_si, sc_nn, decide_true, decide_false, reduceCtorEq, Bool.false_eq_true, if_true, if_false, ite_true, ite_false, exists_const, eq_self, false_and, and_false, or_false, false_or, exists_false, Evl.rLenS, rSum, wipe, tYes, exists_eq, exists_eq', rIxL, rIxT, rIxS, exists_and_right, gt_iff_lt, not_true_eq_false, not_false_eq_true, Bool.not_true, Bool.not_false, decide_eq_true_eq, Nat.reduceSub, Nat.reduceAdd, List.append_assoc, tChain, tDIn, tDNotIn, sDDel, tAug, ipI, rInt1_int, rInt1_bl]
      refine ⟨l, _, rfl, sq_l hl, fun pa npa => ?_⟩
      rw [show (some (3 : Int)) = some ((3 : Nat) : Int) from rfl, show (3 : Int) + ((sz : Nat) : Int) = ((3 + sz : Nat) : Int) by push_cast; rfl, cut_ij (by omega), show 3 + sz - 3 = sz by omega]
      have ka := (Kp.new npa : Kp [] H1 (upd H1 pa (.lst (((ds.drop 3).take sz).map V.int))))
      have hpa : (upd H1 pa (.lst (((ds.drop 3).take sz).map V.int))) pa = some (.lst (((ds.drop 3).take sz).map V.int)) := upd_same
      generalize upd H1 pa (.lst (((ds.drop 3).take sz).map V.int)) = H2 at ka hpa ⊢
      have hin : ∀ x ∈ (ds.drop 3).take sz, 0 ≤ x ∧ x < 26 := fun x hx => hd.2 x (List.mem_of_mem_drop (List.mem_of_mem_take hx))
      have hlen : ((ds.drop 3).take sz).length = sz := by rw [List.length_take, List.length_drop]; omega
      generalize (ds.drop 3).take sz = xs at hpa hin hlen
      refine lcG (R := fun _ v x => v = V.int x) (R2 := fun _ v x => v = V.str (tx [x])) (fun _ _ _ _ _ h => h) (fun _ _ _ _ _ h => h) (fun _ => true) (fun x => 97 + x.toNat) (src_list (fun R q' => q') (sq_l hpa)) (rwInts xs) (by omega) (fun v x H3 N N0 hx hv k3 hN hN0 => ?_) fun D us' H3 nD hD hrw k3 => ?_
      · subst hv
        obtain ⟨x0, x1⟩ := hin x hx
        refine ⟨by simp [wipe], ?_⟩
        try simp (maxSteps := 1000000) only [tSeq, tIfS, tTest, tOp, tUn, tCB, tCons, tNil, tVar, tC, rI0, rI, rU, rEq, rNe, tRet, tRetN, tAsg, gName, gSub, tBM, tBM0, tNext, tB, tNot, tAnd, tOr, tIf, tCall, tDrop, tBreak, tCont, L2.start, tDGet, sDPut, tTup, tLst, tDNewK, tRevL, rCat, rAppend, rPop, rSetL, tAndV, tOrV, tNotV, tSl, tPart, tNoPart, tM1, gTup, gCons, gNil, cxK, cxnK, List.map_cons, List.map_nil, List.length_cons, List.length_nil, List.replicate, List.cons_append, List.nil_append, List.append_nil, List.set_cons_zero, List.set_cons_succ, List.getElem?_cons_zero, List.getElem?_cons_succ, Option.some.injEq, V.ref.injEq, V.int.injEq, V.str.injEq, V.bl.injEq, V.ty.injEq, exists_eq_left', exists_eq_left, exists_and_left, List.cons.injEq, and_true, true_and, sc_ii, sc_ss, sc_bb, sc_ni, sc_in, sc_is, sc_si, sc_nn, decide_true, decide_false, reduceCtorEq, Bool.false_eq_true, if_true, if_false, ite_true, ite_false, exists_const, eq_self, false_and, and_false, or_false, false_or, exists_false, Evl.rLenS, rSum, wipe, tYes, exists_eq, exists_eq', rIxL, rIxT, rIxS, exists_and_right, gt_iff_lt, not_true_eq_false, not_false_eq_true, Bool.not_true, Bool.not_false, decide_eq_true_eq, Nat.reduceSub, Nat.reduceAdd, List.append_assoc, tChain, tDIn, tDNotIn, sDDel, tAug, ipI, rInt1_int, rInt1_bl]
        rw [show x = ((x.toNat : Nat) : Int) from (Int.toNat_of_nonneg x0).symm]
        exact ⟨by decide +kernel, _, atI_nat (lets_at x.toNat (by omega)), hN rfl _ _ rfl (Kp.refl _ _)⟩
      · rw [List.filter_eq_self.mpr (fun _ _ => rfl)] at hrw
        have cl : (xs.map fun x => 97 + x.toNat).length = sz := by rw [List.length_map]; exact hlen
        have clow : LowL (xs.map fun x => 97 + x.toNat) := fun c hc => by
          obtain ⟨x, hx, rfl⟩ := List.mem_map.mp hc
          have := hin x hx
          omega
        generalize (xs.map fun x => 97 + x.toNat) = cs at *
        have e := rw_ones hrw
        subst e
        have k13 := ka.trans k3
        refine ⟨D, rfl, cs.map (fun c => tx [c]), .inl (by rw [List.map_map]; exact sq_l hD), by rw [sum_ones]; show cs.length + _ * 0 ≤ _; omega, Nat.zero_le _, fun nl nnl => ?_⟩
        rw [show Txt.join (Str.ofString "") (cs.map fun c => tx [c]) = tx cs from join_ones cs]
        have kn := k13.trans (Kp.new nnl (o := .lst []))
        have nnl0 : H nl = none := noneB (k1.trans k13) nnl
        obtain ⟨dk, hdk⟩ : ∃ dk : Nat → Nat, ∀ k, k < 3 → ds[10 + k]? = some ((dk k : Nat) : Int) ∧ dk k < 26 := by
          obtain ⟨a0, ea0, ba0⟩ := dd 10 (by decide)
          obtain ⟨a1, ea1, ba1⟩ := dd 11 (by decide)
          obtain ⟨a2, ea2, ba2⟩ := dd 12 (by decide)
          refine ⟨fun k => if k = 0 then a0 else if k = 1 then a1 else a2, fun k hk => ?_⟩
          have : k = 0 ∨ k = 1 ∨ k = 2 := by omega
          rcases this with rfl | rfl | rfl
          · exact ⟨ea0, ba0⟩
          · exact ⟨ea1, ba1⟩
          · exact ⟨ea2, ba2⟩
        refine forN 3 (by decide) (fun j σ H' => ∃ c8 c9 c10, σ = [some (.int c), some (.str (Str.ofString "abcdefghijklmnopqrstuvwxyz")), some (.ref l), some (.int (sz : Nat)), some (.int (ap : Nat)), some (.str (tx cs)), none, some (.ref nl), c8, c9, c10] ∧ H' nl = some (.lst (((List.range j).map (nameK cs ap d8 d9 dk)).map V.str)) ∧ Kp [] H1 H') (fun R q' => q') ⟨_, _, _, rfl, upd_same, kn⟩ ?_ ?_
        · rintro j σ H4 hj ⟨c8, c9, c10, rfl, hnl, k14⟩
          have hl4 := k14 _ _ not0 hl
          obtain ⟨edk, bdk⟩ := hdk j hj
          try simp (maxSteps := 1000000) only [tSeq, tIfS, tTest, tOp, tUn, tCB, tCons, tNil, tVar, tC, rI0, rI, rU, rEq, rNe, tRet, tRetN, tAsg, gName, gSub, tBM, tBM0, tNext, tB, tNot, tAnd, tOr, tIf, tCall, tDrop, tBreak, tCont, L2.start, tDGet, sDPut, tTup, tLst, tDNewK, tRevL, rCat, rAppend, rPop, rSetL, tAndV, tOrV, tNotV, tSl, tPart, tNoPart, tM1, gTup, gCons, gNil, cxK, cxnK, List.map_cons, List.map_nil, List.length_cons, List.length_nil, List.replicate, List.cons_append, List.nil_append, List.append_nil, List.set_cons_zero, List.set_cons_succ, List.getElem?_cons_zero, List.getElem?_cons_succ, Option.some.injEq, V.ref.injEq, V.int.injEq, V.str.injEq, V.bl.injEq, V.ty.injEq, exists_eq_left', exists_eq_left, exists_and_left, List.cons.injEq, and_true, true_and, sc_ii, sc_ss, sc_bb, sc_ni, sc_in, sc_is, sc_si, sc_nn, decide_true, decide_false, reduceCtorEq, Bool.false_eq_true, if_true, if_false, ite_true, ite_false, exists_const, eq_self, false_and, and_false, or_false, false_or, exists_false, Evl.rLenS, rSum, wipe, tYes, exists_eq, exists_eq', rIxL, rIxT, rIxS, exists_and_right, gt_iff_lt, not_true_eq_false, not_false_eq_true, Bool.not_true, Bool.not_false, decide_eq_true_eq, Nat.reduceSub, Nat.reduceAdd, List.append_assoc, tChain, tDIn, tDNotIn, sDDel, tAug, ipI, rInt1_int, rInt1_bl]
          have e8' : atI (ds.map V.int) 8 = some (.int (d8 : Nat)) := dV e8
          have e9' : atI (ds.map V.int) 9 = some (.int (d9 : Nat)) := dV e9
          have edk' : atI (ds.map V.int) (10 + (j : Nat)) = some (.int (dk j : Nat)) := by
            have := dV edk
            push_cast at this
            exact this
          refine ⟨_, sq_l hl4, _, e8', _, sq_l hl4, _, e9', ?_⟩
          try simp (maxSteps := 1000000) only [tSeq, tIfS, tTest, tOp, tUn, tCB, tCons, tNil, tVar, tC, rI0, rI, rU, rEq, rNe, tRet, tRetN, tAsg, gName, gSub, tBM, tBM0, tNext, tB, tNot, tAnd, tOr, tIf, tCall, tDrop, tBreak, tCont, L2.start, tDGet, sDPut, tTup, tLst, tDNewK, tRevL, rCat, rAppend, rPop, rSetL, tAndV, tOrV, tNotV, tSl, tPart, tNoPart, tM1, gTup, gCons, gNil, cxK, cxnK, List.map_cons, List.map_nil, List.length_cons, List.length_nil, List.replicate, List.cons_append, List.nil_append, List.append_nil, List.set_cons_zero, List.set_cons_succ, List.getElem?_cons_zero, List.getElem?_cons_succ, Option.some.injEq, V.ref.injEq, V.int.injEq, V.str.injEq, V.bl.injEq, V.ty.injEq, exists_eq_left', exists_eq_left, exists_and_left, List.cons.injEq, and_true, true_and, sc_ii, sc_ss, sc_bb, sc_ni, sc_in, sc_is, sc_si, sc_nn, decide_true, decide_false, reduceCtorEq, Bool.false_eq_true, if_true, if_false, ite_true, ite_false, exists_const, eq_self, false_and, and_false, or_false, false_or, exists_false, Evl.rLenS, rSum, wipe, tYes, exists_eq, exists_eq', rIxL, rIxT, rIxS, exists_and_right, gt_iff_lt, not_true_eq_false, not_false_eq_true, Bool.not_true, Bool.not_false, decide_eq_true_eq, Nat.reduceSub, Nat.reduceAdd, List.append_assoc, tChain, tDIn, tDNotIn, sDDel, tAug, ipI, rInt1_int, rInt1_bl]
          have em : ((d8 : Int) + (j : Nat) * (1 + (d9 : Int) % 12)) % 26 = (((d8 + j * (1 + d9 % 12)) % 26 : Nat) : Int) := by push_cast; rfl
          rw [em]
          refine ⟨by decide, .inl ⟨by omega, by omega⟩, by decide, by decide +kernel, _, atI_nat (lets_at _ (Nat.mod_lt _ (by decide))), _, sq_l hl4, _, edk', _, rfl, by decide +kernel, _, atI_nat (lets_at _ bdk), _, sq_l hl4, _, edk', ?_⟩
          try simp (maxSteps := 1000000) only [tSeq, tIfS, tTest, tOp, tUn, tCB, tCons, tNil, tVar, tC, rI0, rI, rU, rEq, rNe, tRet, tRetN, tAsg, gName, gSub, tBM, tBM0, tNext, tB, tNot, tAnd, tOr, tIf, tCall, tDrop, tBreak, tCont, L2.start, tDGet, sDPut, tTup, tLst, tDNewK, tRevL, rCat, rAppend, rPop, rSetL, tAndV, tOrV, tNotV, tSl, tPart, tNoPart, tM1, gTup, gCons, gNil, cxK, cxnK, List.map_cons, List.map_nil, List.length_cons, List.length_nil, List.replicate, List.cons_append, List.nil_append, List.append_nil, List.set_cons_zero, List.set_cons_succ, List.getElem?_cons_zero, List.getElem?_cons_succ, Option.some.injEq, V.ref.injEq, V.int.injEq, V.str.injEq, V.bl.injEq, V.ty.injEq, exists_eq_left', exists_eq_left, exists_and_left, List.cons.injEq, and_true, true_and, sc_ii, sc_ss, sc_bb, sc_ni, sc_in, sc_is, sc_si, sc_nn, decide_true, decide_false, reduceCtorEq, Bool.false_eq_true, if_true, if_false, ite_true, ite_false, exists_const, eq_self, false_and, and_false, or_false, false_or, exists_false, Evl.rLenS, rSum, wipe, tYes, exists_eq, exists_eq', rIxL, rIxT, rIxS, exists_and_right, gt_iff_lt, not_true_eq_false, not_false_eq_true, Bool.not_true, Bool.not_false, decide_eq_true_eq, Nat.reduceSub, Nat.reduceAdd, List.append_assoc, tChain, tDIn, tDNotIn, sDDel, tAug, ipI, rInt1_int, rInt1_bl]
          have m3 : dk j % 3 < 3 := Nat.mod_lt _ (by decide)
          rw [show ((dk j : Nat) : Int) % 3 = ((dk j % 3 : Nat) : Int) by push_cast; rfl]
          obtain ⟨mok, meq⟩ := mul_one (97 + dk j) (dk j % 3) m3
          have u16 : sizeLine = 16777216 := sizeLine_eq
          refine ⟨by decide, tx [97 + dk j], _, rfl, rfl, mok, ?_⟩
          rw [meq]
          refine ⟨.inl ⟨rfl, _, sq_l hnl⟩, tx cs, rfl, by rw [tx_len]; omega, ?_⟩
          rw [cutTo]
          refine ⟨_, rfl, ?_⟩
          have one : ∀ c : Nat, ({ cps := #[c] } : Str) = tx [c] := fun c => rfl
          rw [one]
          refine ⟨by rw [tx_len, tx_len, List.length_take]; simp; omega, tx cs, rfl, by rw [tx_len]; omega, ?_⟩
          rw [cutFrom]
          refine ⟨_, rfl, ?_⟩
          rw [tx_app]
          refine ⟨by rw [tx_len, tx_len]; simp; omega, _, rfl, ?_⟩
          rw [tx_app]
          refine ⟨by rw [tx_len, tx_len]; simp; omega, ?_⟩
          rw [tx_app]
          refine ⟨_, hnl, smallL (by simp; omega), ?_, k14.wr (noneB k13 nnl)⟩
          rw [upd_same, List.range_succ, List.map_append, List.map_append, List.map_cons, List.map_cons, List.map_nil, List.map_nil]
          unfold nameK
          rw [List.append_assoc, List.append_assoc]
        · rintro σ H4 ⟨c8, c9, c10, rfl, hnl, k14⟩
          try simp (maxSteps := 1000000) only [tSeq, tIfS, tTest, tOp, tUn, tCB, tCons, tNil, tVar, tC, rI0, rI, rU, rEq, rNe, tRet, tRetN, tAsg, gName, gSub, tBM, tBM0, tNext, tB, tNot, tAnd, tOr, tIf, tCall, tDrop, tBreak, tCont, L2.start, tDGet, sDPut, tTup, tLst, tDNewK, tRevL, rCat, rAppend, rPop, rSetL, tAndV, tOrV, tNotV, tSl, tPart, tNoPart, tM1, gTup, gCons, gNil, cxK, cxnK, List.map_cons, List.map_nil, List.length_cons, List.length_nil, List.replicate, List.cons_append, List.nil_append, List.append_nil, List.set_cons_zero, List.set_cons_succ, List.getElem?_cons_zero, List.getElem?_cons_succ, Option.some.injEq, V.ref.injEq, V.int.injEq, V.str.injEq, V.bl.injEq, V.ty.injEq, exists_eq_left', exists_eq_left, exists_and_left, List.cons.injEq, and_true, true_and, sc_ii, sc_ss, sc_bb, sc_ni, sc_in, sc_is, sc_si, sc_nn, decide_true, decide_false, reduceCtorEq, Bool.false_eq_true, if_true, if_false, ite_true, ite_false, exists_const, eq_self, false_and, and_false, or_false, false_or, exists_false, Evl.rLenS, rSum, wipe, tYes, exists_eq, exists_eq', rIxL, rIxT, rIxS, exists_and_right, gt_iff_lt, not_true_eq_false, not_false_eq_true, Bool.not_true, Bool.not_false, decide_eq_true_eq, Nat.reduceSub, Nat.reduceAdd, List.append_assoc, tChain, tDIn, tDNotIn, sDDel, tAug, ipI, rInt1_int, rInt1_bl]
          exact q nl _ H4 nnl0 hnl (by simp) (nameK_ok cl clow sz6 apz fun k hk => (hdk k hk).2) (k1.trans k14)
end
end My

set_option Elab.async false
set_option linter.all false
set_option maxRecDepth 100000
set_option maxHeartbeats 4000000
namespace My
open PySem L2 NdefX StX
abbrev s_law_helds : Stmt := top 22
theorem sc_law_helds : FnScope ["_law_locks", "_law_helds_here", "_law_k", "_law_j"] ["_law_locks"] (defScope s_law_helds) := ⟨rfl, rfl, rfl, by decide +kernel, rfl, by decide +kernel, by decide +kernel⟩
abbrev s_law_entries : Stmt := top 23
theorem sc_law_entries : FnScope ["_law_locks", "_law_known", "_law_held", "_law_lock"] ["_law_locks"] (defScope s_law_entries) := ⟨rfl, rfl, rfl, by decide +kernel, rfl, by decide +kernel, by decide +kernel⟩
def onesR (k : Nat) : List Hd := (List.range k).map fun a => [a]
def rowR (k j : Nat) : List Hd := ((List.range j).filter fun b => decide (k < b)).map fun b => [k, b]
def twosR (n k : Nat) : List Hd := (List.range k).flatMap fun a => rowR a n
theorem hls_by0 : ∀ n, n < 4 → 1 ≤ n → ([[]] ++ onesR n) ++ twosR n n ++ (if n = 3 then [[0, 1, 2]] else []) = hls n := by decide +kernel
theorem rowR_succ {k j : Nat} (h : k < j) : rowR k (j + 1) = rowR k j ++ [[k, j]] := by
  unfold rowR
  rw [List.range_succ, List.filter_append, List.map_append]
  simp [h]
theorem rowR_zero {k : Nat} : rowR k (k + 1) = [] := by
  unfold rowR
  rw [List.map_eq_nil_iff, List.filter_eq_nil_iff]
  intro b hb
  have := List.mem_range.mp hb
  simp
  omega
theorem twos_succ {n k : Nat} : twosR n (k + 1) = twosR n k ++ rowR k n := by
  unfold twosR
  rw [List.range_succ, List.flatMap_append]
  simp
theorem rowR_le (k j : Nat) : (rowR k j).length ≤ j := by
  unfold rowR
  rw [List.length_map]
  have := List.length_filter_le (fun b => decide (k < b)) (List.range j)
  rwa [List.length_range] at this
theorem twos_le (n k : Nat) : (twosR n k).length ≤ k * n := by
  induction k with
  | zero => simp [twosR]
  | succ k ih =>
    rw [twos_succ, List.length_append, Nat.succ_mul]
    have := rowR_le k n
    omega
section
variable {P : Program} {w : World} {K : PySem.W.Frag} {mg : Str → Option Value} {base : Heap} {tL t3 : Tok} {RC : Addr}
theorem ixA {zs : List Str} {H : Hp} {a : Addr} {r : Nat} {Q : VK} (ha : LkAt K H a zs) (hr : r < zs.length) (q : Q (.str (nmL zs r)) H) : rIx K (.ref a) (.int (r : Nat)) H Q := by
  have e : (zs.map V.str)[r]? = some (.str (nmL zs r)) := by rw [List.getElem?_map, nm_at hr]; rfl
  rcases ha with h | h
  · exact .inl ⟨a, _, _, _, rfl, rfl, h, atI_nat e, q⟩
  · exact .inr (.inl ⟨a, _, _, _, rfl, rfl, h, atI_nat e, q⟩)
def spLHelds (K : PySem.W.Frag) : Sp := fun vs H Q _ => ∃ (a : Addr) (zs : List Str), vs = [.ref a] ∧ LkOk zs ∧ LkAt K H a zs ∧ ∀ l us H', H l = none → H' l = some (.lst us) → Rw (HT zs H') us (hls zs.length) → Kp [] H H' → Q (.ref l) H'
theorem ok_law_helds {f : Addr} {fd : FuncData} (D : Df K mg "_law_helds" s_law_helds ["_law_locks"] f fd) (T : BtG mg) : FnOk P w K mg base CX0 1 f fd ["_law_locks"] (spLHelds K) := by
  refine D.F.ok sc_law_helds (fun vs H Q E h => ?_) (fun cdv A outer s H vs Q E hr h => ?_)
  · obtain ⟨_, _, rfl, _⟩ := h
    rfl
  · obtain ⟨a, zs, rfl, L, ha, q⟩ := h
    refine ⟨_, (pss_cons (ps_set (i := 1) sc_law_helds.nd rfl (Or.inl rfl) (pe_lst (pa_cons (pe_tup pa_nil) pa_nil)))
      (pss_cons (ps_for PassesOwn.never rfl (pi_range1 rfl T.b_range (pa_cons (pe_callB (id := "len") (r := Evl.rLenS K) call_len_seq (by rfl) T.b_len PySem.boot_len (pa_cons (pv 0) pa_nil)) pa_nil)) (pg_name (i := 2) sc_law_helds.nd rfl (Or.inl rfl)) (pss_one (ps_expr (pe_bm PySem.F.plainAttrs_list PySem.F.slot_list_append PySem.F.type_list_append mt_append (pv 1) (pa_cons (pe_tup (pa_cons (pe_ix (r := rIx K) ix_seq (pv 0) (pv 2) (fun _ _ => rfl)) pa_nil)) pa_nil)))))
      (pss_cons (ps_for PassesOwn.never rfl (pi_range1 rfl T.b_range (pa_cons (pe_callB (id := "len") (r := Evl.rLenS K) call_len_seq (by rfl) T.b_len PySem.boot_len (pa_cons (pv 0) pa_nil)) pa_nil)) (pg_name (i := 2) sc_law_helds.nd rfl (Or.inl rfl)) (pss_one (ps_for PassesOwn.never rfl (pi_range2 rfl T.b_range (pa_cons (pe_op op_add (pv 2) pe_int) (pa_cons (pe_callB (id := "len") (r := Evl.rLenS K) call_len_seq (by rfl) T.b_len PySem.boot_len (pa_cons (pv 0) pa_nil)) pa_nil))) (pg_name (i := 3) sc_law_helds.nd rfl (Or.inl rfl)) (pss_one (ps_expr (pe_bm PySem.F.plainAttrs_list PySem.F.slot_list_append PySem.F.type_list_append mt_append (pv 1) (pa_cons (pe_tup (pa_cons (pe_ix (r := rIx K) ix_seq (pv 0) (pv 2) (fun _ _ => rfl)) (pa_cons (pe_ix (r := rIx K) ix_seq (pv 0) (pv 3) (fun _ _ => rfl)) pa_nil))) pa_nil)))))))
      (pss_cons (ps_if (pt_cmpR op_eq (pe_callB (id := "len") (r := Evl.rLenS K) call_len_seq (by rfl) T.b_len PySem.boot_len (pa_cons (pv 0) pa_nil)) pe_int (nomark _)) (pss_one (ps_expr (pe_bm PySem.F.plainAttrs_list PySem.F.slot_list_append PySem.F.type_list_append mt_append (pv 1) (pa_cons (pe_tup (pa_cons (pe_ix (r := rIx K) ix_seq (pv 0) pe_int (fun _ _ => rfl)) (pa_cons (pe_ix (r := rIx K) ix_seq (pv 0) pe_int (fun _ _ => rfl)) (pa_cons (pe_ix (r := rIx K) ix_seq (pv 0) pe_int (fun _ _ => rfl)) pa_nil)))) pa_nil)))) pss_nil)
      (pss_one (ps_ret (pv 1))))))), ?_⟩
    have n1 := L.pos
    have n3 := L.le
    try simp (maxSteps := 1000000) only [tSeq, tIfS, tTest, tOp, tUn, tCB, tCons, tNil, tVar, tC, rI0, rI, rU, rEq, rNe, tRet, tRetN, tAsg, gName, gSub, tBM, tBM0, tNext, tB, tNot, tAnd, tOr, tIf, tCall, tDrop, tBreak, tCont, L2.start, tDGet, sDPut, tTup, tLst, tDNewK, tRevL, rCat, rAppend, rPop, rSetL, tAndV, tOrV, tNotV, tSl, tPart, tNoPart, tM1, gTup, gCons, gNil, cxK, cxnK, List.map_cons, List.map_nil, List.length_cons, List.length_nil, List.replicate, List.cons_append, List.nil_append, List.append_nil, List.set_cons_zero, List.set_cons_succ, List.getElem?_cons_zero, List.getElem?_cons_succ, Option.some.injEq, V.ref.injEq, V.int.injEq, V.str.injEq, V.bl.injEq, V.ty.injEq, exists_eq_left', exists_eq_left, exists_and_left, List.cons.injEq, and_true, true_and, sc_ii, sc_ss, sc_bb, sc_ni, sc_in, sc_is, sc_si, sc_nn, decide_true, decide_false, reduceCtorEq, Bool.false_eq_true, if_true, if_false, ite_true, ite_false, exists_const, eq_self, false_and, and_false, or_false, false_or, exists_false, Evl.rLenS, rSum, wipe, tYes, exists_eq, exists_eq', rIxL, rIxT, rIxS, exists_and_right, gt_iff_lt, not_true_eq_false, not_false_eq_true, Bool.not_true, Bool.not_false, decide_eq_true_eq, Nat.reduceSub, Nat.reduceAdd, List.append_assoc, tChain, tDIn, tDNotIn, sDDel, tAug, ipI, rInt1_int, rInt1_bl]
    refine ⟨Nat.zero_le _, fun e0 ne0 => ⟨by rw [sizeLine_eq]; decide, fun p np => ?_⟩⟩
    have k0 := (Kp.new ne0 : Kp [] H (upd H e0 (.tup [])))
    have k1 := k0.trans (Kp.new np (o := .lst [.ref e0]))
    have he : HT zs (upd (upd H e0 (.tup [])) p (.lst [.ref e0])) (.ref e0) [] := HT.of ((Kp.new np (S := []) (o := .lst [.ref e0])) _ _ not0 upd_same)
    have hp : (upd (upd H e0 (.tup [])) p (.lst [.ref e0])) p = some (.lst [.ref e0]) := upd_same
    have np0 : H p = none := k0.free0 np
    generalize upd (upd H e0 (.tup [])) p (.lst [.ref e0]) = H1 at k1 he hp ⊢
    have zV : ∀ r, r < zs.length → atI (zs.map V.str) ((r : Nat) : Int) = some (.str (nmL zs r)) := fun r hr => atI_nat (by rw [List.getElem?_map, nm_at hr]; rfl)
    have push : ∀ (H' : Hp) (us : List V) (F : List Hd) (v : V) (h : Hd), H' p = some (.lst us) → Rw (HT zs H') us F → HT zs H' v h → F.length ≤ 100 → us.length < sizeLine ∧ Rw (HT zs (upd H' p (.lst (us ++ [v])))) (us ++ [v]) (F ++ [h]) := fun H' us F v h hp hu hv hF => by
      have tp : Tp H' (upd H' p (.lst (us ++ [v]))) := (Tp.refl _).putL hp
      exact ⟨smallL (by rw [hu.len]; omega), (hu.mono fun _ _ z => HT.tp z tp).snoc (hv.tp tp)⟩
    refine forN zs.length (by omega) (fun j σ H' => ∃ (us : List V) (c2 : Option V), σ = [some (.ref a), some (.ref p), c2, none] ∧ H' p = some (.lst us) ∧ Rw (HT zs H') us ([[]] ++ onesR j) ∧ Kp [] H H') (fun R q' => ?_) ⟨_, _, rfl, hp, .cons he .nil, k1⟩ ?_ ?_
    · try simp (maxSteps := 1000000) only [tSeq, tIfS, tTest, tOp, tUn, tCB, tCons, tNil, tVar, tC, rI0, rI, rU, rEq, rNe, tRet, tRetN, tAsg, gName, gSub, tBM, tBM0, tNext, tB, tNot, tAnd, tOr, tIf, tCall, tDrop, tBreak, tCont, L2.start, tDGet, sDPut, tTup, tLst, tDNewK, tRevL, rCat, rAppend, rPop, rSetL, tAndV, tOrV, tNotV, tSl, tPart, tNoPart, tM1, gTup, gCons, gNil, cxK, cxnK, List.map_cons, List.map_nil, List.length_cons, List.length_nil, List.replicate, List.cons_append, List.nil_append, List.append_nil, List.set_cons_zero, List.set_cons_succ, List.getElem?_cons_zero, List.getElem?_cons_succ, Option.some.injEq, V.ref.injEq, V.int.injEq, V.str.injEq, V.bl.injEq, V.ty.injEq, exists_eq_left', exists_eq_left, exists_and_left, List.cons.injEq, and_true, true_and, sc_ii, sc_ss, sc_bb, sc_ni, sc_in, sc_is, sc_si, sc_nn, decide_true, decide_false, reduceCtorEq, Bool.false_eq_true, if_true, if_false, ite_true, ite_false, exists_const, eq_self, false_and, and_false, or_false, false_or, exists_false, Evl.rLenS, rSum, wipe, tYes, exists_eq, exists_eq', rIxL, rIxT, rIxS, exists_and_right, gt_iff_lt, not_true_eq_false, not_false_eq_true, Bool.not_true, Bool.not_false, decide_eq_true_eq, Nat.reduceSub, Nat.reduceAdd, List.append_assoc, tChain, tDIn, tDNotIn, sDDel, tAug, ipI, rInt1_int, rInt1_bl]
      refine ⟨_, LkAt.kp ha k1, ?_⟩
      rw [List.length_map]
      exact q'
    · rintro j σ H2 hj ⟨us, c2, rfl, hp2, hu2, k2⟩
      try simp (maxSteps := 1000000) only [tSeq, tIfS, tTest, tOp, tUn, tCB, tCons, tNil, tVar, tC, rI0, rI, rU, rEq, rNe, tRet, tRetN, tAsg, gName, gSub, tBM, tBM0, tNext, tB, tNot, tAnd, tOr, tIf, tCall, tDrop, tBreak, tCont, L2.start, tDGet, sDPut, tTup, tLst, tDNewK, tRevL, rCat, rAppend, rPop, rSetL, tAndV, tOrV, tNotV, tSl, tPart, tNoPart, tM1, gTup, gCons, gNil, cxK, cxnK, List.map_cons, List.map_nil, List.length_cons, List.length_nil, List.replicate, List.cons_append, List.nil_append, List.append_nil, List.set_cons_zero, List.set_cons_succ, List.getElem?_cons_zero, List.getElem?_cons_succ, Option.some.injEq, V.ref.injEq, V.int.injEq, V.str.injEq, V.bl.injEq, V.ty.injEq, exists_eq_left', exists_eq_left, exists_and_left, List.cons.injEq, and_true, true_and, sc_ii, sc_ss, sc_bb, sc_ni, sc_in, sc_is, sc_si, sc_nn, decide_true, decide_false, reduceCtorEq, Bool.false_eq_true, if_true, if_false, ite_true, ite_false, exists_const, eq_self, false_and, and_false, or_false, false_or, exists_false, Evl.rLenS, rSum, wipe, tYes, exists_eq, exists_eq', rIxL, rIxT, rIxS, exists_and_right, gt_iff_lt, not_true_eq_false, not_false_eq_true, Bool.not_true, Bool.not_false, decide_eq_true_eq, Nat.reduceSub, Nat.reduceAdd, List.append_assoc, tChain, tDIn, tDNotIn, sDDel, tAug, ipI, rInt1_int, rInt1_bl]
      refine ⟨.inl ⟨rfl, _, sq_l hp2⟩, ixA (LkAt.kp ha k2) hj ⟨by rw [sizeLine_eq]; decide, fun t nt => ?_⟩⟩
      have kt := (Kp.new nt : Kp [] H2 (upd H2 t (.tup [.str (nmL zs j)])))
      have ht : HT zs (upd H2 t (.tup [.str (nmL zs j)])) (.ref t) [j] := HT.of upd_same
      generalize upd H2 t (.tup [.str (nmL zs j)]) = H3 at kt ht ⊢
      have hp3 := kt _ _ not0 hp2
      obtain ⟨sl, hr3⟩ := push H3 us _ _ _ hp3 (hu2.mono fun _ _ z => HT.tp z kt.tps) ht (by simp [onesR]; omega)
      refine ⟨us, hp3, sl, us ++ [.ref t], upd_same, ?_, (k2.trans kt).wr np0⟩
      have : [] :: onesR (j + 1) = ([[]] ++ onesR j) ++ [[j]] := by
        unfold onesR
        rw [List.range_succ, List.map_append, List.append_assoc]
        rfl
      rw [this]
      exact hr3
    · rintro σ H2 ⟨us, c2, rfl, hp2, hu2, k2⟩
      try simp (maxSteps := 1000000) only [tSeq, tIfS, tTest, tOp, tUn, tCB, tCons, tNil, tVar, tC, rI0, rI, rU, rEq, rNe, tRet, tRetN, tAsg, gName, gSub, tBM, tBM0, tNext, tB, tNot, tAnd, tOr, tIf, tCall, tDrop, tBreak, tCont, L2.start, tDGet, sDPut, tTup, tLst, tDNewK, tRevL, rCat, rAppend, rPop, rSetL, tAndV, tOrV, tNotV, tSl, tPart, tNoPart, tM1, gTup, gCons, gNil, cxK, cxnK, List.map_cons, List.map_nil, List.length_cons, List.length_nil, List.replicate, List.cons_append, List.nil_append, List.append_nil, List.set_cons_zero, List.set_cons_succ, List.getElem?_cons_zero, List.getElem?_cons_succ, Option.some.injEq, V.ref.injEq, V.int.injEq, V.str.injEq, V.bl.injEq, V.ty.injEq, exists_eq_left', exists_eq_left, exists_and_left, List.cons.injEq, and_true, true_and, sc_ii, sc_ss, sc_bb, sc_ni, sc_in, sc_is, sc_si, sc_nn, decide_true, decide_false, reduceCtorEq, Bool.false_eq_true, if_true, if_false, ite_true, ite_false, exists_const, eq_self, false_and, and_false, or_false, false_or, exists_false, Evl.rLenS, rSum, wipe, tYes, exists_eq, exists_eq', rIxL, rIxT, rIxS, exists_and_right, gt_iff_lt, not_true_eq_false, not_false_eq_true, Bool.not_true, Bool.not_false, decide_eq_true_eq, Nat.reduceSub, Nat.reduceAdd, List.append_assoc, tChain, tDIn, tDNotIn, sDDel, tAug, ipI, rInt1_int, rInt1_bl]
      refine forN zs.length (by omega) (fun j σ H' => ∃ (us : List V) (c2 c3 : Option V), σ = [some (.ref a), some (.ref p), c2, c3] ∧ H' p = some (.lst us) ∧ Rw (HT zs H') us (([[]] ++ onesR zs.length) ++ twosR zs.length j) ∧ Kp [] H H') (fun R q' => ?_) ⟨us, _, _, rfl, hp2, by rw [show twosR zs.length 0 = [] from rfl, List.append_nil]; exact hu2, k2⟩ ?_ ?_
      · try simp (maxSteps := 1000000) only [tSeq, tIfS, tTest, tOp, tUn, tCB, tCons, tNil, tVar, tC, rI0, rI, rU, rEq, rNe, tRet, tRetN, tAsg, gName, gSub, tBM, tBM0, tNext, tB, tNot, tAnd, tOr, tIf, tCall, tDrop, tBreak, tCont, L2.start, tDGet, sDPut, tTup, tLst, tDNewK, tRevL, rCat, rAppend, rPop, rSetL, tAndV, tOrV, tNotV, tSl, tPart, tNoPart, tM1, gTup, gCons, gNil, cxK, cxnK, List.map_cons, List.map_nil, List.length_cons, List.length_nil, List.replicate, List.cons_append, List.nil_append, List.append_nil, List.set_cons_zero, List.set_cons_succ, List.getElem?_cons_zero, List.getElem?_cons_succ, Option.some.injEq, V.ref.injEq, V.int.injEq, V.str.injEq, V.bl.injEq, V.ty.injEq, exists_eq_left', exists_eq_left, exists_and_left, List.cons.injEq, and_true, true_and, sc_ii, sc_ss, sc_bb, sc_ni, sc_in, sc_is, sc_si, sc_nn, decide_true, decide_false, reduceCtorEq, Bool.false_eq_true, if_true, if_false, ite_true, ite_false, exists_const, eq_self, false_and, and_false, or_false, false_or, exists_false, Evl.rLenS, rSum, wipe, tYes, exists_eq, exists_eq', rIxL, rIxT, rIxS, exists_and_right, gt_iff_lt, not_true_eq_false, not_false_eq_true, Bool.not_true, Bool.not_false, decide_eq_true_eq, Nat.reduceSub, Nat.reduceAdd, List.append_assoc, tChain, tDIn, tDNotIn, sDDel, tAug, ipI, rInt1_int, rInt1_bl]
        refine ⟨_, LkAt.kp ha k2, ?_⟩
        rw [List.length_map]
        exact q'
      · rintro j σ H3 hj ⟨us3, c2, c3, rfl, hp3, hu3, k3⟩
        try simp (maxSteps := 1000000) only [tSeq, tIfS, tTest, tOp, tUn, tCB, tCons, tNil, tVar, tC, rI0, rI, rU, rEq, rNe, tRet, tRetN, tAsg, gName, gSub, tBM, tBM0, tNext, tB, tNot, tAnd, tOr, tIf, tCall, tDrop, tBreak, tCont, L2.start, tDGet, sDPut, tTup, tLst, tDNewK, tRevL, rCat, rAppend, rPop, rSetL, tAndV, tOrV, tNotV, tSl, tPart, tNoPart, tM1, gTup, gCons, gNil, cxK, cxnK, List.map_cons, List.map_nil, List.length_cons, List.length_nil, List.replicate, List.cons_append, List.nil_append, List.append_nil, List.set_cons_zero, List.set_cons_succ, List.getElem?_cons_zero, List.getElem?_cons_succ, Option.some.injEq, V.ref.injEq, V.int.injEq, V.str.injEq, V.bl.injEq, V.ty.injEq, exists_eq_left', exists_eq_left, exists_and_left, List.cons.injEq, and_true, true_and, sc_ii, sc_ss, sc_bb, sc_ni, sc_in, sc_is, sc_si, sc_nn, decide_true, decide_false, reduceCtorEq, Bool.false_eq_true, if_true, if_false, ite_true, ite_false, exists_const, eq_self, false_and, and_false, or_false, false_or, exists_false, Evl.rLenS, rSum, wipe, tYes, exists_eq, exists_eq', rIxL, rIxT, rIxS, exists_and_right, gt_iff_lt, not_true_eq_false, not_false_eq_true, Bool.not_true, Bool.not_false, decide_eq_true_eq, Nat.reduceSub, Nat.reduceAdd, List.append_assoc, tChain, tDIn, tDNotIn, sDDel, tAug, ipI, rInt1_int, rInt1_bl]
        refine forN2 (j + 1) zs.length (by omega) (by omega) (fun i σ H' => ∃ (us : List V) (c3 : Option V), σ = [some (.ref a), some (.ref p), some (.int (j : Nat)), c3] ∧ H' p = some (.lst us) ∧ Rw (HT zs H') us ((([[]] ++ onesR zs.length) ++ twosR zs.length j) ++ rowR j (j + 1 + i)) ∧ Kp [] H H') (fun R q' => ?_) (fun H4 k4 => ⟨us3, c3, rfl, k4 _ _ not0 hp3, by rw [rowR_zero, List.append_nil]; exact hu3.mono fun _ _ z => HT.tp z k4.tps, k3.trans k4⟩) ?_ ?_
        · try simp (maxSteps := 1000000) only [tSeq, tIfS, tTest, tOp, tUn, tCB, tCons, tNil, tVar, tC, rI0, rI, rU, rEq, rNe, tRet, tRetN, tAsg, gName, gSub, tBM, tBM0, tNext, tB, tNot, tAnd, tOr, tIf, tCall, tDrop, tBreak, tCont, L2.start, tDGet, sDPut, tTup, tLst, tDNewK, tRevL, rCat, rAppend, rPop, rSetL, tAndV, tOrV, tNotV, tSl, tPart, tNoPart, tM1, gTup, gCons, gNil, cxK, cxnK, List.map_cons, List.map_nil, List.length_cons, List.length_nil, List.replicate, List.cons_append, List.nil_append, List.append_nil, List.set_cons_zero, List.set_cons_succ, List.getElem?_cons_zero, List.getElem?_cons_succ, Option.some.injEq, V.ref.injEq, V.int.injEq, V.str.injEq, V.bl.injEq, V.ty.injEq, exists_eq_left', exists_eq_left, exists_and_left, List.cons.injEq, and_true, true_and, sc_ii, sc_ss, sc_bb, sc_ni, sc_in, sc_is, sc_si, sc_nn, decide_true, decide_false, reduceCtorEq, Bool.false_eq_true, if_true, if_false, ite_true, ite_false, exists_const, eq_self, false_and, and_false, or_false, false_or, exists_false, Evl.rLenS, rSum, wipe, tYes, exists_eq, exists_eq', rIxL, rIxT, rIxS, exists_and_right, gt_iff_lt, not_true_eq_false, not_false_eq_true, Bool.not_true, Bool.not_false, decide_eq_true_eq, Nat.reduceSub, Nat.reduceAdd, List.append_assoc, tChain, tDIn, tDNotIn, sDDel, tAug, ipI, rInt1_int, rInt1_bl]
          refine ⟨_, LkAt.kp ha k3, ?_⟩
          rw [List.length_map]
          exact q' _ (Kp.refl _ _)
        · rintro i σ H4 hi ⟨us4, c4, rfl, hp4, hu4, k4⟩
          try simp (maxSteps := 1000000) only [tSeq, tIfS, tTest, tOp, tUn, tCB, tCons, tNil, tVar, tC, rI0, rI, rU, rEq, rNe, tRet, tRetN, tAsg, gName, gSub, tBM, tBM0, tNext, tB, tNot, tAnd, tOr, tIf, tCall, tDrop, tBreak, tCont, L2.start, tDGet, sDPut, tTup, tLst, tDNewK, tRevL, rCat, rAppend, rPop, rSetL, tAndV, tOrV, tNotV, tSl, tPart, tNoPart, tM1, gTup, gCons, gNil, cxK, cxnK, List.map_cons, List.map_nil, List.length_cons, List.length_nil, List.replicate, List.cons_append, List.nil_append, List.append_nil, List.set_cons_zero, List.set_cons_succ, List.getElem?_cons_zero, List.getElem?_cons_succ, Option.some.injEq, V.ref.injEq, V.int.injEq, V.str.injEq, V.bl.injEq, V.ty.injEq, exists_eq_left', exists_eq_left, exists_and_left, List.cons.injEq, and_true, true_and, sc_ii, sc_ss, sc_bb, sc_ni, sc_in, sc_is, sc_si, sc_nn, decide_true, decide_false, reduceCtorEq, Bool.false_eq_true, if_true, if_false, ite_true, ite_false, exists_const, eq_self, false_and, and_false, or_false, false_or, exists_false, Evl.rLenS, rSum, wipe, tYes, exists_eq, exists_eq', rIxL, rIxT, rIxS, exists_and_right, gt_iff_lt, not_true_eq_false, not_false_eq_true, Bool.not_true, Bool.not_false, decide_eq_true_eq, Nat.reduceSub, Nat.reduceAdd, List.append_assoc, tChain, tDIn, tDNotIn, sDDel, tAug, ipI, rInt1_int, rInt1_bl]
          have lj : (rowR j (j + 1 + i)).length ≤ 4 := Nat.le_trans (rowR_le _ _) (by omega)
          have lt : (twosR zs.length j).length ≤ 9 := Nat.le_trans (twos_le _ _) (Nat.le_trans (Nat.mul_le_mul (Nat.le_of_lt hj) n3) (by omega))
          have l1 : (onesR zs.length).length ≤ 3 := by simp [onesR]; omega
          refine ⟨.inl ⟨rfl, _, sq_l hp4⟩, ixA (LkAt.kp ha k4) hj (ixA (LkAt.kp ha k4) hi ⟨by rw [sizeLine_eq]; decide, fun t nt => ?_⟩)⟩
          have kt := (Kp.new nt : Kp [] H4 (upd H4 t (.tup [.str (nmL zs j), .str (nmL zs (j + 1 + i))])))
          have ht : HT zs (upd H4 t (.tup [.str (nmL zs j), .str (nmL zs (j + 1 + i))])) (.ref t) [j, j + 1 + i] := HT.of upd_same
          generalize upd H4 t (.tup [.str (nmL zs j), .str (nmL zs (j + 1 + i))]) = H5 at kt ht ⊢
          have hp5 := kt _ _ not0 hp4
          obtain ⟨sl, hr5⟩ := push H5 us4 _ _ _ hp5 (hu4.mono fun _ _ z => HT.tp z kt.tps) ht (by simp only [List.length_append, List.length_cons, List.length_nil]; omega)
          refine ⟨us4, hp5, sl, us4 ++ [.ref t], upd_same, ?_, (k4.trans kt).wr np0⟩
          have : j + 1 + (i + 1) = (j + 1 + i) + 1 := by omega
          rw [this, rowR_succ (by omega)]
          simpa only [List.append_assoc, List.cons_append, List.nil_append] using hr5
        · rintro σ H4 ⟨us4, c4, rfl, hp4, hu4, k4⟩
          try simp (maxSteps := 1000000) only [tSeq, tIfS, tTest, tOp, tUn, tCB, tCons, tNil, tVar, tC, rI0, rI, rU, rEq, rNe, tRet, tRetN, tAsg, gName, gSub, tBM, tBM0, tNext, tB, tNot, tAnd, tOr, tIf, tCall, tDrop, tBreak, tCont, L2.start, tDGet, sDPut, tTup, tLst, tDNewK, tRevL, rCat, rAppend, rPop, rSetL, tAndV, tOrV, tNotV, tSl, tPart, tNoPart, tM1, gTup, gCons, gNil, cxK, cxnK, List.map_cons, List.map_nil, List.length_cons, List.length_nil, List.replicate, List.cons_append, List.nil_append, List.append_nil, List.set_cons_zero, List.set_cons_succ, List.getElem?_cons_zero, List.getElem?_cons_succ, Option.some.injEq, V.ref.injEq, V.int.injEq, V.str.injEq, V.bl.injEq, V.ty.injEq, exists_eq_left', exists_eq_left, exists_and_left, List.cons.injEq, and_true, true_and, sc_ii, sc_ss, sc_bb, sc_ni, sc_in, sc_is, sc_si, sc_nn, decide_true, decide_false, reduceCtorEq, Bool.false_eq_true, if_true, if_false, ite_true, ite_false, exists_const, eq_self, false_and, and_false, or_false, false_or, exists_false, Evl.rLenS, rSum, wipe, tYes, exists_eq, exists_eq', rIxL, rIxT, rIxS, exists_and_right, gt_iff_lt, not_true_eq_false, not_false_eq_true, Bool.not_true, Bool.not_false, decide_eq_true_eq, Nat.reduceSub, Nat.reduceAdd, List.append_assoc, tChain, tDIn, tDNotIn, sDDel, tAug, ipI, rInt1_int, rInt1_bl]
          refine ⟨us4, hp4, ?_, k4⟩
          have : j + 1 + (zs.length - (j + 1)) = zs.length := by omega
          rw [this] at hu4
          rw [twos_succ]
          rw [List.append_assoc] at hu4
          exact hu4
      · rintro σ H3 ⟨us3, c2, c3, rfl, hp3, hu3, k3⟩
        try simp (maxSteps := 1000000) only [tSeq, tIfS, tTest, tOp, tUn, tCB, tCons, tNil, tVar, tC, rI0, rI, rU, rEq, rNe, tRet, tRetN, tAsg, gName, gSub, tBM, tBM0, tNext, tB, tNot, tAnd, tOr, tIf, tCall, tDrop, tBreak, tCont, L2.start, tDGet, sDPut, tTup, tLst, tDNewK, tRevL, rCat, rAppend, rPop, rSetL, tAndV, tOrV, tNotV, tSl, tPart, tNoPart, tM1, gTup, gCons, gNil, cxK, cxnK, List.map_cons, List.map_nil, List.length_cons, List.length_nil, List.replicate, List.cons_append, List.nil_append, List.append_nil, List.set_cons_zero, List.set_cons_succ, List.getElem?_cons_zero, List.getElem?_cons_succ, Option.some.injEq, V.ref.injEq, V.int.injEq, V.str.injEq, V.bl.injEq, V.ty.injEq, exists_eq_left', exists_eq_left, exists_and_left, List.cons.injEq, and_true, true_and, sc_ii, sc_ss, sc_bb, sc_ni, sc_in, sc_is, sc_si, sc_nn, decide_true, decide_false, reduceCtorEq, Bool.false_eq_true, if_true, if_false, ite_true, ite_false, exists_const, eq_self, false_and, and_false, or_false, false_or, exists_false, Evl.rLenS, rSum, wipe, tYes, exists_eq, exists_eq', rIxL, rIxT, rIxS, exists_and_right, gt_iff_lt, not_true_eq_false, not_false_eq_true, Bool.not_true, Bool.not_false, decide_eq_true_eq, Nat.reduceSub, Nat.reduceAdd, List.append_assoc, tChain, tDIn, tDNotIn, sDDel, tAug, ipI, rInt1_int, rInt1_bl]
        refine ⟨_, LkAt.kp ha k3, ?_⟩
        rw [List.length_map]
        have hb := hls_by0 zs.length (by omega) n1
        have lt : (twosR zs.length zs.length).length ≤ 9 := Nat.le_trans (twos_le _ _) (Nat.le_trans (Nat.mul_le_mul n3 n3) (by omega))
        have l1 : (onesR zs.length).length ≤ 3 := by simp [onesR]; omega
        split
        · next e3 =>
          have e3' : zs.length = 3 := by omega
          refine ⟨.inl ⟨rfl, _, sq_l hp3⟩, ixA (r := 0) (LkAt.kp ha k3) (by omega) (ixA (r := 1) (LkAt.kp ha k3) (by omega) (ixA (r := 2) (LkAt.kp ha k3) (by omega) ⟨by rw [sizeLine_eq]; decide, fun t nt => ?_⟩))⟩
          have kt := (Kp.new nt : Kp [] H3 (upd H3 t (.tup [.str (nmL zs 0), .str (nmL zs 1), .str (nmL zs 2)])))
          have ht : HT zs (upd H3 t (.tup [.str (nmL zs 0), .str (nmL zs 1), .str (nmL zs 2)])) (.ref t) [0, 1, 2] := HT.of upd_same
          generalize upd H3 t (.tup [.str (nmL zs 0), .str (nmL zs 1), .str (nmL zs 2)]) = H5 at kt ht ⊢
          have hp5 := kt _ _ not0 hp3
          obtain ⟨sl, hr5⟩ := push H5 us3 _ _ _ hp5 (hu3.mono fun _ _ z => HT.tp z kt.tps) ht (by simp only [List.length_append, List.length_cons, List.length_nil]; omega)
          refine ⟨us3, hp5, sl, q _ _ _ np0 upd_same ?_ ((k3.trans kt).wr np0)⟩
          rw [if_pos e3'] at hb
          rw [← hb]
          exact hr5
        · next e3 =>
          rw [if_neg (by omega), List.append_nil] at hb
          exact q _ _ _ np0 hp3 (by rw [← hb]; exact hu3) k3
end
end My

set_option Elab.async false
set_option linter.all false
set_option maxRecDepth 100000
set_option maxHeartbeats 4000000
namespace My
open PySem L2 NdefX StX
theorem forL_src {K : PySem.W.Frag} {te : TE} {g : TG} {tb : L2.TS} {D : Ends} {σ : L2.St} {H : Hp} (h : te σ H fun v H1 => tFor (iList K (tC v)) g tb D σ H1) : tFor (iList K te) g tb D σ H := h
theorem forLC {K : PySem.W.Frag} {g : TG} {tb : L2.TS} {D : Ends} {σ : L2.St} {H : Hp} {a : Addr} {xs : List V} (Pv : Nat → L2.St → Hp → Prop) (hS : SqL K H a xs) (h0 : Pv 0 σ H) (hl : ∀ j σ H, j ≤ xs.length → Pv j σ H → SqL K H a xs)
    (hs : ∀ j x σ H, xs[j]? = some x → Pv j σ H → g x σ H fun σ2 H2 => tb { D with nx := Pv (j + 1), ct := Pv (j + 1), bk := D.nx } σ2 H2) (hd : ∀ σ H, Pv xs.length σ H → D.nx σ H) : tFor (iList K (tC (.ref a))) g tb D σ H :=
  ⟨a, rfl, ⟨xs, hS⟩, for_list Pv h0 hl hs hd⟩
theorem forSA {K : PySem.W.Frag} {g : TG} {tb : L2.TS} {D : Ends} {σ : L2.St} {H H0 : Hp} {a : Addr} {xs : List V} {i : Nat} (Pv : Nat → L2.St → Hp → Prop) (hσ : σ[i]? = some (some (.ref a))) (ha : SqAny K H0 a xs) (h0 : Pv 0 σ H) (hk : ∀ j σ' H', Pv j σ' H' → Kp [] H0 H')
    (hs : ∀ j x σ H, xs[j]? = some x → Pv j σ H → g x σ H fun σ2 H2 => tb { D with nx := Pv (j + 1), ct := Pv (j + 1), bk := D.nx } σ2 H2) (hd : ∀ σ H, Pv xs.length σ H → D.nx σ H) : tFor (iSeq K (tVar i)) g tb D σ H := by
  rcases ha with h | h
  · exact ⟨_, hσ, a, rfl, .inl ⟨⟨xs, (hk _ _ _ h0).ls not0 h⟩, for_list Pv h0 (fun j σ' H' _ p => (hk j σ' H' p).ls not0 h) hs hd⟩⟩
  · exact ⟨_, hσ, a, rfl, .inr ⟨⟨xs, (hk _ _ _ h0).tp not0 h⟩, for_tup Pv h0 (fun j σ' H' _ p => (hk j σ' H' p).tp not0 h) hs hd⟩⟩
theorem take_one {α : Type} {l : List α} {j : Nat} {x : α} (h : l[j]? = some x) : l.take (j + 1) = l.take j ++ [x] := by
  rw [List.take_add_one, h]
  rfl
def entsI (h : Hd) (i : Nat) : List En := ((List.range i).filter fun r => !decide (r ∈ h)).map fun r => (h, r)
theorem entsI_in {h : Hd} {i : Nat} (e : i ∈ h) : entsI h (i + 1) = entsI h i := by
  unfold entsI
  rw [List.range_succ, List.filter_append, List.map_append]
  simp [e]
theorem entsI_nin {h : Hd} {i : Nat} (e : i ∉ h) : entsI h (i + 1) = entsI h i ++ [(h, i)] := by
  unfold entsI
  rw [List.range_succ, List.filter_append, List.map_append]
  simp [e]
theorem entsI_le (h : Hd) (i : Nat) : (entsI h i).length ≤ i := by
  unfold entsI
  rw [List.length_map]
  have := List.length_filter_le (fun r => !decide (r ∈ h)) (List.range i)
  rwa [List.length_range] at this
def okT (n : Nat) : Bool := (List.range 9).all fun j => decide ((((hls n).take j).flatMap (entsOf n)).length ≤ 12) && decide ((hls n).length ≤ 8)
theorem okT0 : ∀ n, n < 4 → okT n = true := by decide +kernel
theorem okT_le {n j : Nat} (h : n < 4) (hj : j ≤ 8) : (((hls n).take j).flatMap (entsOf n)).length ≤ 12 ∧ (hls n).length ≤ 8 := by
  have e := okT0 n h
  unfold okT at e
  rw [List.all_eq_true] at e
  have := e j (List.mem_range.mpr (by omega))
  rw [Bool.and_eq_true, decide_eq_true_eq, decide_eq_true_eq] at this
  exact this
section
variable {P : Program} {w : World} {K : PySem.W.Frag} {mg : Str → Option Value} {base : Heap} {tL t3 : Tok} {RC : Addr}
def spLEnts (K : PySem.W.Frag) : Sp := fun vs H Q _ => ∃ (a : Addr) (zs : List Str), vs = [.ref a] ∧ LkOk zs ∧ LkAt K H a zs ∧ ∀ l us H', H l = none → H' l = some (.lst us) → Rw (ET zs H') us (ens zs.length) → Kp [] H H' → Q (.ref l) H'
theorem ok_law_entries {f : Addr} {fd : FuncData} (D : Df K mg "_law_entries" s_law_entries ["_law_locks"] f fd) (T : BtG mg) {f1 : Addr} {fd1 : FuncData} (D_law_helds : Df K mg "_law_helds" s_law_helds ["_law_locks"] f1 fd1) (G_law_helds : FnOk P w K mg base CX0 1 f1 fd1 ["_law_locks"] (spLHelds K)) : FnOk P w K mg base CX0 2 f fd ["_law_locks"] (spLEnts K) := by
  refine D.F.ok sc_law_entries (fun vs H Q E h => ?_) (fun cdv A outer s H vs Q E hr h => ?_)
  · obtain ⟨_, _, rfl, _⟩ := h
    rfl
  · obtain ⟨a, zs, rfl, L, ha, q⟩ := h
    refine ⟨_, (pss_cons (ps_set (i := 1) sc_law_entries.nd rfl (Or.inl rfl) (pe_lst pa_nil))
      (pss_cons (ps_for PassesOwn.never rfl (pi_list (pe_call G_law_helds (hr.mono (by decide)) rfl D_law_helds.g D_law_helds.F.kp D_law_helds.b .nil pass0 (pa_cons (pv 0) pa_nil))) (pg_name (i := 2) sc_law_entries.nd rfl (Or.inl rfl)) (pss_one (ps_for PassesOwn.never rfl (pi_seq (pv 0)) (pg_name (i := 3) sc_law_entries.nd rfl (Or.inl rfl)) (pss_one (ps_if (pt_cmpR op_notIn_seq (pv 3) (pv 2) (by rfl)) (pss_one (ps_expr (pe_bm PySem.F.plainAttrs_list PySem.F.slot_list_append PySem.F.type_list_append mt_append (pv 1) (pa_cons (pe_tup (pa_cons (pv 2) (pa_cons (pv 3) pa_nil))) pa_nil)))) pss_nil)))))
      (pss_one (ps_ret (pv 1))))), ?_⟩
    have n1 := L.pos
    have n3 := L.le
    have E := factE (n := zs.length) (by omega) n1
    try simp (maxSteps := 1000000) only [tSeq, tIfS, tTest, tOp, tUn, tCB, tCons, tNil, tVar, tC, rI0, rI, rU, rEq, rNe, tRet, tRetN, tAsg, gName, gSub, tBM, tBM0, tNext, tB, tNot, tAnd, tOr, tIf, tCall, tDrop, tBreak, tCont, L2.start, tDGet, sDPut, tTup, tLst, tDNewK, tRevL, rCat, rAppend, rPop, rSetL, tAndV, tOrV, tNotV, tSl, tPart, tNoPart, tM1, gTup, gCons, gNil, cxK, cxnK, List.map_cons, List.map_nil, List.length_cons, List.length_nil, List.replicate, List.cons_append, List.nil_append, List.append_nil, List.set_cons_zero, List.set_cons_succ, List.getElem?_cons_zero, List.getElem?_cons_succ, Option.some.injEq, V.ref.injEq, V.int.injEq, V.str.injEq, V.bl.injEq, V.ty.injEq, exists_eq_left', exists_eq_left, exists_and_left, List.cons.injEq, and_true, true_and, sc_ii, sc_ss, sc_bb, sc_ni, sc_in, sc_is, sc_si, sc_nn, decide_true, decide_false, reduceCtorEq, Bool.false_eq_true, if_true, if_false, ite_true, ite_false, exists_const, eq_self, false_and, and_false, or_false, false_or, exists_false, Evl.rLenS, rSum, wipe, tYes, exists_eq, exists_eq', rIxL, rIxT, rIxS, exists_and_right, gt_iff_lt, not_true_eq_false, not_false_eq_true, Bool.not_true, Bool.not_false, decide_eq_true_eq, Nat.reduceSub, Nat.reduceAdd, List.append_assoc, tChain, tDIn, tDNotIn, sDDel, tAug, ipI, rInt1_int, rInt1_bl]
    refine ⟨Nat.zero_le _, fun p np => ?_⟩
    have hp : (upd H p (.lst [])) p = some (.lst []) := upd_same
    have k0 := (Kp.new np : Kp [] H (upd H p (.lst [])))
    generalize upd H p (.lst []) = H1 at hp k0 ⊢
    refine forL_src ?_
    try simp (maxSteps := 1000000) only [tSeq, tIfS, tTest, tOp, tUn, tCB, tCons, tNil, tVar, tC, rI0, rI, rU, rEq, rNe, tRet, tRetN, tAsg, gName, gSub, tBM, tBM0, tNext, tB, tNot, tAnd, tOr, tIf, tCall, tDrop, tBreak, tCont, L2.start, tDGet, sDPut, tTup, tLst, tDNewK, tRevL, rCat, rAppend, rPop, rSetL, tAndV, tOrV, tNotV, tSl, tPart, tNoPart, tM1, gTup, gCons, gNil, cxK, cxnK, List.map_cons, List.map_nil, List.length_cons, List.length_nil, List.replicate, List.cons_append, List.nil_append, List.append_nil, List.set_cons_zero, List.set_cons_succ, List.getElem?_cons_zero, List.getElem?_cons_succ, Option.some.injEq, V.ref.injEq, V.int.injEq, V.str.injEq, V.bl.injEq, V.ty.injEq, exists_eq_left', exists_eq_left, exists_and_left, List.cons.injEq, and_true, true_and, sc_ii, sc_ss, sc_bb, sc_ni, sc_in, sc_is, sc_si, sc_nn, decide_true, decide_false, reduceCtorEq, Bool.false_eq_true, if_true, if_false, ite_true, ite_false, exists_const, eq_self, false_and, and_false, or_false, false_or, exists_false, Evl.rLenS, rSum, wipe, tYes, exists_eq, exists_eq', rIxL, rIxT, rIxS, exists_and_right, gt_iff_lt, not_true_eq_false, not_false_eq_true, Bool.not_true, Bool.not_false, decide_eq_true_eq, Nat.reduceSub, Nat.reduceAdd, List.append_assoc, tChain, tDIn, tDNotIn, sDDel, tAug, ipI, rInt1_int, rInt1_bl]
    refine ⟨a, zs, rfl, L, LkAt.kp ha k0, fun l us H2 nl hl hus k1 => ?_⟩
    have hp2 := k1 _ _ not0 hp
    have lp : l ≠ p := fun z => by rw [z, hp] at nl; cases nl
    refine forLC (fun j σ H' => ∃ (ws : List V) (c2 c3 : Option V), σ = [some (.ref a), some (.ref p), c2, c3] ∧ H' p = some (.lst ws) ∧ H' l = some (.lst us) ∧ Rw (ET zs H') ws (((hls zs.length).take j).flatMap (entsOf zs.length)) ∧ Tp H2 H' ∧ Kp [] H H') (sq_l hl) ⟨_, _, _, rfl, hp2, hl, .nil, Tp.refl _, k0.trans k1⟩ (fun j σ H' _ h => by obtain ⟨_, _, _, _, _, h, _⟩ := h; exact sq_l h) ?_ ?_
    · rintro j x σ H3 hj ⟨ws, c2, c3, rfl, hp3, hl3, hr3, t3, k3⟩
      obtain ⟨h, hh, hx⟩ := hus.get hj
      try simp (maxSteps := 1000000) only [tSeq, tIfS, tTest, tOp, tUn, tCB, tCons, tNil, tVar, tC, rI0, rI, rU, rEq, rNe, tRet, tRetN, tAsg, gName, gSub, tBM, tBM0, tNext, tB, tNot, tAnd, tOr, tIf, tCall, tDrop, tBreak, tCont, L2.start, tDGet, sDPut, tTup, tLst, tDNewK, tRevL, rCat, rAppend, rPop, rSetL, tAndV, tOrV, tNotV, tSl, tPart, tNoPart, tM1, gTup, gCons, gNil, cxK, cxnK, List.map_cons, List.map_nil, List.length_cons, List.length_nil, List.replicate, List.cons_append, List.nil_append, List.append_nil, List.set_cons_zero, List.set_cons_succ, List.getElem?_cons_zero, List.getElem?_cons_succ, Option.some.injEq, V.ref.injEq, V.int.injEq, V.str.injEq, V.bl.injEq, V.ty.injEq, exists_eq_left', exists_eq_left, exists_and_left, List.cons.injEq, and_true, true_and, sc_ii, sc_ss, sc_bb, sc_ni, sc_in, sc_is, sc_si, sc_nn, decide_true, decide_false, reduceCtorEq, Bool.false_eq_true, if_true, if_false, ite_true, ite_false, exists_const, eq_self, false_and, and_false, or_false, false_or, exists_false, Evl.rLenS, rSum, wipe, tYes, exists_eq, exists_eq', rIxL, rIxT, rIxS, exists_and_right, gt_iff_lt, not_true_eq_false, not_false_eq_true, Bool.not_true, Bool.not_false, decide_eq_true_eq, Nat.reduceSub, Nat.reduceAdd, List.append_assoc, tChain, tDIn, tDNotIn, sDDel, tAug, ipI, rInt1_int, rInt1_bl]
      have hm := List.mem_of_getElem? hh
      obtain ⟨hb, h3, _⟩ := E.hld h hm
      have jl : j < (hls zs.length).length := (List.getElem?_eq_some_iff.mp hh).1
      obtain ⟨l12, l8⟩ := okT_le (n := zs.length) (j := j) (by omega) (by have := (okT_le (n := zs.length) (j := 0) (by omega) (by omega)).2; omega)
      refine forSA (H0 := H) (a := a) (xs := zs.map V.str) (fun i σ H' => ∃ (ws : List V) (c3 : Option V), σ = [some (.ref a), some (.ref p), some x, c3] ∧ H' p = some (.lst ws) ∧ H' l = some (.lst us) ∧ Rw (ET zs H') ws (((hls zs.length).take j).flatMap (entsOf zs.length) ++ entsI h i) ∧ Tp H2 H' ∧ Kp [] H H') rfl ha ⟨ws, c3, rfl, hp3, hl3, by rw [show entsI h 0 = [] from rfl, List.append_nil]; exact hr3, t3, k3⟩ (fun j σ H' h => by obtain ⟨_, _, _, _, _, _, _, k⟩ := h; exact k) ?_ ?_
      · rintro i y σ H4 hi ⟨ws4, c4, rfl, hp4, hl4, hr4, t4, k4⟩
        have il : i < zs.length := by
          have := (List.getElem?_eq_some_iff.mp hi).1
          rwa [List.length_map] at this
        rw [List.getElem?_map, nm_at il] at hi
        cases hi
        obtain ⟨va, rfl, hva⟩ := hx.tp t4
        try simp (maxSteps := 1000000) only [tSeq, tIfS, tTest, tOp, tUn, tCB, tCons, tNil, tVar, tC, rI0, rI, rU, rEq, rNe, tRet, tRetN, tAsg, gName, gSub, tBM, tBM0, tNext, tB, tNot, tAnd, tOr, tIf, tCall, tDrop, tBreak, tCont, L2.start, tDGet, sDPut, tTup, tLst, tDNewK, tRevL, rCat, rAppend, rPop, rSetL, tAndV, tOrV, tNotV, tSl, tPart, tNoPart, tM1, gTup, gCons, gNil, cxK, cxnK, List.map_cons, List.map_nil, List.length_cons, List.length_nil, List.replicate, List.cons_append, List.nil_append, List.append_nil, List.set_cons_zero, List.set_cons_succ, List.getElem?_cons_zero, List.getElem?_cons_succ, Option.some.injEq, V.ref.injEq, V.int.injEq, V.str.injEq, V.bl.injEq, V.ty.injEq, exists_eq_left', exists_eq_left, exists_and_left, List.cons.injEq, and_true, true_and, sc_ii, sc_ss, sc_bb, sc_ni, sc_in, sc_is, sc_si, sc_nn, decide_true, decide_false, reduceCtorEq, Bool.false_eq_true, if_true, if_false, ite_true, ite_false, exists_const, eq_self, false_and, and_false, or_false, false_or, exists_false, Evl.rLenS, rSum, wipe, tYes, exists_eq, exists_eq', rIxL, rIxT, rIxS, exists_and_right, gt_iff_lt, not_true_eq_false, not_false_eq_true, Bool.not_true, Bool.not_false, decide_eq_true_eq, Nat.reduceSub, Nat.reduceAdd, List.append_assoc, tChain, tDIn, tDNotIn, sDDel, tAug, ipI, rInt1_int, rInt1_bl]
        refine nin_nm L il hb (sq_t hva) ⟨_, rfl, ?_⟩
        by_cases e : i ∈ h
        · rw [decide_eq_true e, if_neg (by decide)]
          exact ⟨ws4, hp4, hl4, by rw [entsI_in e]; exact hr4, t4, k4⟩
        · rw [decide_eq_false e, if_pos (by decide)]
          try simp (maxSteps := 1000000) only [tSeq, tIfS, tTest, tOp, tUn, tCB, tCons, tNil, tVar, tC, rI0, rI, rU, rEq, rNe, tRet, tRetN, tAsg, gName, gSub, tBM, tBM0, tNext, tB, tNot, tAnd, tOr, tIf, tCall, tDrop, tBreak, tCont, L2.start, tDGet, sDPut, tTup, tLst, tDNewK, tRevL, rCat, rAppend, rPop, rSetL, tAndV, tOrV, tNotV, tSl, tPart, tNoPart, tM1, gTup, gCons, gNil, cxK, cxnK, List.map_cons, List.map_nil, List.length_cons, List.length_nil, List.replicate, List.cons_append, List.nil_append, List.append_nil, List.set_cons_zero, List.set_cons_succ, List.getElem?_cons_zero, List.getElem?_cons_succ, Option.some.injEq, V.ref.injEq, V.int.injEq, V.str.injEq, V.bl.injEq, V.ty.injEq, exists_eq_left', exists_eq_left, exists_and_left, List.cons.injEq, and_true, true_and, sc_ii, sc_ss, sc_bb, sc_ni, sc_in, sc_is, sc_si, sc_nn, decide_true, decide_false, reduceCtorEq, Bool.false_eq_true, if_true, if_false, ite_true, ite_false, exists_const, eq_self, false_and, and_false, or_false, false_or, exists_false, Evl.rLenS, rSum, wipe, tYes, exists_eq, exists_eq', rIxL, rIxT, rIxS, exists_and_right, gt_iff_lt, not_true_eq_false, not_false_eq_true, Bool.not_true, Bool.not_false, decide_eq_true_eq, Nat.reduceSub, Nat.reduceAdd, List.append_assoc, tChain, tDIn, tDNotIn, sDDel, tAug, ipI, rInt1_int, rInt1_bl]
          refine ⟨.inl ⟨rfl, _, sq_l hp4⟩, by rw [sizeLine_eq]; decide, fun t nt => ?_⟩
          have kt := (Kp.new nt : Kp [] H4 (upd H4 t (.tup [.ref va, .str (nmL zs i)])))
          have ht : ET zs (upd H4 t (.tup [.ref va, .str (nmL zs i)])) (.ref t) (h, i) := ⟨t, _, rfl, upd_same, ⟨va, rfl, kt _ _ not0 hva⟩⟩
          generalize upd H4 t (.tup [.ref va, .str (nmL zs i)]) = H5 at kt ht ⊢
          have hp5 := kt _ _ not0 hp4
          have hl5 := kt _ _ not0 hl4
          have tp : Tp H5 (upd H5 p (.lst (ws4 ++ [.ref t]))) := (Tp.refl _).putL hp5
          have ei := entsI_le h i
          refine ⟨ws4, hp5, smallL (by rw [hr4.len, List.length_append]; omega), ws4 ++ [.ref t], upd_same, by rw [upd_ne lp]; exact hl5, ?_, (t4.trans kt.tps).trans tp, (k4.trans kt).wr np⟩
          rw [entsI_nin e, ← List.append_assoc]
          exact ((hr4.mono fun _ _ z => z.tp kt.tps).snoc ht).mono fun _ _ z => z.tp tp
      · rintro σ H4 ⟨ws4, c4, rfl, hp4, hl4, hr4, t4, k4⟩
        rw [List.length_map] at hr4
        try simp (maxSteps := 1000000) only [tSeq, tIfS, tTest, tOp, tUn, tCB, tCons, tNil, tVar, tC, rI0, rI, rU, rEq, rNe, tRet, tRetN, tAsg, gName, gSub, tBM, tBM0, tNext, tB, tNot, tAnd, tOr, tIf, tCall, tDrop, tBreak, tCont, L2.start, tDGet, sDPut, tTup, tLst, tDNewK, tRevL, rCat, rAppend, rPop, rSetL, tAndV, tOrV, tNotV, tSl, tPart, tNoPart, tM1, gTup, gCons, gNil, cxK, cxnK, List.map_cons, List.map_nil, List.length_cons, List.length_nil, List.replicate, List.cons_append, List.nil_append, List.append_nil, List.set_cons_zero, List.set_cons_succ, List.getElem?_cons_zero, List.getElem?_cons_succ, Option.some.injEq, V.ref.injEq, V.int.injEq, V.str.injEq, V.bl.injEq, V.ty.injEq, exists_eq_left', exists_eq_left, exists_and_left, List.cons.injEq, and_true, true_and, sc_ii, sc_ss, sc_bb, sc_ni, sc_in, sc_is, sc_si, sc_nn, decide_true, decide_false, reduceCtorEq, Bool.false_eq_true, if_true, if_false, ite_true, ite_false, exists_const, eq_self, false_and, and_false, or_false, false_or, exists_false, Evl.rLenS, rSum, wipe, tYes, exists_eq, exists_eq', rIxL, rIxT, rIxS, exists_and_right, gt_iff_lt, not_true_eq_false, not_false_eq_true, Bool.not_true, Bool.not_false, decide_eq_true_eq, Nat.reduceSub, Nat.reduceAdd, List.append_assoc, tChain, tDIn, tDNotIn, sDDel, tAug, ipI, rInt1_int, rInt1_bl]
        refine ⟨ws4, hp4, hl4, ?_, t4, k4⟩
        rw [take_one hh, List.flatMap_append]
        rw [List.flatMap_cons, List.flatMap_nil, List.append_nil]
        exact hr4
    · rintro σ H3 ⟨ws, c2, c3, rfl, hp3, hl3, hr3, t3, k3⟩
      try simp (maxSteps := 1000000) only [tSeq, tIfS, tTest, tOp, tUn, tCB, tCons, tNil, tVar, tC, rI0, rI, rU, rEq, rNe, tRet, tRetN, tAsg, gName, gSub, tBM, tBM0, tNext, tB, tNot, tAnd, tOr, tIf, tCall, tDrop, tBreak, tCont, L2.start, tDGet, sDPut, tTup, tLst, tDNewK, tRevL, rCat, rAppend, rPop, rSetL, tAndV, tOrV, tNotV, tSl, tPart, tNoPart, tM1, gTup, gCons, gNil, cxK, cxnK, List.map_cons, List.map_nil, List.length_cons, List.length_nil, List.replicate, List.cons_append, List.nil_append, List.append_nil, List.set_cons_zero, List.set_cons_succ, List.getElem?_cons_zero, List.getElem?_cons_succ, Option.some.injEq, V.ref.injEq, V.int.injEq, V.str.injEq, V.bl.injEq, V.ty.injEq, exists_eq_left', exists_eq_left, exists_and_left, List.cons.injEq, and_true, true_and, sc_ii, sc_ss, sc_bb, sc_ni, sc_in, sc_is, sc_si, sc_nn, decide_true, decide_false, reduceCtorEq, Bool.false_eq_true, if_true, if_false, ite_true, ite_false, exists_const, eq_self, false_and, and_false, or_false, false_or, exists_false, Evl.rLenS, rSum, wipe, tYes, exists_eq, exists_eq', rIxL, rIxT, rIxS, exists_and_right, gt_iff_lt, not_true_eq_false, not_false_eq_true, Bool.not_true, Bool.not_false, decide_eq_true_eq, Nat.reduceSub, Nat.reduceAdd, List.append_assoc, tChain, tDIn, tDNotIn, sDDel, tAug, ipI, rInt1_int, rInt1_bl]
      rw [hus.len, List.take_length] at hr3
      exact q p ws H3 np hp3 hr3 k3
end
end My

set_option Elab.async false
set_option linter.all false
set_option maxRecDepth 100000
set_option maxHeartbeats 4000000
namespace My
open PySem L2 NdefX StX
abbrev s_OtherLocks_init : Stmt := mtop 6 0
theorem sc_OtherLocks_init : NScope ["self", "__class__"] ["self"] ["__class__"] (defScope s_OtherLocks_init) := nscope_by (by decide +kernel)
theorem ok_OtherLocks_init {P : Program} {w : World} {K : PySem.W.Frag} {mg : Str → Option Value} {base : Heap} {CX : CXT} {f cc cda C : Addr} {fd : FuncData} (F : FunX K "__init__" "OtherLocks.__init__" s_OtherLocks_init f fd cc cda C) (T : ErrC K C) (G : CodeF K P cda) (hsup : mg "super" = none) :
    FnOk P w K mg base CX 1 f fd ["self"] (spErr0 C) := by
  have F0 := F
  obtain ⟨oc, od, kV, doc, pm, an, ct, osl, hfd, lk, hcd⟩ := F0.ex
  obtain ⟨cl, cld, csl, hcc⟩ := F0.cell
  refine F.ok sc_OtherLocks_init (fun vs H Q E h => ?_) (fun A outer s H vs Q E hr h => ?_)
  · obtain ⟨a, rfl, _⟩ := h
    rfl
  · obtain ⟨a, rfl, ha, q⟩ := h
    refine ⟨_, psat_cons (psat_sup T G lk (by rw [hfd]; rfl) hcc hsup rfl rfl rfl rfl rfl rfl rfl (pa_cons pe_str pa_nil) rfl rfl rfl rfl rfl) pss_nil, ?_⟩
    try simp (maxSteps := 1000000) only [tSeq, tIfS, tTest, tOp, tUn, tCB, tCons, tNil, tVar, tC, rI0, rI, rU, rEq, rNe, tRet, tRetN, tAsg, gName, gSub, tBM, tBM0, tNext, tB, tNot, tAnd, tOr, tIf, tCall, tDrop, tBreak, tCont, L2.start, tDGet, sDPut, tTup, tLst, tDNewK, tRevL, rCat, rAppend, rPop, rSetL, tAndV, tOrV, tNotV, tSl, tPart, tNoPart, tM1, gTup, gCons, gNil, cxK, cxnK, List.map_cons, List.map_nil, List.length_cons, List.length_nil, List.replicate, List.cons_append, List.nil_append, List.append_nil, List.set_cons_zero, List.set_cons_succ, List.getElem?_cons_zero, List.getElem?_cons_succ, Option.some.injEq, V.ref.injEq, V.int.injEq, V.str.injEq, V.bl.injEq, V.ty.injEq, exists_eq_left', exists_eq_left, exists_and_left, List.cons.injEq, and_true, true_and, sc_ii, sc_ss, sc_bb, sc_ni, sc_in, sc_is, sc_si, sc_nn, decide_true, decide_false, reduceCtorEq, Bool.false_eq_true, if_true, if_false, ite_true, ite_false, exists_const, eq_self, false_and, and_false, or_false, false_or, exists_false, Evl.rLenS, rSum, wipe, tYes, exists_eq, exists_eq', rIxL, rIxT, rIxS, exists_and_right, gt_iff_lt, not_true_eq_false, not_false_eq_true, Bool.not_true, Bool.not_false, decide_eq_true_eq, Nat.reduceSub, Nat.reduceAdd, List.append_assoc, tChain, tDIn, tDNotIn, sDDel, tAug, ipI, rInt1_int, rInt1_bl, startF, tSupI]
    exact ⟨ha, by decide, ha, q⟩
abbrev s_check_same_locks : Stmt := top 16
theorem sc_check_same_locks : FnScope ["a", "b"] ["a", "b"] (defScope s_check_same_locks) := ⟨rfl, rfl, rfl, by decide +kernel, rfl, by decide +kernel, by decide +kernel⟩
abbrev s_Rule_contains : Stmt := mtop 12 2
theorem sc_Rule_contains : FnScope ["self", "x"] ["self", "x"] (defScope s_Rule_contains) := ⟨rfl, rfl, rfl, by decide +kernel, rfl, by decide +kernel, by decide +kernel⟩
/-- where the two rules have the same locks: nothing; else OtherLocks is raised -/
def spSame (RC OL : Addr) : Sp := fun vs H Q E => ∃ (o1 o2 : Addr) (z1 z2 : List Str) (e1 e2 : List En), vs = [.ref o1, .ref o2] ∧ RuAt RC H o1 z1 e1 ∧ RuAt RC H o2 z2 e2 ∧ (z1 = z2 → ∀ H', Kp [] H H' → Q .non H') ∧ (z1 ≠ z2 → ∀ H', Kp [] H H' → E (.ref OL) none H')
section
variable {P : Program} {w : World} {K : PySem.W.Frag} {mg : Str → Option Value} {base : Heap} {tL t3 : Tok} {RC OL : Addr}
theorem ok_check_same_locks {f : Addr} {fd : FuncData} (D : Df K mg "check_same_locks" s_check_same_locks ["a", "b"] f fd) (RR : RuC K mg RC) {fO : Addr} {fdO : FuncData} (E_OtherLocks : Er0 P w K mg base "OtherLocks" OL fO fdO ["self"])
    {fL : Addr} {fdL : FuncData} (ME_Rule_locks : Meth K RC "locks" fL) (bM_Rule_locks : Binds K fdL ["self"] []) (G_Rule_locks : FnOk P w K mg base CX0 1 fL fdL ["self"] (spRuL RC)) : FnOk P w K mg base (L2.CX P w) 3 f fd ["a", "b"] (spSame RC OL) := by
  refine D.F.okX sc_check_same_locks (fun vs H Q E h => ?_) (fun cdv A outer s H vs Q E hr h => ?_)
  · obtain ⟨_, _, _, _, _, _, rfl, _⟩ := h
    rfl
  · obtain ⟨o1, o2, z1, z2, e1, e2, rfl, h1, h2, qG, qB⟩ := h
    refine ⟨_, (pss_one (ps_if (pt_cmpR (op_neD hr.units) (pe_meth0 (pv 0) RR.cl ME_Rule_locks G_Rule_locks (hr.mono (by decide)) bM_Rule_locks .nil pass0) (pe_meth0 (pv 1) RR.cl ME_Rule_locks G_Rule_locks (hr.mono (by decide)) bM_Rule_locks .nil pass0) (nomark _)) (pss_one (ps_raise rfl (takes_of rfl rfl rfl rfl) (pmk_oex0 E_OtherLocks.ox E_OtherLocks.ic E_OtherLocks.ti E_OtherLocks.G (hr.mono (by decide)) E_OtherLocks.b passL rfl E_OtherLocks.k))) pss_nil)), ?_⟩
    try simp (maxSteps := 1000000) only [tSeq, tIfS, tTest, tOp, tUn, tCB, tCons, tNil, tVar, tC, rI0, rI, rU, rEq, rNe, tRet, tRetN, tAsg, gName, gSub, tBM, tBM0, tNext, tB, tNot, tAnd, tOr, tIf, tCall, tDrop, tBreak, tCont, L2.start, tDGet, sDPut, tTup, tLst, tDNewK, tRevL, rCat, rAppend, rPop, rSetL, tAndV, tOrV, tNotV, tSl, tPart, tNoPart, tM1, gTup, gCons, gNil, cxK, cxnK, List.map_cons, List.map_nil, List.length_cons, List.length_nil, List.replicate, List.cons_append, List.nil_append, List.append_nil, List.set_cons_zero, List.set_cons_succ, List.getElem?_cons_zero, List.getElem?_cons_succ, Option.some.injEq, V.ref.injEq, V.int.injEq, V.str.injEq, V.bl.injEq, V.ty.injEq, exists_eq_left', exists_eq_left, exists_and_left, List.cons.injEq, and_true, true_and, sc_ii, sc_ss, sc_bb, sc_ni, sc_in, sc_is, sc_si, sc_nn, decide_true, decide_false, reduceCtorEq, Bool.false_eq_true, if_true, if_false, ite_true, ite_false, exists_const, eq_self, false_and, and_false, or_false, false_or, exists_false, Evl.rLenS, rSum, wipe, tYes, exists_eq, exists_eq', rIxL, rIxT, rIxS, exists_and_right, gt_iff_lt, not_true_eq_false, not_false_eq_true, Bool.not_true, Bool.not_false, decide_eq_true_eq, Nat.reduceSub, Nat.reduceAdd, List.append_assoc, tChain, tDIn, tDNotIn, sDDel, tAug, ipI, rInt1_int, rInt1_bl, tMeth]
    obtain ⟨dx1, l1, m1, us1, ho1, hl1, hm1, hus1, L1, hs1⟩ := id h1
    obtain ⟨dx2, l2, m2, us2, ho2, hl2, hm2, hus2, L2, hs2⟩ := id h2
    refine ⟨dx1, _, ho1, rfl, o1, z1, e1, rfl, h1, fun p1 H1 np1 hp1 k1 => ?_⟩
    refine ⟨dx2, _, k1 _ _ not0 ho2, rfl, o2, z2, e2, rfl, h2.kp k1, fun p2 H2 np2 hp2 k2 => ?_⟩
    have shL : ∀ z : List Str, LkOk z → SeqAt.shaped (.list (z.map PyData.str)) = true := fun z L => (fk_lst (k := 1) fun d hd => by
      obtain ⟨x, hx, rfl⟩ := List.mem_map.mp hd
      exact fk_name (L.nm x hx)).sh (by decide)
    refine ⟨_, _, .lst (sq_l (k2 _ _ not0 hp1)) (dpStrs _), .lst (sq_l hp2) (dpStrs _), shL z1 L1, shL z2 L2, ?_⟩
    rw [show PyData.eqv (.list (z1.map PyData.str)) (.list (z2.map PyData.str)) = decide (z1 = z2) from eqvAll_strs z1 z2]
    refine ⟨_, rfl, ?_⟩
    by_cases e : z1 = z2
    · rw [decide_eq_true e, if_neg (by decide)]
      exact qG e _ (k1.trans k2)
    · rw [decide_eq_false e, if_pos (by decide)]
      exact qB e _ (k1.trans k2)
def spCont (RC : Addr) : Sp := fun vs H Q _ => ∃ (o : Addr) (v : V) (zs : List Str) (es : List En) (e : En), vs = [.ref o, v] ∧ RuAt RC H o zs es ∧ ET zs H v e ∧ belowE zs.length e ∧ Q (.bl (decide (e ∈ es))) H
theorem ok_Rule_contains {f : Addr} {fd : FuncData} (F : Fun K "__contains__" "Rule.__contains__" s_Rule_contains f fd) (RR : RuC K mg RC) : FnOk P w K mg base CX0 1 f fd ["self", "x"] (spCont RC) := by
  refine F.ok sc_Rule_contains (fun vs H Q E h => ?_) (fun cdv A outer s H vs Q E hr h => ?_)
  · obtain ⟨_, _, _, _, _, rfl, _⟩ := h
    rfl
  · obtain ⟨o, v, zs, es, e, rfl, hR, hv, hb, q⟩ := h
    have hu := hu_of hr
    obtain ⟨dx, l, m, us, ho, hl, hm, hus, L, hs⟩ := id hR
    have E := factE (n := zs.length) (by have := L.le; omega) L.pos
    have hbe : ∀ e ∈ es, belowE zs.length e := fun e he => (E.ent e (hs.subset he)).1
    refine ⟨_, (pss_one (ps_ret (pe_cmpR (op_inD (hu5 hr)) (pv 1) (pe_fld (pv 0) rfl) (by rfl)))), ?_⟩
    try simp (maxSteps := 1000000) only [tSeq, tIfS, tTest, tOp, tUn, tCB, tCons, tNil, tVar, tC, rI0, rI, rU, rEq, rNe, tRet, tRetN, tAsg, gName, gSub, tBM, tBM0, tNext, tB, tNot, tAnd, tOr, tIf, tCall, tDrop, tBreak, tCont, L2.start, tDGet, sDPut, tTup, tLst, tDNewK, tRevL, rCat, rAppend, rPop, rSetL, tAndV, tOrV, tNotV, tSl, tPart, tNoPart, tM1, gTup, gCons, gNil, cxK, cxnK, List.map_cons, List.map_nil, List.length_cons, List.length_nil, List.replicate, List.cons_append, List.nil_append, List.append_nil, List.set_cons_zero, List.set_cons_succ, List.getElem?_cons_zero, List.getElem?_cons_succ, Option.some.injEq, V.ref.injEq, V.int.injEq, V.str.injEq, V.bl.injEq, V.ty.injEq, exists_eq_left', exists_eq_left, exists_and_left, List.cons.injEq, and_true, true_and, sc_ii, sc_ss, sc_bb, sc_ni, sc_in, sc_is, sc_si, sc_nn, decide_true, decide_false, reduceCtorEq, Bool.false_eq_true, if_true, if_false, ite_true, ite_false, exists_const, eq_self, false_and, and_false, or_false, false_or, exists_false, Evl.rLenS, rSum, wipe, tYes, exists_eq, exists_eq', rIxL, rIxT, rIxS, exists_and_right, gt_iff_lt, not_true_eq_false, not_false_eq_true, Bool.not_true, Bool.not_false, decide_eq_true_eq, Nat.reduceSub, Nat.reduceAdd, List.append_assoc, tChain, tDIn, tDNotIn, sDDel, tAug, ipI, rInt1_int, rInt1_bl, tFld]
    refine ⟨RC, dx, _, ho, RR.cl, RR.n2, .ref m, rfl, ?_⟩
    exact in_ens L hb hbe hv (sq_l hm) hus q
end
end My

set_option Elab.async false
set_option linter.all false
set_option maxRecDepth 100000
set_option maxHeartbeats 4000000
namespace My
open PySem L2 NdefX StX
abbrev s_Rule_and : Stmt := mtop 12 6
theorem sc_Rule_and : FnScope ["self", "other", "entry"] ["self", "other"] (defScope s_Rule_and) := ⟨rfl, rfl, rfl, by decide +kernel, rfl, by decide +kernel, by decide +kernel⟩
abbrev s_Rule_or : Stmt := mtop 12 7
theorem sc_Rule_or : FnScope ["self", "other"] ["self", "other"] (defScope s_Rule_or) := ⟨rfl, rfl, rfl, by decide +kernel, rfl, by decide +kernel, by decide +kernel⟩
abbrev s_Rule_sub : Stmt := mtop 12 8
theorem sc_Rule_sub : FnScope ["self", "other", "entry"] ["self", "other"] (defScope s_Rule_sub) := ⟨rfl, rfl, rfl, by decide +kernel, rfl, by decide +kernel, by decide +kernel⟩
section
variable {P : Program} {w : World} {K : PySem.W.Frag} {mg : Str → Option Value} {base : Heap} {tL t3 : Tok} {RC OL : Addr}
theorem mkR {H : Hp} {la ea : Addr} {zs : List Str} {us : List V} {gs : List En} {Q : VK} {E : XK} (L : LkOk zs) (hla : H la = some (.tup (zs.map V.str))) (hea : SqAny K H ea us) (hgs : Rw (ET zs H) us gs) (hin : ∀ g ∈ gs, g ∈ ens zs.length) (g100 : gs.length ≤ 100)
    (q : ∀ o H', H o = none → RuAt RC H' o zs ((ens zs.length).filter fun e => decide (e ∈ gs)) → Kp [] H H' → Q (.ref o) H') (o dx : Addr) (no : H o = none) (ndx : H dx = none) (dxo : dx ≠ o) :
    spRuI RC K [.ref o, .ref la, .ref ea] (upd (upd H dx (.own o)) o (.ins RC dx [])) (fun v H2 => v = .non ∧ Q (.ref o) H2) E := by
  have k : Kp [] H (upd (upd H dx (.own o)) o (.ins RC dx [])) := (Kp.new ndx).wr no
  refine ⟨o, dx, la, ea, zs, us, gs, rfl, upd_same, L, k _ _ not0 hla, hea.imp (k.ls not0) (k.tp not0), hgs.mono fun _ _ z => z.tp k.tps, hin, g100, fun H' hR kI => ⟨rfl, ?_⟩⟩
  exact q o H' no hR fun b ob _ e => (k.of0.trans kI) b ob (not1 fun z => by rw [z, no] at e; cases e) e
def spAnd (RC OL : Addr) : Sp := fun vs H Q E => ∃ (o1 o2 : Addr) (zs z2 : List Str) (e1 e2 : List En), vs = [.ref o1, .ref o2] ∧ RuAt RC H o1 zs e1 ∧ RuAt RC H o2 z2 e2 ∧ (zs ≠ z2 → ∀ H', Kp [] H H' → E (.ref OL) none H') ∧ (zs = z2 → ∀ o H', H o = none → RuAt RC H' o zs (e1.filter fun e => decide (e ∈ e2)) → Kp [] H H' → Q (.ref o) H')
theorem ok_Rule_and {f : Addr} {fd : FuncData} (F : Fun K "__and__" "Rule.__and__" s_Rule_and f fd) (T : BtG mg) (RR : RuC K mg RC) {f1 : Addr} {fd1 : FuncData} (D_check_same_locks : Df K mg "check_same_locks" s_check_same_locks ["a", "b"] f1 fd1) (G_check_same_locks : FnOk P w K mg base (L2.CX P w) 3 f1 fd1 ["a", "b"] (spSame RC OL))
    {fI : Addr} {fdI : FuncData} (M_Rule : Mk K RC fI) (bI_Rule : Binds K fdI ["self", "locks", "entries"] []) (G_Rule_init : FnOk P w K mg base CX0 4 fI fdI ["self", "locks", "entries"] (spRuI RC K)) : FnOk P w K mg base (L2.CX P w) 6 f fd ["self", "other"] (spAnd RC OL) := by
  refine F.okX sc_Rule_and (fun vs H Q E h => ?_) (fun cdv A outer s H vs Q E hr h => ?_)
  · obtain ⟨_, _, _, _, _, _, rfl, _⟩ := h
    rfl
  · obtain ⟨o1, o2, zs, z2, e1, e2, rfl, h1, h2, qB, q⟩ := h
    refine ⟨_, (pss_cons (ps_expr (pe_call G_check_same_locks (hr.mono (by decide)) rfl D_check_same_locks.g D_check_same_locks.F.kp D_check_same_locks.b .nil (passes_call (E := E) (takes_of rfl rfl rfl rfl) (fun _ _ _ _ h => h)) (pa_cons (pv 0) (pa_cons (pv 1) pa_nil))))
      (pss_one (ps_ret (pe_make M_Rule G_Rule_init (hr.mono (by decide)) rfl RR.k bI_Rule .nil pass0 (pa_cons (pe_callTy call_tuple_of (by rfl) T.b_tuple (by decide +kernel) (pa_cons (pe_fld (pv 0) rfl) pa_nil)) (pa_cons (pe_lc (own := [("entry", 2)]) (g := (gName 2)) rfl sc_Rule_and.nd (pi_list (pe_fld (pv 0) rfl)) (blkOk_by (N := ["self", "other", "entry"]) (sc := defScope s_Rule_and) (by decide +kernel)) (fun _ _ _ _ _ => (pg_name (i := 2) sc_Rule_and.nd rfl (Or.inl rfl))) (fun _ _ _ _ _ => (pts_one (pt_cmpR (r := rInD K) (op_inD (hu5 hr)) (pv 2) ((pe_fld (pv 1) rfl) : PE _ _ (tFld K _ "_entries")) (by rfl)))) (fun _ _ _ _ _ => (pv 2))) pa_nil)))))), ?_⟩
    try simp (maxSteps := 1000000) only [tSeq, tIfS, tTest, tOp, tUn, tCB, tCons, tNil, tVar, tC, rI0, rI, rU, rEq, rNe, tRet, tRetN, tAsg, gName, gSub, tBM, tBM0, tNext, tB, tNot, tAnd, tOr, tIf, tCall, tDrop, tBreak, tCont, L2.start, tDGet, sDPut, tTup, tLst, tDNewK, tRevL, rCat, rAppend, rPop, rSetL, tAndV, tOrV, tNotV, tSl, tPart, tNoPart, tM1, gTup, gCons, gNil, cxK, cxnK, List.map_cons, List.map_nil, List.length_cons, List.length_nil, List.replicate, List.cons_append, List.nil_append, List.append_nil, List.set_cons_zero, List.set_cons_succ, List.getElem?_cons_zero, List.getElem?_cons_succ, Option.some.injEq, V.ref.injEq, V.int.injEq, V.str.injEq, V.bl.injEq, V.ty.injEq, exists_eq_left', exists_eq_left, exists_and_left, List.cons.injEq, and_true, true_and, sc_ii, sc_ss, sc_bb, sc_ni, sc_in, sc_is, sc_si, sc_nn, decide_true, decide_false, reduceCtorEq, Bool.false_eq_true, if_true, if_false, ite_true, ite_false, exists_const, eq_self, false_and, and_false, or_false, false_or, exists_false, Evl.rLenS, rSum, wipe, tYes, exists_eq, exists_eq', rIxL, rIxT, rIxS, exists_and_right, gt_iff_lt, not_true_eq_false, not_false_eq_true, Bool.not_true, Bool.not_false, decide_eq_true_eq, Nat.reduceSub, Nat.reduceAdd, List.append_assoc, tChain, tDIn, tDNotIn, sDDel, tAug, ipI, rInt1_int, rInt1_bl, tFld]
    refine ⟨o1, o2, zs, z2, e1, e2, rfl, h1, h2, fun ez H1 k1 => ?_, qB⟩
    subst ez
    have q := q rfl
    obtain ⟨dx1, l1, m1, us1, ho1, hl1, hm1, hus1, L, hs1⟩ := h1.kp k1
    obtain ⟨dx2, l2, m2, us2, ho2, hl2, hm2, hus2, _, hs2⟩ := h2.kp k1
    have EN := factE (n := zs.length) (by have := L.le; omega) L.pos
    try simp (maxSteps := 1000000) only [tSeq, tIfS, tTest, tOp, tUn, tCB, tCons, tNil, tVar, tC, rI0, rI, rU, rEq, rNe, tRet, tRetN, tAsg, gName, gSub, tBM, tBM0, tNext, tB, tNot, tAnd, tOr, tIf, tCall, tDrop, tBreak, tCont, L2.start, tDGet, sDPut, tTup, tLst, tDNewK, tRevL, rCat, rAppend, rPop, rSetL, tAndV, tOrV, tNotV, tSl, tPart, tNoPart, tM1, gTup, gCons, gNil, cxK, cxnK, List.map_cons, List.map_nil, List.length_cons, List.length_nil, List.replicate, List.cons_append, List.nil_append, List.append_nil, List.set_cons_zero, List.set_cons_succ, List.getElem?_cons_zero, List.getElem?_cons_succ, Option.some.injEq, V.ref.injEq, V.int.injEq, V.str.injEq, V.bl.injEq, V.ty.injEq, exists_eq_left', exists_eq_left, exists_and_left, List.cons.injEq, and_true, true_and, sc_ii, sc_ss, sc_bb, sc_ni, sc_in, sc_is, sc_si, sc_nn, decide_true, decide_false, reduceCtorEq, Bool.false_eq_true, if_true, if_false, ite_true, ite_false, exists_const, eq_self, false_and, and_false, or_false, false_or, exists_false, Evl.rLenS, rSum, wipe, tYes, exists_eq, exists_eq', rIxL, rIxT, rIxS, exists_and_right, gt_iff_lt, not_true_eq_false, not_false_eq_true, Bool.not_true, Bool.not_false, decide_eq_true_eq, Nat.reduceSub, Nat.reduceAdd, List.append_assoc, tChain, tDIn, tDNotIn, sDDel, tAug, ipI, rInt1_int, rInt1_bl, tFld, tMake]
    refine ⟨RC, dx1, _, ho1, RR.cl, RR.n1, .ref l1, rfl, l1, rfl, _, .inl ⟨sq_l hl1, fun la nla => ?_⟩⟩
    have kl := (Kp.new nla : Kp [] H1 (upd H1 la (.tup (zs.map V.str))))
    have hla : (upd H1 la (.tup (zs.map V.str))) la = some (.tup (zs.map V.str)) := upd_same
    generalize upd H1 la (.tup (zs.map V.str)) = H2 at kl hla ⊢
    have hbe : ∀ e ∈ e1, belowE zs.length e := fun e he => (EN.ent e (hs1.subset he)).1
    have hbe2 : ∀ e ∈ e2, belowE zs.length e := fun e he => (EN.ent e (hs2.subset he)).1
    have l12 : e1.length ≤ 12 := Nat.le_trans hs1.length_le EN.len
    refine lcG (R := ET zs) (R2 := ET zs) (fun _ _ _ _ t h => h.tp t) (fun _ _ _ _ t h => h.tp t) (fun e => decide (e ∈ e2)) id (src_list (fun R q' => ⟨.ref o1, rfl, o1, RC, dx1, _, .ref m1, rfl, kl _ _ not0 ho1, RR.cl, RR.n2, rfl, q'⟩) (sq_l (kl _ _ not0 hm1))) (hus1.mono fun _ _ z => z.tp kl.tps) (by omega) (fun v e H3 N N0 he hv k3 hN hN0 => ?_) fun D us' H3 nD hD hrw k3 => ?_
    · refine ⟨by simp [wipe], ?_⟩
      have k13 := kl.trans k3
      try simp (maxSteps := 1000000) only [tSeq, tIfS, tTest, tOp, tUn, tCB, tCons, tNil, tVar, tC, rI0, rI, rU, rEq, rNe, tRet, tRetN, tAsg, gName, gSub, tBM, tBM0, tNext, tB, tNot, tAnd, tOr, tIf, tCall, tDrop, tBreak, tCont, L2.start, tDGet, sDPut, tTup, tLst, tDNewK, tRevL, rCat, rAppend, rPop, rSetL, tAndV, tOrV, tNotV, tSl, tPart, tNoPart, tM1, gTup, gCons, gNil, cxK, cxnK, List.map_cons, List.map_nil, List.length_cons, List.length_nil, List.replicate, List.cons_append, List.nil_append, List.append_nil, List.set_cons_zero, List.set_cons_succ, List.getElem?_cons_zero, List.getElem?_cons_succ, Option.some.injEq, V.ref.injEq, V.int.injEq, V.str.injEq, V.bl.injEq, V.ty.injEq, exists_eq_left', exists_eq_left, exists_and_left, List.cons.injEq, and_true, true_and, sc_ii, sc_ss, sc_bb, sc_ni, sc_in, sc_is, sc_si, sc_nn, decide_true, decide_false, reduceCtorEq, Bool.false_eq_true, if_true, if_false, ite_true, ite_false, exists_const, eq_self, false_and, and_false, or_false, false_or, exists_false, Evl.rLenS, rSum, wipe, tYes, exists_eq, exists_eq', rIxL, rIxT, rIxS, exists_and_right, gt_iff_lt, not_true_eq_false, not_false_eq_true, Bool.not_true, Bool.not_false, decide_eq_true_eq, Nat.reduceSub, Nat.reduceAdd, List.append_assoc, tChain, tDIn, tDNotIn, sDDel, tAug, ipI, rInt1_int, rInt1_bl, tFld]
      refine ⟨RC, dx2, _, k13 _ _ not0 ho2, RR.cl, RR.n2, .ref m2, rfl, ?_⟩
      refine in_ens L (hbe e he) hbe2 hv (sq_l (k13 _ _ not0 hm2)) (hus2.mono fun _ _ z => z.tp k13.tps) ⟨_, rfl, ?_⟩
      by_cases e1 : e ∈ e2
      · rw [decide_eq_true e1, if_pos rfl]
        exact hN (decide_eq_true e1) _ _ hv (Kp.refl _ _)
      · rw [decide_eq_false e1, if_neg (by decide)]
        exact hN0 (decide_eq_false e1) _ (Kp.refl _ _)
    · rw [List.map_id] at hrw
      have k13 := (k1.trans kl).trans k3
      have sub : (e1.filter fun e => decide (e ∈ e2)).Sublist (ens zs.length) := List.filter_sublist.trans hs1
      have hf := List.length_filter_le (fun e => decide (e ∈ e2)) e1
      exact mkR L (k3 _ _ not0 hla) (.inl (sq_l hD)) hrw (fun g hg => sub.subset hg) (by omega) fun o H' no hR kk => by
        rw [sub_filter sub EN.nd] at hR
        exact q o H' (k13.free0 no) hR (k13.trans kk)
def spOr (RC OL : Addr) : Sp := fun vs H Q E => ∃ (o1 o2 : Addr) (zs z2 : List Str) (e1 e2 : List En), vs = [.ref o1, .ref o2] ∧ RuAt RC H o1 zs e1 ∧ RuAt RC H o2 z2 e2 ∧ (zs ≠ z2 → ∀ H', Kp [] H H' → E (.ref OL) none H') ∧ (zs = z2 → ∀ o H', H o = none → RuAt RC H' o zs ((ens zs.length).filter fun e => decide (e ∈ e1 ++ e2)) → Kp [] H H' → Q (.ref o) H')
theorem ok_Rule_or {f : Addr} {fd : FuncData} (F : Fun K "__or__" "Rule.__or__" s_Rule_or f fd) (T : BtG mg) (RR : RuC K mg RC) {f1 : Addr} {fd1 : FuncData} (D_check_same_locks : Df K mg "check_same_locks" s_check_same_locks ["a", "b"] f1 fd1) (G_check_same_locks : FnOk P w K mg base (L2.CX P w) 3 f1 fd1 ["a", "b"] (spSame RC OL))
    {fI : Addr} {fdI : FuncData} (M_Rule : Mk K RC fI) (bI_Rule : Binds K fdI ["self", "locks", "entries"] []) (G_Rule_init : FnOk P w K mg base CX0 4 fI fdI ["self", "locks", "entries"] (spRuI RC K)) : FnOk P w K mg base (L2.CX P w) 6 f fd ["self", "other"] (spOr RC OL) := by
  refine F.okX sc_Rule_or (fun vs H Q E h => ?_) (fun cdv A outer s H vs Q E hr h => ?_)
  · obtain ⟨_, _, _, _, _, _, rfl, _⟩ := h
    rfl
  · obtain ⟨o1, o2, zs, z2, e1, e2, rfl, h1, h2, qB, q⟩ := h
    refine ⟨_, (pss_cons (ps_expr (pe_call G_check_same_locks (hr.mono (by decide)) rfl D_check_same_locks.g D_check_same_locks.F.kp D_check_same_locks.b .nil (passes_call (E := E) (takes_of rfl rfl rfl rfl) (fun _ _ _ _ h => h)) (pa_cons (pv 0) (pa_cons (pv 1) pa_nil))))
      (pss_one (ps_ret (pe_make M_Rule G_Rule_init (hr.mono (by decide)) rfl RR.k bI_Rule .nil pass0 (pa_cons (pe_callTy call_tuple_of (by rfl) T.b_tuple (by decide +kernel) (pa_cons (pe_fld (pv 0) rfl) pa_nil)) (pa_cons (pe_op op_cat (pe_fld (pv 0) rfl) (pe_fld (pv 1) rfl)) pa_nil)))))), ?_⟩
    try simp (maxSteps := 1000000) only [tSeq, tIfS, tTest, tOp, tUn, tCB, tCons, tNil, tVar, tC, rI0, rI, rU, rEq, rNe, tRet, tRetN, tAsg, gName, gSub, tBM, tBM0, tNext, tB, tNot, tAnd, tOr, tIf, tCall, tDrop, tBreak, tCont, L2.start, tDGet, sDPut, tTup, tLst, tDNewK, tRevL, rCat, rAppend, rPop, rSetL, tAndV, tOrV, tNotV, tSl, tPart, tNoPart, tM1, gTup, gCons, gNil, cxK, cxnK, List.map_cons, List.map_nil, List.length_cons, List.length_nil, List.replicate, List.cons_append, List.nil_append, List.append_nil, List.set_cons_zero, List.set_cons_succ, List.getElem?_cons_zero, List.getElem?_cons_succ, Option.some.injEq, V.ref.injEq, V.int.injEq, V.str.injEq, V.bl.injEq, V.ty.injEq, exists_eq_left', exists_eq_left, exists_and_left, List.cons.injEq, and_true, true_and, sc_ii, sc_ss, sc_bb, sc_ni, sc_in, sc_is, sc_si, sc_nn, decide_true, decide_false, reduceCtorEq, Bool.false_eq_true, if_true, if_false, ite_true, ite_false, exists_const, eq_self, false_and, and_false, or_false, false_or, exists_false, Evl.rLenS, rSum, wipe, tYes, exists_eq, exists_eq', rIxL, rIxT, rIxS, exists_and_right, gt_iff_lt, not_true_eq_false, not_false_eq_true, Bool.not_true, Bool.not_false, decide_eq_true_eq, Nat.reduceSub, Nat.reduceAdd, List.append_assoc, tChain, tDIn, tDNotIn, sDDel, tAug, ipI, rInt1_int, rInt1_bl, tFld]
    refine ⟨o1, o2, zs, z2, e1, e2, rfl, h1, h2, fun ez H1 k1 => ?_, qB⟩
    subst ez
    have q := q rfl
    obtain ⟨dx1, l1, m1, us1, ho1, hl1, hm1, hus1, L, hs1⟩ := h1.kp k1
    obtain ⟨dx2, l2, m2, us2, ho2, hl2, hm2, hus2, _, hs2⟩ := h2.kp k1
    have EN := factE (n := zs.length) (by have := L.le; omega) L.pos
    try simp (maxSteps := 1000000) only [tSeq, tIfS, tTest, tOp, tUn, tCB, tCons, tNil, tVar, tC, rI0, rI, rU, rEq, rNe, tRet, tRetN, tAsg, gName, gSub, tBM, tBM0, tNext, tB, tNot, tAnd, tOr, tIf, tCall, tDrop, tBreak, tCont, L2.start, tDGet, sDPut, tTup, tLst, tDNewK, tRevL, rCat, rAppend, rPop, rSetL, tAndV, tOrV, tNotV, tSl, tPart, tNoPart, tM1, gTup, gCons, gNil, cxK, cxnK, List.map_cons, List.map_nil, List.length_cons, List.length_nil, List.replicate, List.cons_append, List.nil_append, List.append_nil, List.set_cons_zero, List.set_cons_succ, List.getElem?_cons_zero, List.getElem?_cons_succ, Option.some.injEq, V.ref.injEq, V.int.injEq, V.str.injEq, V.bl.injEq, V.ty.injEq, exists_eq_left', exists_eq_left, exists_and_left, List.cons.injEq, and_true, true_and, sc_ii, sc_ss, sc_bb, sc_ni, sc_in, sc_is, sc_si, sc_nn, decide_true, decide_false, reduceCtorEq, Bool.false_eq_true, if_true, if_false, ite_true, ite_false, exists_const, eq_self, false_and, and_false, or_false, false_or, exists_false, Evl.rLenS, rSum, wipe, tYes, exists_eq, exists_eq', rIxL, rIxT, rIxS, exists_and_right, gt_iff_lt, not_true_eq_false, not_false_eq_true, Bool.not_true, Bool.not_false, decide_eq_true_eq, Nat.reduceSub, Nat.reduceAdd, List.append_assoc, tChain, tDIn, tDNotIn, sDDel, tAug, ipI, rInt1_int, rInt1_bl, tFld, tMake]
    refine ⟨RC, dx1, _, ho1, RR.cl, RR.n1, .ref l1, rfl, l1, rfl, _, .inl ⟨sq_l hl1, fun la nla => ?_⟩⟩
    have kl := (Kp.new nla : Kp [] H1 (upd H1 la (.tup (zs.map V.str))))
    have hla : (upd H1 la (.tup (zs.map V.str))) la = some (.tup (zs.map V.str)) := upd_same
    generalize upd H1 la (.tup (zs.map V.str)) = H2 at kl hla ⊢
    have l12 : e1.length ≤ 12 := Nat.le_trans hs1.length_le EN.len
    have l22 : e2.length ≤ 12 := Nat.le_trans hs2.length_le EN.len
    refine ⟨RC, dx1, _, kl _ _ not0 ho1, RR.cl, RR.n2, .ref m1, rfl, RC, dx2, _, kl _ _ not0 ho2, RR.cl, RR.n2, .ref m2, rfl, m1, rfl, m2, rfl, _, kl _ _ not0 hm1, _, kl _ _ not0 hm2, by rw [hus1.len, hus2.len, sizeLine_eq]; omega, fun c nc => ?_⟩
    have kc := (Kp.new nc : Kp [] H2 (upd H2 c (.lst (us1 ++ us2))))
    have k13 := (k1.trans kl).trans kc
    exact mkR L (kc _ _ not0 hla) (.inl (sq_l upd_same)) ((hus1.mono fun _ _ z => (z.tp kl.tps).tp kc.tps).app (hus2.mono fun _ _ z => (z.tp kl.tps).tp kc.tps)) (fun g hg => (List.mem_append.mp hg).elim (fun h => hs1.subset h) fun h => hs2.subset h) (by rw [List.length_append]; omega) fun o H' no hR kk => q o H' (k13.free0 no) hR (k13.trans kk)
def spSub (RC OL : Addr) : Sp := fun vs H Q E => ∃ (o1 o2 : Addr) (zs z2 : List Str) (e1 e2 : List En), vs = [.ref o1, .ref o2] ∧ RuAt RC H o1 zs e1 ∧ RuAt RC H o2 z2 e2 ∧ (zs ≠ z2 → ∀ H', Kp [] H H' → E (.ref OL) none H') ∧ (zs = z2 → ∀ o H', H o = none → RuAt RC H' o zs (e1.filter fun e => !decide (e ∈ e2)) → Kp [] H H' → Q (.ref o) H')
theorem ok_Rule_sub {f : Addr} {fd : FuncData} (F : Fun K "__sub__" "Rule.__sub__" s_Rule_sub f fd) (T : BtG mg) (RR : RuC K mg RC) {f1 : Addr} {fd1 : FuncData} (D_check_same_locks : Df K mg "check_same_locks" s_check_same_locks ["a", "b"] f1 fd1) (G_check_same_locks : FnOk P w K mg base (L2.CX P w) 3 f1 fd1 ["a", "b"] (spSame RC OL))
    {fI : Addr} {fdI : FuncData} (M_Rule : Mk K RC fI) (bI_Rule : Binds K fdI ["self", "locks", "entries"] []) (G_Rule_init : FnOk P w K mg base CX0 4 fI fdI ["self", "locks", "entries"] (spRuI RC K)) : FnOk P w K mg base (L2.CX P w) 6 f fd ["self", "other"] (spSub RC OL) := by
  refine F.okX sc_Rule_sub (fun vs H Q E h => ?_) (fun cdv A outer s H vs Q E hr h => ?_)
  · obtain ⟨_, _, _, _, _, _, rfl, _⟩ := h
    rfl
  · obtain ⟨o1, o2, zs, z2, e1, e2, rfl, h1, h2, qB, q⟩ := h
    refine ⟨_, (pss_cons (ps_expr (pe_call G_check_same_locks (hr.mono (by decide)) rfl D_check_same_locks.g D_check_same_locks.F.kp D_check_same_locks.b .nil (passes_call (E := E) (takes_of rfl rfl rfl rfl) (fun _ _ _ _ h => h)) (pa_cons (pv 0) (pa_cons (pv 1) pa_nil))))
      (pss_one (ps_ret (pe_make M_Rule G_Rule_init (hr.mono (by decide)) rfl RR.k bI_Rule .nil pass0 (pa_cons (pe_callTy call_tuple_of (by rfl) T.b_tuple (by decide +kernel) (pa_cons (pe_fld (pv 0) rfl) pa_nil)) (pa_cons (pe_lc (own := [("entry", 2)]) (g := (gName 2)) rfl sc_Rule_sub.nd (pi_list (pe_fld (pv 0) rfl)) (blkOk_by (N := ["self", "other", "entry"]) (sc := defScope s_Rule_sub) (by decide +kernel)) (fun _ _ _ _ _ => (pg_name (i := 2) sc_Rule_sub.nd rfl (Or.inl rfl))) (fun _ _ _ _ _ => (pts_one (pt_cmpR (r := rNotInD K) (op_notInD (hu5 hr)) (pv 2) ((pe_fld (pv 1) rfl) : PE _ _ (tFld K _ "_entries")) (by rfl)))) (fun _ _ _ _ _ => (pv 2))) pa_nil)))))), ?_⟩
    try simp (maxSteps := 1000000) only [tSeq, tIfS, tTest, tOp, tUn, tCB, tCons, tNil, tVar, tC, rI0, rI, rU, rEq, rNe, tRet, tRetN, tAsg, gName, gSub, tBM, tBM0, tNext, tB, tNot, tAnd, tOr, tIf, tCall, tDrop, tBreak, tCont, L2.start, tDGet, sDPut, tTup, tLst, tDNewK, tRevL, rCat, rAppend, rPop, rSetL, tAndV, tOrV, tNotV, tSl, tPart, tNoPart, tM1, gTup, gCons, gNil, cxK, cxnK, List.map_cons, List.map_nil, List.length_cons, List.length_nil, List.replicate, List.cons_append, List.nil_append, List.append_nil, List.set_cons_zero, List.set_cons_succ, List.getElem?_cons_zero, List.getElem?_cons_succ, Option.some.injEq, V.ref.injEq, V.int.injEq, V.str.injEq, V.bl.injEq, V.ty.injEq, exists_eq_left', exists_eq_left, exists_and_left, List.cons.injEq, and_true, true_and, sc_ii, sc_ss, sc_bb, sc_ni, sc_in, sc_is, sc_si, sc_nn, decide_true, decide_false, reduceCtorEq, Bool.false_eq_true, if_true, if_false, ite_true, ite_false, exists_const, eq_self, false_and, and_false, or_false, false_or, exists_false, Evl.rLenS, rSum, wipe, tYes, exists_eq, exists_eq', rIxL, rIxT, rIxS, exists_and_right, gt_iff_lt, not_true_eq_false, not_false_eq_true, Bool.not_true, Bool.not_false, decide_eq_true_eq, Nat.reduceSub, Nat.reduceAdd, List.append_assoc, tChain, tDIn, tDNotIn, sDDel, tAug, ipI, rInt1_int, rInt1_bl, tFld]
    refine ⟨o1, o2, zs, z2, e1, e2, rfl, h1, h2, fun ez H1 k1 => ?_, qB⟩
    subst ez
    have q := q rfl
    obtain ⟨dx1, l1, m1, us1, ho1, hl1, hm1, hus1, L, hs1⟩ := h1.kp k1
    obtain ⟨dx2, l2, m2, us2, ho2, hl2, hm2, hus2, _, hs2⟩ := h2.kp k1
    have EN := factE (n := zs.length) (by have := L.le; omega) L.pos
    try simp (maxSteps := 1000000) only [tSeq, tIfS, tTest, tOp, tUn, tCB, tCons, tNil, tVar, tC, rI0, rI, rU, rEq, rNe, tRet, tRetN, tAsg, gName, gSub, tBM, tBM0, tNext, tB, tNot, tAnd, tOr, tIf, tCall, tDrop, tBreak, tCont, L2.start, tDGet, sDPut, tTup, tLst, tDNewK, tRevL, rCat, rAppend, rPop, rSetL, tAndV, tOrV, tNotV, tSl, tPart, tNoPart, tM1, gTup, gCons, gNil, cxK, cxnK, List.map_cons, List.map_nil, List.length_cons, List.length_nil, List.replicate, List.cons_append, List.nil_append, List.append_nil, List.set_cons_zero, List.set_cons_succ, List.getElem?_cons_zero, List.getElem?_cons_succ, Option.some.injEq, V.ref.injEq, V.int.injEq, V.str.injEq, V.bl.injEq, V.ty.injEq, exists_eq_left', exists_eq_left, exists_and_left, List.cons.injEq, and_true, true_and, sc_ii, sc_ss, sc_bb, sc_ni, sc_in, sc_is, sc_si, sc_nn, decide_true, decide_false, reduceCtorEq, Bool.false_eq_true, if_true, if_false, ite_true, ite_false, exists_const, eq_self, false_and, and_false, or_false, false_or, exists_false, Evl.rLenS, rSum, wipe, tYes, exists_eq, exists_eq', rIxL, rIxT, rIxS, exists_and_right, gt_iff_lt, not_true_eq_false, not_false_eq_true, Bool.not_true, Bool.not_false, decide_eq_true_eq, Nat.reduceSub, Nat.reduceAdd, List.append_assoc, tChain, tDIn, tDNotIn, sDDel, tAug, ipI, rInt1_int, rInt1_bl, tFld, tMake]
    refine ⟨RC, dx1, _, ho1, RR.cl, RR.n1, .ref l1, rfl, l1, rfl, _, .inl ⟨sq_l hl1, fun la nla => ?_⟩⟩
    have kl := (Kp.new nla : Kp [] H1 (upd H1 la (.tup (zs.map V.str))))
    have hla : (upd H1 la (.tup (zs.map V.str))) la = some (.tup (zs.map V.str)) := upd_same
    generalize upd H1 la (.tup (zs.map V.str)) = H2 at kl hla ⊢
    have hbe : ∀ e ∈ e1, belowE zs.length e := fun e he => (EN.ent e (hs1.subset he)).1
    have hbe2 : ∀ e ∈ e2, belowE zs.length e := fun e he => (EN.ent e (hs2.subset he)).1
    have l12 : e1.length ≤ 12 := Nat.le_trans hs1.length_le EN.len
    refine lcG (R := ET zs) (R2 := ET zs) (fun _ _ _ _ t h => h.tp t) (fun _ _ _ _ t h => h.tp t) (fun e => !decide (e ∈ e2)) id (src_list (fun R q' => ⟨.ref o1, rfl, o1, RC, dx1, _, .ref m1, rfl, kl _ _ not0 ho1, RR.cl, RR.n2, rfl, q'⟩) (sq_l (kl _ _ not0 hm1))) (hus1.mono fun _ _ z => z.tp kl.tps) (by omega) (fun v e H3 N N0 he hv k3 hN hN0 => ?_) fun D us' H3 nD hD hrw k3 => ?_
    · refine ⟨by simp [wipe], ?_⟩
      have k13 := kl.trans k3
      try simp (maxSteps := 1000000) only [tSeq, tIfS, tTest, tOp, tUn, tCB, tCons, tNil, tVar, tC, rI0, rI, rU, rEq, rNe, tRet, tRetN, tAsg, gName, gSub, tBM, tBM0, tNext, tB, tNot, tAnd, tOr, tIf, tCall, tDrop, tBreak, tCont, L2.start, tDGet, sDPut, tTup, tLst, tDNewK, tRevL, rCat, rAppend, rPop, rSetL, tAndV, tOrV, tNotV, tSl, tPart, tNoPart, tM1, gTup, gCons, gNil, cxK, cxnK, List.map_cons, List.map_nil, List.length_cons, List.length_nil, List.replicate, List.cons_append, List.nil_append, List.append_nil, List.set_cons_zero, List.set_cons_succ, List.getElem?_cons_zero, List.getElem?_cons_succ, Option.some.injEq, V.ref.injEq, V.int.injEq, V.str.injEq, V.bl.injEq, V.ty.injEq, exists_eq_left', exists_eq_left, exists_and_left, List.cons.injEq, and_true, true_and, sc_ii, sc_ss, sc_bb, sc_ni, sc_in, sc_is, sc_si, sc_nn, decide_true, decide_false, reduceCtorEq, Bool.false_eq_true, if_true, if_false, ite_true, ite_false, exists_const, eq_self, false_and, and_false, or_false, false_or, exists_false, Evl.rLenS, rSum, wipe, tYes, exists_eq, exists_eq', rIxL, rIxT, rIxS, exists_and_right, gt_iff_lt, not_true_eq_false, not_false_eq_true, Bool.not_true, Bool.not_false, decide_eq_true_eq, Nat.reduceSub, Nat.reduceAdd, List.append_assoc, tChain, tDIn, tDNotIn, sDDel, tAug, ipI, rInt1_int, rInt1_bl, tFld]
      refine ⟨RC, dx2, _, k13 _ _ not0 ho2, RR.cl, RR.n2, .ref m2, rfl, ?_⟩
      refine nin_ens L (hbe e he) hbe2 hv (sq_l (k13 _ _ not0 hm2)) (hus2.mono fun _ _ z => z.tp k13.tps) ⟨_, rfl, ?_⟩
      by_cases e1 : e ∈ e2
      · rw [decide_eq_true e1, if_neg (by decide)]
        exact hN0 (by simp [e1]) _ (Kp.refl _ _)
      · rw [decide_eq_false e1, if_pos (by decide)]
        exact hN (by simp [e1]) _ _ hv (Kp.refl _ _)
    · rw [List.map_id] at hrw
      have k13 := (k1.trans kl).trans k3
      have sub : (e1.filter fun e => !decide (e ∈ e2)).Sublist (ens zs.length) := List.filter_sublist.trans hs1
      have hf := List.length_filter_le (fun e => !decide (e ∈ e2)) e1
      exact mkR L (k3 _ _ not0 hla) (.inl (sq_l hD)) hrw (fun g hg => sub.subset hg) (by omega) fun o H' no hR kk => by
        rw [sub_filter sub EN.nd] at hR
        exact q o H' (k13.free0 no) hR (k13.trans kk)
end
end My

set_option Elab.async false
set_option linter.all false
set_option maxRecDepth 100000
set_option maxHeartbeats 4000000
namespace My
open PySem L2 NdefX StX
abbrev s_law_list : Stmt := top 24
theorem sc_law_list : FnScope ["_law_locks", "_law_cell_here", "_law_shape", "_law_known", "_law_told_here", "_law_x"] ["_law_locks", "_law_cell_here", "_law_shape"] (defScope s_law_list) := ⟨rfl, rfl, rfl, by decide +kernel, rfl, by decide +kernel, by decide +kernel⟩
abbrev s_law_is_rule : Stmt := top 25
theorem sc_law_is_rule : FnScope ["_law_rule", "_law_locks", "_law_due", "_law_entry", "_law_held", "_law_following", "_law_lock"] ["_law_rule", "_law_locks", "_law_due"] (defScope s_law_is_rule) := ⟨rfl, rfl, rfl, by decide +kernel, rfl, by decide +kernel, by decide +kernel⟩
abbrev s_law_stays : Stmt := top 26
theorem sc_law_stays : FnScope ["_law_rule", "_law_locks", "_law_due", "_law_told_here", "_law_following"] ["_law_rule", "_law_locks", "_law_due"] (defScope s_law_stays) := ⟨rfl, rfl, rfl, by decide +kernel, rfl, by decide +kernel, by decide +kernel⟩
abbrev s_law_signs : Stmt := top 27
theorem sc_law_signs : FnScope ["_law_a", "_law_b", "_law_locks", "_law_first", "_law_second", "_law_both", "_law_entry", "_law_either", "_law_alone"] ["_law_a", "_law_b", "_law_locks", "_law_first", "_law_second"] (defScope s_law_signs) := ⟨rfl, rfl, rfl, by decide +kernel, rfl, by decide +kernel, by decide +kernel⟩
theorem ens_pos : ∀ n, n < 4 → 1 ≤ n → 1 ≤ (ens n).length := by decide +kernel
theorem rw_rev {α : Type} {R : V → α → Prop} {us : List V} {gs : List α} (h : Rw R us gs) : Rw R us.reverse gs.reverse := ⟨by rw [List.length_reverse, List.length_reverse, h.len], fun {i u} e => by
  have hi : i < us.length := by
    have := (List.getElem?_eq_some_iff.mp e).1
    rwa [List.length_reverse] at this
  rw [List.getElem?_reverse hi] at e
  obtain ⟨g, eg, hg⟩ := h.get e
  exact ⟨g, by rw [List.getElem?_reverse (by have := h.len; omega), ← h.len]; exact eg, hg⟩⟩
theorem may_lt {n : Nat} {es : List En} {h : Hd} (hbe : ∀ e ∈ es, belowE n e) : ∀ r ∈ mayR es h, r < n := fun r hr => by
  unfold mayR at hr
  obtain ⟨e, he, rfl⟩ := List.mem_map.mp hr
  exact (hbe e (List.mem_filter.mp he).1).2
def addF (F : List Hd) (gs : List Hd) : List Hd := gs.foldl (fun F g => if g ∈ F then F else F ++ [g]) F
def EnAt (H : Hp) (a : Addr) (zs : List Str) (es : List En) : Prop := ∃ us, H a = some (.lst us) ∧ Rw (ET zs H) us es ∧ es.Sublist (ens zs.length)
theorem EnAt.kp {H H' : Hp} {a : Addr} {zs : List Str} {es : List En} (h : EnAt H a zs es) (k : Kp [] H H') : EnAt H' a zs es := by
  obtain ⟨us, h1, h2, h3⟩ := h
  exact ⟨us, k _ _ not0 h1, h2.mono fun _ _ z => z.tp k.tps, h3⟩
structure BtY (mg : Str → Option Value) (RC : Addr) : Prop where
  b_len : mg "len" = none
  b_list : mg "list" = none
  b_isinstance : mg "isinstance" = none
  k_Rule : mg "Rule" = some (.ref RC)
theorem ens_at0 : ∀ n, n < 4 → ∀ h ∈ hls n, (ens n).filter (fun e => decide (e.1 = h)) = entsOf n h := by decide +kernel
theorem mem_entsOf {n : Nat} {h : Hd} {r : Nat} (m : (h, r) ∈ ens n) : r ∉ h := by
  unfold ens at m
  obtain ⟨h', _, m'⟩ := List.mem_flatMap.mp m
  unfold entsOf at m'
  obtain ⟨x, hx, e⟩ := List.mem_map.mp m'
  cases e
  have := (List.mem_filter.mp hx).2
  simpa using this
theorem may_range {n : Nat} {es : List En} {h : Hd} (n3 : n < 4) (hh : h ∈ hls n) (nd : (ens n).Nodup) (hes : es.Sublist (ens n)) : mayR es h = (List.range n).filter fun r => decide ((h, r) ∈ es) := by
  unfold mayR
  have e0 : es.filter (fun e => decide (e.1 = h)) = (entsOf n h).filter fun e => decide (e ∈ es) := by
    rw [← ens_at0 n n3 h hh, List.filter_filter]
    conv => lhs; rw [← sub_filter hes nd, List.filter_filter]
    congr 1
    funext e
    rw [Bool.and_comm]
  rw [e0]
  unfold entsOf
  rw [List.filter_map, List.map_map, List.filter_filter]
  rw [show ((fun x : En => x.2) ∘ fun r => (h, r)) = id from rfl, List.map_id]
  refine List.filter_congr fun r _ => ?_
  by_cases m : (h, r) ∈ es
  · have := mem_entsOf (hes.subset m)
    simp [m, this]
  · simp [m]
theorem ne_ents {K : PySem.W.Frag} {zs : List Str} {es : List En} {H : Hp} {p ea : Addr} {ws : List V} {Q : VK} (L : LkOk zs) (hp : H p = some (.lst ws)) (hws : Rw (ET zs H) ws es) (hE : EnAt H ea zs es) (q : Q (.bl false) H) : rNeD K (.ref p) (.ref ea) H Q := by
  obtain ⟨ue, hea, hue, hes⟩ := hE
  have E := factE (n := zs.length) (by have := L.le; omega) L.pos
  have hbe : ∀ e ∈ es, belowE zs.length e := fun e he => (E.ent e (hes.subset he)).1
  have shE : SeqAt.shaped (.list (es.map (eD zs))) = true := (fk_lst (k := 3) fun d hd => by
    obtain ⟨g, hg', rfl⟩ := List.mem_map.mp hd
    exact fk_eD L (hbe g hg')).sh (by decide)
  refine ⟨_, _, .lst (sq_l hp) (rw_dp (fun _ _ z => z.dp) hws), .lst (sq_l hea) (rw_dp (fun _ _ z => z.dp) hue), shE, shE, ?_⟩
  rw [SeqAt.eqv_refl _ (SeqAt.canLay_of_shaped shE)]
  exact q
theorem ne_strs {K : PySem.W.Frag} {zs : List Str} {H : Hp} {p l : Addr} {Q : VK} (L : ∀ z ∈ zs, nameS z = true) (hp : H p = some (.lst (zs.map V.str))) (hl : H l = some (.lst (zs.map V.str))) (q : Q (.bl false) H) : rNeD K (.ref p) (.ref l) H Q := by
  have sh : SeqAt.shaped ((PyData.list (zs.map PyData.str))) = true := (fk_lst (k := 1) fun d hd => by
    obtain ⟨z, hz, rfl⟩ := List.mem_map.mp hd
    exact fk_name (L z hz)).sh (by decide)
  refine ⟨_, _, .lst (sq_l hp) (dpStrs zs), .lst (sq_l hl) (dpStrs zs), sh, sh, ?_⟩
  show Q (.bl (!(PyData.eqv ((PyData.list (zs.map PyData.str))) ((PyData.list (zs.map PyData.str)))))) H
  rw [SeqAt.eqv_refl _ (SeqAt.canLay_of_shaped sh)]
  exact q
theorem list_ru {K : PySem.W.Frag} {RC o : Addr} {H : Hp} {zs : List Str} {es : List En} {Q : VK} (hR : RuAt RC H o zs es) (q : ∀ p ws H', H p = none → H' p = some (.lst ws) → Rw (ET zs H') ws es → Kp [] H H' → Q (.ref p) H') : rListO K RC (spRuT RC) (spRuN RC) E0 [.ref o] H Q := by
  obtain ⟨dx, ll, l, us, ho, hll, hl, hus, L, hs⟩ := id hR
  refine ⟨o, dx, _, rfl, ho, fun p np => ?_⟩
  have k1 : Kp [] H (upd H p (.lst [])) := Kp.new np
  have hp1 : (upd H p (.lst [])) p = some (.lst []) := upd_same
  generalize upd H p (.lst []) = H1 at k1 hp1 ⊢
  refine ⟨o, dx, ll, l, us, rfl, k1 _ _ not0 ho, k1 _ _ not0 hl, fun it nit => ?_⟩
  have k2 : Kp [] H1 (upd H1 it (ItO l it 0)) := Kp.new nit
  have hit : (upd H1 it (ItO l it 0)) it = some (ItO l it 0) := upd_same
  generalize upd H1 it (ItO l it 0) = H2 at k2 hit ⊢
  have k12 := k1.trans k2
  have hl2 := k12 _ _ not0 hl
  have hp2 := k2 _ _ not0 hp1
  have lp : l ≠ p := ne_of_none hl np
  have li : l ≠ it := ne_of_none (k1 _ _ not0 hl) nit
  have pi : p ≠ it := ne_of_none hp1 nit
  have kf : Kp [] H (upd (upd H2 it (junk it)) p (.lst us)) := (k12.wr (k1.free0 nit)).wr np
  have E := factE (n := zs.length) (by have := L.le; omega) L.pos
  have l12 : es.length ≤ 12 := Nat.le_trans hs.length_le E.len
  refine ⟨l, it, us, rfl, k12 _ _ not0 ho, hit, sq_l hl2, lp, li, hp2, o, zs, es, rfl, hR.kp k12, es.length, rfl, small (by omega), hit, sq_l hl2, hp2, ?_⟩
  exact q p us _ np upd_same (hus.mono fun _ _ z => z.tp kf.tps) kf
theorem isi_own {K : PySem.W.Frag} {RG r dx : Addr} {fs : List (Str × V)} {H : Hp} {Q : VK} (IC : C8.InsC K RG) (hr : H r = some (.ins RG dx fs)) (q : Q (.bl true) H) : rIsi K [.ref r, .ref RG] H Q := ⟨.ref r, .ref RG, .ref RG, .ref RG, true, rfl, .own _, .base (.ins hr IC.cl IC.ha IC.hn IC.htk IC.hm), IC.me, q⟩
theorem seq_cut {s1 s2 : L2.TS} {D : Ends} {σ : L2.St} {H : Hp} (M : L2.St → Hp → Prop) (h1 : ∀ T : L2.St → Hp → Prop, (∀ σ H, M σ H → T σ H) → s1 { D with nx := T } σ H) (h2 : ∀ σ H, M σ H → s2 D σ H) : tSeq s1 s2 D σ H := h1 _ h2
theorem seq_step {s1 s2 : L2.TS} {D : Ends} {σ : L2.St} {H : Hp} (h : s1 { D with nx := s2 D } σ H) : tSeq s1 s2 D σ H := h
section
variable {P : Program} {w : World} {K : PySem.W.Frag} {mg : Str → Option Value} {base : Heap} {tL t3 : Tok} {RC : Addr}
def spList (K : PySem.W.Frag) : Sp := fun vs H Q _ => ∃ (a : Addr) (zs : List Str) (c : Int) (m : Nat), vs = [.ref a, .int c, .int (m : Nat)] ∧ LkOk zs ∧ LkAt K H a zs ∧ ∀ l us gs H', H l = none → H' l = some (.lst us) → Rw (ET zs H') us gs → (∀ g ∈ gs, g ∈ ens zs.length) → gs.length ≤ 30 → Kp [] H H' → Q (.ref l) H'
theorem ok_law_list {f : Addr} {fd : FuncData} (D : Df K mg "_law_list" s_law_list ["_law_locks", "_law_cell_here", "_law_shape"] f fd) (T : BtG mg) {f1 : Addr} {fd1 : FuncData} (D_law_entries : Df K mg "_law_entries" s_law_entries ["_law_locks"] f1 fd1) (G_law_entries : FnOk P w K mg base CX0 2 f1 fd1 ["_law_locks"] (spLEnts K))
    {f2 : Addr} {fd2 : FuncData} (D_law_draws : Df K mg "_law_draws" s_law_draws ["_law_cell_here", "_law_salt", "_law_count", "_law_many"] f2 fd2) (G_law_draws : FnOk P w K mg base CX0 2 f2 fd2 ["_law_cell_here", "_law_salt", "_law_count", "_law_many"] spDraws) : FnOk P w K mg base CX0 3 f fd ["_law_locks", "_law_cell_here", "_law_shape"] (spList K) := by
  refine D.F.ok sc_law_list (fun vs H Q E h => ?_) (fun cdv A outer s H vs Q E hr h => ?_)
  · obtain ⟨_, _, _, _, rfl, _⟩ := h
    rfl
  · obtain ⟨a, zs, c, m, rfl, L, ha, q⟩ := h
    have hu := hu_of hr
    refine ⟨_, (pss_cons (ps_set (i := 3) sc_law_list.nd rfl (Or.inr rfl) (pe_call G_law_entries (hr.mono (by decide)) rfl D_law_entries.g D_law_entries.F.kp D_law_entries.b .nil pass0 (pa_cons (pv 0) pa_nil)))
      (pss_cons (ps_setLc (i := 4) (own := [("_law_x", 5)]) (g := (gName 5)) (tt := tYes) rfl sc_law_list.nd rfl rfl (sw_true rfl rfl rfl (by decide +kernel)) (pi_list (pe_slice sl_list (pe_call G_law_draws (hr.mono (by decide)) rfl D_law_draws.g D_law_draws.F.kp D_law_draws.b .nil pass0 (pa_cons (pv 1) (pa_cons pe_int (pa_cons pe_int (pa_cons (pe_callB (id := "len") (r := Evl.rLenS K) call_len_seq (by rfl) T.b_len PySem.boot_len (pa_cons (pv 3) pa_nil)) pa_nil))))) po_none (po_some (pe_op op_mod (pe_callTy (T := "int") (r := rInt1) call_int1 (by rfl) T.b_int (by decide +kernel) (pa_cons (pv 2) pa_nil)) pe_int)))) (blkOk_by (N := ["_law_locks", "_law_cell_here", "_law_shape", "_law_known", "_law_told_here", "_law_x"]) (sc := defScope s_law_list) (by decide +kernel)) (fun _ _ _ _ _ => (pg_name (i := 5) sc_law_list.nd rfl (Or.inl rfl))) (fun _ _ _ _ _ => pts_nil) (fun _ _ _ _ _ => (pe_ix (r := rIxL K) ix_list (pv 3) (pv 5) (fun _ _ => rfl))))
      (pss_cons (ps_if (pt_cmpR op_eq (pe_op op_mod (pe_op op_fdiv (pe_callTy (T := "int") (r := rInt1) call_int1 (by rfl) T.b_int (by decide +kernel) (pa_cons (pv 2) pa_nil)) pe_int) pe_int) pe_int (nomark _)) (pss_one (ps_set (i := 4) sc_law_list.nd rfl (Or.inl rfl) (pe_op op_cat (pe_revL (pv 3)) (pv 4)))) pss_nil)
      (pss_one (ps_ret (pv 4)))))), ?_⟩
    have n1 := L.pos
    have n3 := L.le
    have EO := factE (n := zs.length) (by omega) n1
    try simp (maxSteps := 1000000) only [tSeq, tIfS, tTest, tOp, tUn, tCB, tCons, tNil, tVar, tC, rI0, rI, rU, rEq, rNe, tRet, tRetN, tAsg, gName, gSub, tBM, tBM0, tNext, tB, tNot, tAnd, tOr, tIf, tCall, tDrop, tBreak, tCont, L2.start, tDGet, sDPut, tTup, tLst, tDNewK, tRevL, rCat, rAppend, rPop, rSetL, tAndV, tOrV, tNotV, tSl, tPart, tNoPart, tM1, gTup, gCons, gNil, cxK, cxnK, List.map_cons, List.map_nil, List.length_cons, List.length_nil, List.replicate, List.cons_append, List.nil_append, List.append_nil, List.set_cons_zero, List.set_cons_succ, List.getElem?_cons_zero, List.getElem?_cons_succ, Option.some.injEq, V.ref.injEq, V.int.injEq, V.str.injEq, V.bl.injEq, V.ty.injEq, exists_eq_left', exists_eq_left, exists_and_left, List.cons.injEq, and_true, true_and, sc_ii, sc_ss, sc_bb, sc_ni, sc_in, sc_is, sc_si, sc_nn, decide_true, decide_false, reduceCtorEq, Bool.false_eq_true, if_true, if_false, ite_true, ite_false, exists_const, eq_self, false_and, and_false, or_false, false_or, exists_false, Evl.rLenS, rSum, wipe, tYes, exists_eq, exists_eq', rIxL, rIxT, rIxS, exists_and_right, gt_iff_lt, not_true_eq_false, not_false_eq_true, Bool.not_true, Bool.not_false, decide_eq_true_eq, Nat.reduceSub, Nat.reduceAdd, List.append_assoc, tChain, tDIn, tDNotIn, sDDel, tAug, ipI, rInt1_int, rInt1_bl]
    refine ⟨a, zs, rfl, L, ha, fun l us H1 nl hl hus k1 => ?_⟩
    refine lc_src ?_
    try simp (maxSteps := 1000000) only [tSeq, tIfS, tTest, tOp, tUn, tCB, tCons, tNil, tVar, tC, rI0, rI, rU, rEq, rNe, tRet, tRetN, tAsg, gName, gSub, tBM, tBM0, tNext, tB, tNot, tAnd, tOr, tIf, tCall, tDrop, tBreak, tCont, L2.start, tDGet, sDPut, tTup, tLst, tDNewK, tRevL, rCat, rAppend, rPop, rSetL, tAndV, tOrV, tNotV, tSl, tPart, tNoPart, tM1, gTup, gCons, gNil, cxK, cxnK, List.map_cons, List.map_nil, List.length_cons, List.length_nil, List.replicate, List.cons_append, List.nil_append, List.append_nil, List.set_cons_zero, List.set_cons_succ, List.getElem?_cons_zero, List.getElem?_cons_succ, Option.some.injEq, V.ref.injEq, V.int.injEq, V.str.injEq, V.bl.injEq, V.ty.injEq, exists_eq_left', exists_eq_left, exists_and_left, List.cons.injEq, and_true, true_and, sc_ii, sc_ss, sc_bb, sc_ni, sc_in, sc_is, sc_si, sc_nn, decide_true, decide_false, reduceCtorEq, Bool.false_eq_true, if_true, if_false, ite_true, ite_false, exists_const, eq_self, false_and, and_false, or_false, false_or, exists_false, Evl.rLenS, rSum, wipe, tYes, exists_eq, exists_eq', rIxL, rIxT, rIxS, exists_and_right, gt_iff_lt, not_true_eq_false, not_false_eq_true, Bool.not_true, Bool.not_false, decide_eq_true_eq, Nat.reduceSub, Nat.reduceAdd, List.append_assoc, tChain, tDIn, tDNotIn, sDDel, tAug, ipI, rInt1_int, rInt1_bl]
    have l12 := EO.len
    have l1 := ens_pos zs.length (by omega) n1
    refine ⟨us, .inl (sq_l hl), c, 1, 14, _, rfl, by decide, by rw [hus.len]; omega, by rw [hus.len]; omega, fun ld ds H2 nld hld hd k2 => ⟨by decide, ld, _, rfl, sq_l hld, fun p np => ?_⟩⟩
    rw [show ((m : Nat) : Int) % 15 = ((m % 15 : Nat) : Int) from by omega, cut_0j]
    have kp := (Kp.new np : Kp [] H2 (upd H2 p (.lst ((ds.take (m % 15)).map V.int))))
    have hp : (upd H2 p (.lst ((ds.take (m % 15)).map V.int))) p = some (.lst ((ds.take (m % 15)).map V.int)) := upd_same
    generalize upd H2 p (.lst ((ds.take (m % 15)).map V.int)) = H3 at kp hp ⊢
    have hin : ∀ x ∈ ds.take (m % 15), 0 ≤ x ∧ x < (us.length : Nat) := fun x hx => hd.2 x (List.mem_of_mem_take hx)
    have hlen : (ds.take (m % 15)).length ≤ 14 := by rw [List.length_take]; omega
    generalize ds.take (m % 15) = xs at hp hin hlen
    have k13 := k2.trans kp
    have hl3 := k13 _ _ not0 hl
    have hus3 : Rw (ET zs H3) us (ens zs.length) := hus.mono fun _ _ z => z.tp k13.tps
    refine lcG (R := fun _ v x => v = V.int x) (R2 := ET zs) (fun _ _ _ _ _ h => h) (fun _ _ _ _ t h => h.tp t) (fun _ => true) (fun x => (ens zs.length).getD x.toNat ([], 0)) (src_list (fun R q' => q') (sq_l hp)) (rwInts xs) (by omega) (fun v x H4 N N0 hx hv k3 hN hN0 => ?_) fun D us' H4 nD hD hrw k3 => ?_
    · subst hv
      obtain ⟨x0, x1⟩ := hin x hx
      refine ⟨by simp [wipe], ?_⟩
      try simp (maxSteps := 1000000) only [tSeq, tIfS, tTest, tOp, tUn, tCB, tCons, tNil, tVar, tC, rI0, rI, rU, rEq, rNe, tRet, tRetN, tAsg, gName, gSub, tBM, tBM0, tNext, tB, tNot, tAnd, tOr, tIf, tCall, tDrop, tBreak, tCont, L2.start, tDGet, sDPut, tTup, tLst, tDNewK, tRevL, rCat, rAppend, rPop, rSetL, tAndV, tOrV, tNotV, tSl, tPart, tNoPart, tM1, gTup, gCons, gNil, cxK, cxnK, List.map_cons, List.map_nil, List.length_cons, List.length_nil, List.replicate, List.cons_append, List.nil_append, List.append_nil, List.set_cons_zero, List.set_cons_succ, List.getElem?_cons_zero, List.getElem?_cons_succ, Option.some.injEq, V.ref.injEq, V.int.injEq, V.str.injEq, V.bl.injEq, V.ty.injEq, exists_eq_left', exists_eq_left, exists_and_left, List.cons.injEq, and_true, true_and, sc_ii, sc_ss, sc_bb, sc_ni, sc_in, sc_is, sc_si, sc_nn, decide_true, decide_false, reduceCtorEq, Bool.false_eq_true, if_true, if_false, ite_true, ite_false, exists_const, eq_self, false_and, and_false, or_false, false_or, exists_false, Evl.rLenS, rSum, wipe, tYes, exists_eq, exists_eq', rIxL, rIxT, rIxS, exists_and_right, gt_iff_lt, not_true_eq_false, not_false_eq_true, Bool.not_true, Bool.not_false, decide_eq_true_eq, Nat.reduceSub, Nat.reduceAdd, List.append_assoc, tChain, tDIn, tDNotIn, sDDel, tAug, ipI, rInt1_int, rInt1_bl]
      obtain ⟨y, ey⟩ : ∃ y, us[x.toNat]? = some y := ⟨_, List.getElem?_eq_getElem (by omega)⟩
      obtain ⟨e, ee, hy⟩ := hus3.get ey
      refine ⟨_, sq_l (k3 _ _ not0 hl3), y, by rw [show x = ((x.toNat : Nat) : Int) from (Int.toNat_of_nonneg x0).symm]; exact atI_nat ey, hN rfl _ _ ?_ (Kp.refl _ _)⟩
      rw [List.getD_eq_getElem?_getD, ee]
      exact hy.tp k3.tps
    · rw [List.filter_eq_self.mpr (fun _ _ => rfl)] at hrw
      have hmem : ∀ g ∈ xs.map (fun x => (ens zs.length).getD x.toNat ([], 0)), g ∈ ens zs.length := fun g hg => by
        obtain ⟨x, hx, rfl⟩ := List.mem_map.mp hg
        obtain ⟨x0, x1⟩ := hin x hx
        rw [hus.len] at x1
        rw [List.getD_eq_getElem?_getD, List.getElem?_eq_getElem (by omega)]
        exact List.getElem_mem _
      have hgl : (xs.map (fun x => (ens zs.length).getD x.toNat ([], 0))).length ≤ 14 := by rw [List.length_map]; exact hlen
      generalize xs.map (fun x => (ens zs.length).getD x.toNat ([], 0)) = gs at hrw hmem hgl
      have k04 := (k1.trans k13).trans k3
      refine ⟨⟨by decide, by decide⟩, by decide, ?_⟩
      split
      · have hl4 := (k13.trans k3) _ _ not0 hl
        refine ⟨_, sq_l hl4, fun pr npr => ⟨D, rfl, _, upd_same, us', ?_, ?_, fun p5 np5 => ?_⟩⟩
        · exact (Kp.new npr (S := [])) _ _ not0 hD
        · rw [List.length_reverse, hus.len, hrw.len, sizeLine_eq]; omega
        · have k6 := (Kp.new npr (S := []) (o := .lst us.reverse)).trans (Kp.new np5 (S := []) (o := .lst (us.reverse ++ us')))
          refine q p5 (us.reverse ++ us') ((ens zs.length).reverse ++ gs) _ ((k04.trans (Kp.new npr)).free0 np5) upd_same (Rw.app ?_ ?_) (fun g hg => ?_) (by rw [List.length_append, List.length_reverse]; omega) (k04.trans k6)
          · exact rw_rev ((hus.mono fun _ _ z => (z.tp (k13.trans k3).tps).tp k6.tps))
          · exact hrw.mono fun _ _ z => z.tp k6.tps
          · rcases List.mem_append.mp hg with h | h
            · exact List.mem_reverse.mp h
            · exact hmem g h
      · exact q D us' gs H4 ((k1.trans k13).free0 nD) hD hrw hmem (by omega) k04
def spIsR (K : PySem.W.Frag) (RC : Addr) : Sp := fun vs H Q _ => ∃ (o a d : Addr) (zs : List Str) (es : List En), vs = [.ref o, .ref a, .ref d] ∧ RuAt RC H o zs es ∧ LkAt K H a zs ∧ EnAt H d zs es ∧ ∀ H', Kp [] H H' → Q (.bl true) H'
theorem ok_law_is_rule {f : Addr} {fd : FuncData} (D : Df K mg "_law_is_rule" s_law_is_rule ["_law_rule", "_law_locks", "_law_due"] f fd) (T : BtY mg RC) (RR : RuC K mg RC) (IC : C8.InsC K RC)
    {f2 : Addr} {fd2 : FuncData} (D_law_entries : Df K mg "_law_entries" s_law_entries ["_law_locks"] f2 fd2) (G_law_entries : FnOk P w K mg base CX0 2 f2 fd2 ["_law_locks"] (spLEnts K)) {fC : Addr} {fdC : FuncData} (IN_Rule : InC K RC fC) (b_Rule_contains : Binds K fdC ["self", "x"] []) (G_Rule_contains : FnOk P w K mg base CX0 1 fC fdC ["self", "x"] (spCont RC))
    {f1 : Addr} {fd1 : FuncData} (D_law_helds : Df K mg "_law_helds" s_law_helds ["_law_locks"] f1 fd1) (G_law_helds : FnOk P w K mg base CX0 1 f1 fd1 ["_law_locks"] (spLHelds K))
    {fL fN fT fG : Addr} {fdL fdN fdT fdG : FuncData} (ME_Rule_locks : Meth K RC "locks" fL) (bM_Rule_locks : Binds K fdL ["self"] []) (G_Rule_locks : FnOk P w K mg base CX0 1 fL fdL ["self"] (spRuL RC))
    (IT_Rule : IterC K RC fT fN) (b_Rule_iter : Binds K fdT ["self"] []) (G_Rule_iter : FnOk P w K mg base CX0 1 fT fdT ["self"] (spRuT RC)) (LN_Rule : LenC K RC fN) (b_Rule_len : Binds K fdN ["self"] []) (G_Rule_len : FnOk P w K mg base CX0 1 fN fdN ["self"] (spRuN RC))
    (GT_Rule : GetC K RC fG) (b_Rule_getitem : Binds K fdG ["self", "at"] []) (G_Rule_getitem : FnOk P w K mg base CX0 3 fG fdG ["self", "at"] (spRuG RC)) : FnOk P w K mg base CX0 5 f fd ["_law_rule", "_law_locks", "_law_due"] (spIsR K RC) := by
  refine D.F.ok sc_law_is_rule (fun vs H Q E h => ?_) (fun cdv A outer s H vs Q E hr h => ?_)
  · obtain ⟨_, _, _, _, _, rfl, _⟩ := h
    rfl
  · obtain ⟨o, a, d, zs, es, rfl, hR, ha, hE, q⟩ := h
    have hu := hu_of hr
    refine ⟨_, (pss_cons (ps_if (PW.pt (pw_or (pt_not (pt_val (pe_callB (id := "isinstance") (r := rIsi K) call_isi (by rfl) T.b_isinstance (by decide +kernel) (pa_cons (pv 0) (pa_cons (pe_glob (v := .ref RC) rfl T.k_Rule rfl) pa_nil))))) (pw_or (pt_not (pt_val (pe_callB (id := "isinstance") (r := rIsi K) call_isi (by rfl) T.b_isinstance (by decide +kernel) (pa_cons (pe_meth0 (pv 0) RR.cl ME_Rule_locks G_Rule_locks (hr.mono (by decide)) bM_Rule_locks .nil pass0) (pa_cons (pe_bltn (v := .ty "list") (by rfl) T.b_list (by decide +kernel) rfl) pa_nil))))) (pw_or1 (pt_cmpR (op_neD hr.units) (pe_meth0 (pv 0) RR.cl ME_Rule_locks G_Rule_locks (hr.mono (by decide)) bM_Rule_locks .nil pass0) (pe_callTy call_list_of (by rfl) T.b_list (by decide +kernel) (pa_cons (pv 1) pa_nil)) (nomark _)))))) (pss_one (ps_ret pe_bl)) pss_nil)
      (pss_cons (ps_if (PW.pt (pw_or (pt_cmpR op_ne (pe_callB (id := "len") (call_lenO LN_Rule G_Rule_len b_Rule_len (hr.mono (by decide)) pass0) (by rfl) T.b_len PySem.boot_len (pa_cons (pv 0) pa_nil)) (pe_callB (id := "len") (r := Evl.rLenS K) call_len_seq (by rfl) T.b_len PySem.boot_len (pa_cons (pv 2) pa_nil)) (nomark _)) (pw_or1 (pt_cmpR (op_neD hr.units) (pe_callTy (T := "list") (call_listO (E := E0) IT_Rule G_Rule_iter b_Rule_iter G_Rule_len b_Rule_len (hr.mono (by decide))) (by rfl) T.b_list (by decide +kernel) (pa_cons (pv 0) pa_nil)) (pv 2) (nomark _))))) (pss_one (ps_ret pe_bl)) pss_nil)
      (pss_cons (ps_for PassesOwn.never rfl (pi_list (pe_call G_law_entries (hr.mono (by decide)) rfl D_law_entries.g D_law_entries.F.kp D_law_entries.b .nil pass0 (pa_cons (pv 1) pa_nil))) (pg_name (i := 3) sc_law_is_rule.nd rfl (Or.inl rfl)) (pss_one (ps_if (pt_cmpR op_ne (pe_cmpR (op_inO IN_Rule G_Rule_contains b_Rule_contains (hr.mono (by decide)) pass0) (pv 3) (pv 0) (by rfl)) (pe_cmpR (op_inD (hu5 hr)) (pv 3) (pv 2) (by rfl)) (nomark _)) (pss_one (ps_ret pe_bl)) pss_nil)))
      (pss_cons (ps_for PassesOwn.never rfl (pi_list (pe_call G_law_helds (hr.mono (by decide)) rfl D_law_helds.g D_law_helds.F.kp D_law_helds.b .nil pass0 (pa_cons (pv 1) pa_nil))) (pg_name (i := 4) sc_law_is_rule.nd rfl (Or.inr rfl)) (pss_cons (ps_set (i := 5) sc_law_is_rule.nd rfl (Or.inl rfl) (pe_getO GT_Rule G_Rule_getitem b_Rule_getitem (hr.mono (by decide)) pass0 (pv 0) (pv 4)))
      (pss_one (ps_if (PW.pt (pw_or (pt_not (pt_val (pe_callB (id := "isinstance") (r := rIsi K) call_isi (by rfl) T.b_isinstance (by decide +kernel) (pa_cons (pv 5) (pa_cons (pe_bltn (v := .ty "list") (by rfl) T.b_list (by decide +kernel) rfl) pa_nil))))) (pw_or1 (pt_cmpR (op_neD hr.units) (pv 5) (pe_lc (own := [("_law_lock", 6)]) (g := (gName 6)) rfl sc_law_is_rule.nd (pi_seq (pv 1)) (blkOk_by (N := ["_law_rule", "_law_locks", "_law_due", "_law_entry", "_law_held", "_law_following", "_law_lock"]) (sc := defScope s_law_is_rule) (by decide +kernel)) (fun _ _ _ _ _ => (pg_name (i := 6) sc_law_is_rule.nd rfl (Or.inl rfl))) (fun _ _ _ _ _ => (pts_one (pt_cmpR (r := rInD K) (op_inD (hu5 hr)) (pe_tup (pa_cons (pv 4) (pa_cons (pv 6) pa_nil))) (pv 2) (by rfl)))) (fun _ _ _ _ _ => (pv 6))) (nomark _))))) (pss_one (ps_ret pe_bl)) pss_nil))))
      (pss_one (ps_ret pe_bl)))))), ?_⟩
    try simp (maxSteps := 1000000) only [tSeq, tIfS, tTest, tOp, tUn, tCB, tCons, tNil, tVar, tC, rI0, rI, rU, rEq, rNe, tRet, tRetN, tAsg, gName, gSub, tBM, tBM0, tNext, tB, tNot, tAnd, tOr, tIf, tCall, tDrop, tBreak, tCont, L2.start, tDGet, sDPut, tTup, tLst, tDNewK, tRevL, rCat, rAppend, rPop, rSetL, tAndV, tOrV, tNotV, tSl, tPart, tNoPart, tM1, gTup, gCons, gNil, cxK, cxnK, List.map_cons, List.map_nil, List.length_cons, List.length_nil, List.replicate, List.cons_append, List.nil_append, List.append_nil, List.set_cons_zero, List.set_cons_succ, List.getElem?_cons_zero, List.getElem?_cons_succ, Option.some.injEq, V.ref.injEq, V.int.injEq, V.str.injEq, V.bl.injEq, V.ty.injEq, exists_eq_left', exists_eq_left, exists_and_left, List.cons.injEq, and_true, true_and, sc_ii, sc_ss, sc_bb, sc_ni, sc_in, sc_is, sc_si, sc_nn, decide_true, decide_false, reduceCtorEq, Bool.false_eq_true, if_true, if_false, ite_true, ite_false, exists_const, eq_self, false_and, and_false, or_false, false_or, exists_false, Evl.rLenS, rSum, wipe, tYes, exists_eq, exists_eq', rIxL, rIxT, rIxS, exists_and_right, gt_iff_lt, not_true_eq_false, not_false_eq_true, Bool.not_true, Bool.not_false, decide_eq_true_eq, Nat.reduceSub, Nat.reduceAdd, List.append_assoc, tChain, tDIn, tDNotIn, sDDel, tAug, ipI, rInt1_int, rInt1_bl, tMeth, rLenO]
    obtain ⟨dx, lk, m, us, ho, hlk, hm, hus, L, hs⟩ := id hR
    have n1 := L.pos
    have n3 := L.le
    have EO := factE (n := zs.length) (by omega) n1
    have hbe : ∀ e ∈ es, belowE zs.length e := fun e he => (EO.ent e (hs.subset he)).1
    have l12 : es.length ≤ 12 := Nat.le_trans hs.length_le EO.len
    refine isi_own IC ho ⟨true, rfl, ?_⟩
    rw [if_neg (by decide)]
    refine ⟨dx, _, ho, rfl, o, zs, es, rfl, hR, fun l1 H1 nl1 hl1 k1 => ?_⟩
    refine isi_mk (n := "list") (b := true) (.lst hl1) (by decide +kernel) ⟨true, rfl, ?_⟩
    rw [if_neg (by decide)]
    refine ⟨dx, _, k1 _ _ not0 ho, rfl, o, zs, es, rfl, hR.kp k1, fun l0 H0 nl0 hl0 k0 => ?_⟩
    have k1 := k1.trans k0
    have hl1 := hl0
    clear hl0 nl1
    clear k0
    refine ⟨_, LkAt.kp ha k1, fun l2 nl2 => ?_⟩
    have k2 := (Kp.new nl2 : Kp [] H0 (upd H0 l2 (.lst (zs.map V.str))))
    refine ne_strs L.nm (k2 _ _ not0 hl1) upd_same ⟨false, rfl, ?_⟩
    rw [if_neg (by decide)]
    have k12 := k1.trans k2
    generalize upd H0 l2 (.lst (zs.map V.str)) = H2 at k12 ⊢
    refine ⟨⟨dx, _, k12 _ _ not0 ho⟩, o, zs, es, rfl, hR.kp k12, es.length, rfl, small (by omega), ?_⟩
    obtain ⟨ue, hea, hue, hes⟩ := hE.kp k12
    refine ⟨_, .inl (sq_l hea), ?_⟩
    rw [hue.len, decide_eq_true rfl, if_neg (by decide)]
    refine list_ru (hR.kp k12) fun p ws H3 np hp hws k3 => ?_
    have k13 := k12.trans k3
    refine ne_ents L hp hws (hE.kp k13) ⟨false, rfl, ?_⟩
    rw [if_neg (by decide)]
    refine forL_src ?_
    try simp (maxSteps := 1000000) only [tIfS, tTest, tOp, tUn, tCB, tCons, tNil, tVar, tC, rI0, rI, rU, rEq, rNe, tRet, tRetN, tAsg, gName, gSub, tBM, tBM0, tNext, tB, tNot, tAnd, tOr, tIf, tCall, tDrop, tBreak, tCont, L2.start, tDGet, sDPut, tTup, tLst, tDNewK, tRevL, rCat, rAppend, rPop, rSetL, tAndV, tOrV, tNotV, tSl, tPart, tNoPart, tM1, gTup, gCons, gNil, cxK, cxnK, List.map_cons, List.map_nil, List.length_cons, List.length_nil, List.replicate, List.cons_append, List.nil_append, List.append_nil, List.set_cons_zero, List.set_cons_succ, List.getElem?_cons_zero, List.getElem?_cons_succ, Option.some.injEq, V.ref.injEq, V.int.injEq, V.str.injEq, V.bl.injEq, V.ty.injEq, exists_eq_left', exists_eq_left, exists_and_left, List.cons.injEq, and_true, true_and, sc_ii, sc_ss, sc_bb, sc_ni, sc_in, sc_is, sc_si, sc_nn, decide_true, decide_false, reduceCtorEq, Bool.false_eq_true, if_true, if_false, ite_true, ite_false, exists_const, eq_self, false_and, and_false, or_false, false_or, exists_false, Evl.rLenS, rSum, wipe, tYes, exists_eq, exists_eq', rIxL, rIxT, rIxS, exists_and_right, gt_iff_lt, not_true_eq_false, not_false_eq_true, Bool.not_true, Bool.not_false, decide_eq_true_eq, Nat.reduceSub, Nat.reduceAdd, List.append_assoc, tChain, tDIn, tDNotIn, sDDel, tAug, ipI, rInt1_int, rInt1_bl]
    refine ⟨a, zs, rfl, L, LkAt.kp ha k13, fun l hu H4 nl hl hhu k4 => ?_⟩
    have k14 := k13.trans k4
    refine forLC (fun j σ H' => ∃ (c3 : Option V), σ = [some (.ref o), some (.ref a), some (.ref d), c3, none, none, none] ∧ Kp [] H4 H') (sq_l hl) ⟨_, rfl, Kp.refl _ _⟩ (fun j σ H' _ h => by obtain ⟨_, _, k⟩ := h; exact sq_l (k _ _ not0 hl)) ?_ ?_
    · rintro j x σ H5 hj ⟨c3, rfl, k5⟩
      obtain ⟨e, he, hx⟩ := hhu.get hj
      have eb := (EO.ent e (List.mem_of_getElem? he)).1
      have k15 := k14.trans k5
      have hx5 := hx.tp k5.tps
      obtain ⟨va, vu, rfl, hva, hvh⟩ := id hx5
      try simp (maxSteps := 1000000) only [tSeq, tIfS, tTest, tOp, tUn, tCB, tCons, tNil, tVar, tC, rI0, rI, rU, rEq, rNe, tRet, tRetN, tAsg, gName, gSub, tBM, tBM0, tNext, tB, tNot, tAnd, tOr, tIf, tCall, tDrop, tBreak, tCont, L2.start, tDGet, sDPut, tTup, tLst, tDNewK, tRevL, rCat, rAppend, rPop, rSetL, tAndV, tOrV, tNotV, tSl, tPart, tNoPart, tM1, gTup, gCons, gNil, cxK, cxnK, List.map_cons, List.map_nil, List.length_cons, List.length_nil, List.replicate, List.cons_append, List.nil_append, List.append_nil, List.set_cons_zero, List.set_cons_succ, List.getElem?_cons_zero, List.getElem?_cons_succ, Option.some.injEq, V.ref.injEq, V.int.injEq, V.str.injEq, V.bl.injEq, V.ty.injEq, exists_eq_left', exists_eq_left, exists_and_left, List.cons.injEq, and_true, true_and, sc_ii, sc_ss, sc_bb, sc_ni, sc_in, sc_is, sc_si, sc_nn, decide_true, decide_false, reduceCtorEq, Bool.false_eq_true, if_true, if_false, ite_true, ite_false, exists_const, eq_self, false_and, and_false, or_false, false_or, exists_false, Evl.rLenS, rSum, wipe, tYes, exists_eq, exists_eq', rIxL, rIxT, rIxS, exists_and_right, gt_iff_lt, not_true_eq_false, not_false_eq_true, Bool.not_true, Bool.not_false, decide_eq_true_eq, Nat.reduceSub, Nat.reduceAdd, List.append_assoc, tChain, tDIn, tDNotIn, sDDel, tAug, ipI, rInt1_int, rInt1_bl, rInO]
      obtain ⟨ue, hea, hue, hes⟩ := hE.kp k15
      refine ⟨⟨dx, _, k15 _ _ not0 ho⟩, o, _, zs, es, e, rfl, hR.kp k15, hx5, eb, _, rfl, ?_⟩
      refine in_ens L eb hbe hx5 (sq_l hea) hue ⟨rfl, ?_⟩
      rw [decide_eq_true rfl, if_neg (by decide)]
      exact k5
    rintro σ H5 ⟨c3, rfl, k5⟩
    have k13 := k14.trans k5
    clear k5 k14 hhu hl nl
    dsimp only
    refine seq_step ?_
    refine forL_src ?_
    try simp (maxSteps := 1000000) only [tIfS, tTest, tOp, tUn, tCB, tCons, tNil, tVar, tC, rI0, rI, rU, rEq, rNe, tRet, tRetN, tAsg, gName, gSub, tBM, tBM0, tNext, tB, tNot, tAnd, tOr, tIf, tCall, tDrop, tBreak, tCont, L2.start, tDGet, sDPut, tTup, tLst, tDNewK, tRevL, rCat, rAppend, rPop, rSetL, tAndV, tOrV, tNotV, tSl, tPart, tNoPart, tM1, gTup, gCons, gNil, cxK, cxnK, List.map_cons, List.map_nil, List.length_cons, List.length_nil, List.replicate, List.cons_append, List.nil_append, List.append_nil, List.set_cons_zero, List.set_cons_succ, List.getElem?_cons_zero, List.getElem?_cons_succ, Option.some.injEq, V.ref.injEq, V.int.injEq, V.str.injEq, V.bl.injEq, V.ty.injEq, exists_eq_left', exists_eq_left, exists_and_left, List.cons.injEq, and_true, true_and, sc_ii, sc_ss, sc_bb, sc_ni, sc_in, sc_is, sc_si, sc_nn, decide_true, decide_false, reduceCtorEq, Bool.false_eq_true, if_true, if_false, ite_true, ite_false, exists_const, eq_self, false_and, and_false, or_false, false_or, exists_false, Evl.rLenS, rSum, wipe, tYes, exists_eq, exists_eq', rIxL, rIxT, rIxS, exists_and_right, gt_iff_lt, not_true_eq_false, not_false_eq_true, Bool.not_true, Bool.not_false, decide_eq_true_eq, Nat.reduceSub, Nat.reduceAdd, List.append_assoc, tChain, tDIn, tDNotIn, sDDel, tAug, ipI, rInt1_int, rInt1_bl]
    refine ⟨a, zs, rfl, L, LkAt.kp ha k13, fun l hu H4 nl hl hhu k4 => ?_⟩
    have k14 := k13.trans k4
    refine forLC (fun j σ H' => ∃ (c4 c5 : Option V), σ = [some (.ref o), some (.ref a), some (.ref d), c3, c4, c5, none] ∧ Kp [] H4 H') (sq_l hl) ⟨_, _, rfl, Kp.refl _ _⟩ (fun j σ H' _ h => by obtain ⟨_, _, _, k⟩ := h; exact sq_l (k _ _ not0 hl)) ?_ ?_
    · rintro j x σ H5 hj ⟨c4, c5, rfl, k5⟩
      obtain ⟨h, hh, hx⟩ := hhu.get hj
      have hm' := List.mem_of_getElem? hh
      obtain ⟨hb, h3, _⟩ := EO.hld h hm'
      have k15 := k14.trans k5
      have hx5 := hx.tp k5.tps
      obtain ⟨va, rfl, hva⟩ := id hx5
      try simp (maxSteps := 1000000) only [tSeq, tIfS, tTest, tOp, tUn, tCB, tCons, tNil, tVar, tC, rI0, rI, rU, rEq, rNe, tRet, tRetN, tAsg, gName, gSub, tBM, tBM0, tNext, tB, tNot, tAnd, tOr, tIf, tCall, tDrop, tBreak, tCont, L2.start, tDGet, sDPut, tTup, tLst, tDNewK, tRevL, rCat, rAppend, rPop, rSetL, tAndV, tOrV, tNotV, tSl, tPart, tNoPart, tM1, gTup, gCons, gNil, cxK, cxnK, List.map_cons, List.map_nil, List.length_cons, List.length_nil, List.replicate, List.cons_append, List.nil_append, List.append_nil, List.set_cons_zero, List.set_cons_succ, List.getElem?_cons_zero, List.getElem?_cons_succ, Option.some.injEq, V.ref.injEq, V.int.injEq, V.str.injEq, V.bl.injEq, V.ty.injEq, exists_eq_left', exists_eq_left, exists_and_left, List.cons.injEq, and_true, true_and, sc_ii, sc_ss, sc_bb, sc_ni, sc_in, sc_is, sc_si, sc_nn, decide_true, decide_false, reduceCtorEq, Bool.false_eq_true, if_true, if_false, ite_true, ite_false, exists_const, eq_self, false_and, and_false, or_false, false_or, exists_false, Evl.rLenS, rSum, wipe, tYes, exists_eq, exists_eq', rIxL, rIxT, rIxS, exists_and_right, gt_iff_lt, not_true_eq_false, not_false_eq_true, Bool.not_true, Bool.not_false, decide_eq_true_eq, Nat.reduceSub, Nat.reduceAdd, List.append_assoc, tChain, tDIn, tDNotIn, sDDel, tAug, ipI, rInt1_int, rInt1_bl, rGetO]
      refine ⟨⟨dx, _, k15 _ _ not0 ho⟩, o, _, zs, es, h, rfl, hR.kp k15, hx5, hm', fun l6 H6 nl6 hl6 k6 => ?_⟩
      have k16 := k15.trans k6
      refine isi_mk (n := "list") (b := true) (.lst hl6) (by decide +kernel) ⟨true, rfl, ?_⟩
      rw [if_neg (by decide)]
      obtain ⟨ue, hea, hue, hes⟩ := hE.kp k16
      refine lcG (R := fun _ v x => v = V.str (nmL zs x)) (R2 := fun _ v x => v = V.str (nmL zs x)) (fun _ _ _ _ _ h => h) (fun _ _ _ _ _ h => h) (fun r => decide ((h, r) ∈ es)) id (src_seq (fun R q' => ⟨_, rfl, q'⟩) (LkAt.kp ha k16)) lk_rw (by rw [List.length_range]; omega) (fun v r H7 N N0 hr hv k7 hN hN0 => ?_) fun D us' H7 nD hD hrw k7 => ?_
      · subst hv
        have rn := List.mem_range.mp hr
        refine ⟨by simp [wipe], ?_⟩
        try simp (maxSteps := 1000000) only [tSeq, tIfS, tTest, tOp, tUn, tCB, tCons, tNil, tVar, tC, rI0, rI, rU, rEq, rNe, tRet, tRetN, tAsg, gName, gSub, tBM, tBM0, tNext, tB, tNot, tAnd, tOr, tIf, tCall, tDrop, tBreak, tCont, L2.start, tDGet, sDPut, tTup, tLst, tDNewK, tRevL, rCat, rAppend, rPop, rSetL, tAndV, tOrV, tNotV, tSl, tPart, tNoPart, tM1, gTup, gCons, gNil, cxK, cxnK, List.map_cons, List.map_nil, List.length_cons, List.length_nil, List.replicate, List.cons_append, List.nil_append, List.append_nil, List.set_cons_zero, List.set_cons_succ, List.getElem?_cons_zero, List.getElem?_cons_succ, Option.some.injEq, V.ref.injEq, V.int.injEq, V.str.injEq, V.bl.injEq, V.ty.injEq, exists_eq_left', exists_eq_left, exists_and_left, List.cons.injEq, and_true, true_and, sc_ii, sc_ss, sc_bb, sc_ni, sc_in, sc_is, sc_si, sc_nn, decide_true, decide_false, reduceCtorEq, Bool.false_eq_true, if_true, if_false, ite_true, ite_false, exists_const, eq_self, false_and, and_false, or_false, false_or, exists_false, Evl.rLenS, rSum, wipe, tYes, exists_eq, exists_eq', rIxL, rIxT, rIxS, exists_and_right, gt_iff_lt, not_true_eq_false, not_false_eq_true, Bool.not_true, Bool.not_false, decide_eq_true_eq, Nat.reduceSub, Nat.reduceAdd, List.append_assoc, tChain, tDIn, tDNotIn, sDDel, tAug, ipI, rInt1_int, rInt1_bl]
        refine ⟨by rw [sizeLine_eq]; decide, fun t nt => ?_⟩
        have kt := (Kp.new nt : Kp [] H7 (upd H7 t (.tup [.ref va, .str (nmL zs r)])))
        have k67 := (k6.trans k7).trans kt
        have hET : ET zs (upd H7 t (.tup [.ref va, .str (nmL zs r)])) (.ref t) (h, r) := ⟨t, _, rfl, upd_same, ⟨va, rfl, k67 _ _ not0 hva⟩⟩
        have k77 := k7.trans kt
        refine in_ens L ⟨hb, rn⟩ hbe hET (sq_l (k77 _ _ not0 hea)) (hue.mono fun _ _ z => z.tp k77.tps) ⟨_, rfl, ?_⟩
        by_cases e : (h, r) ∈ es
        · rw [decide_eq_true e, if_pos rfl]
          exact hN (decide_eq_true e) _ _ rfl kt
        · rw [decide_eq_false e, if_neg (by decide)]
          exact hN0 (decide_eq_false e) _ kt
      · rw [List.map_id, ← may_range (by omega) hm' EO.nd hs] at hrw
        have e := rw_strs hrw
        subst e
        refine ne_strs (fun z hz => ?_) (k7 _ _ not0 hl6) hD ⟨false, rfl, ?_⟩
        · obtain ⟨r, hr, rfl⟩ := List.mem_map.mp hz
          exact L.nm _ (List.mem_of_getElem? (nm_at (may_lt hbe r hr)))
        · rw [if_neg (by decide)]
          exact (k5.trans k6).trans k7
    · rintro σ H5 ⟨c4, c5, rfl, k5⟩
      try simp (maxSteps := 1000000) only [tSeq, tIfS, tTest, tOp, tUn, tCB, tCons, tNil, tVar, tC, rI0, rI, rU, rEq, rNe, tRet, tRetN, tAsg, gName, gSub, tBM, tBM0, tNext, tB, tNot, tAnd, tOr, tIf, tCall, tDrop, tBreak, tCont, L2.start, tDGet, sDPut, tTup, tLst, tDNewK, tRevL, rCat, rAppend, rPop, rSetL, tAndV, tOrV, tNotV, tSl, tPart, tNoPart, tM1, gTup, gCons, gNil, cxK, cxnK, List.map_cons, List.map_nil, List.length_cons, List.length_nil, List.replicate, List.cons_append, List.nil_append, List.append_nil, List.set_cons_zero, List.set_cons_succ, List.getElem?_cons_zero, List.getElem?_cons_succ, Option.some.injEq, V.ref.injEq, V.int.injEq, V.str.injEq, V.bl.injEq, V.ty.injEq, exists_eq_left', exists_eq_left, exists_and_left, List.cons.injEq, and_true, true_and, sc_ii, sc_ss, sc_bb, sc_ni, sc_in, sc_is, sc_si, sc_nn, decide_true, decide_false, reduceCtorEq, Bool.false_eq_true, if_true, if_false, ite_true, ite_false, exists_const, eq_self, false_and, and_false, or_false, false_or, exists_false, Evl.rLenS, rSum, wipe, tYes, exists_eq, exists_eq', rIxL, rIxT, rIxS, exists_and_right, gt_iff_lt, not_true_eq_false, not_false_eq_true, Bool.not_true, Bool.not_false, decide_eq_true_eq, Nat.reduceSub, Nat.reduceAdd, List.append_assoc, tChain, tDIn, tDNotIn, sDDel, tAug, ipI, rInt1_int, rInt1_bl]
      exact q _ (k14.trans k5)
def spStays (K : PySem.W.Frag) (RC : Addr) : Sp := spIsR K RC
theorem ok_law_stays {f : Addr} {fd : FuncData} (D : Df K mg "_law_stays" s_law_stays ["_law_rule", "_law_locks", "_law_due"] f fd) (RR : RuC K mg RC)
    {f1 : Addr} {fd1 : FuncData} (D_law_is_rule : Df K mg "_law_is_rule" s_law_is_rule ["_law_rule", "_law_locks", "_law_due"] f1 fd1) (G_law_is_rule : FnOk P w K mg base CX0 5 f1 fd1 ["_law_rule", "_law_locks", "_law_due"] (spIsR K RC))
    {fL fG : Addr} {fdL fdG : FuncData} (ME_Rule_locks : Meth K RC "locks" fL) (bM_Rule_locks : Binds K fdL ["self"] []) (G_Rule_locks : FnOk P w K mg base CX0 1 fL fdL ["self"] (spRuL RC))
    (GT_Rule : GetC K RC fG) (b_Rule_getitem : Binds K fdG ["self", "at"] []) (G_Rule_getitem : FnOk P w K mg base CX0 3 fG fdG ["self", "at"] (spRuG RC)) : FnOk P w K mg base CX0 6 f fd ["_law_rule", "_law_locks", "_law_due"] (spIsR K RC) := by
  refine D.F.ok sc_law_stays (fun vs H Q E h => ?_) (fun cdv A outer s H vs Q E hr h => ?_)
  · obtain ⟨_, _, _, _, _, rfl, _⟩ := h
    rfl
  · obtain ⟨o, a, d, zs, es, rfl, hR, ha, hE, q⟩ := h
    have hu := hu_of hr
    refine ⟨_, (pss_cons (ps_set (i := 3) sc_law_stays.nd rfl (Or.inl rfl) (pe_meth0 (pv 0) RR.cl ME_Rule_locks G_Rule_locks (hr.mono (by decide)) bM_Rule_locks .nil pass0))
      (pss_cons (ps_expr (pe_bm PySem.F.plainAttrs_list PySem.F.slot_list_append PySem.F.type_list_append mt_append (pv 3) (pa_cons pe_str pa_nil)))
      (pss_cons (ps_set (i := 4) sc_law_stays.nd rfl (Or.inl rfl) (pe_getO GT_Rule G_Rule_getitem b_Rule_getitem (hr.mono (by decide)) pass0 (pv 0) (pe_tup pa_nil)))
      (pss_cons (ps_expr (pe_bm PySem.F.plainAttrs_list PySem.F.slot_list_append PySem.F.type_list_append mt_append (pv 4) (pa_cons pe_str pa_nil)))
      (pss_one (ps_ret (pe_call G_law_is_rule (hr.mono (by decide)) rfl D_law_is_rule.g D_law_is_rule.F.kp D_law_is_rule.b .nil pass0 (pa_cons (pv 0) (pa_cons (pv 1) (pa_cons (pv 2) pa_nil)))))))))), ?_⟩
    try simp (maxSteps := 1000000) only [tSeq, tIfS, tTest, tOp, tUn, tCB, tCons, tNil, tVar, tC, rI0, rI, rU, rEq, rNe, tRet, tRetN, tAsg, gName, gSub, tBM, tBM0, tNext, tB, tNot, tAnd, tOr, tIf, tCall, tDrop, tBreak, tCont, L2.start, tDGet, sDPut, tTup, tLst, tDNewK, tRevL, rCat, rAppend, rPop, rSetL, tAndV, tOrV, tNotV, tSl, tPart, tNoPart, tM1, gTup, gCons, gNil, cxK, cxnK, List.map_cons, List.map_nil, List.length_cons, List.length_nil, List.replicate, List.cons_append, List.nil_append, List.append_nil, List.set_cons_zero, List.set_cons_succ, List.getElem?_cons_zero, List.getElem?_cons_succ, Option.some.injEq, V.ref.injEq, V.int.injEq, V.str.injEq, V.bl.injEq, V.ty.injEq, exists_eq_left', exists_eq_left, exists_and_left, List.cons.injEq, and_true, true_and, sc_ii, sc_ss, sc_bb, sc_ni, sc_in, sc_is, sc_si, sc_nn, decide_true, decide_false, reduceCtorEq, Bool.false_eq_true, if_true, if_false, ite_true, ite_false, exists_const, eq_self, false_and, and_false, or_false, false_or, exists_false, Evl.rLenS, rSum, wipe, tYes, exists_eq, exists_eq', rIxL, rIxT, rIxS, exists_and_right, gt_iff_lt, not_true_eq_false, not_false_eq_true, Bool.not_true, Bool.not_false, decide_eq_true_eq, Nat.reduceSub, Nat.reduceAdd, List.append_assoc, tChain, tDIn, tDNotIn, sDDel, tAug, ipI, rInt1_int, rInt1_bl, tMeth, rGetO]
    obtain ⟨dx, lk, m, us, ho, hlk, hm, hus, L, hs⟩ := id hR
    have EO := factE (n := zs.length) (by have := L.le; omega) L.pos
    refine ⟨dx, _, ho, rfl, o, zs, es, rfl, hR, fun l1 H1 nl1 hl1 k1 => ?_⟩
    dsimp only
    have n3 := L.le
    refine ⟨.inl ⟨rfl, _, sq_l hl1⟩, l1, rfl, _, hl1, smallL (by rw [List.length_map]; omega), Nat.zero_le _, fun p np => ?_⟩
    have kw : Kp [] H (upd H1 l1 (.lst (zs.map V.str ++ [V.str (Str.ofString "x")]))) := k1.wr nl1
    generalize upd H1 l1 (.lst (zs.map V.str ++ [V.str (Str.ofString "x")])) = H2 at kw np ⊢
    have kp := kw.trans (Kp.new np (o := .tup []))
    have hp : HT zs (upd H2 p (.tup [])) (.ref p) [] := HT.of upd_same
    generalize upd H2 p (.tup []) = H3 at kp hp ⊢
    refine ⟨⟨dx, _, kp _ _ not0 ho⟩, o, _, zs, es, [], rfl, hR.kp kp, hp, EO.nil, fun l4 H4 nl4 hl4 k4 => ?_⟩
    dsimp only
    have ml : (nmH zs (mayR es [])).length ≤ 100 := by
      unfold nmH mayR
      rw [List.length_map, List.length_map]
      have := List.length_filter_le (fun e : En => decide (e.1 = [])) es
      have := hs.length_le
      have := EO.len
      omega
    refine ⟨.inl ⟨rfl, _, sq_l hl4⟩, l4, rfl, _, hl4, smallL (by rw [List.length_map]; omega), ?_⟩
    have k5 : Kp [] H (upd H4 l4 (.lst ((nmH zs (mayR es [])).map V.str ++ [V.str (Str.ofString "x")]))) := kp.trans (k4.wr nl4)
    exact ⟨o, a, d, zs, es, rfl, hR.kp k5, LkAt.kp ha k5, hE.kp k5, fun H' k => q H' (k5.trans k)⟩
def spSigns (K : PySem.W.Frag) (RC : Addr) : Sp := fun vs H Q _ => ∃ (o1 o2 a d1 d2 : Addr) (zs : List Str) (e1 e2 : List En), vs = [.ref o1, .ref o2, .ref a, .ref d1, .ref d2] ∧ RuAt RC H o1 zs e1 ∧ RuAt RC H o2 zs e2 ∧ LkAt K H a zs ∧ EnAt H d1 zs e1 ∧ EnAt H d2 zs e2 ∧ ∀ H', Kp [] H H' → Q (.bl true) H'
theorem ok_law_signs {OL : Addr} {f : Addr} {fd : FuncData} (D : Df K mg "_law_signs" s_law_signs ["_law_a", "_law_b", "_law_locks", "_law_first", "_law_second"] f fd) (RR : RuC K mg RC)
    {f1 : Addr} {fd1 : FuncData} (D_law_is_rule : Df K mg "_law_is_rule" s_law_is_rule ["_law_rule", "_law_locks", "_law_due"] f1 fd1) (G_law_is_rule : FnOk P w K mg base CX0 5 f1 fd1 ["_law_rule", "_law_locks", "_law_due"] (spIsR K RC))
    {f2 : Addr} {fd2 : FuncData} (D_law_stays : Df K mg "_law_stays" s_law_stays ["_law_rule", "_law_locks", "_law_due"] f2 fd2) (G_law_stays : FnOk P w K mg base CX0 6 f2 fd2 ["_law_rule", "_law_locks", "_law_due"] (spIsR K RC))
    {f3 : Addr} {fd3 : FuncData} (D_law_entries : Df K mg "_law_entries" s_law_entries ["_law_locks"] f3 fd3) (G_law_entries : FnOk P w K mg base CX0 2 f3 fd3 ["_law_locks"] (spLEnts K))
    {fA fO fS : Addr} {fdA fdO fdS : FuncData} (BC_Rule_and : BinC K RC fA .BitAnd) (b_Rule_and : Binds K fdA ["self", "other"] []) (G_Rule_and : FnOk P w K mg base (L2.CX P w) 6 fA fdA ["self", "other"] (spAnd RC OL)) (BC_Rule_or : BinC K RC fO .BitOr) (b_Rule_or : Binds K fdO ["self", "other"] []) (G_Rule_or : FnOk P w K mg base (L2.CX P w) 6 fO fdO ["self", "other"] (spOr RC OL))
    (BC_Rule_sub : BinC K RC fS .Sub) (b_Rule_sub : Binds K fdS ["self", "other"] []) (G_Rule_sub : FnOk P w K mg base (L2.CX P w) 6 fS fdS ["self", "other"] (spSub RC OL)) : FnOk P w K mg base CX0 8 f fd ["_law_a", "_law_b", "_law_locks", "_law_first", "_law_second"] (spSigns K RC) := by
  refine D.F.ok sc_law_signs (fun vs H Q E h => ?_) (fun cdv A outer s H vs Q E hr h => ?_)
  · obtain ⟨_, _, _, _, _, _, _, _, rfl, _⟩ := h
    rfl
  · obtain ⟨o1, o2, a, d1, d2, zs, e1, e2, rfl, h1, h2, ha, hE1, hE2, q⟩ := h
    have hu := hu_of hr
    refine ⟨_, (pss_cons (ps_setLc (i := 5) (own := [("_law_entry", 6)]) (g := (gName 6)) rfl sc_law_signs.nd rfl rfl (sw_true rfl rfl rfl (by decide +kernel)) (pi_list (pv 3)) (blkOk_by (N := ["_law_a", "_law_b", "_law_locks", "_law_first", "_law_second", "_law_both", "_law_entry", "_law_either", "_law_alone"]) (sc := defScope s_law_signs) (by decide +kernel)) (fun _ _ _ _ _ => (pg_name (i := 6) sc_law_signs.nd rfl (Or.inl rfl))) (fun _ _ _ _ _ => (pts_one (pt_cmpR (r := rInD K) (op_inD (hu5 hr)) (pv 6) (pv 4) (by rfl)))) (fun _ _ _ _ _ => (pv 6)))
      (pss_cons (ps_setLc (i := 7) (own := [("_law_entry", 6)]) (g := (gName 6)) rfl sc_law_signs.nd rfl rfl (sw_true rfl rfl rfl (by decide +kernel)) (pi_list (pe_call G_law_entries (hr.mono (by decide)) rfl D_law_entries.g D_law_entries.F.kp D_law_entries.b .nil pass0 (pa_cons (pv 2) pa_nil))) (blkOk_by (N := ["_law_a", "_law_b", "_law_locks", "_law_first", "_law_second", "_law_both", "_law_entry", "_law_either", "_law_alone"]) (sc := defScope s_law_signs) (by decide +kernel)) (fun _ _ _ _ _ => (pg_name (i := 6) sc_law_signs.nd rfl (Or.inl rfl))) (fun _ _ _ _ _ => (pts_one (PW.pt (pw_or (pt_cmpR (r := rInD K) (op_inD (hu5 hr)) (pv 6) (pv 3) (by rfl)) (pw_or1 (pt_cmpR (r := rInD K) (op_inD (hu5 hr)) (pv 6) (pv 4) (by rfl))))))) (fun _ _ _ _ _ => (pv 6)))
      (pss_cons (ps_setLc (i := 8) (own := [("_law_entry", 6)]) (g := (gName 6)) rfl sc_law_signs.nd rfl rfl (sw_true rfl rfl rfl (by decide +kernel)) (pi_list (pv 3)) (blkOk_by (N := ["_law_a", "_law_b", "_law_locks", "_law_first", "_law_second", "_law_both", "_law_entry", "_law_either", "_law_alone"]) (sc := defScope s_law_signs) (by decide +kernel)) (fun _ _ _ _ _ => (pg_name (i := 6) sc_law_signs.nd rfl (Or.inl rfl))) (fun _ _ _ _ _ => (pts_one (pt_cmpR (r := rNotInD K) (op_notInD (hu5 hr)) (pv 6) (pv 4) (by rfl)))) (fun _ _ _ _ _ => (pv 6)))
      (pss_cons (ps_if (PW.pt (pw_or (pt_not (pt_val (pe_call G_law_is_rule (hr.mono (by decide)) rfl D_law_is_rule.g D_law_is_rule.F.kp D_law_is_rule.b .nil pass0 (pa_cons (pe_op (op_binO BC_Rule_and G_Rule_and b_Rule_and (hr.mono (by decide)) passL) (pv 0) (pv 1)) (pa_cons (pv 2) (pa_cons (pv 5) pa_nil)))))) (pw_or1 (pt_not (pt_val (pe_call G_law_is_rule (hr.mono (by decide)) rfl D_law_is_rule.g D_law_is_rule.F.kp D_law_is_rule.b .nil pass0 (pa_cons (pe_op (op_binO BC_Rule_or G_Rule_or b_Rule_or (hr.mono (by decide)) passL) (pv 0) (pv 1)) (pa_cons (pv 2) (pa_cons (pv 7) pa_nil))))))))) (pss_one (ps_ret pe_bl)) pss_nil)
      (pss_cons (ps_if (PW.pt (pw_or (pt_not (pt_val (pe_call G_law_is_rule (hr.mono (by decide)) rfl D_law_is_rule.g D_law_is_rule.F.kp D_law_is_rule.b .nil pass0 (pa_cons (pe_op (op_binO BC_Rule_sub G_Rule_sub b_Rule_sub (hr.mono (by decide)) passL) (pv 0) (pv 1)) (pa_cons (pv 2) (pa_cons (pv 8) pa_nil)))))) (pw_or1 (pt_not (pt_val (pe_call G_law_is_rule (hr.mono (by decide)) rfl D_law_is_rule.g D_law_is_rule.F.kp D_law_is_rule.b .nil pass0 (pa_cons (pe_op (op_binO BC_Rule_sub G_Rule_sub b_Rule_sub (hr.mono (by decide)) passL) (pv 0) (pv 0)) (pa_cons (pv 2) (pa_cons (pe_lst pa_nil) pa_nil))))))))) (pss_one (ps_ret pe_bl)) pss_nil)
      (pss_cons (ps_if (PW.pt (pw_or (pt_not (pt_val (pe_call G_law_is_rule (hr.mono (by decide)) rfl D_law_is_rule.g D_law_is_rule.F.kp D_law_is_rule.b .nil pass0 (pa_cons (pe_op (op_binO BC_Rule_and G_Rule_and b_Rule_and (hr.mono (by decide)) passL) (pv 0) (pv 0)) (pa_cons (pv 2) (pa_cons (pv 3) pa_nil)))))) (pw_or1 (pt_not (pt_val (pe_call G_law_is_rule (hr.mono (by decide)) rfl D_law_is_rule.g D_law_is_rule.F.kp D_law_is_rule.b .nil pass0 (pa_cons (pe_op (op_binO BC_Rule_or G_Rule_or b_Rule_or (hr.mono (by decide)) passL) (pv 1) (pv 1)) (pa_cons (pv 2) (pa_cons (pv 4) pa_nil))))))))) (pss_one (ps_ret pe_bl)) pss_nil)
      (pss_one (ps_ret (pe_and (pe_call G_law_stays (hr.mono (by decide)) rfl D_law_stays.g D_law_stays.F.kp D_law_stays.b .nil pass0 (pa_cons (pv 0) (pa_cons (pv 2) (pa_cons (pv 3) pa_nil)))) (pe_one (pe_call G_law_stays (hr.mono (by decide)) rfl D_law_stays.g D_law_stays.F.kp D_law_stays.b .nil pass0 (pa_cons (pv 1) (pa_cons (pv 2) (pa_cons (pv 4) pa_nil)))))))))))))), ?_⟩
    have n3 := (show zs.length ≤ 3 from by obtain ⟨_, _, _, _, _, _, _, _, L, _⟩ := id h1; exact L.le)
    have L : LkOk zs := by obtain ⟨_, _, _, _, _, _, _, _, L, _⟩ := id h1; exact L
    have s1 : e1.Sublist (ens zs.length) := by obtain ⟨_, _, _, _, _, _, _, _, _, s⟩ := id h1; exact s
    have s2 : e2.Sublist (ens zs.length) := by obtain ⟨_, _, _, _, _, _, _, _, _, s⟩ := id h2; exact s
    have EO := factE (n := zs.length) (by omega) L.pos
    have hb1 : ∀ e ∈ e1, belowE zs.length e := fun e he => (EO.ent e (s1.subset he)).1
    have hb2 : ∀ e ∈ e2, belowE zs.length e := fun e he => (EO.ent e (s2.subset he)).1
    have l1 := s1.length_le
    have l12 := EO.len
    obtain ⟨u1, hd1, hu1, _⟩ := id hE1
    obtain ⟨u2, hd2, hu2, _⟩ := id hE2
    refine seq_step ?_
    try simp (maxSteps := 1000000) only [tTest, tOp, tUn, tCB, tCons, tNil, tVar, tC, rI0, rI, rU, rEq, rNe, tRet, tRetN, tAsg, gName, gSub, tBM, tBM0, tNext, tB, tNot, tAnd, tOr, tIf, tCall, tDrop, tBreak, tCont, L2.start, tDGet, sDPut, tTup, tLst, tDNewK, tRevL, rCat, rAppend, rPop, rSetL, tAndV, tOrV, tNotV, tSl, tPart, tNoPart, tM1, gTup, gCons, gNil, cxK, cxnK, List.map_cons, List.map_nil, List.length_cons, List.length_nil, List.replicate, List.cons_append, List.nil_append, List.append_nil, List.set_cons_zero, List.set_cons_succ, List.getElem?_cons_zero, List.getElem?_cons_succ, Option.some.injEq, V.ref.injEq, V.int.injEq, V.str.injEq, V.bl.injEq, V.ty.injEq, exists_eq_left', exists_eq_left, exists_and_left, List.cons.injEq, and_true, true_and, sc_ii, sc_ss, sc_bb, sc_ni, sc_in, sc_is, sc_si, sc_nn, decide_true, decide_false, reduceCtorEq, Bool.false_eq_true, if_true, if_false, ite_true, ite_false, exists_const, eq_self, false_and, and_false, or_false, false_or, exists_false, Evl.rLenS, rSum, wipe, tYes, exists_eq, exists_eq', rIxL, rIxT, rIxS, exists_and_right, gt_iff_lt, not_true_eq_false, not_false_eq_true, Bool.not_true, Bool.not_false, decide_eq_true_eq, Nat.reduceSub, Nat.reduceAdd, List.append_assoc, tChain, tDIn, tDNotIn, sDDel, tAug, ipI, rInt1_int, rInt1_bl]
    refine lcG (R := ET zs) (R2 := ET zs) (fun _ _ _ _ t h => h.tp t) (fun _ _ _ _ t h => h.tp t) (fun e => decide (e ∈ e2)) id (src_list (fun R q' => ⟨_, rfl, q'⟩) (sq_l hd1)) hu1 (by omega) (fun v e H3 N N0 he hv k3 hN hN0 => ?_) fun D5 us5 H5 nD5 hD5 hrw5 k5 => ?_
    · refine ⟨by simp [wipe], ?_⟩
      try simp (maxSteps := 1000000) only [tSeq, tIfS, tTest, tOp, tUn, tCB, tCons, tNil, tVar, tC, rI0, rI, rU, rEq, rNe, tRet, tRetN, tAsg, gName, gSub, tBM, tBM0, tNext, tB, tNot, tAnd, tOr, tIf, tCall, tDrop, tBreak, tCont, L2.start, tDGet, sDPut, tTup, tLst, tDNewK, tRevL, rCat, rAppend, rPop, rSetL, tAndV, tOrV, tNotV, tSl, tPart, tNoPart, tM1, gTup, gCons, gNil, cxK, cxnK, List.map_cons, List.map_nil, List.length_cons, List.length_nil, List.replicate, List.cons_append, List.nil_append, List.append_nil, List.set_cons_zero, List.set_cons_succ, List.getElem?_cons_zero, List.getElem?_cons_succ, Option.some.injEq, V.ref.injEq, V.int.injEq, V.str.injEq, V.bl.injEq, V.ty.injEq, exists_eq_left', exists_eq_left, exists_and_left, List.cons.injEq, and_true, true_and, sc_ii, sc_ss, sc_bb, sc_ni, sc_in, sc_is, sc_si, sc_nn, decide_true, decide_false, reduceCtorEq, Bool.false_eq_true, if_true, if_false, ite_true, ite_false, exists_const, eq_self, false_and, and_false, or_false, false_or, exists_false, Evl.rLenS, rSum, wipe, tYes, exists_eq, exists_eq', rIxL, rIxT, rIxS, exists_and_right, gt_iff_lt, not_true_eq_false, not_false_eq_true, Bool.not_true, Bool.not_false, decide_eq_true_eq, Nat.reduceSub, Nat.reduceAdd, List.append_assoc, tChain, tDIn, tDNotIn, sDDel, tAug, ipI, rInt1_int, rInt1_bl]
      refine in_ens L (hb1 e he) hb2 hv (sq_l (k3 _ _ not0 hd2)) (hu2.mono fun _ _ z => z.tp k3.tps) ⟨_, rfl, ?_⟩
      by_cases m : e ∈ e2
      · rw [decide_eq_true m, if_pos rfl]
        exact hN (decide_eq_true m) _ _ hv (Kp.refl _ _)
      · rw [decide_eq_false m, if_neg (by decide)]
        exact hN0 (decide_eq_false m) _ (Kp.refl _ _)
    rw [List.map_id] at hrw5
    have E5 : EnAt H5 D5 zs (e1.filter fun e => decide (e ∈ e2)) := ⟨us5, hD5, hrw5, List.filter_sublist.trans s1⟩
    try simp (maxSteps := 1000000) only [tTest, tOp, tUn, tCB, tCons, tNil, tVar, tC, rI0, rI, rU, rEq, rNe, tRet, tRetN, tAsg, gName, gSub, tBM, tBM0, tNext, tB, tNot, tAnd, tOr, tIf, tCall, tDrop, tBreak, tCont, L2.start, tDGet, sDPut, tTup, tLst, tDNewK, tRevL, rCat, rAppend, rPop, rSetL, tAndV, tOrV, tNotV, tSl, tPart, tNoPart, tM1, gTup, gCons, gNil, cxK, cxnK, List.map_cons, List.map_nil, List.length_cons, List.length_nil, List.replicate, List.cons_append, List.nil_append, List.append_nil, List.set_cons_zero, List.set_cons_succ, List.getElem?_cons_zero, List.getElem?_cons_succ, Option.some.injEq, V.ref.injEq, V.int.injEq, V.str.injEq, V.bl.injEq, V.ty.injEq, exists_eq_left', exists_eq_left, exists_and_left, List.cons.injEq, and_true, true_and, sc_ii, sc_ss, sc_bb, sc_ni, sc_in, sc_is, sc_si, sc_nn, decide_true, decide_false, reduceCtorEq, Bool.false_eq_true, if_true, if_false, ite_true, ite_false, exists_const, eq_self, false_and, and_false, or_false, false_or, exists_false, Evl.rLenS, rSum, wipe, tYes, exists_eq, exists_eq', rIxL, rIxT, rIxS, exists_and_right, gt_iff_lt, not_true_eq_false, not_false_eq_true, Bool.not_true, Bool.not_false, decide_eq_true_eq, Nat.reduceSub, Nat.reduceAdd, List.append_assoc, tChain, tDIn, tDNotIn, sDDel, tAug, ipI, rInt1_int, rInt1_bl]
    refine seq_step ?_
    try simp (maxSteps := 1000000) only [tTest, tOp, tUn, tCB, tCons, tNil, tVar, tC, rI0, rI, rU, rEq, rNe, tRet, tRetN, tAsg, gName, gSub, tBM, tBM0, tNext, tB, tNot, tAnd, tOr, tIf, tCall, tDrop, tBreak, tCont, L2.start, tDGet, sDPut, tTup, tLst, tDNewK, tRevL, rCat, rAppend, rPop, rSetL, tAndV, tOrV, tNotV, tSl, tPart, tNoPart, tM1, gTup, gCons, gNil, cxK, cxnK, List.map_cons, List.map_nil, List.length_cons, List.length_nil, List.replicate, List.cons_append, List.nil_append, List.append_nil, List.set_cons_zero, List.set_cons_succ, List.getElem?_cons_zero, List.getElem?_cons_succ, Option.some.injEq, V.ref.injEq, V.int.injEq, V.str.injEq, V.bl.injEq, V.ty.injEq, exists_eq_left', exists_eq_left, exists_and_left, List.cons.injEq, and_true, true_and, sc_ii, sc_ss, sc_bb, sc_ni, sc_in, sc_is, sc_si, sc_nn, decide_true, decide_false, reduceCtorEq, Bool.false_eq_true, if_true, if_false, ite_true, ite_false, exists_const, eq_self, false_and, and_false, or_false, false_or, exists_false, Evl.rLenS, rSum, wipe, tYes, exists_eq, exists_eq', rIxL, rIxT, rIxS, exists_and_right, gt_iff_lt, not_true_eq_false, not_false_eq_true, Bool.not_true, Bool.not_false, decide_eq_true_eq, Nat.reduceSub, Nat.reduceAdd, List.append_assoc, tChain, tDIn, tDNotIn, sDDel, tAug, ipI, rInt1_int, rInt1_bl]
    refine lc_src ?_
    try simp (maxSteps := 1000000) only [tTest, tOp, tUn, tCB, tCons, tNil, tVar, tC, rI0, rI, rU, rEq, rNe, tRet, tRetN, tAsg, gName, gSub, tBM, tBM0, tNext, tB, tNot, tAnd, tOr, tIf, tCall, tDrop, tBreak, tCont, L2.start, tDGet, sDPut, tTup, tLst, tDNewK, tRevL, rCat, rAppend, rPop, rSetL, tAndV, tOrV, tNotV, tSl, tPart, tNoPart, tM1, gTup, gCons, gNil, cxK, cxnK, List.map_cons, List.map_nil, List.length_cons, List.length_nil, List.replicate, List.cons_append, List.nil_append, List.append_nil, List.set_cons_zero, List.set_cons_succ, List.getElem?_cons_zero, List.getElem?_cons_succ, Option.some.injEq, V.ref.injEq, V.int.injEq, V.str.injEq, V.bl.injEq, V.ty.injEq, exists_eq_left', exists_eq_left, exists_and_left, List.cons.injEq, and_true, true_and, sc_ii, sc_ss, sc_bb, sc_ni, sc_in, sc_is, sc_si, sc_nn, decide_true, decide_false, reduceCtorEq, Bool.false_eq_true, if_true, if_false, ite_true, ite_false, exists_const, eq_self, false_and, and_false, or_false, false_or, exists_false, Evl.rLenS, rSum, wipe, tYes, exists_eq, exists_eq', rIxL, rIxT, rIxS, exists_and_right, gt_iff_lt, not_true_eq_false, not_false_eq_true, Bool.not_true, Bool.not_false, decide_eq_true_eq, Nat.reduceSub, Nat.reduceAdd, List.append_assoc, tChain, tDIn, tDNotIn, sDDel, tAug, ipI, rInt1_int, rInt1_bl]
    refine ⟨a, zs, rfl, L, LkAt.kp ha k5, fun l6 us6 H6 nl6 hl6 hus6 k6 => ?_⟩
    have k06 := k5.trans k6
    refine lcG (R := ET zs) (R2 := ET zs) (fun _ _ _ _ t h => h.tp t) (fun _ _ _ _ t h => h.tp t) (fun e => decide (e ∈ e1) || decide (e ∈ e2)) id (src_list (fun R q' => q') (sq_l hl6)) hus6 (by omega) (fun v e H3 N N0 he hv k3 hN hN0 => ?_) fun D7 us7 H7 nD7 hD7 hrw7 k7 => ?_
    · refine ⟨by simp [wipe], ?_⟩
      have k03 := k06.trans k3
      have be := (EO.ent e he).1
      try simp (maxSteps := 1000000) only [tSeq, tIfS, tTest, tOp, tUn, tCB, tCons, tNil, tVar, tC, rI0, rI, rU, rEq, rNe, tRet, tRetN, tAsg, gName, gSub, tBM, tBM0, tNext, tB, tNot, tAnd, tOr, tIf, tCall, tDrop, tBreak, tCont, L2.start, tDGet, sDPut, tTup, tLst, tDNewK, tRevL, rCat, rAppend, rPop, rSetL, tAndV, tOrV, tNotV, tSl, tPart, tNoPart, tM1, gTup, gCons, gNil, cxK, cxnK, List.map_cons, List.map_nil, List.length_cons, List.length_nil, List.replicate, List.cons_append, List.nil_append, List.append_nil, List.set_cons_zero, List.set_cons_succ, List.getElem?_cons_zero, List.getElem?_cons_succ, Option.some.injEq, V.ref.injEq, V.int.injEq, V.str.injEq, V.bl.injEq, V.ty.injEq, exists_eq_left', exists_eq_left, exists_and_left, List.cons.injEq, and_true, true_and, sc_ii, sc_ss, sc_bb, sc_ni, sc_in, sc_is, sc_si, sc_nn, decide_true, decide_false, reduceCtorEq, Bool.false_eq_true, if_true, if_false, ite_true, ite_false, exists_const, eq_self, false_and, and_false, or_false, false_or, exists_false, Evl.rLenS, rSum, wipe, tYes, exists_eq, exists_eq', rIxL, rIxT, rIxS, exists_and_right, gt_iff_lt, not_true_eq_false, not_false_eq_true, Bool.not_true, Bool.not_false, decide_eq_true_eq, Nat.reduceSub, Nat.reduceAdd, List.append_assoc, tChain, tDIn, tDNotIn, sDDel, tAug, ipI, rInt1_int, rInt1_bl]
      refine in_ens L be hb1 hv (sq_l (k03 _ _ not0 hd1)) (hu1.mono fun _ _ z => z.tp k03.tps) ⟨_, rfl, ?_⟩
      by_cases m : e ∈ e1
      · rw [decide_eq_true m, if_pos rfl]
        exact hN (by rw [decide_eq_true m]; rfl) _ _ hv (Kp.refl _ _)
      · rw [decide_eq_false m, if_neg (by decide)]
        refine in_ens L be hb2 hv (sq_l (k03 _ _ not0 hd2)) (hu2.mono fun _ _ z => z.tp k03.tps) ⟨_, rfl, ?_⟩
        by_cases m2 : e ∈ e2
        · rw [decide_eq_true m2, if_pos rfl]
          exact hN (by rw [decide_eq_true m2, Bool.or_true]) _ _ hv (Kp.refl _ _)
        · rw [decide_eq_false m2, if_neg (by decide)]
          exact hN0 (by rw [decide_eq_false m, decide_eq_false m2]; rfl) _ (Kp.refl _ _)
    rw [List.map_id] at hrw7
    have E7 : EnAt H7 D7 zs ((ens zs.length).filter fun e => decide (e ∈ e1) || decide (e ∈ e2)) := ⟨us7, hD7, hrw7, List.filter_sublist⟩
    have k07 := k06.trans k7
    have k57 := k6.trans k7
    refine seq_step ?_
    try simp (maxSteps := 1000000) only [tTest, tOp, tUn, tCB, tCons, tNil, tVar, tC, rI0, rI, rU, rEq, rNe, tRet, tRetN, tAsg, gName, gSub, tBM, tBM0, tNext, tB, tNot, tAnd, tOr, tIf, tCall, tDrop, tBreak, tCont, L2.start, tDGet, sDPut, tTup, tLst, tDNewK, tRevL, rCat, rAppend, rPop, rSetL, tAndV, tOrV, tNotV, tSl, tPart, tNoPart, tM1, gTup, gCons, gNil, cxK, cxnK, List.map_cons, List.map_nil, List.length_cons, List.length_nil, List.replicate, List.cons_append, List.nil_append, List.append_nil, List.set_cons_zero, List.set_cons_succ, List.getElem?_cons_zero, List.getElem?_cons_succ, Option.some.injEq, V.ref.injEq, V.int.injEq, V.str.injEq, V.bl.injEq, V.ty.injEq, exists_eq_left', exists_eq_left, exists_and_left, List.cons.injEq, and_true, true_and, sc_ii, sc_ss, sc_bb, sc_ni, sc_in, sc_is, sc_si, sc_nn, decide_true, decide_false, reduceCtorEq, Bool.false_eq_true, if_true, if_false, ite_true, ite_false, exists_const, eq_self, false_and, and_false, or_false, false_or, exists_false, Evl.rLenS, rSum, wipe, tYes, exists_eq, exists_eq', rIxL, rIxT, rIxS, exists_and_right, gt_iff_lt, not_true_eq_false, not_false_eq_true, Bool.not_true, Bool.not_false, decide_eq_true_eq, Nat.reduceSub, Nat.reduceAdd, List.append_assoc, tChain, tDIn, tDNotIn, sDDel, tAug, ipI, rInt1_int, rInt1_bl]
    refine lcG (R := ET zs) (R2 := ET zs) (fun _ _ _ _ t h => h.tp t) (fun _ _ _ _ t h => h.tp t) (fun e => !decide (e ∈ e2)) id (src_list (fun R q' => ⟨_, rfl, q'⟩) (sq_l (k07 _ _ not0 hd1))) (hu1.mono fun _ _ z => z.tp k07.tps) (by omega) (fun v e H3 N N0 he hv k3 hN hN0 => ?_) fun D8 us8 H8 nD8 hD8 hrw8 k8 => ?_
    · refine ⟨by simp [wipe], ?_⟩
      have k03 := k07.trans k3
      try simp (maxSteps := 1000000) only [tSeq, tIfS, tTest, tOp, tUn, tCB, tCons, tNil, tVar, tC, rI0, rI, rU, rEq, rNe, tRet, tRetN, tAsg, gName, gSub, tBM, tBM0, tNext, tB, tNot, tAnd, tOr, tIf, tCall, tDrop, tBreak, tCont, L2.start, tDGet, sDPut, tTup, tLst, tDNewK, tRevL, rCat, rAppend, rPop, rSetL, tAndV, tOrV, tNotV, tSl, tPart, tNoPart, tM1, gTup, gCons, gNil, cxK, cxnK, List.map_cons, List.map_nil, List.length_cons, List.length_nil, List.replicate, List.cons_append, List.nil_append, List.append_nil, List.set_cons_zero, List.set_cons_succ, List.getElem?_cons_zero, List.getElem?_cons_succ, Option.some.injEq, V.ref.injEq, V.int.injEq, V.str.injEq, V.bl.injEq, V.ty.injEq, exists_eq_left', exists_eq_left, exists_and_left, List.cons.injEq, and_true, true_and, sc_ii, sc_ss, sc_bb, sc_ni, sc_in, sc_is, sc_si, sc_nn, decide_true, decide_false, reduceCtorEq, Bool.false_eq_true, if_true, if_false, ite_true, ite_false, exists_const, eq_self, false_and, and_false, or_false, false_or, exists_false, Evl.rLenS, rSum, wipe, tYes, exists_eq, exists_eq', rIxL, rIxT, rIxS, exists_and_right, gt_iff_lt, not_true_eq_false, not_false_eq_true, Bool.not_true, Bool.not_false, decide_eq_true_eq, Nat.reduceSub, Nat.reduceAdd, List.append_assoc, tChain, tDIn, tDNotIn, sDDel, tAug, ipI, rInt1_int, rInt1_bl]
      refine nin_ens L (hb1 e he) hb2 hv (sq_l (k03 _ _ not0 hd2)) (hu2.mono fun _ _ z => z.tp k03.tps) ⟨_, rfl, ?_⟩
      by_cases m : e ∈ e2
      · rw [decide_eq_true m, if_neg (by decide)]
        exact hN0 (by simp [m]) _ (Kp.refl _ _)
      · rw [decide_eq_false m, if_pos (by decide)]
        exact hN (by simp [m]) _ _ hv (Kp.refl _ _)
    rw [List.map_id] at hrw8
    have E8 : EnAt H8 D8 zs (e1.filter fun e => !decide (e ∈ e2)) := ⟨us8, hD8, hrw8, List.filter_sublist.trans s1⟩
    have k08 := k07.trans k8
    have E5 := E5.kp (k57.trans k8)
    have E7 := E7.kp k8
    clear hrw5 hrw7 hrw8 hus6 hD5 hD7 hD8 hl6
    have go : ∀ (o D : Addr) (es fs : List En) (H9 : Hp) (Q' : VK), RuAt RC H9 o zs es → EnAt H9 D zs fs → es = fs → Kp [] H H9 → (∀ H', Kp [] H9 H' → Q' (.bl true) H') → spIsR K RC [.ref o, .ref a, .ref D] H9 Q' E0 := fun o D es fs H9 Q' r en ee k q' => ⟨o, a, D, zs, es, rfl, r, LkAt.kp ha k, by rw [ee]; exact en, q'⟩
    have bin : ∀ (sp : Sp) (o p : Addr) (es fs : List En) (H9 : Hp) (Q' : VK), RuAt RC H9 o zs es → RuAt RC H9 p zs fs → sp [.ref o, .ref p] H9 Q' E0 → rBinO RC sp E0 (.ref o) (.ref p) H9 Q' := fun sp o p es fs H9 Q' hR hR2 hsp => by
      obtain ⟨dx, _, _, _, ho, _⟩ := id hR
      obtain ⟨dy, _, _, _, hp, _⟩ := id hR2
      exact ⟨o, dx, _, p, dy, _, rfl, rfl, ho, hp, hsp⟩
    refine seq_step ?_
    try simp (maxSteps := 1000000) only [tIfS, tTest, tOp, tUn, tCB, tCons, tNil, tVar, tC, rI0, rI, rU, rEq, rNe, tRet, tRetN, tAsg, gName, gSub, tBM, tBM0, tNext, tB, tNot, tAnd, tOr, tIf, tCall, tDrop, tBreak, tCont, L2.start, tDGet, sDPut, tTup, tLst, tDNewK, tRevL, rCat, rAppend, rPop, rSetL, tAndV, tOrV, tNotV, tSl, tPart, tNoPart, tM1, gTup, gCons, gNil, cxK, cxnK, List.map_cons, List.map_nil, List.length_cons, List.length_nil, List.replicate, List.cons_append, List.nil_append, List.append_nil, List.set_cons_zero, List.set_cons_succ, List.getElem?_cons_zero, List.getElem?_cons_succ, Option.some.injEq, V.ref.injEq, V.int.injEq, V.str.injEq, V.bl.injEq, V.ty.injEq, exists_eq_left', exists_eq_left, exists_and_left, List.cons.injEq, and_true, true_and, sc_ii, sc_ss, sc_bb, sc_ni, sc_in, sc_is, sc_si, sc_nn, decide_true, decide_false, reduceCtorEq, Bool.false_eq_true, if_true, if_false, ite_true, ite_false, exists_const, eq_self, false_and, and_false, or_false, false_or, exists_false, Evl.rLenS, rSum, wipe, tYes, exists_eq, exists_eq', rIxL, rIxT, rIxS, exists_and_right, gt_iff_lt, not_true_eq_false, not_false_eq_true, Bool.not_true, Bool.not_false, decide_eq_true_eq, Nat.reduceSub, Nat.reduceAdd, List.append_assoc, tChain, tDIn, tDNotIn, sDDel, tAug, ipI, rInt1_int, rInt1_bl]
    refine bin _ _ _ _ _ _ _ (h1.kp k08) (h2.kp k08) ⟨o1, o2, zs, zs, e1, e2, rfl, h1.kp k08, h2.kp k08, fun z => absurd rfl z, fun _ r1 H9 nr1 hr1 k9 => ?_⟩
    have k09 := k08.trans k9
    refine go _ _ _ _ _ _ hr1 (E5.kp k9) rfl k09 fun H10 k10 => ⟨true, rfl, ?_⟩
    rw [if_neg (by decide)]
    have k010 := k09.trans k10
    refine bin _ _ _ _ _ _ _ (h1.kp k010) (h2.kp k010) ⟨o1, o2, zs, zs, e1, e2, rfl, h1.kp k010, h2.kp k010, fun z => absurd rfl z, fun _ r2 H11 nr2 hr2 k11 => ?_⟩
    have k011 := k010.trans k11
    have k811 := (k9.trans k10).trans k11
    refine go _ _ _ _ _ _ hr2 (E7.kp k811) (List.filter_congr fun e _ => by rw [Bool.eq_iff_iff, decide_eq_true_eq, List.mem_append, Bool.or_eq_true, decide_eq_true_eq, decide_eq_true_eq]) k011 fun H12 k12 => ⟨true, rfl, ?_⟩
    rw [if_neg (by decide)]
    have k012 := k011.trans k12
    have k812 := k811.trans k12
    refine seq_step ?_
    try simp (maxSteps := 1000000) only [tIfS, tTest, tOp, tUn, tCB, tCons, tNil, tVar, tC, rI0, rI, rU, rEq, rNe, tRet, tRetN, tAsg, gName, gSub, tBM, tBM0, tNext, tB, tNot, tAnd, tOr, tIf, tCall, tDrop, tBreak, tCont, L2.start, tDGet, sDPut, tTup, tLst, tDNewK, tRevL, rCat, rAppend, rPop, rSetL, tAndV, tOrV, tNotV, tSl, tPart, tNoPart, tM1, gTup, gCons, gNil, cxK, cxnK, List.map_cons, List.map_nil, List.length_cons, List.length_nil, List.replicate, List.cons_append, List.nil_append, List.append_nil, List.set_cons_zero, List.set_cons_succ, List.getElem?_cons_zero, List.getElem?_cons_succ, Option.some.injEq, V.ref.injEq, V.int.injEq, V.str.injEq, V.bl.injEq, V.ty.injEq, exists_eq_left', exists_eq_left, exists_and_left, List.cons.injEq, and_true, true_and, sc_ii, sc_ss, sc_bb, sc_ni, sc_in, sc_is, sc_si, sc_nn, decide_true, decide_false, reduceCtorEq, Bool.false_eq_true, if_true, if_false, ite_true, ite_false, exists_const, eq_self, false_and, and_false, or_false, false_or, exists_false, Evl.rLenS, rSum, wipe, tYes, exists_eq, exists_eq', rIxL, rIxT, rIxS, exists_and_right, gt_iff_lt, not_true_eq_false, not_false_eq_true, Bool.not_true, Bool.not_false, decide_eq_true_eq, Nat.reduceSub, Nat.reduceAdd, List.append_assoc, tChain, tDIn, tDNotIn, sDDel, tAug, ipI, rInt1_int, rInt1_bl]
    refine bin _ _ _ _ _ _ _ (h1.kp k012) (h2.kp k012) ⟨o1, o2, zs, zs, e1, e2, rfl, h1.kp k012, h2.kp k012, fun z => absurd rfl z, fun _ r3 H13 nr3 hr3 k13 => ?_⟩
    have k013 := k012.trans k13
    have k813 := k812.trans k13
    refine go _ _ _ _ _ _ hr3 (E8.kp k813) rfl k013 fun H14 k14 => ⟨true, rfl, ?_⟩
    rw [if_neg (by decide)]
    have k014 := k013.trans k14
    refine bin _ _ _ _ _ _ _ (h1.kp k014) (h1.kp k014) ⟨o1, o1, zs, zs, e1, e1, rfl, h1.kp k014, h1.kp k014, fun z => absurd rfl z, fun _ r4 H15 nr4 hr4 k15 => ?_⟩
    have k015 := k014.trans k15
    refine ⟨Nat.zero_le _, fun pe npe => ?_⟩
    have ke := (Kp.new npe : Kp [] H15 (upd H15 pe (.lst [])))
    have k016 := k015.trans ke
    refine go _ _ _ _ _ _ (hr4.kp ke) (⟨[], upd_same, .nil, List.nil_sublist _⟩ : EnAt _ pe zs []) (List.filter_eq_nil_iff.mpr fun e he => by simp [he]) k016 fun H17 k17 => ⟨true, rfl, ?_⟩
    rw [if_neg (by decide)]
    have k017 := k016.trans k17
    refine seq_step ?_
    try simp (maxSteps := 1000000) only [tIfS, tTest, tOp, tUn, tCB, tCons, tNil, tVar, tC, rI0, rI, rU, rEq, rNe, tRet, tRetN, tAsg, gName, gSub, tBM, tBM0, tNext, tB, tNot, tAnd, tOr, tIf, tCall, tDrop, tBreak, tCont, L2.start, tDGet, sDPut, tTup, tLst, tDNewK, tRevL, rCat, rAppend, rPop, rSetL, tAndV, tOrV, tNotV, tSl, tPart, tNoPart, tM1, gTup, gCons, gNil, cxK, cxnK, List.map_cons, List.map_nil, List.length_cons, List.length_nil, List.replicate, List.cons_append, List.nil_append, List.append_nil, List.set_cons_zero, List.set_cons_succ, List.getElem?_cons_zero, List.getElem?_cons_succ, Option.some.injEq, V.ref.injEq, V.int.injEq, V.str.injEq, V.bl.injEq, V.ty.injEq, exists_eq_left', exists_eq_left, exists_and_left, List.cons.injEq, and_true, true_and, sc_ii, sc_ss, sc_bb, sc_ni, sc_in, sc_is, sc_si, sc_nn, decide_true, decide_false, reduceCtorEq, Bool.false_eq_true, if_true, if_false, ite_true, ite_false, exists_const, eq_self, false_and, and_false, or_false, false_or, exists_false, Evl.rLenS, rSum, wipe, tYes, exists_eq, exists_eq', rIxL, rIxT, rIxS, exists_and_right, gt_iff_lt, not_true_eq_false, not_false_eq_true, Bool.not_true, Bool.not_false, decide_eq_true_eq, Nat.reduceSub, Nat.reduceAdd, List.append_assoc, tChain, tDIn, tDNotIn, sDDel, tAug, ipI, rInt1_int, rInt1_bl]
    refine bin _ _ _ _ _ _ _ (h1.kp k017) (h1.kp k017) ⟨o1, o1, zs, zs, e1, e1, rfl, h1.kp k017, h1.kp k017, fun z => absurd rfl z, fun _ r5 H18 nr5 hr5 k18 => ?_⟩
    have k018 := k017.trans k18
    refine go _ _ _ _ _ _ hr5 (hE1.kp k018) (List.filter_eq_self.mpr fun e he => decide_eq_true he) k018 fun H19 k19 => ⟨true, rfl, ?_⟩
    rw [if_neg (by decide)]
    have k019 := k018.trans k19
    refine bin _ _ _ _ _ _ _ (h2.kp k019) (h2.kp k019) ⟨o2, o2, zs, zs, e2, e2, rfl, h2.kp k019, h2.kp k019, fun z => absurd rfl z, fun _ r6 H20 nr6 hr6 k20 => ?_⟩
    have k020 := k019.trans k20
    refine go _ _ _ _ _ _ hr6 (hE2.kp k020) (by
      have e : (ens zs.length).filter (fun e => decide (e ∈ e2 ++ e2)) = (ens zs.length).filter fun e => decide (e ∈ e2) := List.filter_congr fun e _ => by rw [Bool.eq_iff_iff, decide_eq_true_eq, decide_eq_true_eq, List.mem_append, or_self]
      rw [e, sub_filter s2 EO.nd]) k020 fun H21 k21 => ⟨true, rfl, ?_⟩
    rw [if_neg (by decide)]
    have k021 := k020.trans k21
    try simp (maxSteps := 1000000) only [tSeq, tIfS, tTest, tOp, tUn, tCB, tCons, tNil, tVar, tC, rI0, rI, rU, rEq, rNe, tRet, tRetN, tAsg, gName, gSub, tBM, tBM0, tNext, tB, tNot, tAnd, tOr, tIf, tCall, tDrop, tBreak, tCont, L2.start, tDGet, sDPut, tTup, tLst, tDNewK, tRevL, rCat, rAppend, rPop, rSetL, tAndV, tOrV, tNotV, tSl, tPart, tNoPart, tM1, gTup, gCons, gNil, cxK, cxnK, List.map_cons, List.map_nil, List.length_cons, List.length_nil, List.replicate, List.cons_append, List.nil_append, List.append_nil, List.set_cons_zero, List.set_cons_succ, List.getElem?_cons_zero, List.getElem?_cons_succ, Option.some.injEq, V.ref.injEq, V.int.injEq, V.str.injEq, V.bl.injEq, V.ty.injEq, exists_eq_left', exists_eq_left, exists_and_left, List.cons.injEq, and_true, true_and, sc_ii, sc_ss, sc_bb, sc_ni, sc_in, sc_is, sc_si, sc_nn, decide_true, decide_false, reduceCtorEq, Bool.false_eq_true, if_true, if_false, ite_true, ite_false, exists_const, eq_self, false_and, and_false, or_false, false_or, exists_false, Evl.rLenS, rSum, wipe, tYes, exists_eq, exists_eq', rIxL, rIxT, rIxS, exists_and_right, gt_iff_lt, not_true_eq_false, not_false_eq_true, Bool.not_true, Bool.not_false, decide_eq_true_eq, Nat.reduceSub, Nat.reduceAdd, List.append_assoc, tChain, tDIn, tDNotIn, sDDel, tAug, ipI, rInt1_int, rInt1_bl]
    refine go _ _ _ _ _ _ (h1.kp k021) (hE1.kp k021) rfl k021 fun H22 k22 => ?_
    have k022 := k021.trans k22
    refine ⟨true, rfl, ?_⟩
    rw [if_pos rfl]
    exact go _ _ _ _ _ _ (h2.kp k022) (hE2.kp k022) rfl k022 fun H23 k23 => q _ (k022.trans k23)
end
end My

set_option Elab.async false
set_option linter.all false
set_option maxRecDepth 100000
set_option maxHeartbeats 4000000
namespace My
open PySem L2 NdefX StX
abbrev s_law_refused : Stmt := top 28
theorem sc_law_refused : FnScope ["_law_a", "_law_b", "_law_sign", "_law_got", "e"] ["_law_a", "_law_b", "_law_sign"] (defScope s_law_refused) := ⟨rfl, rfl, rfl, by decide +kernel, rfl, by decide +kernel, by decide +kernel⟩
abbrev s_law_stranger : Stmt := top 29
theorem sc_law_stranger : FnScope ["_law_locks", "_law_name"] ["_law_locks"] (defScope s_law_stranger) := ⟨rfl, rfl, rfl, by decide +kernel, rfl, by decide +kernel, by decide +kernel⟩
abbrev s_law_others : Stmt := top 30
theorem sc_law_others : FnScope ["_law_locks", "_law_stranger_here", "_law_others_here"] ["_law_locks"] (defScope s_law_others) := ⟨rfl, rfl, rfl, by decide +kernel, rfl, by decide +kernel, by decide +kernel⟩
def oddP : List Str := [Str.ofString "p", Str.ofString "pp", Str.ofString "ppp", Str.ofString "pppp"]
theorem oddP_nd : oddP.Nodup := by decide +kernel
theorem oddP_nm : ∀ z ∈ oddP, nameS z = true := by decide +kernel
theorem rwStrs (xs : List Str) : Rw (fun v x => v = V.str x) (xs.map V.str) xs := ⟨by simp, fun {i u} e => by
  rw [List.getElem?_map] at e
  cases h : xs[i]? with
  | none => rw [h] at e; cases e
  | some y => rw [h] at e; exact ⟨y, rfl, (Option.some.inj e).symm⟩⟩
theorem lc_src1 {K : PySem.W.Frag} {tv : TE} {g : TG} {tt : TT} {te : TE} {vs : List Nat} {σ : L2.St} {H : Hp} {Q : VK} (h : tv σ H fun v H1 => tLc (iList K (tC v)) g tt te vs σ H1 Q) : tLc (iList K tv) g tt te vs σ H Q := h
theorem LkOk.rev {zs : List Str} (L : LkOk zs) : LkOk zs.reverse := ⟨by rw [List.length_reverse]; exact L.pos, by rw [List.length_reverse]; exact L.le, (List.reverse_perm _).nodup_iff.mpr L.nd, fun z hz => L.nm z (List.mem_reverse.mp hz)⟩
theorem LkOk.tk {zs : List Str} (L : LkOk zs) {m : Nat} (h : 1 ≤ m) : LkOk (zs.take m) := ⟨by rw [List.length_take]; have := L.pos; omega, by rw [List.length_take]; have := L.le; omega, L.nd.sublist (List.take_sublist _ _), fun z hz => L.nm z (List.mem_of_mem_take hz)⟩
theorem lk_snoc {ys : List Str} {z : Str} (l : ys.length ≤ 2) (nd : ys.Nodup) (nm : ∀ y ∈ ys, nameS y = true) (hz : z ∉ ys) (gz : nameS z = true) : LkOk (ys ++ [z]) := ⟨by rw [List.length_append]; simp, by rw [List.length_append]; simp; omega, List.nodup_append.mpr ⟨nd, by simp, fun a ha b hb e => hz (by rw [← List.mem_singleton.mp hb, ← e]; exact ha)⟩, fun y hy => by
  rcases List.mem_append.mp hy with hy | hy
  · exact nm y hy
  · rw [List.mem_singleton.mp hy]; exact gz⟩
theorem rev_ne {zs : List Str} (nd : zs.Nodup) (h : 1 < zs.length) : zs.reverse ≠ zs := fun e => by
  cases zs with
  | nil => simp at h
  | cons x r =>
    rw [List.reverse_cons] at e
    cases er : r.reverse with
    | nil =>
      have := congrArg List.length er
      rw [List.length_reverse] at this
      simp only [List.length_cons, List.length_nil] at this h
      omega
    | cons y t =>
      rw [er, List.cons_append] at e
      have ey : y = x := (List.cons.inj e).1
      have : y ∈ r := List.mem_reverse.mp (by rw [er]; exact List.mem_cons_self)
      rw [List.nodup_cons] at nd
      exact nd.1 (ey ▸ this)
theorem slA_m1 {K : PySem.W.Frag} {H : Hp} {a : Addr} {zs : List Str} {Q : VK} (h : H a = some (.tup (zs.map V.str))) (n : 1 ≤ zs.length) (q : ∀ r H', H' r = some (.tup ((zs.take (zs.length - 1)).map V.str)) → Kp [] H H' → Q (.ref r) H') : rSlA K (.ref a) none (some (-1)) H Q := by
  have e : HT.sIx (zs.map V.str).length (zs.map V.str).length (some (-1)) = zs.length - 1 := by
    rw [List.length_map]
    show (if (-1 : Int) < 0 then ((-1 : Int) + (zs.length : Int)).toNat else min (-1 : Int).toNat zs.length) = _
    rw [if_pos (by decide)]
    omega
  refine ⟨a, _, rfl, sq_t h, fun z => ?_, fun _ p np => q p _ ?_ (Kp.new np)⟩
  · have z2 := z.2
    rw [e, List.length_map] at z2
    omega
  · rw [upd_same]
    unfold cutV
    rw [e, HT.sIx_none, List.drop_zero, Nat.sub_zero, List.map_take]
structure BtR (K : PySem.W.Frag) (mg : Str → Option Value) (CE OL BE BN : Addr) : Prop where
  b_isinstance : mg "isinstance" = none
  b_ValueError : mg "ValueError" = none
  k_CoreError : mg "CoreError" = some (.ref CE)
  k_OtherLocks : mg "OtherLocks" = some (.ref OL)
  k_BadEntry : mg "BadEntry" = some (.ref BE)
  k_BadName : mg "BadName" = some (.ref BN)
  EXO : PySem.W.exmOne K (.ref OL) (.ref CE) = some true
  kcO : ExcC K OL
  o1 : PySem.W.kitOne K (.ref OL) (.ref OL) = some true
  o2 : PySem.W.kitOne K (.ref OL) (.type "ValueError") = some true
  o3 : PySem.W.kitAny K (.ref OL) [.ref BE, .ref BN] = some false
section
variable {P : Program} {w : World} {K : PySem.W.Frag} {mg : Str → Option Value} {base : Heap} {tL t3 : Tok} {RC OL CE BE BN : Addr}
def spRfd (RC : Addr) : Sp := fun vs H Q _ => ∃ (o1 o2 : Addr) (g : Int) (z1 z2 : List Str) (e1 e2 : List En), vs = [.ref o1, .ref o2, .int g] ∧ RuAt RC H o1 z1 e1 ∧ RuAt RC H o2 z2 e2 ∧ z1 ≠ z2 ∧ ∀ H', Kp [] H H' → Q (.bl true) H'
theorem ok_law_refused {f : Addr} {fd : FuncData} (D : Df K mg "_law_refused" s_law_refused ["_law_a", "_law_b", "_law_sign"] f fd) (T : BtR K mg CE OL BE BN)
    {fA fO fS : Addr} {fdA fdO fdS : FuncData} (BC_Rule_and : BinC K RC fA .BitAnd) (b_Rule_and : Binds K fdA ["self", "other"] []) (G_Rule_and : FnOk P w K mg base (L2.CX P w) 6 fA fdA ["self", "other"] (spAnd RC OL)) (BC_Rule_or : BinC K RC fO .BitOr) (b_Rule_or : Binds K fdO ["self", "other"] []) (G_Rule_or : FnOk P w K mg base (L2.CX P w) 6 fO fdO ["self", "other"] (spOr RC OL))
    (BC_Rule_sub : BinC K RC fS .Sub) (b_Rule_sub : Binds K fdS ["self", "other"] []) (G_Rule_sub : FnOk P w K mg base (L2.CX P w) 6 fS fdS ["self", "other"] (spSub RC OL)) : FnOk P w K mg base CX0 7 f fd ["_law_a", "_law_b", "_law_sign"] (spRfd RC) := by
  refine D.F.ok sc_law_refused (fun vs H Q E h => ?_) (fun cdv A outer s H vs Q E hr h => ?_)
  · obtain ⟨_, _, _, _, _, _, _, rfl, _⟩ := h
    rfl
  · obtain ⟨o1, o2, g, z1, z2, e1, e2, rfl, h1, h2, hne, q⟩ := h
    refine ⟨_, (pss_cons (ps_try_as (i := 4) rfl rfl sc_law_refused.nd rfl rfl ⟨rfl, by decide, .inl T.k_CoreError⟩ takes0 (fun W pn xe tk _ => (pss_one (ps_if (pt_cmpR op_eq (pv 2) pe_int (nomark _)) (pss_one (ps_set (i := 3) sc_law_refused.nd rfl (Or.inl rfl) (pe_opS BC_Rule_and G_Rule_and b_Rule_and (hr.mono (by decide)) (fun σ => passAt tk σ) (pv 0) (pv 1)))) (pss_one (ps_if (pt_cmpR op_eq (pv 2) pe_int (nomark _)) (pss_one (ps_set (i := 3) sc_law_refused.nd rfl (Or.inl rfl) (pe_opS BC_Rule_or G_Rule_or b_Rule_or (hr.mono (by decide)) (fun σ => passAt tk σ) (pv 0) (pv 1)))) (pss_one (ps_set (i := 3) sc_law_refused.nd rfl (Or.inl rfl) (pe_opS BC_Rule_sub G_Rule_sub b_Rule_sub (hr.mono (by decide)) (fun σ => passAt tk σ) (pv 0) (pv 1))))))))) (fun a oe cls d pn hz hf => (pss_one (ps_ret (pe_and (pe_callB (id := "isinstance") (r := rIsX0 K a cls d) (call_isX0 hz hf) (by rfl) T.b_isinstance (by decide +kernel) (pa_cons (pv 4) (pa_cons (pe_glob (v := .ref OL) rfl T.k_OtherLocks rfl) pa_nil))) (pe_and (pe_callB (id := "isinstance") (r := rIsX0 K a cls d) (call_isX0 hz hf) (by rfl) T.b_isinstance (by decide +kernel) (pa_cons (pv 4) (pa_cons (pe_bltn (v := .ty "ValueError") (by rfl) T.b_ValueError (by decide +kernel) rfl) pa_nil))) (pe_one (pe_not (pe_callB (id := "isinstance") (r := rIsX0T K a cls d) (call_isX0T hz hf) (by rfl) T.b_isinstance (by decide +kernel) (pa_cons (pv 4) (pa_cons (pe_tup (pa_cons (pe_glob (v := .ref BE) rfl T.k_BadEntry rfl) (pa_cons (pe_glob (v := .ref BN) rfl T.k_BadName rfl) pa_nil))) pa_nil)))))))))))
      (pss_one (ps_ret pe_bl))), ?_⟩
    try simp (maxSteps := 1000000) only [tSeq, tIfS, tTest, tOp, tUn, tCB, tCons, tNil, tVar, tC, rI0, rI, rU, rEq, rNe, tRet, tRetN, tAsg, gName, gSub, tBM, tBM0, tNext, tB, tNot, tAnd, tOr, tIf, tCall, tDrop, tBreak, tCont, L2.start, tDGet, sDPut, tTup, tLst, tDNewK, tRevL, rCat, rAppend, rPop, rSetL, tAndV, tOrV, tNotV, tSl, tPart, tNoPart, tM1, gTup, gCons, gNil, cxK, cxnK, List.map_cons, List.map_nil, List.length_cons, List.length_nil, List.replicate, List.cons_append, List.nil_append, List.append_nil, List.set_cons_zero, List.set_cons_succ, List.getElem?_cons_zero, List.getElem?_cons_succ, Option.some.injEq, V.ref.injEq, V.int.injEq, V.str.injEq, V.bl.injEq, V.ty.injEq, exists_eq_left', exists_eq_left, exists_and_left, List.cons.injEq, and_true, true_and, sc_ii, sc_ss, sc_bb, sc_ni, sc_in, sc_is, sc_si, sc_nn, decide_true, decide_false, reduceCtorEq, Bool.false_eq_true, if_true, if_false, ite_true, ite_false, exists_const, eq_self, false_and, and_false, or_false, false_or, exists_false, Evl.rLenS, rSum, wipe, tYes, exists_eq, exists_eq', rIxL, rIxT, rIxS, exists_and_right, gt_iff_lt, not_true_eq_false, not_false_eq_true, Bool.not_true, Bool.not_false, decide_eq_true_eq, Nat.reduceSub, Nat.reduceAdd, List.append_assoc, tChain, tDIn, tDNotIn, sDDel, tAug, ipI, rInt1_int, rInt1_bl, tCallS]
    split
    · try simp (maxSteps := 1000000) only [tSeq, tIfS, tTest, tOp, tUn, tCB, tCons, tNil, tVar, tC, rI0, rI, rU, rEq, rNe, tRet, tRetN, tAsg, gName, gSub, tBM, tBM0, tNext, tB, tNot, tAnd, tOr, tIf, tCall, tDrop, tBreak, tCont, L2.start, tDGet, sDPut, tTup, tLst, tDNewK, tRevL, rCat, rAppend, rPop, rSetL, tAndV, tOrV, tNotV, tSl, tPart, tNoPart, tM1, gTup, gCons, gNil, cxK, cxnK, List.map_cons, List.map_nil, List.length_cons, List.length_nil, List.replicate, List.cons_append, List.nil_append, List.append_nil, List.set_cons_zero, List.set_cons_succ, List.getElem?_cons_zero, List.getElem?_cons_succ, Option.some.injEq, V.ref.injEq, V.int.injEq, V.str.injEq, V.bl.injEq, V.ty.injEq, exists_eq_left', exists_eq_left, exists_and_left, List.cons.injEq, and_true, true_and, sc_ii, sc_ss, sc_bb, sc_ni, sc_in, sc_is, sc_si, sc_nn, decide_true, decide_false, reduceCtorEq, Bool.false_eq_true, if_true, if_false, ite_true, ite_false, exists_const, eq_self, false_and, and_false, or_false, false_or, exists_false, Evl.rLenS, rSum, wipe, tYes, exists_eq, exists_eq', rIxL, rIxT, rIxS, exists_and_right, gt_iff_lt, not_true_eq_false, not_false_eq_true, Bool.not_true, Bool.not_false, decide_eq_true_eq, Nat.reduceSub, Nat.reduceAdd, List.append_assoc, tChain, tDIn, tDNotIn, sDDel, tAug, ipI, rInt1_int, rInt1_bl, tOpS]
      obtain ⟨dx1, _, _, _, ho1, _⟩ := id h1
      obtain ⟨dx2, _, _, _, ho2, _⟩ := id h2
      refine ⟨o1, dx1, _, o2, dx2, _, rfl, rfl, ho1, ho2, o1, o2, z1, z2, e1, e2, rfl, h1, h2, fun _ H' k => ?_, fun e => absurd e hne⟩
      refine ⟨true, T.EXO, fun _ y ny => ?_, fun z => by cases z⟩
      try simp (maxSteps := 1000000) only [tSeq, tIfS, tTest, tOp, tUn, tCB, tCons, tNil, tVar, tC, rI0, rI, rU, rEq, rNe, tRet, tRetN, tAsg, gName, gSub, tBM, tBM0, tNext, tB, tNot, tAnd, tOr, tIf, tCall, tDrop, tBreak, tCont, L2.start, tDGet, sDPut, tTup, tLst, tDNewK, tRevL, rCat, rAppend, rPop, rSetL, tAndV, tOrV, tNotV, tSl, tPart, tNoPart, tM1, gTup, gCons, gNil, cxK, cxnK, List.map_cons, List.map_nil, List.length_cons, List.length_nil, List.replicate, List.cons_append, List.nil_append, List.append_nil, List.set_cons_zero, List.set_cons_succ, List.getElem?_cons_zero, List.getElem?_cons_succ, Option.some.injEq, V.ref.injEq, V.int.injEq, V.str.injEq, V.bl.injEq, V.ty.injEq, exists_eq_left', exists_eq_left, exists_and_left, List.cons.injEq, and_true, true_and, sc_ii, sc_ss, sc_bb, sc_ni, sc_in, sc_is, sc_si, sc_nn, decide_true, decide_false, reduceCtorEq, Bool.false_eq_true, if_true, if_false, ite_true, ite_false, exists_const, eq_self, false_and, and_false, or_false, false_or, exists_false, Evl.rLenS, rSum, wipe, tYes, exists_eq, exists_eq', rIxL, rIxT, rIxS, exists_and_right, gt_iff_lt, not_true_eq_false, not_false_eq_true, Bool.not_true, Bool.not_false, decide_eq_true_eq, Nat.reduceSub, Nat.reduceAdd, List.append_assoc, tChain, tDIn, tDNotIn, sDDel, tAug, ipI, rInt1_int, rInt1_bl]
      refine ⟨.ref OL, .ref OL, true, OL, rfl, fun u h => h, rfl, rfl, T.kcO, T.o1, true, rfl, ?_⟩
      try simp (maxSteps := 1000000) only [tSeq, tIfS, tTest, tOp, tUn, tCB, tCons, tNil, tVar, tC, rI0, rI, rU, rEq, rNe, tRet, tRetN, tAsg, gName, gSub, tBM, tBM0, tNext, tB, tNot, tAnd, tOr, tIf, tCall, tDrop, tBreak, tCont, L2.start, tDGet, sDPut, tTup, tLst, tDNewK, tRevL, rCat, rAppend, rPop, rSetL, tAndV, tOrV, tNotV, tSl, tPart, tNoPart, tM1, gTup, gCons, gNil, cxK, cxnK, List.map_cons, List.map_nil, List.length_cons, List.length_nil, List.replicate, List.cons_append, List.nil_append, List.append_nil, List.set_cons_zero, List.set_cons_succ, List.getElem?_cons_zero, List.getElem?_cons_succ, Option.some.injEq, V.ref.injEq, V.int.injEq, V.str.injEq, V.bl.injEq, V.ty.injEq, exists_eq_left', exists_eq_left, exists_and_left, List.cons.injEq, and_true, true_and, sc_ii, sc_ss, sc_bb, sc_ni, sc_in, sc_is, sc_si, sc_nn, decide_true, decide_false, reduceCtorEq, Bool.false_eq_true, if_true, if_false, ite_true, ite_false, exists_const, eq_self, false_and, and_false, or_false, false_or, exists_false, Evl.rLenS, rSum, wipe, tYes, exists_eq, exists_eq', rIxL, rIxT, rIxS, exists_and_right, gt_iff_lt, not_true_eq_false, not_false_eq_true, Bool.not_true, Bool.not_false, decide_eq_true_eq, Nat.reduceSub, Nat.reduceAdd, List.append_assoc, tChain, tDIn, tDNotIn, sDDel, tAug, ipI, rInt1_int, rInt1_bl]
      refine ⟨.ty "ValueError", .type "ValueError", true, OL, rfl, fun u h => h, rfl, rfl, T.kcO, T.o2, true, rfl, ?_⟩
      try simp (maxSteps := 1000000) only [tSeq, tIfS, tTest, tOp, tUn, tCB, tCons, tNil, tVar, tC, rI0, rI, rU, rEq, rNe, tRet, tRetN, tAsg, gName, gSub, tBM, tBM0, tNext, tB, tNot, tAnd, tOr, tIf, tCall, tDrop, tBreak, tCont, L2.start, tDGet, sDPut, tTup, tLst, tDNewK, tRevL, rCat, rAppend, rPop, rSetL, tAndV, tOrV, tNotV, tSl, tPart, tNoPart, tM1, gTup, gCons, gNil, cxK, cxnK, List.map_cons, List.map_nil, List.length_cons, List.length_nil, List.replicate, List.cons_append, List.nil_append, List.append_nil, List.set_cons_zero, List.set_cons_succ, List.getElem?_cons_zero, List.getElem?_cons_succ, Option.some.injEq, V.ref.injEq, V.int.injEq, V.str.injEq, V.bl.injEq, V.ty.injEq, exists_eq_left', exists_eq_left, exists_and_left, List.cons.injEq, and_true, true_and, sc_ii, sc_ss, sc_bb, sc_ni, sc_in, sc_is, sc_si, sc_nn, decide_true, decide_false, reduceCtorEq, Bool.false_eq_true, if_true, if_false, ite_true, ite_false, exists_const, eq_self, false_and, and_false, or_false, false_or, exists_false, Evl.rLenS, rSum, wipe, tYes, exists_eq, exists_eq', rIxL, rIxT, rIxS, exists_and_right, gt_iff_lt, not_true_eq_false, not_false_eq_true, Bool.not_true, Bool.not_false, decide_eq_true_eq, Nat.reduceSub, Nat.reduceAdd, List.append_assoc, tChain, tDIn, tDNotIn, sDDel, tAug, ipI, rInt1_int, rInt1_bl]
      refine ⟨by rw [sizeLine_eq]; decide, fun p np => ⟨p, _, _, false, OL, rfl, upd_same, .cons (.own _) (.cons (.own _) .nil), rfl, rfl, T.kcO, T.o3, ?_⟩⟩
      exact ⟨false, rfl, q _ (k.trans (Kp.new np))⟩
    split
    · try simp (maxSteps := 1000000) only [tSeq, tIfS, tTest, tOp, tUn, tCB, tCons, tNil, tVar, tC, rI0, rI, rU, rEq, rNe, tRet, tRetN, tAsg, gName, gSub, tBM, tBM0, tNext, tB, tNot, tAnd, tOr, tIf, tCall, tDrop, tBreak, tCont, L2.start, tDGet, sDPut, tTup, tLst, tDNewK, tRevL, rCat, rAppend, rPop, rSetL, tAndV, tOrV, tNotV, tSl, tPart, tNoPart, tM1, gTup, gCons, gNil, cxK, cxnK, List.map_cons, List.map_nil, List.length_cons, List.length_nil, List.replicate, List.cons_append, List.nil_append, List.append_nil, List.set_cons_zero, List.set_cons_succ, List.getElem?_cons_zero, List.getElem?_cons_succ, Option.some.injEq, V.ref.injEq, V.int.injEq, V.str.injEq, V.bl.injEq, V.ty.injEq, exists_eq_left', exists_eq_left, exists_and_left, List.cons.injEq, and_true, true_and, sc_ii, sc_ss, sc_bb, sc_ni, sc_in, sc_is, sc_si, sc_nn, decide_true, decide_false, reduceCtorEq, Bool.false_eq_true, if_true, if_false, ite_true, ite_false, exists_const, eq_self, false_and, and_false, or_false, false_or, exists_false, Evl.rLenS, rSum, wipe, tYes, exists_eq, exists_eq', rIxL, rIxT, rIxS, exists_and_right, gt_iff_lt, not_true_eq_false, not_false_eq_true, Bool.not_true, Bool.not_false, decide_eq_true_eq, Nat.reduceSub, Nat.reduceAdd, List.append_assoc, tChain, tDIn, tDNotIn, sDDel, tAug, ipI, rInt1_int, rInt1_bl, tOpS]
      obtain ⟨dx1, _, _, _, ho1, _⟩ := id h1
      obtain ⟨dx2, _, _, _, ho2, _⟩ := id h2
      refine ⟨o1, dx1, _, o2, dx2, _, rfl, rfl, ho1, ho2, o1, o2, z1, z2, e1, e2, rfl, h1, h2, fun _ H' k => ?_, fun e => absurd e hne⟩
      refine ⟨true, T.EXO, fun _ y ny => ?_, fun z => by cases z⟩
      try simp (maxSteps := 1000000) only [tSeq, tIfS, tTest, tOp, tUn, tCB, tCons, tNil, tVar, tC, rI0, rI, rU, rEq, rNe, tRet, tRetN, tAsg, gName, gSub, tBM, tBM0, tNext, tB, tNot, tAnd, tOr, tIf, tCall, tDrop, tBreak, tCont, L2.start, tDGet, sDPut, tTup, tLst, tDNewK, tRevL, rCat, rAppend, rPop, rSetL, tAndV, tOrV, tNotV, tSl, tPart, tNoPart, tM1, gTup, gCons, gNil, cxK, cxnK, List.map_cons, List.map_nil, List.length_cons, List.length_nil, List.replicate, List.cons_append, List.nil_append, List.append_nil, List.set_cons_zero, List.set_cons_succ, List.getElem?_cons_zero, List.getElem?_cons_succ, Option.some.injEq, V.ref.injEq, V.int.injEq, V.str.injEq, V.bl.injEq, V.ty.injEq, exists_eq_left', exists_eq_left, exists_and_left, List.cons.injEq, and_true, true_and, sc_ii, sc_ss, sc_bb, sc_ni, sc_in, sc_is, sc_si, sc_nn, decide_true, decide_false, reduceCtorEq, Bool.false_eq_true, if_true, if_false, ite_true, ite_false, exists_const, eq_self, false_and, and_false, or_false, false_or, exists_false, Evl.rLenS, rSum, wipe, tYes, exists_eq, exists_eq', rIxL, rIxT, rIxS, exists_and_right, gt_iff_lt, not_true_eq_false, not_false_eq_true, Bool.not_true, Bool.not_false, decide_eq_true_eq, Nat.reduceSub, Nat.reduceAdd, List.append_assoc, tChain, tDIn, tDNotIn, sDDel, tAug, ipI, rInt1_int, rInt1_bl]
      refine ⟨.ref OL, .ref OL, true, OL, rfl, fun u h => h, rfl, rfl, T.kcO, T.o1, true, rfl, ?_⟩
      try simp (maxSteps := 1000000) only [tSeq, tIfS, tTest, tOp, tUn, tCB, tCons, tNil, tVar, tC, rI0, rI, rU, rEq, rNe, tRet, tRetN, tAsg, gName, gSub, tBM, tBM0, tNext, tB, tNot, tAnd, tOr, tIf, tCall, tDrop, tBreak, tCont, L2.start, tDGet, sDPut, tTup, tLst, tDNewK, tRevL, rCat, rAppend, rPop, rSetL, tAndV, tOrV, tNotV, tSl, tPart, tNoPart, tM1, gTup, gCons, gNil, cxK, cxnK, List.map_cons, List.map_nil, List.length_cons, List.length_nil, List.replicate, List.cons_append, List.nil_append, List.append_nil, List.set_cons_zero, List.set_cons_succ, List.getElem?_cons_zero, List.getElem?_cons_succ, Option.some.injEq, V.ref.injEq, V.int.injEq, V.str.injEq, V.bl.injEq, V.ty.injEq, exists_eq_left', exists_eq_left, exists_and_left, List.cons.injEq, and_true, true_and, sc_ii, sc_ss, sc_bb, sc_ni, sc_in, sc_is, sc_si, sc_nn, decide_true, decide_false, reduceCtorEq, Bool.false_eq_true, if_true, if_false, ite_true, ite_false, exists_const, eq_self, false_and, and_false, or_false, false_or, exists_false, Evl.rLenS, rSum, wipe, tYes, exists_eq, exists_eq', rIxL, rIxT, rIxS, exists_and_right, gt_iff_lt, not_true_eq_false, not_false_eq_true, Bool.not_true, Bool.not_false, decide_eq_true_eq, Nat.reduceSub, Nat.reduceAdd, List.append_assoc, tChain, tDIn, tDNotIn, sDDel, tAug, ipI, rInt1_int, rInt1_bl]
      refine ⟨.ty "ValueError", .type "ValueError", true, OL, rfl, fun u h => h, rfl, rfl, T.kcO, T.o2, true, rfl, ?_⟩
      try simp (maxSteps := 1000000) only [tSeq, tIfS, tTest, tOp, tUn, tCB, tCons, tNil, tVar, tC, rI0, rI, rU, rEq, rNe, tRet, tRetN, tAsg, gName, gSub, tBM, tBM0, tNext, tB, tNot, tAnd, tOr, tIf, tCall, tDrop, tBreak, tCont, L2.start, tDGet, sDPut, tTup, tLst, tDNewK, tRevL, rCat, rAppend, rPop, rSetL, tAndV, tOrV, tNotV, tSl, tPart, tNoPart, tM1, gTup, gCons, gNil, cxK, cxnK, List.map_cons, List.map_nil, List.length_cons, List.length_nil, List.replicate, List.cons_append, List.nil_append, List.append_nil, List.set_cons_zero, List.set_cons_succ, List.getElem?_cons_zero, List.getElem?_cons_succ, Option.some.injEq, V.ref.injEq, V.int.injEq, V.str.injEq, V.bl.injEq, V.ty.injEq, exists_eq_left', exists_eq_left, exists_and_left, List.cons.injEq, and_true, true_and, sc_ii, sc_ss, sc_bb, sc_ni, sc_in, sc_is, sc_si, sc_nn, decide_true, decide_false, reduceCtorEq, Bool.false_eq_true, if_true, if_false, ite_true, ite_false, exists_const, eq_self, false_and, and_false, or_false, false_or, exists_false, Evl.rLenS, rSum, wipe, tYes, exists_eq, exists_eq', rIxL, rIxT, rIxS, exists_and_right, gt_iff_lt, not_true_eq_false, not_false_eq_true, Bool.not_true, Bool.not_false, decide_eq_true_eq, Nat.reduceSub, Nat.reduceAdd, List.append_assoc, tChain, tDIn, tDNotIn, sDDel, tAug, ipI, rInt1_int, rInt1_bl]
      refine ⟨by rw [sizeLine_eq]; decide, fun p np => ⟨p, _, _, false, OL, rfl, upd_same, .cons (.own _) (.cons (.own _) .nil), rfl, rfl, T.kcO, T.o3, ?_⟩⟩
      exact ⟨false, rfl, q _ (k.trans (Kp.new np))⟩
    · try simp (maxSteps := 1000000) only [tSeq, tIfS, tTest, tOp, tUn, tCB, tCons, tNil, tVar, tC, rI0, rI, rU, rEq, rNe, tRet, tRetN, tAsg, gName, gSub, tBM, tBM0, tNext, tB, tNot, tAnd, tOr, tIf, tCall, tDrop, tBreak, tCont, L2.start, tDGet, sDPut, tTup, tLst, tDNewK, tRevL, rCat, rAppend, rPop, rSetL, tAndV, tOrV, tNotV, tSl, tPart, tNoPart, tM1, gTup, gCons, gNil, cxK, cxnK, List.map_cons, List.map_nil, List.length_cons, List.length_nil, List.replicate, List.cons_append, List.nil_append, List.append_nil, List.set_cons_zero, List.set_cons_succ, List.getElem?_cons_zero, List.getElem?_cons_succ, Option.some.injEq, V.ref.injEq, V.int.injEq, V.str.injEq, V.bl.injEq, V.ty.injEq, exists_eq_left', exists_eq_left, exists_and_left, List.cons.injEq, and_true, true_and, sc_ii, sc_ss, sc_bb, sc_ni, sc_in, sc_is, sc_si, sc_nn, decide_true, decide_false, reduceCtorEq, Bool.false_eq_true, if_true, if_false, ite_true, ite_false, exists_const, eq_self, false_and, and_false, or_false, false_or, exists_false, Evl.rLenS, rSum, wipe, tYes, exists_eq, exists_eq', rIxL, rIxT, rIxS, exists_and_right, gt_iff_lt, not_true_eq_false, not_false_eq_true, Bool.not_true, Bool.not_false, decide_eq_true_eq, Nat.reduceSub, Nat.reduceAdd, List.append_assoc, tChain, tDIn, tDNotIn, sDDel, tAug, ipI, rInt1_int, rInt1_bl, tOpS]
      obtain ⟨dx1, _, _, _, ho1, _⟩ := id h1
      obtain ⟨dx2, _, _, _, ho2, _⟩ := id h2
      refine ⟨o1, dx1, _, o2, dx2, _, rfl, rfl, ho1, ho2, o1, o2, z1, z2, e1, e2, rfl, h1, h2, fun _ H' k => ?_, fun e => absurd e hne⟩
      refine ⟨true, T.EXO, fun _ y ny => ?_, fun z => by cases z⟩
      try simp (maxSteps := 1000000) only [tSeq, tIfS, tTest, tOp, tUn, tCB, tCons, tNil, tVar, tC, rI0, rI, rU, rEq, rNe, tRet, tRetN, tAsg, gName, gSub, tBM, tBM0, tNext, tB, tNot, tAnd, tOr, tIf, tCall, tDrop, tBreak, tCont, L2.start, tDGet, sDPut, tTup, tLst, tDNewK, tRevL, rCat, rAppend, rPop, rSetL, tAndV, tOrV, tNotV, tSl, tPart, tNoPart, tM1, gTup, gCons, gNil, cxK, cxnK, List.map_cons, List.map_nil, List.length_cons, List.length_nil, List.replicate, List.cons_append, List.nil_append, List.append_nil, List.set_cons_zero, List.set_cons_succ, List.getElem?_cons_zero, List.getElem?_cons_succ, Option.some.injEq, V.ref.injEq, V.int.injEq, V.str.injEq, V.bl.injEq, V.ty.injEq, exists_eq_left', exists_eq_left, exists_and_left, List.cons.injEq, and_true, true_and, sc_ii, sc_ss, sc_bb, sc_ni, sc_in, sc_is, sc_si, sc_nn, decide_true, decide_false, reduceCtorEq, Bool.false_eq_true, if_true, if_false, ite_true, ite_false, exists_const, eq_self, false_and, and_false, or_false, false_or, exists_false, Evl.rLenS, rSum, wipe, tYes, exists_eq, exists_eq', rIxL, rIxT, rIxS, exists_and_right, gt_iff_lt, not_true_eq_false, not_false_eq_true, Bool.not_true, Bool.not_false, decide_eq_true_eq, Nat.reduceSub, Nat.reduceAdd, List.append_assoc, tChain, tDIn, tDNotIn, sDDel, tAug, ipI, rInt1_int, rInt1_bl]
      refine ⟨.ref OL, .ref OL, true, OL, rfl, fun u h => h, rfl, rfl, T.kcO, T.o1, true, rfl, ?_⟩
      try simp (maxSteps := 1000000) only [tSeq, tIfS, tTest, tOp, tUn, tCB, tCons, tNil, tVar, tC, rI0, rI, rU, rEq, rNe, tRet, tRetN, tAsg, gName, gSub, tBM, tBM0, tNext, tB, tNot, tAnd, tOr, tIf, tCall, tDrop, tBreak, tCont, L2.start, tDGet, sDPut, tTup, tLst, tDNewK, tRevL, rCat, rAppend, rPop, rSetL, tAndV, tOrV, tNotV, tSl, tPart, tNoPart, tM1, gTup, gCons, gNil, cxK, cxnK, List.map_cons, List.map_nil, List.length_cons, List.length_nil, List.replicate, List.cons_append, List.nil_append, List.append_nil, List.set_cons_zero, List.set_cons_succ, List.getElem?_cons_zero, List.getElem?_cons_succ, Option.some.injEq, V.ref.injEq, V.int.injEq, V.str.injEq, V.bl.injEq, V.ty.injEq, exists_eq_left', exists_eq_left, exists_and_left, List.cons.injEq, and_true, true_and, sc_ii, sc_ss, sc_bb, sc_ni, sc_in, sc_is, sc_si, sc_nn, decide_true, decide_false, reduceCtorEq, Bool.false_eq_true, if_true, if_false, ite_true, ite_false, exists_const, eq_self, false_and, and_false, or_false, false_or, exists_false, Evl.rLenS, rSum, wipe, tYes, exists_eq, exists_eq', rIxL, rIxT, rIxS, exists_and_right, gt_iff_lt, not_true_eq_false, not_false_eq_true, Bool.not_true, Bool.not_false, decide_eq_true_eq, Nat.reduceSub, Nat.reduceAdd, List.append_assoc, tChain, tDIn, tDNotIn, sDDel, tAug, ipI, rInt1_int, rInt1_bl]
      refine ⟨.ty "ValueError", .type "ValueError", true, OL, rfl, fun u h => h, rfl, rfl, T.kcO, T.o2, true, rfl, ?_⟩
      try simp (maxSteps := 1000000) only [tSeq, tIfS, tTest, tOp, tUn, tCB, tCons, tNil, tVar, tC, rI0, rI, rU, rEq, rNe, tRet, tRetN, tAsg, gName, gSub, tBM, tBM0, tNext, tB, tNot, tAnd, tOr, tIf, tCall, tDrop, tBreak, tCont, L2.start, tDGet, sDPut, tTup, tLst, tDNewK, tRevL, rCat, rAppend, rPop, rSetL, tAndV, tOrV, tNotV, tSl, tPart, tNoPart, tM1, gTup, gCons, gNil, cxK, cxnK, List.map_cons, List.map_nil, List.length_cons, List.length_nil, List.replicate, List.cons_append, List.nil_append, List.append_nil, List.set_cons_zero, List.set_cons_succ, List.getElem?_cons_zero, List.getElem?_cons_succ, Option.some.injEq, V.ref.injEq, V.int.injEq, V.str.injEq, V.bl.injEq, V.ty.injEq, exists_eq_left', exists_eq_left, exists_and_left, List.cons.injEq, and_true, true_and, sc_ii, sc_ss, sc_bb, sc_ni, sc_in, sc_is, sc_si, sc_nn, decide_true, decide_false, reduceCtorEq, Bool.false_eq_true, if_true, if_false, ite_true, ite_false, exists_const, eq_self, false_and, and_false, or_false, false_or, exists_false, Evl.rLenS, rSum, wipe, tYes, exists_eq, exists_eq', rIxL, rIxT, rIxS, exists_and_right, gt_iff_lt, not_true_eq_false, not_false_eq_true, Bool.not_true, Bool.not_false, decide_eq_true_eq, Nat.reduceSub, Nat.reduceAdd, List.append_assoc, tChain, tDIn, tDNotIn, sDDel, tAug, ipI, rInt1_int, rInt1_bl]
      refine ⟨by rw [sizeLine_eq]; decide, fun p np => ⟨p, _, _, false, OL, rfl, upd_same, .cons (.own _) (.cons (.own _) .nil), rfl, rfl, T.kcO, T.o3, ?_⟩⟩
      exact ⟨false, rfl, q _ (k.trans (Kp.new np))⟩
theorem oddP_ex (zs : List Str) (n3 : zs.length ≤ 3) : ∃ odd rest, oddP.filter (fun x => !decide (x ∈ zs)) = odd :: rest ∧ nameS odd = true ∧ odd ∉ zs := by
  have ne : oddP.filter (fun x => !decide (x ∈ zs)) ≠ [] := fun e => by
    have : ∀ x ∈ oddP, x ∈ zs := fun x hx => by
      have := List.filter_eq_nil_iff.mp e x hx
      simpa using this
    have := nodup_lenP oddP_nd this
    have : oddP.length = 4 := rfl
    omega
  cases e : oddP.filter (fun x => !decide (x ∈ zs)) with
  | nil => exact absurd e ne
  | cons o r =>
    have hom : o ∈ oddP.filter (fun x => !decide (x ∈ zs)) := by rw [e]; exact List.mem_cons_self
    refine ⟨o, r, rfl, oddP_nm o (List.mem_filter.mp hom).1, ?_⟩
    have := (List.mem_filter.mp hom).2
    simpa using this
def spStr (K : PySem.W.Frag) : Sp := fun vs H Q _ => ∃ (a : Addr) (zs : List Str), vs = [.ref a] ∧ zs.length ≤ 3 ∧ LkAt K H a zs ∧ ∀ z H', nameS z = true → z ∉ zs → Kp [] H H' → Q (.str z) H'
theorem ok_law_stranger {f : Addr} {fd : FuncData} (D : Df K mg "_law_stranger" s_law_stranger ["_law_locks"] f fd) : FnOk P w K mg base CX0 1 f fd ["_law_locks"] (spStr K) := by
  refine D.F.ok sc_law_stranger (fun vs H Q E h => ?_) (fun cdv A outer s H vs Q E hr h => ?_)
  · obtain ⟨_, _, rfl, _⟩ := h
    rfl
  · obtain ⟨a, zs, rfl, n3, ha, q⟩ := h
    refine ⟨_, (pss_one (ps_ret (pe_ix (r := rIxL K) ix_list (pe_lc (own := [("_law_name", 1)]) (g := (gName 1)) rfl sc_law_stranger.nd (pi_list (pe_lst (pa_cons pe_str (pa_cons pe_str (pa_cons pe_str (pa_cons pe_str pa_nil)))))) (blkOk_by (N := ["_law_locks", "_law_name"]) (sc := defScope s_law_stranger) (by decide +kernel)) (fun _ _ _ _ _ => (pg_name (i := 1) sc_law_stranger.nd rfl (Or.inl rfl))) (fun _ _ _ _ _ => (pts_one (pt_cmpR (r := rIn K true) op_notIn_seq (pv 1) (pv 0) (by rfl)))) (fun _ _ _ _ _ => (pv 1))) pe_int (fun _ _ => rfl)))), ?_⟩
    try simp (maxSteps := 1000000) only [tSeq, tIfS, tTest, tOp, tUn, tCB, tCons, tNil, tVar, tC, rI0, rI, rU, rEq, rNe, tRet, tRetN, tAsg, gName, gSub, tBM, tBM0, tNext, tB, tNot, tAnd, tOr, tIf, tCall, tDrop, tBreak, tCont, L2.start, tDGet, sDPut, tTup, tDNewK, tRevL, rCat, rAppend, rPop, rSetL, tAndV, tOrV, tNotV, tSl, tPart, tNoPart, tM1, gTup, gCons, gNil, cxK, cxnK, List.map_cons, List.map_nil, List.length_cons, List.length_nil, List.replicate, List.cons_append, List.nil_append, List.append_nil, List.set_cons_zero, List.set_cons_succ, List.getElem?_cons_zero, List.getElem?_cons_succ, Option.some.injEq, V.ref.injEq, V.int.injEq, V.str.injEq, V.bl.injEq, V.ty.injEq, exists_eq_left', exists_eq_left, exists_and_left, List.cons.injEq, and_true, true_and, sc_ii, sc_ss, sc_bb, sc_ni, sc_in, sc_is, sc_si, sc_nn, decide_true, decide_false, reduceCtorEq, Bool.false_eq_true, if_true, if_false, ite_true, ite_false, exists_const, eq_self, false_and, and_false, or_false, false_or, exists_false, Evl.rLenS, rSum, wipe, tYes, exists_eq, exists_eq', rIxL, rIxT, rIxS, exists_and_right, gt_iff_lt, not_true_eq_false, not_false_eq_true, Bool.not_true, Bool.not_false, decide_eq_true_eq, Nat.reduceSub, Nat.reduceAdd, List.append_assoc, tChain, tDIn, tDNotIn, sDDel, tAug, ipI, rInt1_int, rInt1_bl]
    refine lc_src1 ?_
    try simp (maxSteps := 1000000) only [tSeq, tIfS, tTest, tOp, tUn, tCB, tCons, tNil, tVar, tC, rI0, rI, rU, rEq, rNe, tRet, tRetN, tAsg, gName, gSub, tBM, tBM0, tNext, tB, tNot, tAnd, tOr, tIf, tCall, tDrop, tBreak, tCont, L2.start, tDGet, sDPut, tTup, tLst, tDNewK, tRevL, rCat, rAppend, rPop, rSetL, tAndV, tOrV, tNotV, tSl, tPart, tNoPart, tM1, gTup, gCons, gNil, cxK, cxnK, List.map_cons, List.map_nil, List.length_cons, List.length_nil, List.replicate, List.cons_append, List.nil_append, List.append_nil, List.set_cons_zero, List.set_cons_succ, List.getElem?_cons_zero, List.getElem?_cons_succ, Option.some.injEq, V.ref.injEq, V.int.injEq, V.str.injEq, V.bl.injEq, V.ty.injEq, exists_eq_left', exists_eq_left, exists_and_left, List.cons.injEq, and_true, true_and, sc_ii, sc_ss, sc_bb, sc_ni, sc_in, sc_is, sc_si, sc_nn, decide_true, decide_false, reduceCtorEq, Bool.false_eq_true, if_true, if_false, ite_true, ite_false, exists_const, eq_self, false_and, and_false, or_false, false_or, exists_false, Evl.rLenS, rSum, wipe, tYes, exists_eq, exists_eq', rIxL, rIxT, rIxS, exists_and_right, gt_iff_lt, not_true_eq_false, not_false_eq_true, Bool.not_true, Bool.not_false, decide_eq_true_eq, Nat.reduceSub, Nat.reduceAdd, List.append_assoc, tChain, tDIn, tDNotIn, sDDel, tAug, ipI, rInt1_int, rInt1_bl]
    refine ⟨by rw [sizeLine_eq]; decide, fun p np => ?_⟩
    have kp := (Kp.new np : Kp [] H (upd H p (.lst (oddP.map V.str))))
    have hp : (upd H p (.lst (oddP.map V.str))) p = some (.lst (oddP.map V.str)) := upd_same
    refine lcG (R := fun _ v x => v = V.str x) (R2 := fun _ v x => v = V.str x) (gs := oddP) (fun _ _ _ _ _ h => h) (fun _ _ _ _ _ h => h) (fun x => !decide (x ∈ zs)) id (src_list (fun R q' => q') (sq_l hp)) (rwStrs oddP) (by decide) (fun v x H3 N N0 hx hv k3 hN hN0 => ?_) fun D us' H3 nD hD hrw k3 => ?_
    · subst hv
      refine ⟨by simp [wipe], ?_⟩
      try simp (maxSteps := 1000000) only [tSeq, tIfS, tTest, tOp, tUn, tCB, tCons, tNil, tVar, tC, rI0, rI, rU, rEq, rNe, tRet, tRetN, tAsg, gName, gSub, tBM, tBM0, tNext, tB, tNot, tAnd, tOr, tIf, tCall, tDrop, tBreak, tCont, L2.start, tDGet, sDPut, tTup, tLst, tDNewK, tRevL, rCat, rAppend, rPop, rSetL, tAndV, tOrV, tNotV, tSl, tPart, tNoPart, tM1, gTup, gCons, gNil, cxK, cxnK, List.map_cons, List.map_nil, List.length_cons, List.length_nil, List.replicate, List.cons_append, List.nil_append, List.append_nil, List.set_cons_zero, List.set_cons_succ, List.getElem?_cons_zero, List.getElem?_cons_succ, Option.some.injEq, V.ref.injEq, V.int.injEq, V.str.injEq, V.bl.injEq, V.ty.injEq, exists_eq_left', exists_eq_left, exists_and_left, List.cons.injEq, and_true, true_and, sc_ii, sc_ss, sc_bb, sc_ni, sc_in, sc_is, sc_si, sc_nn, decide_true, decide_false, reduceCtorEq, Bool.false_eq_true, if_true, if_false, ite_true, ite_false, exists_const, eq_self, false_and, and_false, or_false, false_or, exists_false, Evl.rLenS, rSum, wipe, tYes, exists_eq, exists_eq', rIxL, rIxT, rIxS, exists_and_right, gt_iff_lt, not_true_eq_false, not_false_eq_true, Bool.not_true, Bool.not_false, decide_eq_true_eq, Nat.reduceSub, Nat.reduceAdd, List.append_assoc, tChain, tDIn, tDNotIn, sDDel, tAug, ipI, rInt1_int, rInt1_bl]
      refine ⟨a, _, rfl, LkAt.kp ha (kp.trans k3), rfl, flat_strs zs, _, rfl, ?_⟩
      simp only [if_true, inV_str]
      by_cases e : x ∈ zs
      · rw [decide_eq_true e, if_neg (by decide)]
        exact hN0 (by simp [e]) _ (Kp.refl _ _)
      · rw [decide_eq_false e, if_pos (by decide)]
        exact hN (by simp [e]) _ _ rfl (Kp.refl _ _)
    rw [List.map_id] at hrw
    obtain ⟨odd, rest, eo, gOdd, nOdd⟩ := oddP_ex zs n3
    rw [eo] at hrw
    obtain ⟨u0, ur, rfl, rfl, _⟩ := hrw.ex
    exact ⟨D, rfl, _, sq_l hD, .str odd, (show atI _ ((0 : Nat) : Int) = _ from atI_nat rfl), q _ _ gOdd nOdd (kp.trans k3)⟩
def spOthers : Sp := fun vs H Q _ => ∃ (a : Addr) (zs : List Str), vs = [.ref a] ∧ LkOk zs ∧ H a = some (.tup (zs.map V.str)) ∧ ∀ l us gs H', H l = none → H' l = some (.lst us) → Rw (TS H') us gs → gs.length ≤ 4 → (∀ g ∈ gs, LkOk g ∧ g ≠ zs) → Kp [] H H' → Q (.ref l) H'
theorem ok_law_others {f : Addr} {fd : FuncData} (D : Df K mg "_law_others" s_law_others ["_law_locks"] f fd) (T : BtG mg) {f1 : Addr} {fd1 : FuncData} (D_law_stranger : Df K mg "_law_stranger" s_law_stranger ["_law_locks"] f1 fd1) (G_law_stranger : FnOk P w K mg base CX0 1 f1 fd1 ["_law_locks"] (spStr K)) : FnOk P w K mg base CX0 2 f fd ["_law_locks"] spOthers := by
  refine D.F.ok sc_law_others (fun vs H Q E h => ?_) (fun cdv A outer s H vs Q E hr h => ?_)
  · obtain ⟨_, _, rfl, _⟩ := h
    rfl
  · obtain ⟨a, zs, rfl, L, ha, q⟩ := h
    refine ⟨_, (pss_cons (ps_set (i := 1) sc_law_others.nd rfl (Or.inl rfl) (pe_call G_law_stranger (hr.mono (by decide)) rfl D_law_stranger.g D_law_stranger.F.kp D_law_stranger.b .nil pass0 (pa_cons (pv 0) pa_nil)))
      (pss_cons (ps_set (i := 2) sc_law_others.nd rfl (Or.inl rfl) (pe_lst (pa_cons (pe_op op_catA (pe_slice sl_tupA (pv 0) po_none (po_some (pe_un un_neg pe_int))) (pe_tup (pa_cons (pv 1) pa_nil))) pa_nil)))
      (pss_cons (ps_if (pt_cmpR op_lt (pe_callB (id := "len") (r := Evl.rLenS K) call_len_seq (by rfl) T.b_len PySem.boot_len (pa_cons (pv 0) pa_nil)) pe_int (nomark _)) (pss_one (ps_expr (pe_bm PySem.F.plainAttrs_list PySem.F.slot_list_append PySem.F.type_list_append mt_append (pv 2) (pa_cons (pe_op op_catA (pv 0) (pe_tup (pa_cons (pv 1) pa_nil))) pa_nil)))) pss_nil)
      (pss_cons (ps_if (pt_cmpR op_gt (pe_callB (id := "len") (r := Evl.rLenS K) call_len_seq (by rfl) T.b_len PySem.boot_len (pa_cons (pv 0) pa_nil)) pe_int (nomark _)) (pss_cons (ps_expr (pe_bm PySem.F.plainAttrs_list PySem.F.slot_list_append PySem.F.type_list_append mt_append (pv 2) (pa_cons (pe_slice sl_tupA (pv 0) po_none (po_some (pe_un un_neg pe_int))) pa_nil)))
      (pss_one (ps_expr (pe_bm PySem.F.plainAttrs_list PySem.F.slot_list_append PySem.F.type_list_append mt_append (pv 2) (pa_cons (pe_revT (pv 0)) pa_nil))))) pss_nil)
      (pss_one (ps_ret (pv 2))))))), ?_⟩
    have n1 := L.pos
    have n3 := L.le
    refine seq_step ?_
    try simp (maxSteps := 1000000) only [tIfS, tTest, tOp, tUn, tCB, tCons, tNil, tVar, tC, rI0, rI, rU, rEq, rNe, tRet, tRetN, tAsg, gName, gSub, tBM, tBM0, tNext, tB, tNot, tAnd, tOr, tIf, tCall, tDrop, tBreak, tCont, L2.start, tDGet, sDPut, tTup, tLst, tDNewK, tRevL, rCat, rAppend, rPop, rSetL, tAndV, tOrV, tNotV, tSl, tPart, tNoPart, tM1, gTup, gCons, gNil, cxK, cxnK, List.map_cons, List.map_nil, List.length_cons, List.length_nil, List.replicate, List.cons_append, List.nil_append, List.append_nil, List.set_cons_zero, List.set_cons_succ, List.getElem?_cons_zero, List.getElem?_cons_succ, Option.some.injEq, V.ref.injEq, V.int.injEq, V.str.injEq, V.bl.injEq, V.ty.injEq, exists_eq_left', exists_eq_left, exists_and_left, List.cons.injEq, and_true, true_and, sc_ii, sc_ss, sc_bb, sc_ni, sc_in, sc_is, sc_si, sc_nn, decide_true, decide_false, reduceCtorEq, Bool.false_eq_true, if_true, if_false, ite_true, ite_false, exists_const, eq_self, false_and, and_false, or_false, false_or, exists_false, Evl.rLenS, rSum, wipe, tYes, exists_eq, exists_eq', rIxL, rIxT, rIxS, exists_and_right, gt_iff_lt, not_true_eq_false, not_false_eq_true, Bool.not_true, Bool.not_false, decide_eq_true_eq, Nat.reduceSub, Nat.reduceAdd, List.append_assoc, tChain, tDIn, tDNotIn, sDDel, tAug, ipI, rInt1_int, rInt1_bl]
    refine ⟨a, zs, rfl, n3, .inr (sq_t ha), fun odd H3 gOdd nOdd k03 => ?_⟩
    have ha3 := k03 _ _ not0 ha
    dsimp only
    refine seq_step ?_
    try simp (maxSteps := 1000000) only [tIfS, tTest, tOp, tUn, tCB, tCons, tNil, tVar, tC, rI0, rI, rU, rEq, rNe, tRet, tRetN, tAsg, gName, gSub, tBM, tBM0, tNext, tB, tNot, tAnd, tOr, tIf, tCall, tDrop, tBreak, tCont, L2.start, tDGet, sDPut, tTup, tLst, tDNewK, tRevL, rCat, rAppend, rPop, rSetL, tAndV, tOrV, tNotV, tSl, tPart, tNoPart, tM1, gTup, gCons, gNil, cxK, cxnK, List.map_cons, List.map_nil, List.length_cons, List.length_nil, List.replicate, List.cons_append, List.nil_append, List.append_nil, List.set_cons_zero, List.set_cons_succ, List.getElem?_cons_zero, List.getElem?_cons_succ, Option.some.injEq, V.ref.injEq, V.int.injEq, V.str.injEq, V.bl.injEq, V.ty.injEq, exists_eq_left', exists_eq_left, exists_and_left, List.cons.injEq, and_true, true_and, sc_ii, sc_ss, sc_bb, sc_ni, sc_in, sc_is, sc_si, sc_nn, decide_true, decide_false, reduceCtorEq, Bool.false_eq_true, if_true, if_false, ite_true, ite_false, exists_const, eq_self, false_and, and_false, or_false, false_or, exists_false, Evl.rLenS, rSum, wipe, tYes, exists_eq, exists_eq', rIxL, rIxT, rIxS, exists_and_right, gt_iff_lt, not_true_eq_false, not_false_eq_true, Bool.not_true, Bool.not_false, decide_eq_true_eq, Nat.reduceSub, Nat.reduceAdd, List.append_assoc, tChain, tDIn, tDNotIn, sDDel, tAug, ipI, rInt1_int, rInt1_bl]
    refine slA_m1 ha3 n1 fun r H4 hr4 k4 => ⟨by rw [sizeLine_eq]; decide, fun t nt => ?_⟩
    have kt := (Kp.new nt : Kp [] H4 (upd H4 t (.tup [.str odd])))
    refine catA_use (kt _ _ not0 hr4) upd_same (by rw [List.length_map, List.length_take]; simp; omega) fun r5 H5 hr5 k5 => ⟨by rw [sizeLine_eq]; decide, fun l nl => ?_⟩
    have k05 := ((k03.trans k4).trans kt).trans k5
    have k06 := k05.trans (Kp.new nl (o := .lst [.ref r5]))
    have nl0 : H l = none := k05.free0 nl
    have hl6 : (upd H5 l (.lst [.ref r5])) l = some (.lst [.ref r5]) := upd_same
    have h5 : TS (upd H5 l (.lst [.ref r5])) (.ref r5) (zs.take (zs.length - 1) ++ [odd]) := ⟨r5, rfl, by rw [List.map_append]; exact (Kp.new nl (S := []) (o := .lst [.ref r5])) _ _ not0 hr5⟩
    generalize upd H5 l (.lst [.ref r5]) = H6 at k06 hl6 h5 ⊢
    have neO : ∀ ys : List Str, ys ++ [odd] ≠ zs := fun ys e => nOdd (by rw [← e]; simp)
    have g1 : LkOk (zs.take (zs.length - 1) ++ [odd]) ∧ zs.take (zs.length - 1) ++ [odd] ≠ zs := ⟨lk_snoc (by rw [List.length_take]; omega) (L.nd.sublist (List.take_sublist _ _)) (fun z hz => L.nm z (List.mem_of_mem_take hz)) (fun h => nOdd (List.mem_of_mem_take h)) gOdd, neO _⟩
    refine seq_cut (fun σ H' => ∃ (us : List V) (gs : List (List Str)), σ = [some (.ref a), some (.str odd), some (.ref l)] ∧ H' l = some (.lst us) ∧ Rw (TS H') us gs ∧ gs.length ≤ 2 ∧ (∀ g ∈ gs, LkOk g ∧ g ≠ zs) ∧ Kp [] H H') (fun Tn hT => ?_) ?_
    · try simp (maxSteps := 1000000) only [tSeq, tIfS, tTest, tOp, tUn, tCB, tCons, tNil, tVar, tC, rI0, rI, rU, rEq, rNe, tRet, tRetN, tAsg, gName, gSub, tBM, tBM0, tNext, tB, tNot, tAnd, tOr, tIf, tCall, tDrop, tBreak, tCont, L2.start, tDGet, sDPut, tTup, tLst, tDNewK, tRevL, rCat, rAppend, rPop, rSetL, tAndV, tOrV, tNotV, tSl, tPart, tNoPart, tM1, gTup, gCons, gNil, cxK, cxnK, List.map_cons, List.map_nil, List.length_cons, List.length_nil, List.replicate, List.cons_append, List.nil_append, List.append_nil, List.set_cons_zero, List.set_cons_succ, List.getElem?_cons_zero, List.getElem?_cons_succ, Option.some.injEq, V.ref.injEq, V.int.injEq, V.str.injEq, V.bl.injEq, V.ty.injEq, exists_eq_left', exists_eq_left, exists_and_left, List.cons.injEq, and_true, true_and, sc_ii, sc_ss, sc_bb, sc_ni, sc_in, sc_is, sc_si, sc_nn, decide_true, decide_false, reduceCtorEq, Bool.false_eq_true, if_true, if_false, ite_true, ite_false, exists_const, eq_self, false_and, and_false, or_false, false_or, exists_false, Evl.rLenS, rSum, wipe, tYes, exists_eq, exists_eq', rIxL, rIxT, rIxS, exists_and_right, gt_iff_lt, not_true_eq_false, not_false_eq_true, Bool.not_true, Bool.not_false, decide_eq_true_eq, Nat.reduceSub, Nat.reduceAdd, List.append_assoc, tChain, tDIn, tDNotIn, sDDel, tAug, ipI, rInt1_int, rInt1_bl]
      refine ⟨_, .inr (sq_t (k06 _ _ not0 ha)), ?_⟩
      split
      · next lt =>
        rw [List.length_map] at lt
        refine ⟨.inl ⟨rfl, _, sq_l hl6⟩, by rw [sizeLine_eq]; decide, fun t2 nt2 => ?_⟩
        have kt2 := (Kp.new nt2 : Kp [] H6 (upd H6 t2 (.tup [.str odd])))
        refine catA_use (kt2 _ _ not0 (k06 _ _ not0 ha)) upd_same (by rw [List.length_map]; simp; omega) fun r6 H7 hr6 k7 => ?_
        have k67 := kt2.trans k7
        have hl7 := k67 _ _ not0 hl6
        have tp : Tp H7 (upd H7 l (.lst ([.ref r5] ++ [.ref r6]))) := (Tp.refl _).putL hl7
        have h6 : TS H7 (.ref r6) (zs ++ [odd]) := ⟨r6, rfl, by rw [hr6, List.map_append]; rfl⟩
        refine ⟨_, hl7, by rw [sizeLine_eq]; simp, ?_⟩
        refine hT _ _ ⟨_, [zs.take (zs.length - 1) ++ [odd], zs ++ [odd]], rfl, upd_same, .cons ((h5.tp k67.tps).tp tp) (.cons (h6.tp tp) .nil), Nat.le_refl _, fun g hg => ?_, (k06.trans k67).wr nl0⟩
        rcases List.mem_cons.mp hg with rfl | hg
        · exact g1
        · rw [List.mem_singleton.mp hg]
          exact ⟨lk_snoc (by omega) L.nd L.nm nOdd gOdd, neO _⟩
      · exact hT _ _ ⟨_, [zs.take (zs.length - 1) ++ [odd]], rfl, hl6, .cons h5 .nil, (show 1 ≤ 2 by decide), fun g hg => by rw [List.mem_singleton.mp hg]; exact g1, k06⟩
    rintro σ H7 ⟨us, gs, rfl, hl7, hus, gl, hg, k7⟩
    refine seq_cut (fun σ H' => ∃ (us : List V) (gs : List (List Str)), σ = [some (.ref a), some (.str odd), some (.ref l)] ∧ H' l = some (.lst us) ∧ Rw (TS H') us gs ∧ gs.length ≤ 4 ∧ (∀ g ∈ gs, LkOk g ∧ g ≠ zs) ∧ Kp [] H H') (fun Tn hT => ?_) ?_
    · try simp (maxSteps := 1000000) only [tSeq, tIfS, tTest, tOp, tUn, tCB, tCons, tNil, tVar, tC, rI0, rI, rU, rEq, rNe, tRet, tRetN, tAsg, gName, gSub, tBM, tBM0, tNext, tB, tNot, tAnd, tOr, tIf, tCall, tDrop, tBreak, tCont, L2.start, tDGet, sDPut, tTup, tLst, tDNewK, tRevL, rCat, rAppend, rPop, rSetL, tAndV, tOrV, tNotV, tSl, tPart, tNoPart, tM1, gTup, gCons, gNil, cxK, cxnK, List.map_cons, List.map_nil, List.length_cons, List.length_nil, List.replicate, List.cons_append, List.nil_append, List.append_nil, List.set_cons_zero, List.set_cons_succ, List.getElem?_cons_zero, List.getElem?_cons_succ, Option.some.injEq, V.ref.injEq, V.int.injEq, V.str.injEq, V.bl.injEq, V.ty.injEq, exists_eq_left', exists_eq_left, exists_and_left, List.cons.injEq, and_true, true_and, sc_ii, sc_ss, sc_bb, sc_ni, sc_in, sc_is, sc_si, sc_nn, decide_true, decide_false, reduceCtorEq, Bool.false_eq_true, if_true, if_false, ite_true, ite_false, exists_const, eq_self, false_and, and_false, or_false, false_or, exists_false, Evl.rLenS, rSum, wipe, tYes, exists_eq, exists_eq', rIxL, rIxT, rIxS, exists_and_right, gt_iff_lt, not_true_eq_false, not_false_eq_true, Bool.not_true, Bool.not_false, decide_eq_true_eq, Nat.reduceSub, Nat.reduceAdd, List.append_assoc, tChain, tDIn, tDNotIn, sDDel, tAug, ipI, rInt1_int, rInt1_bl, tRevT]
      have ha7 := k7 _ _ not0 ha
      refine ⟨_, .inr (sq_t ha7), ?_⟩
      split
      · next lt =>
        rw [List.length_map] at lt
        refine ⟨.inl ⟨rfl, _, sq_l hl7⟩, ?_⟩
        refine slA_m1 ha7 n1 fun r6 H8 hr6 k8 => ?_
        have hl8 := k8 _ _ not0 hl7
        refine ⟨us, hl8, smallL (by rw [hus.len]; omega), ?_⟩
        have h6 : TS H8 (.ref r6) (zs.take (zs.length - 1)) := ⟨r6, rfl, hr6⟩
        have tp : Tp H8 (upd H8 l (.lst (us ++ [.ref r6]))) := (Tp.refl _).putL hl8
        have k08 : Kp [] H (upd H8 l (.lst (us ++ [.ref r6]))) := (k7.trans k8).wr nl0
        have hus9 := ((hus.mono fun _ _ z => TS.tp z k8.tps).snoc h6).mono fun _ _ z => TS.tp z tp
        have hl9 : (upd H8 l (.lst (us ++ [.ref r6]))) l = some (.lst (us ++ [.ref r6])) := upd_same
        generalize upd H8 l (.lst (us ++ [.ref r6])) = H9 at k08 hus9 hl9 ⊢
        refine ⟨.inl ⟨rfl, _, sq_l hl9⟩, _, sq_t (k08 _ _ not0 ha), fun p9 np9 => ?_⟩
        have kp9 := (Kp.new np9 : Kp [] H9 (upd H9 p9 (.tup (zs.map V.str).reverse)))
        have h9 : TS (upd H9 p9 (.tup (zs.map V.str).reverse)) (.ref p9) zs.reverse := ⟨p9, rfl, by rw [List.map_reverse]; exact upd_same⟩
        have hl10 := kp9 _ _ not0 hl9
        generalize upd H9 p9 (.tup (zs.map V.str).reverse) = H10 at kp9 h9 hl10 ⊢
        have tp2 : Tp H10 (upd H10 l (.lst ((us ++ [.ref r6]) ++ [.ref p9]))) := (Tp.refl _).putL hl10
        refine ⟨_, hl10, smallL (by rw [List.length_append, hus.len]; simp; omega), ?_⟩
        refine hT _ _ ⟨_, (gs ++ [zs.take (zs.length - 1)]) ++ [zs.reverse], rfl, upd_same, ((hus9.mono fun _ _ z => TS.tp z kp9.tps).snoc h9).mono fun _ _ z => TS.tp z tp2, by simp only [List.length_append, List.length_cons, List.length_nil]; omega, fun g hg' => ?_, (k08.trans kp9).wr nl0⟩
        rcases List.mem_append.mp hg' with hg' | hg'
        · rcases List.mem_append.mp hg' with hg' | hg'
          · exact hg g hg'
          · rw [List.mem_singleton.mp hg']
            refine ⟨L.tk (by omega), fun e => ?_⟩
            have := congrArg List.length e
            rw [List.length_take] at this
            omega
        · rw [List.mem_singleton.mp hg']
          exact ⟨L.rev, rev_ne L.nd (by omega)⟩
      · exact hT _ _ ⟨us, gs, rfl, hl7, hus, by omega, hg, k7⟩
    rintro σ H8 ⟨us, gs, rfl, hl8, hus, gl, hg, k8⟩
    try simp (maxSteps := 1000000) only [tSeq, tIfS, tTest, tOp, tUn, tCB, tCons, tNil, tVar, tC, rI0, rI, rU, rEq, rNe, tRet, tRetN, tAsg, gName, gSub, tBM, tBM0, tNext, tB, tNot, tAnd, tOr, tIf, tCall, tDrop, tBreak, tCont, L2.start, tDGet, sDPut, tTup, tLst, tDNewK, tRevL, rCat, rAppend, rPop, rSetL, tAndV, tOrV, tNotV, tSl, tPart, tNoPart, tM1, gTup, gCons, gNil, cxK, cxnK, List.map_cons, List.map_nil, List.length_cons, List.length_nil, List.replicate, List.cons_append, List.nil_append, List.append_nil, List.set_cons_zero, List.set_cons_succ, List.getElem?_cons_zero, List.getElem?_cons_succ, Option.some.injEq, V.ref.injEq, V.int.injEq, V.str.injEq, V.bl.injEq, V.ty.injEq, exists_eq_left', exists_eq_left, exists_and_left, List.cons.injEq, and_true, true_and, sc_ii, sc_ss, sc_bb, sc_ni, sc_in, sc_is, sc_si, sc_nn, decide_true, decide_false, reduceCtorEq, Bool.false_eq_true, if_true, if_false, ite_true, ite_false, exists_const, eq_self, false_and, and_false, or_false, false_or, exists_false, Evl.rLenS, rSum, wipe, tYes, exists_eq, exists_eq', rIxL, rIxT, rIxS, exists_and_right, gt_iff_lt, not_true_eq_false, not_false_eq_true, Bool.not_true, Bool.not_false, decide_eq_true_eq, Nat.reduceSub, Nat.reduceAdd, List.append_assoc, tChain, tDIn, tDNotIn, sDDel, tAug, ipI, rInt1_int, rInt1_bl]
    exact q l us gs H8 nl0 hl8 hus gl hg k8
end
end My

set_option Elab.async false
set_option linter.all false
set_option maxRecDepth 100000
set_option maxHeartbeats 4000000
namespace My
open PySem L2 NdefX StX
abbrev s_TooLarge_init : Stmt := mtop 4 0
theorem sc_TooLarge_init : NScope ["self", "bound", "__class__"] ["self", "bound"] ["__class__"] (defScope s_TooLarge_init) := nscope_by (by decide +kernel)
theorem ok_TooLarge_init {P : Program} {w : World} {K : PySem.W.Frag} {mg : Str → Option Value} {base : Heap} {CX : CXT} {f cc cda C : Addr} {fd : FuncData} (F : FunX K "__init__" "TooLarge.__init__" s_TooLarge_init f fd cc cda C) (T : ErrC K C) (G : CodeF K P cda) (hsup : mg "super" = none) (n1 : PySem.W.findIn K (.ref C) "bound" = some none) {Pf : V → Prop} (hPf : ∀ v, Pf v → ∃ i : Int, v = .int i ∧ i.natAbs.log2 < 1920) :
    FnOk P w K mg base CX 1 f fd ["self", "bound"] (spErr1 C "bound" Pf) := by
  have F0 := F
  obtain ⟨oc, od, kV, doc, pm, an, ct, osl, hfd, lk, hcd⟩ := F0.ex
  obtain ⟨cl, cld, csl, hcc⟩ := F0.cell
  refine F.ok sc_TooLarge_init (fun vs H Q E h => ?_) (fun A outer s H vs Q E hr h => ?_)
  · obtain ⟨a, v, rfl, _⟩ := h
    rfl
  · obtain ⟨a, v, rfl, hp, ha, q⟩ := h
    obtain ⟨i, rfl, il⟩ := hPf v hp
    have tl := PyProof.Rows.int_text_len_1921 il
    refine ⟨_, psat_cons (psat_sup T G lk (by rw [hfd]; rfl) hcc hsup rfl rfl rfl rfl rfl rfl rfl (pa_cons (pe_joined (.cons pe_str (.cons (pe_fmt (pv 1)) .nil))) pa_nil) rfl rfl rfl rfl rfl) (pss_one (ps_ost (pv 0) (pv 1))), ?_⟩
    try simp (maxSteps := 1000000) only [tSeq, tIfS, tTest, tOp, tUn, tCB, tCons, tNil, tVar, tC, rI0, rI, rU, rEq, rNe, tRet, tRetN, tAsg, gName, gSub, tBM, tBM0, tNext, tB, tNot, tAnd, tOr, tIf, tCall, tDrop, tBreak, tCont, L2.start, tDGet, sDPut, tTup, tLst, tDNewK, tRevL, rCat, rAppend, rPop, rSetL, tAndV, tOrV, tNotV, tSl, tPart, tNoPart, tM1, gTup, gCons, gNil, cxK, cxnK, List.map_cons, List.map_nil, List.length_cons, List.length_nil, List.replicate, List.cons_append, List.nil_append, List.append_nil, List.set_cons_zero, List.set_cons_succ, List.getElem?_cons_zero, List.getElem?_cons_succ, Option.some.injEq, V.ref.injEq, V.int.injEq, V.str.injEq, V.bl.injEq, V.ty.injEq, exists_eq_left', exists_eq_left, exists_and_left, List.cons.injEq, and_true, true_and, sc_ii, sc_ss, sc_bb, sc_ni, sc_in, sc_is, sc_si, sc_nn, decide_true, decide_false, reduceCtorEq, Bool.false_eq_true, if_true, if_false, ite_true, ite_false, exists_const, eq_self, false_and, and_false, or_false, false_or, exists_false, Evl.rLenS, rSum, wipe, tYes, exists_eq, exists_eq', rIxL, rIxT, rIxS, exists_and_right, gt_iff_lt, not_true_eq_false, not_false_eq_true, Bool.not_true, Bool.not_false, decide_eq_true_eq, Nat.reduceSub, Nat.reduceAdd, List.append_assoc, tChain, tDIn, tDNotIn, sDDel, tAug, ipI, rInt1_int, rInt1_bl, startF, tSupI, tJs, tFmt, tOst]
    have z0 : Str.empty.length = 0 := rfl
    have s0 : (Str.ofString "not within the bound of ").length = 24 := by decide +kernel
    refine ⟨ha, small ?_, il, small ?_, by decide, ha, C, T.ox, n1, .inl ⟨ha, q⟩⟩
    all_goals (simp only [len_app, z0, s0]; omega)
abbrev s_BadName_init : Stmt := mtop 3 0
theorem sc_BadName_init : NScope ["self", "name", "__class__"] ["self", "name"] ["__class__"] (defScope s_BadName_init) := nscope_by (by decide +kernel)
theorem ok_BadName_init {P : Program} {w : World} {K : PySem.W.Frag} {mg : Str → Option Value} {base : Heap} {CX : CXT} {f cc cda C : Addr} {fd : FuncData} (F : FunX K "__init__" "BadName.__init__" s_BadName_init f fd cc cda C) (T : ErrC K C) (G : CodeF K P cda) (hsup : mg "super" = none) (n1 : PySem.W.findIn K (.ref C) "name" = some none) {Pf : V → Prop} :
    FnOk P w K mg base CX 1 f fd ["self", "name"] (spErr1 C "name" Pf) := by
  have F0 := F
  obtain ⟨oc, od, kV, doc, pm, an, ct, osl, hfd, lk, hcd⟩ := F0.ex
  obtain ⟨cl, cld, csl, hcc⟩ := F0.cell
  refine F.ok sc_BadName_init (fun vs H Q E h => ?_) (fun A outer s H vs Q E hr h => ?_)
  · obtain ⟨a, v, rfl, _⟩ := h
    rfl
  · obtain ⟨a, v, rfl, hp, ha, q⟩ := h
    refine ⟨_, psat_cons (psat_sup T G lk (by rw [hfd]; rfl) hcc hsup rfl rfl rfl rfl rfl rfl rfl (pa_cons pe_str pa_nil) rfl rfl rfl rfl rfl) (pss_one (ps_ost (pv 0) (pv 1))), ?_⟩
    try simp (maxSteps := 1000000) only [tSeq, tIfS, tTest, tOp, tUn, tCB, tCons, tNil, tVar, tC, rI0, rI, rU, rEq, rNe, tRet, tRetN, tAsg, gName, gSub, tBM, tBM0, tNext, tB, tNot, tAnd, tOr, tIf, tCall, tDrop, tBreak, tCont, L2.start, tDGet, sDPut, tTup, tLst, tDNewK, tRevL, rCat, rAppend, rPop, rSetL, tAndV, tOrV, tNotV, tSl, tPart, tNoPart, tM1, gTup, gCons, gNil, cxK, cxnK, List.map_cons, List.map_nil, List.length_cons, List.length_nil, List.replicate, List.cons_append, List.nil_append, List.append_nil, List.set_cons_zero, List.set_cons_succ, List.getElem?_cons_zero, List.getElem?_cons_succ, Option.some.injEq, V.ref.injEq, V.int.injEq, V.str.injEq, V.bl.injEq, V.ty.injEq, exists_eq_left', exists_eq_left, exists_and_left, List.cons.injEq, and_true, true_and, sc_ii, sc_ss, sc_bb, sc_ni, sc_in, sc_is, sc_si, sc_nn, decide_true, decide_false, reduceCtorEq, Bool.false_eq_true, if_true, if_false, ite_true, ite_false, exists_const, eq_self, false_and, and_false, or_false, false_or, exists_false, Evl.rLenS, rSum, wipe, tYes, exists_eq, exists_eq', rIxL, rIxT, rIxS, exists_and_right, gt_iff_lt, not_true_eq_false, not_false_eq_true, Bool.not_true, Bool.not_false, decide_eq_true_eq, Nat.reduceSub, Nat.reduceAdd, List.append_assoc, tChain, tDIn, tDNotIn, sDDel, tAug, ipI, rInt1_int, rInt1_bl, startF, tSupI, tOst]
    exact ⟨ha, by decide, ha, C, T.ox, n1, .inl ⟨ha, q⟩⟩
abbrev s_BadEntry_init : Stmt := mtop 5 0
theorem sc_BadEntry_init : NScope ["self", "entry", "__class__"] ["self", "entry"] ["__class__"] (defScope s_BadEntry_init) := nscope_by (by decide +kernel)
theorem ok_BadEntry_init {P : Program} {w : World} {K : PySem.W.Frag} {mg : Str → Option Value} {base : Heap} {CX : CXT} {f cc cda C : Addr} {fd : FuncData} (F : FunX K "__init__" "BadEntry.__init__" s_BadEntry_init f fd cc cda C) (T : ErrC K C) (G : CodeF K P cda) (hsup : mg "super" = none) (n1 : PySem.W.findIn K (.ref C) "entry" = some none) {Pf : V → Prop} :
    FnOk P w K mg base CX 1 f fd ["self", "entry"] (spErr1 C "entry" Pf) := by
  have F0 := F
  obtain ⟨oc, od, kV, doc, pm, an, ct, osl, hfd, lk, hcd⟩ := F0.ex
  obtain ⟨cl, cld, csl, hcc⟩ := F0.cell
  refine F.ok sc_BadEntry_init (fun vs H Q E h => ?_) (fun A outer s H vs Q E hr h => ?_)
  · obtain ⟨a, v, rfl, _⟩ := h
    rfl
  · obtain ⟨a, v, rfl, hp, ha, q⟩ := h
    refine ⟨_, psat_cons (psat_sup T G lk (by rw [hfd]; rfl) hcc hsup rfl rfl rfl rfl rfl rfl rfl (pa_cons pe_str pa_nil) rfl rfl rfl rfl rfl) (pss_one (ps_ost (pv 0) (pv 1))), ?_⟩
    try simp (maxSteps := 1000000) only [tSeq, tIfS, tTest, tOp, tUn, tCB, tCons, tNil, tVar, tC, rI0, rI, rU, rEq, rNe, tRet, tRetN, tAsg, gName, gSub, tBM, tBM0, tNext, tB, tNot, tAnd, tOr, tIf, tCall, tDrop, tBreak, tCont, L2.start, tDGet, sDPut, tTup, tLst, tDNewK, tRevL, rCat, rAppend, rPop, rSetL, tAndV, tOrV, tNotV, tSl, tPart, tNoPart, tM1, gTup, gCons, gNil, cxK, cxnK, List.map_cons, List.map_nil, List.length_cons, List.length_nil, List.replicate, List.cons_append, List.nil_append, List.append_nil, List.set_cons_zero, List.set_cons_succ, List.getElem?_cons_zero, List.getElem?_cons_succ, Option.some.injEq, V.ref.injEq, V.int.injEq, V.str.injEq, V.bl.injEq, V.ty.injEq, exists_eq_left', exists_eq_left, exists_and_left, List.cons.injEq, and_true, true_and, sc_ii, sc_ss, sc_bb, sc_ni, sc_in, sc_is, sc_si, sc_nn, decide_true, decide_false, reduceCtorEq, Bool.false_eq_true, if_true, if_false, ite_true, ite_false, exists_const, eq_self, false_and, and_false, or_false, false_or, exists_false, Evl.rLenS, rSum, wipe, tYes, exists_eq, exists_eq', rIxL, rIxT, rIxS, exists_and_right, gt_iff_lt, not_true_eq_false, not_false_eq_true, Bool.not_true, Bool.not_false, decide_eq_true_eq, Nat.reduceSub, Nat.reduceAdd, List.append_assoc, tChain, tDIn, tDNotIn, sDDel, tAug, ipI, rInt1_int, rInt1_bl, startF, tSupI, tOst]
    exact ⟨ha, by decide, ha, C, T.ox, n1, .inl ⟨ha, q⟩⟩
def SmallI (v : V) : Prop := ∃ i : Int, v = .int i ∧ 0 ≤ i ∧ i ≤ 5000
/-- lists, tuples and dicts stand still -/
def isDat : HO → Prop
  | .lst _ => True
  | .tup _ => True
  | .dT _ => True
  | _ => False
def Kd (H H' : Hp) : Prop := ∀ a x, isDat x → H a = some x → H' a = some x
theorem Kd.refl (H : Hp) : Kd H H := fun _ _ _ h => h
theorem Kd.trans {H H1 H2 : Hp} (a : Kd H H1) (b : Kd H1 H2) : Kd H H2 := fun c o hc h => b c o hc (a c o hc h)
theorem Kp.kd {H H' : Hp} (k : Kp [] H H') : Kd H H' := fun a x _ h => k a x not0 h
theorem Kd.putI {H : Hp} {o C dx : Addr} {fs : List (Str × V)} {u : HO} (h : H o = some (.ins C dx fs)) : Kd H (upd H o u) := fun a x hx e => by
  rw [upd_ne (fun z => ?_)]
  · exact e
  · rw [z, h] at e; cases e; exact hx
theorem Kd.tps {H H' : Hp} (k : Kd H H') : Tp H H' := fun a xs h => k a _ True.intro h

mutual
theorem Dq.kd {H H' : Hp} (k : Kd H H') : ∀ {d : PyData} {v : V}, Dq H v d → Dq H' v d
  | _, _, .non => .non
  | _, _, .bl b => .bl b
  | _, _, .int i => .int i
  | _, _, .str x => .str x
  | _, _, .lst e h => .lst (k _ _ True.intro e) (DqAll.kd k h)
  | _, _, .tup e h => .tup (k _ _ True.intro e) (DqAll.kd k h)
theorem DqAll.kd {H H' : Hp} (k : Kd H H') : ∀ {ds : List PyData} {vs : List V}, DqAll H vs ds → DqAll H' vs ds
  | _, _, .nil => .nil
  | _, _, .cons h t => .cons (Dq.kd k h) (DqAll.kd k t)
end
/-- data that the laws of this package draw -/
abbrev ShD (d : PyData) : Prop := Sh 20 1000 d
/-- the name that stands there, where it is a good one -/
def nmOf : PyData → Option Str
  | .str z => if nameS z then some z else none
  | _ => none
/-- the first that is no name or was told before -/
def lkBad : List Str → List PyData → Option PyData
  | _, [] => none
  | seen, d :: r => match nmOf d with
    | some z => if z ∈ seen then some d else lkBad (seen ++ [z]) r
    | none => some d
def nameD : PyData → Bool
  | .str z => nameS z
  | _ => false
theorem nm_none {d : PyData} (h : nameD d = false) : nmOf d = none := by
  cases d with
  | str z => simp only [nmOf, show nameS z = false from h]; rfl
  | _ => rfl
theorem nm_some {d : PyData} (h : nameD d = true) : ∃ z, d = .str z ∧ nameS z = true ∧ nmOf d = some z := by
  cases d with
  | str z => exact ⟨z, rfl, h, by simp only [nmOf, show nameS z = true from h]; rfl⟩
  | _ => cases h
/-- where the first i are good names -/
structure LkTo (lds : List PyData) (i : Nat) (zs : List Str) : Prop where
  bad : lkBad [] lds = lkBad zs (lds.drop i)
  len : zs.length = i
  tk : lds.take i = zs.map PyData.str
  nd : zs.Nodup
  nm : ∀ z ∈ zs, nameS z = true
theorem LkTo.zero {lds : List PyData} : LkTo lds 0 [] := ⟨rfl, rfl, rfl, List.nodup_nil, fun _ h => nomatch h⟩
theorem LkTo.noN {lds : List PyData} {i : Nat} {zs : List Str} {d : PyData} (h : LkTo lds i zs) (e : lds[i]? = some d) (n : nameD d = false) : lkBad [] lds = some d := by
  obtain ⟨hi, eg⟩ := List.getElem?_eq_some_iff.mp e
  rw [h.bad, List.drop_eq_getElem_cons hi, eg]
  simp only [lkBad, nm_none n]
theorem LkTo.twice {lds : List PyData} {i : Nat} {zs : List Str} {z : Str} (h : LkTo lds i zs) (e : lds[i]? = some (.str z)) (n : nameS z = true) (m : z ∈ zs) : lkBad [] lds = some (.str z) := by
  obtain ⟨hi, eg⟩ := List.getElem?_eq_some_iff.mp e
  rw [h.bad, List.drop_eq_getElem_cons hi, eg]
  simp only [lkBad, nmOf, n, if_true, if_pos m]
theorem LkTo.next {lds : List PyData} {i : Nat} {zs : List Str} {z : Str} (h : LkTo lds i zs) (e : lds[i]? = some (.str z)) (n : nameS z = true) (m : z ∉ zs) : LkTo lds (i + 1) (zs ++ [z]) := by
  obtain ⟨hi, eg⟩ := List.getElem?_eq_some_iff.mp e
  refine ⟨?_, by rw [List.length_append, h.len]; rfl, ?_, List.nodup_append.mpr ⟨h.nd, by simp, fun a ha b hb e => m (by rw [← List.mem_singleton.mp hb, ← e]; exact ha)⟩, fun y hy => ?_⟩
  · rw [h.bad, List.drop_eq_getElem_cons hi, eg]
    simp only [lkBad, nmOf, n, if_true, if_neg m]
  · rw [List.take_add_one, e, h.tk, List.map_append]; rfl
  · rcases List.mem_append.mp hy with hy | hy
    · exact h.nm y hy
    · rw [List.mem_singleton.mp hy]; exact n
theorem LkTo.all {lds : List PyData} {zs : List Str} (h : LkTo lds lds.length zs) (n1 : 1 ≤ lds.length) (n3 : lds.length ≤ 3) : lds = zs.map PyData.str ∧ LkOk zs ∧ lkBad [] lds = none := by
  refine ⟨by rw [← h.tk, List.take_length], ⟨by rw [h.len]; exact n1, by rw [h.len]; exact n3, h.nd, h.nm⟩, ?_⟩
  rw [h.bad, List.drop_length]; rfl
section
variable {P : Program} {w : World} {K : PySem.W.Frag} {mg : Str → Option Value} {base : Heap} {tL t3 : Tok} {RC OL TL BN BE : Addr}
def spNmD : Sp := fun vs H Q _ => ∃ (v : V) (d : PyData), vs = [v] ∧ Dq H v d ∧ ShD d ∧ ∀ H', Kp [] H H' → Q (.bl (nameD d)) H'
theorem okd_is_name {f : Addr} {fd : FuncData} (D : Df K mg "is_name" s_is_name ["value"] f fd) (T : Bt mg tL t3) : FnOk P w K mg base CX0 1 f fd ["value"] spNmD := by
  refine D.F.ok sc_is_name (fun vs H Q E h => ?_) (fun cdv A outer s H vs Q E hr h => ?_)
  · obtain ⟨a, m, rfl, _⟩ := h
    rfl
  · obtain ⟨v, d, rfl, hd, sz, q⟩ := h
    have hu := hu_of hr
    refine ⟨_, (pss_cons (ps_if (pt_not (pt_val (pe_callB (id := "isinstance") (r := rIsi K) call_isi (by rfl) T.b_isinstance (by decide +kernel) (pa_cons (pv 0) (pa_cons (pe_bltn (v := .ty "str") (by rfl) T.b_str (by decide +kernel) rfl) pa_nil))))) (pss_one (ps_ret pe_bl)) pss_nil)
      (pss_one (ps_ret (pe_and (pe_chain op_le op_le pe_int (pe_callB (id := "len") call_len_str (by rfl) T.b_len PySem.boot_len (pa_cons (pv 0) pa_nil)) pe_int) (pe_one (pe_callB (id := "all") (r := rAll K) (cr_all rfl) (by rfl) T.b_all (by decide +kernel) (pa_cons (pe_lc (own := [("letter", 1)]) (g := (gName 1)) (tt := tYes) rfl sc_is_name.nd (pi_str (pv 0)) (blkOk_by (N := ["value", "letter"]) (sc := defScope s_is_name) (by decide +kernel)) (fun _ _ _ _ _ => (pg_name (i := 1) sc_is_name.nd rfl (Or.inl rfl))) (fun _ _ _ _ _ => pts_nil) (fun _ _ _ _ _ => (pe_cmpR op_in_sign (pv 1) (pe_glob (v := .str lets) rfl T.c_LETTERS ⟨_, rfl⟩) (by rfl)))) pa_nil))))))), ?_⟩
    try simp (maxSteps := 1000000) only [tSeq, tIfS, tTest, tOp, tUn, tCB, tCons, tNil, tVar, tC, rI0, rI, rU, rEq, rNe, tRet, tRetN, tAsg, gName, gSub, tBM, tBM0, tNext, tB, tNot, tAnd, tOr, tIf, tCall, tDrop, tBreak, tCont, L2.start, tDGet, sDPut, tTup, tLst, tDNewK, tRevL, rCat, rAppend, rPop, rSetL, tAndV, tOrV, tNotV, tSl, tPart, tNoPart, tM1, gTup, gCons, gNil, cxK, cxnK, List.map_cons, List.map_nil, List.length_cons, List.length_nil, List.replicate, List.cons_append, List.nil_append, List.append_nil, List.set_cons_zero, List.set_cons_succ, List.getElem?_cons_zero, List.getElem?_cons_succ, Option.some.injEq, V.ref.injEq, V.int.injEq, V.str.injEq, V.bl.injEq, V.ty.injEq, exists_eq_left', exists_eq_left, exists_and_left, List.cons.injEq, and_true, true_and, sc_ii, sc_ss, sc_bb, sc_ni, sc_in, sc_is, sc_si, sc_nn, decide_true, decide_false, reduceCtorEq, Bool.false_eq_true, if_true, if_false, ite_true, ite_false, exists_const, eq_self, false_and, and_false, or_false, false_or, exists_false, Evl.rLenS, rSum, wipe, tYes, exists_eq, exists_eq', rIxL, rIxT, rIxS, exists_and_right, gt_iff_lt, not_true_eq_false, not_false_eq_true, Bool.not_true, Bool.not_false, decide_eq_true_eq, Nat.reduceSub, Nat.reduceAdd, List.append_assoc, tChain, tDIn, tDNotIn, sDDel, tAug, ipI, rInt1_int, rInt1_bl]
    refine isi_Dstr hd ?_
    try simp (maxSteps := 1000000) only [tSeq, tIfS, tTest, tOp, tUn, tCB, tCons, tNil, tVar, tC, rI0, rI, rU, rEq, rNe, tRet, tRetN, tAsg, gName, gSub, tBM, tBM0, tNext, tB, tNot, tAnd, tOr, tIf, tCall, tDrop, tBreak, tCont, L2.start, tDGet, sDPut, tTup, tLst, tDNewK, tRevL, rCat, rAppend, rPop, rSetL, tAndV, tOrV, tNotV, tSl, tPart, tNoPart, tM1, gTup, gCons, gNil, cxK, cxnK, List.map_cons, List.map_nil, List.length_cons, List.length_nil, List.replicate, List.cons_append, List.nil_append, List.append_nil, List.set_cons_zero, List.set_cons_succ, List.getElem?_cons_zero, List.getElem?_cons_succ, Option.some.injEq, V.ref.injEq, V.int.injEq, V.str.injEq, V.bl.injEq, V.ty.injEq, exists_eq_left', exists_eq_left, exists_and_left, List.cons.injEq, and_true, true_and, sc_ii, sc_ss, sc_bb, sc_ni, sc_in, sc_is, sc_si, sc_nn, decide_true, decide_false, reduceCtorEq, Bool.false_eq_true, if_true, if_false, ite_true, ite_false, exists_const, eq_self, false_and, and_false, or_false, false_or, exists_false, Evl.rLenS, rSum, wipe, tYes, exists_eq, exists_eq', rIxL, rIxT, rIxS, exists_and_right, gt_iff_lt, not_true_eq_false, not_false_eq_true, Bool.not_true, Bool.not_false, decide_eq_true_eq, Nat.reduceSub, Nat.reduceAdd, List.append_assoc, tChain, tDIn, tDNotIn, sDDel, tAug, ipI, rInt1_int, rInt1_bl]
    cases hd with
    | str z =>
      try simp (maxSteps := 1000000) only [tSeq, tIfS, tTest, tOp, tUn, tCB, tCons, tNil, tVar, tC, rI0, rI, rU, rEq, rNe, tRet, tRetN, tAsg, gName, gSub, tBM, tBM0, tNext, tB, tNot, tAnd, tOr, tIf, tCall, tDrop, tBreak, tCont, L2.start, tDGet, sDPut, tTup, tLst, tDNewK, tRevL, rCat, rAppend, rPop, rSetL, tAndV, tOrV, tNotV, tSl, tPart, tNoPart, tM1, gTup, gCons, gNil, cxK, cxnK, List.map_cons, List.map_nil, List.length_cons, List.length_nil, List.replicate, List.cons_append, List.nil_append, List.append_nil, List.set_cons_zero, List.set_cons_succ, List.getElem?_cons_zero, List.getElem?_cons_succ, Option.some.injEq, V.ref.injEq, V.int.injEq, V.str.injEq, V.bl.injEq, V.ty.injEq, exists_eq_left', exists_eq_left, exists_and_left, List.cons.injEq, and_true, true_and, sc_ii, sc_ss, sc_bb, sc_ni, sc_in, sc_is, sc_si, sc_nn, decide_true, decide_false, reduceCtorEq, Bool.false_eq_true, if_true, if_false, ite_true, ite_false, exists_const, eq_self, false_and, and_false, or_false, false_or, exists_false, Evl.rLenS, rSum, wipe, tYes, exists_eq, exists_eq', rIxL, rIxT, rIxS, exists_and_right, gt_iff_lt, not_true_eq_false, not_false_eq_true, Bool.not_true, Bool.not_false, decide_eq_true_eq, Nat.reduceSub, Nat.reduceAdd, List.append_assoc, tChain, tDIn, tDNotIn, sDDel, tAug, ipI, rInt1_int, rInt1_bl, isStrD]
      have zs : z.cps.toList.length = z.length := Array.length_toList
      have zl : z.length ≤ 1000 := sz.blk
      have q' : ∀ H', Kp [] H H' → Q (.bl (nameS z)) H' := q
      unfold nameS at q'
      refine ⟨small (by omega), ?_⟩
      by_cases h1 : 1 ≤ z.length
      · by_cases h8 : z.length ≤ 8
        · have e1 : (1 : Int) ≤ (z.length : Nat) := by omega
          have e8 : ((z.length : Nat) : Int) ≤ 8 := by omega
          rw [decide_eq_true h1, decide_eq_true h8] at q'
          rw [if_pos e1, if_pos e8]
          refine ⟨.str z, rfl, z, rfl, fun o no => lc_it walk_str (LowIn z o H) ⟨upd_same, Kp.new no⟩ (fun _ _ _ _ => True.intro) ?_ ?_⟩
          · rintro i x H1 H2 hi ⟨ho, kp⟩ ⟨rfl, c, hc, rfl⟩
            try simp (maxSteps := 1000000) only [tSeq, tIfS, tTest, tOp, tUn, tCB, tCons, tNil, tVar, tC, rI0, rI, rU, rEq, rNe, tRet, tRetN, tAsg, gName, gSub, tBM, tBM0, tNext, tB, tNot, tAnd, tOr, tIf, tCall, tDrop, tBreak, tCont, L2.start, tDGet, sDPut, tTup, tLst, tDNewK, tRevL, rCat, rAppend, rPop, rSetL, tAndV, tOrV, tNotV, tSl, tPart, tNoPart, tM1, gTup, gCons, gNil, cxK, cxnK, List.map_cons, List.map_nil, List.length_cons, List.length_nil, List.replicate, List.cons_append, List.nil_append, List.append_nil, List.set_cons_zero, List.set_cons_succ, List.getElem?_cons_zero, List.getElem?_cons_succ, Option.some.injEq, V.ref.injEq, V.int.injEq, V.str.injEq, V.bl.injEq, V.ty.injEq, exists_eq_left', exists_eq_left, exists_and_left, List.cons.injEq, and_true, true_and, sc_ii, sc_ss, sc_bb, sc_ni, sc_in, sc_is, sc_si, sc_nn, decide_true, decide_false, reduceCtorEq, Bool.false_eq_true, if_true, if_false, ite_true, ite_false, exists_const, eq_self, false_and, and_false, or_false, false_or, exists_false, Evl.rLenS, rSum, wipe, tYes, exists_eq, exists_eq', rIxL, rIxT, rIxS, exists_and_right, gt_iff_lt, not_true_eq_false, not_false_eq_true, Bool.not_true, Bool.not_false, decide_eq_true_eq, Nat.reduceSub, Nat.reduceAdd, List.append_assoc, tChain, tDIn, tDNotIn, sDDel, tAug, ipI, rInt1_int, rInt1_bl]
            refine ⟨c, rfl, _, ho, ?_, ?_, kp.wr no⟩
            · rw [List.length_map, List.length_take, zs]; exact smallL (by omega)
            · rw [upd_same, lets_mem, take_snoc (x := c) (by rw [← hc]; simp), List.map_append]; rfl
          · rintro H1 ⟨ho, kp⟩
            have q2 := q' H1 kp
            rw [← all_take] at q2
            refine ⟨_, z.cps.toList.map lowC, rfl, sq_l (ho.trans ?_), ?_⟩
            · rw [List.take_of_length_le (by simp), List.map_map]; rfl
            · simpa using q2
        · have e1 : (1 : Int) ≤ (z.length : Nat) := by omega
          have e8 : ¬ ((z.length : Nat) : Int) ≤ 8 := by omega
          rw [decide_eq_true h1, decide_eq_false h8] at q'
          rw [if_pos e1, if_neg e8]
          exact q' _ (Kp.refl _ _)
      · have e1 : ¬ (1 : Int) ≤ (z.length : Nat) := by omega
        rw [decide_eq_false h1] at q'
        rw [if_neg e1]
        exact q' _ (Kp.refl _ _)
    | _ => exact q H (Kp.refl _ _)


theorem dq_strs {H : Hp} : ∀ {zs : List Str} {us : List V}, DqAll H us (zs.map PyData.str) → us = zs.map V.str
  | [], _, h => by cases h; rfl
  | z :: zs, _, h => by
    cases h with
    | cons a t =>
      cases a
      rw [dq_strs t]; rfl
theorem dq_take {H : Hp} : ∀ {us : List V} {ds : List PyData} (i : Nat), DqAll H us ds → DqAll H (us.take i) (ds.take i)
  | _, _, 0, _ => by rw [List.take_zero, List.take_zero]; exact .nil
  | _, _, i + 1, .nil => .nil
  | _, _, i + 1, .cons a t => .cons a (dq_take i t)
theorem Sh.fk {k b : Nat} {d : PyData} (h : Sh k b d) : Fk k d := ⟨h.lay, h.dep⟩
theorem shp_lst {ds : List PyData} (h : ∀ d ∈ ds, ShD d) : SeqAt.shaped (.list ds) = true := (fk_lst (k := 20) fun d hd => (h d hd).fk).sh (by decide)
/-- an entry of a rule over these locks -/
noncomputable def isEn (zs : List Str) (d : PyData) : Bool := (ens zs.length).any fun e => PyData.eqv (eD zs e) d
noncomputable def enBad (zs : List Str) (ds : List PyData) : Option PyData := ds.find? fun d => !isEn zs d
theorem nin_data {H : Hp} {Q : VK} (zs : List Str) {d : PyData} {v : V} {l : Addr} {us : List V} (sd : ShD d) (hb : ∀ e ∈ ens zs.length, belowE zs.length e) (L : LkOk zs) (hd : Dq H v d) (hl : SqL K H l us) (hu : Rw (ET zs H) us (ens zs.length)) (q : Q (.bl (!isEn zs d)) H) : rNotInD K v (.ref l) H Q :=
  ⟨_, _, hd.dp, .lst hl (rw_dp (fun _ _ z => z.dp) hu), sd.fk.sh (by decide), (fk_lst (k := 3) fun d hd => by obtain ⟨g, hg', rfl⟩ := List.mem_map.mp hd; exact fk_eD L (hb g hg')).sh (by decide), by
    have e : ((ens zs.length).map (eD zs)).any (fun z => PyData.eqv z d) = isEn zs d := by rw [List.any_map]; rfl
    rw [e]; exact q⟩
theorem inS_data {H : Hp} {Q : VK} {x : V} {e : PyData} {l : Addr} {us : List V} {ds : List PyData} (sd : ∀ d ∈ ds, ShD d) (hl : SqAny K H l us) (hu : DqAll H us ds) (hx : Dp K H x e) (se : SeqAt.shaped e = true) (q : Q (.bl (ds.any fun z => PyData.eqv z e)) H) : rInS K false x (.ref l) H Q :=
  ⟨_, _, l, us, rfl, hl, hu.dp, hx, se, shp_lst sd, by
    simp only [Bool.false_eq_true, if_false]
    exact q⟩
def spRuID (RC TL BN BE : Addr) (K : PySem.W.Frag) : Sp := fun vs H Q E => ∃ (o dx la ea : Addr) (lus us : List V) (lds ds : List PyData), vs = [.ref o, .ref la, .ref ea] ∧ H o = some (.ins RC dx []) ∧ H la = some (.tup lus) ∧ DqAll H lus lds ∧ SqAny K H ea us ∧ DqAll H us ds ∧ (∀ d ∈ lds, ShD d) ∧ (∀ d ∈ ds, ShD d) ∧ lds.length ≤ 100 ∧ ds.length ≤ 100 ∧
  (¬ (1 ≤ lds.length ∧ lds.length ≤ 3) → ∀ (e : Addr) (H' : Hp), H e = none → H' e = some (.xd [("bound", .int 3)]) → Kp [] H H' → E (.ref TL) (some e) H') ∧
  (∀ d v, 1 ≤ lds.length → lds.length ≤ 3 → lkBad [] lds = some d → ∀ (e : Addr) (H' : Hp), H e = none → H' e = some (.xd [("name", v)]) → Dq H' v d → Kp [] H H' → E (.ref BN) (some e) H') ∧
  (∀ zs d v, lds = zs.map PyData.str → LkOk zs → lkBad [] lds = none → enBad zs ds = some d → ∀ (e : Addr) (H' : Hp), H e = none → H' e = some (.xd [("entry", v)]) → Dq H' v d → Kp [o] H H' → E (.ref BE) (some e) H') ∧
  (∀ zs, lds = zs.map PyData.str → LkOk zs → lkBad [] lds = none → enBad zs ds = none → ∀ H', Kp [o] H H' → Q .non H')
theorem okd_Rule_init {f : Addr} {fd : FuncData} {dvs : List V} (F : FunD K "__init__" "Rule.__init__" (defArgs s_Rule_init) (defBody s_Rule_init) (defScope s_Rule_init) dvs [] f fd) (T : Bt mg tL t3) (RR : RuC K mg RC) {fT fN fE : Addr} {fdT fdN fdE : FuncData} (E_TooLarge : Er1 P w K mg base "TooLarge" "bound" TL fT fdT ["self", "bound"] SmallI) (E_BadName : Er1 P w K mg base "BadName" "name" BN fN fdN ["self", "name"] fun _ => True) (E_BadEntry : Er1 P w K mg base "BadEntry" "entry" BE fE fdE ["self", "entry"] fun _ => True)
    {f1 : Addr} {fd1 : FuncData} (D_all_entries : Df K mg "all_entries" s_all_entries ["locks"] f1 fd1) (G_all_entries : FnOk P w K mg base CX0 3 f1 fd1 ["locks"] (spEnts K)) {f2 : Addr} {fd2 : FuncData} (D_is_name : Df K mg "is_name" s_is_name ["value"] f2 fd2) (G_is_name : FnOk P w K mg base CX0 1 f2 fd2 ["value"] spNmD) : FnOk P w K mg base (L2.CX P w) 4 f fd ["self", "locks", "entries"] (spRuID RC TL BN BE K) := by
  refine FunD.ok (CX := L2.CX P w) F sc_Rule_init (fun vs H Q E h => ?_) (fun cdv A outer s H vs Q E hr h => ?_)
  · obtain ⟨_, _, _, _, _, _, _, _, rfl, _⟩ := h
    rfl
  · obtain ⟨o, dx, la, ea, lus, us, lds, ds, rfl, ho, hla, hld, hea, hds, sl, sd, l100, d100, qT, qN, qE, qG⟩ := h
    have hu := hu_of hr
    refine ⟨_, (pss_cons (ps_if (pt_not (pt_chain op_le op_le pe_int (pe_callB (id := "len") (r := Evl.rLenS K) call_len_seq (by rfl) T.b_len PySem.boot_len (pa_cons (pv 1) pa_nil)) (pe_glob (v := .int 3) rfl T.c_MOST_LOCKS ⟨_, rfl⟩))) (pss_one (ps_raise rfl (takes_of rfl rfl rfl rfl) (pmk_oex E_TooLarge.ox E_TooLarge.ic E_TooLarge.ti E_TooLarge.G (hr.mono (by decide)) E_TooLarge.b .nil passL rfl E_TooLarge.k (pa_cons (pe_glob (v := .int 3) rfl T.c_MOST_LOCKS ⟨_, rfl⟩) pa_nil)))) pss_nil)
      (pss_cons (ps_for (passes_of rfl) rfl (pi_enumT rfl T.b_enumerate (pa_cons (pv 1) pa_nil)) (pg_tup (n := 2) (by rfl) (pgs_cons (pg_name (i := 3) sc_Rule_init.nd rfl (Or.inl rfl)) (pgs_cons (pg_name (i := 4) sc_Rule_init.nd rfl (Or.inl rfl)) pgs_nil))) (pss_one (ps_if (PW.pt (pw_or (pt_not (pt_val (pe_call G_is_name (hr.mono (by decide)) rfl D_is_name.g D_is_name.F.kp D_is_name.b .nil pass0 (pa_cons (pv 4) pa_nil)))) (pw_or1 (pt_cmpR op_in_seq (pv 4) (pe_slice sl_tupA (pv 1) po_none (po_some (pv 3))) (by rfl))))) (pss_one (ps_raise rfl (takes_of rfl rfl rfl rfl) (pmk_oex E_BadName.ox E_BadName.ic E_BadName.ti E_BadName.G (hr.mono (by decide)) E_BadName.b .nil passL rfl E_BadName.k (pa_cons (pv 4) pa_nil)))) pss_nil)))
      (pss_cons (ps_fld (pv 0) (pe_callTy call_list_of (by rfl) T.b_list (by decide +kernel) (pa_cons (pv 1) pa_nil)) rfl)
      (pss_cons (ps_set (i := 5) sc_Rule_init.nd rfl (Or.inl rfl) (pe_call G_all_entries (hr.mono (by decide)) rfl D_all_entries.g D_all_entries.F.kp D_all_entries.b .nil pass0 (pa_cons (pv 1) pa_nil)))
      (pss_cons (ps_for (passes_of rfl) rfl (pi_seq (pv 2)) (pg_name (i := 6) sc_Rule_init.nd rfl (Or.inl rfl)) (pss_one (ps_if (pt_cmpR (op_notInD (hu5 hr)) (pv 6) (pv 5) (by rfl)) (pss_one (ps_raise rfl (takes_of rfl rfl rfl rfl) (pmk_oex E_BadEntry.ox E_BadEntry.ic E_BadEntry.ti E_BadEntry.G (hr.mono (by decide)) E_BadEntry.b .nil passL rfl E_BadEntry.k (pa_cons (pv 6) pa_nil)))) pss_nil)))
      (pss_one (ps_fld (pv 0) (pe_lc (own := [("entry", 6)]) (g := (gName 6)) rfl sc_Rule_init.nd (pi_list (pv 5)) (blkOk_by (N := ["self", "locks", "entries", "at", "name", "possible", "entry"]) (sc := defScope s_Rule_init) (by decide +kernel)) (fun _ _ _ _ _ => (pg_name (i := 6) sc_Rule_init.nd rfl (Or.inl rfl))) (fun _ _ _ _ _ => (pts_one (pt_cmpR (r := rInS K false) (op_inS (hu5 hr)) (pv 6) (pv 2) (by rfl)))) (fun _ _ _ _ _ => (pv 6))) rfl))))))), ?_⟩
    try simp (maxSteps := 1000000) only [tSeq, tIfS, tTest, tOp, tUn, tCB, tCons, tNil, tVar, tC, rI0, rI, rU, rEq, rNe, tRet, tRetN, tAsg, gName, gSub, tBM, tBM0, tNext, tB, tNot, tAnd, tOr, tIf, tCall, tDrop, tBreak, tCont, L2.start, tDGet, sDPut, tTup, tLst, tDNewK, tRevL, rCat, rAppend, rPop, rSetL, tAndV, tOrV, tNotV, tSl, tPart, tNoPart, tM1, gTup, gCons, gNil, cxK, cxnK, List.map_cons, List.map_nil, List.length_cons, List.length_nil, List.replicate, List.cons_append, List.nil_append, List.append_nil, List.set_cons_zero, List.set_cons_succ, List.getElem?_cons_zero, List.getElem?_cons_succ, Option.some.injEq, V.ref.injEq, V.int.injEq, V.str.injEq, V.bl.injEq, V.ty.injEq, exists_eq_left', exists_eq_left, exists_and_left, List.cons.injEq, and_true, true_and, sc_ii, sc_ss, sc_bb, sc_ni, sc_in, sc_is, sc_si, sc_nn, decide_true, decide_false, reduceCtorEq, Bool.false_eq_true, if_true, if_false, ite_true, ite_false, exists_const, eq_self, false_and, and_false, or_false, false_or, exists_false, Evl.rLenS, rSum, wipe, tYes, exists_eq, exists_eq', rIxL, rIxT, rIxS, exists_and_right, gt_iff_lt, not_true_eq_false, not_false_eq_true, Bool.not_true, Bool.not_false, decide_eq_true_eq, Nat.reduceSub, Nat.reduceAdd, List.append_assoc, tChain, tDIn, tDNotIn, sDDel, tAug, ipI, rInt1_int, rInt1_bl, sFld]
    refine ⟨_, .inr (sq_t hla), ?_⟩
    have ll := hld.len
    rw [ll]
    have errL : ¬ (1 ≤ lds.length ∧ lds.length ≤ 3) → tMkO TL (spErr1 TL (Str.ofString "bound") SmallI) [] (tCons (tC (V.int 3)) tNil) [some (V.ref o), some (V.ref la), some (V.ref ea), none, none, none, none] H fun cls d H' => E cls d H' := fun h =>
      err1_made (P := SmallI) ⟨3, rfl, by decide, by decide⟩ fun e H' ne he k => qT h e H' ne he k
    by_cases n1 : 1 ≤ lds.length
    case neg =>
      rw [if_neg (by omega)]
      exact errL fun z => n1 z.1
    rw [if_pos (by omega)]
    by_cases n3 : lds.length ≤ 3
    case neg =>
      rw [decide_eq_false (by omega), if_pos (by decide)]
      exact errL fun z => n3 z.2
    rw [decide_eq_true (by omega), if_neg (by decide)]
    have tsO : ∀ x xs H1, Kp [o] H H1 → H x = some (.tup xs) → H1 x = some (.tup xs) := fun x xs H1 k e => k _ _ (not1 fun z => by rw [z, ho] at e; cases e) e
    refine ⟨.ref la, rfl, la, _, rfl, sq_t hla, for_it (walk_enumT (K := K) (a := la) (xs := lus)) (fun i σ H' => ∃ c3 c4 zs, σ = [some (.ref o), some (.ref la), some (.ref ea), c3, c4, none, none] ∧ Kp [] H H' ∧ LkTo lds i zs) ⟨none, none, [], rfl, Kp.refl _ _, LkTo.zero⟩ (fun i σ H' _ h => by obtain ⟨_, _, _, _, k, _⟩ := h; exact k.tp not0 (sq_t hla)) ?_ ?_⟩
    · rintro i x σ H1 H2 hi ⟨c3, c4, zs, rfl, k1, lk⟩ ⟨T0, x1, x2, rfl, hT, rfl, hx1, hx2⟩
      cases hx1
      have hx2 : lus[i]? = some x2 := hx2
      obtain ⟨d, ed, hdq⟩ := hld.get hx2
      have kT := (Kp.new hT : Kp [] H1 (upd H1 T0 (.tup [.int (i : Nat), x2])))
      have hT2 : (upd H1 T0 (.tup [.int (i : Nat), x2])) T0 = some (.tup [.int (i : Nat), x2]) := upd_same
      generalize upd H1 T0 (.tup [.int (i : Nat), x2]) = H3 at kT hT2 ⊢
      try simp (maxSteps := 1000000) only [tSeq, tIfS, tTest, tOp, tUn, tCB, tCons, tNil, tVar, tC, rI0, rI, rU, rEq, rNe, tRet, tRetN, tAsg, gName, gSub, tBM, tBM0, tNext, tB, tNot, tAnd, tOr, tIf, tCall, tDrop, tBreak, tCont, L2.start, tDGet, sDPut, tTup, tLst, tDNewK, tRevL, rCat, rAppend, rPop, rSetL, tAndV, tOrV, tNotV, tSl, tPart, tNoPart, tM1, gTup, gCons, gNil, cxK, cxnK, List.map_cons, List.map_nil, List.length_cons, List.length_nil, List.replicate, List.cons_append, List.nil_append, List.append_nil, List.set_cons_zero, List.set_cons_succ, List.getElem?_cons_zero, List.getElem?_cons_succ, Option.some.injEq, V.ref.injEq, V.int.injEq, V.str.injEq, V.bl.injEq, V.ty.injEq, exists_eq_left', exists_eq_left, exists_and_left, List.cons.injEq, and_true, true_and, sc_ii, sc_ss, sc_bb, sc_ni, sc_in, sc_is, sc_si, sc_nn, decide_true, decide_false, reduceCtorEq, Bool.false_eq_true, if_true, if_false, ite_true, ite_false, exists_const, eq_self, false_and, and_false, or_false, false_or, exists_false, Evl.rLenS, rSum, wipe, tYes, exists_eq, exists_eq', rIxL, rIxT, rIxS, exists_and_right, gt_iff_lt, not_true_eq_false, not_false_eq_true, Bool.not_true, Bool.not_false, decide_eq_true_eq, Nat.reduceSub, Nat.reduceAdd, List.append_assoc, tChain, tDIn, tDNotIn, sDDel, tAug, ipI, rInt1_int, rInt1_bl]
      refine ⟨_, sq_t hT2, rfl, _, _, rfl, _, _, rfl, rfl, ?_⟩
      have k13 := k1.trans kT
      refine ⟨_, d, rfl, hdq.kp k13, sl d (List.mem_of_getElem? ed), fun H4 k4 => ⟨nameD d, rfl, ?_⟩⟩
      have k14 := k13.trans k4
      by_cases hn : nameD d = true
      case neg =>
        rw [Bool.not_eq_true] at hn
        rw [hn, if_pos (by decide)]
        exact ⟨x2, rfl, err1_made (P := fun _ => True) trivial fun e H' ne he k => qN d x2 n1 n3 (lk.noN ed hn) e H' (k14.free0 ne) he (hdq.kp (k14.trans k)) (k14.trans k)⟩
      rw [hn, if_neg (by decide)]
      obtain ⟨z, rfl, gz, _⟩ := nm_some hn
      cases hdq
      refine ⟨_, rfl, ?_⟩
      refine slA_to rfl (k14 _ _ not0 hla) fun r H5 hr5 k5 => ?_
      have et : lus.take i = zs.map V.str := dq_strs (H := H) (by rw [← lk.tk]; exact dq_take i hld)
      rw [et] at hr5
      refine ⟨r, _, rfl, .inr (sq_t hr5), rfl, flat_strs zs, ?_⟩
      simp only [Bool.false_eq_true, if_false]
      rw [inV_str]
      refine ⟨_, rfl, ?_⟩
      by_cases m : z ∈ zs
      · rw [decide_eq_true m, if_pos rfl]
        have k15 := k14.trans k5
        exact ⟨.str z, rfl, err1_made (P := fun _ => True) trivial fun e H' ne he k => qN _ _ n1 n3 (lk.twice ed gz m) e H' (k15.free0 ne) he (.str z) (k15.trans k)⟩
      · rw [decide_eq_false m, if_neg (by decide)]
        exact ⟨k14.trans k5, _, lk.next ed gz m⟩
    · rintro σ H1 ⟨c3, c4, zs, rfl, k1, lk⟩
      rw [ll] at lk
      obtain ⟨el, L, bad⟩ := lk.all n1 n3
      have eu : lus = zs.map V.str := dq_strs (H := H) (by rw [← el]; exact hld)
      subst eu
      have EO := factE (n := zs.length) (by have := L.le; omega) L.pos
      have qE := fun d v => qE zs d v el L bad
      have qG := qG zs el L bad
      try simp (maxSteps := 1000000) only [tSeq, tIfS, tTest, tOp, tUn, tCB, tCons, tNil, tVar, tC, rI0, rI, rU, rEq, rNe, tRet, tRetN, tAsg, gName, gSub, tBM, tBM0, tNext, tB, tNot, tAnd, tOr, tIf, tCall, tDrop, tBreak, tCont, L2.start, tDGet, sDPut, tTup, tLst, tDNewK, tRevL, rCat, rAppend, rPop, rSetL, tAndV, tOrV, tNotV, tSl, tPart, tNoPart, tM1, gTup, gCons, gNil, cxK, cxnK, List.map_cons, List.map_nil, List.length_cons, List.length_nil, List.replicate, List.cons_append, List.nil_append, List.append_nil, List.set_cons_zero, List.set_cons_succ, List.getElem?_cons_zero, List.getElem?_cons_succ, Option.some.injEq, V.ref.injEq, V.int.injEq, V.str.injEq, V.bl.injEq, V.ty.injEq, exists_eq_left', exists_eq_left, exists_and_left, List.cons.injEq, and_true, true_and, sc_ii, sc_ss, sc_bb, sc_ni, sc_in, sc_is, sc_si, sc_nn, decide_true, decide_false, reduceCtorEq, Bool.false_eq_true, if_true, if_false, ite_true, ite_false, exists_const, eq_self, false_and, and_false, or_false, false_or, exists_false, Evl.rLenS, rSum, wipe, tYes, exists_eq, exists_eq', rIxL, rIxT, rIxS, exists_and_right, gt_iff_lt, not_true_eq_false, not_false_eq_true, Bool.not_true, Bool.not_false, decide_eq_true_eq, Nat.reduceSub, Nat.reduceAdd, List.append_assoc, tChain, tDIn, tDNotIn, sDDel, tAug, ipI, rInt1_int, rInt1_bl, sFld]
      have ho1 := k1 _ _ not0 ho
      refine ⟨_, .inr (k1.tp not0 (sq_t hla)), fun l nl => ?_⟩
      have kl := (Kp.new nl : Kp [] H1 (upd H1 l (.lst (zs.map V.str))))
      have hl : (upd H1 l (.lst (zs.map V.str))) l = some (.lst (zs.map V.str)) := upd_same
      generalize upd H1 l (.lst (zs.map V.str)) = H2 at kl hl ⊢
      have ho2 := kl _ _ not0 ho1
      refine ⟨RC, dx, [], ho2, RR.cl, RR.n1, by decide, ?_⟩
      have k2 := k1.trans kl
      have nsO : NoSq H2 [o] := noSq1 ho2
      have kw : Kp [o] H2 (upd H2 o (.ins RC dx (putF "_locks" (.ref l) []))) := (Kp.refl [o] _).put List.mem_cons_self
      have ho3 : (upd H2 o (.ins RC dx (putF "_locks" (.ref l) []))) o = some (.ins RC dx [("_locks", .ref l)]) := upd_same
      have kd3 := Kd.putI (u := .ins RC dx (putF "_locks" (.ref l) [])) ho2
      have hla3 := kd3 _ (.tup _) True.intro (k2 _ _ not0 hla)
      have hea3 := (hea.imp (k2.ls not0) (k2.tp not0) : SqAny K H2 ea us).imp (kw.lsN nsO) (kw.tpN nsO)
      have k03 : Kp [o] H (upd H2 o (.ins RC dx (putF "_locks" (.ref l) []))) := (k2.of0).trans kw
      have hds3 := DqAll.kd kd3 (DqAll.kp k2 hds)
      generalize upd H2 o (.ins RC dx (putF "_locks" (.ref l) [])) = H3 at *
      refine ⟨la, zs, rfl, L, .inr (sq_t hla3), fun pl ps H4 npl hpl hps k4 => ?_⟩
      have hbe : ∀ e ∈ ens zs.length, belowE zs.length e := fun e he => (EO.ent e he).1
      refine forS (a := ea) (xs := us) (fun i σ H' => ∃ c6, σ = [some (.ref o), some (.ref la), some (.ref ea), c3, c4, some (.ref pl), c6] ∧ Kp [] H4 H' ∧ enBad zs ds = enBad zs (ds.drop i)) rfl (hea3.imp (k4.ls not0) (k4.tp not0)) ⟨_, rfl, Kp.refl _ _, rfl⟩ (fun j σ' H' h => by obtain ⟨_, _, k, _⟩ := h; exact k) ?_ ?_
      · rintro j x σ H5 hx ⟨c6, rfl, k5, eb⟩
        obtain ⟨d, ed, hdq⟩ := hds3.get hx
        have k35 := k4.trans k5
        obtain ⟨hj, eg⟩ := List.getElem?_eq_some_iff.mp ed
        have sd1 := sd d (List.mem_of_getElem? ed)
        have e2 : enBad zs ds = if isEn zs d then enBad zs (ds.drop (j + 1)) else some d := by
          rw [eb, List.drop_eq_getElem_cons hj, eg]
          unfold enBad
          rw [List.find?_cons]
          cases isEn zs d <;> rfl
        try simp (maxSteps := 1000000) only [tSeq, tIfS, tTest, tOp, tUn, tCB, tCons, tNil, tVar, tC, rI0, rI, rU, rEq, rNe, tRet, tRetN, tAsg, gName, gSub, tBM, tBM0, tNext, tB, tNot, tAnd, tOr, tIf, tCall, tDrop, tBreak, tCont, L2.start, tDGet, sDPut, tTup, tLst, tDNewK, tRevL, rCat, rAppend, rPop, rSetL, tAndV, tOrV, tNotV, tSl, tPart, tNoPart, tM1, gTup, gCons, gNil, cxK, cxnK, List.map_cons, List.map_nil, List.length_cons, List.length_nil, List.replicate, List.cons_append, List.nil_append, List.append_nil, List.set_cons_zero, List.set_cons_succ, List.getElem?_cons_zero, List.getElem?_cons_succ, Option.some.injEq, V.ref.injEq, V.int.injEq, V.str.injEq, V.bl.injEq, V.ty.injEq, exists_eq_left', exists_eq_left, exists_and_left, List.cons.injEq, and_true, true_and, sc_ii, sc_ss, sc_bb, sc_ni, sc_in, sc_is, sc_si, sc_nn, decide_true, decide_false, reduceCtorEq, Bool.false_eq_true, if_true, if_false, ite_true, ite_false, exists_const, eq_self, false_and, and_false, or_false, false_or, exists_false, Evl.rLenS, rSum, wipe, tYes, exists_eq, exists_eq', rIxL, rIxT, rIxS, exists_and_right, gt_iff_lt, not_true_eq_false, not_false_eq_true, Bool.not_true, Bool.not_false, decide_eq_true_eq, Nat.reduceSub, Nat.reduceAdd, List.append_assoc, tChain, tDIn, tDNotIn, sDDel, tAug, ipI, rInt1_int, rInt1_bl]
        refine nin_data zs sd1 hbe L (hdq.kp k35) (sq_l (k5 _ _ not0 hpl)) (hps.mono fun _ _ z => z.tp k5.tps) ⟨_, rfl, ?_⟩
        by_cases en : isEn zs d = true
        · rw [en, if_neg (by decide)]
          rw [en, if_pos rfl] at e2
          exact ⟨k5, e2⟩
        · rw [Bool.not_eq_true] at en
          rw [en, if_pos (by decide)]
          rw [en, if_neg (by decide)] at e2
          have k05 := k03.trans k35.of0
          have ho5 := k35 _ _ not0 ho3
          exact ⟨x, rfl, err1_made (P := fun _ => True) trivial fun e H' ne he k => qE d x e2 e H' (k05.free ne fun a ha => by rw [List.mem_singleton.mp ha]; exact ⟨_, ho5⟩) he (hdq.kp (k35.trans k)) (k05.trans k.of0)⟩
      · rintro σ H5 ⟨c6, rfl, k5, eb⟩
        rw [hds.len, List.drop_length] at eb
        have qG := qG eb
        try simp (maxSteps := 1000000) only [tSeq, tIfS, tTest, tOp, tUn, tCB, tCons, tNil, tVar, tC, rI0, rI, rU, rEq, rNe, tRet, tRetN, tAsg, gName, gSub, tBM, tBM0, tNext, tB, tNot, tAnd, tOr, tIf, tCall, tDrop, tBreak, tCont, L2.start, tDGet, sDPut, tTup, tLst, tDNewK, tRevL, rCat, rAppend, rPop, rSetL, tAndV, tOrV, tNotV, tSl, tPart, tNoPart, tM1, gTup, gCons, gNil, cxK, cxnK, List.map_cons, List.map_nil, List.length_cons, List.length_nil, List.replicate, List.cons_append, List.nil_append, List.append_nil, List.set_cons_zero, List.set_cons_succ, List.getElem?_cons_zero, List.getElem?_cons_succ, Option.some.injEq, V.ref.injEq, V.int.injEq, V.str.injEq, V.bl.injEq, V.ty.injEq, exists_eq_left', exists_eq_left, exists_and_left, List.cons.injEq, and_true, true_and, sc_ii, sc_ss, sc_bb, sc_ni, sc_in, sc_is, sc_si, sc_nn, decide_true, decide_false, reduceCtorEq, Bool.false_eq_true, if_true, if_false, ite_true, ite_false, exists_const, eq_self, false_and, and_false, or_false, false_or, exists_false, Evl.rLenS, rSum, wipe, tYes, exists_eq, exists_eq', rIxL, rIxT, rIxS, exists_and_right, gt_iff_lt, not_true_eq_false, not_false_eq_true, Bool.not_true, Bool.not_false, decide_eq_true_eq, Nat.reduceSub, Nat.reduceAdd, List.append_assoc, tChain, tDIn, tDNotIn, sDDel, tAug, ipI, rInt1_int, rInt1_bl, sFld]
        have k35 := k4.trans k5
        refine lcG (R := ET zs) (R2 := ET zs) (fun _ _ _ _ t h => h.tp t) (fun _ _ _ _ t h => h.tp t) (fun e => ds.any fun z => PyData.eqv z (eD zs e)) id (src_list (fun R q' => ⟨_, rfl, q'⟩) (sq_l (k5 _ _ not0 hpl))) (hps.mono fun _ _ z => z.tp k5.tps) (by have := EO.len; omega) (fun v e H6 N N0 he hv k6 hN hN0 => ?_) fun D us' H6 nD hD hrw k6 => ?_
        · refine ⟨by simp [wipe], ?_⟩
          have k36 := k35.trans k6
          try simp (maxSteps := 1000000) only [tSeq, tIfS, tTest, tOp, tUn, tCB, tCons, tNil, tVar, tC, rI0, rI, rU, rEq, rNe, tRet, tRetN, tAsg, gName, gSub, tBM, tBM0, tNext, tB, tNot, tAnd, tOr, tIf, tCall, tDrop, tBreak, tCont, L2.start, tDGet, sDPut, tTup, tLst, tDNewK, tRevL, rCat, rAppend, rPop, rSetL, tAndV, tOrV, tNotV, tSl, tPart, tNoPart, tM1, gTup, gCons, gNil, cxK, cxnK, List.map_cons, List.map_nil, List.length_cons, List.length_nil, List.replicate, List.cons_append, List.nil_append, List.append_nil, List.set_cons_zero, List.set_cons_succ, List.getElem?_cons_zero, List.getElem?_cons_succ, Option.some.injEq, V.ref.injEq, V.int.injEq, V.str.injEq, V.bl.injEq, V.ty.injEq, exists_eq_left', exists_eq_left, exists_and_left, List.cons.injEq, and_true, true_and, sc_ii, sc_ss, sc_bb, sc_ni, sc_in, sc_is, sc_si, sc_nn, decide_true, decide_false, reduceCtorEq, Bool.false_eq_true, if_true, if_false, ite_true, ite_false, exists_const, eq_self, false_and, and_false, or_false, false_or, exists_false, Evl.rLenS, rSum, wipe, tYes, exists_eq, exists_eq', rIxL, rIxT, rIxS, exists_and_right, gt_iff_lt, not_true_eq_false, not_false_eq_true, Bool.not_true, Bool.not_false, decide_eq_true_eq, Nat.reduceSub, Nat.reduceAdd, List.append_assoc, tChain, tDIn, tDNotIn, sDDel, tAug, ipI, rInt1_int, rInt1_bl]
          refine inS_data (sd := sd) (hea3.imp (k36.ls not0) (k36.tp not0)) (DqAll.kp k36 hds3) hv.dp ((fk_eD L (hbe e he)).sh (by decide)) ⟨_, rfl, ?_⟩
          cases e1 : ds.any fun z => PyData.eqv z (eD zs e) with
          | true =>
            rw [if_pos rfl]
            exact hN e1 _ _ hv (Kp.refl _ _)
          | false =>
            rw [if_neg (by decide)]
            exact hN0 e1 _ (Kp.refl _ _)
        · have k36 := k35.trans k6
          have ho6 := k36 _ _ not0 ho3
          refine ⟨RC, dx, _, ho6, RR.cl, RR.n2, by show 1 < 1000; decide, ?_⟩
          have kw6 : Kp [o] H6 (upd H6 o (.ins RC dx (putF "_entries" (.ref D) [("_locks", .ref l)]))) := (Kp.refl [o] _).put List.mem_cons_self
          exact qG _ ((k03.trans k36.of0).trans kw6)
end
end My

set_option Elab.async false
set_option linter.all false
set_option maxRecDepth 100000
set_option maxHeartbeats 4000000
namespace My
open PySem L2 NdefX StX
abbrev s_law_no_held : Stmt := top 36
theorem sc_law_no_held : FnScope ["_law_rule", "_law_held", "_law_following", "e"] ["_law_rule", "_law_held"] (defScope s_law_no_held) := ⟨rfl, rfl, rfl, by decide +kernel, rfl, by decide +kernel, by decide +kernel⟩
/-- what is held at some time -/
noncomputable def isHd (zs : List Str) (d : PyData) : Bool := (hls zs.length).any fun h => PyData.eqv (hD zs h) d
structure BtN (K : PySem.W.Frag) (mg : Str → Option Value) (CE OL BE BN : Addr) : Prop where
  b_isinstance : mg "isinstance" = none
  b_repr : mg "repr" = none
  k_CoreError : mg "CoreError" = some (.ref CE)
  k_OtherLocks : mg "OtherLocks" = some (.ref OL)
  k_BadEntry : mg "BadEntry" = some (.ref BE)
  k_BadName : mg "BadName" = some (.ref BN)
  EXE : PySem.W.exmOne K (.ref BE) (.ref BE) = some true
  KE : KitC K BE
  e1 : PySem.W.kitOne K (.ref BE) (.ref CE) = some true
  e2 : PySem.W.kitAny K (.ref BE) [.ref BN, .ref OL] = some false
  XF_BadEntry : XfC K BE
  NO_entry : PySem.W.findIn K (.ref BE) "entry" = some none
section
variable {P : Program} {w : World} {K : PySem.W.Frag} {mg : Str → Option Value} {base : Heap} {tL t3 : Tok} {RC OL TL BN BE CE : Addr}
theorem nin_hdD {H : Hp} {Q : VK} (zs : List Str) {d : PyData} {v : V} {l : Addr} {us : List V} (sd : ShD d) (hb : ∀ e ∈ hls zs.length, below zs.length e) (L : LkOk zs) (hd : Dq H v d) (hl : SqL K H l us) (hu : Rw (HT zs H) us (hls zs.length)) (q : Q (.bl (!isHd zs d)) H) : rNotInD K v (.ref l) H Q :=
  ⟨_, _, hd.dp, .lst hl (rw_dp (fun _ _ z => z.dp) hu), sd.fk.sh (by decide), (fk_lst (k := 2) fun d hd => by obtain ⟨g, hg', rfl⟩ := List.mem_map.mp hd; exact fk_hD L (hb g hg')).sh (by decide), by
    have e : ((hls zs.length).map (hD zs)).any (fun z => PyData.eqv z d) = isHd zs d := by rw [List.any_map]; rfl
    rw [e]; exact q⟩
def spRuGD (RC BE : Addr) : Sp := fun vs H Q E => ∃ (o : Addr) (u : V) (d : PyData) (zs : List Str) (es : List En), vs = [.ref o, u] ∧ RuAt RC H o zs es ∧ Dq H u d ∧ ShD d ∧ isHd zs d = false ∧ ∀ (e : Addr) (H' : Hp), H e = none → H' e = some (.xd [("entry", u)]) → Kp [] H H' → E (.ref BE) (some e) H'
theorem okd_Rule_getitem {f : Addr} {fd : FuncData} (F : Fun K "__getitem__" "Rule.__getitem__" s_Rule_getitem f fd) (T : Bt mg tL t3) (RR : RuC K mg RC) {fE : Addr} {fdE : FuncData} (E_BadEntry : Er1 P w K mg base "BadEntry" "entry" BE fE fdE ["self", "entry"] fun _ => True) {f1 : Addr} {fd1 : FuncData} (D_all_held : Df K mg "all_held" s_all_held ["locks"] f1 fd1) (G_all_held : FnOk P w K mg base CX0 2 f1 fd1 ["locks"] (spHeld K)) : FnOk P w K mg base (L2.CX P w) 3 f fd ["self", "at"] (spRuGD RC BE) := by
  refine F.okX sc_Rule_getitem (fun vs H Q E h => ?_) (fun cdv A outer s H vs Q E hr h => ?_)
  · obtain ⟨_, _, _, _, _, rfl, _⟩ := h
    rfl
  · obtain ⟨o, u, d, zs, es, rfl, ⟨dx, l, m, us, ho, hl, hm, hr', L, hs⟩, hd, sd, hn, q⟩ := h
    have hu := hu_of hr
    have EO := factE (n := zs.length) (by have := L.le; omega) L.pos
    refine ⟨_, (pss_cons (ps_if (pt_cmpR (op_notInD (hu5 hr)) (pv 1) (pe_call G_all_held (hr.mono (by decide)) rfl D_all_held.g D_all_held.F.kp D_all_held.b .nil pass0 (pa_cons (pe_fld (pv 0) rfl) pa_nil)) (by rfl)) (pss_one (ps_raise rfl (takes_of rfl rfl rfl rfl) (pmk_oex E_BadEntry.ox E_BadEntry.ic E_BadEntry.ti E_BadEntry.G (hr.mono (by decide)) E_BadEntry.b .nil passL rfl E_BadEntry.k (pa_cons (pv 1) pa_nil)))) pss_nil)
      (pss_one (ps_ret (pe_lc (own := [("held", 2), ("goal", 3)]) (g := (gTup K 2 (gCons (gName 2) (gCons (gName 3) gNil)))) rfl sc_Rule_getitem.nd (pi_list (pe_fld (pv 0) rfl)) (blkOk_by (N := ["self", "at", "held", "goal"]) (sc := defScope s_Rule_getitem) (by decide +kernel)) (fun _ _ _ _ _ => (pg_tup (n := 2) (by rfl) (pgs_cons (pg_name (i := 2) sc_Rule_getitem.nd rfl (Or.inl rfl)) (pgs_cons (pg_name (i := 3) sc_Rule_getitem.nd rfl (Or.inl rfl)) pgs_nil)))) (fun _ _ _ _ _ => (pts_one (pt_cmpR (r := rEqD K) (op_eqD hr.units) (pv 2) (pv 1) (nomark _)))) (fun _ _ _ _ _ => (pv 3)))))), ?_⟩
    try simp (maxSteps := 1000000) only [tSeq, tIfS, tTest, tOp, tUn, tCB, tCons, tNil, tVar, tC, rI0, rI, rU, rEq, rNe, tRet, tRetN, tAsg, gName, gSub, tBM, tBM0, tNext, tB, tNot, tAnd, tOr, tIf, tCall, tDrop, tBreak, tCont, L2.start, tDGet, sDPut, tTup, tLst, tDNewK, tRevL, rCat, rAppend, rPop, rSetL, tAndV, tOrV, tNotV, tSl, tPart, tNoPart, tM1, gTup, gCons, gNil, cxK, cxnK, List.map_cons, List.map_nil, List.length_cons, List.length_nil, List.replicate, List.cons_append, List.nil_append, List.append_nil, List.set_cons_zero, List.set_cons_succ, List.getElem?_cons_zero, List.getElem?_cons_succ, Option.some.injEq, V.ref.injEq, V.int.injEq, V.str.injEq, V.bl.injEq, V.ty.injEq, exists_eq_left', exists_eq_left, exists_and_left, List.cons.injEq, and_true, true_and, sc_ii, sc_ss, sc_bb, sc_ni, sc_in, sc_is, sc_si, sc_nn, decide_true, decide_false, reduceCtorEq, Bool.false_eq_true, if_true, if_false, ite_true, ite_false, exists_const, eq_self, false_and, and_false, or_false, false_or, exists_false, Evl.rLenS, rSum, wipe, tYes, exists_eq, exists_eq', rIxL, rIxT, rIxS, exists_and_right, gt_iff_lt, not_true_eq_false, not_false_eq_true, Bool.not_true, Bool.not_false, decide_eq_true_eq, Nat.reduceSub, Nat.reduceAdd, List.append_assoc, tChain, tDIn, tDNotIn, sDDel, tAug, ipI, rInt1_int, rInt1_bl, tFld]
    refine ⟨RC, dx, _, ho, RR.cl, RR.n1, .ref l, rfl, ?_⟩
    refine ⟨l, zs, rfl, L, .inl (sq_l hl), fun a1 us1 H1 na1 ha1 hus1 k1 => ?_⟩
    refine nin_hdD zs sd (fun g hg => (EO.hld g hg).1) L (hd.kp k1) (sq_l ha1) hus1 ⟨_, rfl, ?_⟩
    rw [hn, if_pos (by decide)]
    exact ⟨u, rfl, err1_made (P := fun _ => True) trivial fun e H' ne he k => q e H' (k1.free0 ne) he (k1.trans k)⟩
def spNoH (RC : Addr) : Sp := fun vs H Q _ => ∃ (o : Addr) (u : V) (d : PyData) (zs : List Str) (es : List En), vs = [.ref o, u] ∧ RuAt RC H o zs es ∧ Dq H u d ∧ ShD d ∧ isHd zs d = false ∧ ∀ H', Kp [] H H' → Q (.bl true) H'
theorem ok_law_no_held {f : Addr} {fd : FuncData} (D : Df K mg "_law_no_held" s_law_no_held ["_law_rule", "_law_held"] f fd) (T : BtN K mg CE OL BE BN) {fG : Addr} {fdG : FuncData} (GT_Rule : GetC K RC fG) (b_Rule_getitem : Binds K fdG ["self", "at"] []) (G_Rule_getitem : FnOk P w K mg base (L2.CX P w) 3 fG fdG ["self", "at"] (spRuGD RC BE)) : FnG P w K mg base (L2.CX P w) 5 f fd ["_law_rule", "_law_held"] (spNoH RC) := by
  refine FnG.ok D.F sc_law_no_held (fun vs H Q E h => ?_) (fun cdv A outer s H vs Q E gd0 hr h => ?_)
  · obtain ⟨_, _, _, _, _, rfl, _⟩ := h
    rfl
  · obtain ⟨o, u, d, zs, es, rfl, hR, hd, sd, hn, q⟩ := h
    have gd := And.intro gd0 hr.units
    have XF_BadEntry := T.XF_BadEntry
    have NO_entry := T.NO_entry
    refine ⟨_, (pss_cons (ps_try_as (i := 3) rfl rfl sc_law_no_held.nd rfl rfl ⟨rfl, by decide, .inl T.k_BadEntry⟩ takes0 (fun W pn xe tk _ => (pss_one (ps_set (i := 2) sc_law_no_held.nd rfl (Or.inl rfl) (pe_getOS GT_Rule G_Rule_getitem b_Rule_getitem (hr.mono (by decide)) (fun σ => passAt tk σ) (pv 0) (pv 1))))) (fun a oe cls d pn hz hf => (pss_one (ps_ret (pe_and (pe_cmpR op_eq (pe_callB (id := "repr") (r := rReprA) (call_reprA gd) (by rfl) T.b_repr (by decide +kernel) (pa_cons (pe_xf XF_BadEntry NO_entry hz hf (pv 3)) pa_nil)) (pe_callB (id := "repr") (r := rReprA) (call_reprA gd) (by rfl) T.b_repr (by decide +kernel) (pa_cons (pv 1) pa_nil)) (nomark _)) (pe_and (pe_callB (id := "isinstance") (r := rIsX K a cls d) (call_isX hz hf) (by rfl) T.b_isinstance (by decide +kernel) (pa_cons (pv 3) (pa_cons (pe_glob (v := .ref CE) rfl T.k_CoreError rfl) pa_nil))) (pe_one (pe_not (pe_callB (id := "isinstance") (r := rIsXT K a cls d) (call_isXT hz hf) (by rfl) T.b_isinstance (by decide +kernel) (pa_cons (pv 3) (pa_cons (pe_tup (pa_cons (pe_glob (v := .ref BN) rfl T.k_BadName rfl) (pa_cons (pe_glob (v := .ref OL) rfl T.k_OtherLocks rfl) pa_nil))) pa_nil)))))))))))
      (pss_one (ps_ret pe_bl))), ?_⟩
    try simp (maxSteps := 1000000) only [tSeq, tIfS, tTest, tOp, tUn, tCB, tCons, tNil, tVar, tC, rI0, rI, rU, rEq, rNe, tRet, tRetN, tAsg, gName, gSub, tBM, tBM0, tNext, tB, tNot, tAnd, tOr, tIf, tCall, tDrop, tBreak, tCont, L2.start, tDGet, sDPut, tTup, tLst, tDNewK, tRevL, rCat, rAppend, rPop, rSetL, tAndV, tOrV, tNotV, tSl, tPart, tNoPart, tM1, gTup, gCons, gNil, cxK, cxnK, List.map_cons, List.map_nil, List.length_cons, List.length_nil, List.replicate, List.cons_append, List.nil_append, List.append_nil, List.set_cons_zero, List.set_cons_succ, List.getElem?_cons_zero, List.getElem?_cons_succ, Option.some.injEq, V.ref.injEq, V.int.injEq, V.str.injEq, V.bl.injEq, V.ty.injEq, exists_eq_left', exists_eq_left, exists_and_left, List.cons.injEq, and_true, true_and, sc_ii, sc_ss, sc_bb, sc_ni, sc_in, sc_is, sc_si, sc_nn, decide_true, decide_false, reduceCtorEq, Bool.false_eq_true, if_true, if_false, ite_true, ite_false, exists_const, eq_self, false_and, and_false, or_false, false_or, exists_false, Evl.rLenS, rSum, wipe, tYes, exists_eq, exists_eq', rIxL, rIxT, rIxS, exists_and_right, gt_iff_lt, not_true_eq_false, not_false_eq_true, Bool.not_true, Bool.not_false, decide_eq_true_eq, Nat.reduceSub, Nat.reduceAdd, List.append_assoc, tChain, tDIn, tDNotIn, sDDel, tAug, ipI, rInt1_int, rInt1_bl, tGetS, rGetO]
    obtain ⟨dx, l, m, us, ho, hl, hm, hr', L, hs⟩ := id hR
    refine ⟨⟨dx, _, ho⟩, o, u, d, zs, es, rfl, hR, hd, sd, hn, fun e H1 ne he k1 => ?_⟩
    refine ⟨true, T.EXE, fun _ y ny => ?_, fun z => by cases z⟩
    try simp (maxSteps := 1000000) only [tSeq, tIfS, tTest, tOp, tUn, tCB, tCons, tNil, tVar, tC, rI0, rI, rU, rEq, rNe, tRet, tRetN, tAsg, gName, gSub, tBM, tBM0, tNext, tB, tNot, tAnd, tOr, tIf, tCall, tDrop, tBreak, tCont, L2.start, tDGet, sDPut, tTup, tLst, tDNewK, tRevL, rCat, rAppend, rPop, rSetL, tAndV, tOrV, tNotV, tSl, tPart, tNoPart, tM1, gTup, gCons, gNil, cxK, cxnK, List.map_cons, List.map_nil, List.length_cons, List.length_nil, List.replicate, List.cons_append, List.nil_append, List.append_nil, List.set_cons_zero, List.set_cons_succ, List.getElem?_cons_zero, List.getElem?_cons_succ, Option.some.injEq, V.ref.injEq, V.int.injEq, V.str.injEq, V.bl.injEq, V.ty.injEq, exists_eq_left', exists_eq_left, exists_and_left, List.cons.injEq, and_true, true_and, sc_ii, sc_ss, sc_bb, sc_ni, sc_in, sc_is, sc_si, sc_nn, decide_true, decide_false, reduceCtorEq, Bool.false_eq_true, if_true, if_false, ite_true, ite_false, exists_const, eq_self, false_and, and_false, or_false, false_or, exists_false, Evl.rLenS, rSum, wipe, tYes, exists_eq, exists_eq', rIxL, rIxT, rIxS, exists_and_right, gt_iff_lt, not_true_eq_false, not_false_eq_true, Bool.not_true, Bool.not_false, decide_eq_true_eq, Nat.reduceSub, Nat.reduceAdd, List.append_assoc, tChain, tDIn, tDNotIn, sDDel, tAug, ipI, rInt1_int, rInt1_bl, tXf]
    have hd1 := hd.kp k1
    have hs60 : Sh 60 1000000 d := sd.mono (by decide) (by decide)
    refine ⟨_, he, u, rfl, ⟨u, d, rfl, hd1, hs60, u, d, rfl, hd1, hs60, rfl, ?_⟩⟩
    rw [if_pos rfl]
    refine ⟨.ref CE, .ref CE, true, BE, e, _, rfl, fun u h => h, rfl, rfl, he, T.KE, T.e1, true, rfl, ?_⟩
    rw [if_pos rfl]
    refine ⟨by rw [sizeLine_eq]; decide, fun p np => ?_⟩
    have kp := (Kp.new np : Kp [] H1 (upd H1 p (.tup [.ref BN, .ref OL])))
    refine ⟨p, _, _, false, BE, e, _, rfl, upd_same, .cons (.own _) (.cons (.own _) .nil), rfl, rfl, kp _ _ not0 he, T.KE, T.e2, false, rfl, q _ (k1.trans kp)⟩
end
end My

set_option Elab.async false
set_option linter.all false
set_option maxRecDepth 100000
set_option maxHeartbeats 4000000
namespace My
open PySem L2 NdefX StX
abbrev s_law_told : Stmt := top 31
theorem sc_law_told : FnScope ["_law_locks", "_law_told_here", "e"] ["_law_locks", "_law_told_here"] (defScope s_law_told) := ⟨rfl, rfl, rfl, by decide +kernel, rfl, by decide +kernel, by decide +kernel⟩
abbrev s_law_is_name : Stmt := top 32
theorem sc_law_is_name : FnScope ["_law_x", "_law_sign"] ["_law_x"] (defScope s_law_is_name) := ⟨rfl, rfl, rfl, by decide +kernel, rfl, by decide +kernel, by decide +kernel⟩
abbrev s_law_reading : Stmt := top 33
theorem sc_law_reading : FnScope ["_law_locks", "_law_told_here", "_law_k", "_law_known", "_law_entry"] ["_law_locks", "_law_told_here"] (defScope s_law_reading) := ⟨rfl, rfl, rfl, by decide +kernel, rfl, by decide +kernel, by decide +kernel⟩
def strOf : PyData → Str
  | .str z => z
  | _ => ""
theorem strOf_map : ∀ zs : List Str, (zs.map PyData.str).map strOf = zs
  | [] => rfl
  | z :: r => by
    have := strOf_map r
    show z :: _ = _
    rw [this]
/-- what a call of Rule comes to -/
noncomputable def verd (lds ds : List PyData) : PyData :=
  if ¬ (1 ≤ lds.length ∧ lds.length ≤ 3) then .tuple [.int 1, .int 3] else
    match lkBad [] lds with
    | some d => .tuple [.int 2, d]
    | none => match enBad (lds.map strOf) ds with
      | some d => .tuple [.int 3, d]
      | none => .tuple [.int 0, .none]
theorem verd_big {lds ds : List PyData} (h : ¬ (1 ≤ lds.length ∧ lds.length ≤ 3)) : verd lds ds = .tuple [.int 1, .int 3] := by unfold verd; rw [if_pos h]
theorem verd_name {lds ds : List PyData} {d : PyData} (h1 : 1 ≤ lds.length) (h3 : lds.length ≤ 3) (h : lkBad [] lds = some d) : verd lds ds = .tuple [.int 2, d] := by unfold verd; rw [if_neg (fun z => z ⟨h1, h3⟩), h]
theorem verd_entry {zs : List Str} {ds : List PyData} {d : PyData} (L : LkOk zs) (h : lkBad [] (zs.map PyData.str) = none) (e : enBad zs ds = some d) : verd (zs.map PyData.str) ds = .tuple [.int 3, d] := by
  unfold verd
  rw [if_neg (fun z => z ⟨by rw [List.length_map]; exact L.pos, by rw [List.length_map]; exact L.le⟩), h]
  simp only [strOf_map, e]
theorem verd_ok {zs : List Str} {ds : List PyData} (L : LkOk zs) (h : lkBad [] (zs.map PyData.str) = none) (e : enBad zs ds = none) : verd (zs.map PyData.str) ds = .tuple [.int 0, .none] := by
  unfold verd
  rw [if_neg (fun z => z ⟨by rw [List.length_map]; exact L.pos, by rw [List.length_map]; exact L.le⟩), h]
  simp only [strOf_map, e]
structure BtT (K : PySem.W.Frag) (mg : Str → Option Value) (RC TL BN BE : Addr) : Prop where
  k_Rule : mg "Rule" = some (.ref RC)
  k_TooLarge : mg "TooLarge" = some (.ref TL)
  k_BadName : mg "BadName" = some (.ref BN)
  k_BadEntry : mg "BadEntry" = some (.ref BE)
  TT : PySem.W.exmOne K (.ref TL) (.ref TL) = some true
  NT : PySem.W.exmOne K (.ref BN) (.ref TL) = some false
  NN : PySem.W.exmOne K (.ref BN) (.ref BN) = some true
  ET : PySem.W.exmOne K (.ref BE) (.ref TL) = some false
  EN : PySem.W.exmOne K (.ref BE) (.ref BN) = some false
  EE : PySem.W.exmOne K (.ref BE) (.ref BE) = some true
  XF_TooLarge : XfC K TL
  XF_BadName : XfC K BN
  XF_BadEntry : XfC K BE
  NO_bound : PySem.W.findIn K (.ref TL) "bound" = some none
  NO_name : PySem.W.findIn K (.ref BN) "name" = some none
  NO_entry : PySem.W.findIn K (.ref BE) "entry" = some none
def LowF (z : Str) (D : Addr) (H : Hp) (i : Nat) (H' : Hp) : Prop := H' D = some (.lst (((z.cps.toList.take i).filter fun c => !lowC c).map fun c => V.str ⟨#[c]⟩)) ∧ Kp [] H H'
section
variable {P : Program} {w : World} {K : PySem.W.Frag} {mg : Str → Option Value} {base : Heap} {tL t3 : Tok} {RC OL TL BN BE CE : Addr}
def spVerd (K : PySem.W.Frag) : Sp := fun vs H Q _ => ∃ (la ea : Addr) (lus us : List V) (lds ds : List PyData), vs = [.ref la, .ref ea] ∧ H la = some (.tup lus) ∧ DqAll H lus lds ∧ SqAny K H ea us ∧ DqAll H us ds ∧ (∀ d ∈ lds, ShD d) ∧ (∀ d ∈ ds, ShD d) ∧ lds.length ≤ 100 ∧ ds.length ≤ 100 ∧ ∀ v H', Dq H' v (verd lds ds) → Kp [] H H' → Q v H'
theorem ok_law_told {f : Addr} {fd : FuncData} (D : Df K mg "_law_told" s_law_told ["_law_locks", "_law_told_here"] f fd) (T : BtT K mg RC TL BN BE) (RR : RuC K mg RC) {fI : Addr} {fdI : FuncData} (M_Rule : Mk K RC fI) (bI_Rule : Binds K fdI ["self", "locks", "entries"] []) (G_Rule_init : FnOk P w K mg base (L2.CX P w) 4 fI fdI ["self", "locks", "entries"] (spRuID RC TL BN BE K)) : FnOk P w K mg base CX0 6 f fd ["_law_locks", "_law_told_here"] (spVerd K) := by
  refine D.F.ok sc_law_told (fun vs H Q E h => ?_) (fun cdv A outer s H vs Q E hr h => ?_)
  · obtain ⟨_, _, _, _, _, _, rfl, _⟩ := h
    rfl
  · obtain ⟨la, ea, lus, us, lds, ds, rfl, hla, hld, hea, hds, sl, sd, l100, d100, q⟩ := h
    have XF_TooLarge := T.XF_TooLarge
    have XF_BadName := T.XF_BadName
    have XF_BadEntry := T.XF_BadEntry
    have NO_bound := T.NO_bound
    have NO_name := T.NO_name
    have NO_entry := T.NO_entry
    refine ⟨_, (pss_cons (ps_try_as3 (i1 := 2) (i2 := 2) (i3 := 2) rfl rfl sc_law_told.nd rfl rfl rfl rfl rfl rfl ⟨rfl, by decide, .inl T.k_TooLarge⟩ ⟨rfl, by decide, .inl T.k_BadName⟩ ⟨rfl, by decide, .inl T.k_BadEntry⟩ takes0 (fun W pn xe tk _ => (pss_one (ps_expr (pe_makeS M_Rule G_Rule_init (hr.mono (by decide)) rfl RR.k bI_Rule .nil (fun σ => passAt tk σ) (pa_cons (pv 0) (pa_cons (pv 1) pa_nil)))))) (fun a oe cls d pn hz hf => (pss_one (ps_ret (pe_tup (pa_cons pe_int (pa_cons (pe_xf XF_TooLarge NO_bound hz hf (pv 2)) pa_nil)))))) (fun a oe cls d pn hz hf => (pss_one (ps_ret (pe_tup (pa_cons pe_int (pa_cons (pe_xf XF_BadName NO_name hz hf (pv 2)) pa_nil)))))) (fun a oe cls d pn hz hf => (pss_one (ps_ret (pe_tup (pa_cons pe_int (pa_cons (pe_xf XF_BadEntry NO_entry hz hf (pv 2)) pa_nil)))))))
      (pss_one (ps_ret (pe_tup (pa_cons pe_int (pa_cons pe_non pa_nil)))))), ?_⟩
    try simp (maxSteps := 1000000) only [tSeq, tIfS, tTest, tOp, tUn, tCB, tCons, tNil, tVar, tC, rI0, rI, rU, rEq, rNe, tRet, tRetN, tAsg, gName, gSub, tBM, tBM0, tNext, tB, tNot, tAnd, tOr, tIf, tCall, tDrop, tBreak, tCont, L2.start, tDGet, sDPut, tTup, tLst, tDNewK, tRevL, rCat, rAppend, rPop, rSetL, tAndV, tOrV, tNotV, tSl, tPart, tNoPart, tM1, gTup, gCons, gNil, cxK, cxnK, List.map_cons, List.map_nil, List.length_cons, List.length_nil, List.replicate, List.cons_append, List.nil_append, List.append_nil, List.set_cons_zero, List.set_cons_succ, List.getElem?_cons_zero, List.getElem?_cons_succ, Option.some.injEq, V.ref.injEq, V.int.injEq, V.str.injEq, V.bl.injEq, V.ty.injEq, exists_eq_left', exists_eq_left, exists_and_left, List.cons.injEq, and_true, true_and, sc_ii, sc_ss, sc_bb, sc_ni, sc_in, sc_is, sc_si, sc_nn, decide_true, decide_false, reduceCtorEq, Bool.false_eq_true, if_true, if_false, ite_true, ite_false, exists_const, eq_self, false_and, and_false, or_false, false_or, exists_false, Evl.rLenS, rSum, wipe, tYes, exists_eq, exists_eq', rIxL, rIxT, rIxS, exists_and_right, gt_iff_lt, not_true_eq_false, not_false_eq_true, Bool.not_true, Bool.not_false, decide_eq_true_eq, Nat.reduceSub, Nat.reduceAdd, List.append_assoc, tChain, tDIn, tDNotIn, sDDel, tAug, ipI, rInt1_int, rInt1_bl, tMakeS]
    intro o dx no ndx dxo
    have kO : Kp [] H (upd (upd H dx (.own o)) o (.ins RC dx [])) := (Kp.new ndx).wr no
    have ho : (upd (upd H dx (.own o)) o (.ins RC dx [])) o = some (.ins RC dx []) := upd_same
    generalize upd (upd H dx (.own o)) o (.ins RC dx []) = H0 at kO ho ⊢
    have back : ∀ H', Kp [o] H0 H' → Kp [] H H' := fun H' kI b ob _ e => (kO.of0.trans kI) b ob (not1 fun z => by rw [z, no] at e; cases e) e
    have two : ∀ (H2 : Hp) (i : Int) (v : V) (d : PyData), Dq H2 v d → Kp [] H H2 → verd lds ds = .tuple [.int i, d] → ∀ p, H2 p = none → Q (.ref p) (upd H2 p (.tup [.int i, v])) := fun H2 i v d hv k e p np => q _ _ (by
      rw [e]
      exact .tup upd_same (.cons (.int i) (.cons (hv.kp (Kp.new np)) .nil))) (k.trans (Kp.new np))
    refine ⟨o, dx, la, ea, lus, us, lds, ds, rfl, ho, kO _ _ not0 hla, DqAll.kp kO hld, hea.imp (kO.ls not0) (kO.tp not0), DqAll.kp kO hds, sl, sd, l100, d100, ?_, ?_, ?_, ?_⟩
    · intro hb e H' ne he k
      refine ⟨true, T.TT, fun _ y ny => ?_, fun z => by cases z⟩
      try simp (maxSteps := 1000000) only [tSeq, tIfS, tTest, tOp, tUn, tCB, tCons, tNil, tVar, tC, rI0, rI, rU, rEq, rNe, tRet, tRetN, tAsg, gName, gSub, tBM, tBM0, tNext, tB, tNot, tAnd, tOr, tIf, tCall, tDrop, tBreak, tCont, L2.start, tDGet, sDPut, tTup, tLst, tDNewK, tRevL, rCat, rAppend, rPop, rSetL, tAndV, tOrV, tNotV, tSl, tPart, tNoPart, tM1, gTup, gCons, gNil, cxK, cxnK, List.map_cons, List.map_nil, List.length_cons, List.length_nil, List.replicate, List.cons_append, List.nil_append, List.append_nil, List.set_cons_zero, List.set_cons_succ, List.getElem?_cons_zero, List.getElem?_cons_succ, Option.some.injEq, V.ref.injEq, V.int.injEq, V.str.injEq, V.bl.injEq, V.ty.injEq, exists_eq_left', exists_eq_left, exists_and_left, List.cons.injEq, and_true, true_and, sc_ii, sc_ss, sc_bb, sc_ni, sc_in, sc_is, sc_si, sc_nn, decide_true, decide_false, reduceCtorEq, Bool.false_eq_true, if_true, if_false, ite_true, ite_false, exists_const, eq_self, false_and, and_false, or_false, false_or, exists_false, Evl.rLenS, rSum, wipe, tYes, exists_eq, exists_eq', rIxL, rIxT, rIxS, exists_and_right, gt_iff_lt, not_true_eq_false, not_false_eq_true, Bool.not_true, Bool.not_false, decide_eq_true_eq, Nat.reduceSub, Nat.reduceAdd, List.append_assoc, tChain, tDIn, tDNotIn, sDDel, tAug, ipI, rInt1_int, rInt1_bl, tXf]
      refine ⟨_, he, _, rfl, by rw [sizeLine_eq]; decide, two _ _ _ _ (.int 3) (kO.trans k) (verd_big hb)⟩
    · intro d v n1 n3 hb e H' ne he hv k
      refine ⟨false, T.NT, fun z => (by cases z), fun _ => ⟨true, T.NN, fun _ y ny => ?_, fun z => by cases z⟩⟩
      try simp (maxSteps := 1000000) only [tSeq, tIfS, tTest, tOp, tUn, tCB, tCons, tNil, tVar, tC, rI0, rI, rU, rEq, rNe, tRet, tRetN, tAsg, gName, gSub, tBM, tBM0, tNext, tB, tNot, tAnd, tOr, tIf, tCall, tDrop, tBreak, tCont, L2.start, tDGet, sDPut, tTup, tLst, tDNewK, tRevL, rCat, rAppend, rPop, rSetL, tAndV, tOrV, tNotV, tSl, tPart, tNoPart, tM1, gTup, gCons, gNil, cxK, cxnK, List.map_cons, List.map_nil, List.length_cons, List.length_nil, List.replicate, List.cons_append, List.nil_append, List.append_nil, List.set_cons_zero, List.set_cons_succ, List.getElem?_cons_zero, List.getElem?_cons_succ, Option.some.injEq, V.ref.injEq, V.int.injEq, V.str.injEq, V.bl.injEq, V.ty.injEq, exists_eq_left', exists_eq_left, exists_and_left, List.cons.injEq, and_true, true_and, sc_ii, sc_ss, sc_bb, sc_ni, sc_in, sc_is, sc_si, sc_nn, decide_true, decide_false, reduceCtorEq, Bool.false_eq_true, if_true, if_false, ite_true, ite_false, exists_const, eq_self, false_and, and_false, or_false, false_or, exists_false, Evl.rLenS, rSum, wipe, tYes, exists_eq, exists_eq', rIxL, rIxT, rIxS, exists_and_right, gt_iff_lt, not_true_eq_false, not_false_eq_true, Bool.not_true, Bool.not_false, decide_eq_true_eq, Nat.reduceSub, Nat.reduceAdd, List.append_assoc, tChain, tDIn, tDNotIn, sDDel, tAug, ipI, rInt1_int, rInt1_bl, tXf]
      refine ⟨_, he, _, rfl, by rw [sizeLine_eq]; decide, two _ _ _ _ hv (kO.trans k) (verd_name n1 n3 hb)⟩
    · intro zs d v el L bad eb e H' ne he hv k
      subst el
      refine ⟨false, T.ET, fun z => (by cases z), fun _ => ⟨false, T.EN, fun z => (by cases z), fun _ => ⟨true, T.EE, fun _ y ny => ?_, fun z => by cases z⟩⟩⟩
      try simp (maxSteps := 1000000) only [tSeq, tIfS, tTest, tOp, tUn, tCB, tCons, tNil, tVar, tC, rI0, rI, rU, rEq, rNe, tRet, tRetN, tAsg, gName, gSub, tBM, tBM0, tNext, tB, tNot, tAnd, tOr, tIf, tCall, tDrop, tBreak, tCont, L2.start, tDGet, sDPut, tTup, tLst, tDNewK, tRevL, rCat, rAppend, rPop, rSetL, tAndV, tOrV, tNotV, tSl, tPart, tNoPart, tM1, gTup, gCons, gNil, cxK, cxnK, List.map_cons, List.map_nil, List.length_cons, List.length_nil, List.replicate, List.cons_append, List.nil_append, List.append_nil, List.set_cons_zero, List.set_cons_succ, List.getElem?_cons_zero, List.getElem?_cons_succ, Option.some.injEq, V.ref.injEq, V.int.injEq, V.str.injEq, V.bl.injEq, V.ty.injEq, exists_eq_left', exists_eq_left, exists_and_left, List.cons.injEq, and_true, true_and, sc_ii, sc_ss, sc_bb, sc_ni, sc_in, sc_is, sc_si, sc_nn, decide_true, decide_false, reduceCtorEq, Bool.false_eq_true, if_true, if_false, ite_true, ite_false, exists_const, eq_self, false_and, and_false, or_false, false_or, exists_false, Evl.rLenS, rSum, wipe, tYes, exists_eq, exists_eq', rIxL, rIxT, rIxS, exists_and_right, gt_iff_lt, not_true_eq_false, not_false_eq_true, Bool.not_true, Bool.not_false, decide_eq_true_eq, Nat.reduceSub, Nat.reduceAdd, List.append_assoc, tChain, tDIn, tDNotIn, sDDel, tAug, ipI, rInt1_int, rInt1_bl, tXf]
      refine ⟨_, he, _, rfl, by rw [sizeLine_eq]; decide, two _ _ _ _ hv (back _ k) (verd_entry L bad eb)⟩
    · intro zs el L bad eb H' k
      subst el
      exact ⟨rfl, by rw [sizeLine_eq]; decide, two _ _ _ _ .non (back _ k) (verd_ok L bad eb)⟩
def spNmL : Sp := fun vs H Q _ => ∃ (v : V) (d : PyData), vs = [v] ∧ Dq H v d ∧ ShD d ∧ ∀ H', Kp [] H H' → Q (.bl (nameD d)) H'
theorem ok_law_is_name {f : Addr} {fd : FuncData} (D : Df K mg "_law_is_name" s_law_is_name ["_law_x"] f fd) (T : Bt mg tL t3) : FnOk P w K mg base CX0 1 f fd ["_law_x"] spNmL := by
  refine D.F.ok sc_law_is_name (fun vs H Q E h => ?_) (fun cdv A outer s H vs Q E hr h => ?_)
  · obtain ⟨_, _, rfl, _⟩ := h
    rfl
  · obtain ⟨v, d, rfl, hd, sd, q⟩ := h
    have hu := hu_of hr
    refine ⟨_, (pss_cons (ps_if (PW.pt (pw_or (pt_not (pt_val (pe_callB (id := "isinstance") (r := rIsi K) call_isi (by rfl) T.b_isinstance (by decide +kernel) (pa_cons (pv 0) (pa_cons (pe_bltn (v := .ty "str") (by rfl) T.b_str (by decide +kernel) rfl) pa_nil))))) (pw_or (pt_cmpR op_lt (pe_callB (id := "len") call_len_str (by rfl) T.b_len PySem.boot_len (pa_cons (pv 0) pa_nil)) pe_int (nomark _)) (pw_or1 (pt_cmpR op_gt (pe_callB (id := "len") call_len_str (by rfl) T.b_len PySem.boot_len (pa_cons (pv 0) pa_nil)) pe_int (nomark _)))))) (pss_one (ps_ret pe_bl)) pss_nil)
      (pss_one (ps_ret (pe_cmpR op_eq (pe_callB (id := "len") (r := Evl.rLenS K) call_len_seq (by rfl) T.b_len PySem.boot_len (pa_cons (pe_lc (own := [("_law_sign", 1)]) (g := (gName 1)) rfl sc_law_is_name.nd (pi_str (pv 0)) (blkOk_by (N := ["_law_x", "_law_sign"]) (sc := defScope s_law_is_name) (by decide +kernel)) (fun _ _ _ _ _ => (pg_name (i := 1) sc_law_is_name.nd rfl (Or.inl rfl))) (fun _ _ _ _ _ => (pts_one (pt_cmpR op_notIn_sign (pv 1) pe_str (by rfl)))) (fun _ _ _ _ _ => (pv 1))) pa_nil)) pe_int (nomark _))))), ?_⟩
    try simp (maxSteps := 1000000) only [tSeq, tIfS, tTest, tOp, tUn, tCB, tCons, tNil, tVar, tC, rI0, rI, rU, rEq, rNe, tRet, tRetN, tAsg, gName, gSub, tBM, tBM0, tNext, tB, tNot, tAnd, tOr, tIf, tCall, tDrop, tBreak, tCont, L2.start, tDGet, sDPut, tTup, tLst, tDNewK, tRevL, rCat, rAppend, rPop, rSetL, tAndV, tOrV, tNotV, tSl, tPart, tNoPart, tM1, gTup, gCons, gNil, cxK, cxnK, List.map_cons, List.map_nil, List.length_cons, List.length_nil, List.replicate, List.cons_append, List.nil_append, List.append_nil, List.set_cons_zero, List.set_cons_succ, List.getElem?_cons_zero, List.getElem?_cons_succ, Option.some.injEq, V.ref.injEq, V.int.injEq, V.str.injEq, V.bl.injEq, V.ty.injEq, exists_eq_left', exists_eq_left, exists_and_left, List.cons.injEq, and_true, true_and, sc_ii, sc_ss, sc_bb, sc_ni, sc_in, sc_is, sc_si, sc_nn, decide_true, decide_false, reduceCtorEq, Bool.false_eq_true, if_true, if_false, ite_true, ite_false, exists_const, eq_self, false_and, and_false, or_false, false_or, exists_false, Evl.rLenS, rSum, wipe, tYes, exists_eq, exists_eq', rIxL, rIxT, rIxS, exists_and_right, gt_iff_lt, not_true_eq_false, not_false_eq_true, Bool.not_true, Bool.not_false, decide_eq_true_eq, Nat.reduceSub, Nat.reduceAdd, List.append_assoc, tChain, tDIn, tDNotIn, sDDel, tAug, ipI, rInt1_int, rInt1_bl]
    refine isi_Dstr hd ?_
    cases hd with
    | str z =>
      try simp (maxSteps := 1000000) only [tSeq, tIfS, tTest, tOp, tUn, tCB, tCons, tNil, tVar, tC, rI0, rI, rU, rEq, rNe, tRet, tRetN, tAsg, gName, gSub, tBM, tBM0, tNext, tB, tNot, tAnd, tOr, tIf, tCall, tDrop, tBreak, tCont, L2.start, tDGet, sDPut, tTup, tLst, tDNewK, tRevL, rCat, rAppend, rPop, rSetL, tAndV, tOrV, tNotV, tSl, tPart, tNoPart, tM1, gTup, gCons, gNil, cxK, cxnK, List.map_cons, List.map_nil, List.length_cons, List.length_nil, List.replicate, List.cons_append, List.nil_append, List.append_nil, List.set_cons_zero, List.set_cons_succ, List.getElem?_cons_zero, List.getElem?_cons_succ, Option.some.injEq, V.ref.injEq, V.int.injEq, V.str.injEq, V.bl.injEq, V.ty.injEq, exists_eq_left', exists_eq_left, exists_and_left, List.cons.injEq, and_true, true_and, sc_ii, sc_ss, sc_bb, sc_ni, sc_in, sc_is, sc_si, sc_nn, decide_true, decide_false, reduceCtorEq, Bool.false_eq_true, if_true, if_false, ite_true, ite_false, exists_const, eq_self, false_and, and_false, or_false, false_or, exists_false, Evl.rLenS, rSum, wipe, tYes, exists_eq, exists_eq', rIxL, rIxT, rIxS, exists_and_right, gt_iff_lt, not_true_eq_false, not_false_eq_true, Bool.not_true, Bool.not_false, decide_eq_true_eq, Nat.reduceSub, Nat.reduceAdd, List.append_assoc, tChain, tDIn, tDNotIn, sDDel, tAug, ipI, rInt1_int, rInt1_bl, isStrD]
      have zs : z.cps.toList.length = z.length := Array.length_toList
      have zl : z.length ≤ 1000 := sd.blk
      have q' : ∀ H', Kp [] H H' → Q (.bl (nameS z)) H' := q
      unfold nameS at q'
      refine ⟨small (by omega), ?_⟩
      by_cases h1 : 1 ≤ z.length
      case neg =>
        rw [decide_eq_false h1] at q'
        rw [if_pos (by omega)]
        exact q' _ (Kp.refl _ _)
      rw [if_neg (by omega)]
      refine ⟨small (by omega), ?_⟩
      by_cases h8 : z.length ≤ 8
      case neg =>
        rw [decide_eq_true h1, decide_eq_false h8] at q'
        rw [if_pos (by omega)]
        exact q' _ (Kp.refl _ _)
      rw [decide_eq_true h1, decide_eq_true h8] at q'
      rw [if_neg (by omega)]
      refine ⟨.str z, rfl, z, rfl, fun o no => lc_it walk_str (LowF z o H) ⟨upd_same, Kp.new no⟩ (fun _ _ _ _ => True.intro) ?_ ?_⟩
      · rintro i x H1 H2 hi ⟨ho, kp⟩ ⟨rfl, c, hc, rfl⟩
        try simp (maxSteps := 1000000) only [tSeq, tIfS, tTest, tOp, tUn, tCB, tCons, tNil, tVar, tC, rI0, rI, rU, rEq, rNe, tRet, tRetN, tAsg, gName, gSub, tBM, tBM0, tNext, tB, tNot, tAnd, tOr, tIf, tCall, tDrop, tBreak, tCont, L2.start, tDGet, sDPut, tTup, tLst, tDNewK, tRevL, rCat, rAppend, rPop, rSetL, tAndV, tOrV, tNotV, tSl, tPart, tNoPart, tM1, gTup, gCons, gNil, cxK, cxnK, List.map_cons, List.map_nil, List.length_cons, List.length_nil, List.replicate, List.cons_append, List.nil_append, List.append_nil, List.set_cons_zero, List.set_cons_succ, List.getElem?_cons_zero, List.getElem?_cons_succ, Option.some.injEq, V.ref.injEq, V.int.injEq, V.str.injEq, V.bl.injEq, V.ty.injEq, exists_eq_left', exists_eq_left, exists_and_left, List.cons.injEq, and_true, true_and, sc_ii, sc_ss, sc_bb, sc_ni, sc_in, sc_is, sc_si, sc_nn, decide_true, decide_false, reduceCtorEq, Bool.false_eq_true, if_true, if_false, ite_true, ite_false, exists_const, eq_self, false_and, and_false, or_false, false_or, exists_false, Evl.rLenS, rSum, wipe, tYes, exists_eq, exists_eq', rIxL, rIxT, rIxS, exists_and_right, gt_iff_lt, not_true_eq_false, not_false_eq_true, Bool.not_true, Bool.not_false, decide_eq_true_eq, Nat.reduceSub, Nat.reduceAdd, List.append_assoc, tChain, tDIn, tDNotIn, sDDel, tAug, ipI, rInt1_int, rInt1_bl]
        have lm : decide (c ∈ (Str.ofString "abcdefghijklmnopqrstuvwxyz").cps.toList) = lowC c := lets_mem c
        have tk : z.cps.toList.take (i + 1) = z.cps.toList.take i ++ [c] := by
          rw [List.take_add_one, show z.cps.toList[i]? = some c from by rw [← hc]; simp]; rfl
        refine ⟨c, rfl, ?_⟩
        rw [lm]
        cases lw : lowC c with
        | true =>
          rw [if_neg (by decide)]
          refine ⟨?_, kp⟩
          rw [tk, List.filter_append, List.filter_cons, if_neg (by rw [lw]; decide), List.filter_nil, List.append_nil]
          exact ho
        | false =>
          rw [if_pos (by decide)]
          refine ⟨_, ho, ?_, ?_, kp.wr no⟩
          · rw [List.length_map]
            refine smallL ?_
            have := List.length_filter_le (fun c => !lowC c) (z.cps.toList.take i)
            rw [List.length_take] at this
            omega
          · rw [tk, List.filter_append, List.filter_cons, if_pos (by rw [lw]; decide), List.filter_nil, List.map_append, upd_same]
            rfl
      · rintro H1 ⟨ho, kp⟩
        rw [List.take_of_length_le (by simp)] at ho
        refine ⟨o, rfl, _, .inl (sq_l ho), ?_⟩
        have q2 := q' H1 kp
        have e : (true && (true && z.cps.toList.all lowC)) = decide ((((((z.cps.toList.filter fun c => !lowC c).map fun c => V.str ⟨#[c]⟩).length : Nat) : Int)) = 0) := by
          rw [List.length_map, Bool.eq_iff_iff, Bool.true_and, Bool.true_and, List.all_eq_true, decide_eq_true_eq]
          constructor
          · intro h
            rw [List.filter_eq_nil_iff.mpr fun c hc => by rw [h c hc]; decide]
            rfl
          · intro h c hc
            have h0 : (z.cps.toList.filter fun c => !lowC c) = [] := List.eq_nil_of_length_eq_zero (by omega)
            have := List.filter_eq_nil_iff.mp h0 c hc
            simpa using this
        rw [e] at q2
        exact q2
    | _ => exact ⟨false, rfl, by rw [if_pos (by decide)]; exact q H (Kp.refl _ _)⟩
theorem ok_law_reading {f : Addr} {fd : FuncData} (D : Df K mg "_law_reading" s_law_reading ["_law_locks", "_law_told_here"] f fd) (T : BtG mg) {f1 : Addr} {fd1 : FuncData} (D_law_is_name : Df K mg "_law_is_name" s_law_is_name ["_law_x"] f1 fd1) (G_law_is_name : FnOk P w K mg base CX0 1 f1 fd1 ["_law_x"] spNmL)
    {f2 : Addr} {fd2 : FuncData} (D_law_entries : Df K mg "_law_entries" s_law_entries ["_law_locks"] f2 fd2) (G_law_entries : FnOk P w K mg base CX0 2 f2 fd2 ["_law_locks"] (spLEnts K)) : FnOk P w K mg base CX0 3 f fd ["_law_locks", "_law_told_here"] (spVerd K) := by
  refine D.F.ok sc_law_reading (fun vs H Q E h => ?_) (fun cdv A outer s H vs Q E hr h => ?_)
  · obtain ⟨_, _, _, _, _, _, rfl, _⟩ := h
    rfl
  · obtain ⟨la, ea, lus, us, lds, ds, rfl, hla, hld, hea, hds, sl, sd, l100, d100, q⟩ := h
    have hu := hu_of hr
    refine ⟨_, (pss_cons (ps_if (PW.pt (pw_or (pt_cmpR op_lt (pe_callB (id := "len") (r := Evl.rLenS K) call_len_seq (by rfl) T.b_len PySem.boot_len (pa_cons (pv 0) pa_nil)) pe_int (nomark _)) (pw_or1 (pt_cmpR op_gt (pe_callB (id := "len") (r := Evl.rLenS K) call_len_seq (by rfl) T.b_len PySem.boot_len (pa_cons (pv 0) pa_nil)) pe_int (nomark _))))) (pss_one (ps_ret (pe_tup (pa_cons pe_int (pa_cons pe_int pa_nil))))) pss_nil)
      (pss_cons (ps_for PassesOwn.never rfl (pi_range1 rfl T.b_range (pa_cons (pe_callB (id := "len") (r := Evl.rLenS K) call_len_seq (by rfl) T.b_len PySem.boot_len (pa_cons (pv 0) pa_nil)) pa_nil)) (pg_name (i := 2) sc_law_reading.nd rfl (Or.inl rfl)) (pss_one (ps_if (PW.pt (pw_or (pt_not (pt_val (pe_call G_law_is_name (hr.mono (by decide)) rfl D_law_is_name.g D_law_is_name.F.kp D_law_is_name.b .nil pass0 (pa_cons (pe_ix (r := rIxT K) ix_tup (pv 0) (pv 2) (fun _ _ => rfl)) pa_nil)))) (pw_or1 (pt_cmpR op_in_seq (pe_ix (r := rIxT K) ix_tup (pv 0) (pv 2) (fun _ _ => rfl)) (pe_slice sl_tupA (pv 0) po_none (po_some (pv 2))) (by rfl))))) (pss_one (ps_ret (pe_tup (pa_cons pe_int (pa_cons (pe_ix (r := rIxT K) ix_tup (pv 0) (pv 2) (fun _ _ => rfl)) pa_nil))))) pss_nil)))
      (pss_cons (ps_set (i := 3) sc_law_reading.nd rfl (Or.inl rfl) (pe_call G_law_entries (hr.mono (by decide)) rfl D_law_entries.g D_law_entries.F.kp D_law_entries.b .nil pass0 (pa_cons (pv 0) pa_nil)))
      (pss_cons (ps_for PassesOwn.never rfl (pi_seq (pv 1)) (pg_name (i := 4) sc_law_reading.nd rfl (Or.inl rfl)) (pss_one (ps_if (pt_cmpR (op_notInD (hu5 hr)) (pv 4) (pv 3) (by rfl)) (pss_one (ps_ret (pe_tup (pa_cons pe_int (pa_cons (pv 4) pa_nil))))) pss_nil)))
      (pss_one (ps_ret (pe_tup (pa_cons pe_int (pa_cons pe_non pa_nil))))))))), ?_⟩
    try simp (maxSteps := 1000000) only [tSeq, tIfS, tTest, tOp, tUn, tCB, tCons, tNil, tVar, tC, rI0, rI, rU, rEq, rNe, tRet, tRetN, tAsg, gName, gSub, tBM, tBM0, tNext, tB, tNot, tAnd, tOr, tIf, tCall, tDrop, tBreak, tCont, L2.start, tDGet, sDPut, tTup, tLst, tDNewK, tRevL, rCat, rAppend, rPop, rSetL, tAndV, tOrV, tNotV, tSl, tPart, tNoPart, tM1, gTup, gCons, gNil, cxK, cxnK, List.map_cons, List.map_nil, List.length_cons, List.length_nil, List.replicate, List.cons_append, List.nil_append, List.append_nil, List.set_cons_zero, List.set_cons_succ, List.getElem?_cons_zero, List.getElem?_cons_succ, Option.some.injEq, V.ref.injEq, V.int.injEq, V.str.injEq, V.bl.injEq, V.ty.injEq, exists_eq_left', exists_eq_left, exists_and_left, List.cons.injEq, and_true, true_and, sc_ii, sc_ss, sc_bb, sc_ni, sc_in, sc_is, sc_si, sc_nn, decide_true, decide_false, reduceCtorEq, Bool.false_eq_true, if_true, if_false, ite_true, ite_false, exists_const, eq_self, false_and, and_false, or_false, false_or, exists_false, Evl.rLenS, rSum, wipe, tYes, exists_eq, exists_eq', rIxL, rIxT, rIxS, exists_and_right, gt_iff_lt, not_true_eq_false, not_false_eq_true, Bool.not_true, Bool.not_false, decide_eq_true_eq, Nat.reduceSub, Nat.reduceAdd, List.append_assoc, tChain, tDIn, tDNotIn, sDDel, tAug, ipI, rInt1_int, rInt1_bl]
    have two : ∀ (H2 : Hp) (i : Int) (v : V) (d : PyData), Dq H2 v d → Kp [] H H2 → verd lds ds = .tuple [.int i, d] → ∀ p, H2 p = none → Q (.ref p) (upd H2 p (.tup [.int i, v])) := fun H2 i v d hv k e p np => q _ _ (by
      rw [e]
      exact .tup upd_same (.cons (.int i) (.cons (hv.kp (Kp.new np)) .nil))) (k.trans (Kp.new np))
    have s2 : 2 ≤ sizeLine := by rw [sizeLine_eq]; decide
    refine ⟨_, .inr (sq_t hla), ?_⟩
    have ll := hld.len
    rw [ll]
    by_cases n1 : 1 ≤ lds.length
    case neg =>
      rw [if_pos (by omega)]
      exact ⟨s2, two _ _ _ _ (.int 3) (Kp.refl _ _) (verd_big fun z => n1 z.1)⟩
    rw [if_neg (by omega)]
    refine ⟨_, .inr (sq_t hla), ?_⟩
    rw [ll]
    by_cases n3 : lds.length ≤ 3
    case neg =>
      rw [if_pos (by omega)]
      exact ⟨s2, two _ _ _ _ (.int 3) (Kp.refl _ _) (verd_big fun z => n3 z.2)⟩
    rw [if_neg (by omega)]
    refine forN lds.length (by omega) (fun i σ H' => ∃ c2 zs, σ = [some (.ref la), some (.ref ea), c2, none, none] ∧ Kp [] H H' ∧ LkTo lds i zs) (fun R q' => ?_) ⟨_, [], rfl, Kp.refl _ _, LkTo.zero⟩ ?_ ?_
    · try simp (maxSteps := 1000000) only [tSeq, tIfS, tTest, tOp, tUn, tCB, tCons, tNil, tVar, tC, rI0, rI, rU, rEq, rNe, tRet, tRetN, tAsg, gName, gSub, tBM, tBM0, tNext, tB, tNot, tAnd, tOr, tIf, tCall, tDrop, tBreak, tCont, L2.start, tDGet, sDPut, tTup, tLst, tDNewK, tRevL, rCat, rAppend, rPop, rSetL, tAndV, tOrV, tNotV, tSl, tPart, tNoPart, tM1, gTup, gCons, gNil, cxK, cxnK, List.map_cons, List.map_nil, List.length_cons, List.length_nil, List.replicate, List.cons_append, List.nil_append, List.append_nil, List.set_cons_zero, List.set_cons_succ, List.getElem?_cons_zero, List.getElem?_cons_succ, Option.some.injEq, V.ref.injEq, V.int.injEq, V.str.injEq, V.bl.injEq, V.ty.injEq, exists_eq_left', exists_eq_left, exists_and_left, List.cons.injEq, and_true, true_and, sc_ii, sc_ss, sc_bb, sc_ni, sc_in, sc_is, sc_si, sc_nn, decide_true, decide_false, reduceCtorEq, Bool.false_eq_true, if_true, if_false, ite_true, ite_false, exists_const, eq_self, false_and, and_false, or_false, false_or, exists_false, Evl.rLenS, rSum, wipe, tYes, exists_eq, exists_eq', rIxL, rIxT, rIxS, exists_and_right, gt_iff_lt, not_true_eq_false, not_false_eq_true, Bool.not_true, Bool.not_false, decide_eq_true_eq, Nat.reduceSub, Nat.reduceAdd, List.append_assoc, tChain, tDIn, tDNotIn, sDDel, tAug, ipI, rInt1_int, rInt1_bl]
      refine ⟨_, .inr (sq_t hla), ?_⟩
      rw [ll]
      exact q'
    · rintro i σ H1 hi ⟨c2, zs, rfl, k1, lk⟩
      try simp (maxSteps := 1000000) only [tSeq, tIfS, tTest, tOp, tUn, tCB, tCons, tNil, tVar, tC, rI0, rI, rU, rEq, rNe, tRet, tRetN, tAsg, gName, gSub, tBM, tBM0, tNext, tB, tNot, tAnd, tOr, tIf, tCall, tDrop, tBreak, tCont, L2.start, tDGet, sDPut, tTup, tLst, tDNewK, tRevL, rCat, rAppend, rPop, rSetL, tAndV, tOrV, tNotV, tSl, tPart, tNoPart, tM1, gTup, gCons, gNil, cxK, cxnK, List.map_cons, List.map_nil, List.length_cons, List.length_nil, List.replicate, List.cons_append, List.nil_append, List.append_nil, List.set_cons_zero, List.set_cons_succ, List.getElem?_cons_zero, List.getElem?_cons_succ, Option.some.injEq, V.ref.injEq, V.int.injEq, V.str.injEq, V.bl.injEq, V.ty.injEq, exists_eq_left', exists_eq_left, exists_and_left, List.cons.injEq, and_true, true_and, sc_ii, sc_ss, sc_bb, sc_ni, sc_in, sc_is, sc_si, sc_nn, decide_true, decide_false, reduceCtorEq, Bool.false_eq_true, if_true, if_false, ite_true, ite_false, exists_const, eq_self, false_and, and_false, or_false, false_or, exists_false, Evl.rLenS, rSum, wipe, tYes, exists_eq, exists_eq', rIxL, rIxT, rIxS, exists_and_right, gt_iff_lt, not_true_eq_false, not_false_eq_true, Bool.not_true, Bool.not_false, decide_eq_true_eq, Nat.reduceSub, Nat.reduceAdd, List.append_assoc, tChain, tDIn, tDNotIn, sDDel, tAug, ipI, rInt1_int, rInt1_bl]
      have hla1 := k1 _ _ not0 hla
      obtain ⟨x, ex⟩ : ∃ x, lus[i]? = some x := ⟨_, List.getElem?_eq_getElem (by omega)⟩
      obtain ⟨d, ed, hdq⟩ := hld.get ex
      refine ⟨_, sq_t hla1, x, atI_nat ex, x, d, rfl, hdq.kp k1, sl d (List.mem_of_getElem? ed), fun H2 k2 => ⟨nameD d, rfl, ?_⟩⟩
      have k12 := k1.trans k2
      have hla2 := k12 _ _ not0 hla
      by_cases hn : nameD d = true
      case neg =>
        rw [Bool.not_eq_true] at hn
        rw [hn, if_pos (by decide)]
        exact ⟨_, sq_t hla2, x, atI_nat ex, s2, two _ _ _ _ (hdq.kp k12) k12 (verd_name n1 n3 (lk.noN ed hn))⟩
      rw [hn, if_neg (by decide)]
      obtain ⟨z, rfl, gz, _⟩ := nm_some hn
      cases hdq
      refine ⟨_, sq_t hla2, _, atI_nat ex, ?_⟩
      refine slA_to rfl hla2 fun r H5 hr5 k5 => ?_
      have et : lus.take i = zs.map V.str := dq_strs (H := H) (by rw [← lk.tk]; exact dq_take i hld)
      rw [et] at hr5
      refine ⟨r, _, rfl, .inr (sq_t hr5), rfl, flat_strs zs, ?_⟩
      simp only [Bool.false_eq_true, if_false]
      rw [inV_str]
      refine ⟨_, rfl, ?_⟩
      have k15 := k12.trans k5
      by_cases m : z ∈ zs
      · rw [decide_eq_true m, if_pos rfl]
        exact ⟨_, sq_t (k15 _ _ not0 hla), _, atI_nat ex, s2, two _ _ _ _ (.str z) k15 (verd_name n1 n3 (lk.twice ed gz m))⟩
      · rw [decide_eq_false m, if_neg (by decide)]
        exact ⟨k15, _, lk.next ed gz m⟩
    · rintro σ H1 ⟨c2, zs, rfl, k1, lk⟩
      obtain ⟨el, L, bad⟩ := lk.all n1 n3
      subst el
      have eu : lus = zs.map V.str := dq_strs hld
      subst eu
      have EO := factE (n := zs.length) (by have := L.le; omega) L.pos
      have hbe : ∀ e ∈ ens zs.length, belowE zs.length e := fun e he => (EO.ent e he).1
      try simp (maxSteps := 1000000) only [tSeq, tIfS, tTest, tOp, tUn, tCB, tCons, tNil, tVar, tC, rI0, rI, rU, rEq, rNe, tRet, tRetN, tAsg, gName, gSub, tBM, tBM0, tNext, tB, tNot, tAnd, tOr, tIf, tCall, tDrop, tBreak, tCont, L2.start, tDGet, sDPut, tTup, tLst, tDNewK, tRevL, rCat, rAppend, rPop, rSetL, tAndV, tOrV, tNotV, tSl, tPart, tNoPart, tM1, gTup, gCons, gNil, cxK, cxnK, List.map_cons, List.map_nil, List.length_cons, List.length_nil, List.replicate, List.cons_append, List.nil_append, List.append_nil, List.set_cons_zero, List.set_cons_succ, List.getElem?_cons_zero, List.getElem?_cons_succ, Option.some.injEq, V.ref.injEq, V.int.injEq, V.str.injEq, V.bl.injEq, V.ty.injEq, exists_eq_left', exists_eq_left, exists_and_left, List.cons.injEq, and_true, true_and, sc_ii, sc_ss, sc_bb, sc_ni, sc_in, sc_is, sc_si, sc_nn, decide_true, decide_false, reduceCtorEq, Bool.false_eq_true, if_true, if_false, ite_true, ite_false, exists_const, eq_self, false_and, and_false, or_false, false_or, exists_false, Evl.rLenS, rSum, wipe, tYes, exists_eq, exists_eq', rIxL, rIxT, rIxS, exists_and_right, gt_iff_lt, not_true_eq_false, not_false_eq_true, Bool.not_true, Bool.not_false, decide_eq_true_eq, Nat.reduceSub, Nat.reduceAdd, List.append_assoc, tChain, tDIn, tDNotIn, sDDel, tAug, ipI, rInt1_int, rInt1_bl]
      refine ⟨la, zs, rfl, L, .inr (sq_t (k1 _ _ not0 hla)), fun pl ps H4 npl hpl hps k4 => ?_⟩
      have k04 := k1.trans k4
      refine forS (a := ea) (xs := us) (fun i σ H' => ∃ c6, σ = [some (.ref la), some (.ref ea), c2, some (.ref pl), c6] ∧ Kp [] H4 H' ∧ enBad zs ds = enBad zs (ds.drop i)) rfl (hea.imp (k04.ls not0) (k04.tp not0)) ⟨_, rfl, Kp.refl _ _, rfl⟩ (fun j σ' H' h => by obtain ⟨_, _, k, _⟩ := h; exact k) ?_ ?_
      · rintro j x σ H5 hx ⟨c6, rfl, k5, eb⟩
        obtain ⟨d, ed, hdq⟩ := hds.get hx
        have k05 := k04.trans k5
        obtain ⟨hj, eg⟩ := List.getElem?_eq_some_iff.mp ed
        have sd1 := sd d (List.mem_of_getElem? ed)
        have e2 : enBad zs ds = if isEn zs d then enBad zs (ds.drop (j + 1)) else some d := by
          rw [eb, List.drop_eq_getElem_cons hj, eg]
          unfold enBad
          rw [List.find?_cons]
          cases isEn zs d <;> rfl
        try simp (maxSteps := 1000000) only [tSeq, tIfS, tTest, tOp, tUn, tCB, tCons, tNil, tVar, tC, rI0, rI, rU, rEq, rNe, tRet, tRetN, tAsg, gName, gSub, tBM, tBM0, tNext, tB, tNot, tAnd, tOr, tIf, tCall, tDrop, tBreak, tCont, L2.start, tDGet, sDPut, tTup, tLst, tDNewK, tRevL, rCat, rAppend, rPop, rSetL, tAndV, tOrV, tNotV, tSl, tPart, tNoPart, tM1, gTup, gCons, gNil, cxK, cxnK, List.map_cons, List.map_nil, List.length_cons, List.length_nil, List.replicate, List.cons_append, List.nil_append, List.append_nil, List.set_cons_zero, List.set_cons_succ, List.getElem?_cons_zero, List.getElem?_cons_succ, Option.some.injEq, V.ref.injEq, V.int.injEq, V.str.injEq, V.bl.injEq, V.ty.injEq, exists_eq_left', exists_eq_left, exists_and_left, List.cons.injEq, and_true, true_and, sc_ii, sc_ss, sc_bb, sc_ni, sc_in, sc_is, sc_si, sc_nn, decide_true, decide_false, reduceCtorEq, Bool.false_eq_true, if_true, if_false, ite_true, ite_false, exists_const, eq_self, false_and, and_false, or_false, false_or, exists_false, Evl.rLenS, rSum, wipe, tYes, exists_eq, exists_eq', rIxL, rIxT, rIxS, exists_and_right, gt_iff_lt, not_true_eq_false, not_false_eq_true, Bool.not_true, Bool.not_false, decide_eq_true_eq, Nat.reduceSub, Nat.reduceAdd, List.append_assoc, tChain, tDIn, tDNotIn, sDDel, tAug, ipI, rInt1_int, rInt1_bl]
        refine nin_data zs sd1 hbe L (hdq.kp k05) (sq_l (k5 _ _ not0 hpl)) (hps.mono fun _ _ z => z.tp k5.tps) ⟨_, rfl, ?_⟩
        by_cases en : isEn zs d = true
        · rw [en, if_neg (by decide)]
          rw [en, if_pos rfl] at e2
          exact ⟨k5, e2⟩
        · rw [Bool.not_eq_true] at en
          rw [en, if_pos (by decide)]
          rw [en, if_neg (by decide)] at e2
          exact ⟨s2, two _ _ _ _ (hdq.kp k05) k05 (verd_entry L bad e2)⟩
      · rintro σ H5 ⟨c6, rfl, k5, eb⟩
        rw [hds.len, List.drop_length] at eb
        try simp (maxSteps := 1000000) only [tSeq, tIfS, tTest, tOp, tUn, tCB, tCons, tNil, tVar, tC, rI0, rI, rU, rEq, rNe, tRet, tRetN, tAsg, gName, gSub, tBM, tBM0, tNext, tB, tNot, tAnd, tOr, tIf, tCall, tDrop, tBreak, tCont, L2.start, tDGet, sDPut, tTup, tLst, tDNewK, tRevL, rCat, rAppend, rPop, rSetL, tAndV, tOrV, tNotV, tSl, tPart, tNoPart, tM1, gTup, gCons, gNil, cxK, cxnK, List.map_cons, List.map_nil, List.length_cons, List.length_nil, List.replicate, List.cons_append, List.nil_append, List.append_nil, List.set_cons_zero, List.set_cons_succ, List.getElem?_cons_zero, List.getElem?_cons_succ, Option.some.injEq, V.ref.injEq, V.int.injEq, V.str.injEq, V.bl.injEq, V.ty.injEq, exists_eq_left', exists_eq_left, exists_and_left, List.cons.injEq, and_true, true_and, sc_ii, sc_ss, sc_bb, sc_ni, sc_in, sc_is, sc_si, sc_nn, decide_true, decide_false, reduceCtorEq, Bool.false_eq_true, if_true, if_false, ite_true, ite_false, exists_const, eq_self, false_and, and_false, or_false, false_or, exists_false, Evl.rLenS, rSum, wipe, tYes, exists_eq, exists_eq', rIxL, rIxT, rIxS, exists_and_right, gt_iff_lt, not_true_eq_false, not_false_eq_true, Bool.not_true, Bool.not_false, decide_eq_true_eq, Nat.reduceSub, Nat.reduceAdd, List.append_assoc, tChain, tDIn, tDNotIn, sDDel, tAug, ipI, rInt1_int, rInt1_bl]
        exact ⟨s2, two _ _ _ _ .non (k04.trans k5) (verd_ok L bad eb)⟩
end
end My

set_option Elab.async false
set_option linter.all false
set_option maxRecDepth 100000
set_option maxHeartbeats 4000000
namespace My
open PySem L2 NdefX StX
abbrev s_law_bad_name : Stmt := top 34
theorem sc_law_bad_name : FnScope ["_law_locks", "_law_k", "_law_one", "_law_menu"] ["_law_locks", "_law_k"] (defScope s_law_bad_name) := ⟨rfl, rfl, rfl, by decide +kernel, rfl, by decide +kernel, by decide +kernel⟩
abbrev s_law_bad_entry : Stmt := top 35
theorem sc_law_bad_entry : FnScope ["_law_locks", "_law_k", "_law_one", "_law_mid", "_law_two", "_law_odd", "_law_menu"] ["_law_locks", "_law_k"] (defScope s_law_bad_entry) := ⟨rfl, rfl, rfl, by decide +kernel, rfl, by decide +kernel, by decide +kernel⟩
theorem stb_nm {z : Str} (h : nameS z = true) : StB 8 z := ⟨(fk_name h).1, by
  unfold nameS at h
  rw [Bool.and_eq_true, Bool.and_eq_true, decide_eq_true_eq, decide_eq_true_eq] at h
  exact h.2.1⟩
theorem pick {H : Hp} {us : List V} {ds : List PyData} {k m : Nat} (hd : DqAll H us ds) (lv : ∀ d ∈ ds, Lv k d) (h : m < ds.length) : ∃ d x, us[m]? = some x ∧ Dq H x d ∧ Lv k d := by
  have hu : m < us.length := by rw [hd.len]; exact h
  obtain ⟨d, ed, hx⟩ := hd.get (List.getElem?_eq_getElem hu)
  exact ⟨d, _, List.getElem?_eq_getElem hu, hx, lv d (List.mem_of_getElem? ed)⟩
theorem atI_m1 {xs : List V} {x : V} (h : xs[xs.length - 1]? = some x) (n : 1 ≤ xs.length) : atI xs (-1) = some x := by
  obtain ⟨n, hn⟩ : ∃ n, xs.length = n + 1 := ⟨xs.length - 1, by omega⟩
  unfold atI
  rw [hn, ixN_last]
  rw [hn] at h
  exact h
theorem sx_last {K : PySem.W.Frag} {σ : L2.St} {H0 : Hp} {i : Nat} {a : Addr} {zs : List Str} (e : σ[i]? = some (some (.ref a))) (L : LkOk zs) (ha : H0 a = some (.tup (zs.map V.str))) : SX (tOp (rIxT K) (tVar i) (tUn (rU fun i => V.int (-i)) (tC (V.int 1)))) σ H0 8 := fun H1 k1 Q q =>
  ⟨.ref a, e, 1, rfl, a, _, -1, .str (nmL zs (zs.length - 1)), rfl, rfl, sq_t (k1 _ _ not0 ha), atI_m1 (by rw [List.length_map, List.getElem?_map, nm_at (by have := L.pos; omega)]; rfl) (by rw [List.length_map]; exact L.pos), q _ (stb_nm (nm_good L (by have := L.pos; omega)))⟩
section
variable {P : Program} {w : World} {K : PySem.W.Frag} {mg : Str → Option Value} {base : Heap} {tL t3 : Tok} {RC OL TL BN BE CE : Addr}
def spAnyD : Sp := fun vs H Q _ => ∃ (a : Addr) (zs : List Str) (k : Nat), vs = [.ref a, .int (k : Nat)] ∧ LkOk zs ∧ H a = some (.tup (zs.map V.str)) ∧ ∀ v d H', Dq (nw H H') v d → ShD d → Kp [] H H' → Q v H'
theorem ok_law_bad_name {f : Addr} {fd : FuncData} (D : Df K mg "_law_bad_name" s_law_bad_name ["_law_locks", "_law_k"] f fd) (T : BtG mg) : FnOk P w K mg base CX0 1 f fd ["_law_locks", "_law_k"] spAnyD := by
  refine D.F.ok sc_law_bad_name (fun vs H Q E h => ?_) (fun cdv A outer s H vs Q E hr h => ?_)
  · obtain ⟨_, _, _, rfl, _⟩ := h
    rfl
  · obtain ⟨a, zs, k, rfl, L, ha, q⟩ := h
    refine ⟨_, (pss_cons (ps_set (i := 2) sc_law_bad_name.nd rfl (Or.inl rfl) (pe_ix (r := rIxT K) ix_tup (pv 0) pe_int (fun _ _ => rfl)))
      (pss_cons (ps_set (i := 3) sc_law_bad_name.nd rfl (Or.inl rfl) (pe_lst (pa_cons pe_str (pa_cons (pe_op op_add_str (pe_slice sl_str (pv 2) po_none (po_some (pe_un un_neg pe_int))) pe_str) (pa_cons (pe_slice sl_str (pe_op op_add_str (pv 2) pe_str) po_none (po_some pe_int)) (pa_cons (pe_op op_add_str (pv 2) pe_str) (pa_cons pe_str (pa_cons pe_int (pa_cons pe_non (pa_cons (pe_tup (pa_cons (pv 2) pa_nil)) (pa_cons (pe_lst (pa_cons (pv 2) pa_nil)) (pa_cons pe_int pa_nil))))))))))))
      (pss_one (ps_ret (pe_ix (r := rIxL K) ix_list (pe_op op_cat (pv 3) (pe_lst (pa_cons (pv 2) (pa_cons (pe_ix (r := rIxT K) ix_tup (pv 0) (pe_un un_neg pe_int) (fun _ _ => rfl)) (pa_cons (pv 2) (pa_cons (pe_ix (r := rIxT K) ix_tup (pv 0) (pe_un un_neg pe_int) (fun _ _ => rfl)) (pa_cons (pv 2) pa_nil))))))) (pe_op op_mod (pe_callTy (T := "int") (r := rInt1) call_int1 (by rfl) T.b_int (by decide +kernel) (pa_cons (pv 1) pa_nil)) pe_int) (fun _ _ => rfl)))))), ?_⟩
    have n1 := L.pos
    have s1 : StB 8 (nmL zs 0) := stb_nm (nm_good L n1)
    have s2 := s1
    have s3 := s1
    have s4 := s1
    try simp (maxSteps := 1000000) only [tSeq, tIfS, tTest, rI0, rI, rU, rEq, rNe, tRet, tRetN, tAsg, gName, gSub, tBM, tBM0, tNext, tB, tNot, tAnd, tOr, tIf, tCall, tDrop, tBreak, tCont, L2.start, tDGet, sDPut, tDNewK, tRevL, rCat, rAppend, rPop, rSetL, tAndV, tOrV, tNotV, tPart, tNoPart, tM1, gTup, gCons, gNil, cxK, cxnK, List.map_cons, List.map_nil, List.length_cons, List.length_nil, List.replicate, List.cons_append, List.nil_append, List.append_nil, List.set_cons_zero, List.set_cons_succ, List.getElem?_cons_zero, List.getElem?_cons_succ, Option.some.injEq, V.ref.injEq, V.int.injEq, V.str.injEq, V.bl.injEq, V.ty.injEq, exists_eq_left', exists_eq_left, exists_and_left, List.cons.injEq, and_true, true_and, sc_ii, sc_ss, sc_bb, sc_ni, sc_in, sc_is, sc_si, sc_nn, decide_true, decide_false, reduceCtorEq, Bool.false_eq_true, if_true, if_false, ite_true, ite_false, exists_const, eq_self, false_and, and_false, or_false, false_or, exists_false, Evl.rLenS, rSum, wipe, tYes, exists_eq, exists_eq', rIxL, rIxT, rIxS, exists_and_right, gt_iff_lt, not_true_eq_false, not_false_eq_true, Bool.not_true, Bool.not_false, decide_eq_true_eq, Nat.reduceSub, Nat.reduceAdd, List.append_assoc, tChain, tDIn, tDNotIn, sDDel, tAug, ipI, rInt1_int, rInt1_bl]
    refine ⟨.ref a, rfl, a, _, 0, .str (nmL zs 0), rfl, rfl, sq_t ha, (show atI _ ((0 : Nat) : Int) = _ from atI_nat (by rw [List.getElem?_map, nm_at n1]; rfl)), ?_⟩
    refine lx_lst (k := 3) (n := 10) (B := H) ?_ (by decide) H (Kp.refl _ _) (Kp.refl _ _) _ fun p H1 us ds k1 hp hd lv hl => ?_
    · have lastX := sx_last (K := K) (σ := [some (.ref a), some (.int (k : Nat)), some (.str (nmL zs 0)), none]) (H0 := H) (i := 0) rfl L ha
      repeat' first | exact dxa_nil | refine dxa_cons ?_ ?_ | exact dx_tup0 | exact dx_lst0 | refine dx_tup1 ?_ | refine dx_lst1 ?_ | refine dx_tup2 ?_ ?_ | refine dx_lst2 ?_ ?_ | refine dx_tup3 ?_ ?_ ?_ | exact dx_int | exact dx_non | exact dx_s (sx_c (n := 10) (by decide +kernel)) (by decide) | exact dx_s (sx_var rfl s1) (by decide) | exact dx_s (sx_var rfl s2) (by decide) | exact dx_s (sx_var rfl s3) (by decide) | exact dx_s (sx_var rfl s4) (by decide) | exact dx_s (sx_app (sx_cut (sx_var rfl s1) (by decide) px_no px_n) (sx_c (n := 1) (by decide +kernel)) (by decide)) (by decide) | exact dx_s (sx_cut (sx_app (sx_var rfl s1) (sx_c (n := 8) (by decide +kernel)) (by decide)) (by decide) px_no px_c) (by decide) | exact dx_s (sx_app (sx_var rfl s1) (sx_c (n := 1) (by decide +kernel)) (by decide)) (by decide) | exact dx_s (sx_app (sx_cut (sx_var rfl s1) (by decide) px_no px_c) (sx_cut (sx_var rfl s3) (by decide) px_no px_c) (by decide)) (by decide) | exact dx_s lastX (by decide)
    have lastX := sx_last (K := K) (σ := [some (.ref a), some (.int (k : Nat)), some (.str (nmL zs 0)), some (.ref p)]) (H0 := H1) (i := 0) rfl L (k1 _ _ not0 ha)
    refine lx_cat (k := 3) (n := 10) (m := 5) (lx_var rfl hp hd lv hl) (lx_lst (n := 5) ?_ (by decide)) (by decide) H1 (Kp.refl _ _) k1 _ fun p2 H2 us2 ds2 k2 hp2 hd2 lv2 hl2 => ?_
    · repeat' first | exact dxa_nil | refine dxa_cons ?_ ?_ | exact dx_tup0 | exact dx_lst0 | refine dx_tup1 ?_ | refine dx_lst1 ?_ | refine dx_tup2 ?_ ?_ | refine dx_lst2 ?_ ?_ | refine dx_tup3 ?_ ?_ ?_ | exact dx_int | exact dx_non | exact dx_s (sx_c (n := 10) (by decide +kernel)) (by decide) | exact dx_s (sx_var rfl s1) (by decide) | exact dx_s (sx_var rfl s2) (by decide) | exact dx_s (sx_var rfl s3) (by decide) | exact dx_s (sx_var rfl s4) (by decide) | exact dx_s (sx_app (sx_cut (sx_var rfl s1) (by decide) px_no px_n) (sx_c (n := 1) (by decide +kernel)) (by decide)) (by decide) | exact dx_s (sx_cut (sx_app (sx_var rfl s1) (sx_c (n := 8) (by decide +kernel)) (by decide)) (by decide) px_no px_c) (by decide) | exact dx_s (sx_app (sx_var rfl s1) (sx_c (n := 1) (by decide +kernel)) (by decide)) (by decide) | exact dx_s (sx_app (sx_cut (sx_var rfl s1) (by decide) px_no px_c) (sx_cut (sx_var rfl s3) (by decide) px_no px_c) (by decide)) (by decide) | exact dx_s lastX (by decide)
    try simp (maxSteps := 1000000) only [tSeq, tIfS, tTest, tOp, tUn, tCB, tCons, tNil, tVar, tC, rI0, rI, rU, rEq, rNe, tRet, tRetN, tAsg, gName, gSub, tBM, tBM0, tNext, tB, tNot, tAnd, tOr, tIf, tCall, tDrop, tBreak, tCont, L2.start, tDGet, sDPut, tTup, tLst, tDNewK, tRevL, rCat, rAppend, rPop, rSetL, tAndV, tOrV, tNotV, tSl, tPart, tNoPart, tM1, gTup, gCons, gNil, cxK, cxnK, List.map_cons, List.map_nil, List.length_cons, List.length_nil, List.replicate, List.cons_append, List.nil_append, List.append_nil, List.set_cons_zero, List.set_cons_succ, List.getElem?_cons_zero, List.getElem?_cons_succ, Option.some.injEq, V.ref.injEq, V.int.injEq, V.str.injEq, V.bl.injEq, V.ty.injEq, exists_eq_left', exists_eq_left, exists_and_left, List.cons.injEq, and_true, true_and, sc_ii, sc_ss, sc_bb, sc_ni, sc_in, sc_is, sc_si, sc_nn, decide_true, decide_false, reduceCtorEq, Bool.false_eq_true, if_true, if_false, ite_true, ite_false, exists_const, eq_self, false_and, and_false, or_false, false_or, exists_false, Evl.rLenS, rSum, wipe, tYes, exists_eq, exists_eq', rIxL, rIxT, rIxS, exists_and_right, gt_iff_lt, not_true_eq_false, not_false_eq_true, Bool.not_true, Bool.not_false, decide_eq_true_eq, Nat.reduceSub, Nat.reduceAdd, List.append_assoc, tChain, tDIn, tDNotIn, sDDel, tAug, ipI, rInt1_int, rInt1_bl]
    refine ⟨by decide, us2, sq_l hp2, ?_⟩
    obtain ⟨d, x, ex, hx, lvd⟩ := pick (m := k % 15) hd2 lv2 (by rw [hl2]; exact Nat.mod_lt _ (by decide))
    exact ⟨x, by rw [show ((k : Nat) : Int) % 15 = ((k % 15 : Nat) : Int) from by omega]; exact atI_nat ex, q x d _ hx (Sh.mono lvd (by decide) (by decide)) (k1.trans k2)⟩
theorem ok_law_bad_entry {f : Addr} {fd : FuncData} (D : Df K mg "_law_bad_entry" s_law_bad_entry ["_law_locks", "_law_k"] f fd) (T : BtG mg) {f1 : Addr} {fd1 : FuncData} (D_law_stranger : Df K mg "_law_stranger" s_law_stranger ["_law_locks"] f1 fd1) (G_law_stranger : FnOk P w K mg base CX0 1 f1 fd1 ["_law_locks"] (spStr K)) : FnOk P w K mg base CX0 2 f fd ["_law_locks", "_law_k"] spAnyD := by
  refine D.F.ok sc_law_bad_entry (fun vs H Q E h => ?_) (fun cdv A outer s H vs Q E hr h => ?_)
  · obtain ⟨_, _, _, rfl, _⟩ := h
    rfl
  · obtain ⟨a, zs, k, rfl, L, ha, q⟩ := h
    refine ⟨_, (pss_cons (ps_set (i := 2) sc_law_bad_entry.nd rfl (Or.inl rfl) (pe_ix (r := rIxT K) ix_tup (pv 0) pe_int (fun _ _ => rfl)))
      (pss_cons (ps_set (i := 3) sc_law_bad_entry.nd rfl (Or.inl rfl) (pe_ix (r := rIxT K) ix_tup (pv 0) (pe_op op_fdiv (pe_callB (id := "len") (r := Evl.rLenS K) call_len_seq (by rfl) T.b_len PySem.boot_len (pa_cons (pv 0) pa_nil)) pe_int) (fun _ _ => rfl)))
      (pss_cons (ps_set (i := 4) sc_law_bad_entry.nd rfl (Or.inl rfl) (pe_ix (r := rIxT K) ix_tup (pv 0) (pe_un un_neg pe_int) (fun _ _ => rfl)))
      (pss_cons (ps_set (i := 5) sc_law_bad_entry.nd rfl (Or.inl rfl) (pe_call G_law_stranger (hr.mono (by decide)) rfl D_law_stranger.g D_law_stranger.F.kp D_law_stranger.b .nil pass0 (pa_cons (pv 0) pa_nil)))
      (pss_cons (ps_set (i := 6) sc_law_bad_entry.nd rfl (Or.inl rfl) (pe_lst (pa_cons (pe_lst (pa_cons (pe_tup pa_nil) (pa_cons (pv 2) pa_nil))) (pa_cons (pe_tup (pa_cons (pe_lst pa_nil) (pa_cons (pv 2) pa_nil))) (pa_cons (pe_tup (pa_cons (pe_tup pa_nil) (pa_cons (pv 5) pa_nil))) (pa_cons (pe_tup (pa_cons (pe_tup (pa_cons (pv 5) pa_nil)) (pa_cons (pv 2) pa_nil))) (pa_cons (pe_tup (pa_cons (pe_tup (pa_cons (pv 2) pa_nil)) (pa_cons (pv 2) pa_nil))) (pa_cons (pe_tup (pa_cons (pe_tup (pa_cons (pv 4) (pa_cons (pv 2) pa_nil))) (pa_cons (pv 3) pa_nil))) (pa_cons (pe_tup (pa_cons (pe_tup (pa_cons (pv 2) (pa_cons (pv 2) pa_nil))) (pa_cons (pv 4) pa_nil))) pa_nil)))))))))
      (pss_cons (ps_set (i := 6) sc_law_bad_entry.nd rfl (Or.inl rfl) (pe_op op_cat (pv 6) (pe_lst (pa_cons (pe_tup (pa_cons (pv 2) (pa_cons (pv 4) pa_nil))) (pa_cons (pe_op op_add_str (pe_slice sl_str (pv 2) po_none (po_some pe_int)) (pe_slice sl_str (pv 4) po_none (po_some pe_int))) (pa_cons (pe_tup (pa_cons (pe_tup pa_nil) (pa_cons (pv 2) (pa_cons (pv 4) pa_nil)))) (pa_cons (pe_tup (pa_cons (pe_tup pa_nil) pa_nil)) (pa_cons (pe_tup pa_nil) (pa_cons pe_non (pa_cons pe_int (pa_cons (pe_tup (pa_cons (pe_tup pa_nil) (pa_cons pe_non pa_nil))) (pa_cons (pe_tup (pa_cons pe_non (pa_cons (pv 2) pa_nil))) pa_nil))))))))))))
      (pss_cons (ps_set (i := 6) sc_law_bad_entry.nd rfl (Or.inl rfl) (pe_op op_cat (pv 6) (pe_lst (pa_cons (pe_tup (pa_cons (pe_tup (pa_cons pe_non pa_nil)) (pa_cons (pv 2) pa_nil))) (pa_cons (pe_tup (pa_cons (pe_tup pa_nil) (pa_cons (pe_lst (pa_cons (pv 2) pa_nil)) pa_nil))) (pa_cons (pe_tup (pa_cons (pe_tup (pa_cons (pe_lst (pa_cons (pv 2) pa_nil)) pa_nil)) (pa_cons (pv 4) pa_nil))) (pa_cons (pe_tup (pa_cons (pe_tup (pa_cons (pv 4) (pa_cons (pv 2) pa_nil))) (pa_cons (pv 5) pa_nil))) (pa_cons (pe_tup (pa_cons (pe_tup pa_nil) (pa_cons pe_int pa_nil))) (pa_cons (pe_tup (pa_cons (pe_lst (pa_cons (pv 2) pa_nil)) (pa_cons (pv 4) pa_nil))) (pa_cons pe_str pa_nil))))))))))
      (pss_one (ps_ret (pe_ix (r := rIxL K) ix_list (pv 6) (pe_op op_mod (pe_callTy (T := "int") (r := rInt1) call_int1 (by rfl) T.b_int (by decide +kernel) (pa_cons (pv 1) pa_nil)) pe_int) (fun _ _ => rfl))))))))))), ?_⟩
    have n1 := L.pos
    have n3 := L.le
    have s1 : StB 8 (nmL zs 0) := stb_nm (nm_good L n1)
    have s2 : StB 8 (nmL zs (zs.length / 2)) := stb_nm (nm_good L (by omega))
    have s3 : StB 8 (nmL zs (zs.length - 1)) := stb_nm (nm_good L (by omega))
    try simp (maxSteps := 1000000) only [tSeq, tIfS, tTest, rI0, rI, rU, rEq, rNe, tRet, tRetN, tAsg, gName, gSub, tBM, tBM0, tNext, tB, tNot, tAnd, tOr, tIf, tCall, tDrop, tBreak, tCont, L2.start, tDGet, sDPut, tDNewK, tRevL, rCat, rAppend, rPop, rSetL, tAndV, tOrV, tNotV, tPart, tNoPart, tM1, gTup, gCons, gNil, cxK, cxnK, List.map_cons, List.map_nil, List.length_cons, List.length_nil, List.replicate, List.cons_append, List.nil_append, List.append_nil, List.set_cons_zero, List.set_cons_succ, List.getElem?_cons_zero, List.getElem?_cons_succ, Option.some.injEq, V.ref.injEq, V.int.injEq, V.str.injEq, V.bl.injEq, V.ty.injEq, exists_eq_left', exists_eq_left, exists_and_left, List.cons.injEq, and_true, true_and, sc_ii, sc_ss, sc_bb, sc_ni, sc_in, sc_is, sc_si, sc_nn, decide_true, decide_false, reduceCtorEq, Bool.false_eq_true, if_true, if_false, ite_true, ite_false, exists_const, eq_self, false_and, and_false, or_false, false_or, exists_false, Evl.rLenS, rSum, wipe, tYes, exists_eq, exists_eq', rIxL, rIxT, rIxS, exists_and_right, gt_iff_lt, not_true_eq_false, not_false_eq_true, Bool.not_true, Bool.not_false, decide_eq_true_eq, Nat.reduceSub, Nat.reduceAdd, List.append_assoc, tChain, tDIn, tDNotIn, sDDel, tAug, ipI, rInt1_int, rInt1_bl]
    refine ⟨.ref a, rfl, a, _, 0, .str (nmL zs 0), rfl, rfl, sq_t ha, (show atI _ ((0 : Nat) : Int) = _ from atI_nat (by rw [List.getElem?_map, nm_at n1]; rfl)), ?_⟩
    refine ⟨.ref a, rfl, .ref a, rfl, a, _, rfl, .inr (sq_t ha), (zs.length : Nat), 2, by rw [List.length_map], rfl, ⟨by decide, by decide⟩, a, _, ((zs.length / 2 : Nat) : Int), .str (nmL zs (zs.length / 2)), rfl, by push_cast; rfl, sq_t ha, atI_nat (by rw [List.getElem?_map, nm_at (show zs.length / 2 < zs.length by omega)]; rfl), ?_⟩
    refine ⟨.ref a, rfl, 1, rfl, a, _, -1, .str (nmL zs (zs.length - 1)), rfl, rfl, sq_t ha, atI_m1 (by rw [List.length_map, List.getElem?_map, nm_at (show zs.length - 1 < zs.length by omega)]; rfl) (by rw [List.length_map]; exact n1), ?_⟩
    refine ⟨.ref a, rfl, a, zs, rfl, n3, .inr (sq_t ha), fun z H0 gz nz k0 => ?_⟩
    have s4 : StB 8 z := stb_nm gz
    dsimp only
    refine lx_lst (k := 3) (n := 7) (B := H) ?_ (by decide) H0 (Kp.refl _ _) k0 _ fun p H1 us ds k1 hp hd lv hl => ?_
    · repeat' first | exact dxa_nil | refine dxa_cons ?_ ?_ | exact dx_tup0 | exact dx_lst0 | refine dx_tup1 ?_ | refine dx_lst1 ?_ | refine dx_tup2 ?_ ?_ | refine dx_lst2 ?_ ?_ | refine dx_tup3 ?_ ?_ ?_ | exact dx_int | exact dx_non | exact dx_s (sx_c (n := 10) (by decide +kernel)) (by decide) | exact dx_s (sx_var rfl s1) (by decide) | exact dx_s (sx_var rfl s2) (by decide) | exact dx_s (sx_var rfl s3) (by decide) | exact dx_s (sx_var rfl s4) (by decide) | exact dx_s (sx_app (sx_cut (sx_var rfl s1) (by decide) px_no px_n) (sx_c (n := 1) (by decide +kernel)) (by decide)) (by decide) | exact dx_s (sx_cut (sx_app (sx_var rfl s1) (sx_c (n := 8) (by decide +kernel)) (by decide)) (by decide) px_no px_c) (by decide) | exact dx_s (sx_app (sx_var rfl s1) (sx_c (n := 1) (by decide +kernel)) (by decide)) (by decide) | exact dx_s (sx_app (sx_cut (sx_var rfl s1) (by decide) px_no px_c) (sx_cut (sx_var rfl s3) (by decide) px_no px_c) (by decide)) (by decide) | exact dx_s lastX (by decide)
    refine lx_cat (k := 3) (n := 7) (m := 9) (lx_var rfl hp hd lv hl) (lx_lst (n := 9) ?_ (by decide)) (by decide) H1 (Kp.refl _ _) (k0.trans k1) _ fun p2 H2 us2 ds2 k2 hp2 hd2 lv2 hl2 => ?_
    · repeat' first | exact dxa_nil | refine dxa_cons ?_ ?_ | exact dx_tup0 | exact dx_lst0 | refine dx_tup1 ?_ | refine dx_lst1 ?_ | refine dx_tup2 ?_ ?_ | refine dx_lst2 ?_ ?_ | refine dx_tup3 ?_ ?_ ?_ | exact dx_int | exact dx_non | exact dx_s (sx_c (n := 10) (by decide +kernel)) (by decide) | exact dx_s (sx_var rfl s1) (by decide) | exact dx_s (sx_var rfl s2) (by decide) | exact dx_s (sx_var rfl s3) (by decide) | exact dx_s (sx_var rfl s4) (by decide) | exact dx_s (sx_app (sx_cut (sx_var rfl s1) (by decide) px_no px_n) (sx_c (n := 1) (by decide +kernel)) (by decide)) (by decide) | exact dx_s (sx_cut (sx_app (sx_var rfl s1) (sx_c (n := 8) (by decide +kernel)) (by decide)) (by decide) px_no px_c) (by decide) | exact dx_s (sx_app (sx_var rfl s1) (sx_c (n := 1) (by decide +kernel)) (by decide)) (by decide) | exact dx_s (sx_app (sx_cut (sx_var rfl s1) (by decide) px_no px_c) (sx_cut (sx_var rfl s3) (by decide) px_no px_c) (by decide)) (by decide) | exact dx_s lastX (by decide)
    refine lx_cat (k := 3) (n := 16) (m := 7) (lx_var rfl hp2 hd2 lv2 hl2) (lx_lst (n := 7) ?_ (by decide)) (by decide) H2 (Kp.refl _ _) ((k0.trans k1).trans k2) _ fun p3 H3 us3 ds3 k3 hp3 hd3 lv3 hl3 => ?_
    · repeat' first | exact dxa_nil | refine dxa_cons ?_ ?_ | exact dx_tup0 | exact dx_lst0 | refine dx_tup1 ?_ | refine dx_lst1 ?_ | refine dx_tup2 ?_ ?_ | refine dx_lst2 ?_ ?_ | refine dx_tup3 ?_ ?_ ?_ | exact dx_int | exact dx_non | exact dx_s (sx_c (n := 10) (by decide +kernel)) (by decide) | exact dx_s (sx_var rfl s1) (by decide) | exact dx_s (sx_var rfl s2) (by decide) | exact dx_s (sx_var rfl s3) (by decide) | exact dx_s (sx_var rfl s4) (by decide) | exact dx_s (sx_app (sx_cut (sx_var rfl s1) (by decide) px_no px_n) (sx_c (n := 1) (by decide +kernel)) (by decide)) (by decide) | exact dx_s (sx_cut (sx_app (sx_var rfl s1) (sx_c (n := 8) (by decide +kernel)) (by decide)) (by decide) px_no px_c) (by decide) | exact dx_s (sx_app (sx_var rfl s1) (sx_c (n := 1) (by decide +kernel)) (by decide)) (by decide) | exact dx_s (sx_app (sx_cut (sx_var rfl s1) (by decide) px_no px_c) (sx_cut (sx_var rfl s3) (by decide) px_no px_c) (by decide)) (by decide) | exact dx_s lastX (by decide)
    try simp (maxSteps := 1000000) only [tSeq, tIfS, tTest, tOp, tUn, tCB, tCons, tNil, tVar, tC, rI0, rI, rU, rEq, rNe, tRet, tRetN, tAsg, gName, gSub, tBM, tBM0, tNext, tB, tNot, tAnd, tOr, tIf, tCall, tDrop, tBreak, tCont, L2.start, tDGet, sDPut, tTup, tLst, tDNewK, tRevL, rCat, rAppend, rPop, rSetL, tAndV, tOrV, tNotV, tSl, tPart, tNoPart, tM1, gTup, gCons, gNil, cxK, cxnK, List.map_cons, List.map_nil, List.length_cons, List.length_nil, List.replicate, List.cons_append, List.nil_append, List.append_nil, List.set_cons_zero, List.set_cons_succ, List.getElem?_cons_zero, List.getElem?_cons_succ, Option.some.injEq, V.ref.injEq, V.int.injEq, V.str.injEq, V.bl.injEq, V.ty.injEq, exists_eq_left', exists_eq_left, exists_and_left, List.cons.injEq, and_true, true_and, sc_ii, sc_ss, sc_bb, sc_ni, sc_in, sc_is, sc_si, sc_nn, decide_true, decide_false, reduceCtorEq, Bool.false_eq_true, if_true, if_false, ite_true, ite_false, exists_const, eq_self, false_and, and_false, or_false, false_or, exists_false, Evl.rLenS, rSum, wipe, tYes, exists_eq, exists_eq', rIxL, rIxT, rIxS, exists_and_right, gt_iff_lt, not_true_eq_false, not_false_eq_true, Bool.not_true, Bool.not_false, decide_eq_true_eq, Nat.reduceSub, Nat.reduceAdd, List.append_assoc, tChain, tDIn, tDNotIn, sDDel, tAug, ipI, rInt1_int, rInt1_bl]
    refine ⟨by decide, us3, sq_l hp3, ?_⟩
    obtain ⟨d, x, ex, hx, lvd⟩ := pick (m := k % 23) hd3 lv3 (by rw [hl3]; exact Nat.mod_lt _ (by decide))
    exact ⟨x, by rw [show ((k : Nat) : Int) % 23 = ((k % 23 : Nat) : Int) from by omega]; exact atI_nat ex, q x d _ hx (Sh.mono lvd (by decide) (by decide)) (((k0.trans k1).trans k2).trans k3)⟩
end
end My

set_option Elab.async false
set_option linter.all false
set_option maxRecDepth 100000
set_option maxHeartbeats 4000000
namespace My
open PySem L2 NdefX StX
abbrev s_law_refusals : Stmt := top 37
theorem sc_law_refusals : FnScope ["_law_names_here", "_law_locks", "_law_told_here", "_law_draws_here", "_law_bad", "_law_at", "_law_row"] ["_law_names_here", "_law_locks", "_law_told_here", "_law_draws_here"] (defScope s_law_refusals) := ⟨rfl, rfl, rfl, by decide +kernel, rfl, by decide +kernel, by decide +kernel⟩
structure BtF (mg : Str → Option Value) : Prop extends BtG mg where
  b_repr : mg "repr" = none
/-- at p a list of data -/
def DL (H : Hp) (p : Addr) (N : Nat) : Prop := ∃ us ds, H p = some (.lst us) ∧ DqAll H us ds ∧ (∀ d ∈ ds, ShD d) ∧ ds.length ≤ N
theorem DL.kp {H H' : Hp} {p : Addr} {N : Nat} (h : DL H p N) (k : Kp [] H H') : DL H' p N := by
  obtain ⟨us, ds, a, b, c, d⟩ := h
  exact ⟨us, ds, k _ _ not0 a, DqAll.kp k b, c, d⟩
theorem DL.mono {H : Hp} {p : Addr} {N M : Nat} (h : DL H p N) (e : N ≤ M) : DL H p M := by
  obtain ⟨us, ds, a, b, c, d⟩ := h
  exact ⟨us, ds, a, b, c, Nat.le_trans d e⟩
theorem dq_strs' {H : Hp} : ∀ xs : List Str, DqAll H (xs.map V.str) (xs.map PyData.str)
  | [] => .nil
  | x :: r => .cons (.str x) (dq_strs' r)
theorem ET.dq {zs : List Str} {H : Hp} {v : V} {e : En} (h : ET zs H v e) : Dq H v (eD zs e) := by
  obtain ⟨a, u, rfl, h, b, rfl, h2⟩ := h
  exact .tup h (.cons (.tup h2 (dq_strs' _)) (.cons (.str _) .nil))
theorem rw_dq {zs : List Str} {H H' : Hp} : ∀ {us : List V} {gs : List En}, Rw (ET zs H) us gs → Kp [] H H' → DqAll H' us (gs.map (eD zs))
  | us, [], r, _ => by rw [r.isNil]; exact .nil
  | us, g :: gs, r, k => by
    obtain ⟨u, t, rfl, e, r'⟩ := r.ex
    exact .cons (e.dq.kp k) (rw_dq r' k)
theorem lv_nm {k : Nat} {z : Str} (h : nameS z = true) : Lv k (.str z) := (stb_nm h).lv (by decide)
theorem lv_hD {zs : List Str} (L : LkOk zs) {h : Hd} (hm : h ∈ hls zs.length) : Lv 1 (hD zs h) := by
  have EO := factE (n := zs.length) (by have := L.le; omega) L.pos
  obtain ⟨b, h3, _⟩ := EO.hld h hm
  refine lv_tup (fun d hd => ?_) (by rw [List.length_map]; show (nmH zs h).length ≤ 3; unfold nmH; rw [List.length_map]; exact h3)
  obtain ⟨z, hz, rfl⟩ := List.mem_map.mp hd
  obtain ⟨x, hx, rfl⟩ := List.mem_map.mp hz
  exact lv_nm (nm_good L (b x hx))
theorem sh_eD {zs : List Str} (L : LkOk zs) {e : En} (h : e ∈ ens zs.length) : ShD (eD zs e) := by
  have EO := factE (n := zs.length) (by have := L.le; omega) L.pos
  obtain ⟨⟨_, b2⟩, hm, _⟩ := EO.ent e h
  refine Sh.mono (lv_tup (k := 1) (ds := [hD zs e.1, .str (nmL zs e.2)]) (fun d hd => ?_) (by simp)) (by decide) (by decide)
  rcases List.mem_cons.mp hd with rfl | hd
  · exact lv_hD L hm
  · rw [List.mem_singleton.mp hd]
    exact lv_nm (nm_good L b2)
theorem dq_drop {H : Hp} : ∀ {us : List V} {ds : List PyData} (i : Nat), DqAll H us ds → DqAll H (us.drop i) (ds.drop i)
  | _, _, 0, h => h
  | _, _, i + 1, .nil => .nil
  | _, _, i + 1, .cons a t => dq_drop i t
theorem dq_set {H : Hp} {v : V} {d : PyData} : ∀ {us : List V} {ds : List PyData} (i : Nat), DqAll H us ds → Dq H v d → DqAll H (us.set i v) (ds.set i d)
  | _, _, _, .nil, _ => .nil
  | _, _, 0, .cons a t, h => .cons h t
  | _, _, i + 1, .cons a t, h => .cons a (dq_set i t h)
theorem insD {K : PySem.W.Frag} {H H0 : Hp} {l dl a : Addr} {N d1 dj : Nat} {j : Int} {ds : List Int} {zs : List Str} {T : Addr → Int → Hp → Prop} (k0 : Kp [] H H0) (L : LkOk zs) (ha : H a = some (.tup (zs.map V.str))) (hdl : H dl = some (.lst (ds.map V.int))) (fj : atI (ds.map V.int) j = some (.int (dj : Nat))) (hD : DL H0 l N) (hN : N ≤ 100) (q : ∀ p i H', DL H' p (N + 1) → Kp [] H H' → T p i H') :
    ∃ x : List V, (SqL K H0 l x ∨ SqT K H0 l x) ∧ (0 : Int) < ((x.length : Nat) : Int) + 1 ∧ rSlL K (V.ref l) none (some (((d1 : Nat) : Int) % (((x.length : Nat) : Int) + 1))) H0 fun x_1 H1 => ∃ x_2, SqL K H1 dl x_2 ∧ ∃ x_3, atI x_2 j = some x_3 ∧ spAnyD [V.ref a, x_3] H1 (fun x_4 H1 => 1 ≤ sizeLine ∧ ∀ (p : Addr), H1 p = none → ∃ l_1, x_1 = V.ref l_1 ∧ ∃ x_5, upd H1 p (HO.lst [x_4]) l_1 = some (HO.lst x_5) ∧ ∃ x_6, upd H1 p (HO.lst [x_4]) p = some (HO.lst x_6) ∧ x_5.length + x_6.length ≤ sizeLine ∧ ∀ (p_1 : Addr), upd H1 p (HO.lst [x_4]) p_1 = none → rSlL K (V.ref l) (some (((d1 : Nat) : Int) % (((x.length : Nat) : Int) + 1))) none (upd (upd H1 p (HO.lst [x_4])) p_1 (HO.lst (x_5 ++ x_6))) fun y H2 => ∃ x_7, y = V.ref x_7 ∧ ∃ x_8, H2 p_1 = some (HO.lst x_8) ∧ ∃ x_9, H2 x_7 = some (HO.lst x_9) ∧ x_8.length + x_9.length ≤ sizeLine ∧ ∀ (p : Addr), H2 p = none → T p (((d1 : Nat) : Int) % (((x.length : Nat) : Int) + 1)) (upd H2 p (HO.lst (x_8 ++ x_9)))) E0 := by
  obtain ⟨us0, ds0, hl0, hd0, sh0, le0⟩ := hD
  have ll := hd0.len
  refine ⟨us0, .inl (sq_l hl0), by omega, l, us0, rfl, sq_l hl0, fun p1 np1 => ?_⟩
  obtain ⟨i, ei⟩ : ∃ i : Nat, ((d1 : Nat) : Int) % (((us0.length : Nat) : Int) + 1) = (i : Nat) := ⟨d1 % (us0.length + 1), by push_cast; rfl⟩
  rw [ei, cut_to]
  have k1 := k0.trans (Kp.new np1 (o := .lst (us0.take i)))
  have kA := (Kp.new np1 : Kp [] H0 (upd H0 p1 (.lst (us0.take i))))
  have h1 : (upd H0 p1 (.lst (us0.take i))) p1 = some (.lst (us0.take i)) := upd_same
  generalize upd H0 p1 (.lst (us0.take i)) = H1 at k1 kA h1 ⊢
  refine ⟨_, sq_l (k1 _ _ not0 hdl), _, fj, a, zs, dj, rfl, L, k1 _ _ not0 ha, fun v d H2 hv sd k2 => ⟨by rw [sizeLine_eq]; decide, fun p2 np2 => ?_⟩⟩
  have k3 := k2.trans (Kp.new np2 (o := .lst [v]))
  have hv3 := (hv.kp nw_to).kp (Kp.new np2 (o := .lst [v]))
  have h2 : (upd H2 p2 (.lst [v])) p2 = some (.lst [v]) := upd_same
  generalize upd H2 p2 (.lst [v]) = H3 at k3 hv3 h2 ⊢
  refine ⟨p1, rfl, _, k3 _ _ not0 h1, _, h2, by rw [List.length_take, sizeLine_eq]; simp only [List.length_cons, List.length_nil]; omega, fun p4 np4 => ?_⟩
  have k4 := k3.trans (Kp.new np4 (o := .lst (us0.take i ++ [v])))
  have hv4 := hv3.kp (Kp.new np4 (o := .lst (us0.take i ++ [v])))
  have h4 : (upd H3 p4 (.lst (us0.take i ++ [v]))) p4 = some (.lst (us0.take i ++ [v])) := upd_same
  generalize upd H3 p4 (.lst (us0.take i ++ [v])) = H4 at k4 hv4 h4 ⊢
  refine ⟨l, us0, rfl, sq_l ((kA.trans k4) _ _ not0 hl0), fun p5 np5 => ?_⟩
  rw [cut_from]
  have k5 := k4.trans (Kp.new np5 (o := .lst (us0.drop i)))
  have hv5 := hv4.kp (Kp.new np5 (o := .lst (us0.drop i)))
  have h5 : (upd H4 p5 (.lst (us0.drop i))) p5 = some (.lst (us0.drop i)) := upd_same
  have h45 := (Kp.new np5 (S := []) (o := .lst (us0.drop i))) _ _ not0 h4
  generalize upd H4 p5 (.lst (us0.drop i)) = H5 at k5 hv5 h5 h45 ⊢
  refine ⟨p5, rfl, _, h45, _, h5, by rw [List.length_append, List.length_take, List.length_drop, sizeLine_eq]; simp only [List.length_cons, List.length_nil]; omega, fun p6 np6 => ?_⟩
  have k6 := Kp.new np6 (S := []) (o := .lst ((us0.take i ++ [v]) ++ us0.drop i))
  have hd5 := DqAll.kp (kA.trans k5) hd0
  refine q p6 i _ ⟨_, (ds0.take i ++ [d]) ++ ds0.drop i, upd_same, DqAll.kp k6 (DqAll.app (DqAll.app (dq_take i hd5) (.cons hv5 .nil)) (dq_drop i hd5)), fun x hx => ?_, ?_⟩ ((k1.trans k5).trans k6)
  · rcases List.mem_append.mp hx with hx | hx
    · rcases List.mem_append.mp hx with hx | hx
      · exact sh0 x (List.mem_of_mem_take hx)
      · rw [List.mem_singleton.mp hx]; exact sd
    · exact sh0 x (List.mem_of_mem_drop hx)
  · rw [List.length_append, List.length_append, List.length_take, List.length_drop]
    simp only [List.length_cons, List.length_nil]
    omega
theorem lkBad_mem : ∀ {lds : List PyData} {seen : List Str} {d : PyData}, lkBad seen lds = some d → d ∈ lds
  | [], _, _, h => nomatch h
  | x :: r, seen, d, h => by
    unfold lkBad at h
    cases e : nmOf x with
    | none =>
      rw [e] at h
      cases h
      exact List.mem_cons_self
    | some z =>
      rw [e] at h
      dsimp only at h
      by_cases m : z ∈ seen
      · rw [if_pos m] at h
        cases h
        exact List.mem_cons_self
      · rw [if_neg m] at h
        exact List.mem_cons_of_mem _ (lkBad_mem h)
theorem sh_two {i : Int} {d : PyData} (hi : i.natAbs < 1000) (h : ShD d) : Sh 60 1000000 (.tuple [.int i, d]) := (sh_tup (k := 20) (b := 1000) fun x hx => by
  rcases List.mem_cons.mp hx with rfl | hx
  · exact (sh_int hi).mono (by decide) (by decide)
  · rw [List.mem_singleton.mp hx]; exact h).mono (by decide) (by show 1001 * 2 ≤ _; decide)
theorem sh_verd {lds ds : List PyData} (h1 : ∀ d ∈ lds, ShD d) (h2 : ∀ d ∈ ds, ShD d) : Sh 60 1000000 (verd lds ds) := by
  unfold verd
  split
  · exact sh_two (by decide) ((sh_int (by decide)).mono (by decide) (by decide))
  · split
    · next d e => exact sh_two (by decide) (h1 d (lkBad_mem e))
    · split
      · next d e => exact sh_two (by decide) (h2 d (List.mem_of_find?_eq_some e))
      · exact sh_two (by decide) (sh_none.mono (by decide) (by decide))
theorem sp_repr {K : PySem.W.Frag} {H : Hp} {la ea : Addr} {lus us : List V} {lds ds : List PyData} {Q : VK} {E : XK} (h1 : H la = some (.tup lus)) (h2 : DqAll H lus lds) (h3 : SqAny K H ea us) (h4 : DqAll H us ds) (h5 : ∀ d ∈ lds, ShD d) (h6 : ∀ d ∈ ds, ShD d) (h7 : lds.length ≤ 100) (h8 : ds.length ≤ 100) (q : ∀ H', Kp [] H H' → Q (.str (verd lds ds).shown) H') :
    spVerd K [.ref la, .ref ea] H (fun x H1 => rReprA [x] H1 Q) E :=
  ⟨la, ea, lus, us, lds, ds, rfl, h1, h2, h3, h4, h5, h6, h7, h8, fun v H' hv k => ⟨v, _, rfl, hv, sh_verd h5 h6, q H' k⟩⟩
section
variable {P : Program} {w : World} {K : PySem.W.Frag} {mg : Str → Option Value} {base : Heap} {tL t3 : Tok} {RC OL TL BN BE CE : Addr}
def spRfs (K : PySem.W.Frag) : Sp := fun vs H Q _ => ∃ (nl a tl dl : Addr) (ns zs : List Str) (us : List V) (gs : List En) (ds : List Int), vs = [.ref nl, .ref a, .ref tl, .ref dl] ∧ H nl = some (.lst (ns.map V.str)) ∧ LkOk ns ∧ LkOk zs ∧ H a = some (.tup (zs.map V.str)) ∧ H tl = some (.lst us) ∧ Rw (ET zs H) us gs ∧ (∀ g ∈ gs, g ∈ ens zs.length) ∧ gs.length ≤ 30 ∧ H dl = some (.lst (ds.map V.int)) ∧ DrawN 8 45 ds ∧ ∀ H', Kp [] H H' → Q (.bl true) H'
theorem ok_law_refusals {f : Addr} {fd : FuncData} (D : Df K mg "_law_refusals" s_law_refusals ["_law_names_here", "_law_locks", "_law_told_here", "_law_draws_here"] f fd) (T : BtF mg) {f1 : Addr} {fd1 : FuncData} (D_law_bad_entry : Df K mg "_law_bad_entry" s_law_bad_entry ["_law_locks", "_law_k"] f1 fd1) (G_law_bad_entry : FnOk P w K mg base CX0 2 f1 fd1 ["_law_locks", "_law_k"] spAnyD) {f2 : Addr} {fd2 : FuncData} (D_law_bad_name : Df K mg "_law_bad_name" s_law_bad_name ["_law_locks", "_law_k"] f2 fd2) (G_law_bad_name : FnOk P w K mg base CX0 1 f2 fd2 ["_law_locks", "_law_k"] spAnyD)
    {f3 : Addr} {fd3 : FuncData} (D_law_stranger : Df K mg "_law_stranger" s_law_stranger ["_law_locks"] f3 fd3) (G_law_stranger : FnOk P w K mg base CX0 1 f3 fd3 ["_law_locks"] (spStr K)) {f4 : Addr} {fd4 : FuncData} (D_law_told : Df K mg "_law_told" s_law_told ["_law_locks", "_law_told_here"] f4 fd4) (G_law_told : FnOk P w K mg base CX0 6 f4 fd4 ["_law_locks", "_law_told_here"] (spVerd K))
    {f5 : Addr} {fd5 : FuncData} (D_law_reading : Df K mg "_law_reading" s_law_reading ["_law_locks", "_law_told_here"] f5 fd5) (G_law_reading : FnOk P w K mg base CX0 3 f5 fd5 ["_law_locks", "_law_told_here"] (spVerd K)) : FnG P w K mg base (L2.CX P w) 7 f fd ["_law_names_here", "_law_locks", "_law_told_here", "_law_draws_here"] (spRfs K) := by
  refine FnG.ok D.F sc_law_refusals (fun vs H Q E h => ?_) (fun cdv A outer s H vs Q E gd0 hr h => ?_)
  · obtain ⟨_, _, _, _, _, _, _, _, _, rfl, _⟩ := h
    rfl
  · obtain ⟨nl, a, tl, dl, ns, zs, us, gs, ds, rfl, hnl, LN, L, ha, htl, hus, hin, g30, hdl, hd, q⟩ := h
    have gd := And.intro gd0 hr.units
    refine ⟨_, (pss_cons (ps_set (i := 4) sc_law_refusals.nd rfl (Or.inl rfl) (pe_callTy call_list_of (by rfl) T.b_list (by decide +kernel) (pa_cons (pv 2) pa_nil)))
      (pss_cons (ps_if (pt_cmpR op_gt (pe_ix (r := rIxL K) ix_list (pv 3) pe_int (fun _ _ => rfl)) pe_int (nomark _)) (pss_cons (ps_set (i := 5) sc_law_refusals.nd rfl (Or.inl rfl) (pe_op op_mod (pe_callTy (T := "int") (r := rInt1) call_int1 (by rfl) T.b_int (by decide +kernel) (pa_cons (pe_ix (r := rIxL K) ix_list (pv 3) pe_int (fun _ _ => rfl)) pa_nil)) (pe_op op_add (pe_callB (id := "len") (r := Evl.rLenS K) call_len_seq (by rfl) T.b_len PySem.boot_len (pa_cons (pv 4) pa_nil)) pe_int)))
      (pss_one (ps_set (i := 4) sc_law_refusals.nd rfl (Or.inl rfl) (pe_op op_cat (pe_op op_cat (pe_slice sl_list (pv 4) po_none (po_some (pv 5))) (pe_lst (pa_cons (pe_call G_law_bad_entry (hr.mono (by decide)) rfl D_law_bad_entry.g D_law_bad_entry.F.kp D_law_bad_entry.b .nil pass0 (pa_cons (pv 1) (pa_cons (pe_ix (r := rIxL K) ix_list (pv 3) pe_int (fun _ _ => rfl)) pa_nil))) pa_nil))) (pe_slice sl_list (pv 4) (po_some (pv 5)) po_none))))) pss_nil)
      (pss_cons (ps_if (pt_cmpR op_gt (pe_ix (r := rIxL K) ix_list (pv 3) pe_int (fun _ _ => rfl)) pe_int (nomark _)) (pss_cons (ps_set (i := 5) sc_law_refusals.nd rfl (Or.inl rfl) (pe_op op_mod (pe_callTy (T := "int") (r := rInt1) call_int1 (by rfl) T.b_int (by decide +kernel) (pa_cons (pe_ix (r := rIxL K) ix_list (pv 3) pe_int (fun _ _ => rfl)) pa_nil)) (pe_op op_add (pe_callB (id := "len") (r := Evl.rLenS K) call_len_seq (by rfl) T.b_len PySem.boot_len (pa_cons (pv 4) pa_nil)) pe_int)))
      (pss_one (ps_set (i := 4) sc_law_refusals.nd rfl (Or.inl rfl) (pe_op op_cat (pe_op op_cat (pe_slice sl_list (pv 4) po_none (po_some (pv 5))) (pe_lst (pa_cons (pe_call G_law_bad_entry (hr.mono (by decide)) rfl D_law_bad_entry.g D_law_bad_entry.F.kp D_law_bad_entry.b .nil pass0 (pa_cons (pv 1) (pa_cons (pe_ix (r := rIxL K) ix_list (pv 3) pe_int (fun _ _ => rfl)) pa_nil))) pa_nil))) (pe_slice sl_list (pv 4) (po_some (pv 5)) po_none))))) pss_nil)
      (pss_cons (ps_set (i := 6) sc_law_refusals.nd rfl (Or.inl rfl) (pe_callTy call_list_of (by rfl) T.b_list (by decide +kernel) (pa_cons (pv 1) pa_nil)))
      (pss_cons (ps_if (pt_cmpR op_eq (pe_op op_mod (pe_callTy (T := "int") (r := rInt1) call_int1 (by rfl) T.b_int (by decide +kernel) (pa_cons (pe_ix (r := rIxL K) ix_list (pv 3) pe_int (fun _ _ => rfl)) pa_nil)) pe_int) pe_int (nomark _)) (pss_one (ps_set (i := 6) sc_law_refusals.nd rfl (Or.inl rfl) (pe_op op_cat (pe_callTy call_list_of (by rfl) T.b_list (by decide +kernel) (pa_cons (pv 0) pa_nil)) (pe_lst (pa_cons (pe_call G_law_stranger (hr.mono (by decide)) rfl D_law_stranger.g D_law_stranger.F.kp D_law_stranger.b .nil pass0 (pa_cons (pv 0) pa_nil)) pa_nil))))) pss_nil)
      (pss_cons (ps_if (pt_cmpR op_gt (pe_op op_fdiv (pe_callTy (T := "int") (r := rInt1) call_int1 (by rfl) T.b_int (by decide +kernel) (pa_cons (pe_ix (r := rIxL K) ix_list (pv 3) pe_int (fun _ _ => rfl)) pa_nil)) pe_int) pe_int (nomark _)) (pss_one (ps_asg (pe_call G_law_bad_name (hr.mono (by decide)) rfl D_law_bad_name.g D_law_bad_name.F.kp D_law_bad_name.b .nil pass0 (pa_cons (pv 1) (pa_cons (pe_ix (r := rIxL K) ix_list (pv 3) pe_int (fun _ _ => rfl)) pa_nil))) (pg_sub (pv 6) (pe_op op_mod (pe_callTy (T := "int") (r := rInt1) call_int1 (by rfl) T.b_int (by decide +kernel) (pa_cons (pe_ix (r := rIxL K) ix_list (pv 3) pe_int (fun _ _ => rfl)) pa_nil)) (pe_callB (id := "len") (r := Evl.rLenS K) call_len_seq (by rfl) T.b_len PySem.boot_len (pa_cons (pv 6) pa_nil))) set_list))) pss_nil)
      (pss_cons (ps_if (pt_cmpR op_eq (pe_op op_mod (pe_callTy (T := "int") (r := rInt1) call_int1 (by rfl) T.b_int (by decide +kernel) (pa_cons (pe_ix (r := rIxL K) ix_list (pv 3) pe_int (fun _ _ => rfl)) pa_nil)) pe_int) pe_int (nomark _)) (pss_one (ps_set (i := 6) sc_law_refusals.nd rfl (Or.inl rfl) (pe_lst pa_nil))) pss_nil)
      (pss_cons (ps_if (pt_cmpR op_ne (pe_callB (id := "repr") (r := rReprA) (call_reprA gd) (by rfl) T.b_repr (by decide +kernel) (pa_cons (pe_call G_law_told (hr.mono (by decide)) rfl D_law_told.g D_law_told.F.kp D_law_told.b .nil pass0 (pa_cons (pe_callTy call_tuple_of (by rfl) T.b_tuple (by decide +kernel) (pa_cons (pv 6) pa_nil)) (pa_cons (pv 4) pa_nil))) pa_nil)) (pe_callB (id := "repr") (r := rReprA) (call_reprA gd) (by rfl) T.b_repr (by decide +kernel) (pa_cons (pe_call G_law_reading (hr.mono (by decide)) rfl D_law_reading.g D_law_reading.F.kp D_law_reading.b .nil pass0 (pa_cons (pe_callTy call_tuple_of (by rfl) T.b_tuple (by decide +kernel) (pa_cons (pv 6) pa_nil)) (pa_cons (pv 4) pa_nil))) pa_nil)) (nomark _)) (pss_one (ps_ret pe_bl)) pss_nil)
      (pss_one (ps_ret (pe_cmpR op_eq (pe_callB (id := "repr") (r := rReprA) (call_reprA gd) (by rfl) T.b_repr (by decide +kernel) (pa_cons (pe_call G_law_told (hr.mono (by decide)) rfl D_law_told.g D_law_told.F.kp D_law_told.b .nil pass0 (pa_cons (pv 1) (pa_cons (pe_callTy call_tuple_of (by rfl) T.b_tuple (by decide +kernel) (pa_cons (pv 4) pa_nil)) pa_nil))) pa_nil)) (pe_callB (id := "repr") (r := rReprA) (call_reprA gd) (by rfl) T.b_repr (by decide +kernel) (pa_cons (pe_call G_law_reading (hr.mono (by decide)) rfl D_law_reading.g D_law_reading.F.kp D_law_reading.b .nil pass0 (pa_cons (pv 1) (pa_cons (pv 4) pa_nil))) pa_nil)) (nomark _)))))))))))), ?_⟩
    refine seq_step ?_
    try simp (maxSteps := 1000000) only [tTest, tOp, tUn, tCB, tCons, tNil, tVar, tC, rI0, rI, rU, rEq, rNe, tRet, tRetN, tAsg, gName, gSub, tBM, tBM0, tNext, tB, tNot, tAnd, tOr, tIf, tCall, tDrop, tBreak, tCont, L2.start, tDGet, sDPut, tTup, tLst, tDNewK, tRevL, rCat, rAppend, rPop, rSetL, tAndV, tOrV, tNotV, tSl, tPart, tNoPart, tM1, gTup, gCons, gNil, cxK, cxnK, List.map_cons, List.map_nil, List.length_cons, List.length_nil, List.replicate, List.cons_append, List.nil_append, List.append_nil, List.set_cons_zero, List.set_cons_succ, List.getElem?_cons_zero, List.getElem?_cons_succ, Option.some.injEq, V.ref.injEq, V.int.injEq, V.str.injEq, V.bl.injEq, V.ty.injEq, exists_eq_left', exists_eq_left, exists_and_left, List.cons.injEq, and_true, true_and, sc_ii, sc_ss, sc_bb, sc_ni, sc_in, sc_is, sc_si, sc_nn, decide_true, decide_false, reduceCtorEq, Bool.false_eq_true, if_true, if_false, ite_true, ite_false, exists_const, eq_self, false_and, and_false, or_false, false_or, exists_false, Evl.rLenS, rSum, wipe, tYes, exists_eq, exists_eq', rIxL, rIxT, rIxS, exists_and_right, gt_iff_lt, not_true_eq_false, not_false_eq_true, Bool.not_true, Bool.not_false, decide_eq_true_eq, Nat.reduceSub, Nat.reduceAdd, List.append_assoc, tChain, tDIn, tDNotIn, sDDel, tAug, ipI, rInt1_int, rInt1_bl]
    have n1 := L.pos
    have n3 := L.le
    have dlen : ds.length = 8 := hd.1
    have dd : ∀ i, i < 8 → ∃ v : Nat, ds[i]? = some (v : Int) ∧ v < 45 := fun i hi => by
      have e := List.getElem?_eq_getElem (l := ds) (i := i) (by omega)
      have := hd.2 _ (List.mem_of_getElem? e)
      exact ⟨(ds[i]'(by omega)).toNat, by rw [e, Int.toNat_of_nonneg this.1], by omega⟩
    have dV : ∀ {i : Nat} {v : Int}, ds[i]? = some v → atI (ds.map V.int) ((i : Nat) : Int) = some (.int v) := fun {i v} e => atI_nat (by rw [List.getElem?_map, e]; rfl)
    obtain ⟨d0, e0, b0⟩ := dd 0 (by decide)
    obtain ⟨d1, e1, b1⟩ := dd 1 (by decide)
    obtain ⟨d2, e2, b2⟩ := dd 2 (by decide)
    obtain ⟨d3, e3, b3⟩ := dd 3 (by decide)
    obtain ⟨d4, e4, b4⟩ := dd 4 (by decide)
    obtain ⟨d5, e5, b5⟩ := dd 5 (by decide)
    obtain ⟨d6, e6, b6⟩ := dd 6 (by decide)
    obtain ⟨d7, e7, b7⟩ := dd 7 (by decide)
    have f0 : atI (ds.map V.int) 0 = some (.int (d0 : Nat)) := dV e0
    have f1 : atI (ds.map V.int) 1 = some (.int (d1 : Nat)) := dV e1
    have f2 : atI (ds.map V.int) 2 = some (.int (d2 : Nat)) := dV e2
    have f3 : atI (ds.map V.int) 3 = some (.int (d3 : Nat)) := dV e3
    have f4 : atI (ds.map V.int) 4 = some (.int (d4 : Nat)) := dV e4
    have f5 : atI (ds.map V.int) 5 = some (.int (d5 : Nat)) := dV e5
    have f6 : atI (ds.map V.int) 6 = some (.int (d6 : Nat)) := dV e6
    have f7 : atI (ds.map V.int) 7 = some (.int (d7 : Nat)) := dV e7
    refine ⟨us, .inl (sq_l htl), fun l nl' => ?_⟩
    have k0 := (Kp.new nl' : Kp [] H (upd H l (.lst us)))
    have D0 : DL (upd H l (.lst us)) l 30 := ⟨us, gs.map (eD zs), upd_same, rw_dq hus k0, fun d hd => by
      obtain ⟨g, hg, rfl⟩ := List.mem_map.mp hd
      exact sh_eD L (hin g hg), by rw [List.length_map]; exact g30⟩
    generalize upd H l (.lst us) = H0 at k0 D0 ⊢
    refine seq_cut (fun σ H' => ∃ (p : Addr) (c5 : Option V), σ = [some (.ref nl), some (.ref a), some (.ref tl), some (.ref dl), some (.ref p), c5, none] ∧ DL H' p 31 ∧ Kp [] H H') (fun Tn hT => ?_) ?_
    · try simp (maxSteps := 1000000) only [tSeq, tIfS, tTest, tOp, tUn, tCB, tCons, tNil, tVar, tC, rI0, rI, rU, rEq, rNe, tRet, tRetN, tAsg, gName, gSub, tBM, tBM0, tNext, tB, tNot, tAnd, tOr, tIf, tCall, tDrop, tBreak, tCont, L2.start, tDGet, sDPut, tTup, tLst, tDNewK, tRevL, rCat, rAppend, rPop, rSetL, tAndV, tOrV, tNotV, tSl, tPart, tNoPart, tM1, gTup, gCons, gNil, cxK, cxnK, List.map_cons, List.map_nil, List.length_cons, List.length_nil, List.replicate, List.cons_append, List.nil_append, List.append_nil, List.set_cons_zero, List.set_cons_succ, List.getElem?_cons_zero, List.getElem?_cons_succ, Option.some.injEq, V.ref.injEq, V.int.injEq, V.str.injEq, V.bl.injEq, V.ty.injEq, exists_eq_left', exists_eq_left, exists_and_left, List.cons.injEq, and_true, true_and, sc_ii, sc_ss, sc_bb, sc_ni, sc_in, sc_is, sc_si, sc_nn, decide_true, decide_false, reduceCtorEq, Bool.false_eq_true, if_true, if_false, ite_true, ite_false, exists_const, eq_self, false_and, and_false, or_false, false_or, exists_false, Evl.rLenS, rSum, wipe, tYes, exists_eq, exists_eq', rIxL, rIxT, rIxS, exists_and_right, gt_iff_lt, not_true_eq_false, not_false_eq_true, Bool.not_true, Bool.not_false, decide_eq_true_eq, Nat.reduceSub, Nat.reduceAdd, List.append_assoc, tChain, tDIn, tDNotIn, sDDel, tAug, ipI, rInt1_int, rInt1_bl]
      refine ⟨_, sq_l (k0 _ _ not0 hdl), _, f0, _, rfl, ?_⟩
      split
      · refine ⟨_, sq_l (k0 _ _ not0 hdl), _, f1, ?_⟩
        try simp (maxSteps := 1000000) only [tSeq, tIfS, tTest, tOp, tUn, tCB, tCons, tNil, tVar, tC, rI0, rI, rU, rEq, rNe, tRet, tRetN, tAsg, gName, gSub, tBM, tBM0, tNext, tB, tNot, tAnd, tOr, tIf, tCall, tDrop, tBreak, tCont, L2.start, tDGet, sDPut, tTup, tLst, tDNewK, tRevL, rCat, rAppend, rPop, rSetL, tAndV, tOrV, tNotV, tSl, tPart, tNoPart, tM1, gTup, gCons, gNil, cxK, cxnK, List.map_cons, List.map_nil, List.length_cons, List.length_nil, List.replicate, List.cons_append, List.nil_append, List.append_nil, List.set_cons_zero, List.set_cons_succ, List.getElem?_cons_zero, List.getElem?_cons_succ, Option.some.injEq, V.ref.injEq, V.int.injEq, V.str.injEq, V.bl.injEq, V.ty.injEq, exists_eq_left', exists_eq_left, exists_and_left, List.cons.injEq, and_true, true_and, sc_ii, sc_ss, sc_bb, sc_ni, sc_in, sc_is, sc_si, sc_nn, decide_true, decide_false, reduceCtorEq, Bool.false_eq_true, if_true, if_false, ite_true, ite_false, exists_const, eq_self, false_and, and_false, or_false, false_or, exists_false, Evl.rLenS, rSum, wipe, tYes, exists_eq, exists_eq', rIxL, rIxT, rIxS, exists_and_right, gt_iff_lt, not_true_eq_false, not_false_eq_true, Bool.not_true, Bool.not_false, decide_eq_true_eq, Nat.reduceSub, Nat.reduceAdd, List.append_assoc, tChain, tDIn, tDNotIn, sDDel, tAug, ipI, rInt1_int, rInt1_bl]
        exact insD (T := fun p i H' => Tn [some (.ref nl), some (.ref a), some (.ref tl), some (.ref dl), some (.ref p), some (.int i), none] H') k0 L ha hdl f2 D0 (by decide) fun p i H' hp k => hT _ _ ⟨p, _, rfl, hp, k⟩
      · exact hT _ _ ⟨l, _, rfl, D0.mono (by decide), k0⟩
    rintro σ H1 ⟨pB, c5, rfl, D1, k1⟩
    refine seq_cut (fun σ H' => ∃ (p : Addr) (c5 : Option V), σ = [some (.ref nl), some (.ref a), some (.ref tl), some (.ref dl), some (.ref p), c5, none] ∧ DL H' p 32 ∧ Kp [] H H') (fun Tn hT => ?_) ?_
    · try simp (maxSteps := 1000000) only [tSeq, tIfS, tTest, tOp, tUn, tCB, tCons, tNil, tVar, tC, rI0, rI, rU, rEq, rNe, tRet, tRetN, tAsg, gName, gSub, tBM, tBM0, tNext, tB, tNot, tAnd, tOr, tIf, tCall, tDrop, tBreak, tCont, L2.start, tDGet, sDPut, tTup, tLst, tDNewK, tRevL, rCat, rAppend, rPop, rSetL, tAndV, tOrV, tNotV, tSl, tPart, tNoPart, tM1, gTup, gCons, gNil, cxK, cxnK, List.map_cons, List.map_nil, List.length_cons, List.length_nil, List.replicate, List.cons_append, List.nil_append, List.append_nil, List.set_cons_zero, List.set_cons_succ, List.getElem?_cons_zero, List.getElem?_cons_succ, Option.some.injEq, V.ref.injEq, V.int.injEq, V.str.injEq, V.bl.injEq, V.ty.injEq, exists_eq_left', exists_eq_left, exists_and_left, List.cons.injEq, and_true, true_and, sc_ii, sc_ss, sc_bb, sc_ni, sc_in, sc_is, sc_si, sc_nn, decide_true, decide_false, reduceCtorEq, Bool.false_eq_true, if_true, if_false, ite_true, ite_false, exists_const, eq_self, false_and, and_false, or_false, false_or, exists_false, Evl.rLenS, rSum, wipe, tYes, exists_eq, exists_eq', rIxL, rIxT, rIxS, exists_and_right, gt_iff_lt, not_true_eq_false, not_false_eq_true, Bool.not_true, Bool.not_false, decide_eq_true_eq, Nat.reduceSub, Nat.reduceAdd, List.append_assoc, tChain, tDIn, tDNotIn, sDDel, tAug, ipI, rInt1_int, rInt1_bl]
      refine ⟨_, sq_l (k1 _ _ not0 hdl), _, f0, _, rfl, ?_⟩
      split
      · refine ⟨_, sq_l (k1 _ _ not0 hdl), _, f3, ?_⟩
        try simp (maxSteps := 1000000) only [tSeq, tIfS, tTest, tOp, tUn, tCB, tCons, tNil, tVar, tC, rI0, rI, rU, rEq, rNe, tRet, tRetN, tAsg, gName, gSub, tBM, tBM0, tNext, tB, tNot, tAnd, tOr, tIf, tCall, tDrop, tBreak, tCont, L2.start, tDGet, sDPut, tTup, tLst, tDNewK, tRevL, rCat, rAppend, rPop, rSetL, tAndV, tOrV, tNotV, tSl, tPart, tNoPart, tM1, gTup, gCons, gNil, cxK, cxnK, List.map_cons, List.map_nil, List.length_cons, List.length_nil, List.replicate, List.cons_append, List.nil_append, List.append_nil, List.set_cons_zero, List.set_cons_succ, List.getElem?_cons_zero, List.getElem?_cons_succ, Option.some.injEq, V.ref.injEq, V.int.injEq, V.str.injEq, V.bl.injEq, V.ty.injEq, exists_eq_left', exists_eq_left, exists_and_left, List.cons.injEq, and_true, true_and, sc_ii, sc_ss, sc_bb, sc_ni, sc_in, sc_is, sc_si, sc_nn, decide_true, decide_false, reduceCtorEq, Bool.false_eq_true, if_true, if_false, ite_true, ite_false, exists_const, eq_self, false_and, and_false, or_false, false_or, exists_false, Evl.rLenS, rSum, wipe, tYes, exists_eq, exists_eq', rIxL, rIxT, rIxS, exists_and_right, gt_iff_lt, not_true_eq_false, not_false_eq_true, Bool.not_true, Bool.not_false, decide_eq_true_eq, Nat.reduceSub, Nat.reduceAdd, List.append_assoc, tChain, tDIn, tDNotIn, sDDel, tAug, ipI, rInt1_int, rInt1_bl]
        exact insD (T := fun p i H' => Tn [some (.ref nl), some (.ref a), some (.ref tl), some (.ref dl), some (.ref p), some (.int i), none] H') k1 L ha hdl f4 D1 (by decide) fun p i H' hp k => hT _ _ ⟨p, _, rfl, hp, k⟩
      · exact hT _ _ ⟨pB, _, rfl, D1.mono (by decide), k1⟩
    clear D0 k0 D1 k1 c5
    rintro σ H0 ⟨pB, c5, rfl, DB, k0⟩
    refine seq_step ?_
    try simp (maxSteps := 1000000) only [tTest, tOp, tUn, tCB, tCons, tNil, tVar, tC, rI0, rI, rU, rEq, rNe, tRet, tRetN, tAsg, gName, gSub, tBM, tBM0, tNext, tB, tNot, tAnd, tOr, tIf, tCall, tDrop, tBreak, tCont, L2.start, tDGet, sDPut, tTup, tLst, tDNewK, tRevL, rCat, rAppend, rPop, rSetL, tAndV, tOrV, tNotV, tSl, tPart, tNoPart, tM1, gTup, gCons, gNil, cxK, cxnK, List.map_cons, List.map_nil, List.length_cons, List.length_nil, List.replicate, List.cons_append, List.nil_append, List.append_nil, List.set_cons_zero, List.set_cons_succ, List.getElem?_cons_zero, List.getElem?_cons_succ, Option.some.injEq, V.ref.injEq, V.int.injEq, V.str.injEq, V.bl.injEq, V.ty.injEq, exists_eq_left', exists_eq_left, exists_and_left, List.cons.injEq, and_true, true_and, sc_ii, sc_ss, sc_bb, sc_ni, sc_in, sc_is, sc_si, sc_nn, decide_true, decide_false, reduceCtorEq, Bool.false_eq_true, if_true, if_false, ite_true, ite_false, exists_const, eq_self, false_and, and_false, or_false, false_or, exists_false, Evl.rLenS, rSum, wipe, tYes, exists_eq, exists_eq', rIxL, rIxT, rIxS, exists_and_right, gt_iff_lt, not_true_eq_false, not_false_eq_true, Bool.not_true, Bool.not_false, decide_eq_true_eq, Nat.reduceSub, Nat.reduceAdd, List.append_assoc, tChain, tDIn, tDNotIn, sDDel, tAug, ipI, rInt1_int, rInt1_bl]
    refine ⟨_, .inr (sq_t (k0 _ _ not0 ha)), fun pR npR => ?_⟩
    have kR := (Kp.new npR : Kp [] H0 (upd H0 pR (.lst (zs.map V.str))))
    have hR : (upd H0 pR (.lst (zs.map V.str))) pR = some (.lst (zs.map V.str)) := upd_same
    generalize upd H0 pR (.lst (zs.map V.str)) = H1 at kR hR ⊢
    refine seq_cut (fun σ H' => ∃ (p : Addr) (xs : List Str), σ = [some (.ref nl), some (.ref a), some (.ref tl), some (.ref dl), some (.ref pB), c5, some (.ref p)] ∧ H' p = some (.lst (xs.map V.str)) ∧ (∀ x ∈ xs, nameS x = true) ∧ 1 ≤ xs.length ∧ xs.length ≤ 4 ∧ H0 p = none ∧ Kp [] H0 H') (fun Tn hT => ?_) ?_
    · try simp (maxSteps := 1000000) only [tSeq, tIfS, tTest, tOp, tUn, tCB, tCons, tNil, tVar, tC, rI0, rI, rU, rEq, rNe, tRet, tRetN, tAsg, gName, gSub, tBM, tBM0, tNext, tB, tNot, tAnd, tOr, tIf, tCall, tDrop, tBreak, tCont, L2.start, tDGet, sDPut, tTup, tLst, tDNewK, tRevL, rCat, rAppend, rPop, rSetL, tAndV, tOrV, tNotV, tSl, tPart, tNoPart, tM1, gTup, gCons, gNil, cxK, cxnK, List.map_cons, List.map_nil, List.length_cons, List.length_nil, List.replicate, List.cons_append, List.nil_append, List.append_nil, List.set_cons_zero, List.set_cons_succ, List.getElem?_cons_zero, List.getElem?_cons_succ, Option.some.injEq, V.ref.injEq, V.int.injEq, V.str.injEq, V.bl.injEq, V.ty.injEq, exists_eq_left', exists_eq_left, exists_and_left, List.cons.injEq, and_true, true_and, sc_ii, sc_ss, sc_bb, sc_ni, sc_in, sc_is, sc_si, sc_nn, decide_true, decide_false, reduceCtorEq, Bool.false_eq_true, if_true, if_false, ite_true, ite_false, exists_const, eq_self, false_and, and_false, or_false, false_or, exists_false, Evl.rLenS, rSum, wipe, tYes, exists_eq, exists_eq', rIxL, rIxT, rIxS, exists_and_right, gt_iff_lt, not_true_eq_false, not_false_eq_true, Bool.not_true, Bool.not_false, decide_eq_true_eq, Nat.reduceSub, Nat.reduceAdd, List.append_assoc, tChain, tDIn, tDNotIn, sDDel, tAug, ipI, rInt1_int, rInt1_bl]
      refine ⟨_, sq_l ((k0.trans kR) _ _ not0 hdl), _, f5, ?_⟩
      try simp (maxSteps := 1000000) only [tSeq, tIfS, tTest, tOp, tUn, tCB, tCons, tNil, tVar, tC, rI0, rI, rU, rEq, rNe, tRet, tRetN, tAsg, gName, gSub, tBM, tBM0, tNext, tB, tNot, tAnd, tOr, tIf, tCall, tDrop, tBreak, tCont, L2.start, tDGet, sDPut, tTup, tLst, tDNewK, tRevL, rCat, rAppend, rPop, rSetL, tAndV, tOrV, tNotV, tSl, tPart, tNoPart, tM1, gTup, gCons, gNil, cxK, cxnK, List.map_cons, List.map_nil, List.length_cons, List.length_nil, List.replicate, List.cons_append, List.nil_append, List.append_nil, List.set_cons_zero, List.set_cons_succ, List.getElem?_cons_zero, List.getElem?_cons_succ, Option.some.injEq, V.ref.injEq, V.int.injEq, V.str.injEq, V.bl.injEq, V.ty.injEq, exists_eq_left', exists_eq_left, exists_and_left, List.cons.injEq, and_true, true_and, sc_ii, sc_ss, sc_bb, sc_ni, sc_in, sc_is, sc_si, sc_nn, decide_true, decide_false, reduceCtorEq, Bool.false_eq_true, if_true, if_false, ite_true, ite_false, exists_const, eq_self, false_and, and_false, or_false, false_or, exists_false, Evl.rLenS, rSum, wipe, tYes, exists_eq, exists_eq', rIxL, rIxT, rIxS, exists_and_right, gt_iff_lt, not_true_eq_false, not_false_eq_true, Bool.not_true, Bool.not_false, decide_eq_true_eq, Nat.reduceSub, Nat.reduceAdd, List.append_assoc, tChain, tDIn, tDNotIn, sDDel, tAug, ipI, rInt1_int, rInt1_bl]
      split
      · have hnl1 := (k0.trans kR) _ _ not0 hnl
        refine ⟨by decide, _, .inl (sq_l hnl1), fun p1 np1 => ⟨nl, ns, rfl, LN.le, .inl (sq_l ((Kp.new np1 (S := [])) _ _ not0 hnl1)), fun z H2 gz nz k2 => ⟨by rw [sizeLine_eq]; decide, fun p2 np2 => ?_⟩⟩⟩
        have kA := k2.trans (Kp.new np2 (o := .lst [V.str z]))
        have h1 := kA _ _ not0 (upd_same (H := H1) (a := p1) (o := .lst (ns.map V.str)))
        refine ⟨_, h1, _, upd_same, by rw [List.length_map, sizeLine_eq]; have := LN.le; simp only [List.length_cons, List.length_nil]; omega, fun p3 np3 => ?_⟩
        have kB := ((kR.trans (Kp.new np1)).trans kA)
        refine hT _ _ ⟨p3, ns ++ [z], rfl, by rw [upd_same, List.map_append]; rfl, fun x hx => ?_, by rw [List.length_append]; simp, by rw [List.length_append]; have := LN.le; simp; omega, kB.free0 np3, kB.trans (Kp.new np3)⟩
        rcases List.mem_append.mp hx with hx | hx
        · exact LN.nm x hx
        · rw [List.mem_singleton.mp hx]; exact gz
      · exact ⟨by decide, hT _ _ ⟨pR, zs, rfl, hR, L.nm, n1, by omega, npR, kR⟩⟩
    clear hR npR kR
    rintro σ H2 ⟨pR, xs, rfl, hR, hx', x1, x4, npR, kR⟩
    refine seq_cut (fun σ H' => ∃ (p : Addr), σ = [some (.ref nl), some (.ref a), some (.ref tl), some (.ref dl), some (.ref pB), c5, some (.ref p)] ∧ DL H' p 4 ∧ Kp [] H0 H') (fun Tn hT => ?_) ?_
    · try simp (maxSteps := 1000000) only [tSeq, tIfS, tTest, tOp, tUn, tCB, tCons, tNil, tVar, tC, rI0, rI, rU, rEq, rNe, tRet, tRetN, tAsg, gName, gSub, tBM, tBM0, tNext, tB, tNot, tAnd, tOr, tIf, tCall, tDrop, tBreak, tCont, L2.start, tDGet, sDPut, tTup, tLst, tDNewK, tRevL, rCat, rAppend, rPop, rSetL, tAndV, tOrV, tNotV, tSl, tPart, tNoPart, tM1, gTup, gCons, gNil, cxK, cxnK, List.map_cons, List.map_nil, List.length_cons, List.length_nil, List.replicate, List.cons_append, List.nil_append, List.append_nil, List.set_cons_zero, List.set_cons_succ, List.getElem?_cons_zero, List.getElem?_cons_succ, Option.some.injEq, V.ref.injEq, V.int.injEq, V.str.injEq, V.bl.injEq, V.ty.injEq, exists_eq_left', exists_eq_left, exists_and_left, List.cons.injEq, and_true, true_and, sc_ii, sc_ss, sc_bb, sc_ni, sc_in, sc_is, sc_si, sc_nn, decide_true, decide_false, reduceCtorEq, Bool.false_eq_true, if_true, if_false, ite_true, ite_false, exists_const, eq_self, false_and, and_false, or_false, false_or, exists_false, Evl.rLenS, rSum, wipe, tYes, exists_eq, exists_eq', rIxL, rIxT, rIxS, exists_and_right, gt_iff_lt, not_true_eq_false, not_false_eq_true, Bool.not_true, Bool.not_false, decide_eq_true_eq, Nat.reduceSub, Nat.reduceAdd, List.append_assoc, tChain, tDIn, tDNotIn, sDDel, tAug, ipI, rInt1_int, rInt1_bl]
      refine ⟨_, sq_l ((k0.trans kR) _ _ not0 hdl), _, f5, ?_⟩
      try simp (maxSteps := 1000000) only [tSeq, tIfS, tTest, tOp, tUn, tCB, tCons, tNil, tVar, tC, rI0, rI, rU, rEq, rNe, tRet, tRetN, tAsg, gName, gSub, tBM, tBM0, tNext, tB, tNot, tAnd, tOr, tIf, tCall, tDrop, tBreak, tCont, L2.start, tDGet, sDPut, tTup, tLst, tDNewK, tRevL, rCat, rAppend, rPop, rSetL, tAndV, tOrV, tNotV, tSl, tPart, tNoPart, tM1, gTup, gCons, gNil, cxK, cxnK, List.map_cons, List.map_nil, List.length_cons, List.length_nil, List.replicate, List.cons_append, List.nil_append, List.append_nil, List.set_cons_zero, List.set_cons_succ, List.getElem?_cons_zero, List.getElem?_cons_succ, Option.some.injEq, V.ref.injEq, V.int.injEq, V.str.injEq, V.bl.injEq, V.ty.injEq, exists_eq_left', exists_eq_left, exists_and_left, List.cons.injEq, and_true, true_and, sc_ii, sc_ss, sc_bb, sc_ni, sc_in, sc_is, sc_si, sc_nn, decide_true, decide_false, reduceCtorEq, Bool.false_eq_true, if_true, if_false, ite_true, ite_false, exists_const, eq_self, false_and, and_false, or_false, false_or, exists_false, Evl.rLenS, rSum, wipe, tYes, exists_eq, exists_eq', rIxL, rIxT, rIxS, exists_and_right, gt_iff_lt, not_true_eq_false, not_false_eq_true, Bool.not_true, Bool.not_false, decide_eq_true_eq, Nat.reduceSub, Nat.reduceAdd, List.append_assoc, tChain, tDIn, tDNotIn, sDDel, tAug, ipI, rInt1_int, rInt1_bl]
      split
      · refine ⟨⟨by decide, by decide⟩, _, sq_l ((k0.trans kR) _ _ not0 hdl), _, f7, a, zs, d7, rfl, L, (k0.trans kR) _ _ not0 ha, fun v d H3 hv sd k3 => ?_⟩
        have k03 := kR.trans k3
        have hR3 := k3 _ _ not0 hR
        refine ⟨_, sq_l ((k0.trans k03) _ _ not0 hdl), _, f6, ?_⟩
        try simp (maxSteps := 1000000) only [tSeq, tIfS, tTest, tOp, tUn, tCB, tCons, tNil, tVar, tC, rI0, rI, rU, rEq, rNe, tRet, tRetN, tAsg, gName, gSub, tBM, tBM0, tNext, tB, tNot, tAnd, tOr, tIf, tCall, tDrop, tBreak, tCont, L2.start, tDGet, sDPut, tTup, tLst, tDNewK, tRevL, rCat, rAppend, rPop, rSetL, tAndV, tOrV, tNotV, tSl, tPart, tNoPart, tM1, gTup, gCons, gNil, cxK, cxnK, List.map_cons, List.map_nil, List.length_cons, List.length_nil, List.replicate, List.cons_append, List.nil_append, List.append_nil, List.set_cons_zero, List.set_cons_succ, List.getElem?_cons_zero, List.getElem?_cons_succ, Option.some.injEq, V.ref.injEq, V.int.injEq, V.str.injEq, V.bl.injEq, V.ty.injEq, exists_eq_left', exists_eq_left, exists_and_left, List.cons.injEq, and_true, true_and, sc_ii, sc_ss, sc_bb, sc_ni, sc_in, sc_is, sc_si, sc_nn, decide_true, decide_false, reduceCtorEq, Bool.false_eq_true, if_true, if_false, ite_true, ite_false, exists_const, eq_self, false_and, and_false, or_false, false_or, exists_false, Evl.rLenS, rSum, wipe, tYes, exists_eq, exists_eq', rIxL, rIxT, rIxS, exists_and_right, gt_iff_lt, not_true_eq_false, not_false_eq_true, Bool.not_true, Bool.not_false, decide_eq_true_eq, Nat.reduceSub, Nat.reduceAdd, List.append_assoc, tChain, tDIn, tDNotIn, sDDel, tAug, ipI, rInt1_int, rInt1_bl]
        refine ⟨_, .inl (sq_l hR3), by rw [List.length_map]; omega, _, hR3, d6 % xs.length, ?_, ?_⟩
        · rw [List.length_map]
          have hm := Nat.mod_lt d6 (show 0 < xs.length by omega)
          rw [show ((d6 : Nat) : Int) % ((xs.length : Nat) : Int) = ((d6 % xs.length : Nat) : Int) from by push_cast; rfl]
          exact Evl.ixN_nat hm
        · refine hT _ _ ⟨pR, rfl, ⟨_, (xs.map PyData.str).set (d6 % xs.length) d, upd_same, dq_set _ (dq_strs' _) (hv.kp (nw_wr hR)), fun x hx => ?_, by rw [List.length_set, List.length_map]; exact x4⟩, k03.wr npR⟩
          rcases List.mem_or_eq_of_mem_set hx with hx | rfl
          · obtain ⟨z, hz, rfl⟩ := List.mem_map.mp hx
            exact Sh.mono (lv_nm (k := 0) (hx' z hz)) (by decide) (by decide)
          · exact sd
      · refine ⟨⟨by decide, by decide⟩, hT _ _ ⟨pR, rfl, ⟨_, xs.map PyData.str, hR, dq_strs' _, fun x hx => ?_, by rw [List.length_map]; exact x4⟩, kR⟩⟩
        obtain ⟨z, hz, rfl⟩ := List.mem_map.mp hx
        exact Sh.mono (lv_nm (k := 0) (hx' z hz)) (by decide) (by decide)
    clear hR npR kR
    rintro σ H3 ⟨pR, rfl, DR, kR⟩
    refine seq_cut (fun σ H' => ∃ (p : Addr), σ = [some (.ref nl), some (.ref a), some (.ref tl), some (.ref dl), some (.ref pB), c5, some (.ref p)] ∧ DL H' p 4 ∧ Kp [] H0 H') (fun Tn hT => ?_) ?_
    · try simp (maxSteps := 1000000) only [tSeq, tIfS, tTest, tOp, tUn, tCB, tCons, tNil, tVar, tC, rI0, rI, rU, rEq, rNe, tRet, tRetN, tAsg, gName, gSub, tBM, tBM0, tNext, tB, tNot, tAnd, tOr, tIf, tCall, tDrop, tBreak, tCont, L2.start, tDGet, sDPut, tTup, tLst, tDNewK, tRevL, rCat, rAppend, rPop, rSetL, tAndV, tOrV, tNotV, tSl, tPart, tNoPart, tM1, gTup, gCons, gNil, cxK, cxnK, List.map_cons, List.map_nil, List.length_cons, List.length_nil, List.replicate, List.cons_append, List.nil_append, List.append_nil, List.set_cons_zero, List.set_cons_succ, List.getElem?_cons_zero, List.getElem?_cons_succ, Option.some.injEq, V.ref.injEq, V.int.injEq, V.str.injEq, V.bl.injEq, V.ty.injEq, exists_eq_left', exists_eq_left, exists_and_left, List.cons.injEq, and_true, true_and, sc_ii, sc_ss, sc_bb, sc_ni, sc_in, sc_is, sc_si, sc_nn, decide_true, decide_false, reduceCtorEq, Bool.false_eq_true, if_true, if_false, ite_true, ite_false, exists_const, eq_self, false_and, and_false, or_false, false_or, exists_false, Evl.rLenS, rSum, wipe, tYes, exists_eq, exists_eq', rIxL, rIxT, rIxS, exists_and_right, gt_iff_lt, not_true_eq_false, not_false_eq_true, Bool.not_true, Bool.not_false, decide_eq_true_eq, Nat.reduceSub, Nat.reduceAdd, List.append_assoc, tChain, tDIn, tDNotIn, sDDel, tAug, ipI, rInt1_int, rInt1_bl]
      refine ⟨_, sq_l ((k0.trans kR) _ _ not0 hdl), _, f5, ?_⟩
      try simp (maxSteps := 1000000) only [tSeq, tIfS, tTest, tOp, tUn, tCB, tCons, tNil, tVar, tC, rI0, rI, rU, rEq, rNe, tRet, tRetN, tAsg, gName, gSub, tBM, tBM0, tNext, tB, tNot, tAnd, tOr, tIf, tCall, tDrop, tBreak, tCont, L2.start, tDGet, sDPut, tTup, tLst, tDNewK, tRevL, rCat, rAppend, rPop, rSetL, tAndV, tOrV, tNotV, tSl, tPart, tNoPart, tM1, gTup, gCons, gNil, cxK, cxnK, List.map_cons, List.map_nil, List.length_cons, List.length_nil, List.replicate, List.cons_append, List.nil_append, List.append_nil, List.set_cons_zero, List.set_cons_succ, List.getElem?_cons_zero, List.getElem?_cons_succ, Option.some.injEq, V.ref.injEq, V.int.injEq, V.str.injEq, V.bl.injEq, V.ty.injEq, exists_eq_left', exists_eq_left, exists_and_left, List.cons.injEq, and_true, true_and, sc_ii, sc_ss, sc_bb, sc_ni, sc_in, sc_is, sc_si, sc_nn, decide_true, decide_false, reduceCtorEq, Bool.false_eq_true, if_true, if_false, ite_true, ite_false, exists_const, eq_self, false_and, and_false, or_false, false_or, exists_false, Evl.rLenS, rSum, wipe, tYes, exists_eq, exists_eq', rIxL, rIxT, rIxS, exists_and_right, gt_iff_lt, not_true_eq_false, not_false_eq_true, Bool.not_true, Bool.not_false, decide_eq_true_eq, Nat.reduceSub, Nat.reduceAdd, List.append_assoc, tChain, tDIn, tDNotIn, sDDel, tAug, ipI, rInt1_int, rInt1_bl]
      split
      · exact ⟨by decide, Nat.zero_le _, fun p np => hT _ _ ⟨p, rfl, ⟨[], [], upd_same, .nil, (fun _ h => nomatch h), Nat.zero_le _⟩, kR.trans (Kp.new np)⟩⟩
      · exact ⟨by decide, hT _ _ ⟨pR, rfl, DR, kR⟩⟩
    clear DR kR
    rintro σ H4 ⟨pR, rfl, DR, kR⟩
    have DB := DB.kp kR
    have k04 := k0.trans kR
    clear k0 kR
    refine seq_step ?_
    try simp (maxSteps := 1000000) only [tIfS, tTest, tOp, tUn, tCB, tCons, tNil, tVar, tC, rI0, rI, rU, rEq, rNe, tRet, tRetN, tAsg, gName, gSub, tBM, tBM0, tNext, tB, tNot, tAnd, tOr, tIf, tCall, tDrop, tBreak, tCont, L2.start, tDGet, sDPut, tTup, tLst, tDNewK, tRevL, rCat, rAppend, rPop, rSetL, tAndV, tOrV, tNotV, tSl, tPart, tNoPart, tM1, gTup, gCons, gNil, cxK, cxnK, List.map_cons, List.map_nil, List.length_cons, List.length_nil, List.replicate, List.cons_append, List.nil_append, List.append_nil, List.set_cons_zero, List.set_cons_succ, List.getElem?_cons_zero, List.getElem?_cons_succ, Option.some.injEq, V.ref.injEq, V.int.injEq, V.str.injEq, V.bl.injEq, V.ty.injEq, exists_eq_left', exists_eq_left, exists_and_left, List.cons.injEq, and_true, true_and, sc_ii, sc_ss, sc_bb, sc_ni, sc_in, sc_is, sc_si, sc_nn, decide_true, decide_false, reduceCtorEq, Bool.false_eq_true, if_true, if_false, ite_true, ite_false, exists_const, eq_self, false_and, and_false, or_false, false_or, exists_false, Evl.rLenS, rSum, wipe, tYes, exists_eq, exists_eq', rIxL, rIxT, rIxS, exists_and_right, gt_iff_lt, not_true_eq_false, not_false_eq_true, Bool.not_true, Bool.not_false, decide_eq_true_eq, Nat.reduceSub, Nat.reduceAdd, List.append_assoc, tChain, tDIn, tDNotIn, sDDel, tAug, ipI, rInt1_int, rInt1_bl]
    obtain ⟨rus, rds, hpR, hdR, shR, leR⟩ := DR
    obtain ⟨bus, bds, hpB, hdB, shB, leB⟩ := DB
    have shL : ∀ d ∈ zs.map PyData.str, ShD d := fun d hd => by
      obtain ⟨z, hz, rfl⟩ := List.mem_map.mp hd
      exact Sh.mono (lv_nm (k := 0) (L.nm z hz)) (by decide) (by decide)
    have lsL : (zs.map PyData.str).length ≤ 100 := by rw [List.length_map]; omega
    refine ⟨rus, .inl ⟨sq_l hpR, fun la1 n1 => ?_⟩⟩
    have kA := (Kp.new n1 : Kp [] H4 (upd H4 la1 (.tup rus)))
    refine sp_repr (la := la1) upd_same (DqAll.kp kA hdR) (.inl (sq_l (kA _ _ not0 hpB))) (DqAll.kp kA hdB) shR shB (by omega) (by omega) fun H5 k5 => ?_
    have k45 := kA.trans k5
    refine ⟨rus, .inl ⟨sq_l (k45 _ _ not0 hpR), fun la2 n2 => ?_⟩⟩
    have kC := k45.trans (Kp.new n2 (o := .tup rus))
    refine sp_repr (la := la2) upd_same (DqAll.kp kC hdR) (.inl (sq_l (kC _ _ not0 hpB))) (DqAll.kp kC hdB) shR shB (by omega) (by omega) fun H6 k6 => ?_
    have k46 := kC.trans k6
    refine ⟨rfl, ?_⟩
    rw [decide_eq_true rfl, if_neg (by decide)]
    refine ⟨bus, .inl ⟨sq_l (k46 _ _ not0 hpB), fun la3 n3 => ?_⟩⟩
    have kD := k46.trans (Kp.new n3 (o := .tup bus))
    refine sp_repr (la := a) ((k04.trans kD) _ _ not0 ha) (dq_strs' zs) (.inr (sq_t upd_same)) (DqAll.kp kD hdB) shL shB lsL (by omega) fun H7 k7 => ?_
    have k47 := kD.trans k7
    refine sp_repr (la := a) ((k04.trans k47) _ _ not0 ha) (dq_strs' zs) (.inl (sq_l (k47 _ _ not0 hpB))) (DqAll.kp k47 hdB) shL shB lsL (by omega) fun H8 k8 => ?_
    refine ⟨rfl, ?_⟩
    rw [decide_eq_true rfl]
    exact q _ ((k04.trans k47).trans k8)
end
end My

set_option Elab.async false
set_option linter.all false
set_option maxRecDepth 100000
set_option maxHeartbeats 4000000
namespace My
open PySem L2 NdefX StX
/-- a rule whose lists are new since B -/
def RuAtN (RC : Addr) (B H : Hp) (o : Addr) (zs : List Str) (es : List En) : Prop := ∃ dx l m us, B l = none ∧ B m = none ∧ H o = some (.ins RC dx [("_locks", .ref l), ("_entries", .ref m)]) ∧ H l = some (.lst (zs.map V.str)) ∧ H m = some (.lst us) ∧ Rw (ET zs H) us es ∧ LkOk zs ∧ es.Sublist (ens zs.length)
theorem RuAtN.at_ {RC : Addr} {B H : Hp} {o : Addr} {zs : List Str} {es : List En} (h : RuAtN RC B H o zs es) : RuAt RC H o zs es := by
  obtain ⟨dx, l, m, us, _, _, h⟩ := h
  exact ⟨dx, l, m, us, h⟩
theorem RuAtN.kp {RC : Addr} {B H H' : Hp} {o : Addr} {zs : List Str} {es : List En} (h : RuAtN RC B H o zs es) (k : Kp [] H H') : RuAtN RC B H' o zs es := by
  obtain ⟨dx, l, m, us, b1, b2, h1, h2, h3, h4, h5, h6⟩ := h
  exact ⟨dx, l, m, us, b1, b2, k _ _ not0 h1, k _ _ not0 h2, k _ _ not0 h3, h4.mono fun _ _ z => z.tp k.tps, h5, h6⟩
theorem RuAtN.wr {RC : Addr} {B H : Hp} {o p : Addr} {zs : List Str} {es : List En} {xs ys ws : List V} (h : RuAtN RC B H o zs es) (hb : B p = some (.lst xs)) (hp : H p = some (.lst ys)) : RuAt RC (upd H p (.lst ws)) o zs es := by
  obtain ⟨dx, l, m, us, b1, b2, h1, h2, h3, h4, h5, h6⟩ := h
  have n1 : o ≠ p := fun z => by rw [z, hp] at h1; cases h1
  have n2 : l ≠ p := fun z => by rw [z, hb] at b1; cases b1
  have n3 : m ≠ p := fun z => by rw [z, hb] at b2; cases b2
  exact ⟨dx, l, m, us, by rw [upd_ne n1]; exact h1, by rw [upd_ne n2]; exact h2, by rw [upd_ne n3]; exact h3, h4.mono fun _ _ z => z.tp ((Tp.refl _).putL hp), h5, h6⟩
section
variable {P : Program} {w : World} {K : PySem.W.Frag} {mg : Str → Option Value} {base : Heap} {tL t3 : Tok} {RC : Addr}
def spRuIN (RC : Addr) (K : PySem.W.Frag) : Sp := fun vs H Q _ => ∃ (o dx la ea : Addr) (zs : List Str) (us : List V) (gs : List En), vs = [.ref o, .ref la, .ref ea] ∧ H o = some (.ins RC dx []) ∧ LkOk zs ∧ H la = some (.tup (zs.map V.str)) ∧ SqAny K H ea us ∧ Rw (ET zs H) us gs ∧ (∀ g ∈ gs, g ∈ ens zs.length) ∧ gs.length ≤ 100 ∧
  ∀ H', RuAtN RC H H' o zs ((ens zs.length).filter fun e => decide (e ∈ gs)) → Kp [o] H H' → Q .non H'
theorem ok_Rule_initN {f : Addr} {fd : FuncData} {dvs : List V} (F : FunD K "__init__" "Rule.__init__" (defArgs s_Rule_init) (defBody s_Rule_init) (defScope s_Rule_init) dvs [] f fd) (T : Bt mg tL t3) (RR : RuC K mg RC) {f1 : Addr} {fd1 : FuncData} (D_all_entries : Df K mg "all_entries" s_all_entries ["locks"] f1 fd1) (G_all_entries : FnOk P w K mg base CX0 3 f1 fd1 ["locks"] (spEnts K)) {f2 : Addr} {fd2 : FuncData} (D_is_name : Df K mg "is_name" s_is_name ["value"] f2 fd2) (G_is_name : FnOk P w K mg base CX0 1 f2 fd2 ["value"] spName1) : FnOk P w K mg base CX0 4 f fd ["self", "locks", "entries"] (spRuIN RC K) := by
  refine okD0 F sc_Rule_init (fun vs H Q E h => ?_) (fun cdv A outer s H vs Q E hr h => ?_)
  · obtain ⟨_, _, _, _, _, _, _, rfl, _⟩ := h
    rfl
  · obtain ⟨o, dx, la, ea, zs, us, gs, rfl, ho, L, hla, hea, hgs, hin, g100, q⟩ := h
    have hu := hu_of hr
    have E := factE (n := zs.length) (by have := L.le; omega) L.pos
    refine ⟨_, (pss_cons (ps_if (pt_not (pt_chain op_le op_le pe_int (pe_callB (id := "len") (r := Evl.rLenS K) call_len_seq (by rfl) T.b_len PySem.boot_len (pa_cons (pv 1) pa_nil)) (pe_glob (v := .int 3) rfl T.c_MOST_LOCKS ⟨_, rfl⟩))) (pss_one ps_never) pss_nil)
      (pss_cons (ps_for PassesOwn.never rfl (pi_enumT rfl T.b_enumerate (pa_cons (pv 1) pa_nil)) (pg_tup (n := 2) (by rfl) (pgs_cons (pg_name (i := 3) sc_Rule_init.nd rfl (Or.inl rfl)) (pgs_cons (pg_name (i := 4) sc_Rule_init.nd rfl (Or.inl rfl)) pgs_nil))) (pss_one (ps_if (PW.pt (pw_or (pt_not (pt_val (pe_call G_is_name (hr.mono (by decide)) rfl D_is_name.g D_is_name.F.kp D_is_name.b .nil pass0 (pa_cons (pv 4) pa_nil)))) (pw_or1 (pt_cmpR op_in_seq (pv 4) (pe_slice sl_tupA (pv 1) po_none (po_some (pv 3))) (by rfl))))) (pss_one ps_never) pss_nil)))
      (pss_cons (ps_fld (pv 0) (pe_callTy call_list_of (by rfl) T.b_list (by decide +kernel) (pa_cons (pv 1) pa_nil)) rfl)
      (pss_cons (ps_set (i := 5) sc_Rule_init.nd rfl (Or.inl rfl) (pe_call G_all_entries (hr.mono (by decide)) rfl D_all_entries.g D_all_entries.F.kp D_all_entries.b .nil pass0 (pa_cons (pv 1) pa_nil)))
      (pss_cons (ps_for PassesOwn.never rfl (pi_seq (pv 2)) (pg_name (i := 6) sc_Rule_init.nd rfl (Or.inl rfl)) (pss_one (ps_if (pt_cmpR (op_notInD (hu5 hr)) (pv 6) (pv 5) (by rfl)) (pss_one ps_never) pss_nil)))
      (pss_one (ps_fld (pv 0) (pe_lc (own := [("entry", 6)]) (g := (gName 6)) rfl sc_Rule_init.nd (pi_list (pv 5)) (blkOk_by (N := ["self", "locks", "entries", "at", "name", "possible", "entry"]) (sc := defScope s_Rule_init) (by decide +kernel)) (fun _ _ _ _ _ => (pg_name (i := 6) sc_Rule_init.nd rfl (Or.inl rfl))) (fun _ _ _ _ _ => (pts_one (pt_cmpR (r := rInS K false) (op_inS (hu5 hr)) (pv 6) (pv 2) (by rfl)))) (fun _ _ _ _ _ => (pv 6))) rfl))))))), ?_⟩
    try simp (maxSteps := 1000000) only [tSeq, tIfS, tTest, tOp, tUn, tCB, tCons, tNil, tVar, tC, rI0, rI, rU, rEq, rNe, tRet, tRetN, tAsg, gName, gSub, tBM, tBM0, tNext, tB, tNot, tAnd, tOr, tIf, tCall, tDrop, tBreak, tCont, L2.start, tDGet, sDPut, tTup, tLst, tDNewK, tRevL, rCat, rAppend, rPop, rSetL, tAndV, tOrV, tNotV, tSl, tPart, tNoPart, tM1, gTup, gCons, gNil, cxK, cxnK, List.map_cons, List.map_nil, List.length_cons, List.length_nil, List.replicate, List.cons_append, List.nil_append, List.append_nil, List.set_cons_zero, List.set_cons_succ, List.getElem?_cons_zero, List.getElem?_cons_succ, Option.some.injEq, V.ref.injEq, V.int.injEq, V.str.injEq, V.bl.injEq, V.ty.injEq, exists_eq_left', exists_eq_left, exists_and_left, List.cons.injEq, and_true, true_and, sc_ii, sc_ss, sc_bb, sc_ni, sc_in, sc_is, sc_si, sc_nn, decide_true, decide_false, reduceCtorEq, Bool.false_eq_true, if_true, if_false, ite_true, ite_false, exists_const, eq_self, false_and, and_false, or_false, false_or, exists_false, Evl.rLenS, rSum, wipe, tYes, exists_eq, exists_eq', rIxL, rIxT, rIxS, exists_and_right, gt_iff_lt, not_true_eq_false, not_false_eq_true, Bool.not_true, Bool.not_false, decide_eq_true_eq, Nat.reduceSub, Nat.reduceAdd, List.append_assoc, tChain, tDIn, tDNotIn, sDDel, tAug, ipI, rInt1_int, rInt1_bl, sFld]
    have tsO : ∀ x xs H1, Kp [o] H H1 → H x = some (.tup xs) → H1 x = some (.tup xs) := fun x xs H1 k e => k _ _ (not1 fun z => by rw [z, ho] at e; cases e) e
    refine ⟨_, .inr (sq_t hla), ?_⟩
    have n1 := L.pos
    have n3 := L.le
    rw [List.length_map, if_pos (show (1 : Int) ≤ ((zs.length : Nat) : Int) by omega), decide_eq_true (show ((zs.length : Nat) : Int) ≤ 3 by omega), if_neg (by decide)]
    refine ⟨.ref la, rfl, la, _, rfl, sq_t hla, for_it (walk_enumT (K := K) (a := la) (xs := zs.map V.str)) (fun i σ H' => ∃ c3 c4, σ = [some (.ref o), some (.ref la), some (.ref ea), c3, c4, none, none] ∧ Kp [] H H') ⟨none, none, rfl, Kp.refl _ _⟩ (fun i σ H' _ h => by obtain ⟨_, _, _, k⟩ := h; exact k.tp not0 (sq_t hla)) ?_ ?_⟩
    · rintro i x σ H1 H2 hi ⟨c3, c4, rfl, k1⟩ ⟨T0, x1, x2, rfl, hT, rfl, hx1, hx2⟩
      cases hx1
      rw [List.length_map] at hi
      have hx2 : (zs.map V.str)[i]? = some x2 := hx2
      rw [List.getElem?_map, nm_at hi] at hx2
      cases hx2
      have kT := (Kp.new hT : Kp [] H1 (upd H1 T0 (.tup [.int (i : Nat), .str (nmL zs i)])))
      have hT2 : (upd H1 T0 (.tup [.int (i : Nat), .str (nmL zs i)])) T0 = some (.tup [.int (i : Nat), .str (nmL zs i)]) := upd_same
      generalize upd H1 T0 (.tup [.int (i : Nat), .str (nmL zs i)]) = H3 at kT hT2 ⊢
      try simp (maxSteps := 1000000) only [tSeq, tIfS, tTest, tOp, tUn, tCB, tCons, tNil, tVar, tC, rI0, rI, rU, rEq, rNe, tRet, tRetN, tAsg, gName, gSub, tBM, tBM0, tNext, tB, tNot, tAnd, tOr, tIf, tCall, tDrop, tBreak, tCont, L2.start, tDGet, sDPut, tTup, tLst, tDNewK, tRevL, rCat, rAppend, rPop, rSetL, tAndV, tOrV, tNotV, tSl, tPart, tNoPart, tM1, gTup, gCons, gNil, cxK, cxnK, List.map_cons, List.map_nil, List.length_cons, List.length_nil, List.replicate, List.cons_append, List.nil_append, List.append_nil, List.set_cons_zero, List.set_cons_succ, List.getElem?_cons_zero, List.getElem?_cons_succ, Option.some.injEq, V.ref.injEq, V.int.injEq, V.str.injEq, V.bl.injEq, V.ty.injEq, exists_eq_left', exists_eq_left, exists_and_left, List.cons.injEq, and_true, true_and, sc_ii, sc_ss, sc_bb, sc_ni, sc_in, sc_is, sc_si, sc_nn, decide_true, decide_false, reduceCtorEq, Bool.false_eq_true, if_true, if_false, ite_true, ite_false, exists_const, eq_self, false_and, and_false, or_false, false_or, exists_false, Evl.rLenS, rSum, wipe, tYes, exists_eq, exists_eq', rIxL, rIxT, rIxS, exists_and_right, gt_iff_lt, not_true_eq_false, not_false_eq_true, Bool.not_true, Bool.not_false, decide_eq_true_eq, Nat.reduceSub, Nat.reduceAdd, List.append_assoc, tChain, tDIn, tDNotIn, sDDel, tAug, ipI, rInt1_int, rInt1_bl]
      refine ⟨_, sq_t hT2, rfl, _, _, rfl, _, _, rfl, rfl, ?_⟩
      refine ⟨_, rfl, nm_good L hi, fun H4 k4 => ⟨true, rfl, ?_⟩⟩
      have k14 := (k1.trans kT).trans k4
      rw [if_neg (by decide)]
      refine ⟨_, rfl, ?_⟩
      refine slA_to rfl (k14 _ _ not0 hla) fun r H5 hr5 k5 => ?_
      refine ⟨r, _, rfl, .inr (sq_t hr5), rfl, ?_, ?_⟩
      · rw [← List.map_take]
        exact flat_strs _
      · simp only [Bool.false_eq_true, if_false]
        rw [← List.map_take, inV_str, decide_eq_false (fun h => by have := (mem_take_nm L hi).mp h; omega)]
        refine ⟨_, rfl, ?_⟩
        rw [if_neg (by decide)]
        exact k14.trans k5
    · rintro σ H1 ⟨c3, c4, rfl, k1⟩
      try simp (maxSteps := 1000000) only [tSeq, tIfS, tTest, tOp, tUn, tCB, tCons, tNil, tVar, tC, rI0, rI, rU, rEq, rNe, tRet, tRetN, tAsg, gName, gSub, tBM, tBM0, tNext, tB, tNot, tAnd, tOr, tIf, tCall, tDrop, tBreak, tCont, L2.start, tDGet, sDPut, tTup, tLst, tDNewK, tRevL, rCat, rAppend, rPop, rSetL, tAndV, tOrV, tNotV, tSl, tPart, tNoPart, tM1, gTup, gCons, gNil, cxK, cxnK, List.map_cons, List.map_nil, List.length_cons, List.length_nil, List.replicate, List.cons_append, List.nil_append, List.append_nil, List.set_cons_zero, List.set_cons_succ, List.getElem?_cons_zero, List.getElem?_cons_succ, Option.some.injEq, V.ref.injEq, V.int.injEq, V.str.injEq, V.bl.injEq, V.ty.injEq, exists_eq_left', exists_eq_left, exists_and_left, List.cons.injEq, and_true, true_and, sc_ii, sc_ss, sc_bb, sc_ni, sc_in, sc_is, sc_si, sc_nn, decide_true, decide_false, reduceCtorEq, Bool.false_eq_true, if_true, if_false, ite_true, ite_false, exists_const, eq_self, false_and, and_false, or_false, false_or, exists_false, Evl.rLenS, rSum, wipe, tYes, exists_eq, exists_eq', rIxL, rIxT, rIxS, exists_and_right, gt_iff_lt, not_true_eq_false, not_false_eq_true, Bool.not_true, Bool.not_false, decide_eq_true_eq, Nat.reduceSub, Nat.reduceAdd, List.append_assoc, tChain, tDIn, tDNotIn, sDDel, tAug, ipI, rInt1_int, rInt1_bl, sFld]
      have ho1 := k1 _ _ not0 ho
      refine ⟨_, .inr (k1.tp not0 (sq_t hla)), fun l nl => ?_⟩
      have kl := (Kp.new nl : Kp [] H1 (upd H1 l (.lst (zs.map V.str))))
      have hl : (upd H1 l (.lst (zs.map V.str))) l = some (.lst (zs.map V.str)) := upd_same
      generalize upd H1 l (.lst (zs.map V.str)) = H2 at kl hl ⊢
      have ho2 := kl _ _ not0 ho1
      refine ⟨RC, dx, [], ho2, RR.cl, RR.n1, by decide, ?_⟩
      have k2 := k1.trans kl
      have nsO : NoSq H2 [o] := noSq1 ho2
      have kw : Kp [o] H2 (upd H2 o (.ins RC dx (putF "_locks" (.ref l) []))) := (Kp.refl [o] _).put List.mem_cons_self
      have ho3 : (upd H2 o (.ins RC dx (putF "_locks" (.ref l) []))) o = some (.ins RC dx [("_locks", .ref l)]) := upd_same
      have tp3 : Tp H2 (upd H2 o (.ins RC dx (putF "_locks" (.ref l) []))) := (Tp.refl _).putI ho2
      have hl3 := kw _ _ (not1 fun z => by rw [z, ho2] at hl; cases hl) hl
      have hla3 := tp3 _ _ (k2 _ _ not0 hla)
      have hea3 := (hea.imp (k2.ls not0) (k2.tp not0) : SqAny K H2 ea us).imp (kw.lsN nsO) (kw.tpN nsO)
      have hgs3 : Rw (ET zs (upd H2 o (.ins RC dx (putF "_locks" (.ref l) [])))) us gs := hgs.mono fun _ _ z => (z.tp k2.tps).tp tp3
      have k03 : Kp [o] H (upd H2 o (.ins RC dx (putF "_locks" (.ref l) []))) := (k2.of0).trans kw
      generalize upd H2 o (.ins RC dx (putF "_locks" (.ref l) [])) = H3 at *
      refine ⟨la, zs, rfl, L, .inr (sq_t hla3), fun pl ps H4 npl hpl hps k4 => ?_⟩
      have k04 : Kp [o] H H4 := k03.trans k4.of0
      have hbe : ∀ e ∈ ens zs.length, belowE zs.length e := fun e he => (E.ent e he).1
      refine forS (a := ea) (xs := us) (fun i σ H' => ∃ c6, σ = [some (.ref o), some (.ref la), some (.ref ea), c3, c4, some (.ref pl), c6] ∧ Kp [] H4 H') rfl (hea3.imp (k4.ls not0) (k4.tp not0)) ⟨_, rfl, Kp.refl _ _⟩ (fun j σ' H' h => by obtain ⟨_, _, k⟩ := h; exact k) ?_ ?_
      · rintro j x σ H5 hx ⟨c6, rfl, k5⟩
        obtain ⟨g, eg, hg⟩ := hgs3.get hx
        have gin := hin g (List.mem_of_getElem? eg)
        try simp (maxSteps := 1000000) only [tSeq, tIfS, tTest, tOp, tUn, tCB, tCons, tNil, tVar, tC, rI0, rI, rU, rEq, rNe, tRet, tRetN, tAsg, gName, gSub, tBM, tBM0, tNext, tB, tNot, tAnd, tOr, tIf, tCall, tDrop, tBreak, tCont, L2.start, tDGet, sDPut, tTup, tLst, tDNewK, tRevL, rCat, rAppend, rPop, rSetL, tAndV, tOrV, tNotV, tSl, tPart, tNoPart, tM1, gTup, gCons, gNil, cxK, cxnK, List.map_cons, List.map_nil, List.length_cons, List.length_nil, List.replicate, List.cons_append, List.nil_append, List.append_nil, List.set_cons_zero, List.set_cons_succ, List.getElem?_cons_zero, List.getElem?_cons_succ, Option.some.injEq, V.ref.injEq, V.int.injEq, V.str.injEq, V.bl.injEq, V.ty.injEq, exists_eq_left', exists_eq_left, exists_and_left, List.cons.injEq, and_true, true_and, sc_ii, sc_ss, sc_bb, sc_ni, sc_in, sc_is, sc_si, sc_nn, decide_true, decide_false, reduceCtorEq, Bool.false_eq_true, if_true, if_false, ite_true, ite_false, exists_const, eq_self, false_and, and_false, or_false, false_or, exists_false, Evl.rLenS, rSum, wipe, tYes, exists_eq, exists_eq', rIxL, rIxT, rIxS, exists_and_right, gt_iff_lt, not_true_eq_false, not_false_eq_true, Bool.not_true, Bool.not_false, decide_eq_true_eq, Nat.reduceSub, Nat.reduceAdd, List.append_assoc, tChain, tDIn, tDNotIn, sDDel, tAug, ipI, rInt1_int, rInt1_bl]
        refine nin_ens L (hbe g gin) hbe (hg.tp (k4.trans k5).tps) (sq_l (k5 _ _ not0 hpl)) (hps.mono fun _ _ z => z.tp k5.tps) ⟨_, rfl, ?_⟩
        rw [decide_eq_true gin, if_neg (by decide)]
        exact k5
      · rintro σ H5 ⟨c6, rfl, k5⟩
        try simp (maxSteps := 1000000) only [tSeq, tIfS, tTest, tOp, tUn, tCB, tCons, tNil, tVar, tC, rI0, rI, rU, rEq, rNe, tRet, tRetN, tAsg, gName, gSub, tBM, tBM0, tNext, tB, tNot, tAnd, tOr, tIf, tCall, tDrop, tBreak, tCont, L2.start, tDGet, sDPut, tTup, tLst, tDNewK, tRevL, rCat, rAppend, rPop, rSetL, tAndV, tOrV, tNotV, tSl, tPart, tNoPart, tM1, gTup, gCons, gNil, cxK, cxnK, List.map_cons, List.map_nil, List.length_cons, List.length_nil, List.replicate, List.cons_append, List.nil_append, List.append_nil, List.set_cons_zero, List.set_cons_succ, List.getElem?_cons_zero, List.getElem?_cons_succ, Option.some.injEq, V.ref.injEq, V.int.injEq, V.str.injEq, V.bl.injEq, V.ty.injEq, exists_eq_left', exists_eq_left, exists_and_left, List.cons.injEq, and_true, true_and, sc_ii, sc_ss, sc_bb, sc_ni, sc_in, sc_is, sc_si, sc_nn, decide_true, decide_false, reduceCtorEq, Bool.false_eq_true, if_true, if_false, ite_true, ite_false, exists_const, eq_self, false_and, and_false, or_false, false_or, exists_false, Evl.rLenS, rSum, wipe, tYes, exists_eq, exists_eq', rIxL, rIxT, rIxS, exists_and_right, gt_iff_lt, not_true_eq_false, not_false_eq_true, Bool.not_true, Bool.not_false, decide_eq_true_eq, Nat.reduceSub, Nat.reduceAdd, List.append_assoc, tChain, tDIn, tDNotIn, sDDel, tAug, ipI, rInt1_int, rInt1_bl, sFld]
        have hea5 : SqAny K H5 ea us := (hea3.imp (k4.ls not0) (k4.tp not0) : SqAny K H4 ea us).imp (k5.ls not0) (k5.tp not0)
        have k35 := k4.trans k5
        refine lcG (R := ET zs) (R2 := ET zs) (fun _ _ _ _ t h => h.tp t) (fun _ _ _ _ t h => h.tp t) (fun e => decide (e ∈ gs)) id (src_list (fun R q' => ⟨_, rfl, q'⟩) (sq_l (k5 _ _ not0 hpl))) (hps.mono fun _ _ z => z.tp k5.tps) (by have := E.len; omega) (fun v e H6 N N0 he hv k6 hN hN0 => ?_) fun D us' H6 nD hD hrw k6 => ?_
        · refine ⟨by simp [wipe], ?_⟩
          try simp (maxSteps := 1000000) only [tSeq, tIfS, tTest, tOp, tUn, tCB, tCons, tNil, tVar, tC, rI0, rI, rU, rEq, rNe, tRet, tRetN, tAsg, gName, gSub, tBM, tBM0, tNext, tB, tNot, tAnd, tOr, tIf, tCall, tDrop, tBreak, tCont, L2.start, tDGet, sDPut, tTup, tLst, tDNewK, tRevL, rCat, rAppend, rPop, rSetL, tAndV, tOrV, tNotV, tSl, tPart, tNoPart, tM1, gTup, gCons, gNil, cxK, cxnK, List.map_cons, List.map_nil, List.length_cons, List.length_nil, List.replicate, List.cons_append, List.nil_append, List.append_nil, List.set_cons_zero, List.set_cons_succ, List.getElem?_cons_zero, List.getElem?_cons_succ, Option.some.injEq, V.ref.injEq, V.int.injEq, V.str.injEq, V.bl.injEq, V.ty.injEq, exists_eq_left', exists_eq_left, exists_and_left, List.cons.injEq, and_true, true_and, sc_ii, sc_ss, sc_bb, sc_ni, sc_in, sc_is, sc_si, sc_nn, decide_true, decide_false, reduceCtorEq, Bool.false_eq_true, if_true, if_false, ite_true, ite_false, exists_const, eq_self, false_and, and_false, or_false, false_or, exists_false, Evl.rLenS, rSum, wipe, tYes, exists_eq, exists_eq', rIxL, rIxT, rIxS, exists_and_right, gt_iff_lt, not_true_eq_false, not_false_eq_true, Bool.not_true, Bool.not_false, decide_eq_true_eq, Nat.reduceSub, Nat.reduceAdd, List.append_assoc, tChain, tDIn, tDNotIn, sDDel, tAug, ipI, rInt1_int, rInt1_bl]
          refine inS_ens L (hbe e he) (fun g hg => hbe g (hin g hg)) hv ((hea5.imp (k6.ls not0) (k6.tp not0) : SqAny K H6 ea us)) (hgs3.mono fun _ _ z => (z.tp k35.tps).tp k6.tps) ⟨_, rfl, ?_⟩
          by_cases e1 : e ∈ gs
          · rw [decide_eq_true e1, if_pos rfl]
            exact hN (decide_eq_true e1) _ _ hv (Kp.refl _ _)
          · rw [decide_eq_false e1, if_neg (by decide)]
            exact hN0 (decide_eq_false e1) _ (Kp.refl _ _)
        · rw [List.map_id] at hrw
          have k36 := k35.trans k6
          have ho6 := k36 _ _ not0 ho3
          have hl6 := k36 _ _ not0 hl3
          refine ⟨RC, dx, _, ho6, RR.cl, RR.n2, by show 1 < 1000; decide, ?_⟩
          have tp : Tp H6 (upd H6 o (.ins RC dx (putF "_entries" (.ref D) [("_locks", .ref l)]))) := (Tp.refl _).putI ho6
          have kw6 : Kp [o] H6 (upd H6 o (.ins RC dx (putF "_entries" (.ref D) [("_locks", .ref l)]))) := (Kp.refl [o] _).put List.mem_cons_self
          refine q _ ⟨dx, l, D, us', k1.free0 nl, (k03.trans (k35.of0)).free nD (fun a ha => by rw [List.mem_singleton.mp ha]; exact ⟨_, k35 _ _ not0 ho3⟩), by rw [upd_same]; rfl, kw6 _ _ (not1 fun z => by rw [z, ho6] at hl6; cases hl6) hl6, kw6 _ _ (not1 fun z => by rw [z, ho6] at hD; cases hD) hD, hrw.mono fun _ _ z => z.tp tp, L, List.filter_sublist⟩ ((k03.trans k36.of0).trans kw6)
end
end My

set_option Elab.async false
set_option linter.all false
set_option maxRecDepth 100000
set_option maxHeartbeats 4000000
namespace My
open PySem L2 NdefX StX
abbrev s_law : Stmt := top 38
theorem sc_law : FnScope ["_law_script", "_law_names_here", "_law_shape", "_law_locks", "_law_first", "_law_second", "_law_dues", "_law_told_here", "_law_entry", "_law_handed", "_law_a", "_law_b", "_law_other", "_law_sign", "_law_one", "_law_two", "_law_held"] ["_law_script"] (defScope s_law) := ⟨rfl, rfl, rfl, by decide +kernel, rfl, by decide +kernel, by decide +kernel⟩
structure BtV (mg : Str → Option Value) (RC : Addr) : Prop extends BtG mg where
  k_Rule : mg "Rule" = some (.ref RC)
theorem cnt_tab : ∀ n, n < 9 → ∃ y : Nat, ([3, 1, 2, 2, 3, 3, 3, 3, 3] : List Nat)[n]? = some y ∧ 1 ≤ y ∧ y ≤ 3 := by
  intro n h
  match n, h with
  | 0, _ => exact ⟨_, rfl, by decide, by decide⟩
  | 1, _ => exact ⟨_, rfl, by decide, by decide⟩
  | 2, _ => exact ⟨_, rfl, by decide, by decide⟩
  | 3, _ => exact ⟨_, rfl, by decide, by decide⟩
  | 4, _ => exact ⟨_, rfl, by decide, by decide⟩
  | 5, _ => exact ⟨_, rfl, by decide, by decide⟩
  | 6, _ => exact ⟨_, rfl, by decide, by decide⟩
  | 7, _ => exact ⟨_, rfl, by decide, by decide⟩
  | 8, _ => exact ⟨_, rfl, by decide, by decide⟩
  | n + 9, h => omega
def dueR (n : Nat) (gs : List En) : List En := (ens n).filter fun e => decide (e ∈ gs)
/-- at v a list of entries told -/
def ToldAt (H : Hp) (zs : List Str) (v : V) (gs : List En) : Prop := ∃ p us, v = .ref p ∧ H p = some (.lst us) ∧ Rw (ET zs H) us gs ∧ (∀ g ∈ gs, g ∈ ens zs.length) ∧ gs.length ≤ 30
theorem ToldAt.kp {H H' : Hp} {zs : List Str} {v : V} {gs : List En} (h : ToldAt H zs v gs) (k : Kp [] H H') : ToldAt H' zs v gs := by
  obtain ⟨p, us, e, h1, h2, h3, h4⟩ := h
  exact ⟨p, us, e, k _ _ not0 h1, h2.mono fun _ _ z => z.tp k.tps, h3, h4⟩
def DueAt (dl : Addr) (H : Hp) (zs : List Str) (v : V) (gs : List En) : Prop := ∃ p, v = .ref p ∧ p ≠ dl ∧ EnAt H p zs (dueR zs.length gs)
theorem mkRN {K : PySem.W.Frag} {RC : Addr} {H : Hp} {la ea : Addr} {zs : List Str} {us : List V} {gs : List En} {Q : Addr → Hp → Prop} {E : XK} (L : LkOk zs) (hla : H la = some (.tup (zs.map V.str))) (hea : SqAny K H ea us) (hgs : Rw (ET zs H) us gs) (hin : ∀ g ∈ gs, g ∈ ens zs.length) (g100 : gs.length ≤ 100)
    (q : ∀ o H', H o = none → RuAtN RC H H' o zs (dueR zs.length gs) → Kp [] H H' → Q o H') (o dx : Addr) (no : H o = none) (ndx : H dx = none) (dxo : dx ≠ o) :
    spRuIN RC K [.ref o, .ref la, .ref ea] (upd (upd H dx (.own o)) o (.ins RC dx [])) (fun v H2 => v = .non ∧ Q o H2) E := by
  have k : Kp [] H (upd (upd H dx (.own o)) o (.ins RC dx [])) := (Kp.new ndx).wr no
  refine ⟨o, dx, la, ea, zs, us, gs, rfl, upd_same, L, k _ _ not0 hla, hea.imp (k.ls not0) (k.tp not0), hgs.mono fun _ _ z => z.tp k.tps, hin, g100, fun H' hR kI => ⟨rfl, ?_⟩⟩
  refine q o H' no ?_ fun b ob _ e => (k.of0.trans kI) b ob (not1 fun z => by rw [z, no] at e; cases e) e
  obtain ⟨dx', l, m, us', b1, b2, h⟩ := hR
  exact ⟨dx', l, m, us', k.free0 b1, k.free0 b2, h⟩
theorem ne_rows {K : PySem.W.Frag} {zs : List Str} {gs : List En} {H : Hp} {p q : Addr} {us : List V} {Q : VK} (L : LkOk zs) (hbe : ∀ e ∈ ens zs.length, belowE zs.length e) (hin : ∀ g ∈ gs, g ∈ ens zs.length) (hp : H p = some (.lst us)) (hq : H q = some (.lst us)) (hu : Rw (ET zs H) us gs) (q' : Q (.bl false) H) : rNeD K (.ref p) (.ref q) H Q := by
  have sh : SeqAt.shaped (.list (gs.map (eD zs))) = true := (fk_lst (k := 3) fun d hd => by
    obtain ⟨g, hg, rfl⟩ := List.mem_map.mp hd
    exact fk_eD L (hbe g (hin g hg))).sh (by decide)
  refine ⟨_, _, .lst (sq_l hp) (rw_dp (fun _ _ z => z.dp) hu), .lst (sq_l hq) (rw_dp (fun _ _ z => z.dp) hu), sh, sh, ?_⟩
  rw [SeqAt.eqv_refl _ (SeqAt.canLay_of_shaped sh)]
  exact q'
theorem hd_no {zs : List Str} {d : PyData} (h : ∀ xs : List Str, PyData.eqv (sD xs) d = false) : isHd zs d = false := by
  unfold isHd
  rw [List.any_eq_false]
  intro x _ e
  rw [show hD zs x = sD (nmH zs x) from rfl, h] at e
  cases e
theorem hd_one {zs : List Str} {z : Str} (L : LkOk zs) (nz : z ∉ zs) : isHd zs (.tuple [.str z]) = false := by
  have EO := factE (n := zs.length) (by have := L.le; omega) L.pos
  unfold isHd
  rw [List.any_eq_false]
  intro x hx e
  obtain ⟨hb, _, _⟩ := EO.hld x hx
  rw [show hD zs x = sD (nmH zs x) from rfl, show PyData.tuple [.str z] = sD [z] from rfl, eqv_sD, decide_eq_true_eq] at e
  have hz : z ∈ nmH zs x := by rw [e]; exact List.mem_cons_self
  obtain ⟨r, hr, rfl⟩ := List.mem_map.mp hz
  exact nz (List.mem_of_getElem? (nm_at (hb r hr)))
theorem pairs_no : ∀ n, n < 4 → 1 ≤ n → [0, 0] ∉ hls n ∧ [n - 1, 0] ∉ hls n := by decide +kernel
theorem hd_pair {zs : List Str} {r t : Nat} (L : LkOk zs) (hr : r < zs.length) (ht : t < zs.length) (n : [r, t] ∉ hls zs.length) : isHd zs (.tuple [.str (nmL zs r), .str (nmL zs t)]) = false := by
  have EO := factE (n := zs.length) (by have := L.le; omega) L.pos
  unfold isHd
  rw [List.any_eq_false]
  intro x hx e
  obtain ⟨hb, _, _⟩ := EO.hld x hx
  rw [show PyData.tuple [.str (nmL zs r), .str (nmL zs t)] = hD zs [r, t] from rfl, eqv_hD L hb (by
    intro y hy
    rcases List.mem_cons.mp hy with rfl | hy
    · exact hr
    · rw [List.mem_singleton.mp hy]; exact ht), decide_eq_true_eq] at e
  exact n (e ▸ hx)
theorem hd_tup1 {zs : List Str} {d : PyData} (h : ∀ x : Str, PyData.eqv (.str x) d = false) : isHd zs (.tuple [d]) = false := hd_no fun xs => by
  cases xs with
  | nil => rfl
  | cons x r =>
    show (PyData.eqv (.str x) d && PyData.eqvAll (r.map PyData.str) []) = false
    rw [h]; rfl
/-- te gives a value of some data that is so -/
def HX (te : TE) (σ : L2.St) (H0 : Hp) (P : PyData → Prop) : Prop := ∀ H1, Kp [] H0 H1 → ∀ Q : VK, (∀ v H2 d, Kp [] H1 H2 → Dq H2 v d → P d → Q v H2) → te σ H1 Q
def HXA (ta : TA) (σ : L2.St) (H0 : Hp) (P : PyData → Prop) (n : Nat) : Prop := ∀ H1, Kp [] H0 H1 → ∀ Q : List V → Hp → Prop, (∀ vs H2 ds, Kp [] H1 H2 → DqAll H2 vs ds → (∀ d ∈ ds, P d) → ds.length = n → Q vs H2) → ta σ H1 Q
theorem hx_de {te : TE} {σ : L2.St} {H0 : Hp} {P : PyData → Prop} {d : PyData} (a : DE te σ H0 d) (h : P d) : HX te σ H0 P := fun H1 k1 Q q => a H1 k1 Q fun v H2 k2 hv => q v H2 d k2 hv h
theorem hxa_nil {σ : L2.St} {H0 : Hp} {P : PyData → Prop} : HXA tNil σ H0 P 0 := fun H1 _ Q q => q _ _ _ (Kp.refl _ _) .nil (fun _ h => nomatch h) rfl
theorem hxa_cons {te : TE} {ta : TA} {σ : L2.St} {H0 : Hp} {P : PyData → Prop} {n : Nat} (a : HX te σ H0 P) (b : HXA ta σ H0 P n) : HXA (tCons te ta) σ H0 P (n + 1) := fun H1 k1 Q q => a H1 k1 _ fun v H2 d k2 hv hp => b H2 (k1.trans k2) _ fun vs H3 ds k3 hvs hps hl => q _ _ _ (k2.trans k3) (.cons (hv.kp k3) hvs) (fun x hx => by
  rcases List.mem_cons.mp hx with rfl | hx
  · exact hp
  · exact hps x hx) (by rw [List.length_cons, hl])
theorem held_row {K : PySem.W.Frag} {σ : L2.St} {H : Hp} {ta : Addr} {zs : List Str} {Q : VK} (L : LkOk zs) (e3 : σ[3]? = some (some (.ref ta))) (e14 : σ[14]? = some (some (.str (nmL zs 0)))) (e15 : σ[15]? = some (some (.str (nmL zs (zs.length - 1))))) (hta : H ta = some (.tup (zs.map V.str)))
    (q : ∀ l us ds H', H' l = some (.lst us) → DqAll H' us ds → (∀ d ∈ ds, ShD d ∧ isHd zs d = false) → Kp [] H H' → Q (.ref l) H') :
    (tLst (tCons (tLst (tCons (tVar 14) tNil)) (tCons (tVar 14) (tCons (tTup (tCons (tCall (spStr K) [] E0 (tCons (tVar 3) tNil)) tNil)) (tCons (tTup (tCons (tVar 14) (tCons (tVar 14) tNil))) (tCons (tTup (tCons (tVar 15) (tCons (tVar 14) tNil))) (tCons (tC V.non) (tCons (tC (V.int 3)) (tCons (tTup (tCons (tLst (tCons (tVar 14) tNil)) tNil)) (tCons (tTup (tCons (tC V.non) tNil)) (tCons (tLst tNil) (tCons (tTup (tCons (tTup tNil) tNil)) tNil)))))))))))) σ H Q := by
  have n1 := L.pos
  have n3 := L.le
  have g0 : nameS (nmL zs 0) = true := nm_good L n1
  have g1 : nameS (nmL zs (zs.length - 1)) = true := nm_good L (by omega)
  have s0 : ∀ k, Lv k (.str (nmL zs 0)) := fun k => lv_nm g0
  have s1 : ∀ k, Lv k (.str (nmL zs (zs.length - 1))) := fun k => lv_nm g1
  have sh : ∀ {k d}, Lv k d → k ≤ 3 → ShD d := fun {k d} h hk => Sh.mono (h.mono hk) (by decide) (by decide)
  have one : ∀ {k d}, Lv k d → ∀ x ∈ [d], Lv k x := fun {k d} h x hx => by rw [List.mem_singleton.mp hx]; exact h
  have two : ∀ {k d d'}, Lv k d → Lv k d' → ∀ x ∈ [d, d'], Lv k x := fun {k d d'} h h' x hx => by
    rcases List.mem_cons.mp hx with rfl | hx
    · exact h
    · rw [List.mem_singleton.mp hx]; exact h'
  have V0 : DE (tVar 14) σ H (.str (nmL zs 0)) := de_var e14 (.str _)
  have V1 : DE (tVar 15) σ H (.str (nmL zs (zs.length - 1))) := de_var e15 (.str _)
  obtain ⟨pn0, pn1⟩ := pairs_no zs.length (by omega) n1
  have all : HXA (tCons (tLst (tCons (tVar 14) tNil)) (tCons (tVar 14) (tCons (tTup (tCons (tCall (spStr K) [] E0 (tCons (tVar 3) tNil)) tNil)) (tCons (tTup (tCons (tVar 14) (tCons (tVar 14) tNil))) (tCons (tTup (tCons (tVar 15) (tCons (tVar 14) tNil))) (tCons (tC V.non) (tCons (tC (V.int 3)) (tCons (tTup (tCons (tLst (tCons (tVar 14) tNil)) tNil)) (tCons (tTup (tCons (tC V.non) tNil)) (tCons (tLst tNil) (tCons (tTup (tCons (tTup tNil) tNil)) tNil))))))))))) σ H (fun d => ShD d ∧ isHd zs d = false) 11 := by
    refine hxa_cons (hx_de (de_lst (da_cons V0 da_nil) (by simp)) ⟨sh (lv_lst (one (s0 0)) (by simp)) (by decide), hd_no fun xs => rfl⟩) ?_
    refine hxa_cons (hx_de V0 ⟨sh (s0 0) (by decide), hd_no fun xs => rfl⟩) ?_
    refine hxa_cons (fun H1 k1 Q q => ⟨.ref ta, e3, ta, zs, rfl, n3, .inr (sq_t (k1 _ _ not0 hta)), fun z H2 gz nz k2 => ⟨by rw [sizeLine_eq]; simp, fun p np => q _ _ (.tuple [.str z]) (k2.trans (Kp.new np)) (.tup upd_same (.cons (.str z) .nil)) ⟨sh (lv_tup (one (lv_nm (k := 0) gz)) (by simp)) (by decide), hd_one L nz⟩⟩⟩) ?_
    refine hxa_cons (hx_de (de_tup (da_cons V0 (da_cons V0 da_nil)) (by simp)) ⟨sh (lv_tup (two (s0 0) (s0 0)) (by simp)) (by decide), hd_pair L n1 n1 pn0⟩) ?_
    refine hxa_cons (hx_de (de_tup (da_cons V1 (da_cons V0 da_nil)) (by simp)) ⟨sh (lv_tup (two (s1 0) (s0 0)) (by simp)) (by decide), hd_pair L (by omega) n1 pn1⟩) ?_
    refine hxa_cons (hx_de de_non ⟨sh_none.mono (by decide) (by decide), hd_no fun xs => rfl⟩) ?_
    refine hxa_cons (hx_de de_int ⟨(sh_int (by decide)).mono (by decide) (by decide), hd_no fun xs => rfl⟩) ?_
    refine hxa_cons (hx_de (de_tup (da_cons (de_lst (da_cons V0 da_nil) (by simp)) da_nil) (by simp)) ⟨sh (lv_tup (one (lv_lst (one (s0 0)) (by simp))) (by simp)) (by decide), hd_tup1 fun x => rfl⟩) ?_
    refine hxa_cons (hx_de (de_tup (da_cons de_non da_nil)) ⟨sh (lv_tup (k := 0) (one (sh_none.mono (by decide) (by decide))) (by decide)) (by decide), hd_tup1 fun x => rfl⟩) ?_
    refine hxa_cons (hx_de (de_lst da_nil) ⟨sh (lv_lst (k := 0) (fun x hx => nomatch hx) (by decide)) (by decide), hd_no fun xs => rfl⟩) ?_
    exact hxa_cons (hx_de (de_tup (da_cons (de_tup da_nil) da_nil)) ⟨sh (lv_tup (one (lv_tup (k := 0) (fun x hx => nomatch hx) (by decide))) (by decide)) (by decide), hd_tup1 fun x => rfl⟩) hxa_nil
  exact all H (Kp.refl _ _) _ fun vs H2 ds k2 hvs hps hl => ⟨by rw [hvs.len, hl, sizeLine_eq]; decide, fun p np => q p vs ds _ upd_same (DqAll.kp (Kp.new np) hvs) hps (k2.trans (Kp.new np))⟩
section
variable {P : Program} {w : World} {K : PySem.W.Frag} {mg : Str → Option Value} {base : Heap} {tL t3 : Tok} {RC OL TL BN BE CE : Addr}
def spLaw (K : PySem.W.Frag) : Sp := fun vs H Q _ => ∃ (a : Addr) (ns : List Int), vs = [.ref a] ∧ Scr K H a ns ∧ ∀ H', Q (.bl true) H'
theorem ok_law {f : Addr} {fd : FuncData} (D : Df K mg "law" s_law ["_law_script"] f fd) (T : BtV mg RC) (RR : RuC K mg RC) {de : Addr} {hdes : List Value} (hde : ∀ H : Hp, SqT K H de [])
    {f1 : Addr} {fd1 : FuncData} (D_law_names : Df K mg "_law_names" s_law_names ["_law_cell_here"] f1 fd1) (G_law_names : FnOk P w K mg base CX0 3 f1 fd1 ["_law_cell_here"] spNames)
    {f2 : Addr} {fd2 : FuncData} (D_law_cell : Df K mg "_law_cell" s_law_cell ["_law_script", "_law_k"] f2 fd2) (G_law_cell : FnOk P w K mg base CX0 1 f2 fd2 ["_law_script", "_law_k"] (spCell K))
    {f3 : Addr} {fd3 : FuncData} (D_law_draws : Df K mg "_law_draws" s_law_draws ["_law_cell_here", "_law_salt", "_law_count", "_law_many"] f3 fd3) (G_law_draws : FnOk P w K mg base CX0 2 f3 fd3 ["_law_cell_here", "_law_salt", "_law_count", "_law_many"] spDraws)
    {f4 : Addr} {fd4 : FuncData} (D_law_list : Df K mg "_law_list" s_law_list ["_law_locks", "_law_cell_here", "_law_shape"] f4 fd4) (G_law_list : FnOk P w K mg base CX0 3 f4 fd4 ["_law_locks", "_law_cell_here", "_law_shape"] (spList K))
    {f5 : Addr} {fd5 : FuncData} (D_law_entries : Df K mg "_law_entries" s_law_entries ["_law_locks"] f5 fd5) (G_law_entries : FnOk P w K mg base CX0 2 f5 fd5 ["_law_locks"] (spLEnts K))
    {f6 : Addr} {fd6 : FuncData} (D_law_is_rule : Df K mg "_law_is_rule" s_law_is_rule ["_law_rule", "_law_locks", "_law_due"] f6 fd6) (G_law_is_rule : FnOk P w K mg base CX0 5 f6 fd6 ["_law_rule", "_law_locks", "_law_due"] (spIsR K RC))
    {f7 : Addr} {fd7 : FuncData} (D_law_signs : Df K mg "_law_signs" s_law_signs ["_law_a", "_law_b", "_law_locks", "_law_first", "_law_second"] f7 fd7) (G_law_signs : FnOk P w K mg base CX0 8 f7 fd7 ["_law_a", "_law_b", "_law_locks", "_law_first", "_law_second"] (spSigns K RC))
    {f8 : Addr} {fd8 : FuncData} (D_law_others : Df K mg "_law_others" s_law_others ["_law_locks"] f8 fd8) (G_law_others : FnOk P w K mg base CX0 2 f8 fd8 ["_law_locks"] spOthers)
    {f9 : Addr} {fd9 : FuncData} (D_law_refused : Df K mg "_law_refused" s_law_refused ["_law_a", "_law_b", "_law_sign"] f9 fd9) (G_law_refused : FnOk P w K mg base CX0 7 f9 fd9 ["_law_a", "_law_b", "_law_sign"] (spRfd RC))
    {fa : Addr} {fda : FuncData} (D_law_stranger : Df K mg "_law_stranger" s_law_stranger ["_law_locks"] fa fda) (G_law_stranger : FnOk P w K mg base CX0 1 fa fda ["_law_locks"] (spStr K))
    {fb : Addr} {fdb : FuncData} (D_law_no_held : Df K mg "_law_no_held" s_law_no_held ["_law_rule", "_law_held"] fb fdb) (G_law_no_held : FnG P w K mg base (L2.CX P w) 5 fb fdb ["_law_rule", "_law_held"] (spNoH RC))
    {fc : Addr} {fdc : FuncData} (D_law_refusals : Df K mg "_law_refusals" s_law_refusals ["_law_names_here", "_law_locks", "_law_told_here", "_law_draws_here"] fc fdc) (G_law_refusals : FnG P w K mg base (L2.CX P w) 7 fc fdc ["_law_names_here", "_law_locks", "_law_told_here", "_law_draws_here"] (spRfs K))
    {fI : Addr} {fdI : FuncData} (M_Rule : Mk K RC fI) (bI_Rule : Binds K fdI ["self", "locks", "entries"] []) (hd_Rule : Vals [.ref de] hdes) (bD_Rule : Binds K fdI ["self", "locks", "entries"] hdes) (G_Rule_init : FnOk P w K mg base CX0 4 fI fdI ["self", "locks", "entries"] (spRuIN RC K)) : FnG P w K mg base (L2.CX P w) 10 f fd ["_law_script"] (spLaw K) := by
  refine FnG.ok D.F sc_law (fun vs H Q E h => ?_) (fun cdv A outer s H vs Q E gd0 hr h => ?_)
  · obtain ⟨_, _, rfl, _⟩ := h
    rfl
  · obtain ⟨a, ns, rfl, hS, q⟩ := h
    have gd := And.intro gd0 hr.units
    have hu := hu_of hr
    have len_law_no_held : ∀ vs H Q E, spNoH RC vs H Q E → vs.length = ["_law_rule", "_law_held"].length := fun vs H Q E h => by
      obtain ⟨_, _, _, _, _, rfl, _⟩ := h
      rfl
    have len_law_refusals : ∀ vs H Q E, spRfs K vs H Q E → vs.length = ["_law_names_here", "_law_locks", "_law_told_here", "_law_draws_here"].length := fun vs H Q E h => by
      obtain ⟨_, _, _, _, _, _, _, _, _, rfl, _⟩ := h
      rfl
    refine ⟨_, (pss_cons (ps_set (i := 1) sc_law.nd rfl (Or.inl rfl) (pe_call G_law_names (hr.mono (by decide)) rfl D_law_names.g D_law_names.F.kp D_law_names.b .nil pass0 (pa_cons (pe_call G_law_cell (hr.mono (by decide)) rfl D_law_cell.g D_law_cell.F.kp D_law_cell.b .nil pass0 (pa_cons (pv 0) (pa_cons pe_int pa_nil))) pa_nil)))
      (pss_cons (ps_set (i := 2) sc_law.nd rfl (Or.inl rfl) (pe_call G_law_draws (hr.mono (by decide)) rfl D_law_draws.g D_law_draws.F.kp D_law_draws.b .nil pass0 (pa_cons (pe_call G_law_cell (hr.mono (by decide)) rfl D_law_cell.g D_law_cell.F.kp D_law_cell.b .nil pass0 (pa_cons (pv 0) (pa_cons pe_int pa_nil))) (pa_cons pe_int (pa_cons pe_int (pa_cons pe_int pa_nil))))))
      (pss_cons (ps_if (pt_cmpR op_eq (pe_op op_mod (pe_op op_fdiv (pe_callTy (T := "int") (r := rInt1) call_int1 (by rfl) T.b_int (by decide +kernel) (pa_cons (pe_ix (r := rIxL K) ix_list (pv 2) pe_int (fun _ _ => rfl)) pa_nil)) pe_int) pe_int) pe_int (nomark _)) (pss_one (ps_set (i := 1) sc_law.nd rfl (Or.inl rfl) (pe_revL (pv 1)))) pss_nil)
      (pss_cons (ps_set (i := 3) sc_law.nd rfl (Or.inl rfl) (pe_callTy call_tuple_of (by rfl) T.b_tuple (by decide +kernel) (pa_cons (pe_slice sl_list (pv 1) po_none (po_some (pe_ix (r := rIxL K) ix_list (pe_lst (pa_cons pe_int (pa_cons pe_int (pa_cons pe_int (pa_cons pe_int (pa_cons pe_int (pa_cons pe_int (pa_cons pe_int (pa_cons pe_int (pa_cons pe_int pa_nil)))))))))) (pe_op op_mod (pe_callTy (T := "int") (r := rInt1) call_int1 (by rfl) T.b_int (by decide +kernel) (pa_cons (pe_ix (r := rIxL K) ix_list (pv 2) pe_int (fun _ _ => rfl)) pa_nil)) pe_int) (fun _ _ => rfl)))) pa_nil)))
      (pss_cons (ps_set (i := 4) sc_law.nd rfl (Or.inl rfl) (pe_call G_law_list (hr.mono (by decide)) rfl D_law_list.g D_law_list.F.kp D_law_list.b .nil pass0 (pa_cons (pv 3) (pa_cons (pe_call G_law_cell (hr.mono (by decide)) rfl D_law_cell.g D_law_cell.F.kp D_law_cell.b .nil pass0 (pa_cons (pv 0) (pa_cons pe_int pa_nil))) (pa_cons (pe_ix (r := rIxL K) ix_list (pv 2) pe_int (fun _ _ => rfl)) pa_nil)))))
      (pss_cons (ps_set (i := 5) sc_law.nd rfl (Or.inl rfl) (pe_call G_law_list (hr.mono (by decide)) rfl D_law_list.g D_law_list.F.kp D_law_list.b .nil pass0 (pa_cons (pv 3) (pa_cons (pe_call G_law_cell (hr.mono (by decide)) rfl D_law_cell.g D_law_cell.F.kp D_law_cell.b .nil pass0 (pa_cons (pv 0) (pa_cons pe_int pa_nil))) (pa_cons (pe_ix (r := rIxL K) ix_list (pv 2) pe_int (fun _ _ => rfl)) pa_nil)))))
      (pss_cons (ps_set (i := 6) sc_law.nd rfl (Or.inl rfl) (pe_lst pa_nil))
      (pss_cons (ps_for (passes_of rfl) rfl (pi_list (pe_lst (pa_cons (pv 4) (pa_cons (pv 5) pa_nil)))) (pg_name (i := 7) sc_law.nd rfl (Or.inr rfl)) (pss_one (ps_expr (pe_bm PySem.F.plainAttrs_list PySem.F.slot_list_append PySem.F.type_list_append mt_append (pv 6) (pa_cons (pe_lc (own := [("_law_entry", 8)]) (g := (gName 8)) rfl sc_law.nd (pi_list (pe_call G_law_entries (hr.mono (by decide)) rfl D_law_entries.g D_law_entries.F.kp D_law_entries.b .nil pass0 (pa_cons (pv 3) pa_nil))) (blkOk_by (N := ["_law_script", "_law_names_here", "_law_shape", "_law_locks", "_law_first", "_law_second", "_law_dues", "_law_told_here", "_law_entry", "_law_handed", "_law_a", "_law_b", "_law_other", "_law_sign", "_law_one", "_law_two", "_law_held"]) (sc := defScope s_law) (by decide +kernel)) (fun _ _ _ _ _ => (pg_name (i := 8) sc_law.nd rfl (Or.inl rfl))) (fun _ _ _ _ _ => (pts_one (pt_cmpR (r := rInD K) (op_inD (hu5 hr)) (pv 8) (pv 7) (by rfl)))) (fun _ _ _ _ _ => (pv 8))) pa_nil)))))
      (pss_cons (ps_set (i := 9) sc_law.nd rfl (Or.inl rfl) (pe_callTy call_list_of (by rfl) T.b_list (by decide +kernel) (pa_cons (pv 4) pa_nil)))
      (pss_cons (ps_set (i := 10) sc_law.nd rfl (Or.inl rfl) (pe_make M_Rule G_Rule_init (hr.mono (by decide)) rfl RR.k bI_Rule .nil pass0 (pa_cons (pv 3) (pa_cons (pv 9) pa_nil))))
      (pss_cons (ps_set (i := 11) sc_law.nd rfl (Or.inl rfl) (pe_make M_Rule G_Rule_init (hr.mono (by decide)) rfl RR.k bI_Rule .nil pass0 (pa_cons (pe_callTy call_tuple_of (by rfl) T.b_tuple (by decide +kernel) (pa_cons (pe_callTy call_list_of (by rfl) T.b_list (by decide +kernel) (pa_cons (pv 3) pa_nil)) pa_nil)) (pa_cons (pe_callTy call_tuple_of (by rfl) T.b_tuple (by decide +kernel) (pa_cons (pv 5) pa_nil)) pa_nil))))
      (pss_cons (ps_if (pt_cmpR (op_neD hr.units) (pv 9) (pv 4) (nomark _)) (pss_one (ps_ret pe_bl)) pss_nil)
      (pss_cons (ps_expr (pe_bm0 PySem.F.plainAttrs_list PySem.F.slot_list_clear PySem.F.type_list_clear mt_clear (pv 9)))
      (pss_cons (ps_if (PW.pt (pw_or (pt_not (pt_val (pe_call G_law_is_rule (hr.mono (by decide)) rfl D_law_is_rule.g D_law_is_rule.F.kp D_law_is_rule.b .nil pass0 (pa_cons (pv 10) (pa_cons (pv 3) (pa_cons (pe_ix (r := rIxL K) ix_list (pv 6) pe_int (fun _ _ => rfl)) pa_nil)))))) (pw_or1 (pt_not (pt_val (pe_call G_law_is_rule (hr.mono (by decide)) rfl D_law_is_rule.g D_law_is_rule.F.kp D_law_is_rule.b .nil pass0 (pa_cons (pv 11) (pa_cons (pv 3) (pa_cons (pe_ix (r := rIxL K) ix_list (pv 6) pe_int (fun _ _ => rfl)) pa_nil))))))))) (pss_one (ps_ret pe_bl)) pss_nil)
      (pss_cons (ps_if (PW.pt (pw_or (pt_not (pt_val (pe_call G_law_is_rule (hr.mono (by decide)) rfl D_law_is_rule.g D_law_is_rule.F.kp D_law_is_rule.b .nil pass0 (pa_cons (pe_make M_Rule G_Rule_init (hr.mono (by decide)) rfl RR.k bD_Rule hd_Rule pass0 (pa_cons (pv 3) pa_nil)) (pa_cons (pv 3) (pa_cons (pe_lst pa_nil) pa_nil)))))) (pw_or1 (pt_not (pt_val (pe_call G_law_signs (hr.mono (by decide)) rfl D_law_signs.g D_law_signs.F.kp D_law_signs.b .nil pass0 (pa_cons (pv 10) (pa_cons (pv 11) (pa_cons (pv 3) (pa_cons (pe_ix (r := rIxL K) ix_list (pv 6) pe_int (fun _ _ => rfl)) (pa_cons (pe_ix (r := rIxL K) ix_list (pv 6) pe_int (fun _ _ => rfl)) pa_nil))))))))))) (pss_one (ps_ret pe_bl)) pss_nil)
      (pss_cons (ps_for (passes_of rfl) rfl (pi_list (pe_call G_law_others (hr.mono (by decide)) rfl D_law_others.g D_law_others.F.kp D_law_others.b .nil pass0 (pa_cons (pv 3) pa_nil))) (pg_name (i := 12) sc_law.nd rfl (Or.inl rfl)) (pss_one (ps_for (passes_of rfl) rfl (pi_range1 rfl T.b_range (pa_cons pe_int pa_nil)) (pg_name (i := 13) sc_law.nd rfl (Or.inl rfl)) (pss_one (ps_if (PW.pt (pw_or (pt_not (pt_val (pe_call G_law_refused (hr.mono (by decide)) rfl D_law_refused.g D_law_refused.F.kp D_law_refused.b .nil pass0 (pa_cons (pv 10) (pa_cons (pe_make M_Rule G_Rule_init (hr.mono (by decide)) rfl RR.k bD_Rule hd_Rule pass0 (pa_cons (pv 12) pa_nil)) (pa_cons (pv 13) pa_nil)))))) (pw_or1 (pt_not (pt_val (pe_call G_law_refused (hr.mono (by decide)) rfl D_law_refused.g D_law_refused.F.kp D_law_refused.b .nil pass0 (pa_cons (pe_make M_Rule G_Rule_init (hr.mono (by decide)) rfl RR.k bD_Rule hd_Rule pass0 (pa_cons (pv 12) pa_nil)) (pa_cons (pv 10) (pa_cons (pv 13) pa_nil))))))))) (pss_one (ps_ret pe_bl)) pss_nil)))))
      (pss_cons (ps_set (i := 14) sc_law.nd rfl (Or.inl rfl) (pe_ix (r := rIxT K) ix_tup (pv 3) pe_int (fun _ _ => rfl)))
      (pss_cons (ps_set (i := 15) sc_law.nd rfl (Or.inl rfl) (pe_ix (r := rIxT K) ix_tup (pv 3) (pe_un un_neg pe_int) (fun _ _ => rfl)))
      (pss_cons (ps_for (passes_of rfl) rfl (pi_list (pe_lst (pa_cons (pe_lst (pa_cons (pv 14) pa_nil)) (pa_cons (pv 14) (pa_cons (pe_tup (pa_cons (pe_call G_law_stranger (hr.mono (by decide)) rfl D_law_stranger.g D_law_stranger.F.kp D_law_stranger.b .nil pass0 (pa_cons (pv 3) pa_nil)) pa_nil)) (pa_cons (pe_tup (pa_cons (pv 14) (pa_cons (pv 14) pa_nil))) (pa_cons (pe_tup (pa_cons (pv 15) (pa_cons (pv 14) pa_nil))) (pa_cons pe_non (pa_cons pe_int (pa_cons (pe_tup (pa_cons (pe_lst (pa_cons (pv 14) pa_nil)) pa_nil)) (pa_cons (pe_tup (pa_cons pe_non pa_nil)) (pa_cons (pe_lst pa_nil) (pa_cons (pe_tup (pa_cons (pe_tup pa_nil) pa_nil)) pa_nil))))))))))))) (pg_name (i := 16) sc_law.nd rfl (Or.inl rfl)) (pss_one (ps_if (pt_not (pt_val (pe_callG G_law_no_held gd0 (hr.mono (by decide)) rfl D_law_no_held.g D_law_no_held.F.kp D_law_no_held.b len_law_no_held passL (pa_cons (pv 10) (pa_cons (pv 16) pa_nil))))) (pss_one (ps_ret pe_bl)) pss_nil)))
      (pss_cons (ps_if (pt_not (pt_val (pe_callG G_law_refusals gd0 (hr.mono (by decide)) rfl D_law_refusals.g D_law_refusals.F.kp D_law_refusals.b len_law_refusals passL (pa_cons (pv 1) (pa_cons (pv 3) (pa_cons (pv 4) (pa_cons (pe_call G_law_draws (hr.mono (by decide)) rfl D_law_draws.g D_law_draws.F.kp D_law_draws.b .nil pass0 (pa_cons (pe_call G_law_cell (hr.mono (by decide)) rfl D_law_cell.g D_law_cell.F.kp D_law_cell.b .nil pass0 (pa_cons (pv 0) (pa_cons pe_int pa_nil))) (pa_cons pe_int (pa_cons pe_int (pa_cons pe_int pa_nil))))) pa_nil))))))) (pss_one (ps_ret pe_bl)) pss_nil)
      (pss_one (ps_ret (pe_and (pe_call G_law_is_rule (hr.mono (by decide)) rfl D_law_is_rule.g D_law_is_rule.F.kp D_law_is_rule.b .nil pass0 (pa_cons (pv 10) (pa_cons (pv 3) (pa_cons (pe_ix (r := rIxL K) ix_list (pv 6) pe_int (fun _ _ => rfl)) pa_nil)))) (pe_one (pe_call G_law_is_rule (hr.mono (by decide)) rfl D_law_is_rule.g D_law_is_rule.F.kp D_law_is_rule.b .nil pass0 (pa_cons (pv 11) (pa_cons (pv 3) (pa_cons (pe_ix (r := rIxL K) ix_list (pv 6) pe_int (fun _ _ => rfl)) pa_nil)))))))))))))))))))))))))))), ?_⟩
    refine seq_step ?_
    try simp (maxSteps := 1000000) only [tIfS, tTest, tOp, tUn, tCB, tCons, tNil, tVar, tC, rI0, rI, rU, rEq, rNe, tRet, tRetN, tAsg, gName, gSub, tBM, tBM0, tNext, tB, tNot, tAnd, tOr, tIf, tCall, tDrop, tBreak, tCont, L2.start, tDGet, sDPut, tTup, tLst, tDNewK, tRevL, rCat, rAppend, rPop, rSetL, tAndV, tOrV, tNotV, tSl, tPart, tNoPart, tM1, gTup, gCons, gNil, cxK, cxnK, List.map_cons, List.map_nil, List.length_cons, List.length_nil, List.replicate, List.cons_append, List.nil_append, List.append_nil, List.set_cons_zero, List.set_cons_succ, List.getElem?_cons_zero, List.getElem?_cons_succ, Option.some.injEq, V.ref.injEq, V.int.injEq, V.str.injEq, V.bl.injEq, V.ty.injEq, exists_eq_left', exists_eq_left, exists_and_left, List.cons.injEq, and_true, true_and, sc_ii, sc_ss, sc_bb, sc_ni, sc_in, sc_is, sc_si, sc_nn, decide_true, decide_false, reduceCtorEq, Bool.false_eq_true, if_true, if_false, ite_true, ite_false, exists_const, eq_self, false_and, and_false, or_false, false_or, exists_false, Evl.rLenS, rSum, wipe, tYes, exists_eq, exists_eq', rIxL, rIxT, rIxS, exists_and_right, gt_iff_lt, not_true_eq_false, not_false_eq_true, Bool.not_true, Bool.not_false, decide_eq_true_eq, Nat.reduceSub, Nat.reduceAdd, List.append_assoc, tChain, tDIn, tDNotIn, sDDel, tAug, ipI, rInt1_int, rInt1_bl]
    refine ⟨a, 0, ns, rfl, hS, fun c0 => ⟨c0, rfl, fun nl0 zs0 H1 nnl0 hnl0 l30 L0 k1 => ?_⟩⟩
    dsimp only
    have hS1 : Scr K H1 a ns := ⟨k1.ls not0 hS.1, hS.2⟩
    refine seq_step ?_
    try simp (maxSteps := 1000000) only [tIfS, tTest, tOp, tUn, tCB, tCons, tNil, tVar, tC, rI0, rI, rU, rEq, rNe, tRet, tRetN, tAsg, gName, gSub, tBM, tBM0, tNext, tB, tNot, tAnd, tOr, tIf, tCall, tDrop, tBreak, tCont, L2.start, tDGet, sDPut, tTup, tLst, tDNewK, tRevL, rCat, rAppend, rPop, rSetL, tAndV, tOrV, tNotV, tSl, tPart, tNoPart, tM1, gTup, gCons, gNil, cxK, cxnK, List.map_cons, List.map_nil, List.length_cons, List.length_nil, List.replicate, List.cons_append, List.nil_append, List.append_nil, List.set_cons_zero, List.set_cons_succ, List.getElem?_cons_zero, List.getElem?_cons_succ, Option.some.injEq, V.ref.injEq, V.int.injEq, V.str.injEq, V.bl.injEq, V.ty.injEq, exists_eq_left', exists_eq_left, exists_and_left, List.cons.injEq, and_true, true_and, sc_ii, sc_ss, sc_bb, sc_ni, sc_in, sc_is, sc_si, sc_nn, decide_true, decide_false, reduceCtorEq, Bool.false_eq_true, if_true, if_false, ite_true, ite_false, exists_const, eq_self, false_and, and_false, or_false, false_or, exists_false, Evl.rLenS, rSum, wipe, tYes, exists_eq, exists_eq', rIxL, rIxT, rIxS, exists_and_right, gt_iff_lt, not_true_eq_false, not_false_eq_true, Bool.not_true, Bool.not_false, decide_eq_true_eq, Nat.reduceSub, Nat.reduceAdd, List.append_assoc, tChain, tDIn, tDNotIn, sDDel, tAug, ipI, rInt1_int, rInt1_bl]
    refine ⟨a, 1, ns, rfl, hS1, fun c1 => ⟨c1, 2, 4, 45, rfl, by decide, by decide, by decide, fun sl ds H2 nsl hsl hds k2 => ?_⟩⟩
    dsimp only
    obtain ⟨x0, x1, x2, x3, rfl⟩ : ∃ x0 x1 x2 x3, ds = [x0, x1, x2, x3] := by
      match ds, hds.1 with
      | [x0, x1, x2, x3], _ => exact ⟨_, _, _, _, rfl⟩
    have o0 : atI ([x0, x1, x2, x3].map V.int) 0 = some (.int x0) := (show atI _ ((0 : Nat) : Int) = _ from atI_nat rfl)
    have o1 : atI ([x0, x1, x2, x3].map V.int) 1 = some (.int x1) := (show atI _ ((1 : Nat) : Int) = _ from atI_nat rfl)
    have o2 : atI ([x0, x1, x2, x3].map V.int) 2 = some (.int x2) := (show atI _ ((2 : Nat) : Int) = _ from atI_nat rfl)
    have b0 := hds.2 x0 (by simp)
    obtain ⟨m1, em1⟩ : ∃ m : Nat, x1 = (m : Nat) := ⟨x1.toNat, by have := hds.2 x1 (by simp); omega⟩
    obtain ⟨m2, em2⟩ : ∃ m : Nat, x2 = (m : Nat) := ⟨x2.toNat, by have := hds.2 x2 (by simp); omega⟩
    subst em1 em2
    have hnl2 := k2 _ _ not0 hnl0
    refine seq_cut (fun σ H' => ∃ (nl : Addr) (zs1 : List Str), σ = [some (.ref a), some (.ref nl), some (.ref sl), none, none, none, none, none, none, none, none, none, none, none, none, none, none] ∧ H' nl = some (.lst (zs1.map V.str)) ∧ zs1.length = 3 ∧ LkOk zs1 ∧ Kp [] H2 H') (fun Tn hT => ?_) ?_
    · try simp (maxSteps := 1000000) only [tSeq, tIfS, tTest, tOp, tUn, tCB, tCons, tNil, tVar, tC, rI0, rI, rU, rEq, rNe, tRet, tRetN, tAsg, gName, gSub, tBM, tBM0, tNext, tB, tNot, tAnd, tOr, tIf, tCall, tDrop, tBreak, tCont, L2.start, tDGet, sDPut, tTup, tLst, tDNewK, tRevL, rCat, rAppend, rPop, rSetL, tAndV, tOrV, tNotV, tSl, tPart, tNoPart, tM1, gTup, gCons, gNil, cxK, cxnK, List.map_cons, List.map_nil, List.length_cons, List.length_nil, List.replicate, List.cons_append, List.nil_append, List.append_nil, List.set_cons_zero, List.set_cons_succ, List.getElem?_cons_zero, List.getElem?_cons_succ, Option.some.injEq, V.ref.injEq, V.int.injEq, V.str.injEq, V.bl.injEq, V.ty.injEq, exists_eq_left', exists_eq_left, exists_and_left, List.cons.injEq, and_true, true_and, sc_ii, sc_ss, sc_bb, sc_ni, sc_in, sc_is, sc_si, sc_nn, decide_true, decide_false, reduceCtorEq, Bool.false_eq_true, if_true, if_false, ite_true, ite_false, exists_const, eq_self, false_and, and_false, or_false, false_or, exists_false, Evl.rLenS, rSum, wipe, tYes, exists_eq, exists_eq', rIxL, rIxT, rIxS, exists_and_right, gt_iff_lt, not_true_eq_false, not_false_eq_true, Bool.not_true, Bool.not_false, decide_eq_true_eq, Nat.reduceSub, Nat.reduceAdd, List.append_assoc, tChain, tDIn, tDNotIn, sDDel, tAug, ipI, rInt1_int, rInt1_bl]
      refine ⟨_, sq_l hsl, _, o0, .inl ⟨_, rfl, _, rfl, ?_⟩⟩
      refine ⟨⟨by decide, by decide⟩, by decide, ?_⟩
      split
      · refine ⟨_, sq_l hnl2, fun p np => ?_⟩
        rw [← List.map_reverse]
        exact hT _ _ ⟨p, zs0.reverse, rfl, upd_same, by rw [List.length_reverse]; exact l30, L0.rev, Kp.new np⟩
      · exact hT _ _ ⟨nl0, zs0, rfl, hnl2, l30, L0, Kp.refl _ _⟩
    rintro σ H3 ⟨nl, zs1, rfl, hnl, l31, L1, k3⟩
    have hsl3 := k3 _ _ not0 hsl
    have hS3 : Scr K H3 a ns := ⟨(k2.trans k3).ls not0 hS1.1, hS.2⟩
    refine seq_step ?_
    try simp (maxSteps := 1000000) only [tIfS, tTest, tOp, tUn, tCB, tCons, tNil, tVar, tC, rI0, rI, rU, rEq, rNe, tRet, tRetN, tAsg, gName, gSub, tBM, tBM0, tNext, tB, tNot, tAnd, tOr, tIf, tCall, tDrop, tBreak, tCont, L2.start, tDGet, sDPut, tTup, tLst, tDNewK, tRevL, rCat, rAppend, rPop, rSetL, tAndV, tOrV, tNotV, tSl, tPart, tNoPart, tM1, gTup, gCons, gNil, cxK, cxnK, List.map_cons, List.map_nil, List.length_cons, List.length_nil, List.replicate, List.cons_append, List.nil_append, List.append_nil, List.set_cons_zero, List.set_cons_succ, List.getElem?_cons_zero, List.getElem?_cons_succ, Option.some.injEq, V.ref.injEq, V.int.injEq, V.str.injEq, V.bl.injEq, V.ty.injEq, exists_eq_left', exists_eq_left, exists_and_left, List.cons.injEq, and_true, true_and, sc_ii, sc_ss, sc_bb, sc_ni, sc_in, sc_is, sc_si, sc_nn, decide_true, decide_false, reduceCtorEq, Bool.false_eq_true, if_true, if_false, ite_true, ite_false, exists_const, eq_self, false_and, and_false, or_false, false_or, exists_false, Evl.rLenS, rSum, wipe, tYes, exists_eq, exists_eq', rIxL, rIxT, rIxS, exists_and_right, gt_iff_lt, not_true_eq_false, not_false_eq_true, Bool.not_true, Bool.not_false, decide_eq_true_eq, Nat.reduceSub, Nat.reduceAdd, List.append_assoc, tChain, tDIn, tDNotIn, sDDel, tAug, ipI, rInt1_int, rInt1_bl]
    refine ⟨by rw [sizeLine_eq]; decide, fun p np => ?_⟩
    have kp := (Kp.new np : Kp [] H3 (upd H3 p (.lst [.int 3, .int 1, .int 2, .int 2, .int 3, .int 3, .int 3, .int 3, .int 3])))
    have hp : (upd H3 p (.lst [.int 3, .int 1, .int 2, .int 2, .int 3, .int 3, .int 3, .int 3, .int 3])) p = some (.lst [.int 3, .int 1, .int 2, .int 2, .int 3, .int 3, .int 3, .int 3, .int 3]) := upd_same
    generalize upd H3 p (.lst [.int 3, .int 1, .int 2, .int 2, .int 3, .int 3, .int 3, .int 3, .int 3]) = H4 at kp hp ⊢
    refine ⟨_, sq_l (kp _ _ not0 hsl3), _, o0, .inl ⟨_, rfl, _, rfl, by decide, _, sq_l hp, ?_⟩⟩
    obtain ⟨n, en, hn⟩ : ∃ n : Nat, x0 % 9 = (n : Nat) ∧ n < 9 := ⟨(x0 % 9).toNat, by omega, by omega⟩
    obtain ⟨y, ey, y1, y3⟩ := cnt_tab n hn
    rw [en]
    refine ⟨.int (y : Nat), atI_nat ?_, _, rfl, nl, _, rfl, sq_l (kp _ _ not0 hnl), fun l5 nl5 => ⟨l5, rfl, _, .inl ⟨sq_l upd_same, fun ta nta => ?_⟩⟩⟩
    · show (([3, 1, 2, 2, 3, 3, 3, 3, 3] : List Nat).map fun (y : Nat) => V.int (y : Nat))[n]? = _
      rw [List.getElem?_map, ey]
      rfl
    rw [cut_0j] at nta ⊢
    have L := L1.tk (m := y) y1
    have k5 := (kp.trans (Kp.new nl5 (o := .lst ((zs1.take y).map V.str)))).trans (Kp.new nta (o := .tup ((zs1.take y).map V.str)))
    have hta : (upd (upd H4 l5 (.lst ((zs1.take y).map V.str))) ta (.tup ((zs1.take y).map V.str))) ta = some (.tup ((zs1.take y).map V.str)) := upd_same
    generalize upd (upd H4 l5 (.lst ((zs1.take y).map V.str))) ta (.tup ((zs1.take y).map V.str)) = H5 at k5 hta ⊢
    generalize zs1.take y = zs at L hta
    have hsl5 := k5 _ _ not0 hsl3
    have hnl5 := k5 _ _ not0 hnl
    have hS5 : Scr K H5 a ns := ⟨k5.ls not0 hS3.1, hS.2⟩
    have n1 := L.pos
    have n3 := L.le
    have EO := factE (n := zs.length) (by omega) n1
    have l12 := EO.len
    have hbe : ∀ e ∈ ens zs.length, belowE zs.length e := fun e he => (EO.ent e he).1
    clear k1 k2 k3 kp k5 hS1 hS3 hsl hnl hnl2 hnl0
    refine seq_step ?_
    try simp (maxSteps := 1000000) only [tIfS, tTest, tOp, tUn, tCB, tCons, tNil, tVar, tC, rI0, rI, rU, rEq, rNe, tRet, tRetN, tAsg, gName, gSub, tBM, tBM0, tNext, tB, tNot, tAnd, tOr, tIf, tCall, tDrop, tBreak, tCont, L2.start, tDGet, sDPut, tTup, tLst, tDNewK, tRevL, rCat, rAppend, rPop, rSetL, tAndV, tOrV, tNotV, tSl, tPart, tNoPart, tM1, gTup, gCons, gNil, cxK, cxnK, List.map_cons, List.map_nil, List.length_cons, List.length_nil, List.replicate, List.cons_append, List.nil_append, List.append_nil, List.set_cons_zero, List.set_cons_succ, List.getElem?_cons_zero, List.getElem?_cons_succ, Option.some.injEq, V.ref.injEq, V.int.injEq, V.str.injEq, V.bl.injEq, V.ty.injEq, exists_eq_left', exists_eq_left, exists_and_left, List.cons.injEq, and_true, true_and, sc_ii, sc_ss, sc_bb, sc_ni, sc_in, sc_is, sc_si, sc_nn, decide_true, decide_false, reduceCtorEq, Bool.false_eq_true, if_true, if_false, ite_true, ite_false, exists_const, eq_self, false_and, and_false, or_false, false_or, exists_false, Evl.rLenS, rSum, wipe, tYes, exists_eq, exists_eq', rIxL, rIxT, rIxS, exists_and_right, gt_iff_lt, not_true_eq_false, not_false_eq_true, Bool.not_true, Bool.not_false, decide_eq_true_eq, Nat.reduceSub, Nat.reduceAdd, List.append_assoc, tChain, tDIn, tDNotIn, sDDel, tAug, ipI, rInt1_int, rInt1_bl]
    refine ⟨a, 2, ns, rfl, hS5, fun c2 => ⟨_, sq_l hsl5, _, o1, ta, zs, c2, m1, rfl, L, .inr (sq_t hta), fun p1 u1 g1 H6 np1 hp1 hu1 hg1 lg1 k6 => ?_⟩⟩
    dsimp only
    have T1 : ToldAt H6 zs (.ref p1) g1 := ⟨p1, u1, rfl, hp1, hu1, hg1, lg1⟩
    refine seq_step ?_
    try simp (maxSteps := 1000000) only [tIfS, tTest, tOp, tUn, tCB, tCons, tNil, tVar, tC, rI0, rI, rU, rEq, rNe, tRet, tRetN, tAsg, gName, gSub, tBM, tBM0, tNext, tB, tNot, tAnd, tOr, tIf, tCall, tDrop, tBreak, tCont, L2.start, tDGet, sDPut, tTup, tLst, tDNewK, tRevL, rCat, rAppend, rPop, rSetL, tAndV, tOrV, tNotV, tSl, tPart, tNoPart, tM1, gTup, gCons, gNil, cxK, cxnK, List.map_cons, List.map_nil, List.length_cons, List.length_nil, List.replicate, List.cons_append, List.nil_append, List.append_nil, List.set_cons_zero, List.set_cons_succ, List.getElem?_cons_zero, List.getElem?_cons_succ, Option.some.injEq, V.ref.injEq, V.int.injEq, V.str.injEq, V.bl.injEq, V.ty.injEq, exists_eq_left', exists_eq_left, exists_and_left, List.cons.injEq, and_true, true_and, sc_ii, sc_ss, sc_bb, sc_ni, sc_in, sc_is, sc_si, sc_nn, decide_true, decide_false, reduceCtorEq, Bool.false_eq_true, if_true, if_false, ite_true, ite_false, exists_const, eq_self, false_and, and_false, or_false, false_or, exists_false, Evl.rLenS, rSum, wipe, tYes, exists_eq, exists_eq', rIxL, rIxT, rIxS, exists_and_right, gt_iff_lt, not_true_eq_false, not_false_eq_true, Bool.not_true, Bool.not_false, decide_eq_true_eq, Nat.reduceSub, Nat.reduceAdd, List.append_assoc, tChain, tDIn, tDNotIn, sDDel, tAug, ipI, rInt1_int, rInt1_bl]
    refine ⟨a, 3, ns, rfl, ⟨k6.ls not0 hS5.1, hS.2⟩, fun c3 => ⟨_, sq_l (k6 _ _ not0 hsl5), _, o2, ta, zs, c3, m2, rfl, L, .inr (sq_t (k6 _ _ not0 hta)), fun p2 u2 g2 H7 np2 hp2 hu2 hg2 lg2 k7 => ?_⟩⟩
    dsimp only
    have T1 := T1.kp k7
    have T2 : ToldAt H7 zs (.ref p2) g2 := ⟨p2, u2, rfl, hp2, hu2, hg2, lg2⟩
    have k57 := k6.trans k7
    have hta7 := k57 _ _ not0 hta
    clear hp1 hu1 hp2 hu2 np1 np2 k6 k7
    refine seq_step ?_
    try simp (maxSteps := 1000000) only [tIfS, tTest, tOp, tUn, tCB, tCons, tNil, tVar, tC, rI0, rI, rU, rEq, rNe, tRet, tRetN, tAsg, gName, gSub, tBM, tBM0, tNext, tB, tNot, tAnd, tOr, tIf, tCall, tDrop, tBreak, tCont, L2.start, tDGet, sDPut, tTup, tLst, tDNewK, tRevL, rCat, rAppend, rPop, rSetL, tAndV, tOrV, tNotV, tSl, tPart, tNoPart, tM1, gTup, gCons, gNil, cxK, cxnK, List.map_cons, List.map_nil, List.length_cons, List.length_nil, List.replicate, List.cons_append, List.nil_append, List.append_nil, List.set_cons_zero, List.set_cons_succ, List.getElem?_cons_zero, List.getElem?_cons_succ, Option.some.injEq, V.ref.injEq, V.int.injEq, V.str.injEq, V.bl.injEq, V.ty.injEq, exists_eq_left', exists_eq_left, exists_and_left, List.cons.injEq, and_true, true_and, sc_ii, sc_ss, sc_bb, sc_ni, sc_in, sc_is, sc_si, sc_nn, decide_true, decide_false, reduceCtorEq, Bool.false_eq_true, if_true, if_false, ite_true, ite_false, exists_const, eq_self, false_and, and_false, or_false, false_or, exists_false, Evl.rLenS, rSum, wipe, tYes, exists_eq, exists_eq', rIxL, rIxT, rIxS, exists_and_right, gt_iff_lt, not_true_eq_false, not_false_eq_true, Bool.not_true, Bool.not_false, decide_eq_true_eq, Nat.reduceSub, Nat.reduceAdd, List.append_assoc, tChain, tDIn, tDNotIn, sDDel, tAug, ipI, rInt1_int, rInt1_bl]
    refine ⟨Nat.zero_le _, fun dl ndl => ?_⟩
    have k8 := (Kp.new ndl : Kp [] H7 (upd H7 dl (.lst [])))
    have hdl : (upd H7 dl (.lst [])) dl = some (.lst []) := upd_same
    generalize upd H7 dl (.lst []) = H8 at k8 hdl ⊢
    refine seq_step ?_
    refine forL_src ?_
    try simp (maxSteps := 1000000) only [tIfS, tTest, tOp, tUn, tCB, tCons, tNil, tVar, tC, rI0, rI, rU, rEq, rNe, tRet, tRetN, tAsg, gName, gSub, tBM, tBM0, tNext, tB, tNot, tAnd, tOr, tIf, tCall, tDrop, tBreak, tCont, L2.start, tDGet, sDPut, tTup, tLst, tDNewK, tRevL, rCat, rAppend, rPop, rSetL, tAndV, tOrV, tNotV, tSl, tPart, tNoPart, tM1, gTup, gCons, gNil, cxK, cxnK, List.map_cons, List.map_nil, List.length_cons, List.length_nil, List.replicate, List.cons_append, List.nil_append, List.append_nil, List.set_cons_zero, List.set_cons_succ, List.getElem?_cons_zero, List.getElem?_cons_succ, Option.some.injEq, V.ref.injEq, V.int.injEq, V.str.injEq, V.bl.injEq, V.ty.injEq, exists_eq_left', exists_eq_left, exists_and_left, List.cons.injEq, and_true, true_and, sc_ii, sc_ss, sc_bb, sc_ni, sc_in, sc_is, sc_si, sc_nn, decide_true, decide_false, reduceCtorEq, Bool.false_eq_true, if_true, if_false, ite_true, ite_false, exists_const, eq_self, false_and, and_false, or_false, false_or, exists_false, Evl.rLenS, rSum, wipe, tYes, exists_eq, exists_eq', rIxL, rIxT, rIxS, exists_and_right, gt_iff_lt, not_true_eq_false, not_false_eq_true, Bool.not_true, Bool.not_false, decide_eq_true_eq, Nat.reduceSub, Nat.reduceAdd, List.append_assoc, tChain, tDIn, tDNotIn, sDDel, tAug, ipI, rInt1_int, rInt1_bl]
    refine ⟨by rw [sizeLine_eq]; decide, fun lp nlp => ?_⟩
    have k9 := (Kp.new nlp : Kp [] H8 (upd H8 lp (.lst [.ref p1, .ref p2])))
    have hlp : (upd H8 lp (.lst [.ref p1, .ref p2])) lp = some (.lst [.ref p1, .ref p2]) := upd_same
    have hdl9 := k9 _ _ not0 hdl
    have dlp : lp ≠ dl := fun z => by rw [z, hdl] at nlp; cases nlp
    have k79 := k8.trans k9
    generalize upd H8 lp (.lst [.ref p1, .ref p2]) = H9 at k79 hlp hdl9 ⊢
    have RT : Rw (ToldAt H7 zs) [V.ref p1, V.ref p2] [g1, g2] := .cons T1 (.cons T2 .nil)
    refine forLC (fun j σ H' => ∃ (c7 c8 : Option V) (vs : List V), σ = [some (.ref a), some (.ref nl), some (.ref sl), some (.ref ta), some (.ref p1), some (.ref p2), some (.ref dl), c7, c8, none, none, none, none, none, none, none, none] ∧ H' dl = some (.lst vs) ∧ H' lp = some (.lst [.ref p1, .ref p2]) ∧ Rw (DueAt dl H' zs) vs ([g1, g2].take j) ∧ Kp [] H7 H') (sq_l hlp) ⟨_, _, _, rfl, hdl9, hlp, .nil, k79⟩ (fun j σ H' _ h => by obtain ⟨_, _, _, _, _, h, _⟩ := h; exact sq_l h) ?_ ?_
    · rintro j x σ H10 hj ⟨c7, c8, vs, rfl, hdl10, hlp10, hvs, k10⟩
      obtain ⟨gs, egs, q0, us, rfl, hq, hus, hgs, lgs⟩ := RT.get hj
      try simp (maxSteps := 1000000) only [tSeq, tIfS, tTest, tOp, tUn, tCB, tCons, tNil, tVar, tC, rI0, rI, rU, rEq, rNe, tRet, tRetN, tAsg, gName, gSub, tBM, tBM0, tNext, tB, tNot, tAnd, tOr, tIf, tCall, tDrop, tBreak, tCont, L2.start, tDGet, sDPut, tTup, tLst, tDNewK, tRevL, rCat, rAppend, rPop, rSetL, tAndV, tOrV, tNotV, tSl, tPart, tNoPart, tM1, gTup, gCons, gNil, cxK, cxnK, List.map_cons, List.map_nil, List.length_cons, List.length_nil, List.replicate, List.cons_append, List.nil_append, List.append_nil, List.set_cons_zero, List.set_cons_succ, List.getElem?_cons_zero, List.getElem?_cons_succ, Option.some.injEq, V.ref.injEq, V.int.injEq, V.str.injEq, V.bl.injEq, V.ty.injEq, exists_eq_left', exists_eq_left, exists_and_left, List.cons.injEq, and_true, true_and, sc_ii, sc_ss, sc_bb, sc_ni, sc_in, sc_is, sc_si, sc_nn, decide_true, decide_false, reduceCtorEq, Bool.false_eq_true, if_true, if_false, ite_true, ite_false, exists_const, eq_self, false_and, and_false, or_false, false_or, exists_false, Evl.rLenS, rSum, wipe, tYes, exists_eq, exists_eq', rIxL, rIxT, rIxS, exists_and_right, gt_iff_lt, not_true_eq_false, not_false_eq_true, Bool.not_true, Bool.not_false, decide_eq_true_eq, Nat.reduceSub, Nat.reduceAdd, List.append_assoc, tChain, tDIn, tDNotIn, sDDel, tAug, ipI, rInt1_int, rInt1_bl]
      refine ⟨.inl ⟨rfl, _, sq_l hdl10⟩, ?_⟩
      refine lc_src ?_
      try simp (maxSteps := 1000000) only [tSeq, tIfS, tTest, tOp, tUn, tCB, tCons, tNil, tVar, tC, rI0, rI, rU, rEq, rNe, tRet, tRetN, tAsg, gName, gSub, tBM, tBM0, tNext, tB, tNot, tAnd, tOr, tIf, tCall, tDrop, tBreak, tCont, L2.start, tDGet, sDPut, tTup, tLst, tDNewK, tRevL, rCat, rAppend, rPop, rSetL, tAndV, tOrV, tNotV, tSl, tPart, tNoPart, tM1, gTup, gCons, gNil, cxK, cxnK, List.map_cons, List.map_nil, List.length_cons, List.length_nil, List.replicate, List.cons_append, List.nil_append, List.append_nil, List.set_cons_zero, List.set_cons_succ, List.getElem?_cons_zero, List.getElem?_cons_succ, Option.some.injEq, V.ref.injEq, V.int.injEq, V.str.injEq, V.bl.injEq, V.ty.injEq, exists_eq_left', exists_eq_left, exists_and_left, List.cons.injEq, and_true, true_and, sc_ii, sc_ss, sc_bb, sc_ni, sc_in, sc_is, sc_si, sc_nn, decide_true, decide_false, reduceCtorEq, Bool.false_eq_true, if_true, if_false, ite_true, ite_false, exists_const, eq_self, false_and, and_false, or_false, false_or, exists_false, Evl.rLenS, rSum, wipe, tYes, exists_eq, exists_eq', rIxL, rIxT, rIxS, exists_and_right, gt_iff_lt, not_true_eq_false, not_false_eq_true, Bool.not_true, Bool.not_false, decide_eq_true_eq, Nat.reduceSub, Nat.reduceAdd, List.append_assoc, tChain, tDIn, tDNotIn, sDDel, tAug, ipI, rInt1_int, rInt1_bl]
      refine ⟨ta, zs, rfl, L, .inr (sq_t (k10 _ _ not0 hta7)), fun le ue H11 nle hle hue k11 => ?_⟩
      have k7b := k10.trans k11
      refine lcG (R := ET zs) (R2 := ET zs) (fun _ _ _ _ t h => h.tp t) (fun _ _ _ _ t h => h.tp t) (fun e => decide (e ∈ gs)) id (src_list (fun R q' => q') (sq_l hle)) hue (by omega) (fun v e H12 N N0 he hv k12 hN hN0 => ?_) fun D us' H12 nD hD hrw k12 => ?_
      · refine ⟨by simp [wipe], ?_⟩
        have k712 := k7b.trans k12
        try simp (maxSteps := 1000000) only [tSeq, tIfS, tTest, tOp, tUn, tCB, tCons, tNil, tVar, tC, rI0, rI, rU, rEq, rNe, tRet, tRetN, tAsg, gName, gSub, tBM, tBM0, tNext, tB, tNot, tAnd, tOr, tIf, tCall, tDrop, tBreak, tCont, L2.start, tDGet, sDPut, tTup, tLst, tDNewK, tRevL, rCat, rAppend, rPop, rSetL, tAndV, tOrV, tNotV, tSl, tPart, tNoPart, tM1, gTup, gCons, gNil, cxK, cxnK, List.map_cons, List.map_nil, List.length_cons, List.length_nil, List.replicate, List.cons_append, List.nil_append, List.append_nil, List.set_cons_zero, List.set_cons_succ, List.getElem?_cons_zero, List.getElem?_cons_succ, Option.some.injEq, V.ref.injEq, V.int.injEq, V.str.injEq, V.bl.injEq, V.ty.injEq, exists_eq_left', exists_eq_left, exists_and_left, List.cons.injEq, and_true, true_and, sc_ii, sc_ss, sc_bb, sc_ni, sc_in, sc_is, sc_si, sc_nn, decide_true, decide_false, reduceCtorEq, Bool.false_eq_true, if_true, if_false, ite_true, ite_false, exists_const, eq_self, false_and, and_false, or_false, false_or, exists_false, Evl.rLenS, rSum, wipe, tYes, exists_eq, exists_eq', rIxL, rIxT, rIxS, exists_and_right, gt_iff_lt, not_true_eq_false, not_false_eq_true, Bool.not_true, Bool.not_false, decide_eq_true_eq, Nat.reduceSub, Nat.reduceAdd, List.append_assoc, tChain, tDIn, tDNotIn, sDDel, tAug, ipI, rInt1_int, rInt1_bl]
        refine in_ens L (hbe e he) (fun g hg => hbe g (hgs g hg)) hv (sq_l (k712 _ _ not0 hq)) (hus.mono fun _ _ z => z.tp k712.tps) ⟨_, rfl, ?_⟩
        by_cases m : e ∈ gs
        · rw [decide_eq_true m, if_pos rfl]
          exact hN (decide_eq_true m) _ _ hv (Kp.refl _ _)
        · rw [decide_eq_false m, if_neg (by decide)]
          exact hN0 (decide_eq_false m) _ (Kp.refl _ _)
      · rw [List.map_id] at hrw
        have k1012 := k11.trans k12
        have hdl12 := k1012 _ _ not0 hdl10
        have hlp12 := k1012 _ _ not0 hlp10
        have Ddl : D ≠ dl := fun z => by rw [z, k11 _ _ not0 hdl10] at nD; cases nD
        have tp : Tp H12 (upd H12 dl (.lst (vs ++ [.ref D]))) := (Tp.refl _).putL hdl12
        have up : ∀ v gs, DueAt dl H12 zs v gs → DueAt dl (upd H12 dl (.lst (vs ++ [.ref D]))) zs v gs := fun v gs h => by
          obtain ⟨p, rfl, np, ws, h1, h2, h3⟩ := h
          exact ⟨p, rfl, np, ws, by rw [upd_ne np]; exact h1, h2.mono fun _ _ z => z.tp tp, h3⟩
        have lv : vs.length ≤ 2 := by rw [hvs.len, List.length_take]; simp only [List.length_cons, List.length_nil]; omega
        refine ⟨vs, hdl12, smallL (by omega), _, upd_same, by rw [upd_ne dlp]; exact hlp12, ?_, (k10.trans k1012).wr ndl⟩
        rw [take_one egs]
        exact ((hvs.mono fun v gs h => by
          obtain ⟨p, rfl, np, h⟩ := h
          exact up _ _ ⟨p, rfl, np, h.kp k1012⟩).snoc (up _ _ ⟨D, rfl, Ddl, us', hD, hrw, List.filter_sublist⟩))
    rintro σ H10 ⟨c7, c8, vs, rfl, hdl10, hlp10, hvs, k710⟩
    obtain ⟨v1, t1, ev1, ⟨q1, eq1, _, E1⟩, hvs1⟩ := hvs.ex
    obtain ⟨v2, t2, ev2, ⟨q2, eq2, _, E2⟩, hvs2⟩ := hvs1.ex
    have ev : vs = [.ref q1, .ref q2] := by rw [ev1, ev2, eq1, eq2, hvs2.isNil]
    subst ev
    clear hvs hvs1 hvs2 ev1 ev2 eq1 eq2 hlp10 hlp hdl hdl9 k79 nlp dlp RT
    dsimp only
    have hta10 := k710 _ _ not0 hta7
    have T1 := T1.kp k710
    have T2 := T2.kp k710
    have k510 := k57.trans k710
    obtain ⟨p1', u1, ep1, hp1, hu1, hg1, lg1⟩ := id T1
    cases ep1
    refine seq_step ?_
    try simp (maxSteps := 1000000) only [tIfS, tTest, tOp, tUn, tCB, tCons, tNil, tVar, tC, rI0, rI, rU, rEq, rNe, tRet, tRetN, tAsg, gName, gSub, tBM, tBM0, tNext, tB, tNot, tAnd, tOr, tIf, tCall, tDrop, tBreak, tCont, L2.start, tDGet, sDPut, tTup, tLst, tDNewK, tRevL, rCat, rAppend, rPop, rSetL, tAndV, tOrV, tNotV, tSl, tPart, tNoPart, tM1, gTup, gCons, gNil, cxK, cxnK, List.map_cons, List.map_nil, List.length_cons, List.length_nil, List.replicate, List.cons_append, List.nil_append, List.append_nil, List.set_cons_zero, List.set_cons_succ, List.getElem?_cons_zero, List.getElem?_cons_succ, Option.some.injEq, V.ref.injEq, V.int.injEq, V.str.injEq, V.bl.injEq, V.ty.injEq, exists_eq_left', exists_eq_left, exists_and_left, List.cons.injEq, and_true, true_and, sc_ii, sc_ss, sc_bb, sc_ni, sc_in, sc_is, sc_si, sc_nn, decide_true, decide_false, reduceCtorEq, Bool.false_eq_true, if_true, if_false, ite_true, ite_false, exists_const, eq_self, false_and, and_false, or_false, false_or, exists_false, Evl.rLenS, rSum, wipe, tYes, exists_eq, exists_eq', rIxL, rIxT, rIxS, exists_and_right, gt_iff_lt, not_true_eq_false, not_false_eq_true, Bool.not_true, Bool.not_false, decide_eq_true_eq, Nat.reduceSub, Nat.reduceAdd, List.append_assoc, tChain, tDIn, tDNotIn, sDDel, tAug, ipI, rInt1_int, rInt1_bl]
    refine ⟨_, .inl (sq_l hp1), fun hh nhh => ?_⟩
    have kh := (Kp.new nhh : Kp [] H10 (upd H10 hh (.lst u1)))
    have hhh : (upd H10 hh (.lst u1)) hh = some (.lst u1) := upd_same
    generalize upd H10 hh (.lst u1) = H11 at kh hhh ⊢
    refine seq_step ?_
    try simp (maxSteps := 1000000) only [tIfS, tTest, tOp, tUn, tCB, tCons, tNil, tVar, tC, rI0, rI, rU, rEq, rNe, tRet, tRetN, tAsg, gName, gSub, tBM, tBM0, tNext, tB, tNot, tAnd, tOr, tIf, tCall, tDrop, tBreak, tCont, L2.start, tDGet, sDPut, tTup, tLst, tDNewK, tRevL, rCat, rAppend, rPop, rSetL, tAndV, tOrV, tNotV, tSl, tPart, tNoPart, tM1, gTup, gCons, gNil, cxK, cxnK, List.map_cons, List.map_nil, List.length_cons, List.length_nil, List.replicate, List.cons_append, List.nil_append, List.append_nil, List.set_cons_zero, List.set_cons_succ, List.getElem?_cons_zero, List.getElem?_cons_succ, Option.some.injEq, V.ref.injEq, V.int.injEq, V.str.injEq, V.bl.injEq, V.ty.injEq, exists_eq_left', exists_eq_left, exists_and_left, List.cons.injEq, and_true, true_and, sc_ii, sc_ss, sc_bb, sc_ni, sc_in, sc_is, sc_si, sc_nn, decide_true, decide_false, reduceCtorEq, Bool.false_eq_true, if_true, if_false, ite_true, ite_false, exists_const, eq_self, false_and, and_false, or_false, false_or, exists_false, Evl.rLenS, rSum, wipe, tYes, exists_eq, exists_eq', rIxL, rIxT, rIxS, exists_and_right, gt_iff_lt, not_true_eq_false, not_false_eq_true, Bool.not_true, Bool.not_false, decide_eq_true_eq, Nat.reduceSub, Nat.reduceAdd, List.append_assoc, tChain, tDIn, tDNotIn, sDDel, tAug, ipI, rInt1_int, rInt1_bl, tMake]
    refine mkRN (K := K) (RC := RC) L (kh _ _ not0 hta10) (.inl (sq_l hhh)) (hu1.mono fun _ _ z => z.tp kh.tps) hg1 (by omega) fun oa H12 noa hRa k12 => ?_
    refine seq_step ?_
    try simp (maxSteps := 1000000) only [tIfS, tTest, tOp, tUn, tCB, tCons, tNil, tVar, tC, rI0, rI, rU, rEq, rNe, tRet, tRetN, tAsg, gName, gSub, tBM, tBM0, tNext, tB, tNot, tAnd, tOr, tIf, tCall, tDrop, tBreak, tCont, L2.start, tDGet, sDPut, tTup, tLst, tDNewK, tRevL, rCat, rAppend, rPop, rSetL, tAndV, tOrV, tNotV, tSl, tPart, tNoPart, tM1, gTup, gCons, gNil, cxK, cxnK, List.map_cons, List.map_nil, List.length_cons, List.length_nil, List.replicate, List.cons_append, List.nil_append, List.append_nil, List.set_cons_zero, List.set_cons_succ, List.getElem?_cons_zero, List.getElem?_cons_succ, Option.some.injEq, V.ref.injEq, V.int.injEq, V.str.injEq, V.bl.injEq, V.ty.injEq, exists_eq_left', exists_eq_left, exists_and_left, List.cons.injEq, and_true, true_and, sc_ii, sc_ss, sc_bb, sc_ni, sc_in, sc_is, sc_si, sc_nn, decide_true, decide_false, reduceCtorEq, Bool.false_eq_true, if_true, if_false, ite_true, ite_false, exists_const, eq_self, false_and, and_false, or_false, false_or, exists_false, Evl.rLenS, rSum, wipe, tYes, exists_eq, exists_eq', rIxL, rIxT, rIxS, exists_and_right, gt_iff_lt, not_true_eq_false, not_false_eq_true, Bool.not_true, Bool.not_false, decide_eq_true_eq, Nat.reduceSub, Nat.reduceAdd, List.append_assoc, tChain, tDIn, tDNotIn, sDDel, tAug, ipI, rInt1_int, rInt1_bl, tMake]
    have k10_12 := kh.trans k12
    obtain ⟨p2', u2, ep2, hp2, hu2, hg2, lg2⟩ := id T2
    cases ep2
    refine ⟨_, .inr (sq_t (k10_12 _ _ not0 hta10)), fun w1 nw1 => ⟨_, .inl ⟨sq_l upd_same, fun w2 nw2 => ?_⟩⟩⟩
    have kw := (Kp.new nw1 : Kp [] H12 (upd H12 w1 (.lst (zs.map V.str)))).trans (Kp.new nw2 (o := .tup (zs.map V.str)))
    have hw2 : (upd (upd H12 w1 (.lst (zs.map V.str))) w2 (.tup (zs.map V.str))) w2 = some (.tup (zs.map V.str)) := upd_same
    generalize upd (upd H12 w1 (.lst (zs.map V.str))) w2 (.tup (zs.map V.str)) = H13 at kw hw2 ⊢
    have k10_13 := k10_12.trans kw
    refine ⟨_, .inl ⟨sq_l (k10_13 _ _ not0 hp2), fun w3 nw3 => ?_⟩⟩
    have kw3 := (Kp.new nw3 : Kp [] H13 (upd H13 w3 (.tup u2)))
    have hw3 : (upd H13 w3 (.tup u2)) w3 = some (.tup u2) := upd_same
    have hw2 := kw3 _ _ not0 hw2
    have k10_14 := k10_13.trans kw3
    generalize upd H13 w3 (.tup u2) = H14 at kw3 hw3 hw2 k10_14 ⊢
    refine mkRN (K := K) (RC := RC) L hw2 (.inr (sq_t hw3)) (hu2.mono fun _ _ z => z.tp k10_14.tps) hg2 (by omega) fun ob H15 nob hRb k15 => ?_
    have k10_15 := k10_14.trans k15
    have k11_15 := ((k12.trans kw).trans kw3).trans k15
    have hRa := hRa.kp ((kw.trans kw3).trans k15)
    have hhh15 := k11_15 _ _ not0 hhh
    refine seq_step ?_
    try simp (maxSteps := 1000000) only [tIfS, tTest, tOp, tUn, tCB, tCons, tNil, tVar, tC, rI0, rI, rU, rEq, rNe, tRet, tRetN, tAsg, gName, gSub, tBM, tBM0, tNext, tB, tNot, tAnd, tOr, tIf, tCall, tDrop, tBreak, tCont, L2.start, tDGet, sDPut, tTup, tLst, tDNewK, tRevL, rCat, rAppend, rPop, rSetL, tAndV, tOrV, tNotV, tSl, tPart, tNoPart, tM1, gTup, gCons, gNil, cxK, cxnK, List.map_cons, List.map_nil, List.length_cons, List.length_nil, List.replicate, List.cons_append, List.nil_append, List.append_nil, List.set_cons_zero, List.set_cons_succ, List.getElem?_cons_zero, List.getElem?_cons_succ, Option.some.injEq, V.ref.injEq, V.int.injEq, V.str.injEq, V.bl.injEq, V.ty.injEq, exists_eq_left', exists_eq_left, exists_and_left, List.cons.injEq, and_true, true_and, sc_ii, sc_ss, sc_bb, sc_ni, sc_in, sc_is, sc_si, sc_nn, decide_true, decide_false, reduceCtorEq, Bool.false_eq_true, if_true, if_false, ite_true, ite_false, exists_const, eq_self, false_and, and_false, or_false, false_or, exists_false, Evl.rLenS, rSum, wipe, tYes, exists_eq, exists_eq', rIxL, rIxT, rIxS, exists_and_right, gt_iff_lt, not_true_eq_false, not_false_eq_true, Bool.not_true, Bool.not_false, decide_eq_true_eq, Nat.reduceSub, Nat.reduceAdd, List.append_assoc, tChain, tDIn, tDNotIn, sDDel, tAug, ipI, rInt1_int, rInt1_bl]
    refine ne_rows L hbe hg1 hhh15 (k10_15 _ _ not0 hp1) (hu1.mono fun _ _ z => z.tp k10_15.tps) ⟨false, rfl, ?_⟩
    rw [if_neg (by decide)]
    refine seq_step ?_
    try simp (maxSteps := 1000000) only [tIfS, tTest, tOp, tUn, tCB, tCons, tNil, tVar, tC, rI0, rI, rU, rEq, rNe, tRet, tRetN, tAsg, gName, gSub, tBM, tBM0, tNext, tB, tNot, tAnd, tOr, tIf, tCall, tDrop, tBreak, tCont, L2.start, tDGet, sDPut, tTup, tLst, tDNewK, tRevL, rCat, rAppend, rPop, rSetL, tAndV, tOrV, tNotV, tSl, tPart, tNoPart, tM1, gTup, gCons, gNil, cxK, cxnK, List.map_cons, List.map_nil, List.length_cons, List.length_nil, List.replicate, List.cons_append, List.nil_append, List.append_nil, List.set_cons_zero, List.set_cons_succ, List.getElem?_cons_zero, List.getElem?_cons_succ, Option.some.injEq, V.ref.injEq, V.int.injEq, V.str.injEq, V.bl.injEq, V.ty.injEq, exists_eq_left', exists_eq_left, exists_and_left, List.cons.injEq, and_true, true_and, sc_ii, sc_ss, sc_bb, sc_ni, sc_in, sc_is, sc_si, sc_nn, decide_true, decide_false, reduceCtorEq, Bool.false_eq_true, if_true, if_false, ite_true, ite_false, exists_const, eq_self, false_and, and_false, or_false, false_or, exists_false, Evl.rLenS, rSum, wipe, tYes, exists_eq, exists_eq', rIxL, rIxT, rIxS, exists_and_right, gt_iff_lt, not_true_eq_false, not_false_eq_true, Bool.not_true, Bool.not_false, decide_eq_true_eq, Nat.reduceSub, Nat.reduceAdd, List.append_assoc, tChain, tDIn, tDNotIn, sDDel, tAug, ipI, rInt1_int, rInt1_bl]
    refine ⟨.inl ⟨rfl, _, sq_l hhh15⟩, hh, _, rfl, rfl, hhh15, ?_⟩
    have hRa := hRa.wr (ws := []) hhh hhh15
    have hRb := hRb.wr (ws := []) (((k12.trans kw).trans kw3) _ _ not0 hhh) hhh15
    have k := (k10_15.wr nhh : Kp [] H10 (upd H15 hh (.lst [])))
    generalize upd H15 hh (.lst []) = H16 at hRa hRb k ⊢
    clear hhh15 k11_15 k10_15 k10_14 k10_13 k10_12 kw kw3 hw2 hw3 nw1 nw2 nw3 noa nob k15 k12 kh hhh nhh
    have i0 : atI [V.ref q1, V.ref q2] 0 = some (.ref q1) := rfl
    have i1 : atI [V.ref q1, V.ref q2] 1 = some (.ref q2) := rfl
    have go : ∀ (o D : Addr) (es : List En) (H9 : Hp) (Q' : VK), RuAt RC H9 o zs es → EnAt H9 D zs es → Kp [] H10 H9 → (∀ H', Kp [] H9 H' → Q' (.bl true) H') → spIsR K RC [.ref o, .ref ta, .ref D] H9 Q' E0 := fun o D es H9 Q' r en k q' => ⟨o, ta, D, zs, es, rfl, r, .inr (sq_t (k _ _ not0 hta10)), en, q'⟩
    refine seq_step ?_
    try simp (maxSteps := 1000000) only [tIfS, tTest, tOp, tUn, tCB, tCons, tNil, tVar, tC, rI0, rI, rU, rEq, rNe, tRet, tRetN, tAsg, gName, gSub, tBM, tBM0, tNext, tB, tNot, tAnd, tOr, tIf, tCall, tDrop, tBreak, tCont, L2.start, tDGet, sDPut, tTup, tLst, tDNewK, tRevL, rCat, rAppend, rPop, rSetL, tAndV, tOrV, tNotV, tSl, tPart, tNoPart, tM1, gTup, gCons, gNil, cxK, cxnK, List.map_cons, List.map_nil, List.length_cons, List.length_nil, List.replicate, List.cons_append, List.nil_append, List.append_nil, List.set_cons_zero, List.set_cons_succ, List.getElem?_cons_zero, List.getElem?_cons_succ, Option.some.injEq, V.ref.injEq, V.int.injEq, V.str.injEq, V.bl.injEq, V.ty.injEq, exists_eq_left', exists_eq_left, exists_and_left, List.cons.injEq, and_true, true_and, sc_ii, sc_ss, sc_bb, sc_ni, sc_in, sc_is, sc_si, sc_nn, decide_true, decide_false, reduceCtorEq, Bool.false_eq_true, if_true, if_false, ite_true, ite_false, exists_const, eq_self, false_and, and_false, or_false, false_or, exists_false, Evl.rLenS, rSum, wipe, tYes, exists_eq, exists_eq', rIxL, rIxT, rIxS, exists_and_right, gt_iff_lt, not_true_eq_false, not_false_eq_true, Bool.not_true, Bool.not_false, decide_eq_true_eq, Nat.reduceSub, Nat.reduceAdd, List.append_assoc, tChain, tDIn, tDNotIn, sDDel, tAug, ipI, rInt1_int, rInt1_bl]
    refine ⟨_, sq_l (k _ _ not0 hdl10), _, i0, go _ _ _ _ _ hRa (E1.kp k) k fun H17 k17 => ⟨true, rfl, ?_⟩⟩
    rw [if_neg (by decide)]
    have k := k.trans k17
    have hRa := hRa.kp k17
    have hRb := hRb.kp k17
    clear k17
    refine ⟨_, sq_l (k _ _ not0 hdl10), _, i1, go _ _ _ _ _ hRb (E2.kp k) k fun H18 k18 => ⟨true, rfl, ?_⟩⟩
    rw [if_neg (by decide)]
    have k := k.trans k18
    have hRa := hRa.kp k18
    have hRb := hRb.kp k18
    clear k18
    refine seq_step ?_
    try simp (maxSteps := 1000000) only [tIfS, tTest, tOp, tUn, tCB, tCons, tNil, tVar, tC, rI0, rI, rU, rEq, rNe, tRet, tRetN, tAsg, gName, gSub, tBM, tBM0, tNext, tB, tNot, tAnd, tOr, tIf, tCall, tDrop, tBreak, tCont, L2.start, tDGet, sDPut, tTup, tLst, tDNewK, tRevL, rCat, rAppend, rPop, rSetL, tAndV, tOrV, tNotV, tSl, tPart, tNoPart, tM1, gTup, gCons, gNil, cxK, cxnK, List.map_cons, List.map_nil, List.length_cons, List.length_nil, List.replicate, List.cons_append, List.nil_append, List.append_nil, List.set_cons_zero, List.set_cons_succ, List.getElem?_cons_zero, List.getElem?_cons_succ, Option.some.injEq, V.ref.injEq, V.int.injEq, V.str.injEq, V.bl.injEq, V.ty.injEq, exists_eq_left', exists_eq_left, exists_and_left, List.cons.injEq, and_true, true_and, sc_ii, sc_ss, sc_bb, sc_ni, sc_in, sc_is, sc_si, sc_nn, decide_true, decide_false, reduceCtorEq, Bool.false_eq_true, if_true, if_false, ite_true, ite_false, exists_const, eq_self, false_and, and_false, or_false, false_or, exists_false, Evl.rLenS, rSum, wipe, tYes, exists_eq, exists_eq', rIxL, rIxT, rIxS, exists_and_right, gt_iff_lt, not_true_eq_false, not_false_eq_true, Bool.not_true, Bool.not_false, decide_eq_true_eq, Nat.reduceSub, Nat.reduceAdd, List.append_assoc, tChain, tDIn, tDNotIn, sDDel, tAug, ipI, rInt1_int, rInt1_bl, tMake]
    have due0 : ∀ m : Nat, dueR m [] = [] := fun m => List.filter_eq_nil_iff.mpr fun e _ => by simp
    refine mkRN (K := K) (RC := RC) L (k _ _ not0 hta10) (.inr (hde _)) (gs := []) .nil (fun g hg => nomatch hg) (Nat.zero_le _) fun o3 H19 no3 hR3 k19 => ⟨Nat.zero_le _, fun pe npe => ?_⟩
    have ke := (Kp.new npe : Kp [] H19 (upd H19 pe (.lst [])))
    have k := (k.trans k19).trans ke
    have hRa := hRa.kp (k19.trans ke)
    have hRb := hRb.kp (k19.trans ke)
    rw [due0] at hR3
    refine go _ _ _ _ _ (hR3.at_.kp ke) ⟨[], upd_same, .nil, List.nil_sublist _⟩ k fun H20 k20 => ⟨true, rfl, ?_⟩
    rw [if_neg (by decide)]
    have k := k.trans k20
    have hRa := hRa.kp k20
    have hRb := hRb.kp k20
    refine ⟨_, sq_l (k _ _ not0 hdl10), _, i0, _, sq_l (k _ _ not0 hdl10), _, i1, oa, ob, ta, q1, q2, zs, _, _, rfl, hRa, hRb, .inr (sq_t (k _ _ not0 hta10)), E1.kp k, E2.kp k, fun H21 k21 => ⟨true, rfl, ?_⟩⟩
    rw [if_neg (by decide)]
    have k := k.trans k21
    have hRa := hRa.kp k21
    have hRb := hRb.kp k21
    clear k21 k20 ke npe k19 hR3 no3
    refine seq_step ?_
    refine forL_src ?_
    try simp (maxSteps := 1000000) only [tIfS, tTest, tOp, tUn, tCB, tCons, tNil, tVar, tC, rI0, rI, rU, rEq, rNe, tRet, tRetN, tAsg, gName, gSub, tBM, tBM0, tNext, tB, tNot, tAnd, tOr, tIf, tCall, tDrop, tBreak, tCont, L2.start, tDGet, sDPut, tTup, tLst, tDNewK, tRevL, rCat, rAppend, rPop, rSetL, tAndV, tOrV, tNotV, tSl, tPart, tNoPart, tM1, gTup, gCons, gNil, cxK, cxnK, List.map_cons, List.map_nil, List.length_cons, List.length_nil, List.replicate, List.cons_append, List.nil_append, List.append_nil, List.set_cons_zero, List.set_cons_succ, List.getElem?_cons_zero, List.getElem?_cons_succ, Option.some.injEq, V.ref.injEq, V.int.injEq, V.str.injEq, V.bl.injEq, V.ty.injEq, exists_eq_left', exists_eq_left, exists_and_left, List.cons.injEq, and_true, true_and, sc_ii, sc_ss, sc_bb, sc_ni, sc_in, sc_is, sc_si, sc_nn, decide_true, decide_false, reduceCtorEq, Bool.false_eq_true, if_true, if_false, ite_true, ite_false, exists_const, eq_self, false_and, and_false, or_false, false_or, exists_false, Evl.rLenS, rSum, wipe, tYes, exists_eq, exists_eq', rIxL, rIxT, rIxS, exists_and_right, gt_iff_lt, not_true_eq_false, not_false_eq_true, Bool.not_true, Bool.not_false, decide_eq_true_eq, Nat.reduceSub, Nat.reduceAdd, List.append_assoc, tChain, tDIn, tDNotIn, sDDel, tAug, ipI, rInt1_int, rInt1_bl]
    refine ⟨ta, zs, rfl, L, k _ _ not0 hta10, fun lo ou og H22 nlo hlo hog log hgo k22 => ?_⟩
    have k := k.trans k22
    have hRa := hRa.kp k22
    have hRb := hRb.kp k22
    refine forLC (fun j σ H' => ∃ (c12 c13 : Option V), σ = [some (.ref a), some (.ref nl), some (.ref sl), some (.ref ta), some (.ref p1), some (.ref p2), some (.ref dl), c7, c8, some (.ref hh), some (.ref oa), some (.ref ob), c12, c13, none, none, none] ∧ Kp [] H22 H') (sq_l hlo) ⟨_, _, rfl, Kp.refl _ _⟩ (fun j σ H' _ h => by obtain ⟨_, _, _, k⟩ := h; exact sq_l (k _ _ not0 hlo)) ?_ ?_
    · rintro j x σ H23 hj ⟨c12, c13, rfl, k23⟩
      obtain ⟨g, eg, hx⟩ := hog.get hj
      obtain ⟨Lg, gne⟩ := hgo g (List.mem_of_getElem? eg)
      obtain ⟨xa, rfl, hxa⟩ := hx.tp k23.tps
      try simp (maxSteps := 1000000) only [tSeq, tIfS, tTest, tOp, tUn, tCB, tCons, tNil, tVar, tC, rI0, rI, rU, rEq, rNe, tRet, tRetN, tAsg, gName, gSub, tBM, tBM0, tNext, tB, tNot, tAnd, tOr, tIf, tCall, tDrop, tBreak, tCont, L2.start, tDGet, sDPut, tTup, tLst, tDNewK, tRevL, rCat, rAppend, rPop, rSetL, tAndV, tOrV, tNotV, tSl, tPart, tNoPart, tM1, gTup, gCons, gNil, cxK, cxnK, List.map_cons, List.map_nil, List.length_cons, List.length_nil, List.replicate, List.cons_append, List.nil_append, List.append_nil, List.set_cons_zero, List.set_cons_succ, List.getElem?_cons_zero, List.getElem?_cons_succ, Option.some.injEq, V.ref.injEq, V.int.injEq, V.str.injEq, V.bl.injEq, V.ty.injEq, exists_eq_left', exists_eq_left, exists_and_left, List.cons.injEq, and_true, true_and, sc_ii, sc_ss, sc_bb, sc_ni, sc_in, sc_is, sc_si, sc_nn, decide_true, decide_false, reduceCtorEq, Bool.false_eq_true, if_true, if_false, ite_true, ite_false, exists_const, eq_self, false_and, and_false, or_false, false_or, exists_false, Evl.rLenS, rSum, wipe, tYes, exists_eq, exists_eq', rIxL, rIxT, rIxS, exists_and_right, gt_iff_lt, not_true_eq_false, not_false_eq_true, Bool.not_true, Bool.not_false, decide_eq_true_eq, Nat.reduceSub, Nat.reduceAdd, List.append_assoc, tChain, tDIn, tDNotIn, sDDel, tAug, ipI, rInt1_int, rInt1_bl]
      refine forN 3 (by decide) (fun i σ H' => ∃ (c13 : Option V), σ = [some (.ref a), some (.ref nl), some (.ref sl), some (.ref ta), some (.ref p1), some (.ref p2), some (.ref dl), c7, c8, some (.ref hh), some (.ref oa), some (.ref ob), some (.ref xa), c13, none, none, none] ∧ Kp [] H22 H' ∧ H' xa = some (.tup (g.map V.str))) (fun R q' => q') ⟨_, rfl, k23, hxa⟩ ?_ ?_
      · rintro i σ H24 hi ⟨c13, rfl, k24, hxa⟩
        try simp (maxSteps := 1000000) only [tSeq, tIfS, tTest, tOp, tUn, tCB, tCons, tNil, tVar, tC, rI0, rI, rU, rEq, rNe, tRet, tRetN, tAsg, gName, gSub, tBM, tBM0, tNext, tB, tNot, tAnd, tOr, tIf, tCall, tDrop, tBreak, tCont, L2.start, tDGet, sDPut, tTup, tLst, tDNewK, tRevL, rCat, rAppend, rPop, rSetL, tAndV, tOrV, tNotV, tSl, tPart, tNoPart, tM1, gTup, gCons, gNil, cxK, cxnK, List.map_cons, List.map_nil, List.length_cons, List.length_nil, List.replicate, List.cons_append, List.nil_append, List.append_nil, List.set_cons_zero, List.set_cons_succ, List.getElem?_cons_zero, List.getElem?_cons_succ, Option.some.injEq, V.ref.injEq, V.int.injEq, V.str.injEq, V.bl.injEq, V.ty.injEq, exists_eq_left', exists_eq_left, exists_and_left, List.cons.injEq, and_true, true_and, sc_ii, sc_ss, sc_bb, sc_ni, sc_in, sc_is, sc_si, sc_nn, decide_true, decide_false, reduceCtorEq, Bool.false_eq_true, if_true, if_false, ite_true, ite_false, exists_const, eq_self, false_and, and_false, or_false, false_or, exists_false, Evl.rLenS, rSum, wipe, tYes, exists_eq, exists_eq', rIxL, rIxT, rIxS, exists_and_right, gt_iff_lt, not_true_eq_false, not_false_eq_true, Bool.not_true, Bool.not_false, decide_eq_true_eq, Nat.reduceSub, Nat.reduceAdd, List.append_assoc, tChain, tDIn, tDNotIn, sDDel, tAug, ipI, rInt1_int, rInt1_bl, tMake]
        refine mkRN (K := K) (RC := RC) Lg hxa (.inr (hde _)) (gs := []) .nil (fun g hg => nomatch hg) (Nat.zero_le _) fun o4 H25 no4 hR4 k25 => ?_
        have k2 := k24.trans k25
        refine ⟨oa, o4, (i : Nat), zs, g, _, _, rfl, hRa.kp k2, hR4.at_, (fun z => gne z.symm), fun H26 k26 => ⟨true, rfl, ?_⟩⟩
        rw [if_neg (by decide)]
        have k2 := k2.trans k26
        refine mkRN (K := K) (RC := RC) Lg ((k25.trans k26) _ _ not0 hxa) (.inr (hde _)) (gs := []) .nil (fun g hg => nomatch hg) (Nat.zero_le _) fun o5 H27 no5 hR5 k27 => ?_
        have k2 := k2.trans k27
        refine ⟨o5, oa, (i : Nat), g, zs, _, _, rfl, hR5.at_, hRa.kp k2, gne, fun H28 k28 => ⟨true, rfl, ?_⟩⟩
        rw [if_neg (by decide)]
        exact ⟨k2.trans k28, (((k25.trans k26).trans k27).trans k28) _ _ not0 hxa⟩
      · rintro σ H24 ⟨c13, rfl, k24, hxa⟩
        exact ⟨⟨_, _, rfl⟩, k24⟩
    rintro σ H23 ⟨c12, c13, rfl, k23⟩
    have k := k.trans k23
    have hRa := hRa.kp k23
    have hRb := hRb.kp k23
    clear k23 hlo hog hgo k22
    dsimp only
    have hta' := k _ _ not0 hta10
    refine seq_step ?_
    try simp (maxSteps := 1000000) only [tIfS, tTest, tOp, tUn, tCB, tCons, tNil, tVar, tC, rI0, rI, rU, rEq, rNe, tRet, tRetN, tAsg, gName, gSub, tBM, tBM0, tNext, tB, tNot, tAnd, tOr, tIf, tCall, tDrop, tBreak, tCont, L2.start, tDGet, sDPut, tTup, tLst, tDNewK, tRevL, rCat, rAppend, rPop, rSetL, tAndV, tOrV, tNotV, tSl, tPart, tNoPart, tM1, gTup, gCons, gNil, cxK, cxnK, List.map_cons, List.map_nil, List.length_cons, List.length_nil, List.replicate, List.cons_append, List.nil_append, List.append_nil, List.set_cons_zero, List.set_cons_succ, List.getElem?_cons_zero, List.getElem?_cons_succ, Option.some.injEq, V.ref.injEq, V.int.injEq, V.str.injEq, V.bl.injEq, V.ty.injEq, exists_eq_left', exists_eq_left, exists_and_left, List.cons.injEq, and_true, true_and, sc_ii, sc_ss, sc_bb, sc_ni, sc_in, sc_is, sc_si, sc_nn, decide_true, decide_false, reduceCtorEq, Bool.false_eq_true, if_true, if_false, ite_true, ite_false, exists_const, eq_self, false_and, and_false, or_false, false_or, exists_false, Evl.rLenS, rSum, wipe, tYes, exists_eq, exists_eq', rIxL, rIxT, rIxS, exists_and_right, gt_iff_lt, not_true_eq_false, not_false_eq_true, Bool.not_true, Bool.not_false, decide_eq_true_eq, Nat.reduceSub, Nat.reduceAdd, List.append_assoc, tChain, tDIn, tDNotIn, sDDel, tAug, ipI, rInt1_int, rInt1_bl]
    refine ⟨_, sq_t hta', .str (nmL zs 0), (show atI _ ((0 : Nat) : Int) = _ from atI_nat (by rw [List.getElem?_map, nm_at n1]; rfl)), ?_⟩
    refine seq_step ?_
    try simp (maxSteps := 1000000) only [tIfS, tTest, tOp, tUn, tCB, tCons, tNil, tVar, tC, rI0, rI, rU, rEq, rNe, tRet, tRetN, tAsg, gName, gSub, tBM, tBM0, tNext, tB, tNot, tAnd, tOr, tIf, tCall, tDrop, tBreak, tCont, L2.start, tDGet, sDPut, tTup, tLst, tDNewK, tRevL, rCat, rAppend, rPop, rSetL, tAndV, tOrV, tNotV, tSl, tPart, tNoPart, tM1, gTup, gCons, gNil, cxK, cxnK, List.map_cons, List.map_nil, List.length_cons, List.length_nil, List.replicate, List.cons_append, List.nil_append, List.append_nil, List.set_cons_zero, List.set_cons_succ, List.getElem?_cons_zero, List.getElem?_cons_succ, Option.some.injEq, V.ref.injEq, V.int.injEq, V.str.injEq, V.bl.injEq, V.ty.injEq, exists_eq_left', exists_eq_left, exists_and_left, List.cons.injEq, and_true, true_and, sc_ii, sc_ss, sc_bb, sc_ni, sc_in, sc_is, sc_si, sc_nn, decide_true, decide_false, reduceCtorEq, Bool.false_eq_true, if_true, if_false, ite_true, ite_false, exists_const, eq_self, false_and, and_false, or_false, false_or, exists_false, Evl.rLenS, rSum, wipe, tYes, exists_eq, exists_eq', rIxL, rIxT, rIxS, exists_and_right, gt_iff_lt, not_true_eq_false, not_false_eq_true, Bool.not_true, Bool.not_false, decide_eq_true_eq, Nat.reduceSub, Nat.reduceAdd, List.append_assoc, tChain, tDIn, tDNotIn, sDDel, tAug, ipI, rInt1_int, rInt1_bl]
    refine ⟨_, sq_t hta', .str (nmL zs (zs.length - 1)), atI_m1 (by rw [List.length_map, List.getElem?_map, nm_at (show zs.length - 1 < zs.length by omega)]; rfl) (by rw [List.length_map]; exact n1), ?_⟩
    refine seq_step ?_
    refine forL_src ?_
    refine held_row (K := K) L rfl rfl rfl hta' fun lh uh dh H24 hlh hdh hok k24 => ?_
    have k := k.trans k24
    have hRa := hRa.kp k24
    have hRb := hRb.kp k24
    refine forLC (fun j σ H' => ∃ (c16 : Option V), σ = [some (.ref a), some (.ref nl), some (.ref sl), some (.ref ta), some (.ref p1), some (.ref p2), some (.ref dl), c7, c8, some (.ref hh), some (.ref oa), some (.ref ob), c12, c13, some (.str (nmL zs 0)), some (.str (nmL zs (zs.length - 1))), c16] ∧ Kp [] H24 H') (sq_l hlh) ⟨_, rfl, Kp.refl _ _⟩ (fun j σ H' _ h => by obtain ⟨_, _, k⟩ := h; exact sq_l (k _ _ not0 hlh)) ?_ ?_
    · rintro j x σ H25 hj ⟨c16, rfl, k25⟩
      obtain ⟨d, ed, hx⟩ := hdh.get hj
      obtain ⟨sd, nh⟩ := hok d (List.mem_of_getElem? ed)
      try simp (maxSteps := 1000000) only [tSeq, tIfS, tTest, tOp, tUn, tCB, tCons, tNil, tVar, tC, rI0, rI, rU, rEq, rNe, tRet, tRetN, tAsg, gName, gSub, tBM, tBM0, tNext, tB, tNot, tAnd, tOr, tIf, tCall, tDrop, tBreak, tCont, L2.start, tDGet, sDPut, tTup, tLst, tDNewK, tRevL, rCat, rAppend, rPop, rSetL, tAndV, tOrV, tNotV, tSl, tPart, tNoPart, tM1, gTup, gCons, gNil, cxK, cxnK, List.map_cons, List.map_nil, List.length_cons, List.length_nil, List.replicate, List.cons_append, List.nil_append, List.append_nil, List.set_cons_zero, List.set_cons_succ, List.getElem?_cons_zero, List.getElem?_cons_succ, Option.some.injEq, V.ref.injEq, V.int.injEq, V.str.injEq, V.bl.injEq, V.ty.injEq, exists_eq_left', exists_eq_left, exists_and_left, List.cons.injEq, and_true, true_and, sc_ii, sc_ss, sc_bb, sc_ni, sc_in, sc_is, sc_si, sc_nn, decide_true, decide_false, reduceCtorEq, Bool.false_eq_true, if_true, if_false, ite_true, ite_false, exists_const, eq_self, false_and, and_false, or_false, false_or, exists_false, Evl.rLenS, rSum, wipe, tYes, exists_eq, exists_eq', rIxL, rIxT, rIxS, exists_and_right, gt_iff_lt, not_true_eq_false, not_false_eq_true, Bool.not_true, Bool.not_false, decide_eq_true_eq, Nat.reduceSub, Nat.reduceAdd, List.append_assoc, tChain, tDIn, tDNotIn, sDDel, tAug, ipI, rInt1_int, rInt1_bl]
      refine ⟨oa, x, d, zs, _, rfl, hRa.kp k25, hx.kp k25, sd, nh, fun H26 k26 => ⟨true, rfl, ?_⟩⟩
      rw [if_neg (by decide)]
      exact k25.trans k26
    rintro σ H25 ⟨c16, rfl, k25⟩
    have k := k.trans k25
    have hRa := hRa.kp k25
    have hRb := hRb.kp k25
    clear k24 k25 hlh hdh hok
    have hS' : Scr K H25 a ns := ⟨(k510.trans k).ls not0 hS5.1, hS.2⟩
    dsimp only
    refine seq_step ?_
    try simp (maxSteps := 1000000) only [tIfS, tTest, tOp, tUn, tCB, tCons, tNil, tVar, tC, rI0, rI, rU, rEq, rNe, tRet, tRetN, tAsg, gName, gSub, tBM, tBM0, tNext, tB, tNot, tAnd, tOr, tIf, tCall, tDrop, tBreak, tCont, L2.start, tDGet, sDPut, tTup, tLst, tDNewK, tRevL, rCat, rAppend, rPop, rSetL, tAndV, tOrV, tNotV, tSl, tPart, tNoPart, tM1, gTup, gCons, gNil, cxK, cxnK, List.map_cons, List.map_nil, List.length_cons, List.length_nil, List.replicate, List.cons_append, List.nil_append, List.append_nil, List.set_cons_zero, List.set_cons_succ, List.getElem?_cons_zero, List.getElem?_cons_succ, Option.some.injEq, V.ref.injEq, V.int.injEq, V.str.injEq, V.bl.injEq, V.ty.injEq, exists_eq_left', exists_eq_left, exists_and_left, List.cons.injEq, and_true, true_and, sc_ii, sc_ss, sc_bb, sc_ni, sc_in, sc_is, sc_si, sc_nn, decide_true, decide_false, reduceCtorEq, Bool.false_eq_true, if_true, if_false, ite_true, ite_false, exists_const, eq_self, false_and, and_false, or_false, false_or, exists_false, Evl.rLenS, rSum, wipe, tYes, exists_eq, exists_eq', rIxL, rIxT, rIxS, exists_and_right, gt_iff_lt, not_true_eq_false, not_false_eq_true, Bool.not_true, Bool.not_false, decide_eq_true_eq, Nat.reduceSub, Nat.reduceAdd, List.append_assoc, tChain, tDIn, tDNotIn, sDDel, tAug, ipI, rInt1_int, rInt1_bl]
    refine ⟨a, 4, ns, rfl, hS', fun c4 => ⟨c4, 3, 8, 45, rfl, by decide, by decide, by decide, fun l9 ds9 H26 nl9 hl9 hd9 k26 => ?_⟩⟩
    have k := k.trans k26
    have k5 := k510.trans k
    refine ⟨nl, ta, p1, l9, zs1, zs, u1, g1, ds9, rfl, k5 _ _ not0 hnl5, L1, L, k _ _ not0 hta10, k _ _ not0 hp1, hu1.mono (fun _ _ z => z.tp k.tps), hg1, lg1, hl9, hd9, fun H27 k27 => ⟨true, rfl, ?_⟩⟩
    rw [if_neg (by decide)]
    have k := k.trans k27
    have hRa := (hRa.kp k26).kp k27
    have hRb := (hRb.kp k26).kp k27
    try simp (maxSteps := 1000000) only [tSeq, tIfS, tTest, tOp, tUn, tCB, tCons, tNil, tVar, tC, rI0, rI, rU, rEq, rNe, tRet, tRetN, tAsg, gName, gSub, tBM, tBM0, tNext, tB, tNot, tAnd, tOr, tIf, tCall, tDrop, tBreak, tCont, L2.start, tDGet, sDPut, tTup, tLst, tDNewK, tRevL, rCat, rAppend, rPop, rSetL, tAndV, tOrV, tNotV, tSl, tPart, tNoPart, tM1, gTup, gCons, gNil, cxK, cxnK, List.map_cons, List.map_nil, List.length_cons, List.length_nil, List.replicate, List.cons_append, List.nil_append, List.append_nil, List.set_cons_zero, List.set_cons_succ, List.getElem?_cons_zero, List.getElem?_cons_succ, Option.some.injEq, V.ref.injEq, V.int.injEq, V.str.injEq, V.bl.injEq, V.ty.injEq, exists_eq_left', exists_eq_left, exists_and_left, List.cons.injEq, and_true, true_and, sc_ii, sc_ss, sc_bb, sc_ni, sc_in, sc_is, sc_si, sc_nn, decide_true, decide_false, reduceCtorEq, Bool.false_eq_true, if_true, if_false, ite_true, ite_false, exists_const, eq_self, false_and, and_false, or_false, false_or, exists_false, Evl.rLenS, rSum, wipe, tYes, exists_eq, exists_eq', rIxL, rIxT, rIxS, exists_and_right, gt_iff_lt, not_true_eq_false, not_false_eq_true, Bool.not_true, Bool.not_false, decide_eq_true_eq, Nat.reduceSub, Nat.reduceAdd, List.append_assoc, tChain, tDIn, tDNotIn, sDDel, tAug, ipI, rInt1_int, rInt1_bl]
    refine ⟨_, sq_l (k _ _ not0 hdl10), _, i0, go _ _ _ _ _ hRa (E1.kp k) k fun H28 k28 => ⟨true, rfl, ?_⟩⟩
    rw [if_pos rfl]
    have k := k.trans k28
    exact ⟨_, sq_l (k _ _ not0 hdl10), _, i1, go _ _ _ _ _ (hRb.kp k28) (E2.kp k) k fun H29 _ => q H29⟩
end
end My

set_option Elab.async false
set_option linter.all false
set_option maxRecDepth 100000
set_option maxHeartbeats 8000000
namespace My
open PySem L2 NdefX StX
theorem exm_sub {K : PySem.W.Frag} {S D : Addr} {b : Bool} (h1 : PySem.W.subIn K (.ref D) (.type "BaseException") = some true) (h2 : PySem.W.isClsIn K D = true) (h3 : PySem.W.typeIn K (.ref D) = some (.type "type"))
    (h4 : PySem.W.subIn K (.ref S) (.ref D) = some b) : PySem.W.exmOne K (.ref S) (.ref D) = some b := by
  have i2 : (PySem.W.clsIn K D).isSome = true := h2
  unfold PySem.W.exmOne
  simp [PySem.W.kitCls, h1, i2, h3, h4]
theorem kit_self {K : PySem.W.Frag} {S : Addr} : PySem.W.kitOne K (.ref S) (.ref S) = some true := by
  unfold PySem.W.kitOne
  rw [if_pos (beq_self_eq_true _)]
theorem kit_sub {K : PySem.W.Frag} {S D : Addr} {b : Bool} (h1 : ((Value.ref S) == (Value.ref D)) = false) (h2 : PySem.W.isClsIn K D = true) (h3 : PySem.W.typeIn K (.ref D) = some (.type "type")) (h4 : PySem.W.subIn K (.ref S) (.ref D) = some b) : PySem.W.kitOne K (.ref S) (.ref D) = some b := by
  have i2 : (PySem.W.clsIn K D).isSome = true := h2
  unfold PySem.W.kitOne
  rw [h1]
  simp [PySem.W.kitCls, i2, h3, h4]
theorem kit_ty {K : PySem.W.Frag} {S : Addr} {T : String} {b : Bool} (h1 : PySem.W.kitMeta T = true) (h4 : PySem.W.subIn K (.ref S) (.type T) = some b) : PySem.W.kitOne K (.ref S) (.type T) = some b := by
  unfold PySem.W.kitOne
  rw [if_neg (by rw [show ((Value.ref S) == (Value.type T)) = false from beq_eq_false_iff_ne.mpr (fun z => nomatch z)]; exact Bool.false_ne_true)]
  simp [PySem.W.kitCls, h1, h4]
theorem smallI_log {v : V} (h : SmallI v) : ∃ i : Int, v = .int i ∧ i.natAbs.log2 < 1920 := by
  obtain ⟨i, e, h0, h1⟩ := h
  refine ⟨i, e, ?_⟩
  by_cases e0 : i.natAbs = 0
  · rw [e0]; decide
  · rw [Nat.log2_lt e0]
    have h0 : (5000 : Nat) < 2 ^ 1920 := by decide +kernel
    omega
theorem kit_any2 {K : PySem.W.Frag} {x a b : Value} (h1 : PySem.W.kitOne K x a = some false) (h2 : PySem.W.kitOne K x b = some false) : PySem.W.kitAny K x [a, b] = some false := by
  simp [PySem.W.kitAny, h1, h2]
theorem all_mk {l : PySem.W.OpenLaw} {w : World} {K : PySem.W.Frag} {h : Heap} {mg : Str → Option Value} {fa : Addr} (X : K.In h) (G : h.Ns mainGlobals mg) (hfa : mg "law" = some (.ref fa))
    {f0 : Addr}
    {od0 an0 : Option Addr}
    {sl0 : Array (Option Value)}
    {oc0 kV0 dc0 pm0 cd0 ct0 : Value}
    {f1 : Addr}
    {od1 an1 : Option Addr}
    {sl1 : Array (Option Value)}
    {oc1 kV1 dc1 pm1 cd1 ct1 : Value}
    {f2 : Addr}
    {od2 an2 : Option Addr}
    {sl2 : Array (Option Value)}
    {oc2 kV2 dc2 pm2 cd2 ct2 : Value}
    {f3 : Addr}
    {od3 an3 : Option Addr}
    {sl3 : Array (Option Value)}
    {oc3 kV3 dc3 pm3 cd3 ct3 : Value}
    {f4 : Addr}
    {od4 an4 : Option Addr}
    {sl4 : Array (Option Value)}
    {oc4 kV4 dc4 pm4 cd4 ct4 : Value}
    {f5 : Addr}
    {od5 an5 : Option Addr}
    {sl5 : Array (Option Value)}
    {oc5 kV5 dc5 pm5 cd5 ct5 : Value}
    {f6 : Addr}
    {od6 an6 : Option Addr}
    {sl6 : Array (Option Value)}
    {oc6 kV6 dc6 pm6 cd6 ct6 : Value}
    {f7 : Addr}
    {od7 an7 : Option Addr}
    {sl7 : Array (Option Value)}
    {oc7 kV7 dc7 pm7 cd7 ct7 : Value}
    {f8 : Addr}
    {od8 an8 : Option Addr}
    {sl8 : Array (Option Value)}
    {oc8 kV8 dc8 pm8 cd8 ct8 : Value}
    {f9 : Addr}
    {od9 an9 : Option Addr}
    {sl9 : Array (Option Value)}
    {oc9 kV9 dc9 pm9 cd9 ct9 : Value}
    {f10 : Addr}
    {od10 an10 : Option Addr}
    {sl10 : Array (Option Value)}
    {oc10 kV10 dc10 pm10 cd10 ct10 : Value}
    {f11 : Addr}
    {od11 an11 : Option Addr}
    {sl11 : Array (Option Value)}
    {oc11 kV11 dc11 pm11 cd11 ct11 : Value}
    {f12 : Addr}
    {od12 an12 : Option Addr}
    {sl12 : Array (Option Value)}
    {oc12 kV12 dc12 pm12 cd12 ct12 : Value}
    {f13 : Addr}
    {od13 an13 : Option Addr}
    {sl13 : Array (Option Value)}
    {oc13 kV13 dc13 pm13 cd13 ct13 : Value}
    {f14 : Addr}
    {od14 an14 : Option Addr}
    {sl14 : Array (Option Value)}
    {oc14 kV14 dc14 pm14 cd14 ct14 : Value}
    {f15 : Addr}
    {od15 an15 : Option Addr}
    {sl15 : Array (Option Value)}
    {oc15 kV15 dc15 pm15 cd15 ct15 : Value}
    {f16 : Addr}
    {od16 an16 : Option Addr}
    {sl16 : Array (Option Value)}
    {oc16 kV16 dc16 pm16 cd16 ct16 : Value}
    {f17 : Addr}
    {od17 an17 : Option Addr}
    {sl17 : Array (Option Value)}
    {oc17 kV17 dc17 pm17 cd17 ct17 : Value}
    {f18 : Addr}
    {od18 an18 : Option Addr}
    {sl18 : Array (Option Value)}
    {oc18 kV18 dc18 pm18 cd18 ct18 : Value}
    {f19 : Addr}
    {od19 an19 : Option Addr}
    {sl19 : Array (Option Value)}
    {oc19 kV19 dc19 pm19 cd19 ct19 : Value}
    {f20 : Addr}
    {od20 an20 : Option Addr}
    {sl20 : Array (Option Value)}
    {oc20 kV20 dc20 pm20 cd20 ct20 : Value}
    {f21 : Addr}
    {od21 an21 : Option Addr}
    {sl21 : Array (Option Value)}
    {oc21 kV21 dc21 pm21 cd21 ct21 : Value}
    {f22 : Addr}
    {od22 an22 : Option Addr}
    {sl22 : Array (Option Value)}
    {oc22 kV22 dc22 pm22 cd22 ct22 : Value}
    {f23 : Addr}
    {od23 an23 : Option Addr}
    {sl23 : Array (Option Value)}
    {oc23 kV23 dc23 pm23 cd23 ct23 : Value}
    {f24 : Addr}
    {od24 an24 : Option Addr}
    {sl24 : Array (Option Value)}
    {oc24 kV24 dc24 pm24 cd24 ct24 : Value}
    {f25 : Addr}
    {od25 an25 : Option Addr}
    {sl25 : Array (Option Value)}
    {oc25 kV25 dc25 pm25 cd25 ct25 : Value}
    {sL : Str}
    {tL : Tok}
    {tX3 : Tok}
    {OL feO ccO cdaO NO : Addr}
    {nmO qnO fileO : Str}
    {bsO bmO sbO : List Value}
    {snO : List Str}
    {abO : Bool}
    {coO : Option Bool}
    {ddO odO anO cdO ceO : Option Addr}
    {m0O m1O m2O m3O m5O : Option Value}
    {vsO : Array Value}
    {tfO : Tok}
    {slO csO czO : Array (Option Value)}
    {ocO kVO dcO pmO ctO clO cxO : Value}
    {TL feG ccG cdaG NG : Addr}
    {nmG qnG fileG : Str}
    {bsG bmG sbG : List Value}
    {snG : List Str}
    {abG : Bool}
    {coG : Option Bool}
    {ddG odG anG cdG ceG : Option Addr}
    {m0G m1G m2G m3G m5G : Option Value}
    {vsG : Array Value}
    {tfG : Tok}
    {slG csG czG : Array (Option Value)}
    {ocG kVG dcG pmG ctG clG cxG : Value}
    {BN feN ccN cdaN NN : Addr}
    {nmN qnN fileN : Str}
    {bsN bmN sbN : List Value}
    {snN : List Str}
    {abN : Bool}
    {coN : Option Bool}
    {ddN odN anN cdN ceN : Option Addr}
    {m0N m1N m2N m3N m5N : Option Value}
    {vsN : Array Value}
    {tfN : Tok}
    {slN csN czN : Array (Option Value)}
    {ocN kVN dcN pmN ctN clN cxN : Value}
    {BE feE ccE cdaE NE : Addr}
    {nmE qnE fileE : Str}
    {bsE bmE sbE : List Value}
    {snE : List Str}
    {abE : Bool}
    {coE : Option Bool}
    {ddE odE anE cdE ceE : Option Addr}
    {m0E m1E m2E m3E m5E : Option Value}
    {vsE : Array Value}
    {tfE : Tok}
    {slE csE czE : Array (Option Value)}
    {ocE kVE dcE pmE ctE clE cxE : Value}
    {CE : Addr}
    {RC : Addr}
    {TD de : Addr}
    {dtD dtE : Option Addr}
    {itsD itsE : Array Value}
    {ntD ntE : Nat}
    {sqD sqE : Array (Option Value)}
    {tcD : Value}
    {fTI : Addr}
    {odTI anTI : Option Addr}
    {slTI : Array (Option Value)}
    {ocTI kVTI dcTI pmTI cdTI ctTI : Value}
    {fTN : Addr}
    {odTN anTN : Option Addr}
    {slTN : Array (Option Value)}
    {ocTN kVTN dcTN pmTN cdTN ctTN : Value}
    {fTT : Addr}
    {odTT anTT : Option Addr}
    {slTT : Array (Option Value)}
    {ocTT kVTT dcTT pmTT cdTT ctTT : Value}
    {fTG : Addr}
    {odTG anTG : Option Addr}
    {slTG : Array (Option Value)}
    {ocTG kVTG dcTG pmTG cdTG ctTG : Value}
    {fTC : Addr}
    {odTC anTC : Option Addr}
    {slTC : Array (Option Value)}
    {ocTC kVTC dcTC pmTC cdTC ctTC : Value}
    {fTA : Addr}
    {odTA anTA : Option Addr}
    {slTA : Array (Option Value)}
    {ocTA kVTA dcTA pmTA cdTA ctTA : Value}
    {fTO : Addr}
    {odTO anTO : Option Addr}
    {slTO : Array (Option Value)}
    {ocTO kVTO dcTO pmTO cdTO ctTO : Value}
    {fTS : Addr}
    {odTS anTS : Option Addr}
    {slTS : Array (Option Value)}
    {ocTS kVTS dcTS pmTS cdTS ctTS : Value}
    {fTK : Addr}
    {odTK anTK : Option Addr}
    {slTK : Array (Option Value)}
    {ocTK kVTK dcTK pmTK cdTK ctTK : Value}
    (a0 : PySem.W.nsIn K mainGlobals "is_name" = some (some (.ref f0)))
    (l0 : K.lookup f0 = some ⟨oc0, od0, .func (PySem.W.fnOf "is_name" "is_name" (defArgs s_is_name) (defBody s_is_name) (defScope s_is_name) .none kV0 dc0 pm0 an0 cd0 ct0), sl0⟩)
    (c0 : PySem.W.codeIn K cd0 "is_name" = true)
    (k0 : PySem.W.keepIn K (.ref f0) = true)
    (a1 : PySem.W.nsIn K mainGlobals "all_held" = some (some (.ref f1)))
    (l1 : K.lookup f1 = some ⟨oc1, od1, .func (PySem.W.fnOf "all_held" "all_held" (defArgs s_all_held) (defBody s_all_held) (defScope s_all_held) .none kV1 dc1 pm1 an1 cd1 ct1), sl1⟩)
    (c1 : PySem.W.codeIn K cd1 "all_held" = true)
    (k1 : PySem.W.keepIn K (.ref f1) = true)
    (a2 : PySem.W.nsIn K mainGlobals "all_entries" = some (some (.ref f2)))
    (l2 : K.lookup f2 = some ⟨oc2, od2, .func (PySem.W.fnOf "all_entries" "all_entries" (defArgs s_all_entries) (defBody s_all_entries) (defScope s_all_entries) .none kV2 dc2 pm2 an2 cd2 ct2), sl2⟩)
    (c2 : PySem.W.codeIn K cd2 "all_entries" = true)
    (k2 : PySem.W.keepIn K (.ref f2) = true)
    (a3 : PySem.W.nsIn K mainGlobals "names_ahead" = some (some (.ref f3)))
    (l3 : K.lookup f3 = some ⟨oc3, od3, .func (PySem.W.fnOf "names_ahead" "names_ahead" (defArgs s_names_ahead) (defBody s_names_ahead) (defScope s_names_ahead) .none kV3 dc3 pm3 an3 cd3 ct3), sl3⟩)
    (c3 : PySem.W.codeIn K cd3 "names_ahead" = true)
    (k3 : PySem.W.keepIn K (.ref f3) = true)
    (a4 : PySem.W.nsIn K mainGlobals "check_same_locks" = some (some (.ref f4)))
    (l4 : K.lookup f4 = some ⟨oc4, od4, .func (PySem.W.fnOf "check_same_locks" "check_same_locks" (defArgs s_check_same_locks) (defBody s_check_same_locks) (defScope s_check_same_locks) .none kV4 dc4 pm4 an4 cd4 ct4), sl4⟩)
    (c4 : PySem.W.codeIn K cd4 "check_same_locks" = true)
    (k4 : PySem.W.keepIn K (.ref f4) = true)
    (a5 : PySem.W.nsIn K mainGlobals "_law_cell" = some (some (.ref f5)))
    (l5 : K.lookup f5 = some ⟨oc5, od5, .func (PySem.W.fnOf "_law_cell" "_law_cell" (defArgs s_law_cell) (defBody s_law_cell) (defScope s_law_cell) .none kV5 dc5 pm5 an5 cd5 ct5), sl5⟩)
    (c5 : PySem.W.codeIn K cd5 "_law_cell" = true)
    (k5 : PySem.W.keepIn K (.ref f5) = true)
    (a6 : PySem.W.nsIn K mainGlobals "_law_mixed" = some (some (.ref f6)))
    (l6 : K.lookup f6 = some ⟨oc6, od6, .func (PySem.W.fnOf "_law_mixed" "_law_mixed" (defArgs s_law_mixed) (defBody s_law_mixed) (defScope s_law_mixed) .none kV6 dc6 pm6 an6 cd6 ct6), sl6⟩)
    (c6 : PySem.W.codeIn K cd6 "_law_mixed" = true)
    (k6 : PySem.W.keepIn K (.ref f6) = true)
    (a7 : PySem.W.nsIn K mainGlobals "_law_draws" = some (some (.ref f7)))
    (l7 : K.lookup f7 = some ⟨oc7, od7, .func (PySem.W.fnOf "_law_draws" "_law_draws" (defArgs s_law_draws) (defBody s_law_draws) (defScope s_law_draws) .none kV7 dc7 pm7 an7 cd7 ct7), sl7⟩)
    (c7 : PySem.W.codeIn K cd7 "_law_draws" = true)
    (k7 : PySem.W.keepIn K (.ref f7) = true)
    (a8 : PySem.W.nsIn K mainGlobals "_law_names" = some (some (.ref f8)))
    (l8 : K.lookup f8 = some ⟨oc8, od8, .func (PySem.W.fnOf "_law_names" "_law_names" (defArgs s_law_names) (defBody s_law_names) (defScope s_law_names) .none kV8 dc8 pm8 an8 cd8 ct8), sl8⟩)
    (c8 : PySem.W.codeIn K cd8 "_law_names" = true)
    (k8 : PySem.W.keepIn K (.ref f8) = true)
    (a9 : PySem.W.nsIn K mainGlobals "_law_helds" = some (some (.ref f9)))
    (l9 : K.lookup f9 = some ⟨oc9, od9, .func (PySem.W.fnOf "_law_helds" "_law_helds" (defArgs s_law_helds) (defBody s_law_helds) (defScope s_law_helds) .none kV9 dc9 pm9 an9 cd9 ct9), sl9⟩)
    (c9 : PySem.W.codeIn K cd9 "_law_helds" = true)
    (k9 : PySem.W.keepIn K (.ref f9) = true)
    (a10 : PySem.W.nsIn K mainGlobals "_law_entries" = some (some (.ref f10)))
    (l10 : K.lookup f10 = some ⟨oc10, od10, .func (PySem.W.fnOf "_law_entries" "_law_entries" (defArgs s_law_entries) (defBody s_law_entries) (defScope s_law_entries) .none kV10 dc10 pm10 an10 cd10 ct10), sl10⟩)
    (c10 : PySem.W.codeIn K cd10 "_law_entries" = true)
    (k10 : PySem.W.keepIn K (.ref f10) = true)
    (a11 : PySem.W.nsIn K mainGlobals "_law_list" = some (some (.ref f11)))
    (l11 : K.lookup f11 = some ⟨oc11, od11, .func (PySem.W.fnOf "_law_list" "_law_list" (defArgs s_law_list) (defBody s_law_list) (defScope s_law_list) .none kV11 dc11 pm11 an11 cd11 ct11), sl11⟩)
    (c11 : PySem.W.codeIn K cd11 "_law_list" = true)
    (k11 : PySem.W.keepIn K (.ref f11) = true)
    (a12 : PySem.W.nsIn K mainGlobals "_law_is_rule" = some (some (.ref f12)))
    (l12 : K.lookup f12 = some ⟨oc12, od12, .func (PySem.W.fnOf "_law_is_rule" "_law_is_rule" (defArgs s_law_is_rule) (defBody s_law_is_rule) (defScope s_law_is_rule) .none kV12 dc12 pm12 an12 cd12 ct12), sl12⟩)
    (c12 : PySem.W.codeIn K cd12 "_law_is_rule" = true)
    (k12 : PySem.W.keepIn K (.ref f12) = true)
    (a13 : PySem.W.nsIn K mainGlobals "_law_stays" = some (some (.ref f13)))
    (l13 : K.lookup f13 = some ⟨oc13, od13, .func (PySem.W.fnOf "_law_stays" "_law_stays" (defArgs s_law_stays) (defBody s_law_stays) (defScope s_law_stays) .none kV13 dc13 pm13 an13 cd13 ct13), sl13⟩)
    (c13 : PySem.W.codeIn K cd13 "_law_stays" = true)
    (k13 : PySem.W.keepIn K (.ref f13) = true)
    (a14 : PySem.W.nsIn K mainGlobals "_law_signs" = some (some (.ref f14)))
    (l14 : K.lookup f14 = some ⟨oc14, od14, .func (PySem.W.fnOf "_law_signs" "_law_signs" (defArgs s_law_signs) (defBody s_law_signs) (defScope s_law_signs) .none kV14 dc14 pm14 an14 cd14 ct14), sl14⟩)
    (c14 : PySem.W.codeIn K cd14 "_law_signs" = true)
    (k14 : PySem.W.keepIn K (.ref f14) = true)
    (a15 : PySem.W.nsIn K mainGlobals "_law_refused" = some (some (.ref f15)))
    (l15 : K.lookup f15 = some ⟨oc15, od15, .func (PySem.W.fnOf "_law_refused" "_law_refused" (defArgs s_law_refused) (defBody s_law_refused) (defScope s_law_refused) .none kV15 dc15 pm15 an15 cd15 ct15), sl15⟩)
    (c15 : PySem.W.codeIn K cd15 "_law_refused" = true)
    (k15 : PySem.W.keepIn K (.ref f15) = true)
    (a16 : PySem.W.nsIn K mainGlobals "_law_stranger" = some (some (.ref f16)))
    (l16 : K.lookup f16 = some ⟨oc16, od16, .func (PySem.W.fnOf "_law_stranger" "_law_stranger" (defArgs s_law_stranger) (defBody s_law_stranger) (defScope s_law_stranger) .none kV16 dc16 pm16 an16 cd16 ct16), sl16⟩)
    (c16 : PySem.W.codeIn K cd16 "_law_stranger" = true)
    (k16 : PySem.W.keepIn K (.ref f16) = true)
    (a17 : PySem.W.nsIn K mainGlobals "_law_others" = some (some (.ref f17)))
    (l17 : K.lookup f17 = some ⟨oc17, od17, .func (PySem.W.fnOf "_law_others" "_law_others" (defArgs s_law_others) (defBody s_law_others) (defScope s_law_others) .none kV17 dc17 pm17 an17 cd17 ct17), sl17⟩)
    (c17 : PySem.W.codeIn K cd17 "_law_others" = true)
    (k17 : PySem.W.keepIn K (.ref f17) = true)
    (a18 : PySem.W.nsIn K mainGlobals "_law_told" = some (some (.ref f18)))
    (l18 : K.lookup f18 = some ⟨oc18, od18, .func (PySem.W.fnOf "_law_told" "_law_told" (defArgs s_law_told) (defBody s_law_told) (defScope s_law_told) .none kV18 dc18 pm18 an18 cd18 ct18), sl18⟩)
    (c18 : PySem.W.codeIn K cd18 "_law_told" = true)
    (k18 : PySem.W.keepIn K (.ref f18) = true)
    (a19 : PySem.W.nsIn K mainGlobals "_law_is_name" = some (some (.ref f19)))
    (l19 : K.lookup f19 = some ⟨oc19, od19, .func (PySem.W.fnOf "_law_is_name" "_law_is_name" (defArgs s_law_is_name) (defBody s_law_is_name) (defScope s_law_is_name) .none kV19 dc19 pm19 an19 cd19 ct19), sl19⟩)
    (c19 : PySem.W.codeIn K cd19 "_law_is_name" = true)
    (k19 : PySem.W.keepIn K (.ref f19) = true)
    (a20 : PySem.W.nsIn K mainGlobals "_law_reading" = some (some (.ref f20)))
    (l20 : K.lookup f20 = some ⟨oc20, od20, .func (PySem.W.fnOf "_law_reading" "_law_reading" (defArgs s_law_reading) (defBody s_law_reading) (defScope s_law_reading) .none kV20 dc20 pm20 an20 cd20 ct20), sl20⟩)
    (c20 : PySem.W.codeIn K cd20 "_law_reading" = true)
    (k20 : PySem.W.keepIn K (.ref f20) = true)
    (a21 : PySem.W.nsIn K mainGlobals "_law_bad_name" = some (some (.ref f21)))
    (l21 : K.lookup f21 = some ⟨oc21, od21, .func (PySem.W.fnOf "_law_bad_name" "_law_bad_name" (defArgs s_law_bad_name) (defBody s_law_bad_name) (defScope s_law_bad_name) .none kV21 dc21 pm21 an21 cd21 ct21), sl21⟩)
    (c21 : PySem.W.codeIn K cd21 "_law_bad_name" = true)
    (k21 : PySem.W.keepIn K (.ref f21) = true)
    (a22 : PySem.W.nsIn K mainGlobals "_law_bad_entry" = some (some (.ref f22)))
    (l22 : K.lookup f22 = some ⟨oc22, od22, .func (PySem.W.fnOf "_law_bad_entry" "_law_bad_entry" (defArgs s_law_bad_entry) (defBody s_law_bad_entry) (defScope s_law_bad_entry) .none kV22 dc22 pm22 an22 cd22 ct22), sl22⟩)
    (c22 : PySem.W.codeIn K cd22 "_law_bad_entry" = true)
    (k22 : PySem.W.keepIn K (.ref f22) = true)
    (a23 : PySem.W.nsIn K mainGlobals "_law_no_held" = some (some (.ref f23)))
    (l23 : K.lookup f23 = some ⟨oc23, od23, .func (PySem.W.fnOf "_law_no_held" "_law_no_held" (defArgs s_law_no_held) (defBody s_law_no_held) (defScope s_law_no_held) .none kV23 dc23 pm23 an23 cd23 ct23), sl23⟩)
    (c23 : PySem.W.codeIn K cd23 "_law_no_held" = true)
    (k23 : PySem.W.keepIn K (.ref f23) = true)
    (a24 : PySem.W.nsIn K mainGlobals "_law_refusals" = some (some (.ref f24)))
    (l24 : K.lookup f24 = some ⟨oc24, od24, .func (PySem.W.fnOf "_law_refusals" "_law_refusals" (defArgs s_law_refusals) (defBody s_law_refusals) (defScope s_law_refusals) .none kV24 dc24 pm24 an24 cd24 ct24), sl24⟩)
    (c24 : PySem.W.codeIn K cd24 "_law_refusals" = true)
    (k24 : PySem.W.keepIn K (.ref f24) = true)
    (a25 : PySem.W.nsIn K mainGlobals "law" = some (some (.ref f25)))
    (l25 : K.lookup f25 = some ⟨oc25, od25, .func (PySem.W.fnOf "law" "law" (defArgs s_law) (defBody s_law) (defScope s_law) .none kV25 dc25 pm25 an25 cd25 ct25), sl25⟩)
    (c25 : PySem.W.codeIn K cd25 "law" = true)
    (k25 : PySem.W.keepIn K (.ref f25) = true)
    (z_isinstance : PySem.W.nsIn K mainGlobals "isinstance" = some none)
    (z_str : PySem.W.nsIn K mainGlobals "str" = some none)
    (z_tuple : PySem.W.nsIn K mainGlobals "tuple" = some none)
    (z_list : PySem.W.nsIn K mainGlobals "list" = some none)
    (z_len : PySem.W.nsIn K mainGlobals "len" = some none)
    (z_all : PySem.W.nsIn K mainGlobals "all" = some none)
    (z_iter : PySem.W.nsIn K mainGlobals "iter" = some none)
    (z_enumerate : PySem.W.nsIn K mainGlobals "enumerate" = some none)
    (z_int : PySem.W.nsIn K mainGlobals "int" = some none)
    (z_range : PySem.W.nsIn K mainGlobals "range" = some none)
    (z_sorted : PySem.W.nsIn K mainGlobals "sorted" = some none)
    (z_super : PySem.W.nsIn K mainGlobals "super" = some none)
    (z_ValueError : PySem.W.nsIn K mainGlobals "ValueError" = some none)
    (z_repr : PySem.W.nsIn K mainGlobals "repr" = some none)
    (gL : PySem.W.nsIn K mainGlobals "LETTERS" = some (some (.str sL tL)))
    (eL : sL = lets)
    (gX3 : PySem.W.nsIn K mainGlobals "MOST_LOCKS" = some (some (.int 3 tX3)))
    (aO : PySem.W.nsIn K mainGlobals "OtherLocks" = some (some (.ref OL)))
    (xO : K.lookup OL = some (excClassObj nmO qnO OL NO bsO bmO true snO sbO abO coO ddO m0O m1O m2O m3O m5O "ValueError.__new__"))
    (rO : PySem.HandSPX.refsVE bmO = true)
    (b1O : PySem.W.findIn K (.ref OL) "__setattr__" = some (some (.builtin "object.__setattr__")))
    (q1O : PySem.W.subIn K (.ref OL) (.type "BaseException") = some true)
    (q2O : PySem.W.isClsIn K OL = true)
    (q3O : PySem.W.typeIn K (.ref OL) = some (.type "type"))
    (b4O : PySem.W.keepIn K (.ref OL) = true)
    (b5O : PySem.W.findIn K (.ref OL) "__init__" = some (some (.ref feO)))
    (b6O : PySem.W.typeIn K (.ref feO) = some (.type "function"))
    (lO : K.lookup feO = some ⟨ocO, odO, .func (PySem.W.fnX "__init__" "OtherLocks.__init__" (defArgs s_OtherLocks_init) (defBody s_OtherLocks_init) (defScope s_OtherLocks_init) [("__class__", ccO)] .none kVO dcO pmO anO (.ref cdaO) ctO), slO⟩)
    (cO : PySem.W.codeIn K (.ref cdaO) "OtherLocks.__init__" = true)
    (kO : PySem.W.keepIn K (.ref feO) = true)
    (eO : K.lookup ccO = some ⟨clO, cdO, .cell (some (.ref OL)), csO⟩)
    (b7O : PySem.W.ks_superIn K OL OL "__init__" = some (some (.builtin "ValueError.__init__")))
    (b8O : PySem.W.subIn K (.ref OL) (.type "ValueError") = some true)
    (b9 : PySem.W.nsIn K cStatics "thirdparty.any" = some none)
    (b14 : (l.prog.main.scope.names.lookup ("super" : Str)).isSome = false)
    (b31 : PySem.W.kitMeta "ValueError" = true)
    (p12 : PySem.W.specialIn K (.builtin "object.__class__") "__get__" = some (some (.builtin "getset_descriptor.__get__")))
    (p13 : PySem.W.takesIn K (.builtin "object.__class__") = some true)
    (b10O : PySem.W.mroIn K OL (.ref OL) = some true)
    (b11O : K.lookup cdaO = some ⟨cxO, ceO, .fields vsO, czO⟩)
    (b12O : vsO[2]? = some (.str fileO tfO))
    (b13O : ((l.prog.main.file : Str) == fileO) = true)
    (b17O : PySem.W.findIn K (.ref OL) "__getattribute__" = some (some (.builtin "BaseException.__getattribute__")))
    (b18O : PySem.W.findIn K (.ref OL) "__getattr__" = some none)
    (b19O : PySem.W.hasDictIn K OL = true)
    (b25O : PySem.W.findIn K (.ref OL) "__class__" = some (some (.builtin "object.__class__")))
    (b26O : PySem.W.mroIn K OL (.type "object") = some true)
    (aG : PySem.W.nsIn K mainGlobals "TooLarge" = some (some (.ref TL)))
    (xG : K.lookup TL = some (excClassObj nmG qnG TL NG bsG bmG true snG sbG abG coG ddG m0G m1G m2G m3G m5G "ValueError.__new__"))
    (rG : PySem.HandSPX.refsVE bmG = true)
    (b1G : PySem.W.findIn K (.ref TL) "__setattr__" = some (some (.builtin "object.__setattr__")))
    (q1G : PySem.W.subIn K (.ref TL) (.type "BaseException") = some true)
    (q2G : PySem.W.isClsIn K TL = true)
    (q3G : PySem.W.typeIn K (.ref TL) = some (.type "type"))
    (b4G : PySem.W.keepIn K (.ref TL) = true)
    (b5G : PySem.W.findIn K (.ref TL) "__init__" = some (some (.ref feG)))
    (b6G : PySem.W.typeIn K (.ref feG) = some (.type "function"))
    (lG : K.lookup feG = some ⟨ocG, odG, .func (PySem.W.fnX "__init__" "TooLarge.__init__" (defArgs s_TooLarge_init) (defBody s_TooLarge_init) (defScope s_TooLarge_init) [("__class__", ccG)] .none kVG dcG pmG anG (.ref cdaG) ctG), slG⟩)
    (cG : PySem.W.codeIn K (.ref cdaG) "TooLarge.__init__" = true)
    (kG : PySem.W.keepIn K (.ref feG) = true)
    (eG : K.lookup ccG = some ⟨clG, cdG, .cell (some (.ref TL)), csG⟩)
    (b7G : PySem.W.ks_superIn K TL TL "__init__" = some (some (.builtin "ValueError.__init__")))
    (b8G : PySem.W.subIn K (.ref TL) (.type "ValueError") = some true)
    (b10G : PySem.W.mroIn K TL (.ref TL) = some true)
    (b11G : K.lookup cdaG = some ⟨cxG, ceG, .fields vsG, czG⟩)
    (b12G : vsG[2]? = some (.str fileG tfG))
    (b13G : ((l.prog.main.file : Str) == fileG) = true)
    (b15G : PySem.W.findIn K (.ref TL) "bound" = some none)
    (b17G : PySem.W.findIn K (.ref TL) "__getattribute__" = some (some (.builtin "BaseException.__getattribute__")))
    (b18G : PySem.W.findIn K (.ref TL) "__getattr__" = some none)
    (b19G : PySem.W.hasDictIn K TL = true)
    (b25G : PySem.W.findIn K (.ref TL) "__class__" = some (some (.builtin "object.__class__")))
    (b26G : PySem.W.mroIn K TL (.type "object") = some true)
    (aN : PySem.W.nsIn K mainGlobals "BadName" = some (some (.ref BN)))
    (xN : K.lookup BN = some (excClassObj nmN qnN BN NN bsN bmN true snN sbN abN coN ddN m0N m1N m2N m3N m5N "ValueError.__new__"))
    (rN : PySem.HandSPX.refsVE bmN = true)
    (b1N : PySem.W.findIn K (.ref BN) "__setattr__" = some (some (.builtin "object.__setattr__")))
    (q1N : PySem.W.subIn K (.ref BN) (.type "BaseException") = some true)
    (q2N : PySem.W.isClsIn K BN = true)
    (q3N : PySem.W.typeIn K (.ref BN) = some (.type "type"))
    (b4N : PySem.W.keepIn K (.ref BN) = true)
    (b5N : PySem.W.findIn K (.ref BN) "__init__" = some (some (.ref feN)))
    (b6N : PySem.W.typeIn K (.ref feN) = some (.type "function"))
    (lN : K.lookup feN = some ⟨ocN, odN, .func (PySem.W.fnX "__init__" "BadName.__init__" (defArgs s_BadName_init) (defBody s_BadName_init) (defScope s_BadName_init) [("__class__", ccN)] .none kVN dcN pmN anN (.ref cdaN) ctN), slN⟩)
    (cN : PySem.W.codeIn K (.ref cdaN) "BadName.__init__" = true)
    (kN : PySem.W.keepIn K (.ref feN) = true)
    (eN : K.lookup ccN = some ⟨clN, cdN, .cell (some (.ref BN)), csN⟩)
    (b7N : PySem.W.ks_superIn K BN BN "__init__" = some (some (.builtin "ValueError.__init__")))
    (b8N : PySem.W.subIn K (.ref BN) (.type "ValueError") = some true)
    (b10N : PySem.W.mroIn K BN (.ref BN) = some true)
    (b11N : K.lookup cdaN = some ⟨cxN, ceN, .fields vsN, czN⟩)
    (b12N : vsN[2]? = some (.str fileN tfN))
    (b13N : ((l.prog.main.file : Str) == fileN) = true)
    (b15N : PySem.W.findIn K (.ref BN) "name" = some none)
    (b17N : PySem.W.findIn K (.ref BN) "__getattribute__" = some (some (.builtin "BaseException.__getattribute__")))
    (b18N : PySem.W.findIn K (.ref BN) "__getattr__" = some none)
    (b19N : PySem.W.hasDictIn K BN = true)
    (b25N : PySem.W.findIn K (.ref BN) "__class__" = some (some (.builtin "object.__class__")))
    (b26N : PySem.W.mroIn K BN (.type "object") = some true)
    (aE : PySem.W.nsIn K mainGlobals "BadEntry" = some (some (.ref BE)))
    (xE : K.lookup BE = some (excClassObj nmE qnE BE NE bsE bmE true snE sbE abE coE ddE m0E m1E m2E m3E m5E "ValueError.__new__"))
    (rE : PySem.HandSPX.refsVE bmE = true)
    (b1E : PySem.W.findIn K (.ref BE) "__setattr__" = some (some (.builtin "object.__setattr__")))
    (q1E : PySem.W.subIn K (.ref BE) (.type "BaseException") = some true)
    (q2E : PySem.W.isClsIn K BE = true)
    (q3E : PySem.W.typeIn K (.ref BE) = some (.type "type"))
    (b4E : PySem.W.keepIn K (.ref BE) = true)
    (b5E : PySem.W.findIn K (.ref BE) "__init__" = some (some (.ref feE)))
    (b6E : PySem.W.typeIn K (.ref feE) = some (.type "function"))
    (lE : K.lookup feE = some ⟨ocE, odE, .func (PySem.W.fnX "__init__" "BadEntry.__init__" (defArgs s_BadEntry_init) (defBody s_BadEntry_init) (defScope s_BadEntry_init) [("__class__", ccE)] .none kVE dcE pmE anE (.ref cdaE) ctE), slE⟩)
    (cE : PySem.W.codeIn K (.ref cdaE) "BadEntry.__init__" = true)
    (kE : PySem.W.keepIn K (.ref feE) = true)
    (eE : K.lookup ccE = some ⟨clE, cdE, .cell (some (.ref BE)), csE⟩)
    (b7E : PySem.W.ks_superIn K BE BE "__init__" = some (some (.builtin "ValueError.__init__")))
    (b8E : PySem.W.subIn K (.ref BE) (.type "ValueError") = some true)
    (b10E : PySem.W.mroIn K BE (.ref BE) = some true)
    (b11E : K.lookup cdaE = some ⟨cxE, ceE, .fields vsE, czE⟩)
    (b12E : vsE[2]? = some (.str fileE tfE))
    (b13E : ((l.prog.main.file : Str) == fileE) = true)
    (b15E : PySem.W.findIn K (.ref BE) "entry" = some none)
    (b17E : PySem.W.findIn K (.ref BE) "__getattribute__" = some (some (.builtin "BaseException.__getattribute__")))
    (b18E : PySem.W.findIn K (.ref BE) "__getattr__" = some none)
    (b19E : PySem.W.hasDictIn K BE = true)
    (b25E : PySem.W.findIn K (.ref BE) "__class__" = some (some (.builtin "object.__class__")))
    (b26E : PySem.W.mroIn K BE (.type "object") = some true)
    (aC : PySem.W.nsIn K mainGlobals "CoreError" = some (some (.ref CE)))
    (q1C : PySem.W.subIn K (.ref CE) (.type "BaseException") = some true)
    (q2C : PySem.W.isClsIn K CE = true)
    (q3C : PySem.W.typeIn K (.ref CE) = some (.type "type"))
    (sOC : PySem.W.subIn K (.ref OL) (.ref CE) = some true)
    (sOE : PySem.W.subIn K (.ref OL) (.ref BE) = some false)
    (sON : PySem.W.subIn K (.ref OL) (.ref BN) = some false)
    (sEE : PySem.W.subIn K (.ref BE) (.ref BE) = some true)
    (sEC : PySem.W.subIn K (.ref BE) (.ref CE) = some true)
    (sEN : PySem.W.subIn K (.ref BE) (.ref BN) = some false)
    (sEO : PySem.W.subIn K (.ref BE) (.ref OL) = some false)
    (sGG : PySem.W.subIn K (.ref TL) (.ref TL) = some true)
    (sNG : PySem.W.subIn K (.ref BN) (.ref TL) = some false)
    (sNN : PySem.W.subIn K (.ref BN) (.ref BN) = some true)
    (sEG : PySem.W.subIn K (.ref BE) (.ref TL) = some false)
    (eOE : ((Value.ref OL) == (Value.ref BE)) = false)
    (eON : ((Value.ref OL) == (Value.ref BN)) = false)
    (eEC : ((Value.ref BE) == (Value.ref CE)) = false)
    (eEN : ((Value.ref BE) == (Value.ref BN)) = false)
    (eEO : ((Value.ref BE) == (Value.ref OL)) = false)
    (aT : PySem.W.nsIn K mainGlobals "Rule" = some (some (.ref RC)))
    (p1T : PySem.W.plainGet K RC Str.empty = true)
    (p2T : PySem.W.hasDictIn K RC = true)
    (p3T : PySem.W.plainOver K RC = true)
    (p4T : PySem.W.findIn K (.ref RC) "__setattr__" = some (some (.builtin "object.__setattr__")))
    (n0T : PySem.W.findIn K (.ref RC) "_locks" = some none)
    (n1T : PySem.W.findIn K (.ref RC) "_entries" = some none)
    (p9T : PySem.W.keepIn K (.ref RC) = true)
    (p5T : PySem.W.makesIn K RC = true)
    (p6T : PySem.W.selfFirst K RC = true)
    (haT : PySem.W.findIn K (.ref RC) "__class__" = some (some (.builtin "object.__class__")))
    (hmT : PySem.W.mroIn K RC (.type "object") = some true)
    (mTI : PySem.W.findIn K (.ref RC) "__init__" = some (some (.ref fTI)))
    (hTI : PySem.W.isFn K (.ref fTI) = true)
    (lTI : K.lookup fTI = some ⟨ocTI, odTI, .func (PySem.W.fnOf "__init__" "Rule.__init__" (defArgs s_Rule_init) (defBody s_Rule_init) (defScope s_Rule_init) (.ref TD) kVTI dcTI pmTI anTI cdTI ctTI), slTI⟩)
    (cTI : PySem.W.codeIn K cdTI "Rule.__init__" = true)
    (kTI : PySem.W.keepIn K (.ref fTI) = true)
    (mTN : PySem.W.findIn K (.ref RC) "__len__" = some (some (.ref fTN)))
    (hTN : PySem.W.isFn K (.ref fTN) = true)
    (lTN : K.lookup fTN = some ⟨ocTN, odTN, .func (PySem.W.fnOf "__len__" "Rule.__len__" (defArgs s_Rule_len) (defBody s_Rule_len) (defScope s_Rule_len) .none kVTN dcTN pmTN anTN cdTN ctTN), slTN⟩)
    (cTN : PySem.W.codeIn K cdTN "Rule.__len__" = true)
    (kTN : PySem.W.keepIn K (.ref fTN) = true)
    (mTT : PySem.W.findIn K (.ref RC) "__iter__" = some (some (.ref fTT)))
    (hTT : PySem.W.isFn K (.ref fTT) = true)
    (lTT : K.lookup fTT = some ⟨ocTT, odTT, .func (PySem.W.fnOf "__iter__" "Rule.__iter__" (defArgs s_Rule_iter) (defBody s_Rule_iter) (defScope s_Rule_iter) .none kVTT dcTT pmTT anTT cdTT ctTT), slTT⟩)
    (cTT : PySem.W.codeIn K cdTT "Rule.__iter__" = true)
    (kTT : PySem.W.keepIn K (.ref fTT) = true)
    (mTG : PySem.W.findIn K (.ref RC) "__getitem__" = some (some (.ref fTG)))
    (hTG : PySem.W.isFn K (.ref fTG) = true)
    (lTG : K.lookup fTG = some ⟨ocTG, odTG, .func (PySem.W.fnOf "__getitem__" "Rule.__getitem__" (defArgs s_Rule_getitem) (defBody s_Rule_getitem) (defScope s_Rule_getitem) .none kVTG dcTG pmTG anTG cdTG ctTG), slTG⟩)
    (cTG : PySem.W.codeIn K cdTG "Rule.__getitem__" = true)
    (kTG : PySem.W.keepIn K (.ref fTG) = true)
    (mTC : PySem.W.findIn K (.ref RC) "__contains__" = some (some (.ref fTC)))
    (hTC : PySem.W.isFn K (.ref fTC) = true)
    (lTC : K.lookup fTC = some ⟨ocTC, odTC, .func (PySem.W.fnOf "__contains__" "Rule.__contains__" (defArgs s_Rule_contains) (defBody s_Rule_contains) (defScope s_Rule_contains) .none kVTC dcTC pmTC anTC cdTC ctTC), slTC⟩)
    (cTC : PySem.W.codeIn K cdTC "Rule.__contains__" = true)
    (kTC : PySem.W.keepIn K (.ref fTC) = true)
    (mTA : PySem.W.findIn K (.ref RC) "__and__" = some (some (.ref fTA)))
    (hTA : PySem.W.isFn K (.ref fTA) = true)
    (lTA : K.lookup fTA = some ⟨ocTA, odTA, .func (PySem.W.fnOf "__and__" "Rule.__and__" (defArgs s_Rule_and) (defBody s_Rule_and) (defScope s_Rule_and) .none kVTA dcTA pmTA anTA cdTA ctTA), slTA⟩)
    (cTA : PySem.W.codeIn K cdTA "Rule.__and__" = true)
    (kTA : PySem.W.keepIn K (.ref fTA) = true)
    (mTO : PySem.W.findIn K (.ref RC) "__or__" = some (some (.ref fTO)))
    (hTO : PySem.W.isFn K (.ref fTO) = true)
    (lTO : K.lookup fTO = some ⟨ocTO, odTO, .func (PySem.W.fnOf "__or__" "Rule.__or__" (defArgs s_Rule_or) (defBody s_Rule_or) (defScope s_Rule_or) .none kVTO dcTO pmTO anTO cdTO ctTO), slTO⟩)
    (cTO : PySem.W.codeIn K cdTO "Rule.__or__" = true)
    (kTO : PySem.W.keepIn K (.ref fTO) = true)
    (mTS : PySem.W.findIn K (.ref RC) "__sub__" = some (some (.ref fTS)))
    (hTS : PySem.W.isFn K (.ref fTS) = true)
    (lTS : K.lookup fTS = some ⟨ocTS, odTS, .func (PySem.W.fnOf "__sub__" "Rule.__sub__" (defArgs s_Rule_sub) (defBody s_Rule_sub) (defScope s_Rule_sub) .none kVTS dcTS pmTS anTS cdTS ctTS), slTS⟩)
    (cTS : PySem.W.codeIn K cdTS "Rule.__sub__" = true)
    (kTS : PySem.W.keepIn K (.ref fTS) = true)
    (mTK : PySem.W.findIn K (.ref RC) "locks" = some (some (.ref fTK)))
    (hTK : PySem.W.isFn K (.ref fTK) = true)
    (lTK : K.lookup fTK = some ⟨ocTK, odTK, .func (PySem.W.fnOf "locks" "Rule.locks" (defArgs s_Rule_locks) (defBody s_Rule_locks) (defScope s_Rule_locks) .none kVTK dcTK pmTK anTK cdTK ctTK), slTK⟩)
    (cTK : PySem.W.codeIn K cdTK "Rule.locks" = true)
    (kTK : PySem.W.keepIn K (.ref fTK) = true)
    (vD : K.lookup TD = some ⟨tcD, dtD, .seq itsD ntD, sqD⟩)
    (uD : itsD = #[.ref de])
    (vE : K.lookup de = some ⟨.type "tuple", dtE, .seq itsE ntE, sqE⟩)
    (uE : itsE = #[])
    (iTG : PySem.W.fnIn K fTG = true) :
    ∃ fd : FuncData, (∀ (s : Shared) (v : Value), BindsTo s fd ⟨[v], []⟩ [("_law_script", v)]) ∧ ∀ base : Heap, K.In base → base.Ns mainGlobals mg → FnG l.prog w K mg base (L2.CX l.prog w) 10 fa fd ["_law_script"] (spLaw K) := by
  cases hfa.symm.trans (PySem.W.mg_of X G a25)
  subst eL uD uE
  refine ⟨PySem.W.fnOf "law" "law" (defArgs s_law) (defBody s_law) (defScope s_law) .none kV25 dc25 pm25 an25 cd25 ct25, fun s v => .of_eq rfl, fun base _ _ => ?_⟩
  have hde : ∀ H : Hp, SqT K H de [] := fun H => .inr ⟨_, _, ntE, vE, rfl, rfl, by decide, .nil⟩
  have T1 : Bt mg tL tX3 := ⟨(PySem.W.mg_none_of X G z_isinstance), (PySem.W.mg_none_of X G z_str), (PySem.W.mg_none_of X G z_tuple), (PySem.W.mg_none_of X G z_list), (PySem.W.mg_none_of X G z_len), (PySem.W.mg_none_of X G z_all), (PySem.W.mg_none_of X G z_iter), (PySem.W.mg_none_of X G z_enumerate), (PySem.W.mg_of X G gL), (PySem.W.mg_of X G gX3)⟩
  have TG : BtG mg := ⟨(PySem.W.mg_none_of X G z_len), (PySem.W.mg_none_of X G z_int), (PySem.W.mg_none_of X G z_range), (PySem.W.mg_none_of X G z_list), (PySem.W.mg_none_of X G z_sorted), (PySem.W.mg_none_of X G z_tuple), (PySem.W.mg_none_of X G z_isinstance)⟩
  have TY : BtY mg RC := ⟨(PySem.W.mg_none_of X G z_len), (PySem.W.mg_none_of X G z_list), (PySem.W.mg_none_of X G z_isinstance), (PySem.W.mg_of X G aT)⟩
  have OXO : OexC K OL := ⟨⟨nmO, qnO, NO, bsO, bmO, snO, sbO, abO, coO, ddO, m0O, m1O, m2O, m3O, m5O, xO, rO⟩, b1O, q1O, q3O, b4O⟩
  have ECO : ErrC K OL := ⟨OXO, b7O, b8O, b9, b10O⟩
  have CFO : CodeF K l.prog cdaO := ⟨⟨cxO, ceO, vsO, czO, fileO, tfO, b11O, b12O, b13O⟩, b14⟩
  have FXO : FunX K "__init__" "OtherLocks.__init__" s_OtherLocks_init feO _ ccO cdaO OL := ⟨⟨ocO, odO, kVO, dcO, pmO, anO, ctO, slO, rfl, lO, cO⟩, ⟨clO, cdO, csO, eO⟩, kO⟩
  have EXO : ExcC K OL := ⟨b17O, b18O, q1O, b19O, b25O, p12, p13, b26O⟩
  have GXO := ok_OtherLocks_init (P := l.prog) (w := w) (base := base) (mg := mg) (CX := L2.CX l.prog w) FXO ECO CFO (PySem.W.mg_none_of X G z_super)
  have ERO : Er0 l.prog w K mg base "OtherLocks" OL feO _ ["self"] := ⟨(PySem.W.mg_of X G aO), OXO, b5O, b6O, .all fun us hl => match us, hl with | [_], _ => rfl, GXO⟩
  have OXG : OexC K TL := ⟨⟨nmG, qnG, NG, bsG, bmG, snG, sbG, abG, coG, ddG, m0G, m1G, m2G, m3G, m5G, xG, rG⟩, b1G, q1G, q3G, b4G⟩
  have ECG : ErrC K TL := ⟨OXG, b7G, b8G, b9, b10G⟩
  have CFG : CodeF K l.prog cdaG := ⟨⟨cxG, ceG, vsG, czG, fileG, tfG, b11G, b12G, b13G⟩, b14⟩
  have FXG : FunX K "__init__" "TooLarge.__init__" s_TooLarge_init feG _ ccG cdaG TL := ⟨⟨ocG, odG, kVG, dcG, pmG, anG, ctG, slG, rfl, lG, cG⟩, ⟨clG, cdG, csG, eG⟩, kG⟩
  have KTG : KitC K TL := ⟨q2G, b17G, b18G, q1G, b25G, p12, p13, b26G⟩
  have GXG := ok_TooLarge_init (P := l.prog) (w := w) (base := base) (mg := mg) (CX := L2.CX l.prog w) (Pf := SmallI) FXG ECG CFG (PySem.W.mg_none_of X G z_super) b15G (fun v h => smallI_log h)
  have ERG : Er1 l.prog w K mg base "TooLarge" "bound" TL feG _ ["self", "bound"] SmallI := ⟨(PySem.W.mg_of X G aG), OXG, b5G, b6G, .all fun us hl => match us, hl with | [_, _], _ => rfl, GXG⟩
  have OXN : OexC K BN := ⟨⟨nmN, qnN, NN, bsN, bmN, snN, sbN, abN, coN, ddN, m0N, m1N, m2N, m3N, m5N, xN, rN⟩, b1N, q1N, q3N, b4N⟩
  have ECN : ErrC K BN := ⟨OXN, b7N, b8N, b9, b10N⟩
  have CFN : CodeF K l.prog cdaN := ⟨⟨cxN, ceN, vsN, czN, fileN, tfN, b11N, b12N, b13N⟩, b14⟩
  have FXN : FunX K "__init__" "BadName.__init__" s_BadName_init feN _ ccN cdaN BN := ⟨⟨ocN, odN, kVN, dcN, pmN, anN, ctN, slN, rfl, lN, cN⟩, ⟨clN, cdN, csN, eN⟩, kN⟩
  have KTN : KitC K BN := ⟨q2N, b17N, b18N, q1N, b25N, p12, p13, b26N⟩
  have GXN := ok_BadName_init (P := l.prog) (w := w) (base := base) (mg := mg) (CX := L2.CX l.prog w) (Pf := (fun _ => True)) FXN ECN CFN (PySem.W.mg_none_of X G z_super) b15N
  have ERN : Er1 l.prog w K mg base "BadName" "name" BN feN _ ["self", "name"] (fun _ => True) := ⟨(PySem.W.mg_of X G aN), OXN, b5N, b6N, .all fun us hl => match us, hl with | [_, _], _ => rfl, GXN⟩
  have OXE : OexC K BE := ⟨⟨nmE, qnE, NE, bsE, bmE, snE, sbE, abE, coE, ddE, m0E, m1E, m2E, m3E, m5E, xE, rE⟩, b1E, q1E, q3E, b4E⟩
  have ECE : ErrC K BE := ⟨OXE, b7E, b8E, b9, b10E⟩
  have CFE : CodeF K l.prog cdaE := ⟨⟨cxE, ceE, vsE, czE, fileE, tfE, b11E, b12E, b13E⟩, b14⟩
  have FXE : FunX K "__init__" "BadEntry.__init__" s_BadEntry_init feE _ ccE cdaE BE := ⟨⟨ocE, odE, kVE, dcE, pmE, anE, ctE, slE, rfl, lE, cE⟩, ⟨clE, cdE, csE, eE⟩, kE⟩
  have KTE : KitC K BE := ⟨q2E, b17E, b18E, q1E, b25E, p12, p13, b26E⟩
  have GXE := ok_BadEntry_init (P := l.prog) (w := w) (base := base) (mg := mg) (CX := L2.CX l.prog w) (Pf := (fun _ => True)) FXE ECE CFE (PySem.W.mg_none_of X G z_super) b15E
  have ERE : Er1 l.prog w K mg base "BadEntry" "entry" BE feE _ ["self", "entry"] (fun _ => True) := ⟨(PySem.W.mg_of X G aE), OXE, b5E, b6E, .all fun us hl => match us, hl with | [_, _], _ => rfl, GXE⟩
  have TR : BtR K mg CE OL BE BN := ⟨(PySem.W.mg_none_of X G z_isinstance), (PySem.W.mg_none_of X G z_ValueError), (PySem.W.mg_of X G aC), (PySem.W.mg_of X G aO), (PySem.W.mg_of X G aE), (PySem.W.mg_of X G aN), exm_sub q1C q2C q3C sOC, EXO, kit_self, kit_ty b31 b8O, kit_any2 (kit_sub eOE q2E q3E sOE) (kit_sub eON q2N q3N sON)⟩
  have TN : BtN K mg CE OL BE BN := ⟨(PySem.W.mg_none_of X G z_isinstance), (PySem.W.mg_none_of X G z_repr), (PySem.W.mg_of X G aC), (PySem.W.mg_of X G aO), (PySem.W.mg_of X G aE), (PySem.W.mg_of X G aN), exm_sub q1E q2E q3E sEE, KTE, kit_sub eEC q2C q3C sEC, kit_any2 (kit_sub eEN q2N q3N sEN) (kit_sub eEO q2O q3O sEO), ⟨b17E, b18E, q1E, b19E⟩, b15E⟩
  have TT : BtT K mg RC TL BN BE := ⟨(PySem.W.mg_of X G aT), (PySem.W.mg_of X G aG), (PySem.W.mg_of X G aN), (PySem.W.mg_of X G aE), exm_sub q1G q2G q3G sGG, exm_sub q1G q2G q3G sNG, exm_sub q1N q2N q3N sNN, exm_sub q1G q2G q3G sEG, exm_sub q1N q2N q3N sEN, exm_sub q1E q2E q3E sEE, ⟨b17G, b18G, q1G, b19G⟩, ⟨b17N, b18N, q1N, b19N⟩, ⟨b17E, b18E, q1E, b19E⟩, b15G, b15N, b15E⟩
  have TF : BtF mg := ⟨TG, (PySem.W.mg_none_of X G z_repr)⟩
  have TV : BtV mg RC := ⟨TG, (PySem.W.mg_of X G aT)⟩
  have C : RuC K mg RC := ⟨(PySem.W.mg_of X G aT), ⟨p1T, p2T, p3T, p4T⟩, n0T, n1T⟩
  have ICR : C8.InsC K RC := ⟨⟨p1T, p2T, p3T, p4T⟩, haT, p12, p13, hmT, kit_self⟩
  have F0 := fun_mk (st := s_is_name) l0 c0 k0
  have D0 : Df K mg "is_name" s_is_name ["value"] f0 _ := ⟨F0, PySem.W.mg_of X G a0, F0.binds (ps := ["value"]) fun _ _ _ _ _ _ us hl => match us, hl with | [_], _ => rfl⟩
  have F1 := fun_mk (st := s_all_held) l1 c1 k1
  have D1 : Df K mg "all_held" s_all_held ["locks"] f1 _ := ⟨F1, PySem.W.mg_of X G a1, F1.binds (ps := ["locks"]) fun _ _ _ _ _ _ us hl => match us, hl with | [_], _ => rfl⟩
  have F2 := fun_mk (st := s_all_entries) l2 c2 k2
  have D2 : Df K mg "all_entries" s_all_entries ["locks"] f2 _ := ⟨F2, PySem.W.mg_of X G a2, F2.binds (ps := ["locks"]) fun _ _ _ _ _ _ us hl => match us, hl with | [_], _ => rfl⟩
  have F3 := fun_mk (st := s_names_ahead) l3 c3 k3
  have D3 : Df K mg "names_ahead" s_names_ahead ["name", "held", "locks"] f3 _ := ⟨F3, PySem.W.mg_of X G a3, F3.binds (ps := ["name", "held", "locks"]) fun _ _ _ _ _ _ us hl => match us, hl with | [_, _, _], _ => rfl⟩
  have F4 := fun_mk (st := s_check_same_locks) l4 c4 k4
  have D4 : Df K mg "check_same_locks" s_check_same_locks ["a", "b"] f4 _ := ⟨F4, PySem.W.mg_of X G a4, F4.binds (ps := ["a", "b"]) fun _ _ _ _ _ _ us hl => match us, hl with | [_, _], _ => rfl⟩
  have F5 := fun_mk (st := s_law_cell) l5 c5 k5
  have D5 : Df K mg "_law_cell" s_law_cell ["_law_script", "_law_k"] f5 _ := ⟨F5, PySem.W.mg_of X G a5, F5.binds (ps := ["_law_script", "_law_k"]) fun _ _ _ _ _ _ us hl => match us, hl with | [_, _], _ => rfl⟩
  have F6 := fun_mk (st := s_law_mixed) l6 c6 k6
  have D6 : Df K mg "_law_mixed" s_law_mixed ["_law_cell_here", "_law_k"] f6 _ := ⟨F6, PySem.W.mg_of X G a6, F6.binds (ps := ["_law_cell_here", "_law_k"]) fun _ _ _ _ _ _ us hl => match us, hl with | [_, _], _ => rfl⟩
  have F7 := fun_mk (st := s_law_draws) l7 c7 k7
  have D7 : Df K mg "_law_draws" s_law_draws ["_law_cell_here", "_law_salt", "_law_count", "_law_many"] f7 _ := ⟨F7, PySem.W.mg_of X G a7, F7.binds (ps := ["_law_cell_here", "_law_salt", "_law_count", "_law_many"]) fun _ _ _ _ _ _ us hl => match us, hl with | [_, _, _, _], _ => rfl⟩
  have F8 := fun_mk (st := s_law_names) l8 c8 k8
  have D8 : Df K mg "_law_names" s_law_names ["_law_cell_here"] f8 _ := ⟨F8, PySem.W.mg_of X G a8, F8.binds (ps := ["_law_cell_here"]) fun _ _ _ _ _ _ us hl => match us, hl with | [_], _ => rfl⟩
  have F9 := fun_mk (st := s_law_helds) l9 c9 k9
  have D9 : Df K mg "_law_helds" s_law_helds ["_law_locks"] f9 _ := ⟨F9, PySem.W.mg_of X G a9, F9.binds (ps := ["_law_locks"]) fun _ _ _ _ _ _ us hl => match us, hl with | [_], _ => rfl⟩
  have F10 := fun_mk (st := s_law_entries) l10 c10 k10
  have D10 : Df K mg "_law_entries" s_law_entries ["_law_locks"] f10 _ := ⟨F10, PySem.W.mg_of X G a10, F10.binds (ps := ["_law_locks"]) fun _ _ _ _ _ _ us hl => match us, hl with | [_], _ => rfl⟩
  have F11 := fun_mk (st := s_law_list) l11 c11 k11
  have D11 : Df K mg "_law_list" s_law_list ["_law_locks", "_law_cell_here", "_law_shape"] f11 _ := ⟨F11, PySem.W.mg_of X G a11, F11.binds (ps := ["_law_locks", "_law_cell_here", "_law_shape"]) fun _ _ _ _ _ _ us hl => match us, hl with | [_, _, _], _ => rfl⟩
  have F12 := fun_mk (st := s_law_is_rule) l12 c12 k12
  have D12 : Df K mg "_law_is_rule" s_law_is_rule ["_law_rule", "_law_locks", "_law_due"] f12 _ := ⟨F12, PySem.W.mg_of X G a12, F12.binds (ps := ["_law_rule", "_law_locks", "_law_due"]) fun _ _ _ _ _ _ us hl => match us, hl with | [_, _, _], _ => rfl⟩
  have F13 := fun_mk (st := s_law_stays) l13 c13 k13
  have D13 : Df K mg "_law_stays" s_law_stays ["_law_rule", "_law_locks", "_law_due"] f13 _ := ⟨F13, PySem.W.mg_of X G a13, F13.binds (ps := ["_law_rule", "_law_locks", "_law_due"]) fun _ _ _ _ _ _ us hl => match us, hl with | [_, _, _], _ => rfl⟩
  have F14 := fun_mk (st := s_law_signs) l14 c14 k14
  have D14 : Df K mg "_law_signs" s_law_signs ["_law_a", "_law_b", "_law_locks", "_law_first", "_law_second"] f14 _ := ⟨F14, PySem.W.mg_of X G a14, F14.binds (ps := ["_law_a", "_law_b", "_law_locks", "_law_first", "_law_second"]) fun _ _ _ _ _ _ us hl => match us, hl with | [_, _, _, _, _], _ => rfl⟩
  have F15 := fun_mk (st := s_law_refused) l15 c15 k15
  have D15 : Df K mg "_law_refused" s_law_refused ["_law_a", "_law_b", "_law_sign"] f15 _ := ⟨F15, PySem.W.mg_of X G a15, F15.binds (ps := ["_law_a", "_law_b", "_law_sign"]) fun _ _ _ _ _ _ us hl => match us, hl with | [_, _, _], _ => rfl⟩
  have F16 := fun_mk (st := s_law_stranger) l16 c16 k16
  have D16 : Df K mg "_law_stranger" s_law_stranger ["_law_locks"] f16 _ := ⟨F16, PySem.W.mg_of X G a16, F16.binds (ps := ["_law_locks"]) fun _ _ _ _ _ _ us hl => match us, hl with | [_], _ => rfl⟩
  have F17 := fun_mk (st := s_law_others) l17 c17 k17
  have D17 : Df K mg "_law_others" s_law_others ["_law_locks"] f17 _ := ⟨F17, PySem.W.mg_of X G a17, F17.binds (ps := ["_law_locks"]) fun _ _ _ _ _ _ us hl => match us, hl with | [_], _ => rfl⟩
  have F18 := fun_mk (st := s_law_told) l18 c18 k18
  have D18 : Df K mg "_law_told" s_law_told ["_law_locks", "_law_told_here"] f18 _ := ⟨F18, PySem.W.mg_of X G a18, F18.binds (ps := ["_law_locks", "_law_told_here"]) fun _ _ _ _ _ _ us hl => match us, hl with | [_, _], _ => rfl⟩
  have F19 := fun_mk (st := s_law_is_name) l19 c19 k19
  have D19 : Df K mg "_law_is_name" s_law_is_name ["_law_x"] f19 _ := ⟨F19, PySem.W.mg_of X G a19, F19.binds (ps := ["_law_x"]) fun _ _ _ _ _ _ us hl => match us, hl with | [_], _ => rfl⟩
  have F20 := fun_mk (st := s_law_reading) l20 c20 k20
  have D20 : Df K mg "_law_reading" s_law_reading ["_law_locks", "_law_told_here"] f20 _ := ⟨F20, PySem.W.mg_of X G a20, F20.binds (ps := ["_law_locks", "_law_told_here"]) fun _ _ _ _ _ _ us hl => match us, hl with | [_, _], _ => rfl⟩
  have F21 := fun_mk (st := s_law_bad_name) l21 c21 k21
  have D21 : Df K mg "_law_bad_name" s_law_bad_name ["_law_locks", "_law_k"] f21 _ := ⟨F21, PySem.W.mg_of X G a21, F21.binds (ps := ["_law_locks", "_law_k"]) fun _ _ _ _ _ _ us hl => match us, hl with | [_, _], _ => rfl⟩
  have F22 := fun_mk (st := s_law_bad_entry) l22 c22 k22
  have D22 : Df K mg "_law_bad_entry" s_law_bad_entry ["_law_locks", "_law_k"] f22 _ := ⟨F22, PySem.W.mg_of X G a22, F22.binds (ps := ["_law_locks", "_law_k"]) fun _ _ _ _ _ _ us hl => match us, hl with | [_, _], _ => rfl⟩
  have F23 := fun_mk (st := s_law_no_held) l23 c23 k23
  have D23 : Df K mg "_law_no_held" s_law_no_held ["_law_rule", "_law_held"] f23 _ := ⟨F23, PySem.W.mg_of X G a23, F23.binds (ps := ["_law_rule", "_law_held"]) fun _ _ _ _ _ _ us hl => match us, hl with | [_, _], _ => rfl⟩
  have F24 := fun_mk (st := s_law_refusals) l24 c24 k24
  have D24 : Df K mg "_law_refusals" s_law_refusals ["_law_names_here", "_law_locks", "_law_told_here", "_law_draws_here"] f24 _ := ⟨F24, PySem.W.mg_of X G a24, F24.binds (ps := ["_law_names_here", "_law_locks", "_law_told_here", "_law_draws_here"]) fun _ _ _ _ _ _ us hl => match us, hl with | [_, _, _, _], _ => rfl⟩
  have F25 := fun_mk (st := s_law) l25 c25 k25
  have D25 : Df K mg "law" s_law ["_law_script"] fa _ := ⟨F25, PySem.W.mg_of X G a25, F25.binds (ps := ["_law_script"]) fun _ _ _ _ _ _ us hl => match us, hl with | [_], _ => rfl⟩
  have FTI : FunD K "__init__" "Rule.__init__" (defArgs s_Rule_init) (defBody s_Rule_init) (defScope s_Rule_init) [V.ref de] [] fTI _ := ⟨⟨ocTI, odTI, .ref TD, kVTI, dcTI, pmTI, anTI, cdTI, ctTI, slTI, rfl, lTI, cTI, .inr ⟨fun z => (nomatch z), TD, _, [.ref de], ntD, rfl, vD, rfl, .cons rfl .nil⟩, .inl rfl⟩, kTI⟩
  obtain ⟨ds1, hds1, bI⟩ := FTI.binds1 (ps := ["self", "locks", "entries"]) 3 1 (fun z => nomatch z) rfl fun T kV doc pm an cdv ct us its h1 h2 => match us, h1, its, h2 with | [_, _, _], _, [_], _ => ⟨_, rfl, rfl⟩
  cases hds1
  obtain ⟨ds, hds, bD⟩ := FTI.binds1 (ps := ["self", "locks", "entries"]) 2 0 (fun z => nomatch z) rfl fun T kV doc pm an cdv ct us its h1 h2 => match us, h1, its, h2 with | [_, _], _, [_], _ => ⟨_, rfl, rfl⟩
  have FTN := fun_mk (st := s_Rule_len) lTN cTN kTN
  have bTN : Binds K _ ["self"] [] := FTN.binds (ps := ["self"]) fun _ _ _ _ _ _ us hl => match us, hl with | [_], _ => rfl
  have FTT := fun_mk (st := s_Rule_iter) lTT cTT kTT
  have bTT : Binds K _ ["self"] [] := FTT.binds (ps := ["self"]) fun _ _ _ _ _ _ us hl => match us, hl with | [_], _ => rfl
  have FTG := fun_mk (st := s_Rule_getitem) lTG cTG kTG
  have bTG : Binds K _ ["self", "at"] [] := FTG.binds (ps := ["self", "at"]) fun _ _ _ _ _ _ us hl => match us, hl with | [_, _], _ => rfl
  have FTC := fun_mk (st := s_Rule_contains) lTC cTC kTC
  have bTC : Binds K _ ["self", "x"] [] := FTC.binds (ps := ["self", "x"]) fun _ _ _ _ _ _ us hl => match us, hl with | [_, _], _ => rfl
  have FTA := fun_mk (st := s_Rule_and) lTA cTA kTA
  have bTA : Binds K _ ["self", "other"] [] := FTA.binds (ps := ["self", "other"]) fun _ _ _ _ _ _ us hl => match us, hl with | [_, _], _ => rfl
  have FTO := fun_mk (st := s_Rule_or) lTO cTO kTO
  have bTO : Binds K _ ["self", "other"] [] := FTO.binds (ps := ["self", "other"]) fun _ _ _ _ _ _ us hl => match us, hl with | [_, _], _ => rfl
  have FTS := fun_mk (st := s_Rule_sub) lTS cTS kTS
  have bTS : Binds K _ ["self", "other"] [] := FTS.binds (ps := ["self", "other"]) fun _ _ _ _ _ _ us hl => match us, hl with | [_, _], _ => rfl
  have FTK := fun_mk (st := s_Rule_locks) lTK cTK kTK
  have bTK : Binds K _ ["self"] [] := FTK.binds (ps := ["self"]) fun _ _ _ _ _ _ us hl => match us, hl with | [_], _ => rfl
  have MT : Mk K RC fTI := ⟨p5T, mTI, hTI, p9T⟩
  have METK : Meth K RC _ fTK := ⟨mTK, hTK, kTK⟩
  have LN : LenC K RC fTN := ⟨mTN, hTN⟩
  have IT : IterC K RC fTT fTN := ⟨mTT, hTT, LN⟩
  have GC : GetC K RC fTG := ⟨mTG, hTG, iTG⟩
  have IN : InC K RC fTC := ⟨mTC, hTC⟩
  have BA : BinC K RC fTA .BitAnd := ⟨p6T, mTA, hTA⟩
  have BO : BinC K RC fTO .BitOr := ⟨p6T, mTO, hTO⟩
  have BS : BinC K RC fTS .Sub := ⟨p6T, mTS, hTS⟩
  have G0 := ok_is_name (P := l.prog) (w := w) (base := base) D0 T1
  have G3 := ok_names_ahead (P := l.prog) (w := w) (base := base) D3 T1
  have G1 := ok_all_held (P := l.prog) (w := w) (base := base) D1 T1 D3 G3
  have G2 := ok_all_entries (P := l.prog) (w := w) (base := base) D2 D1 G1
  have GNM := okd_is_name (P := l.prog) (w := w) (base := base) D0 T1
  have GTI := ok_Rule_init (P := l.prog) (w := w) (base := base) FTI T1 C D2 G2 D0 G0
  have GTIN := ok_Rule_initN (P := l.prog) (w := w) (base := base) FTI T1 C D2 G2 D0 G0
  have GTID := okd_Rule_init (P := l.prog) (w := w) (base := base) FTI T1 C ERG ERN ERE D2 G2 D0 GNM
  have GTN := ok_Rule_len (P := l.prog) (w := w) (base := base) FTN T1 C
  have GTT := ok_Rule_iter (P := l.prog) (w := w) (base := base) FTT T1 C
  have GTK := ok_Rule_locks (P := l.prog) (w := w) (base := base) FTK T1 C
  have GTG := ok_Rule_getitem (P := l.prog) (w := w) (base := base) FTG T1 C D1 G1
  have GTGD := okd_Rule_getitem (P := l.prog) (w := w) (base := base) FTG T1 C ERE D1 G1
  have GTC := ok_Rule_contains (P := l.prog) (w := w) (base := base) FTC C
  have G4 := ok_check_same_locks (P := l.prog) (w := w) (base := base) D4 C ERO METK bTK GTK
  have GTA := ok_Rule_and (P := l.prog) (w := w) (base := base) FTA TG C D4 G4 MT bI GTI
  have GTO := ok_Rule_or (P := l.prog) (w := w) (base := base) FTO TG C D4 G4 MT bI GTI
  have GTS := ok_Rule_sub (P := l.prog) (w := w) (base := base) FTS TG C D4 G4 MT bI GTI
  have G5 := ok_law_cell (P := l.prog) (w := w) (base := base) D5 TG
  have G6 := ok_law_mixed (P := l.prog) (w := w) (base := base) D6 TG
  have G7 := ok_law_draws (P := l.prog) (w := w) (base := base) D7 TG D6 G6
  have G8 := ok_law_names (P := l.prog) (w := w) (base := base) D8 TG D7 G7
  have G9 := ok_law_helds (P := l.prog) (w := w) (base := base) D9 TG
  have G10 := ok_law_entries (P := l.prog) (w := w) (base := base) D10 TG D9 G9
  have G11 := ok_law_list (P := l.prog) (w := w) (base := base) D11 TG D10 G10 D7 G7
  have G12 := ok_law_is_rule (P := l.prog) (w := w) (base := base) D12 TY C ICR D10 G10 IN bTC GTC D9 G9 METK bTK GTK IT bTT GTT LN bTN GTN GC bTG GTG
  have G13 := ok_law_stays (P := l.prog) (w := w) (base := base) D13 C D12 G12 METK bTK GTK GC bTG GTG
  have G14 := ok_law_signs (P := l.prog) (w := w) (base := base) D14 C D12 G12 D13 G13 D10 G10 BA bTA GTA BO bTO GTO BS bTS GTS
  have G15 := ok_law_refused (P := l.prog) (w := w) (base := base) D15 TR BA bTA GTA BO bTO GTO BS bTS GTS
  have G16 := ok_law_stranger (P := l.prog) (w := w) (base := base) D16 
  have G17 := ok_law_others (P := l.prog) (w := w) (base := base) D17 TG D16 G16
  have G18 := ok_law_told (P := l.prog) (w := w) (base := base) D18 TT C MT bI GTID
  have G19 := ok_law_is_name (P := l.prog) (w := w) (base := base) D19 T1
  have G20 := ok_law_reading (P := l.prog) (w := w) (base := base) D20 TG D19 G19 D10 G10
  have G21 := ok_law_bad_name (P := l.prog) (w := w) (base := base) D21 TG
  have G22 := ok_law_bad_entry (P := l.prog) (w := w) (base := base) D22 TG D16 G16
  have G23 := ok_law_no_held (P := l.prog) (w := w) (base := base) D23 TN GC bTG GTGD
  have G24 := ok_law_refusals (P := l.prog) (w := w) (base := base) D24 TF D22 G22 D21 G21 D16 G16 D18 G18 D20 G20
  exact ok_law (P := l.prog) (w := w) (base := base) D25 TV C hde D8 G8 D5 G5 D7 G7 D11 G11 D10 G10 D12 G12 D14 G14 D17 G17 D15 G15 D16 G16 D23 G23 D24 G24 MT bI hds bD GTIN
theorem walk {l : PySem.W.OpenLaw} {q : Program} {loose : List Str} {XP : (Str → Option Value) → Heap → Prop} {YP : World → Heap → Prop} {d : DefRec} {K : Params → PySem.W.Frag} (hn : l.most = some 63) (hdf : d.params.defaults = [])
    (hY : ∀ (w : World) (h : Heap), YP w h → (K w.params).In h)
    (F : ∀ (w : World) (mg : Str → Option Value) (fa : Addr) (h : Heap), (K w.params).In h → h.Ns mainGlobals mg → mg d.name = some (.ref fa) →
      ∃ fd : FuncData, (∀ (s : Shared) (u : Value), BindsTo s fd ⟨[u], []⟩ [("_law_script", u)]) ∧ ∀ base : Heap, (K w.params).In base → base.Ns mainGlobals mg → FnG l.prog w (K w.params) mg base (L2.CX l.prog w) 10 fa fd ["_law_script"] (spLaw (K w.params))) :
    PySem.W.WalkO q loose XP YP l.row.toRowW d [] (fun f vs => PySem.call f vs) :=
  walk_ofG (n := 63) (k := 10) (x := "_law_script") (sp := fun w => spLaw (K w.params)) hn (by decide) hdf ⟨rfl, by decide, by decide⟩ hY F fun _ _ a ns hl hS => ⟨a, ns, rfl, ⟨hS, hl⟩, fun _ => rfl⟩
end My
open PySem PySem.W PyProof.Rows in
set_option maxRecDepth 100000 in
set_option maxHeartbeats 0 in
theorem PySem.Challenge.cw_coretower_k42_rule_is_its_entries_holds : PySem.Challenge.rw_coretower_k42_rule_is_its_entries.Holds := by
  w_on; o_law; k_head; (case hw => w_witness2)
  k_fill
  refine My.walk (l := PySem.Challenge.rw_coretower_k42_rule_is_its_entries) rfl rfl (fun w h Y => PySem.W.kIn_of Y) ?F
  case F =>
    intro w mg fa h KX G hmg
    refine' My.all_mk KX G hmg ?a0 ?l0 ?c0 ?k0 ?a1 ?l1 ?c1 ?k1 ?a2 ?l2 ?c2 ?k2 ?a3 ?l3 ?c3 ?k3 ?a4 ?l4 ?c4 ?k4 ?a5 ?l5 ?c5 ?k5 ?a6 ?l6 ?c6 ?k6 ?a7 ?l7 ?c7 ?k7 ?a8 ?l8 ?c8 ?k8 ?a9 ?l9 ?c9 ?k9 ?a10 ?l10 ?c10 ?k10 ?a11 ?l11 ?c11 ?k11 ?a12 ?l12 ?c12 ?k12 ?a13 ?l13 ?c13 ?k13 ?a14 ?l14 ?c14 ?k14 ?a15 ?l15 ?c15 ?k15 ?a16 ?l16 ?c16 ?k16 ?a17 ?l17 ?c17 ?k17 ?a18 ?l18 ?c18 ?k18 ?a19 ?l19 ?c19 ?k19 ?a20 ?l20 ?c20 ?k20 ?a21 ?l21 ?c21 ?k21 ?a22 ?l22 ?c22 ?k22 ?a23 ?l23 ?c23 ?k23 ?a24 ?l24 ?c24 ?k24 ?a25 ?l25 ?c25 ?k25 ?z_isinstance ?z_str ?z_tuple ?z_list ?z_len ?z_all ?z_iter ?z_enumerate ?z_int ?z_range ?z_sorted ?z_super ?z_ValueError ?z_repr ?gL ?eL ?gX3 ?aO ?xO ?rO ?b1O ?q1O ?q2O ?q3O ?b4O ?b5O ?b6O ?lO ?cO ?kO ?eO ?b7O ?b8O ?b9 ?b14 ?b31 ?p12 ?p13 ?b10O ?b11O ?b12O ?b13O ?b17O ?b18O ?b19O ?b25O ?b26O ?aG ?xG ?rG ?b1G ?q1G ?q2G ?q3G ?b4G ?b5G ?b6G ?lG ?cG ?kG ?eG ?b7G ?b8G ?b10G ?b11G ?b12G ?b13G ?b15G ?b17G ?b18G ?b19G ?b25G ?b26G ?aN ?xN ?rN ?b1N ?q1N ?q2N ?q3N ?b4N ?b5N ?b6N ?lN ?cN ?kN ?eN ?b7N ?b8N ?b10N ?b11N ?b12N ?b13N ?b15N ?b17N ?b18N ?b19N ?b25N ?b26N ?aE ?xE ?rE ?b1E ?q1E ?q2E ?q3E ?b4E ?b5E ?b6E ?lE ?cE ?kE ?eE ?b7E ?b8E ?b10E ?b11E ?b12E ?b13E ?b15E ?b17E ?b18E ?b19E ?b25E ?b26E ?aC ?q1C ?q2C ?q3C ?sOC ?sOE ?sON ?sEE ?sEC ?sEN ?sEO ?sGG ?sNG ?sNN ?sEG ?eOE ?eON ?eEC ?eEN ?eEO ?aT ?p1T ?p2T ?p3T ?p4T ?n0T ?n1T ?p9T ?p5T ?p6T ?haT ?hmT ?mTI ?hTI ?lTI ?cTI ?kTI ?mTN ?hTN ?lTN ?cTN ?kTN ?mTT ?hTT ?lTT ?cTT ?kTT ?mTG ?hTG ?lTG ?cTG ?kTG ?mTC ?hTC ?lTC ?cTC ?kTC ?mTA ?hTA ?lTA ?cTA ?kTA ?mTO ?hTO ?lTO ?cTO ?kTO ?mTS ?hTS ?lTS ?cTS ?kTS ?mTK ?hTK ?lTK ?cTK ?kTK ?vD ?uD ?vE ?uE ?iTG
    (case a0 => k_is)
    (case l0 => k_is)
    (case c0 => k_is)
    (case k0 => k_is)
    (case a1 => k_is)
    (case l1 => k_is)
    (case c1 => k_is)
    (case k1 => k_is)
    (case a2 => k_is)
    (case l2 => k_is)
    (case c2 => k_is)
    (case k2 => k_is)
    (case a3 => k_is)
    (case l3 => k_is)
    (case c3 => k_is)
    (case k3 => k_is)
    (case a4 => k_is)
    (case l4 => k_is)
    (case c4 => k_is)
    (case k4 => k_is)
    (case a5 => k_is)
    (case l5 => k_is)
    (case c5 => k_is)
    (case k5 => k_is)
    (case a6 => k_is)
    (case l6 => k_is)
    (case c6 => k_is)
    (case k6 => k_is)
    (case a7 => k_is)
    (case l7 => k_is)
    (case c7 => k_is)
    (case k7 => k_is)
    (case a8 => k_is)
    (case l8 => k_is)
    (case c8 => k_is)
    (case k8 => k_is)
    (case a9 => k_is)
    (case l9 => k_is)
    (case c9 => k_is)
    (case k9 => k_is)
    (case a10 => k_is)
    (case l10 => k_is)
    (case c10 => k_is)
    (case k10 => k_is)
    (case a11 => k_is)
    (case l11 => k_is)
    (case c11 => k_is)
    (case k11 => k_is)
    (case a12 => k_is)
    (case l12 => k_is)
    (case c12 => k_is)
    (case k12 => k_is)
    (case a13 => k_is)
    (case l13 => k_is)
    (case c13 => k_is)
    (case k13 => k_is)
    (case a14 => k_is)
    (case l14 => k_is)
    (case c14 => k_is)
    (case k14 => k_is)
    (case a15 => k_is)
    (case l15 => k_is)
    (case c15 => k_is)
    (case k15 => k_is)
    (case a16 => k_is)
    (case l16 => k_is)
    (case c16 => k_is)
    (case k16 => k_is)
    (case a17 => k_is)
    (case l17 => k_is)
    (case c17 => k_is)
    (case k17 => k_is)
    (case a18 => k_is)
    (case l18 => k_is)
    (case c18 => k_is)
    (case k18 => k_is)
    (case a19 => k_is)
    (case l19 => k_is)
    (case c19 => k_is)
    (case k19 => k_is)
    (case a20 => k_is)
    (case l20 => k_is)
    (case c20 => k_is)
    (case k20 => k_is)
    (case a21 => k_is)
    (case l21 => k_is)
    (case c21 => k_is)
    (case k21 => k_is)
    (case a22 => k_is)
    (case l22 => k_is)
    (case c22 => k_is)
    (case k22 => k_is)
    (case a23 => k_is)
    (case l23 => k_is)
    (case c23 => k_is)
    (case k23 => k_is)
    (case a24 => k_is)
    (case l24 => k_is)
    (case c24 => k_is)
    (case k24 => k_is)
    (case a25 => k_is)
    (case l25 => k_is)
    (case c25 => k_is)
    (case k25 => k_is)
    (case z_isinstance => k_is)
    (case z_str => k_is)
    (case z_tuple => k_is)
    (case z_list => k_is)
    (case z_len => k_is)
    (case z_all => k_is)
    (case z_iter => k_is)
    (case z_enumerate => k_is)
    (case z_int => k_is)
    (case z_range => k_is)
    (case z_sorted => k_is)
    (case z_super => k_is)
    (case z_ValueError => k_is)
    (case z_repr => k_is)
    (case gL => k_is)
    (case eL => decide +kernel)
    (case gX3 => k_is)
    (case aO => k_is)
    (case xO => k_is)
    (case rO => decide +kernel)
    (case b1O => k_is)
    (case q1O => k_is)
    (case q2O => k_is)
    (case q3O => k_is)
    (case b4O => k_is)
    (case b5O => k_is)
    (case b6O => k_is)
    (case lO => k_is)
    (case cO => k_is)
    (case kO => k_is)
    (case eO => k_is)
    (case b7O => ks_is)
    (case b8O => k_is)
    (case b9 => k_is)
    (case b14 => first | rfl | decide +kernel)
    (case b31 => decide +kernel)
    (case p12 => k_is)
    (case p13 => k_is)
    (case b10O => k_is)
    (case b11O => k_is)
    (case b12O => rfl)
    (case b13O => first | rfl | decide +kernel)
    (case b17O => k_is)
    (case b18O => k_is)
    (case b19O => k_is)
    (case b25O => k_is)
    (case b26O => k_is)
    (case aG => k_is)
    (case xG => k_is)
    (case rG => decide +kernel)
    (case b1G => k_is)
    (case q1G => k_is)
    (case q2G => k_is)
    (case q3G => k_is)
    (case b4G => k_is)
    (case b5G => k_is)
    (case b6G => k_is)
    (case lG => k_is)
    (case cG => k_is)
    (case kG => k_is)
    (case eG => k_is)
    (case b7G => ks_is)
    (case b8G => k_is)
    (case b10G => k_is)
    (case b11G => k_is)
    (case b12G => rfl)
    (case b13G => first | rfl | decide +kernel)
    (case b15G => k_is)
    (case b17G => k_is)
    (case b18G => k_is)
    (case b19G => k_is)
    (case b25G => k_is)
    (case b26G => k_is)
    (case aN => k_is)
    (case xN => k_is)
    (case rN => decide +kernel)
    (case b1N => k_is)
    (case q1N => k_is)
    (case q2N => k_is)
    (case q3N => k_is)
    (case b4N => k_is)
    (case b5N => k_is)
    (case b6N => k_is)
    (case lN => k_is)
    (case cN => k_is)
    (case kN => k_is)
    (case eN => k_is)
    (case b7N => ks_is)
    (case b8N => k_is)
    (case b10N => k_is)
    (case b11N => k_is)
    (case b12N => rfl)
    (case b13N => first | rfl | decide +kernel)
    (case b15N => k_is)
    (case b17N => k_is)
    (case b18N => k_is)
    (case b19N => k_is)
    (case b25N => k_is)
    (case b26N => k_is)
    (case aE => k_is)
    (case xE => k_is)
    (case rE => decide +kernel)
    (case b1E => k_is)
    (case q1E => k_is)
    (case q2E => k_is)
    (case q3E => k_is)
    (case b4E => k_is)
    (case b5E => k_is)
    (case b6E => k_is)
    (case lE => k_is)
    (case cE => k_is)
    (case kE => k_is)
    (case eE => k_is)
    (case b7E => ks_is)
    (case b8E => k_is)
    (case b10E => k_is)
    (case b11E => k_is)
    (case b12E => rfl)
    (case b13E => first | rfl | decide +kernel)
    (case b15E => k_is)
    (case b17E => k_is)
    (case b18E => k_is)
    (case b19E => k_is)
    (case b25E => k_is)
    (case b26E => k_is)
    (case aC => k_is)
    (case q1C => k_is)
    (case q2C => k_is)
    (case q3C => k_is)
    (case sOC => first | rfl | k_is)
    (case sOE => first | rfl | k_is)
    (case sON => first | rfl | k_is)
    (case sEE => first | rfl | k_is)
    (case sEC => first | rfl | k_is)
    (case sEN => first | rfl | k_is)
    (case sEO => first | rfl | k_is)
    (case sGG => first | rfl | k_is)
    (case sNG => first | rfl | k_is)
    (case sNN => first | rfl | k_is)
    (case sEG => first | rfl | k_is)
    (case eOE => decide +kernel)
    (case eON => decide +kernel)
    (case eEC => decide +kernel)
    (case eEN => decide +kernel)
    (case eEO => decide +kernel)
    (case aT => k_is)
    (case p1T => k_is)
    (case p2T => k_is)
    (case p3T => k_is)
    (case p4T => k_is)
    (case n0T => k_is)
    (case n1T => k_is)
    (case p9T => k_is)
    (case p5T => k_is)
    (case p6T => k_is)
    (case haT => k_is)
    (case hmT => k_is)
    (case mTI => k_is)
    (case hTI => k_is)
    (case lTI => k_is)
    (case cTI => k_is)
    (case kTI => k_is)
    (case mTN => k_is)
    (case hTN => k_is)
    (case lTN => k_is)
    (case cTN => k_is)
    (case kTN => k_is)
    (case mTT => k_is)
    (case hTT => k_is)
    (case lTT => k_is)
    (case cTT => k_is)
    (case kTT => k_is)
    (case mTG => k_is)
    (case hTG => k_is)
    (case lTG => k_is)
    (case cTG => k_is)
    (case kTG => k_is)
    (case mTC => k_is)
    (case hTC => k_is)
    (case lTC => k_is)
    (case cTC => k_is)
    (case kTC => k_is)
    (case mTA => k_is)
    (case hTA => k_is)
    (case lTA => k_is)
    (case cTA => k_is)
    (case kTA => k_is)
    (case mTO => k_is)
    (case hTO => k_is)
    (case lTO => k_is)
    (case cTO => k_is)
    (case kTO => k_is)
    (case mTS => k_is)
    (case hTS => k_is)
    (case lTS => k_is)
    (case cTS => k_is)
    (case kTS => k_is)
    (case mTK => k_is)
    (case hTK => k_is)
    (case lTK => k_is)
    (case cTK => k_is)
    (case kTK => k_is)
    (case vD => k_is)
    (case uD => exact rfl)
    (case vE => k_is)
    (case uE => exact rfl)
    (case iTG => k_is)

